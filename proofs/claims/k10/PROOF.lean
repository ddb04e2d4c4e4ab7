import PyProof.Rows.All
import Wide.All
import OpenK.AllK
import Wide.FinOn
import HandS.ForMost
import HandS.IsInst
import HandS.Wide
import HandS.Evl
import HandS.DictComp
import HandS.Conv
import HandS.More
import HandS.Deep
import HandS.ForExc
import HandS.ExcInit
import HandS.ExcField
import HandS.ExcIs
import HandS.Property
import KE.KExcIs
import HandS.NoneIn
import HandS.DeepEq
import HandS.Finally
import HandS.CallSlots
import HandS.Walk
import HandS.DictTup
import HandS.Iter
import HandS.TupLen
import PyProof.DictMoreH
import HandS.Rev
import HandS.Codes
import KE.DataCmp
import KE.SortKeyHeap
import HandS.SortKw
import KE.KEqNest
import HandS.DictEq
import HandS.TupAny
import HandS.Conv
import KE.KeyNested
import KE.KDictKeyed
import KE.KCallOwn
import HandS.Defaults
import PySem.Challenge.RW_cappedcalls_k10_answers_of_calls
set_option Elab.async false
set_option linter.all false
set_option maxRecDepth 100000
set_option maxHeartbeats 4000000
namespace SK
open PySem PySem.SeqAt PySem.W PySem.Calls PyProof.Rows
/-! ### one tuple below another: only the first place that differs has to be asked -/
theorem tup_lt1 (l b : Addr) (us ws : Array Value) (n1 n2 : Nat) (d1 d2 : Option Addr) (t1 t2 : Array (Option Value)) (e r : Nat → Bool) :
    Meets (Builtin.«tuple.__lt__» ⟨[.ref l, .ref b], []⟩) (fun A R s =>
      (s.heap.get? l = some { cls := .type "tuple", dict := d1, data := .seq us n1, slots := t1 } ∧ s.heap.get? b = some { cls := .type "tuple", dict := d2, data := .seq ws n2, slots := t2 }) ∧
      (∀ j (x1 : j < us.size) (x2 : j < ws.size), EqAt A.in1 s us[j] ws[j] (e j)) ∧
      (∀ j (x1 : j < us.size) (x2 : j < ws.size), (∀ k, k < j → e k = true) → e j = false → RcLt A.in1 s us[j] ws[j] (r j)) ∧
      R (.ok (.ret (.bool (firstLt e r (decide (us.size < ws.size)) (List.range (min us.size ws.size)))))) s) := by
  refine .of_wp fun prog w A R s h => ?_
  obtain ⟨hp, g, d, tk, os⟩ := s
  obtain ⟨⟨hl, hb⟩, he, hr, h⟩ := h
  have sub := AutoSeq1.sub_tuple_tuple
  have len : (us.toList.zip ws.toList).length = min us.size ws.size := by simp
  wp_walk using wpAny_loadPart' hl, wpAny_loadPart' hb, wpAny_forIn_list _ (fun left b s' => (b.1 = none ∧ s' = ⟨hp, g, d, tk, os⟩) ∧ ∃ i, (left = (us.toList.zip ws.toList).drop i ∧ ∀ k, k < i → e k = true) ∧
    R (.ok (.ret (.bool (firstLt e r (decide (us.size < ws.size)) ((List.range (min us.size ws.size)).drop i))))) ⟨hp, g, d, tk, os⟩) _
  case turn =>
    rintro ⟨y, x⟩ left b s' ⟨⟨b0, rfl⟩, i, ⟨hz, hk⟩, hR⟩
    have lt : i < (us.toList.zip ws.toList).length := by
      refine Nat.lt_of_not_le fun q => ?_
      rw [List.drop_of_length_le q] at hz
      cases hz
    have lm : i < min us.size ws.size := by omega
    have x1 : i < us.size := by omega
    have x2 : i < ws.size := by omega
    rw [List.drop_eq_getElem_cons lt] at hz
    injection hz with z1 z2
    have ey : y = us[i] := by simpa using congrArg Prod.fst z1
    have ex : x = ws[i] := by simpa using congrArg Prod.snd z1
    subst ey ex
    rw [show (List.range (min us.size ws.size)).drop i = i :: (List.range (min us.size ws.size)).drop (i + 1) by simp [List.drop_eq_getElem_cons, lm]] at hR
    refine wpAny_bind (he i x1 x2 prog w _ _ ?_)
    cases q : e i with
    | true =>
      rw [firstLt_yes q] at hR
      wp_walk
      exact ⟨⟨rfl, rfl⟩, i + 1, ⟨z2, fun k hki => by
        rcases Nat.lt_succ_iff_lt_or_eq.mp hki with h | h
        · exact hk k h
        · rw [h]
          exact q⟩, hR⟩
    | false =>
      rw [firstLt_no q] at hR
      have hr' : ∀ (E Q : Value → Shared → Prop), Q (.bool (r i)) ⟨hp, g, d, tk, os⟩ → wpAny (model prog w) A.in1 (richCompare .Lt us[i] ws[i]) Q E ⟨hp, g, d, tk, os⟩ := fun E Q => hr i x1 x2 hk q prog w E Q
      generalize richCompare .Lt us[i] ws[i] = m at hr' ⊢
      wp_walk
      refine hr' _ _ ?_
      wp_walk
      exact ⟨_, rfl, hR⟩
  case fin =>
    rintro ⟨b1, b2⟩ s' ⟨⟨b0, rfl⟩, i, ⟨hz, _⟩, hR⟩
    simp only at b0
    subst b0
    have ge : min us.size ws.size ≤ i := by
      refine Nat.le_of_not_lt fun q => ?_
      rw [← len] at q
      rw [List.drop_eq_getElem_cons q] at hz
      cases hz
    rw [List.drop_of_length_le (by simpa using ge)] at hR
    wp_walk
    exact ⟨_, rfl, by simpa [Builtin.Tuple.tupleCompareSizes, firstLt] using hR⟩
  case h => exact ⟨⟨rfl, rfl⟩, 0, ⟨rfl, fun k hk => absurd hk (Nat.not_lt_zero k)⟩, by simpa using h⟩
section
variable {A : Around} {s : Shared}
theorem rc_tups {l b : Addr} {us ws : Array Value} {e r : Nat → Bool} (hl : s.heap.IsTuple l us) (hb : s.heap.IsTuple b ws) (hu : A.units < cLine)
    (he : ∀ j (x1 : j < us.size) (x2 : j < ws.size), EqAt A.in1 s us[j] ws[j] (e j)) (hr : ∀ j (x1 : j < us.size) (x2 : j < ws.size), (∀ k, k < j → e k = true) → e j = false → RcLt A.in1 s us[j] ws[j] (r j)) :
    RcLt A s (.ref l) (.ref b) (firstLt e r (decide (us.size < ws.size)) (List.range (min us.size ws.size))) := fun prog w E Q h => by
  obtain ⟨⟨c1, d1, x1, t1⟩, o1, h1, n1, k1⟩ := id hl
  obtain ⟨⟨c2, d2, x2, t2⟩, o2, h2, n2, k2⟩ := id hb
  simp only at h1 k1 h2 k2
  subst h1 k1 h2 k2
  exact richCompare_meets_room (op := .Lt) ⟨_, o1, rfl⟩ ⟨_, o2, rfl⟩ F.slot_tuple_lt F.entry_tuple_lt (F.args_tuple_lt_2 _ _) (tup_lt1 l b us ws n1 n2 d1 d2 t1 t2 e r) ⟨⟨o1, o2⟩, he, hr, (fun z => nomatch z), h⟩ hu
theorem call_tups {prog : Program} {w : World} {E Q : Value → Shared → Prop} {l b : Addr} {us ws : Array Value} {e r : Nat → Bool} (hl : s.heap.IsTuple l us) (hb : s.heap.IsTuple b ws)
    (he : ∀ j (x1 : j < us.size) (x2 : j < ws.size), EqAt A.in1 s us[j] ws[j] (e j)) (hr : ∀ j (x1 : j < us.size) (x2 : j < ws.size), (∀ k, k < j → e k = true) → e j = false → RcLt A.in1 s us[j] ws[j] (r j))
    (h : Q (.bool (firstLt e r (decide (us.size < ws.size)) (List.range (min us.size ws.size)))) s) : wpAny (model prog w) A (call (.builtin "tuple.__lt__") [.ref l, .ref b]) Q E s := by
  obtain ⟨⟨c1, d1, x1, t1⟩, o1, h1, n1, k1⟩ := id hl
  obtain ⟨⟨c2, d2, x2, t2⟩, o2, h2, n2, k2⟩ := id hb
  simp only at h1 k1 h2 k2
  subst h1 k1 h2 k2
  exact call_meets F.slot_tuple_lt ⟨_, o1, rfl⟩ F.entry_tuple_lt (F.args_tuple_lt_2 _ _) (tup_lt1 l b us ws n1 n2 d1 d2 t1 t2 e r) ⟨⟨o1, o2⟩, he, hr, h⟩
end
/-! ### data that can be asked for their order -/
mutual
def okLt : PyData → PyData → Bool
  | .bool _, .bool _ => true
  | .int _, .int _ => true
  | .str _, .str _ => true
  | .tuple xs, .tuple ys => okAll xs ys
  | _, _ => false
def okAll : List PyData → List PyData → Bool
  | x :: xs, y :: ys => if PyData.eqv x y = true then okAll xs ys else okLt x y
  | [], _ => true
  | _ :: _, [] => true
end
mutual
def ltD : PyData → PyData → Bool
  | .bool a, .bool b => decide (b2i a < b2i b)
  | .int a, .int b => decide (a < b)
  | .str x, .str y => decide (x.cps.toList < y.cps.toList)
  | .tuple xs, .tuple ys => ltAll xs ys
  | _, _ => false
def ltAll : List PyData → List PyData → Bool
  | x :: xs, y :: ys => if PyData.eqv x y = true then ltAll xs ys else ltD x y
  | [], _ :: _ => true
  | [], [] => false
  | _ :: _, [] => false
end
theorem okAll_at : ∀ (xs ys : List PyData) (j : Nat), okAll xs ys = true → (∀ k, k < j → pairEq xs ys k = true) → pairEq xs ys j = false → j < xs.length → j < ys.length → okLt (xs.getD j .none) (ys.getD j .none) = true
  | [], _, _, _, _, _, h, _ => absurd h (Nat.not_lt_zero _)
  | _ :: _, [], _, _, _, _, _, h => absurd h (Nat.not_lt_zero _)
  | x :: xs, y :: ys, 0, h, _, q, _, _ => by
    have q' : PyData.eqv x y = false := q
    simp only [okAll, q', Bool.false_eq_true, if_false] at h
    exact h
  | x :: xs, y :: ys, j + 1, h, hk, q, h1, h2 => by
    have q' : PyData.eqv x y = true := hk 0 (Nat.succ_pos j)
    simp only [okAll, q', if_true] at h
    exact okAll_at xs ys j h (fun k hkj => hk (k + 1) (Nat.succ_lt_succ hkj)) q (Nat.lt_of_succ_lt_succ h1) (Nat.lt_of_succ_lt_succ h2)
theorem first_all : ∀ (xs ys : List PyData), firstLt (pairEq xs ys) (fun j => ltD (xs.getD j .none) (ys.getD j .none)) (decide (xs.length < ys.length)) (List.range (min xs.length ys.length)) = ltAll xs ys
  | [], [] => rfl
  | [], _ :: _ => by simp [firstLt, ltAll]
  | _ :: _, [] => by simp [firstLt, ltAll]
  | x :: xs, y :: ys => by
    have ih := first_all xs ys
    rw [show min (x :: xs).length (y :: ys).length = min xs.length ys.length + 1 by rw [List.length_cons, List.length_cons]; omega,
      show decide ((x :: xs).length < (y :: ys).length) = decide (xs.length < ys.length) by rw [List.length_cons, List.length_cons]; exact decide_eq_decide.mpr (by omega), List.range_succ_eq_map]
    cases q : PyData.eqv x y with
    | true =>
      rw [firstLt_yes (show pairEq (x :: xs) (y :: ys) 0 = true from q), firstLt_map]
      simp only [ltAll, q, if_true]
      exact ih
    | false =>
      rw [firstLt_no (show pairEq (x :: xs) (y :: ys) 0 = false from q)]
      simp only [ltAll, q, Bool.false_eq_true, if_false]
      rfl
mutual
theorem rc_ok : ∀ (da db : PyData) (A : Around) (s : Shared) (a b : Value) (as bs : List Addr), Reads s.heap a da as → Reads s.heap b db bs → da.canLay0 = true → db.canLay0 = true → okLt da db = true → A.units + min da.depth db.depth < cLine → RcLt A s a b (ltD da db)
  | .bool x, .bool y, A, s, a, b, as, bs, ra, rb, _, _, _, _ => by
    cases ra
    cases rb
    exact fun prog w E Q hq => lt_bool hq
  | .int x, .int y, A, s, a, b, as, bs, ra, rb, _, _, _, _ => by
    cases ra
    cases rb
    exact fun prog w E Q hq => P.lt_int hq
  | .str x, .str y, A, s, a, b, as, bs, ra, rb, _, _, _, _ => by
    cases ra
    cases rb
    exact fun prog w E Q hq => P.lt_str hq
  | .tuple xs, .tuple ys, A, s, a, b, as, bs, ra, rb, la, lb, h, hu => by
    have hok : okAll xs ys = true := by simpa [okLt] using h
    have la' : PyData.canLayAll0 xs = true := by simpa [PyData.canLay0] using la
    have lb' : PyData.canLayAll0 ys = true := by simpa [PyData.canLay0] using lb
    cases ra with
    | @tuple l o us n _ as₁ h1 h2 h3 h4 =>
      cases rb with
      | @tuple l' o' ws n' _ bs₁ k1 k2 k3 k4 =>
        have n1 : us.size = xs.length := by simpa using ReadsAll.length _ _ _ h4
        have n2 : ws.size = ys.length := by simpa using ReadsAll.length _ _ _ k4
        show RcLt A s (.ref l) (.ref l') (ltAll xs ys)
        rw [← first_all xs ys, ← n1, ← n2]
        refine rc_tups ⟨_, h1, h2, _, h3⟩ ⟨_, k1, k2, _, k3⟩ (room_here hu) (fun j j1 j2 => ?_) fun j j1 j2 hk hj => ?_
        · have := eqAt_readsAll xs ys A.in1 s us.toList ws.toList _ _ h4 k4 la' lb' (room_in hu) j (by simpa using j1) (by simpa using j2)
          simpa using this
        · have := rc_okAll xs ys A.in1 s us.toList ws.toList _ _ h4 k4 la' lb' (room_in hu) j (by simpa using j1) (by simpa using j2) (okAll_at xs ys j hok hk hj (by omega) (by omega))
          simpa using this
  | .none, _, _, _, _, _, _, _, _, _, _, _, h, _ => absurd h (by simp [okLt])
  | .list _, _, _, _, _, _, _, _, _, _, _, _, h, _ => absurd h (by simp [okLt])
  | .dict _, _, _, _, _, _, _, _, _, _, _, _, h, _ => absurd h (by simp [okLt])
  | .bool _, .none, _, _, _, _, _, _, _, _, _, _, h, _ => absurd h (by simp [okLt])
  | .bool _, .int _, _, _, _, _, _, _, _, _, _, _, h, _ => absurd h (by simp [okLt])
  | .bool _, .str _, _, _, _, _, _, _, _, _, _, _, h, _ => absurd h (by simp [okLt])
  | .bool _, .list _, _, _, _, _, _, _, _, _, _, _, h, _ => absurd h (by simp [okLt])
  | .bool _, .tuple _, _, _, _, _, _, _, _, _, _, _, h, _ => absurd h (by simp [okLt])
  | .bool _, .dict _, _, _, _, _, _, _, _, _, _, _, h, _ => absurd h (by simp [okLt])
  | .int _, .none, _, _, _, _, _, _, _, _, _, _, h, _ => absurd h (by simp [okLt])
  | .int _, .bool _, _, _, _, _, _, _, _, _, _, _, h, _ => absurd h (by simp [okLt])
  | .int _, .str _, _, _, _, _, _, _, _, _, _, _, h, _ => absurd h (by simp [okLt])
  | .int _, .list _, _, _, _, _, _, _, _, _, _, _, h, _ => absurd h (by simp [okLt])
  | .int _, .tuple _, _, _, _, _, _, _, _, _, _, _, h, _ => absurd h (by simp [okLt])
  | .int _, .dict _, _, _, _, _, _, _, _, _, _, _, h, _ => absurd h (by simp [okLt])
  | .str _, .none, _, _, _, _, _, _, _, _, _, _, h, _ => absurd h (by simp [okLt])
  | .str _, .bool _, _, _, _, _, _, _, _, _, _, _, h, _ => absurd h (by simp [okLt])
  | .str _, .int _, _, _, _, _, _, _, _, _, _, _, h, _ => absurd h (by simp [okLt])
  | .str _, .list _, _, _, _, _, _, _, _, _, _, _, h, _ => absurd h (by simp [okLt])
  | .str _, .tuple _, _, _, _, _, _, _, _, _, _, _, h, _ => absurd h (by simp [okLt])
  | .str _, .dict _, _, _, _, _, _, _, _, _, _, _, h, _ => absurd h (by simp [okLt])
  | .tuple _, .none, _, _, _, _, _, _, _, _, _, _, h, _ => absurd h (by simp [okLt])
  | .tuple _, .bool _, _, _, _, _, _, _, _, _, _, _, h, _ => absurd h (by simp [okLt])
  | .tuple _, .int _, _, _, _, _, _, _, _, _, _, _, h, _ => absurd h (by simp [okLt])
  | .tuple _, .str _, _, _, _, _, _, _, _, _, _, _, h, _ => absurd h (by simp [okLt])
  | .tuple _, .list _, _, _, _, _, _, _, _, _, _, _, h, _ => absurd h (by simp [okLt])
  | .tuple _, .dict _, _, _, _, _, _, _, _, _, _, _, h, _ => absurd h (by simp [okLt])
theorem rc_okAll : ∀ (xs ys : List PyData) (A : Around) (s : Shared) (vs ws : List Value) (as bs : List Addr), ReadsAll s.heap vs xs as → ReadsAll s.heap ws ys bs → PyData.canLayAll0 xs = true → PyData.canLayAll0 ys = true → A.units + min (PyData.depthAll xs) (PyData.depthAll ys) < cLine →
    ∀ j (h1 : j < vs.length) (h2 : j < ws.length), okLt (xs.getD j .none) (ys.getD j .none) = true → RcLt A s vs[j] ws[j] (ltD (xs.getD j .none) (ys.getD j .none))
  | [], _, _, _, _, _, _, _, ra, _, _, _, _, j, h1, _, _ => by
    cases ra
    exact absurd h1 (Nat.not_lt_zero _)
  | _ :: _, [], _, _, _, _, _, _, _, rb, _, _, _, j, _, h2, _ => by
    cases rb
    exact absurd h2 (Nat.not_lt_zero _)
  | x :: xs, y :: ys, A, s, _, _, _, _, ra, rb, la, lb, hu, j, h1, h2, hok => by
    have la' : x.canLay0 = true ∧ PyData.canLayAll0 xs = true := by simpa [PyData.canLayAll0] using la
    have lb' : y.canLay0 = true ∧ PyData.canLayAll0 ys = true := by simpa [PyData.canLayAll0] using lb
    cases ra with
    | cons r rs =>
      cases rb with
      | cons r' rs' =>
        cases j with
        | zero => exact rc_ok x y A s _ _ _ _ r r' la'.1 lb'.1 hok (room_head hu)
        | succ j => exact rc_okAll xs ys A s _ _ _ _ rs rs' la'.2 lb'.2 (room_tail hu) j (Nat.lt_of_succ_lt_succ h1) (Nat.lt_of_succ_lt_succ h2) hok
end
end SK
namespace SK
open PySem PySem.SeqAt PySem.W PySem.Calls PyProof.Rows
mutual
theorem alike_self : ∀ d : PyData, d.canLay0 = true → alike d d = true
  | .none, _ => rfl
  | .bool _, _ => rfl
  | .int _, _ => rfl
  | .str _, _ => rfl
  | .list xs, h => by
    show alikeAll xs xs = true
    exact alike_selfs xs (by simpa [PyData.canLay0] using h)
  | .tuple xs, h => by
    show alikeAll xs xs = true
    exact alike_selfs xs (by simpa [PyData.canLay0] using h)
  | .dict _, h => absurd h (by simp [PyData.canLay0])
theorem alike_selfs : ∀ ds : List PyData, PyData.canLayAll0 ds = true → alikeAll ds ds = true
  | [], _ => rfl
  | d :: ds, h => by
    have h' : d.canLay0 = true ∧ PyData.canLayAll0 ds = true := by simpa [PyData.canLayAll0] using h
    show (alike d d && alikeAll ds ds) = true
    rw [alike_self d h'.1, alike_selfs ds h'.2]
    rfl
end
mutual
theorem reads_one {h : Heap} : ∀ (d d' : PyData) (v : Value) (as as' : List Addr), d.canLay0 = true → d'.canLay0 = true → Reads h v d as → Reads h v d' as' → d = d'
  | .none, _, _, _, _, _, _, r, r' => by
    cases r
    cases r'
    rfl
  | .bool _, _, _, _, _, _, _, r, r' => by
    cases r
    cases r'
    rfl
  | .int _, _, _, _, _, _, _, r, r' => by
    cases r
    cases r'
    rfl
  | .str _, _, _, _, _, _, _, r, r' => by
    cases r
    cases r'
    rfl
  | .list xs, d', _, _, _, l, l', r, r' => by
    cases r with
    | list h1 h2 h3 h4 =>
      cases r' with
      | list k1 k2 k3 k4 =>
        rw [h1] at k1
        cases k1
        rw [h3] at k3
        cases k3
        rw [reads_ones xs _ _ _ _ (by simpa [PyData.canLay0] using l) (by simpa [PyData.canLay0] using l') h4 k4]
      | tuple k1 k2 k3 k4 =>
        rw [h1] at k1
        cases k1
        rw [h2] at k2
        exact absurd k2 (by simp)
      | dict k1 => exact absurd l' (by simp [PyData.canLay0])
  | .tuple xs, d', _, _, _, l, l', r, r' => by
    cases r with
    | tuple h1 h2 h3 h4 =>
      cases r' with
      | tuple k1 k2 k3 k4 =>
        rw [h1] at k1
        cases k1
        rw [h3] at k3
        cases k3
        rw [reads_ones xs _ _ _ _ (by simpa [PyData.canLay0] using l) (by simpa [PyData.canLay0] using l') h4 k4]
      | list k1 k2 k3 k4 =>
        rw [h1] at k1
        cases k1
        rw [h2] at k2
        exact absurd k2 (by simp)
      | dict k1 => exact absurd l' (by simp [PyData.canLay0])
  | .dict _, _, _, _, _, l, _, _, _ => absurd l (by simp [PyData.canLay0])
theorem reads_ones {h : Heap} : ∀ (ds ds' : List PyData) (vs : List Value) (as as' : List Addr), PyData.canLayAll0 ds = true → PyData.canLayAll0 ds' = true → ReadsAll h vs ds as → ReadsAll h vs ds' as' → ds = ds'
  | [], _, _, _, _, _, _, r, r' => by
    cases r
    cases r'
    rfl
  | d :: ds, _, _, _, _, l, l', r, r' => by
    cases r with
    | cons h1 h2 =>
      cases r' with
      | cons k1 k2 =>
        have q : d.canLay0 = true ∧ PyData.canLayAll0 ds = true := by simpa [PyData.canLayAll0] using l
        have q' := l'
        simp only [PyData.canLayAll0, Bool.and_eq_true] at q'
        rw [reads_one d _ _ _ _ q.1 q'.1 h1 k1, reads_ones ds _ _ _ _ q.2 q'.2 h2 k2]
end
/-! ### keys that are tuples, ordered by tokens -/
abbrev Tok' := PyData → List (Int ⊕ List Nat)
noncomputable def kk (h : Heap) (ds : List PyData) (tok : Tok') : PyProof.Rows.KeyKind where
  toKeyOrd := listOrd itemOrd
  keyOf v := open Classical in if q : ∃ d, d ∈ ds ∧ ∃ as, Reads h v d as then some (tok q.choose) else none
  dflt := ([] : List (Int ⊕ List Nat))
/-- the keys are tuples that can be asked for their order, and the tokens tell it -/
structure Keys (ds : List PyData) (tok : Tok') : Prop where
  lay : ∀ d ∈ ds, d.canLay0 = true
  tup : ∀ d ∈ ds, ∃ xs, d = .tuple xs
  ok : ∀ d ∈ ds, ∀ d' ∈ ds, okLt d d' = true
  lt : ∀ d ∈ ds, ∀ d' ∈ ds, ltD d d' = PyProof.Rows.lexLt itemOrd (tok d) (tok d')
  ty : ∀ x r y t, PyData.tuple (x :: r) ∈ ds → PyData.tuple (y :: t) ∈ ds → dataType x = dataType y
theorem kk_some {h : Heap} {ds : List PyData} {tok : Tok'} (hl : ∀ d ∈ ds, d.canLay0 = true) {v : Value} {d : PyData} {as : List Addr} (hd : d ∈ ds) (r : Reads h v d as) : (kk h ds tok).keyOf v = some (tok d) := by
  have q : ∃ d, d ∈ ds ∧ ∃ as, Reads h v d as := ⟨d, hd, as, r⟩
  have e : (kk h ds tok).keyOf v = some (tok q.choose) := dif_pos q
  obtain ⟨h1, as', h2⟩ := q.choose_spec
  rw [e, reads_one _ _ _ _ _ (hl _ h1) (hl _ hd) h2 r]
theorem kk_inv {h : Heap} {ds : List PyData} {tok : Tok'} {v : Value} {k : List (Int ⊕ List Nat)} (e : (kk h ds tok).keyOf v = some k) : ∃ d as, d ∈ ds ∧ Reads h v d as ∧ k = tok d := by
  by_cases q : ∃ d, d ∈ ds ∧ ∃ as, Reads h v d as
  · have e' : (kk h ds tok).keyOf v = some (tok q.choose) := dif_pos q
    obtain ⟨h1, as', h2⟩ := q.choose_spec
    rw [e'] at e
    exact ⟨_, as', h1, h2, (Option.some.inj e).symm⟩
  · have e' : (kk h ds tok).keyOf v = none := dif_neg q
    rw [e'] at e
    cases e
section
variable {prog : Program} {w : World} {A : Around} {E : Value → Shared → Prop} {s : Shared}
theorem one_ok {f : Bool} {da db : PyData} {a b : Value} {as bs : List Addr} {Q : Bool → Shared → Prop} (ra : Reads s.heap a da as) (rb : Reads s.heap b db bs) (la : da.canLay0 = true) (lb : db.canLay0 = true) (h : okLt da db = true)
    (hu : A.units + min da.depth db.depth < cLine) (hq : Q (ltD da db) s) : wpAny (model prog w) A (oneLt' f a b) Q E s := by
  cases f with
  | false =>
    rw [oneLt'_eq]
    simp only [Bool.false_eq_true, if_false]
    exact wpAny_bind (rc_ok da db A s a b as bs ra rb la lb h hu prog w E _ (wpAny_truthy_bool hq))
  | true =>
    cases da <;> cases db <;> first | (simp [okLt] at h; done) | skip
    · cases ra
      cases rb
      exact oneLt_bool hq
    · cases ra
      cases rb
      exact oneLt_int hq
    · cases ra
      cases rb
      exact oneLt_str hq
    · rename_i xs ys
      have hok : okAll xs ys = true := by simpa [okLt] using h
      have la' : PyData.canLayAll0 xs = true := by simpa [PyData.canLay0] using la
      have lb' : PyData.canLayAll0 ys = true := by simpa [PyData.canLay0] using lb
      cases ra with
      | @tuple l o us n _ as₁ h1 h2 h3 h4 =>
        cases rb with
        | @tuple l' o' ws n' _ bs₁ k1 k2 k3 k4 =>
          have n1 : us.size = xs.length := by simpa using ReadsAll.length _ _ _ h4
          have n2 : ws.size = ys.length := by simpa using ReadsAll.length _ _ _ k4
          have hq : Q (ltAll xs ys) s := hq
          rw [← first_all xs ys, ← n1, ← n2] at hq
          rw [oneLt'_eq]
          simp only [if_true]
          refine wpAny_bind (wpAny_cRoomFor (room_here hu) ?_)
          refine wpAny_bind (wpAny_callSpecialIfBound?_slot (T := "tuple") ⟨_, h1, h2⟩ F.slot_tuple_lt (call_tups (e := pairEq xs ys) (r := fun j => ltD (xs.getD j .none) (ys.getD j .none)) ⟨_, h1, h2, _, h3⟩ ⟨_, k1, k2, _, k3⟩ (fun j j1 j2 => ?_) (fun j j1 j2 hk hj => ?_) ?_))
          · have := eqAt_readsAll xs ys A.in1 s us.toList ws.toList _ _ h4 k4 la' lb' (room_in hu) j (by simpa using j1) (by simpa using j2)
            simpa using this
          · have := rc_okAll xs ys A.in1 s us.toList ws.toList _ _ h4 k4 la' lb' (room_in hu) j (by simpa using j1) (by simpa using j2) (okAll_at xs ys j hok hk hj (by omega) (by omega))
            simpa using this
          · exact wpAny_truthy_bool hq
theorem katLex_ok {b fin : Bool} {Q : Bool → Shared → Prop} : ∀ (xs ys : List PyData) (i : Nat) (vs ws : List Value) (as bs : List Addr), ReadsAll s.heap vs xs as → ReadsAll s.heap ws ys bs → PyData.canLayAll0 xs = true → PyData.canLayAll0 ys = true → okAll xs ys = true →
    A.units + min (PyData.depthAll xs) (PyData.depthAll ys) < cLine → fin = decide (xs.length < ys.length) → Q (ltAll xs ys) s → KatLex prog w A b fin Q (vs.zip ws) i s
  | [], [], i, _, _, _, _, ra, rb, _, _, _, _, hf, hq => by
    cases ra
    cases rb
    have e : fin = false := by rw [hf]; rfl
    subst e
    exact kat_nil hq
  | [], y :: ys, i, _, _, _, _, ra, rb, _, _, _, _, hf, hq => by
    cases ra
    have e : fin = true := by rw [hf]; exact decide_eq_true (Nat.succ_pos _)
    subst e
    rw [List.zip_nil_left]
    exact kat_nil hq
  | x :: xs, [], i, _, _, _, _, ra, rb, _, _, _, _, hf, hq => by
    cases rb
    have e : fin = false := by rw [hf]; exact decide_eq_false (Nat.not_lt_zero _)
    subst e
    rw [List.zip_nil_right]
    exact kat_nil hq
  | x :: xs, y :: ys, i, _, _, _, _, ra, rb, la, lb, h, hu, hf, hq => by
    have la' : x.canLay0 = true ∧ PyData.canLayAll0 xs = true := by simpa [PyData.canLayAll0] using la
    have lb' : y.canLay0 = true ∧ PyData.canLayAll0 ys = true := by simpa [PyData.canLayAll0] using lb
    have hf' : fin = decide (xs.length < ys.length) := by
      rw [hf]
      simp only [List.length_cons, Nat.add_lt_add_iff_right]
    cases ra with
    | cons r rs =>
      cases rb with
      | cons r' rs' =>
        rw [List.zip_cons_cons]
        refine kat_cons (eqAt_reads x y A s _ _ _ _ r r' la'.1 lb'.1 (room_head hu) prog w _ _ ?_)
        cases hx : PyData.eqv x y with
        | true =>
          simp only [okAll, ltAll, hx, if_true] at h hq
          exact kat_yes (katLex_ok xs ys (i + 1) _ _ _ _ rs rs' la'.2 lb'.2 h (room_tail hu) hf' hq)
        | false =>
          simp only [okAll, ltAll, hx, Bool.false_eq_true, if_false] at h hq
          exact kat_no (one_ok r r' la'.1 lb'.1 h (room_head hu) hq)
end
end SK
namespace SK
open PySem PySem.SeqAt PySem.W PySem.Calls PyProof.Rows
section
variable {prog : Program} {w : World} {A : Around} {E : Value → Shared → Prop} {s : Shared}
/-- what firstOfTuple gives, key by key -/
theorem kFirsts : ∀ {vs : List Value} {ds : List PyData}, EachIs (fun v d => ∃ as, Reads s.heap v d as) vs ds → (∀ d ∈ ds, ∃ xs, d = PyData.tuple xs) → ∃ os : List (Option Value), os.length = vs.length ∧
    (∀ (M : Model) (A : Around) (E : Value → Shared → Prop) (Q : List (Option Value) → Shared → Prop), Q os s → wpAny M A (vs.mapM firstOfTuple') Q E s) ∧ ∀ (i : Nat) (o : Option Value), os[i]? = some o → ∃ xs, ds[i]? = some (PyData.tuple xs) ∧ (o = none ↔ xs = [])
  | _, _, .nil, _ => ⟨[], rfl, fun M A E Q h => by rw [List.mapM_nil]; exact wpAny_pure h, fun i o h => by cases h⟩
  | _, _, .cons (a := v) (b := d) (as := vs) (bs := ds) ⟨as, r⟩ t, ht => by
    obtain ⟨os, h1, h2, h3⟩ := kFirsts t fun d hd => ht d (List.mem_cons_of_mem _ hd)
    obtain ⟨xs, rfl⟩ := ht d List.mem_cons_self
    cases r with
    | @tuple a o us n _ _ ho hc hd hr =>
      refine ⟨us[0]? :: os, by rw [List.length_cons, List.length_cons, h1], fun M A E Q h => ?_, fun i o' e => ?_⟩
      · rw [List.mapM_cons]
        refine wpAny_bind ?_
        rw [kas_first_eq]
        refine wpAny_bind (Looks.here (show Looks M s.heap (typeOf (.ref a)) o.cls from (Looks.ld ho).andThen .now) ?_)
        rw [hc, if_neg (by first | decide | simp)]
        refine wpAny_bind (listItems_at ho hd (wpAny_pure ?_))
        exact wpAny_bind (h2 M A E (fun bs s' => wpAny M A (pure (us[0]? :: bs)) Q E s') (wpAny_pure h))
      · cases i with
        | zero =>
          have e' : o' = us[0]? := (Option.some.inj e).symm
          refine ⟨xs, rfl, ?_⟩
          rw [e', ← Array.getElem?_toList]
          cases q : us.toList with
          | nil =>
            rw [q] at hr
            cases hr
            simp
          | cons f fr =>
            rw [q] at hr
            cases hr
            simp
        | succ i => exact h3 i o' e
theorem kFulls : ∀ {vs : List Value} {ds : List PyData}, EachIs (fun v d => ∃ as, Reads s.heap v d as) vs ds → (∀ d ∈ ds, ∃ x r, d = .tuple (x :: r)) → ∃ fs, KatTups s.heap vs fs ∧ fs.length = vs.length ∧ ∀ f ∈ fs, ∃ x r as, PyData.tuple (x :: r) ∈ ds ∧ Reads s.heap f x as :=
  fun e h => each_katTups e h
theorem kKinds {vs : List Value} {ds : List PyData} (e : EachIs (fun v d => ∃ as, Reads s.heap v d as) vs ds) (ht : ∀ d ∈ ds, ∃ xs, d = PyData.tuple xs) (hn : PyData.tuple [] ∈ ds) (h2 : 2 ≤ vs.length) :
    ∃ kd : SortKind, (kd = general' ∨ kd = oneType') ∧ ∀ (E : Value → Shared → Prop) (Q : SortKind → Shared → Prop), Q kd s → wpAny (model prog w) A (keyKind' vs.toArray) Q E s := by
  obtain ⟨os, l1, l2, l3⟩ := kFirsts e ht
  have no : none ∈ os := by
    obtain ⟨i, hi⟩ := List.mem_iff_getElem?.mp hn
    have li : i < os.length := by
      have := (List.getElem?_eq_some_iff.mp hi).1
      rw [l1, e.length]
      exact this
    obtain ⟨xs, e1, e2⟩ := l3 i os[i] (List.getElem?_eq_getElem li)
    rw [hi] at e1
    cases e1
    rw [← e2.mpr rfl]
    exact List.getElem_mem li
  have nall : (os.toArray.all fun x => x.isSome) = false := by
    rw [List.all_toArray]
    exact List.all_eq_false.mpr ⟨none, no, by simp⟩
  refine ⟨if (os.toArray[0]?.bind id).isSome = true then general' else oneType', by split <;> simp, fun E Q hq => ?_⟩
  rw [kat_kind_eq, List.mapM_toArray, map_eq_pure_bind]
  refine wpAny_bind (wpAny_bind (l2 _ _ _ _ (wpAny_pure ?_)))
  rw [if_neg (by rw [nall]; decide)]
  by_cases hg : (os.toArray[0]?.bind id).isSome = true
  · rw [if_pos hg] at hq ⊢
    exact wpAny_pure hq
  · rw [if_neg hg] at hq ⊢
    rw [oneTypeOnly'_eq, List.mapM_toArray, map_eq_pure_bind]
    have hT : ∀ v ∈ vs, Looks (model prog w) s.heap (typeOf v) (Value.type "tuple") := fun v hv => by
      obtain ⟨d, hd, as, r⟩ := e.left v hv
      obtain ⟨xs, rfl⟩ := ht d hd
      exact looks_reads r
    refine wpAny_bind (wpAny_bind (wpAny_bind (kas_mapM (r := Value.type "tuple") _ (fun v hv Q' hq => (hT v hv).here hq) (wpAny_pure ?_))))
    obtain ⟨v₁, r, rfl⟩ : ∃ v₁ r, vs = v₁ :: r := by
      cases vs with
      | nil => exact absurd h2 (by simp)
      | cons a b => exact ⟨a, b, rfl⟩
    have hall : ((List.map (fun _ => Value.type "tuple") (v₁ :: r)).toArray.all fun x => x == Value.type "tuple") = true := by
      simp only [List.all_toArray, List.all_map, List.all_eq_true]
      intro _ _
      rfl
    rw [show (List.map (fun _ => Value.type "tuple") (v₁ :: r)).toArray[0]? = some (Value.type "tuple") by simp]
    simp only [hall, if_true]
    exact wpAny_pure (wpAny_pure hq)
/-- such keys can be sorted -/
theorem sorts_at {vs : List Value} {ds : List PyData} {tok : Tok'} (K : Keys ds tok) (e : EachIs (fun v d => ∃ as, Reads s.heap v d as) vs ds) (hu : ∀ d, d ∈ ds → A.units + d.depth < cLine) : SortsAt prog w A s (kk s.heap ds tok) vs := by
  have room : ∀ {d d' : PyData}, d ∈ ds → A.units + min d.depth d'.depth < cLine := fun {d d'} hd => Nat.lt_of_le_of_lt (Nat.add_le_add_left (Nat.min_le_left _ _) _) (hu d hd)
  refine ⟨fun v hv => ?_, ?_⟩
  · obtain ⟨d, hd, as, r⟩ := e.left v hv
    exact ⟨_, kk_some K.lay hd r⟩
  have asked : ∀ (kd : SortKind), (∀ {da db : PyData} {a b : Value} {as bs : List Addr} {E : Value → Shared → Prop} {Q : Bool → Shared → Prop}, da ∈ ds → db ∈ ds → Reads s.heap a da as → Reads s.heap b db bs → Q (ltD da db) s → wpAny (model prog w) A (keyLt' kd a b) Q E s) → H.LtAt prog w A s (kk s.heap ds tok) kd := fun kd h E x y a b Q ha hb hq => by
    obtain ⟨d, as, hd, ra, rfl⟩ := kk_inv ha
    obtain ⟨d', bs, hd', rb, rfl⟩ := kk_inv hb
    refine h hd hd' ra rb ?_
    rw [K.lt d hd d' hd']
    exact hq
  by_cases hn : PyData.tuple [] ∈ ds
  · by_cases h2 : 2 ≤ vs.length
    · obtain ⟨kd, hk, hr⟩ := kKinds (prog := prog) (w := w) (A := A) e K.tup hn h2
      refine ⟨kd, asked kd fun {da db a b as bs E Q} hd hd' ra rb hq => ?_, fun _ E Q hq => hr E Q hq⟩
      rcases hk with rfl | rfl
      · exact one_ok (f := false) ra rb (K.lay _ hd) (K.lay _ hd') (K.ok _ hd _ hd') (room hd) hq
      · exact one_ok (f := true) ra rb (K.lay _ hd) (K.lay _ hd') (K.ok _ hd _ hd') (room hd) hq
    · exact ⟨general', asked _ fun {da db a b as bs E Q} hd hd' ra rb hq => one_ok (f := false) ra rb (K.lay _ hd) (K.lay _ hd') (K.ok _ hd _ hd') (room hd) hq, fun h => absurd h h2⟩
  · have full : ∀ d ∈ ds, ∃ x r, d = .tuple (x :: r) := fun d hd => by
      obtain ⟨xs, rfl⟩ := K.tup d hd
      cases xs with
      | nil => exact absurd hd hn
      | cons x r => exact ⟨x, r, rfl⟩
    obtain ⟨fs, t1, t2, t3⟩ := kFulls e full
    by_cases h2 : 2 ≤ vs.length
    · obtain ⟨f0, fr, ef⟩ : ∃ f0 fr, fs = f0 :: fr := by
        cases fs with
        | nil =>
          rw [List.length_nil] at t2
          omega
        | cons a b => exact ⟨a, b, rfl⟩
      obtain ⟨x0, r0, as0, m0, q0⟩ := t3 f0 (by rw [ef]; exact List.mem_cons_self)
      refine ⟨tuples' (dataType x0 != Value.type "tuple"), asked _ fun {da db a b as bs E Q} hd hd' ra rb hq => ?_, fun _ E Q hq => ?_⟩
      · have hok := K.ok _ hd _ hd'
        have la := K.lay _ hd
        have lb := K.lay _ hd'
        have hr := room (d' := db) hd
        obtain ⟨xs, rfl⟩ := K.tup _ hd
        obtain ⟨ys, rfl⟩ := K.tup _ hd'
        cases ra with
        | @tuple l o us n _ _ h1 h2 h3 h4 =>
          cases rb with
          | @tuple l' o' ws n' _ _ k1 k2 k3 k4 =>
            have n1 : us.size = xs.length := by simpa using ReadsAll.length _ _ _ h4
            have n2 : ws.size = ys.length := by simpa using ReadsAll.length _ _ _ k4
            exact kat_lt h1 h3 k1 k3 (katLex_ok xs ys 0 _ _ _ _ h4 k4 (by simpa [PyData.canLay0] using la) (by simpa [PyData.canLay0] using lb) (by simpa [okLt] using hok) (by have q := room_in hr; omega) (by rw [n1, n2]) hq)
      · refine kat_kind (T := dataType x0) t1 (by omega) (fun f hf => ?_) (beq_self_eq_true _) hq
        obtain ⟨x, r, as, m1, m2⟩ := t3 f hf
        rw [K.ty x0 r0 x r m0 m1]
        exact looks_reads m2
    · exact ⟨general', asked _ fun {da db a b as bs E Q} hd hd' ra rb hq => one_ok (f := false) ra rb (K.lay _ hd) (K.lay _ hd') (K.ok _ hd _ hd') (room hd) hq, fun h => absurd h h2⟩
end
end SK
namespace SK
open PySem PySem.SeqAt PySem.W PySem.Calls PyProof.Rows
/-- keys that can be sorted, the tokens tell their order -/
structure KeysG (ds : List PyData) (tok : Tok') : Prop where
  lay : ∀ d ∈ ds, d.canLay0 = true
  sorts : ∀ {prog : Program} {w : World} {A : Around} {s : Shared} {vs : List Value}, EachIs (fun v d => ∃ as, Reads s.heap v d as) vs ds → (∀ d, d ∈ ds → A.units + d.depth < cLine) → SortsAt prog w A s (kk s.heap ds tok) vs
theorem Keys.g {ds : List PyData} {tok : Tok'} (K : Keys ds tok) : KeysG ds tok := ⟨K.lay, fun e hu => sorts_at K e hu⟩
/-- keys that are alike, place by place -/
theorem keysG_alike {ds : List PyData} (lay : ∀ d ∈ ds, d.canLay0 = true) (hal : AllAlike ds) (hk : Sortable ds) : KeysG ds keyToks := ⟨lay, fun e hu => SortsAt.data e hal hk hu⟩
end SK
namespace SK
open PySem PySem.SeqAt PySem.W PySem.Calls PyProof.Rows L2
/-! ### sorted(xs, key=f), f a def of the text -/
theorem dp_same {K : PySem.W.Frag} {H H' : Hp} (s : ∀ b o, H b = some o → H' b = some o) : ∀ (d : PyData) (v : V), Dp K H v d → Dp K H' v d
  | .none, _, h => by
    cases h
    exact .non
  | .bool _, _, h => by
    cases h
    exact .bl _
  | .int _, _, h => by
    cases h
    exact .int _
  | .str _, _, h => by
    cases h
    exact .str _
  | .list ds, _, h => by
    cases h with
    | lst h1 h2 =>
      refine .lst ?_ (dp_sames s ds _ h2)
      rcases h1 with (h | ⟨o, h⟩) | h
      · exact .inl (.inl (s _ _ h))
      · exact .inl (.inr ⟨o, s _ _ h⟩)
      · exact .inr h
  | .tuple ds, _, h => by
    cases h with
    | tup h1 h2 =>
      refine .tup ?_ (dp_sames s ds _ h2)
      rcases h1 with (h | ⟨o, h⟩) | h
      · exact .inl (.inl (s _ _ h))
      · exact .inl (.inr ⟨o, s _ _ h⟩)
      · exact .inr h
  | .dict _, _, h => by cases h
where dp_sames {K : PySem.W.Frag} {H H' : Hp} (s : ∀ b o, H b = some o → H' b = some o) : ∀ (ds : List PyData) (vs : List V), DpAll K H vs ds → DpAll K H' vs ds
  | [], _, h => by
    cases h
    exact .nil
  | d :: ds, _, h => by
    cases h with
    | cons h1 h2 => exact .cons (dp_same s d _ h1) (dp_sames s ds _ h2)
/-- the items in the order of their keys -/
def byKey (tok : Tok') (xs : List V) (kz : List PyData) : List V := ((xs.zip kz).mergeSort (sortLe (listOrd itemOrd) false fun b => tok b.2)).map (·.1)
theorem each_zip : ∀ {xs : List V} {vs : List Value} {kz : List PyData}, Vals xs vs → kz.length = xs.length → EachIs (fun v (b : V × PyData) => RelV b.1 v) vs (xs.zip kz)
  | [], _, kz, .nil, _ => by
    rw [List.zip_nil_left]
    exact .nil
  | x :: xs, _, [], _, h => absurd h (by simp)
  | x :: xs, _, k :: kz, .cons r t, h => by
    rw [List.zip_cons_cons]
    exact .cons r (each_zip t (Nat.succ.inj h))
theorem each_snd {R : Value → PyData → Prop} : ∀ {xs : List V} {ks : List Value} {kz : List PyData}, EachIs R ks kz → kz.length = xs.length → EachIs (fun v (b : V × PyData) => R v b.2) ks (xs.zip kz)
  | [], _, [], .nil, _ => .nil
  | _ :: _, _, [], .nil, h => absurd h (by simp)
  | [], _, _ :: _, _, h => absurd h (by simp)
  | x :: xs, _, k :: kz, .cons r t, h => by
    rw [List.zip_cons_cons]
    exact .cons r (each_snd t (Nat.succ.inj h))
theorem vals_each : ∀ {bs : List (V × PyData)} {vs : List Value}, EachIs (fun v (b : V × PyData) => RelV b.1 v) vs bs → Vals (bs.map (·.1)) vs
  | _, _, .nil => .nil
  | _, _, .cons r t => .cons r (vals_each t)
section
variable {X : Cx} {pins : List (Addr × Obj)} {σ : L2.St} {H : Hp} {s : Shared}
theorem each_reads (I : Inv X pins σ H s) : ∀ {kvs : List V} {ks : List Value} {kz : List PyData}, Vals kvs ks → DpAll X.K H kvs kz → EachIs (fun v k => ∃ as, Reads s.heap v k as) ks kz
  | _, _, _, .nil, .nil => .nil
  | _, _, _, .cons r t, .cons h1 h2 => .cons (Dp.reads I _ _ _ h1 r) (each_reads I t h2)
theorem dp_snoc {K : PySem.W.Frag} {v : V} {d : PyData} (h : Dp K H v d) : ∀ {vs : List V} {ds : List PyData}, DpAll K H vs ds → DpAll K H (vs ++ [v]) (ds ++ [d])
  | _, _, .nil => .cons h .nil
  | _, _, .cons a b => .cons a (dp_snoc h b)
theorem dpAll_len {K : PySem.W.Frag} {H : Hp} : ∀ {vs : List V} {ds : List PyData}, DpAll K H vs ds → vs.length = ds.length
  | _, _, .nil => rfl
  | _, _, .cons _ t => congrArg (· + 1) (dpAll_len t)
theorem v_rest {a kS f : Addr} {fd : FuncData} {n : Nat} {sp : Sp} {ps : List Str} {e1 : Nat} {P : PySem.Fin → Shared → Prop} {E : Value → Shared → Prop} {xs : List V} {vs : List Value} {kz : List PyData} {tok : Tok'} {ks0 : Unit}
    (F : FnOk X.prog X.w X.K X.mg X.base CX0 n f fd ps sp) (hr : Room n X.A.in1.in1) (hb : Binds X.K fd ps []) (h1 : ps.length = 1) (K : KeysG kz tok) (I : Inv X pins σ H s) (fa : FpOk X pins H a) (fk : FpOk X pins H kS)
    (nk : s.heap.get? kS = some (seqObj "list" #[] 0)) (na : s.heap.get? a = some (seqObj "list" #[] e1)) (ne : kS ≠ a) (rv : Vals xs vs) (len : kz.length = xs.length) (big : xs.length ≤ sizeLine) (hu : ∀ d, d ∈ kz → X.A.in1.in1.units + d.depth < cLine)
    (call : ∀ (i : Nat) (x : V) (k : PyData), xs[i]? = some x → kz[i]? = some k → ∀ H1, Same H H1 → sp [x] H1 (fun v H2 => Dp X.K H2 v k ∧ Same H1 H2) fun _ _ _ => False)
    (h : ∀ (Hn : Hp) (sn : Shared), Inv X pins σ (upd Hn a (.lst (byKey tok xs kz))) sn → Same H Hn → P (.done (.ret .none)) sn) :
    wpAny (model X.prog X.w) X.A.in1.in1 (ksk_rest a (.ref f) false vs.toArray e1 (.ref kS)) P E s := by
  have lv := rv.length
  let St : Nat → Shared → Prop := fun i s' => ∃ Hi kvs ks c, Inv X pins σ Hi s' ∧ Same H Hi ∧ Hi a = none ∧ Hi kS = none ∧ s'.heap.get? kS = some (seqObj "list" ks c) ∧ s'.heap.get? a = some (seqObj "list" #[] e1) ∧ Vals kvs ks.toList ∧ DpAll X.K Hi kvs (kz.take i)
  have nfs : ∀ b, FpOk X pins H b → b ∉ frs X.stack := fun b fb hb => by
    rcases List.mem_cons.mp (I.stkSub b hb) with z | z
    · exact fb.2.1 z
    · exact fb.2.2.1 z
  unfold ksk_rest
  refine wpAny_bind (wpAny_rule ?_)
  first
    | rw [List.forIn_toArray]
    | (rw [← Array.forIn_toList]; simp only [List.toList_toArray])
    | rw [← Array.forIn_toList]
  refine wpAny_bind (ksk_fold St vs 0 s ⟨H, [], #[], 0, I, fun _ _ e => e, fa.1, fk.1, nk, na, .nil, by rw [List.take_zero]; exact .nil⟩ ?each ?after)
  case each =>
    rintro j v s' hv ⟨Hi, kvs, ks, c, Ii, sm, ha, hk, nk', na', rk, rd⟩
    simp only [Nat.zero_add] at rd ⊢
    have lj : j < xs.length := by
      have := (List.getElem?_eq_some_iff.mp hv).1
      omega
    obtain ⟨u, hu1, rx⟩ := rv.get (i := j) (List.getElem?_eq_getElem lj)
    obtain rfl : u = v := Option.some.inj (hu1.symm.trans hv)
    have hkj : kz[j]? = some kz[j] := List.getElem?_eq_getElem (by omega)
    have run : wpAny (model X.prog X.w) X.A.in1.in1 (PySem.call (.ref f) [u]) (fun r s2 => CE X.stack X.prog X.w Hi s' (fun v H2 => Dp X.K H2 v kz[j] ∧ Same Hi H2) r s2) (fun _ _ => False) s' := by
      refine wpAny_call (codeAny_mono (F.run X.A.in1.in1 X.stack s' Hi ⟨[u], []⟩ ([u] ++ []) [xs[j]] _ _ hr Ii.env0.in1.in1 (hb s' [u] Ii.kIn h1.symm) (.cons rx .nil) (call j _ _ (List.getElem?_eq_getElem lj) hkj Hi sm)) fun r s2 hq => ?_)
      cases r with
      | error e => exact False.elim hq
      | ok fl =>
        cases fl with
        | ret u => exact hq
        | next => exact False.elim hq
        | brk => exact False.elim hq
        | cont => exact False.elim hq
    refine wpAny_bind (wpAny_attempt (wpAny_mono run (fun r s2 he => ?_) fun _ _ z => z.elim))
    obtain ⟨v', H2, os, bare, un, hok, rr, dp, sm2⟩ := he
    have I2 : Inv X pins σ H2 s2 := Ii.call' (ch := []) os un hok bare (by simp)
    have nk2 := un.keep kS _ nk' hk (nfs kS fk) (by simp)
    have na2 := un.keep a _ na' ha (nfs a fa) (by simp)
    have hk2 := un.free kS _ nk' hk (by simp)
    have ha2 := un.free a _ na' ha (by simp)
    try dsimp only
    have sz : ks.size ≤ sizeLine := by
      have q1 : ks.size = kvs.length := by
        rw [← Array.length_toList]
        exact (Vals.length rk).symm
      have q2 : kvs.length = (kz.take j).length := dpAll_len rd
      rw [List.length_take] at q2
      omega
    have szj : ks.size < sizeLine + 1 := Nat.lt_succ_of_le sz
    have same := Heap.SameBut.update s2.heap kS (Obj.mapSeq (·.push r))
    obtain ⟨c2, hc2⟩ : ∃ c2, (s2.heap.update kS (Obj.mapSeq (·.push r))).get? kS = some (seqObj "list" (ks.push r) c2) := ⟨_, get?_update_seq nk2 (·.push r)⟩
    refine wpAny_bind (listUpdate_at nk2 rfl ?_ sz (Nat.le_trans (Nat.le_of_eq (Array.size_push ..)) (Nat.succ_le_succ sz)))
    refine wpAny_pure ⟨rfl, H2, kvs ++ [v'], ks.push r, c2, I2.turned (t' := s2.toks) (fun b o hb e => (same.2 b hb).trans e) hk2 fk.2.1 fk.2.2.2.1 fk.2.2.2.2.1 fk.2.2.2.2.2, sm.trans sm2, ha2, hk2, hc2, (same.2 a ne.symm).trans na2, ?_, ?_⟩
    · rw [show (ks.push r).toList = ks.toList ++ [r] by simp]
      exact Vals.append rk (.cons rr .nil)
    · rw [show kz.take (j + 1) = kz.take j ++ [kz[j]] by rw [List.take_add_one, hkj]; simp]
      exact dp_snoc dp (dp_same.dp_sames sm2 _ _ rd)
  case after =>
    rintro s' ⟨Hn, kvs, ks, c, In, sm, ha, hk, nk', na', rk, rd⟩
    rw [show kz.take (0 + vs.length) = kz from List.take_of_length_le (by omega)] at rd
    have all := each_reads In rk rd
    have sz : ks.size = vs.length := by
      have q := all.length
      rw [Array.length_toList] at q
      omega
    try dsimp only
    refine wpAny_bind (listItems_at nk' rfl ?_)
    refine keyH_end (κ := kk s'.heap kz tok) (h₁ := hideAll s'.heap [kS]) (fun b o _ q => of_hideAll _ q) (hideAll_none _ (List.mem_singleton.mpr rfl)) nk' na' ne (K.sorts all hu) sz (by omega) fun g tk c3 keep hg => ?_
    have out : EachIs (fun v (b : V × PyData) => RelV b.1 v) (sortVals (kk s'.heap kz tok) false ks.toList vs) ((xs.zip kz).mergeSort (sortLe (listOrd itemOrd) false fun b => tok b.2)) :=
      sortVals_each (κ := kk s'.heap kz tok) (fun b : V × PyData => tok b.2) (each_zip rv len) (each_snd (R := fun v d => (kk s'.heap kz tok).keyOf v = some (tok d)) ((each_mem all).mono fun v d q => by
        obtain ⟨⟨as, r⟩, hd⟩ := q
        exact kk_some K.lay hd r) len)
    have ol : (byKey tok xs kz).length ≤ sizeLine := by
      unfold byKey
      rw [List.length_map, List.length_mergeSort, List.length_zip]
      omega
    have kp : ∀ b o, b ≠ a → b ≠ kS → s'.heap.get? b = some o → g.get? b = some o := fun b o x y e => keep b o x (hideAll_get _ e (by simpa using y))
    have tr : ∀ b u, Hn b = some u → b ≠ a ∧ b ≠ kS := fun b u e => ⟨(fun z => by
      rw [z, ha] at e
      cases e), (fun z => by
      rw [z, hk] at e
      cases e)⟩
    have over : ∀ b u, Hn b = some u → upd Hn a (.lst (byKey tok xs kz)) b = some u := fun b u e => by
      rw [upd_ne (tr b u e).1]
      exact e
    refine h Hn _ (In.call (ch := [a, kS]) (g' := s'.gens) (d' := s'.drawn) (t' := tk) (h' := g) ⟨fun b o e n _ x => kp b o (fun z => x (by simp [z])) (fun z => x (by simp [z])) e, fun b o e n _ x => ⟨o.slots, kp b o (fun z => x (by simp [z])) (fun z => x (by simp [z])) e⟩,
      fun b o e n x => by rw [upd_ne (fun z => x (by simp [z]))]; exact n, fun b o e x => ⟨o, kp b o (fun z => x (by simp [z])) (fun z => x (by simp [z])) e⟩, fun b xs e => over b _ e, fun b o u e => over b _ e, fun b ps e => ⟨#[], by rw [Array.append_empty]; exact over b _ e⟩⟩ (fun b u e => ?_) In.bare fun b hb' => ?_) sm
    · by_cases z : b = a
      · subst z
        rw [upd_same] at e
        cases e
        exact ⟨ol, _, c3, vals_each out, hg⟩
      · rw [upd_ne z] at e
        exact (In.hok b u e).stay (fun c v hc q => by
          rcases hc with rfl | hc
          · exact kp _ _ (tr _ _ e).1 (tr _ _ e).2 q
          · exact kp _ _ (tr _ _ hc).1 (tr _ _ hc).2 q) (fun c q => over c _ q) fun c ys q => over c _ q
    · rcases List.mem_cons.mp hb' with rfl | hb'
      · exact ⟨fa.2.2.2.1, fa.2.1, fa.2.2.2.2.1, fa.2.2.2.2.2⟩
      · obtain rfl := List.mem_singleton.mp hb'
        exact ⟨fk.2.2.2.1, fk.2.1, fk.2.2.2.2.1, fk.2.2.2.2.2⟩
/-- the reading of sorted(xs, key=f) -/
def rSortF (K : PySem.W.Frag) (f : Addr) (sp : Sp) : List V → List V → Hp → VK → Prop := fun vs zs H Q => ∃ (l : Addr) (xs : List V) (kz : List PyData) (tok : Tok'), vs = [.ref l] ∧ zs = [.ref f] ∧ SqL K H l xs ∧ kz.length = xs.length ∧ KeysG kz tok ∧ (∀ d ∈ kz, d.depth ≤ 60) ∧
  (∀ (i : Nat) (x : V) (k : PyData), xs[i]? = some x → kz[i]? = some k → ∀ H1, Same H H1 → sp [x] H1 (fun v H2 => Dp K H2 v k ∧ Same H1 H2) fun _ _ _ => False) ∧
  ∀ (p : Addr) (H1 : Hp), H p = none → Same H H1 → H1 p = some (.lst (byKey tok xs kz)) → Q (.ref p) H1
theorem cr_sortF {f : Addr} {fd : FuncData} {n : Nat} {sp : Sp} {ps : List Str} (F : FnOk X.prog X.w X.K X.mg X.base CX0 n f fd ps sp) (hr : Room (n + 2) X.A) (hb : Binds X.K fd ps []) (h1 : ps.length = 1) :
    CallRK X (.builtin "sorted") [Str.ofString "key"] (rSortF X.K f sp) := by
  intro pins s σ H vs zs us ws Q I r rz h
  obtain ⟨l, xs, kz, tok, rfl, rfl, hs, len, K, dep, call, q⟩ := h
  obtain rfl := Vals.ref1 r
  obtain rfl := Vals.ref1 rz
  obtain ⟨its, rv, hl, big⟩ := I.list hs
  have lv := rv.length
  refine sorted_of_sort hl.isList (by omega) (ksk_s1 _ _) (fun _ => ksk_l1 _ _) fun E' => ?_
  show wpAny _ _ (Builtin.«list.sort» ⟨[.ref _], [(Str.ofString "key", .ref f)]⟩) _ _ _
  rw [ksk_t1]
  have ho := copyHeap_at s.heap its
  have la : s.heap.objs.size + 1 < (copyHeap s.heap its).objs.size := Heap.lt_size ho
  obtain ⟨e1, ho1⟩ : ∃ e1, ((copyHeap s.heap its).update (s.heap.objs.size + 1) (Obj.mapSeq fun _ => (#[] : Array Value))).get? (s.heap.objs.size + 1) = some (seqObj "list" #[] e1) := ⟨_, get?_update_seq ho fun _ => #[]⟩
  unfold ksk_tree
  refine wpAny_bind (listItems_at ho rfl (wpAny_bind (listUpdate_at ho rfl ?_ (by rw [List.size_toArray]; omega) (Nat.zero_le _))))
  refine wpAny_bind (seqEpoch_at ho1 rfl (wpAny_bind (wpAny_newTuple ?_ (by show its.length ≤ _; omega))))
  refine wpAny_bind (wpAny_newList ?_ (Nat.zero_le _))
  refine wpAny_holding ?_
  have szS : (((copyHeap s.heap its).update (s.heap.objs.size + 1) (Obj.mapSeq fun _ => (#[] : Array Value))).push (seqObj "tuple" its.toArray 0)).objs.size = (copyHeap s.heap its).objs.size + 1 := by rw [size_push', Heap.size_update]
  have old : ∀ b o, s.heap.get? b = some o → (((((copyHeap s.heap its).update (s.heap.objs.size + 1) (Obj.mapSeq fun _ => (#[] : Array Value))).push (seqObj "tuple" its.toArray 0)).push (seqObj "list" #[] 0))).get? b = some o := fun b o e => sorting_copy_old e
  have fra : H (s.heap.objs.size + 1) = none := I.hok.fresh (Nat.le_succ _)
  have n3 := line63
  refine v_rest (ks0 := ()) (n := n) F hr.in1.in1 hb h1 K (I.kept (t' := s.toks) old) (I.fpOk (Nat.le_succ _) fra)
    (I.fpOk (b := (((copyHeap s.heap its).update (s.heap.objs.size + 1) (Obj.mapSeq fun _ => (#[] : Array Value))).push (seqObj "tuple" its.toArray 0)).objs.size) (by rw [szS]; omega) (I.hok.fresh (by rw [szS]; omega)))
    (Heap.get?_push_size _ rfl) (Heap.get?_push_of_some _ (Heap.get?_push_of_some _ ho1)) (by rw [szS]; exact Nat.ne_of_gt (Nat.lt_succ_of_lt la)) rv len big (fun d hd => ?_) call fun Hn sn In sm => ⟨rfl, ?_⟩
  · have h2 := hr.un
    have h3 := dep d hd
    show X.A.units + 1 + 1 + d.depth < cLine
    omega
  · refine ⟨.ref _, _, In, rfl, q _ _ fra (fun b o e => ?_) upd_same⟩
    rw [upd_ne (ne_of_none e fra)]
    exact sm b o e
end
end SK
namespace DcT
open PySem PySem.Spec PyProof.Rows L2
/-! ### {k: v for target in iter if ..} whose keys are tuples of ints and texts; also as x = {..} -/
section
variable {X : Cx}
theorem setT {pins : List (Addr × Obj)} {σ : L2.St} {H : Hp} {s : Shared} {E : Value → Shared → Prop} {D b : Addr} {kvs : List (List Key × V)} {k : List Key} {v : V} {r : Value} {Q : Unit → Shared → Prop} (hu : X.A.units + 1 < cLine) (I : Inv X pins σ H s) (hD : H D = some (.dT kvs)) (hz : kvs.length < sizeLine)
    (hk : H b = some (.tup (k.map kV))) (rv : RelV v r) (h : ∀ s', Inv X pins σ (upd H D (.dT (putK kvs k v))) s' → Q () s') : wpAny (model X.prog X.w) X.A (dictSet D (.ref b) r) Q E s := by
  obtain ⟨z, ns, xs, rel, dd⟩ := dt_of I.hok hD
  have le : (putK kvs k v).length ≤ sizeLine := by have := length_putK kvs k v; omega
  refine wpAny_dictSet_heap (hsz := by rw [← Paired.length rel]; exact z) (Nat.lt_of_succ_lt hu) (key_of I.hok hk) dd fun h' d2 same => h _ ?_
  obtain ⟨q, es, ep, e1, e2, e3, e4, _, e5⟩ := d2
  refine d_write I (by rw [hD]; exact True.intro) same ⟨q, e1⟩ ⟨le, ns, _, (rel.put k hk rv).keeps fun c ys ec => ?_, q, es, ep, e1, e2, e3, e4, e5⟩
  rw [upd_ne (ne_of ec hD (fun z => nomatch z))]
  exact ec
def tD (wi : TI) (g : TG) (tt : TT) (tk tv : TE) (vs : List Nat) : TE := fun σ H Q => wi σ H fun J H1 => ∀ D, H1 D = none → ∃ W : Nat → Nat → Hp → Prop, (∃ m, W 0 m (upd H1 D (.dT []))) ∧ ∀ i m H, W i m H →
  (J.stop i H ∧ Q (.ref D) H) ∨ (J.go i H ∧ ∃ Nx : Hp → Prop, (∀ H', Nx H' → ∃ m', m' < m ∧ W (i + 1) m' H') ∧ ∀ x H', J.yld i H x H' → g x (wipe σ vs) H' fun σ2 H2 => wipe σ2 vs = wipe σ vs ∧ tt σ2 H2 fun b H3 =>
    if b = true then tk σ2 H3 fun y H4 => tv σ2 H4 fun z H5 => ∃ kvs k c, y = .ref c ∧ H5 c = some (.tup (k.map kV)) ∧ H5 D = some (.dT kvs) ∧ kvs.length < sizeLine ∧ Nx (upd H5 D (.dT (putK kvs k z))) else Nx H3)
theorem core {pins : List (Addr × Obj)} {s : Shared} {σ : L2.St} {H : Hp} {Q : VK} {kx vx tg iter : Expr} {ifs : List Expr} {scope : Scope} {own : List (Str × Nat)} {pos pos' : Pos} {wi : TI} {g : TG} {tt : TT} {tk tv : TE} {use : Option (Value → Sem Unit)} {Qf : Value → Shared → Prop}
    (hu : X.A.units + 1 < cLine) (hc : X.calm = true) (hN : X.N.Nodup) (I : Inv X pins σ H s) (hi : PI X tg iter wi) (ok : BlkOk X.N X.env.scope scope own)
    (hg : ∀ s H C cl fp, PG (X.blk s H scope (compEnvC scope cl C X.env) fp) tg g) (ht : ∀ s H C cl fp, PTs (X.blk s H scope (compEnvC scope cl C X.env) fp) ifs tt)
    (hk : ∀ s H C cl fp, PE (X.blk s H scope (compEnvC scope cl C X.env) fp) kx tk) (he : ∀ s H C cl fp, PE (X.blk s H scope (compEnvC scope cl C X.env) fp) vx tv) (hs : ∀ x, foldedSetIterable iter X.env x = pure x)
    (h : tD wi g tt tk tv (own.map (·.2)) σ H Q)
    (end_ : ∀ D C s' m H', Inv X pins σ H' s' → Q (.ref D) H' → s'.heap.Ns C m → FpOk X pins H' C → compPost (model X.prog X.w) X.A X.xe use Qf (.ref D) C (.ok .next) s') :
    wpAny (model X.prog X.w) X.A (comprehension (.DictComp kx vx [⟨tg, iter, ifs, 0⟩] scope pos) scope X.env pos' newDict false (eval iter X.env) use) Qf X.xe s := by
  have clos : ∀ y ∈ scope.names, y.2 = .free → ∃ c, X.env.cells.lookup y.1 = some c := fun y hy e =>
    (ok.free y hy e).elim (fun k => I.ok.has _ (.inl k)) fun k => I.ok.has _ (.inr k)
  refine wpAny_comprehension_free (use := use) rfl hs (closure_ok clos) ok.kind (fun y hy e => by rw [ok.uniq y hy, e]) (thn (hi.run pins s σ H _ I h) fun xv s1 hx => thn hx fun itv s2 h2 => ?_)
  obtain ⟨it, fp, tn, J, H2, e, I2, T, st2, f2, q⟩ := h2
  subst e
  refine wpAny_newObj_type (newEnv_comp ?_)
  obtain ⟨W, ⟨m0, w0⟩, turn⟩ := q s2.heap.objs.size (I2.hok.fresh (Nat.le_refl _))
  generalize hH3 : upd H2 s2.heap.objs.size (.dT []) = H3 at w0
  have push : ∀ b o, s2.heap.get? b = some o → (s2.heap.push { cls := .type "dict", data := .dict #[] }).get? b = some o := fun b o e => Heap.get?_push_of_some _ e
  have I3 : Inv X pins σ H3 ({ s2 with heap := s2.heap.push { cls := .type "dict", data := .dict #[] } } : Shared) := by
    rw [← hH3]
    exact I2.laid (t' := s2.toks) push (Nat.le_refl _) (dt_empty s2.heap I2.big)
  have f3 : ∀ b ∈ fp, FpOk X pins H3 b ∧ b < (s2.heap.push ({ cls := .type "dict", data := .dict #[] } : Obj)).objs.size := fun b hb => by
    obtain ⟨o, e, _⟩ := T.obj _ _ st2 b hb
    have lt : b < s2.heap.objs.size := Heap.lt_size e
    refine ⟨⟨?_, (f2 b hb).2⟩, by rw [Heap.size_push]; exact Nat.lt_succ_of_lt lt⟩
    rw [← hH3, upd_ne (Nat.ne_of_lt lt)]
    exact (f2 b hb).1
  generalize hs3 : ({ s2 with heap := s2.heap.push { cls := .type "dict", data := .dict #[] } } : Shared) = s3 at I3
  have h3 : s3.heap = s2.heap.push { cls := .type "dict", data := .dict #[] } := by rw [← hs3]
  rw [← h3] at f3
  have st3 : tn 0 s3.heap := T.keep _ _ _ st2 fun b _ o e => by rw [h3]; exact push b o e
  have I4 := block_start I3 ok hN f3
  generalize hcl : cellsFrom (s3.heap.objs.size + 1) scope.names (cloFrom X.env.cells scope.names []) = cl at I4
  have pg := hg s3 H3 s3.heap.objs.size cl fp
  have pt := ht s3 H3 s3.heap.objs.size cl fp
  have pk := hk s3 H3 s3.heap.objs.size cl fp
  have pe := he s3 H3 s3.heap.objs.size cl fp
  show codeAny _ _ (.compStart (.DictComp kx vx [⟨tg, iter, ifs, 0⟩] scope pos) 0 (.ref it) (.ref s2.heap.objs.size) (compEnvC scope cl s3.heap.objs.size X.env)) (compPost (model X.prog X.w) X.A X.xe use Qf (.ref s2.heap.objs.size) s3.heap.objs.size) { s3 with heap := pushCells (s3.heap.push { cls := .type "dict", data := .dict #[] }) scope.names }
  generalize hD : s2.heap.objs.size = D at turn
  generalize hce : compEnvC scope cl s3.heap.objs.size X.env = ce at I4 pg pt pk pe ⊢
  have lo : ce.locals = s3.heap.objs.size := by rw [← hce]; rfl
  generalize hs4 : ({ s3 with heap := pushCells (s3.heap.push { cls := .type "dict", data := .dict #[] }) scope.names } : Shared) = s4 at I4 ⊢
  have st4 : tn 0 s4.heap := T.keep _ _ _ st3 fun b _ o e => by rw [← hs4]; exact pushCells_keeps _ _ _ _ (Heap.get?_push_of_some _ e)
  have fpo : ∀ {σ' : L2.St} {H' : Hp} {s' : Shared}, Inv (X.blk s3 H3 scope ce fp) [] σ' H' s' → (∀ b ∈ fp, H' b = none) → ∀ b ∈ fp, FpOk (X.blk s3 H3 scope ce fp) [] H' b := fun {σ' H' s'} I' hn b hb =>
    ⟨hn b hb, (I'.ok.exf b hb).1, I'.ok.exfs b hb, .inl hb, fun x c e => (I'.ok.exf b hb).2 x c e, fun p hp => absurd (show p ∈ ([] : List (Addr × Obj)) ++ [] from hp) (by simp)⟩
  refine codeAny_compStart_dict ?_ (T.self X.A 0 _ _ _ st4 ?_)
  all_goals
    refine compLoop_anyD (fun n s' => ∃ i H', Inv (X.blk s3 H3 scope ce fp) [] (wipe σ (own.map (·.2))) H' s' ∧ tn i s'.heap ∧ (∀ b ∈ fp, H' b = none) ∧ W i n H') ?_ m0 ⟨0, H3, I4, st4, fun b hb => (f3 b hb).1.1, w0⟩
    rintro n s5 ⟨i, H5, I5, st5, n5, w5⟩
    rcases turn i n H5 w5 with ⟨stop, qq⟩ | ⟨go, Nx, more, step⟩
    · refine thnF (T.done (X.blk s3 H3 scope ce fp) rfl rfl rfl hc i [] s5 _ H5 (fun _ _ => False) I5 (fpo I5 n5) st5 stop) fun r s6 ⟨hr, I6⟩ => ?_
      subst hr
      have I7 : Inv X pins σ H5 s6 := I3.call' (ch := fp) I6.os I6.base I6.hok I6.bare fun b hb => ⟨(f3 b hb).1.2.2.2.1, (f3 b hb).1.2.1, (f3 b hb).1.2.2.2.2.1, (f3 b hb).1.2.2.2.2.2⟩
      obtain ⟨m, hn, _⟩ := I6.loc
      have hn : s6.heap.Ns ce.locals m := hn
      have nC : H5 ce.locals = none := I6.free
      rw [lo] at hn nC
      exact end_ D s3.heap.objs.size s6 m H5 I7 qq hn (I3.fpOk (Nat.le_refl _) nC)
    · refine thnF (T.item (X.blk s3 H3 scope ce fp) rfl rfl rfl hc i [] s5 _ H5 (fun _ _ => False) I5 (fpo I5 n5) st5 go) fun r s6 ⟨u, hr, h6⟩ => ?_
      subst hr
      refine thnF h6 fun _ s7 ⟨x, H7, I7, r7, y7, st7, n7⟩ => ?_
      refine thnF (pg.run _ s7 _ H7 x u _ (I7.pinned (fpo I7 n7) (T.obj _ _ st7)) r7 (step x H7 y7)) fun _ s8 ⟨σ8, H8, I8, hw8, q8⟩ => ?_
      refine thnF (pt.run _ s8 σ8 H8 _ I8 q8) fun b s9 ⟨H9, I9, q9⟩ => ?_
      have back : ∀ {s' : Shared} {H' : Hp}, Inv (X.blk s3 H3 scope ce fp) ([] ++ pinsAt fp s7.heap) σ8 H' s' → Nx H' → ∃ m, m < n ∧ ∃ i H', Inv (X.blk s3 H3 scope ce fp) [] (wipe σ (own.map (·.2))) H' s' ∧ tn i s'.heap ∧ (∀ b ∈ fp, H' b = none) ∧ W i m H' := fun {s' H'} I' nx => by
        obtain ⟨m', lt, w'⟩ := more H' nx
        have held : ∀ b ∈ fp, ∀ o, s7.heap.get? b = some o → s'.heap.get? b = some o ∧ H' b = none := fun b hb o e =>
          let z := I'.pin (b, o) (List.mem_append_right _ (List.mem_append_right _ (mem_pinsAt hb e)))
          ⟨z.1, z.2.1⟩
        refine ⟨m', lt, i + 1, H', (I'.unpinned (pins := [])).weak (by rw [← hw8, wipe_length]) (fun j v e => ?_), T.keep _ _ _ st7 fun b hb o e => (held b hb o e).1, fun b hb => ?_, w'⟩
        · rw [← hw8] at e
          exact (wipe_some e).1
        · obtain ⟨o, e, _⟩ := T.obj _ _ st7 b hb
          exact (held b hb o e).2
      cases b with
      | false =>
        simp only [Bool.false_eq_true, if_false] at q9 ⊢
        exact back I9 q9
      | true =>
        simp only [if_true] at q9 ⊢
        refine thnF (pk.run _ s9 σ8 H9 _ I9 q9) fun z s10 ⟨yk, H10, I10, r10, q10⟩ => ?_
        refine thnF (pe.run _ s10 σ8 H10 _ I10 q10) fun z2 s11 ⟨yv, H11, I11, r11, kvs, k, c, ek, hc11, hD11, hz11, nx⟩ => ?_
        subst ek
        obtain rfl : z = Value.ref c := r10
        exact setT (X := X.blk s3 H3 scope ce fp) hu I11 hD11 hz11 hc11 r11 fun s12 I12 => back I12 nx
/-- as a value -/
theorem pe_dcT {kx vx tg iter : Expr} {ifs : List Expr} {scope : Scope} {own : List (Str × Nat)} {pos : Pos} {wi : TI} {g : TG} {tt : TT} {tk tv : TE} (hu : X.A.units + 1 < cLine) (hc : X.calm = true) (hN : X.N.Nodup) (hi : PI X tg iter wi) (ok : BlkOk X.N X.env.scope scope own)
    (hg : ∀ s H C cl fp, PG (X.blk s H scope (compEnvC scope cl C X.env) fp) tg g) (ht : ∀ s H C cl fp, PTs (X.blk s H scope (compEnvC scope cl C X.env) fp) ifs tt)
    (hk : ∀ s H C cl fp, PE (X.blk s H scope (compEnvC scope cl C X.env) fp) kx tk) (he : ∀ s H C cl fp, PE (X.blk s H scope (compEnvC scope cl C X.env) fp) vx tv) (hs : ∀ x, foldedSetIterable iter X.env x = pure x := by intro _; rfl) :
    PE X (.DictComp kx vx [⟨tg, iter, ifs, 0⟩] scope pos) (tD wi g tt tk tv (own.map (·.2))) := by
  refine ⟨fun pins s σ H Q I h => ?_⟩
  rw [arm_eval_DictComp]
  refine core hu hc hN I hi ok hg ht hk he hs h fun D C s' m H' I' q hn f => ⟨m, hn, fun h'' sb => ?_⟩
  obtain ⟨f0, f1, f2, f3, f4, f5⟩ := f
  exact ⟨.ref D, H', I'.turned (t' := s'.toks) (fun b o hb e => (sb.2 b hb).trans e) f0 f1 f3 f4 f5, rfl, q⟩
/-- x = {..} on one line, x a local -/
theorem ps_setDcT {i : Nat} {y : Str} {py : Pos} {kx vx tg iter : Expr} {ifs : List Expr} {scope : Scope} {own : List (Str × Nat)} {pos spos : Pos} {wi : TI} {g : TG} {tt : TT} {tk tv : TE} (hu : X.A.units + 1 < cLine) (hc : X.calm = true) (hN : X.N.Nodup) (hy : X.N[i]? = some y) (hyl : X.env.scope.names.lookup y = some .local)
    (hsw : swapsWith (.DictComp kx vx [⟨tg, iter, ifs, 0⟩] scope pos) (some (.Name y py)) spos.line X.env = pure true) (hi : PI X tg iter wi) (ok : BlkOk X.N X.env.scope scope own)
    (hg : ∀ s H C cl fp, PG (X.blk s H scope (compEnvC scope cl C X.env) fp) tg g) (ht : ∀ s H C cl fp, PTs (X.blk s H scope (compEnvC scope cl C X.env) fp) ifs tt)
    (hk : ∀ s H C cl fp, PE (X.blk s H scope (compEnvC scope cl C X.env) fp) kx tk) (he : ∀ s H C cl fp, PE (X.blk s H scope (compEnvC scope cl C X.env) fp) vx tv) (hs : ∀ x, foldedSetIterable iter X.env x = pure x := by intro _; rfl) :
    PS X (.Assign [.Name y py] (.DictComp kx vx [⟨tg, iter, ifs, 0⟩] scope pos) spos) (tAsg (tD wi g tt tk tv (own.map (·.2))) (gName i)) := by
  refine ⟨fun pins s σ H D I h => ?_⟩
  rw [exec_Assign_Name_used _ _ _ _ hsw]
  refine wpAny_bind (wpAny_standAt (wpAny_bind ?_))
  show wpAny _ X.A (do let _ ← comprehension (.DictComp kx vx [⟨tg, iter, ifs, 0⟩] scope pos) scope X.env (firstIterPos [⟨tg, iter, ifs, 0⟩] pos) newDict false (eval iter X.env) (some (assign (.Name y py) X.env))) _ _ s
  have h : tD wi g tt tk tv (own.map (·.2)) σ H (fun x H1 => gName i x σ H1 D.nx) := h
  refine wpAny_bind (thn (core (Qf := fun _ s' => SP X pins D .next s') hu hc hN I hi ok hg ht hk he hs h fun L C s' m H' I' q hn f => ?_) fun _ s' hq => wpAny_pure (wpAny_pure hq))
  show wpAny _ _ (assign (.Name y py) X.env (.ref L)) _ _ _
  refine wpAny_assign_Name (store_ok2 (v := V.ref L) I' hN hy (.inl hyl) rfl (fun s2 I2 ⟨a, sb, ha⟩ => ?_) (.inr hyl))
  obtain ⟨f0, f1, f2, f3, f4, f5⟩ := f
  refine ⟨m, hn.sameBut sb (fun e => ha.elim (fun z => f1 (e.trans z)) fun z => f4 y a z e.symm), fun h3 sb3 => ?_⟩
  exact ⟨_, H', I2.turned (t' := s2.toks) (fun b o hb e => (sb3.2 b hb).trans e) f0 f1 f3 f4 f5, q⟩
theorem sw_dict {kx vx : Expr} {gs : List Comprehension} {scope : Scope} {pos py : Pos} {y : Str} {l : Nat} {env : Env} (hk : env.scope.kind = .function) (hy : env.scope.names.lookup y = some .local) (hl : (py.line == pos.line) = true)
    (ha : (scope.names.any fun (n, k) => n == y && (k == .local || k == .cell)) = false) : swapsWith (.DictComp kx vx gs scope pos) (some (.Name y py)) l env = pure true := by
  have ky : env.kindOf y = some .local := hy
  have hb : env.blockKind = .function := by unfold Env.blockKind; rw [hk]; rfl
  unfold swapsWith
  simp only [hb, ky, ha, Expr.pos, hl]
  rfl
/-- over a list that stays -/
theorem dcT_list {K : PySem.W.Frag} {a : Addr} {xs : List V} {g : TG} {tt : TT} {tk tv : TE} {vs : List Nat} {σ : L2.St} {H1 : Hp} {D : Addr} {Qd : Hp → Prop} (Pv : Nat → Hp → Prop) (h0 : Pv 0 (upd H1 D (.dT []))) (hl : ∀ i H, i ≤ xs.length → Pv i H → SqL K H a xs)
    (hs : ∀ i x H, xs[i]? = some x → Pv i H → g x (wipe σ vs) H fun σ2 H2 => wipe σ2 vs = wipe σ vs ∧ tt σ2 H2 fun b H3 =>
      if b = true then tk σ2 H3 fun y H4 => tv σ2 H4 fun z H5 => ∃ kvs k c, y = .ref c ∧ H5 c = some (.tup (k.map kV)) ∧ H5 D = some (.dT kvs) ∧ kvs.length < sizeLine ∧ Pv (i + 1) (upd H5 D (.dT (putK kvs k z))) else Pv (i + 1) H3) (hd : ∀ H, Pv xs.length H → Qd H) :
    ∃ W : Nat → Nat → Hp → Prop, (∃ m, W 0 m (upd H1 D (.dT []))) ∧ ∀ i m H, W i m H →
      ((Itl K a).stop i H ∧ Qd H) ∨ ((Itl K a).go i H ∧ ∃ Nx : Hp → Prop, (∀ H', Nx H' → ∃ m', m' < m ∧ W (i + 1) m' H') ∧ ∀ x H', (Itl K a).yld i H x H' → g x (wipe σ vs) H' fun σ2 H2 => wipe σ2 vs = wipe σ vs ∧ tt σ2 H2 fun b H3 =>
        if b = true then tk σ2 H3 fun y H4 => tv σ2 H4 fun z H5 => ∃ kvs k c, y = .ref c ∧ H5 c = some (.tup (k.map kV)) ∧ H5 D = some (.dT kvs) ∧ kvs.length < sizeLine ∧ Nx (upd H5 D (.dT (putK kvs k z))) else Nx H3) := by
  refine ⟨fun i m H => m = xs.length - i ∧ i ≤ xs.length ∧ Pv i H, ⟨xs.length, by simp, Nat.zero_le _, h0⟩, ?_⟩
  rintro i m H ⟨rfl, hi, p⟩
  have q := hl i H hi p
  rcases Nat.lt_or_ge i xs.length with lt | ge
  · refine .inr ⟨⟨xs, xs[i], q, by simp [lt]⟩, Pv (i + 1), fun H' p' => ⟨xs.length - (i + 1), by omega, rfl, lt, p'⟩, fun x H' y => ?_⟩
    obtain ⟨e, y⟩ := y
    subst e
    exact hs i x _ (y xs q) p
  · obtain rfl : i = xs.length := by omega
    exact .inl ⟨⟨xs, q, Nat.le_refl _⟩, hd H p⟩
end
end DcT
namespace L2
open PySem PySem.Spec PyProof.Rows
/-- a callee that may raise, called where it doesn't -/
theorem passN {X : Cx} {C : CXT} (h : C = L2.CX X.prog X.w) : Passes C X (fun _ _ _ => False) := by
  subst h
  exact passes_call (W := fun _ _ _ _ => False) takes0 (fun _ _ _ _ h => h)
section
variable {X : Cx} {CX : CXT} {k : Nat} {f C : Addr} {fd : FuncData} {ps : List Str} {sp : Sp} {E : St → XK} {x m : Str} {p pos apos : Pos} {e o : Expr} {es : List Expr} {ta : TE} {t : TA}
/-- o.m(e, ..), what it may raise told at the slots -/
def tMethX (C : Addr) (m : Str) (sp : Sp) (E : St → XK) (ta : TE) (t : TA) : TE := fun σ H Q => ta σ H fun x H1 => ∃ a dx fs, x = .ref a ∧ H1 a = some (.ins C dx fs) ∧ fs.lookup m = none ∧ t σ H1 fun vs H2 => sp (.ref a :: vs) H2 Q (E σ)
theorem pe_methX {pl : Sem Bool} (he : PE X o ta) (c : Cls X.K C) (hm : Meth X.K C m f) (F : FnOk X.prog X.w X.K X.mg X.base CX k f fd ps sp) (hr : Room k X.A) (hb : Binds X.K fd ps []) (hx : ∀ σ, PassesAt CX X σ (E σ)) (ha : PA X (e :: es) t)
    (hst : starEach (e :: es) X.env = (false, eval e X.env) :: starEach es X.env := by rfl) (hpl : (backTo pos (starEach es X.env)).any (·.1) = false := by rfl)
    (ht : eval (.Call (.Attribute o m apos) (e :: es) [] pos) X.env = (do
      let ov ← eval o X.env
      standAt apos.atName
      let (f, first) ← holding [ov] (getMethod ov m pl)
      callWith pos f first (backTo pos (starEach (e :: es) X.env)) (backToKw pos (keywordEach [] X.env))) := by rfl) :
    PE X (.Call (.Attribute o m apos) (e :: es) [] pos) (tMethX C m sp E ta t) := by
  refine ⟨fun pins s σ H Q I h => ?_⟩
  refine PySem.W.methodCall_KW (pl := pl) (thn (he.run pins s σ H _ I h) fun u s1 ⟨x, H1, I1, rx, a, dx, fs, ex, ea, l, q⟩ => ?_) ht
  subst ex
  obtain rfl : u = Value.ref a := rx
  refine getmeth_ok I1 ea c hm l ?_
  refine PySem.W.callWith_K (first := [.ref a]) (h₀ := X.base) I.ok.mod.kin hm.kp (thn (ha.run pos pins s1 σ H1 _ I1 q) fun us s2 ⟨vs, H2, I2, r, q2⟩ => ⟨I2.kIn, ?_⟩) hst hpl
  exact run_fnS (us := .ref a :: us) (vs := .ref a :: vs) F hr hb (hx σ) I2 (.cons rfl r) q2
theorem pe_methX0 {pl : Sem Bool} (he : PE X o ta) (c : Cls X.K C) (hm : Meth X.K C m f) (F : FnOk X.prog X.w X.K X.mg X.base CX k f fd ps sp) (hr : Room k X.A) (hb : Binds X.K fd ps []) (hx : ∀ σ, PassesAt CX X σ (E σ))
    (ht : eval (.Call (.Attribute o m apos) [] [] pos) X.env = (do
      let ov ← eval o X.env
      standAt apos.atName
      let (f, first) ← holding [ov] (getMethod ov m pl)
      callWith pos f first (backTo pos (starEach [] X.env)) (backToKw pos (keywordEach [] X.env))) := by rfl) :
    PE X (.Call (.Attribute o m apos) [] [] pos) (tMethX C m sp E ta tNil) := by
  refine ⟨fun pins s σ H Q I h => ?_⟩
  refine PySem.W.methodCall_KW (pl := pl) (thn (he.run pins s σ H _ I h) fun u s1 ⟨x, H1, I1, rx, a, dx, fs, ex, ea, l, q⟩ => ?_) ht
  subst ex
  obtain rfl : u = Value.ref a := rx
  refine getmeth_ok I1 ea c hm l ?_
  exact PySem.W.callWith_K0 (first := [.ref a]) I1.kIn hm.kp (run_fnS (us := [.ref a]) (vs := [.ref a]) F hr hb (hx σ) I1 (.cons rfl .nil) q)
/-- C(e, ..), what its __init__ may raise told at the slots -/
def tMakeX (C : Addr) (sp : Sp) (E : St → XK) (t : TA) : TE := fun σ H Q => t σ H fun vs H1 => ∀ x dx, H1 x = none → H1 dx = none → dx ≠ x →
  sp (.ref x :: vs) (upd (upd H1 dx (.own x)) x (.ins C dx [])) (fun v H2 => v = .non ∧ Q (.ref x) H2) (E σ)
theorem pe_makeX (M : Mk X.K C f) (F : FnOk X.prog X.w X.K X.mg X.base CX k f fd ps sp) (hr : Room (k + 1) X.A) (hg : Gl X x) (hm : X.mg x = some (.ref C)) (hb : Binds X.K fd ps []) (hx : ∀ σ, PassesAt CX X σ (E σ))
    (ha : PA X (e :: es) t) (hdb : (x == ("__debug__" : Str)) = false := by decide) (he : starEach (e :: es) X.env = (false, eval e X.env) :: starEach es X.env := by rfl) (hpl : (backTo pos (starEach es X.env)).any (·.1) = false := by rfl) :
    PE X (.Call (.Name x p) (e :: es) [] pos) (tMakeX C sp E t) := by
  refine ⟨fun pins s σ H Q I h => ?_⟩
  refine wpAny_Call_Name_kw (ld_glob I hg hm ?_ hdb)
  refine PySem.W.callWith_K (h₀ := X.base) I.ok.mod.kin M.kp (thn (ha.run pos pins s σ H _ I h) fun us s1 ⟨vs, H1, I1, r, q⟩ => ⟨I1.kIn, ?_⟩) he hpl
  have hq := q (s1.heap.objs.size + 1) s1.heap.objs.size (I1.hok.fresh (Nat.le_succ _)) (I1.hok.fresh (Nat.le_refl _)) (Nat.ne_of_lt (Nat.lt_succ_self _))
  have I2 := Inv.made (C := C) I1
  have r2 : Vals (V.ref (s1.heap.objs.size + 1) :: vs) (Value.ref (s1.heap.objs.size + 1) :: us) := .cons rfl r
  have hl : (Value.ref (s1.heap.objs.size + 1) :: us).length = ps.length := by
    have e := r2.length
    rw [F.len _ _ _ _ hq] at e
    exact e.symm
  have b := hb _ (Value.ref (s1.heap.objs.size + 1) :: us) I2.kIn (by rw [List.append_nil]; exact hl)
  rw [List.append_nil] at b
  refine wpAny_call (make_map (f := f) I1.kIn M.makes M.init (beq_iff_eq.mp M.fn) (codeAny_mono (F.run _ X.stack _ _ ⟨Value.ref (s1.heap.objs.size + 1) :: us, []⟩ (Value.ref (s1.heap.objs.size + 1) :: us) _ _ (E σ) (hr.make C us [])
    (I2.env0.make C us []) b r2 hq) fun r s' hq' => ?_))
  cases r with
  | error e => exact hx σ pins _ _ e s' I2 hq'
  | ok fl =>
    cases fl with
    | ret u =>
      obtain ⟨v, H', I3, rv, ev, q3⟩ := I2.after hq'
      subst ev
      exact ⟨rv, ⟨V.ref (s1.heap.objs.size + 1), H', I3, rfl, q3⟩⟩
    | next => exact False.elim hq'
    | brk => exact False.elim hq'
    | cont => exact False.elim hq'
end
/-- isinstance(e, c), e the exception that the suite holds, with a dict of its own -/
theorem call_isX {X : Cx} {a D : Addr} {cls : Value} {oe : Obj} {d : Option Addr} {pn : List (Addr × Obj)} (C : ExcC X.K D) (hz : Zc cls d oe) (hf : ∃ vs, oe.data = .fields vs) :
    CallR (X.suite a ((a, oe) :: pn)) (.builtin "isinstance") (fun xs H Q => ∃ (dd : Addr) (fs : List (Str × V)) (c : V) (cv : Value) (b : Bool), cls = .ref D ∧ d = some dd ∧ H dd = some (.xd fs) ∧ xs = [.ref a, c] ∧ (∀ u, RelV c u → u = cv) ∧ PySem.W.kitOne X.K (.ref D) cv = some b ∧ Q (.bl b) H) := by
  intro pins s σ H xs us Q I r h
  obtain ⟨dd, fs, c, cv, b, rfl, rfl, ed, rfl, hcv, e, q⟩ := h
  cases r with
  | cons rx rr =>
    cases rr with
    | cons rt rr =>
      cases rr
      cases rx
      have ec := hcv _ rt
      subst ec
      obtain ⟨hget, _⟩ := I.pin (a, oe) (List.mem_append.mpr (.inl List.mem_cons_self))
      obtain ⟨vs, hv⟩ := hf
      have hx : ObjOk X.prog X.w H s.heap dd (.xd fs) := I.hok dd _ ed
      obtain ⟨mA, hns, hr⟩ := hx
      obtain ⟨od, ho, hl⟩ := lookIn_ns hns
      have J : PySem.W.InstAt s.heap a oe D (some od) := ⟨hget, hz.1, by unfold PySem.W.notCls; rw [hv] <;> rfl, by rw [hz.2]; exact ho⟩
      have hcl : (PySem.W.clsIn X.K D).isSome = true := by
        obtain ⟨cdD, hcD, _⟩ := PySem.W.any_some C.hd
        rw [hcD]
        rfl
      exact PySem.W.kia_one (PySem.W.kitx_exc hcl C.hg C.hk C.hs C.ha C.hn C.ht C.hm) I.kIn J e (fun z => nomatch z) fun tk => ⟨.bl b, H, I.kept (t' := tk) fun _ _ z => z, rfl, q⟩
/-! ### two dicts that hold the same, things at addresses too -/
def sameB : V → Bool
  | .ref _ => true
  | v => flatB v
theorem eqAt_sameB {A : Around} {s : Shared} {v : V} {u u' : Value} (r : RelV v u) (r' : RelV v u') (f : sameB v = true) : SeqAt.EqAt A s u u' true := by
  cases v with
  | ref a =>
    cases (show u = Value.ref a from r)
    cases (show u' = Value.ref a from r')
    exact SeqAt.EqAt.same _
  | non => exact eqAt_same r r' f
  | bl b => exact eqAt_same r r' f
  | int i => exact eqAt_same r r' f
  | str x => exact eqAt_same r r' f
  | byt b => exact eqAt_same r r' f
  | flt x => exact eqAt_same r r' f
  | ty n => exact eqAt_same r r' f
theorem hits_allS {κ : Type} [DecidableEq κ] {A : Around} {s : Shared} {kvs : List (κ × V)} {vb : List (κ × Value)} (rb : KV kvs vb) {ks : List (κ × V)} {va : List (κ × Value)} (ra : KV ks va) :
    (∀ p ∈ ks, valV kvs p.1 = some p.2 ∧ sameB p.2 = true) → PySem.W.KeqHits A s vb va true := by
  unfold KV at ra
  induction ra with
  | nil => intro _; exact .nil
  | @cons p q ps qs h t ih =>
    intro hp
    obtain ⟨h1, h2⟩ := h
    obtain ⟨e, f⟩ := hp p List.mem_cons_self
    have rr : RelO (some p.2) (valueAt vb p.1) := by rw [← e]; exact rb.val p.1
    obtain ⟨y, hy, ry⟩ := rr.some_of
    obtain ⟨k, v⟩ := q
    have h1' : p.1 = k := h1
    rw [h1'] at hy
    show PySem.W.KeqHits A s vb ((k, v) :: qs) (true && true)
    exact .hit hy (eqAt_sameB h2 ry f) (ih fun p' hm => hp p' (List.mem_cons_of_mem _ hm))
def rNeS : R2 := fun x y H Q => ∃ a b ks ls, x = .ref a ∧ y = .ref b ∧ H a = some (.dK ks) ∧ H b = some (.dK ls) ∧ ks.length = ls.length ∧ (∀ p ∈ ks, valV ls p.1 = some p.2 ∧ sameB p.2 = true) ∧ Q (.bl false) H
theorem op_neS {X : Cx} (hu : X.A.units + 1 < cLine) : OpR X (compareOp .NotEq) rNeS := by
  intro pins s σ H x y v u Q I rx ry h
  obtain ⟨a, b, ks, ls, rfl, rfl, ea, eb, hlen, hp, q⟩ := h
  obtain rfl : v = Value.ref a := rx
  obtain rfl : u = Value.ref b := ry
  obtain ⟨_, ya, va, ra, da⟩ := (show ObjOk X.prog X.w H s.heap a (.dK ks) from I.hok a _ ea)
  obtain ⟨_, yb, vb, rb, db⟩ := (show ObjOk X.prog X.w H s.heap b (.dK ls) from I.hok b _ eb)
  have hl : va.length = vb.length := by rw [← ra.length, ← rb.length]; exact hlen
  exact PySem.W.keq_ne (knd := mixKind X.prog X.w) (r := true) ya yb da db (by omega) (fun _ => hits_allS rb ra hp) (fin_bl I q (by simp [hl]))
def rEqS : R2 := fun x y H Q => ∃ a b ks ls, x = .ref a ∧ y = .ref b ∧ H a = some (.dK ks) ∧ H b = some (.dK ls) ∧ ks.length = ls.length ∧ (∀ p ∈ ks, valV ls p.1 = some p.2 ∧ sameB p.2 = true) ∧ Q (.bl true) H
theorem op_eqSX {X : Cx} (hu : X.A.units + 1 < cLine) : OpR X (compareOp .Eq) rEqS := by
  intro pins s σ H x y v u Q I rx ry h
  obtain ⟨a, b, ks, ls, rfl, rfl, ea, eb, hlen, hp, q⟩ := h
  obtain rfl : v = Value.ref a := rx
  obtain rfl : u = Value.ref b := ry
  obtain ⟨_, ya, va, ra, da⟩ := (show ObjOk X.prog X.w H s.heap a (.dK ks) from I.hok a _ ea)
  obtain ⟨_, yb, vb, rb, db⟩ := (show ObjOk X.prog X.w H s.heap b (.dK ls) from I.hok b _ eb)
  have hl : va.length = vb.length := by rw [← ra.length, ← rb.length]; exact hlen
  exact PySem.W.keq_eq (knd := mixKind X.prog X.w) (r := true) ya yb da db (by omega) (fun _ => hits_allS rb ra hp) (fin_bl I q (by simp [hl]))
theorem kit_self {K : PySem.W.Frag} (x : Addr) : PySem.W.kitOne K (.ref x) (.ref x) = some true := by
  show (if (Value.ref x == Value.ref x) = true then some true else _) = some true
  rw [if_pos (by simp)]
theorem kit_ref {K : PySem.W.Frag} {x y : Addr} (hdct : PySem.W.hasDictIn K y = true) (ht : PySem.W.typeIn K (.ref y) = some (.type "type")) (h4 : PySem.W.subIn K (.ref x) (.ref y) = some true) : PySem.W.kitOne K (.ref x) (.ref y) = some true := by
  obtain ⟨cd, hc, _⟩ := PySem.W.any_some hdct
  have e2 : ((PySem.W.clsIn K y).isSome && PySem.W.typeIn K (.ref y) == some (.type "type")) = true := by rw [hc, ht] <;> rfl
  show (if (Value.ref x == Value.ref y) = true then some true else if ((PySem.W.clsIn K y).isSome && PySem.W.typeIn K (.ref y) == some (.type "type")) = true then PySem.W.subIn K (.ref x) (.ref y) else none) = some true
  rw [if_pos e2, h4]
  split <;> rfl
/-! ### two dicts compared whose values are data: True or False -/
def eqT (D : V → PyData) (ks ls : List (Key × V)) : Bool := (ks.length == ls.length) && ks.all fun p => match valV ls p.1 with
  | none => false
  | some v => PyData.eqv (D p.2) (D v)
theorem hits_data {X : Cx} {pins : List (Addr × Obj)} {σ : St} {H : Hp} {s : Shared} {A : Around} (I : Inv X pins σ H s) (hu : A.units + 65 < cLine) (D : V → PyData) {ls : List (Key × V)} {vb : List (Key × Value)} (rb : KV ls vb) (hb : ∀ p ∈ ls, Dp X.K H p.2 (D p.2) ∧ SeqAt.shaped (D p.2) = true) {ks : List (Key × V)} {va : List (Key × Value)} (ra : KV ks va) :
    (∀ p ∈ ks, Dp X.K H p.2 (D p.2) ∧ SeqAt.shaped (D p.2) = true) → PySem.W.KeqHits A.in1 s vb va (ks.all fun p => match valV ls p.1 with
      | none => false
      | some v => PyData.eqv (D p.2) (D v)) := by
  unfold KV at ra
  induction ra with
  | nil => intro _; exact .nil
  | @cons p q ps qs h t ih =>
    intro hp
    obtain ⟨h1, h2⟩ := h
    obtain ⟨k, v⟩ := q
    have h1' : p.1 = k := h1
    have rr := rb.val p.1
    have ih' := ih fun p' hm => hp p' (List.mem_cons_of_mem _ hm)
    rw [List.all_cons]
    cases e : valV ls p.1 with
    | none =>
      rw [e] at rr
      have hn : valueAt vb p.1 = none := by
        cases e2 : valueAt vb p.1 with
        | none => rfl
        | some _ => rw [e2] at rr; exact (show False from rr).elim
      rw [h1'] at hn
      exact .miss hn
    | some y =>
      rw [e] at rr
      obtain ⟨u, hy, ry⟩ := rr.some_of
      rw [h1'] at hy
      have hy2 : ∃ q ∈ ls, q.2 = y := by
        unfold valV at e
        cases e3 : ls.find? fun kv => decide (kv.1 = p.1) with
        | none => rw [e3] at e; cases e
        | some q => rw [e3] at e; exact ⟨q, List.mem_of_find?_eq_some e3, Option.some.inj e⟩
      obtain ⟨q, hq, rfl⟩ := hy2
      obtain ⟨as, r1⟩ := Dp.reads I _ _ _ (hp p List.mem_cons_self).1 h2
      obtain ⟨bs, r2⟩ := Dp.reads I _ _ _ (hb q hq).1 ry
      exact .hit hy (PySem.W.keq_at r1 r2 (hp p List.mem_cons_self).2 (hb q hq).2 (by show A.units + 1 + 64 < cLine; omega)) ih'
def rEqT (K : PySem.W.Frag) (neg : Bool) : R2 := fun x y H Q => ∃ (a b : Addr) (ks ls : List (Key × V)) (D : V → PyData), x = .ref a ∧ y = .ref b ∧ H a = some (.dK ks) ∧ H b = some (.dK ls) ∧ (∀ p ∈ ks, Dp K H p.2 (D p.2) ∧ SeqAt.shaped (D p.2) = true) ∧ (∀ p ∈ ls, Dp K H p.2 (D p.2) ∧ SeqAt.shaped (D p.2) = true) ∧ Q (.bl (if neg then !eqT D ks ls else eqT D ks ls)) H
theorem op_eqT {X : Cx} (hu : X.A.units + 65 < cLine) : OpR X (compareOp .Eq) (rEqT X.K false) := by
  intro pins s σ H x y v u Q I rx ry h
  obtain ⟨a, b, ks, ls, D, rfl, rfl, ea, eb, ha, hb, q⟩ := h
  obtain rfl : v = Value.ref a := rx
  obtain rfl : u = Value.ref b := ry
  obtain ⟨_, ya, va, ra, da⟩ := (show ObjOk X.prog X.w H s.heap a (.dK ks) from I.hok a _ ea)
  obtain ⟨_, yb, vb, rb, db⟩ := (show ObjOk X.prog X.w H s.heap b (.dK ls) from I.hok b _ eb)
  refine PySem.W.keq_eq (knd := mixKind X.prog X.w) ya yb da db (by omega) (fun _ => hits_data I hu D rb hb ra ha) (fin_bl I q ?_)
  unfold eqT
  rw [ra.length, rb.length]
  rfl
theorem op_neT {X : Cx} (hu : X.A.units + 65 < cLine) : OpR X (compareOp .NotEq) (rEqT X.K true) := by
  intro pins s σ H x y v u Q I rx ry h
  obtain ⟨a, b, ks, ls, D, rfl, rfl, ea, eb, ha, hb, q⟩ := h
  obtain rfl : v = Value.ref a := rx
  obtain rfl : u = Value.ref b := ry
  obtain ⟨_, ya, va, ra, da⟩ := (show ObjOk X.prog X.w H s.heap a (.dK ks) from I.hok a _ ea)
  obtain ⟨_, yb, vb, rb, db⟩ := (show ObjOk X.prog X.w H s.heap b (.dK ls) from I.hok b _ eb)
  refine PySem.W.keq_ne (knd := mixKind X.prog X.w) ya yb da db (by omega) (fun _ => hits_data I hu D rb hb ra ha) (fin_bl I q ?_)
  unfold eqT
  rw [ra.length, rb.length]
  rfl
/-! ### == of two objects of an own class by the class's own def, whatever it tells -/
def rEqO (C : Addr) (sp : Sp) (E : XK) : R2 := fun x y H Q => ∃ (a b dx dy : Addr) (fs gs : List (Str × V)), x = .ref a ∧ y = .ref b ∧ H a = some (.ins C dx fs) ∧ H b = some (.ins C dy gs) ∧ sp [.ref a, .ref b] H (fun v H' => ∃ c, v = .bl c ∧ Q (.bl c) H') E
theorem op_eqO {X : Cx} {CX : CXT} {n : Nat} {C f : Addr} {fd : FuncData} {ps : List Str} {sp : Sp} {E : XK} (F : FnOk X.prog X.w X.K X.mg X.base CX n f fd ps sp) (hrm : Room n X.A)
    (hs : PySem.W.findIn X.K (.ref C) "__eq__" = some (some (.ref f))) (hf : PySem.W.isFn X.K (.ref f) = true) (hb : Binds X.K fd ps []) (hx : Passes CX X E) : OpR X (compareOp .Eq) (rEqO C sp E) := by
  intro pins s σ H x y v u Q I rx ry h
  obtain ⟨a, b, dx, dy, fs, gs, rfl, rfl, ha, hb', hsp⟩ := h
  cases (show v = Value.ref a from rx)
  cases (show u = Value.ref b from ry)
  obtain ⟨mA, J, _⟩ := ins_get I.hok ha
  obtain ⟨mB, J', _⟩ := ins_get I.hok hb'
  obtain ⟨od, J, _⟩ := J.look
  obtain ⟨od', J', _⟩ := J'.look
  obtain ⟨m, hF⟩ := I.fr
  refine PySem.W.cmp_K (op := .Eq) (tb := .ref C) hrm.units0 hF I.ok.mod.kin J J'.type (by simp [PySem.W.notFirst]) hs hf ?_
  refine wpAny_mono (run_fn (us := [.ref a, .ref b]) (vs := [.ref a, .ref b]) (dvs := []) (ds := []) F hrm hb .nil hx I (.cons rfl (.cons rfl .nil)) hsp) (fun r s' q => ?_) fun _ _ z => z
  obtain ⟨w, H', I', rw', c, ew, q⟩ := q
  subst ew
  cases rw'
  exact ⟨.bl c, H', I', rfl, q⟩
end L2
namespace LR
open PySem PySem.Spec PyProof.Rows L2 RT
section
variable {prog : Program} {w : World} {A : Around} {s : Shared} {R : Result → Shared → Prop}
theorem extend_rev {it l : Addr} {items : Array Value} (hh : A.handled = none) (hit : s.heap.IsRevIter it l ((items.size : Int) - 1)) (hl : s.heap.IsList l items) (hne : l ≠ it) (S : Addr) (hSi : S ≠ it) (hSl : S ≠ l) (res : Value) (c₀ : Nat)
    (hS : s.heap.get? S = some { cls := .type "list", data := .seq #[] c₀ }) (hn : items.size ≤ sizeLine)
    (hR : ∀ s' acc' c', Moved (S :: [it]) (fun a b => b = a) s s' → s'.heap.get? S = some { cls := .type "list", dict := none, data := .seq acc' c', slots := #[] } → ItemsOf (fun i v => items[items.size - 1 - i]? = some v) acc' items.size → R (.ok (.ret res)) s') :
    wpAny (model prog w) A.in1 (Builtin.List.listExtendWith (.ref S) (.ref it) res)
      (fun fin s' => match fin with | .done f => R (.ok f) s' | .again c' => c'.quiet = true ∧ codeAny (model prog w) A c' R s') (fun e s' => R (.error e) s') s := by
  have W := (Walks.listRev (prog := prog) (w := w) (A := A.in1) hh it l hne items).toS
  have hSf : S ∉ [it, l] := by simp only [List.mem_cons, List.not_mem_nil, or_false, not_or]; exact ⟨hSi, hSl⟩
  have hT : s.TypeIs (.ref it) "list_reverseiterator" := hit.typeIs
  have h1 : Builtin.List.listSameRef (.ref S) (.ref it) = false := by simp [Builtin.List.listSameRef, hSi]
  unfold Builtin.List.listExtendWith
  refine wpAny_bind (wpAny_typeOf hT ?_)
  rw [if_neg (by rw [h1]; decide)]
  refine wpAny_bind (wpAny_pyIter_revIter hit ?_)
  refine wpAny_bind (wpAny_holding ?_)
  unfold Builtin.List.listLengthHint
  refine wpAny_bind (wpAny_specialOf hT nolen_lri ?_)
  show wpAny _ A.in1 (specialOf (Value.ref it) (Str.ofString "__length_hint__") >>= _) _ _ _
  refine wpAny_bind (wpAny_specialOf hT hint_lri ?_)
  generalize hid : ("list_reverseiterator.__length_hint__" : String) = id0
  wp_delta
  rw [show splitId id0 = some ("list_reverseiterator", "__length_hint__") from by subst hid; decide +kernel]
  subst hid
  refine wpAny_bind (wpAny_isInstance (b := true) hT (by rw [isSubtype_type]; kernel_rfl) ?_)
  refine wpAny_pure ?_
  rw [if_neg (by decide)]
  have e0 : ((items.size : Nat) : Int) - 1 - ((0 : Nat) : Int) = (items.size : Int) - 1 := by omega
  refine wpAny_pure ⟨plainId_quiet F.plain_extend_loop _, codeAny_extend_loopS W hn _ hSf _ items.size 0 _ _ _ rfl (Nat.zero_le _) ⟨Nat.zero_le _, by rw [e0]; exact hit, hl⟩ hS (ItemsOf.nil _) fun s' acc' c' hm hS' hacc => ?_⟩
  exact hR s' acc' c' hm hS' hacc
theorem list_init_rev {it l : Addr} {items : Array Value} (hh : A.handled = none) (hit : s.heap.IsRevIter it l ((items.size : Int) - 1)) (hl : s.heap.IsList l items) (hne : l ≠ it) (S : Addr) (hSi : S ≠ it) (hSl : S ≠ l)
    (hS : s.heap.get? S = some { cls := .type "list", data := .seq #[] }) (hn : items.size ≤ sizeLine)
    (hR : ∀ s' acc' c', Moved (S :: [it]) (fun a b => b = a) s s' → s'.heap.get? S = some { cls := .type "list", dict := none, data := .seq acc' c', slots := #[] } → ItemsOf (fun i v => items[items.size - 1 - i]? = some v) acc' items.size → R (.ok (.ret .none)) s') :
    wpAny (model prog w) A.in1 (Builtin.«list.__init__» ⟨[.ref S, .ref it], []⟩)
      (fun fin s' => match fin with | .done f => R (.ok f) s' | .again c' => c'.quiet = true ∧ codeAny (model prog w) A c' R s') (fun e s' => R (.error e) s') s := by
  show wpAny _ A.in1 (do let old ← Builtin.List.listItems (.ref S); Builtin.List.listUpdate (.ref S) (fun _ => #[]); letGo old.toList.reverse; Builtin.List.listExtendWith (.ref S) (.ref it) .none) _ _ s
  refine wpAny_bind ?_
  unfold Builtin.List.listItems
  refine wpAny_bind (wpAny_seqItems hS rfl (wpAny_pure ?_))
  show wpAny _ A.in1 (updateSeq S (fun _ => #[]) >>= fun _ => letGo (#[] : Array Value).toList.reverse >>= fun _ => Builtin.List.listExtendWith (.ref S) (.ref it) .none) _ _ s
  refine wpAny_bind (wpAny_updateSeq hS rfl ?_)
  have hS₂ := Heap.get?_update_self (Obj.mapSeq (fun _ => (#[] : Array Value))) hS rfl
  have oth : ∀ b o, b ≠ S → s.heap.get? b = some o → (s.heap.update S (Obj.mapSeq (fun _ => (#[] : Array Value)))).get? b = some o :=
    fun b o hb e => (Heap.get?_update_other _ _ (Ne.symm hb)).trans e
  refine wpAny_bind (wpAny_letGo ?_)
  refine extend_rev (s := { s with heap := s.heap.update S (Obj.mapSeq (fun _ => (#[] : Array Value))) }) hh (hit.at fun o e => oth it o hSi.symm e) (let ⟨o, e, r⟩ := hl; ⟨o, oth l o hSl.symm e, r⟩) hne S hSi hSl .none _ hS₂ hn fun s' acc' c' hm hS' hacc => ?_
  refine hR s' acc' c' (Moved.trans (fun _ _ _ a b => b.trans a) (Moved.then_heap (wr := S :: [it]) (G := fun a b => b = a) (Moved.refl fun _ => rfl) (Nat.le_refl _) fun b o hb e => oth b o (fun h => hb ?_) e) hm) hS' hacc
  rw [h]
  exact List.mem_cons_self
end
section
variable {prog : Program} {w : World} {A : Around} {E : Value → Shared → Prop} {s : Shared}
theorem call_list_rev {it l : Addr} {items : Array Value} {Q : Value → Shared → Prop} (hh : A.handled = none) (hit : s.heap.IsRevIter it l ((items.size : Int) - 1)) (hl : s.heap.IsList l items) (hne : l ≠ it) (hn : items.size ≤ sizeLine)
    (hQ : ∀ (h' : Heap) (tk : Nat) (acc : Array Value) (c' : Nat), (∀ b o, b ≠ it → s.heap.get? b = some o → h'.get? b = some o) → h'.get? s.heap.objs.size = some { cls := .type "list", dict := none, data := .seq acc c', slots := #[] } →
      ItemsOf (fun i v => items[items.size - 1 - i]? = some v) acc items.size → Q (.ref s.heap.objs.size) { s with heap := h', toks := tk }) :
    wpAny (model prog w) A (call (.type "list") [.ref it]) Q E s := by
  obtain ⟨oi, hoi, _⟩ := id hit
  obtain ⟨ol, hol, _⟩ := id hl
  have hSi : s.heap.objs.size ≠ it := Nat.ne_of_gt (Heap.lt_size hoi)
  have hSl : s.heap.objs.size ≠ l := Nat.ne_of_gt (Heap.lt_size hol)
  refine callType_codes (Q₁ := fun obj s₁ => obj = .ref s.heap.objs.size ∧ s₁ = { s with heap := s.heap.push { cls := .type "list", data := .seq #[] } }) F.called_list (F.typeCall_list_1 _) F.entry_list_init
    (code_list_new _ ⟨rfl, rfl⟩) fun obj s₁ h₁ => ?_
  obtain ⟨rfl, rfl⟩ := h₁
  have hS : (s.heap.push { cls := .type "list", data := .seq #[] }).get? s.heap.objs.size = some { cls := .type "list", data := .seq #[] } := Heap.get?_push_size _ rfl
  refine ⟨⟨_, hS, rfl⟩, F.args_list_init_2 _ _, list_init_rev (s := { s with heap := s.heap.push { cls := .type "list", data := .seq #[] } }) (A := A.in1) hh (hit.at fun o e => Heap.get?_push_of_some _ e) (hl.push _) hne _ hSi hSl hS hn fun s' acc' c' hm hS' hacc => ?_⟩
  refine ⟨rfl, ?_⟩
  rw [Moved.eq_with hm]
  refine hQ s'.heap s'.toks acc' c' (fun b o hb e => hm.heap b o (fun hmem => ?_) (Heap.get?_push_of_some _ e)) hS' hacc
  rcases List.mem_cons.mp hmem with e' | hmem
  · exact absurd (Heap.lt_size e) (by rw [e']; exact Nat.lt_irrefl _)
  · exact hb (List.mem_singleton.mp hmem)
end
/-- list(reversed(x)), x a list: a new list -/
def tListRev (K : PySem.W.Frag) (te : TE) : TE := fun σ H Q => te σ H fun v H1 => ∃ (a : Addr) (xs : List V), v = .ref a ∧ SqL K H1 a xs ∧ ∀ q, H1 q = none → Q (.ref q) (upd H1 q (.lst xs.reverse))
section
variable {X : Cx}
theorem pe_listRev {e : Expr} {te : TE} {p p2 pos pos2 : Pos} (hc : X.calm = true) (hg : Gl X "list") (hm : X.mg "list" = none) (hg2 : Gl X "reversed") (hm2 : X.mg "reversed" = none) (he : PE X e te)
    (hs : starEach [e] X.env = (false, eval e X.env) :: starEach [] X.env := by rfl)
    (hs2 : starEach [.Call (.Name "reversed" p2) [e] [] pos2] X.env = (false, eval (.Call (.Name "reversed" p2) [e] [] pos2) X.env) :: starEach [] X.env := by rfl) :
    PE X (.Call (.Name "list" p) [.Call (.Name "reversed" p2) [e] [] pos2] [] pos) (tListRev X.K te) := by
  refine ⟨fun pins s σ H Q I h => ?_⟩
  refine Call_ (ld_blt I hg hm boot_list (PyProof.Rows.callWith_type1 (args_cons (Call_ (ld_blt I hg2 hm2 PyProof.Rows.boot_reversed (PyProof.Rows.callWith_type1 (args_cons (thn (he.run pins s σ H _ I h) fun u s1 ⟨v, H1, I1, r1, q1⟩ => args_nil ?_) hs) hs rfl))) hs2) hs2 rfl))
  obtain ⟨a, xs, ev, hq, q⟩ := q1
  subst ev
  obtain rfl : u = Value.ref a := r1
  obtain ⟨its, rv, p', hz⟩ := I1.list hq
  refine call_reversed_list p'.isList (args_nil ?_)
  have k0 : ∀ b o, s1.heap.get? b = some o → (s1.heap.push (revObj a ((its.toArray.size : Int) - 1))).get? b = some o := fun b o e => Heap.get?_push_of_some _ e
  have I2 : Inv X pins σ H1 { s1 with heap := s1.heap.push (revObj a ((its.toArray.size : Int) - 1)) } := I1.kept (t' := s1.toks) k0
  obtain ⟨f0, f1, f2, f3, f4, f5⟩ := I1.fpOk (H' := H1) (b := s1.heap.objs.size) (Nat.le_refl _) (I1.hok.fresh (Nat.le_refl _))
  have hl := p'.isList
  obtain ⟨ol, hol, _⟩ := id hl
  have hne : a ≠ s1.heap.objs.size := Nat.ne_of_lt (Heap.lt_size hol)
  have hn : its.toArray.size ≤ sizeLine := by rw [List.size_toArray, ← rv.length]; exact hz
  refine call_list_rev (s := { s1 with heap := s1.heap.push (revObj a ((its.toArray.size : Int) - 1)) }) (I1.ok.hd hc) ⟨_, Heap.get?_push_size _ rfl, rfl, rfl⟩ (hl.push _) hne hn fun h' tk acc c' hk hS' hi => ?_
  have hfp : ∀ b ∈ [s1.heap.objs.size], FpOk X pins H1 b := fun b hb => by
    rw [List.mem_singleton.mp hb]
    exact ⟨f0, f1, f2, f3, f4, f5⟩
  refine ⟨.ref (s1.heap.push (revObj a ((its.toArray.size : Int) - 1))).objs.size, upd H1 _ (.lst xs.reverse), I2.turnedNew (t' := tk) (ch := [s1.heap.objs.size]) (ob := .lst xs.reverse) (fun b o hb e => hk b o (fun z => hb (by rw [z]; exact List.mem_singleton.mpr rfl)) e) hfp (Nat.le_refl _)
    (show ObjOk X.prog X.w _ _ _ (.lst xs.reverse) from ⟨by rw [List.length_reverse]; exact hz, acc.toList, c', vals_rev rv hi, ?_⟩), rfl, q _ (I2.hok.fresh (Nat.le_refl _))⟩
  rw [Array.toArray_toList]
  exact hS'
end
end LR
namespace L2
open PySem PySem.Spec PyProof.Rows
section
variable {X : Cx} {CX : CXT} {k : Nat} {f C : Addr} {fd : FuncData} {ps : List Str} {sp : Sp} {E : St → XK}
theorem pAt {EX : XK} (h : Passes CX X EX) : ∀ σ, PassesAt CX X σ ((fun _ => EX) σ) := fun σ pins H s e s' I hq => h pins σ H s e s' I hq
/-- a call one level below -/
theorem run_fn1 {pins : List (Addr × Obj)} {σ : St} {H : Hp} {s : Shared} {Q : VK} {us : List Value} {vs : List V} (F : FnOk X.prog X.w X.K X.mg X.base CX k f fd ps sp) (hr : Room (k + 1) X.A) (hb : Binds X.K fd ps []) (hx : PassesAt CX X σ (E σ))
    (I : Inv X pins σ H s) (r : Vals vs us) (h : sp vs H Q (E σ)) : wpAny (model X.prog X.w) X.A.in1 (call (.ref f) us) (EP X pins σ Q) X.xe s := by
  have h' : sp (vs ++ []) H Q (E σ) := by rw [List.append_nil]; exact h
  have r2 : Vals (vs ++ []) (us ++ []) := r.append .nil
  have hl : (us ++ []).length = ps.length := by rw [← r2.length]; exact F.len _ _ _ _ h'
  refine wpAny_call (codeAny_mono (F.run X.A.in1 X.stack s H ⟨us, []⟩ (us ++ []) (vs ++ []) Q (E σ) hr.in1 I.env0.in1 (hb s us I.kIn hl) r2 h') fun r s' hq => ?_)
  cases r with
  | error e => exact hx pins H s e s' I hq
  | ok fl =>
    cases fl with
    | ret u => exact I.after hq
    | next => exact False.elim hq
    | brk => exact False.elim hq
    | cont => exact False.elim hq
theorem run_fn0 {pins : List (Addr × Obj)} {σ : St} {H : Hp} {s : Shared} {Q : VK} {us : List Value} {vs : List V} (F : FnOk X.prog X.w X.K X.mg X.base CX k f fd ps sp) (hr : Room k X.A) (hb : Binds X.K fd ps []) (hx : PassesAt CX X σ (E σ))
    (I : Inv X pins σ H s) (r : Vals vs us) (h : sp vs H Q (E σ)) : wpAny (model X.prog X.w) X.A (call (.ref f) us) (EP X pins σ Q) X.xe s :=
  run_fnSD (dvs := []) (ds := []) F hr hb .nil hx I r (by rw [List.append_nil]; exact h)
/-- an own special method: where it is found -/
structure Spec1 (K : PySem.W.Frag) (C : Addr) (m : String) (f : Addr) : Prop where
  at_ : PySem.W.findIn K (.ref C) m = some (some (.ref f))
  fn : PySem.W.isFn K (.ref f) = true
  isf : PySem.W.fnIn K f = true
/-! ### o[e] by the class's own def -/
def tSubO (C : Addr) (sp : Sp) (E : St → XK) (ta tb : TE) : TE := fun σ H Q => ta σ H fun x H1 => tb σ H1 fun y H2 => ∃ a dx fs, x = .ref a ∧ H2 a = some (.ins C dx fs) ∧ sp [.ref a, y] H2 Q (E σ)
theorem pe_subO {a b : Expr} {ta tb : TE} {pos : Pos} (ha : PE X a ta) (hb : PE X b tb) (hs : Spec1 X.K C "__getitem__" f) (F : FnOk X.prog X.w X.K X.mg X.base CX k f fd ps sp) (hr : Room (k + 1) X.A) (hbd : Binds X.K fd ps []) (hx : ∀ σ, PassesAt CX X σ (E σ))
    (hsl : ∀ x i, subscripted b true (.ref x) i = runValue (.builtin "lifetime.subscript" ⟨[.ref x, i], []⟩) := by intro _ _; rfl) : PE X (.Subscript a b pos) (tSubO C sp E ta tb) := by
  refine ⟨fun pins s σ H Q I h => ?_⟩
  refine Subscript_ (binT (R := fun x y H2 => ∃ a dx fs, x = .ref a ∧ H2 a = some (.ins C dx fs) ∧ sp [.ref a, y] H2 Q (E σ)) ha hb I h fun v u s2 x y H2 I2 rx ry q => ?_)
  obtain ⟨o, dx, fs, rfl, ho, hsp⟩ := q
  cases (show v = Value.ref o from rx)
  obtain ⟨mA, J, _⟩ := ins_get I2.hok ho
  obtain ⟨od, J, _⟩ := J.look
  obtain ⟨m, hF⟩ := I2.fr
  exact PySem.W.sub_K hF I2.ok.mod.kin J hs.at_ hs.isf hs.fn (run_fn1 (vs := [.ref o, y]) F hr hbd (hx σ) I2 (.cons rfl (.cons ry .nil)) hsp) (hsl _ _)
/-! ### e in o -/
def rInO (C : Addr) (sp : Sp) (EX : XK) : R2 := fun x y H Q => ∃ (b dx : Addr) (fs : List (Str × V)), y = .ref b ∧ H b = some (.ins C dx fs) ∧ sp [.ref b, x] H (fun v H' => ∃ c, v = .bl c ∧ Q (.bl c) H') EX
theorem op_inO {EX : XK} (hs : Spec1 X.K C "__contains__" f) (F : FnOk X.prog X.w X.K X.mg X.base CX k f fd ps sp) (hr : Room k X.A) (hbd : Binds X.K fd ps []) (hx : Passes CX X EX) : OpR X (compareOp .In) (rInO C sp EX) := by
  intro pins s σ H x y v u Q I rx ry h
  obtain ⟨b, dx, fs, rfl, hb, hsp⟩ := h
  cases (show u = Value.ref b from ry)
  obtain ⟨mA, J, _⟩ := ins_get I.hok hb
  obtain ⟨od, J, _⟩ := J.look
  obtain ⟨m, hF⟩ := I.fr
  refine PySem.W.in_K hF I.ok.mod.kin J hs.at_ hs.fn ?_
  refine wpAny_mono (run_fn0 (vs := [.ref b, x]) (E := fun _ => EX) F hr hbd (pAt hx σ) I (.cons rfl (.cons rx .nil)) hsp) (fun r s' q => ?_) fun _ _ z => z
  obtain ⟨z, H', I', rw', c, ew, q⟩ := q
  subst ew
  cases rw'
  exact wpAny_pure ⟨.bl c, H', I', rfl, q⟩
theorem op_notinO {EX : XK} (hs : Spec1 X.K C "__contains__" f) (F : FnOk X.prog X.w X.K X.mg X.base CX k f fd ps sp) (hr : Room k X.A) (hbd : Binds X.K fd ps []) (hx : Passes CX X EX) : OpR X (compareOp .NotIn) (fun x y H Q => rInO C sp EX x y H fun v H' => ∃ c, v = .bl c ∧ Q (.bl (!c)) H') := by
  intro pins s σ H x y v u Q I rx ry h
  obtain ⟨b, dx, fs, rfl, hb, hsp⟩ := h
  cases (show u = Value.ref b from ry)
  obtain ⟨mA, J, _⟩ := ins_get I.hok hb
  obtain ⟨od, J, _⟩ := J.look
  obtain ⟨m, hF⟩ := I.fr
  refine PySem.W.notIn_K hF I.ok.mod.kin J hs.at_ hs.fn ?_
  refine wpAny_mono (run_fn0 (vs := [.ref b, x]) (E := fun _ => EX) F hr hbd (pAt hx σ) I (.cons rfl (.cons rx .nil)) hsp) (fun r s' q => ?_) fun _ _ z => z
  obtain ⟨z, H', I', rw', c, ew, c', ec, q⟩ := q
  subst ew
  cases rw'
  cases ec
  exact wpAny_pure ⟨.bl (!c), H', I', rfl, q⟩
/-! ### len(o) -/
theorem call_lenO {EX : XK} (hs : Spec1 X.K C "__len__" f) (F : FnOk X.prog X.w X.K X.mg X.base CX k f fd ps sp) (hr : Room (k + 1) X.A) (hbd : Binds X.K fd ps []) (hx : Passes CX X EX) :
    CallR X (.builtin "len") (fun xs H Q => ∃ (a dx : Addr) (fs : List (Str × V)), xs = [.ref a] ∧ H a = some (.ins C dx fs) ∧ sp [.ref a] H (fun v H' => ∃ n : Int, v = .int n ∧ (0 ≤ n ∧ n < 2 ^ 63) ∧ Q (.int n) H') EX) := by
  intro pins s σ H xs us Q I r h
  obtain ⟨a, dx, fs, rfl, ha, hsp⟩ := h
  obtain ⟨u, rfl, rx⟩ := vals1 r
  cases (show u = Value.ref a from rx)
  obtain ⟨mA, J, _⟩ := ins_get I.hok ha
  obtain ⟨od, J, _⟩ := J.look
  obtain ⟨m, hF⟩ := I.fr
  refine PySem.W.len_K hF I.ok.mod.kin J hs.at_ hs.fn ?_
  refine wpAny_mono (run_fn1 (vs := [.ref a]) (E := fun _ => EX) F hr hbd (pAt hx σ) I (.cons rfl .nil) hsp) (fun r s' q => ?_) fun _ _ z => z
  obtain ⟨z, H', I', rw', n, ew, hn, q⟩ := q
  subst ew
  obtain ⟨t, rfl⟩ := (show ∃ t, r = Value.int n t from rw')
  exact ⟨hn, ⟨.int n, H', I'.tok _, ⟨_, rfl⟩, q⟩⟩
/-! ### o | p -/
def tOrO (C : Addr) (sp : Sp) (E : St → XK) (ta tb : TE) : TE := fun σ H Q => ta σ H fun x H1 => tb σ H1 fun y H2 => ∃ a b dx dy fs gs, x = .ref a ∧ y = .ref b ∧ H2 a = some (.ins C dx fs) ∧ H2 b = some (.ins C dy gs) ∧ sp [.ref a, .ref b] H2 (fun v H3 => (∃ c, v = .ref c) ∧ Q v H3) (E σ)
theorem pe_orO {a b : Expr} {ta tb : TE} {pos : Pos} (ha : PE X a ta) (hb : PE X b tb) (hs : Spec1 X.K C "__or__" f) (hc : PySem.W.selfFirst X.K C = true) (F : FnOk X.prog X.w X.K X.mg X.base CX k f fd ps sp) (hr : Room k X.A) (hbd : Binds X.K fd ps []) (hx : ∀ σ, PassesAt CX X σ (E σ)) : PE X (.BinOp a .BitOr b pos) (tOrO C sp E ta tb) := by
  refine ⟨fun pins s σ H Q I h => ?_⟩
  refine wpAny_BinOp (binT (R := fun x y H2 => ∃ a b dx dy fs gs, x = .ref a ∧ y = .ref b ∧ H2 a = some (.ins C dx fs) ∧ H2 b = some (.ins C dy gs) ∧ sp [.ref a, .ref b] H2 (fun v H3 => (∃ c, v = .ref c) ∧ Q v H3) (E σ)) ha hb I h fun v u s2 x y H2 I2 rx ry q => ?_)
  obtain ⟨o, p, dx, dy, fs, gs, rfl, rfl, ho, hp, hsp⟩ := q
  cases (show v = Value.ref o from rx)
  cases (show u = Value.ref p from ry)
  obtain ⟨mA, J, _⟩ := ins_get I2.hok ho
  obtain ⟨mB, J', _⟩ := ins_get I2.hok hp
  obtain ⟨od, J, _⟩ := J.look
  obtain ⟨od', J', _⟩ := J'.look
  obtain ⟨m, hF⟩ := I2.fr
  refine PySem.W.binop_K (op := .BitOr) hF I2.ok.mod.kin J J'.type hc hs.at_ hs.fn ?_
  refine wpAny_mono (run_fn0 (vs := [.ref o, .ref p]) F hr hbd (hx σ) I2 (.cons rfl (.cons rfl .nil)) hsp) (fun r s' q => ?_) fun _ _ z => z
  obtain ⟨z, H', I', rw', ⟨c, ew⟩, q⟩ := q
  subst ew
  cases (show r = Value.ref c from rw')
  exact ⟨.ref c, H', I', rfl, q⟩
end
end L2
namespace L2
open PySem PySem.Spec PyProof.Rows
/-! ### d.setdefault(t, x), t a tuple -/
def rSetDefT : V → List V → Hp → VK → Prop := fun x xs H Q => ∃ (a : Addr) (kvs : List (List L2.Key × V)) (k : List L2.Key) (b : Addr) (d : V), x = .ref a ∧ xs = [.ref b, d] ∧ H a = some (.dT kvs) ∧ H b = some (.tup (k.map kV)) ∧ kvs.length < sizeLine ∧
  (∀ v, valV kvs k = some v → Q v H) ∧ (valV kvs k = none → Q d (upd H a (.dT (putK kvs k d))))
theorem mt_setdefT {X : Cx} (hu : X.A.units + 1 < cLine) : MtR X "dict.setdefault" rSetDefT := by
  intro pins s σ H x xs v us Q I rx rxs h
  obtain ⟨a, kvs, k, b, d, rfl, rfl, ha, hb, hl, q1, q2⟩ := h
  cases rx
  obtain ⟨u1, u2, rfl, r1, r2⟩ := vals2 rxs
  cases r1
  obtain ⟨z, hd, xs', rel, dd⟩ := dt_of I.hok ha
  have hz : xs'.length ≤ sizeLine := by rw [← Paired.length rel]; exact z
  have le : (putK kvs k d).length ≤ sizeLine := by have := length_putK kvs k d; omega
  refine call_setdefault_heap (knd := tupleKind (mixKind X.prog X.w)) (k := k) (tupleKind_room_in1 hu) (key_of I.hok hb) hd dd (fun p hp => ?_) (fun hn h' dd' same => ?_) hz
  · have r := rel.val k
    rw [hp] at r
    cases ev : valV kvs k with
    | none =>
      rw [ev] at r
      exact (show False from r).elim
    | some v0 =>
      rw [ev] at r
      exact ⟨v0, H, I.tok _, r, q1 v0 ev⟩
  · have r := rel.val k
    rw [hn] at r
    have e : valV kvs k = none := by
      cases ev : valV kvs k with
      | none => rfl
      | some v0 =>
        rw [ev] at r
        exact (show False from r).elim
    obtain ⟨q, es, ep, e1, e2, e3, e4, _, e5⟩ := dd'
    refine ⟨d, upd H a (.dT (putK kvs k d)), d_write I (by rw [ha]; exact True.intro) same ⟨q, e1⟩ ⟨le, hd, _, (rel.put k hb r2).keeps fun c ys ec => ?_, q, es, ep, e1, e2, e3, e4, by first | exact e5 | assumption⟩, r2, q2 e⟩
    rw [upd_ne (ne_of ec ha (fun z => nomatch z))]
    exact ec
end L2
namespace L2
open PySem PySem.Spec PyProof.Rows
/-! ### several dicts locked at once -/
def tLockNE (t : TE) : Nat → TE
  | 0 => t
  | n + 1 => tLockE (tLockNE t n)
theorem pe_lockN {X : Cx} {e : Expr} {t : TE} (h : PE X e t) : ∀ n, PE X e (tLockNE t n)
  | 0 => h
  | n + 1 => pe_lock (pe_lockN h n)
def tLocksE (t : TE) : TE := fun σ H Q => ∃ n, tLockNE t n σ H Q
theorem pe_locks {X : Cx} {e : Expr} {t : TE} (h : PE X e t) : PE X e (tLocksE t) := ⟨fun pins s σ H Q I ⟨n, hn⟩ => (pe_lockN h n).run pins s σ H Q I hn⟩
def tLockN (t : TS) : Nat → TS
  | 0 => t
  | n + 1 => tLock (tLockN t n)
theorem ps_lockN {X : Cx} {st : Stmt} {t : TS} (h : PS X st t) : ∀ n, PS X st (tLockN t n)
  | 0 => h
  | n + 1 => ps_lock (ps_lockN h n)
def tLocks (t : TS) : TS := fun D σ H => ∃ n, tLockN t n D σ H
theorem ps_locks {X : Cx} {st : Stmt} {t : TS} (h : PS X st t) : PS X st (tLocks t) := ⟨fun pins s σ H D I ⟨n, hn⟩ => (ps_lockN h n).run pins s σ H D I hn⟩
end L2
namespace L2
open PySem PySem.Spec PyProof.Rows
/-- a statement's value; a comprehension's scope -/
def stVal : Stmt → Expr
  | .Assign _ v _ => v
  | .Return (some v) _ => v
  | _ => .Name "" ⟨0, 0, 0, 0⟩
def cmpSc (d : Scope) : Expr → Scope
  | .ListComp _ _ s _ => s
  | .DictComp _ _ _ s _ => s
  | _ => d
/-! ### a dict that nobody else writes is locked for good -/
def tFrz (t : TE) : TE := fun σ H Q => t σ H fun x H1 => ∃ d u, x = .ref d ∧ H1 d = some u ∧ Mut (some u) ∧ ∀ od, Q (.ref d) (upd H1 d (.frz od u))
theorem pe_frz {X : Cx} {e : Expr} {t : TE} (h : PE X e t) : PE X e (tFrz t) := by
  refine ⟨fun pins s σ H Q I hw => ?_⟩
  refine thn (h.run pins s σ H _ I hw) fun v s1 ⟨x, H1, I1, r, d, u, ex, hd, mu, q⟩ => ?_
  subst ex
  obtain ⟨od, I2⟩ := I1.lock hd mu
  exact ⟨.ref d, _, I2, r, q od⟩
end L2
namespace L2
open PySem PySem.Spec PyProof.Rows
/-- within a comprehension the reading must not speak of the block's own context -/
theorem pi_listK {X : Cx} {tg l : Expr} {tl : TE} {K : PySem.W.Frag} (e : X.K = K) (hl : PE X l tl) : PI X tg l (iList K tl) := by
  subst e
  exact pi_list hl
theorem pg_tupK {X : Cx} {es : List Expr} {k : Nat} {pos : Pos} {t : TGs} {K : PySem.W.Frag} (n : Nat) (hc : X.calm = true) (e : X.K = K) (h : PGs X es t)
    (hn : (assignEach es X.env).length = n := by rfl) (hst : (assignEach es X.env).findIdx? (·.1) = none := by rfl) : PG X (.Tuple es k pos) (gTup K n t) := by
  subst e
  exact pg_tup hc h hn hst
theorem pi_tupK {X : Cx} {tg l : Expr} {tl : TE} {K : PySem.W.Frag} (e : X.K = K) (hl : PE X l tl) : PI X tg l (iTup K tl) := by
  subst e
  exact pi_tup hl
/-- tuple(list), tuple(tuple), told without the block -/
def rTupS (K : PySem.W.Frag) : List V → Hp → VK → Prop := fun xs H Q => ∃ p ys, xs = [.ref p] ∧ ((SqL K H p ys ∧ ∀ l, H l = none → Q (.ref l) (upd H l (.tup ys))) ∨ (SqT K H p ys ∧ Q (.ref p) H))
end L2
namespace L2
open PySem PySem.Spec PyProof.Rows
/-! ### == of dicts whose keys are tuples, and of dicts that hold such dicts -/
section
open PySem.W PySem.SeqAt
variable {prog : Program} {w : World} {κ : Type} [DecidableEq κ] {knd : HeapKind prog w κ} {A : Around} {E : Value → Shared → Prop} {s : Shared}
def pairH (x : κ × Addr × Value) : κ × Value := (x.1, x.2.2)
theorem valH (xs : List (κ × Addr × Value)) (k : κ) : valueAt (xs.map pairH) k = (atKey xs k).map (·.2) := by
  unfold valueAt atKey
  rw [List.find?_map]
  show ((xs.find? fun x => decide (x.1 = k)).map pairH).map (·.2) = _
  cases xs.find? (fun x => decide (x.1 = k)) <;> rfl
/-- what is left of the first dict's pairs, from the j-th on -/
def RestH (kb : List (κ × Addr × Value)) (ka : List (κ × Addr × Value)) (many : Nat) (out : Bool) (A : Around) (s : Shared) (todo : List Nat) : Prop :=
  ∃ j, todo = List.range' j (many - j) ∧ j ≤ many ∧ KeqHitsIn prog w A s (kb.map pairH) ((ka.drop j).map pairH) out
theorem range_step {x j many : Nat} {todo : List Nat} (h : x :: todo = List.range' j (many - j)) : j < many ∧ x = j ∧ todo = List.range' (j + 1) (many - (j + 1)) := by
  cases d : many - j with
  | zero =>
    rw [d] at h
    exact nomatch h
  | succ z =>
    rw [d, List.range'_succ] at h
    obtain ⟨h1, h2⟩ := List.cons.inj h
    exact ⟨by omega, h1, by rw [h2]; congr 1; omega⟩
theorem range_done {j many : Nat} (h : ([] : List Nat) = List.range' j (many - j)) (hj : j ≤ many) : j = many := by
  cases d : many - j with
  | zero => omega
  | succ z =>
    rw [d, List.range'_succ] at h
    exact nomatch h
theorem samePairsH {nm : String} {a b : Addr} {ka kb : List (κ × Addr × Value)} {r : Bool} {Q : Bool → Shared → Prop} (ha : (a == sysModules) = false) (hb : (b == sysModules) = false)
    (da : s.heap.DictOfH knd a ka) (db : s.heap.DictOfH knd b kb) (hu : knd.room A) (hits : ka.length = kb.length → KeqHitsIn prog w A s (kb.map pairH) (ka.map pairH) r) (h : Q (ka.length == kb.length && r) s) :
    wpAny (model prog w) A (Builtin.Dict.samePairs nm a b) Q E s := by
  obtain ⟨o1, tab1, c1, look1, _, dat1, lay1, key1, _⟩ := da
  obtain ⟨o2, tab2, c2, look2, _, dat2, lay2, key2, dif2⟩ := db
  have z1 := size_of_entries lay1
  have z2 := size_of_entries lay2
  have n1 : ¬ (a == sysModules) = true := by simp [ha]
  have n2 : ¬ (b == sysModules) = true := by simp [hb]
  unfold Builtin.Dict.samePairs Builtin.Dict.showsAll
  rw [if_neg n1, if_neg n2]
  refine wpAny_bind <| wpAny_pure <| wpAny_bind <| wpAny_pure <| wpAny_bind <| wpAny_dictEntries look1 dat1 ?_
  dsimp only
  refine wpAny_bind <| wpAny_dictEntries look2 dat2 ?_
  by_cases same : tab1.size = tab2.size
  · have q0 : Q r s := by
      have e : (ka.length == kb.length) = true := by rw [beq_iff_eq]; omega
      rw [e, Bool.true_and] at h
      exact h
    rw [if_neg (by simp [same])]
    refine wpAny_bind <| wpAny_dictEpoch look1 dat1 <| wpAny_bind ?_
    rw [Std.Legacy.Range.forIn_eq_forIn_range']
    simp only [Std.Legacy.Range.size, Nat.sub_zero, Nat.add_sub_cancel, Nat.div_one]
    refine wpAny_forIn_list _ (fun todo st s' => s' = s ∧ st = (none, ()) ∧ RestH (prog := prog) (w := w) kb ka tab1.size r A s todo) _ (fun x todo st s' hp => ?_) (fun st s' hp => ?_) _ _ ⟨rfl, rfl, 0, by simp, Nat.zero_le _, hits (by omega)⟩
    · obtain ⟨rfl, rfl, j, hj, _, rest⟩ := hp
      obtain ⟨lt, rfl, hj2⟩ := range_step hj
      have lt' : x < ka.length := by omega
      refine wpAny_bind <| wpAny_dictEntries look1 dat1 ?_
      have at1 : tab1[x]? = some (entryOfKey knd ka[x]) := by rw [entry_at lay1 x, List.getElem?_eq_getElem lt']; rfl
      rw [at1]
      have kx := key1 _ (List.getElem_mem lt')
      rw [List.drop_eq_getElem_cons lt', List.map_cons] at rest
      show wpAny _ _ (holding [Value.ref ka[x].2.1, ka[x].2.2] _ >>= _) _ _ _
      refine wpAny_bind <| wpAny_holding <| wpAny_bind <| wpAny_dictFind_heap hu kx look2 dat2 lay2 key2 dif2 (fun miss => ?_) (fun i p hit => ?_)
      · have hv : valueAt (kb.map pairH) ka[x].1 = none := by rw [valH, atKey_none_of_get miss]; rfl
        obtain ⟨_, rfl⟩ | ⟨y, _, _, hy, _⟩ := rest.inv
        · exact wpAny_pure (by rw [if_pos (by decide)]; exact wpAny_pure (wpAny_pure q0))
        · exact nomatch hv.symm.trans hy
      · have hv : valueAt (kb.map pairH) ka[x].1 = some p.2 := by rw [valH, atKey_of_get dif2 hit]; rfl
        refine wpAny_bind <| wpAny_dictEntries look2 dat2 ?_
        rw [entry_at lay2 i, hit]
        obtain ⟨hn, _⟩ | ⟨y, t, u, hy, heq, more, rfl⟩ := rest.inv
        · exact nomatch hn.symm.trans hv
        · cases hv.symm.trans hy
          refine wpAny_holding (heq _ _ ?_)
          cases t with
          | false =>
            rw [if_pos (by decide)]
            exact wpAny_pure (wpAny_pure q0)
          | true =>
            rw [if_neg (by decide)]
            refine wpAny_bind <| wpAny_dictEpoch look1 dat1 ?_
            rw [if_neg (by simp)]
            exact wpAny_pure ⟨rfl, rfl, x + 1, hj2, lt, more⟩
    · obtain ⟨rfl, rfl, j, hj, le, rest⟩ := hp
      have := range_done hj le
      rw [this, z1, List.drop_length] at rest
      cases rest
      exact wpAny_pure q0
  · have e : (ka.length == kb.length) = false := by rw [beq_eq_false_iff_ne]; omega
    rw [e, Bool.false_and] at h
    rw [if_pos (by simp [same])]
    exact wpAny_bind (wpAny_rule (wpAny_pure h))
theorem rcH_dicts {a b : Addr} {ka kb : List (κ × Addr × Value)} {r : Bool} {Q : Value → Shared → Prop} (ha : (a == sysModules) = false) (hb : (b == sysModules) = false)
    (da : s.heap.DictOfH knd a ka) (db : s.heap.DictOfH knd b kb) (hr : knd.room A.in1) (hu : A.units < cLine) (hits : ka.length = kb.length → KeqHitsIn prog w A.in1 s (kb.map pairH) (ka.map pairH) r) (h : Q (.bool (ka.length == kb.length && r)) s) : wpAny (model prog w) A (richCompare .Eq (.ref a) (.ref b)) Q E s := by
  have told : wpAny (model prog w) A.in1 (Builtin.Dict.samePairs "dict.__eq__" a b) (fun c s' => c = (ka.length == kb.length && r) ∧ s' = s) E s := samePairsH ha hb da db hr hits ⟨rfl, rfl⟩
  have ta := da.typeIs
  have tb := db.typeIs
  refine wpAny_richCompare_same_room (op := .Eq) ta tb PySem.F.slot_dict_eq (wpAny_call_entry PySem.F.slot_dict_eq ta PySem.F.entry_dict_eq (s := s) ?_ (PySem.F.args_dict_eq_2 _ _)) hu
  show wpAny _ _ (Builtin.Dict.dictSlotArgs "__eq__" ⟨[.ref a, .ref b], []⟩ >>= _) _ _ s
  unfold Builtin.Dict.dictSlotArgs
  refine wpAny_bind <| wpAny_bind <| wpAny_notOrdered_dict ta <| wpAny_pure <| wpAny_bind <| wpAny_isInstance (T := "dict") tb PySem.F.sub_dict_dict ?_
  simp only [Bool.not_true, Bool.false_eq_true, if_false]
  refine wpAny_bind <| wpAny_pure <| wpAny_bind <| wpAny_pure <| wpAny_bind <| wpAny_mono told (fun c s' e => ?_) fun _ _ z => z
  obtain ⟨rfl, rfl⟩ := e
  exact wpAny_pure ⟨_, rfl, (fun x => nomatch x), by simpa using h⟩
end
abbrev KRow := List Key
def rowsV (us : List KRow) : List (KRow × V) := us.map fun k => (k, V.bl true)
def hasR (ls : List KRow) (u : KRow) : Bool := ls.any fun k => decide (k = u)
theorem hasR_iff {ls : List KRow} {u : KRow} : hasR ls u = true ↔ u ∈ ls := by
  unfold hasR
  rw [List.any_eq_true]
  constructor
  · rintro ⟨x, hx, e⟩
    rw [← of_decide_eq_true e]
    exact hx
  · exact fun h => ⟨u, h, decide_eq_true rfl⟩
theorem hasR_no {ls : List KRow} {u : KRow} (h : u ∉ ls) : hasR ls u = false := by
  cases e : hasR ls u with
  | false => rfl
  | true => exact absurd (hasR_iff.mp e) h
def sameRows (us ls : List KRow) : Bool := us.length == ls.length && us.all fun k => hasR ls k
def rowsIn (H : Hp) (v : V) (us : List KRow) : Prop := ∃ q, v = .ref q ∧ H q = some (.dT (rowsV us))
theorem rowsV_inj {us ls : List KRow} (h : rowsV us = rowsV ls) : us = ls := by
  have := congrArg (List.map Prod.fst) h
  unfold rowsV at this
  rw [List.map_map, List.map_map] at this
  have e : ∀ l : List KRow, l.map ((fun x => x.1) ∘ fun k => (k, V.bl true)) = l := fun l => List.map_id l
  exact (e us).symm.trans (this.trans (e ls))
theorem sameRows_self (us : List KRow) : sameRows us us = true := by
  unfold sameRows
  rw [Bool.and_eq_true, List.all_eq_true]
  exact ⟨by simp, fun k hk => hasR_iff.mpr hk⟩
section
variable {X : Cx}
theorem hitsR {pw : Program} {w : World} {H : Hp} {A : Around} {s : Shared} {ls : List KRow} {kb : List (KRow × Addr × Value)} (rb : KT H (rowsV ls) kb) : ∀ {us : List KRow} {ka : List (KRow × Addr × Value)}, KT H (rowsV us) ka → PySem.W.KeqHitsIn pw w A s (kb.map pairH) (ka.map pairH) (us.all fun k => hasR ls k)
  | [], _, r => by cases r; exact .nil
  | u :: us, _, r => by
    cases r with
    | @cons _ q _ qs h t =>
      obtain ⟨h1, h2, h3⟩ := h
      have ih := hitsR (s := s) (A := A) (pw := pw) (w := w) rb t
      rw [List.all_cons, List.map_cons]
      have hv := rb.val u
      by_cases hm : u ∈ ls
      · rw [hasR_iff.mpr hm]
        have e1 : valV (rowsV ls) u = some (.bl true) := by
          clear hv ih rb
          unfold rowsV
          induction ls with
          | nil => cases hm
          | cons x xs ih =>
            rw [List.map_cons]
            by_cases e : x = u
            · unfold valV
              simp [e]
            · rcases List.mem_cons.mp hm with z | z
              · exact absurd z.symm e
              · have := ih z
                unfold valV at this ⊢
                rw [List.find?_cons_of_neg (by simp [e])]
                exact this
        rw [e1] at hv
        obtain ⟨y, hy, ry⟩ := hv.some_of
        refine .hit (v := q.2.2) (k := q.1) (y := y) (by rw [valH, ← h1]; exact hy) ?_ ih
        exact (eqAt_sameB h3 ry rfl).inModel _ _
      · rw [hasR_no hm, Bool.false_and]
        have e1 : valV (rowsV ls) u = none := by
          unfold valV
          rw [Option.map_eq_none_iff, List.find?_eq_none]
          intro x hx e
          obtain ⟨z, hz, rfl⟩ := List.mem_map.mp hx
          exact hm (by rw [← (show z = u from of_decide_eq_true e)]; exact hz)
        rw [e1] at hv
        have hn : (atKey kb u).map (·.2) = none := by
          cases e2 : (atKey kb u).map (·.2) with
          | none => rfl
          | some _ => rw [e2] at hv; exact (show False from hv).elim
        exact .miss (v := q.2.2) (k := q.1) (by rw [valH, ← h1]; exact hn)
theorem eqIn_rows {pins : List (Addr × Obj)} {σ : L2.St} {H : Hp} {s : Shared} {A : Around} (I : Inv X pins σ H s) (hu : A.units + 2 < cLine) {q q' : Addr} {us ls : List KRow} (h1 : H q = some (.dT (rowsV us))) (h2 : H q' = some (.dT (rowsV ls))) : PySem.SeqAt.EqIn X.prog X.w A s (.ref q) (.ref q') (sameRows us ls) := by
  by_cases e : q = q'
  · subst e
    rw [h1] at h2
    have : us = ls := rowsV_inj (HO.dT.inj (Option.some.inj h2))
    subst this
    rw [sameRows_self]
    exact (SeqAt.EqAt.same _).inModel _ _
  · obtain ⟨_, ya, va, ra, da⟩ := dt_of I.hok h1
    obtain ⟨_, yb, vb, rb, db⟩ := dt_of I.hok h2
    have la : va.length = us.length := by rw [← Paired.length ra]; unfold rowsV; rw [List.length_map]
    have lb : vb.length = ls.length := by rw [← Paired.length rb]; unfold rowsV; rw [List.length_map]
    refine PySem.SeqAt.EqIn.of_refs e fun E Q hq => rcH_dicts ya yb da db (show A.units + 1 < cLine by omega) (by omega) (fun _ => hitsR rb ra) ?_
    rw [la, lb]
    exact hq
def eqRR (D : V → List KRow) (ks ls : List (Key × V)) : Bool := (ks.length == ls.length) && ks.all fun p => match valV ls p.1 with
  | none => false
  | some v => sameRows (D p.2) (D v)
theorem hitsRR {pins : List (Addr × Obj)} {σ : L2.St} {H : Hp} {s : Shared} {A : Around} (I : Inv X pins σ H s) (hu : A.units + 2 < cLine) (D : V → List KRow) {ls : List (Key × V)} {vb : List (Key × Value)} (rb : KV ls vb) (hb : ∀ p ∈ ls, rowsIn H p.2 (D p.2)) {ks : List (Key × V)} {va : List (Key × Value)} (ra : KV ks va) :
    (∀ p ∈ ks, rowsIn H p.2 (D p.2)) → PySem.W.KeqHitsIn X.prog X.w A s vb va (ks.all fun p => match valV ls p.1 with
      | none => false
      | some v => sameRows (D p.2) (D v)) := by
  unfold KV at ra
  induction ra with
  | nil => intro _; exact .nil
  | @cons p q ps qs h t ih =>
    intro hp
    obtain ⟨h1, h2⟩ := h
    obtain ⟨k, v⟩ := q
    have h1' : p.1 = k := h1
    have rr := rb.val p.1
    have ih' := ih fun p' hm => hp p' (List.mem_cons_of_mem _ hm)
    rw [List.all_cons]
    cases e : valV ls p.1 with
    | none =>
      rw [e] at rr
      have hn : valueAt vb p.1 = none := by
        cases e2 : valueAt vb p.1 with
        | none => rfl
        | some _ => rw [e2] at rr; exact (show False from rr).elim
      rw [h1'] at hn
      exact .miss hn
    | some y =>
      rw [e] at rr
      obtain ⟨u, hy, ry⟩ := rr.some_of
      rw [h1'] at hy
      have hy2 : ∃ q ∈ ls, q.2 = y := by
        unfold valV at e
        cases e3 : ls.find? fun kv => decide (kv.1 = p.1) with
        | none => rw [e3] at e; cases e
        | some q => rw [e3] at e; exact ⟨q, List.mem_of_find?_eq_some e3, Option.some.inj e⟩
      obtain ⟨z, hz, rfl⟩ := hy2
      obtain ⟨q1, e1, g1⟩ := hp p List.mem_cons_self
      obtain ⟨q2, e2, g2⟩ := hb z hz
      have r1 : v = Value.ref q1 := by
        have : RelV p.2 v := h2
        rw [e1] at this
        exact this
      have r2 : u = Value.ref q2 := by
        rw [e2] at ry
        exact ry
      rw [r2] at hy
      have hh := eqIn_rows I hu g1 g2
      rw [← r1] at hh
      exact .hit hy hh ih'
def rEqRR : R2 := fun x y H Q => ∃ (a b : Addr) (ks ls : List (Key × V)) (D : V → List KRow), x = .ref a ∧ y = .ref b ∧ H a = some (.dK ks) ∧ H b = some (.dK ls) ∧ (∀ p ∈ ks, rowsIn H p.2 (D p.2)) ∧ (∀ p ∈ ls, rowsIn H p.2 (D p.2)) ∧ Q (.bl (eqRR D ks ls)) H
theorem op_eqRR {X : Cx} (hu : X.A.units + 65 < cLine) : OpR X (compareOp .Eq) rEqRR := by
  intro pins s σ H x y v u Q I rx ry h
  obtain ⟨a, b, ks, ls, D, rfl, rfl, ea, eb, ha, hb, q⟩ := h
  obtain rfl : v = Value.ref a := rx
  obtain rfl : u = Value.ref b := ry
  obtain ⟨_, ya, va, ra, da⟩ := (show ObjOk X.prog X.w H s.heap a (.dK ks) from I.hok a _ ea)
  obtain ⟨_, yb, vb, rb, db⟩ := (show ObjOk X.prog X.w H s.heap b (.dK ls) from I.hok b _ eb)
  refine PySem.W.keq_eqIn (knd := mixKind X.prog X.w) ya yb da db (by omega) (fun _ => hitsRR I (by show X.A.units + 1 + 2 < cLine; omega) D rb hb ra ha) (fin_bl I q ?_)
  unfold eqRR
  rw [ra.length, rb.length]
end
end L2
namespace TM
open PySem PySem.Spec PyProof.Rows L2
/-! ### try with several clauses 'except C as n' -/
/-- behind a clause the slot of its name is bare again -/
def gone (D : Ends) (i : Nat) : Ends := ⟨fun σ H => D.nx (σ.set i none) H, D.rt, fun σ H => D.bk (σ.set i none) H, fun σ H => D.ct (σ.set i none) H⟩
abbrev Clause := Value × Nat × (Addr → Value → Option Addr → TS)
/-- what the clauses wish of an exception, one after the other -/
def wish (K : PySem.W.Frag) (Wout : WX) (D : Ends) : List Clause → WX
  | [] => Wout
  | q :: rest => fun cls d σ H => ∃ b, PySem.W.exmOne K cls q.1 = some b ∧ (b = true → ∀ a, H a = none → q.2.2 a cls d (gone D q.2.1) (σ.set q.2.1 (some (.ref a))) H) ∧ (b = false → wish K Wout D rest cls d σ H)
inductive Clauses (X : Cx) : List ExceptHandler → List Clause → Prop
  | nil : Clauses X [] []
  | cons {x n : Str} {c : Value} {i : Nat} {ts : Addr → Value → Option Addr → TS} {b₀ : Stmt} {suite : List Stmt} {np cpos : Pos} {more : List ExceptHandler} {l : List Clause} (at_ : X.N[i]? = some n) (loc : X.env.kindOf n = some .local) (hc : Names X x c)
      (body : ∀ (a : Addr) (oe : Obj) (cls : Value) (d : Option Addr) (pn : List (Addr × Obj)), Zc cls d oe → (∃ vs, oe.data = .fields vs) → PSs (X.suite a ((a, oe) :: pn)) (b₀ :: suite) (ts a cls d)) (rest : Clauses X more l) :
      Clauses X (.ExceptHandler (some (.Name x np)) (some n) (b₀ :: suite) cpos :: more) ((c, i, ts) :: l)
theorem Clauses.one {X : Cx} {x n : Str} {c : Value} {i : Nat} {ts : Addr → Value → Option Addr → TS} {b₀ : Stmt} {suite : List Stmt} {np cpos : Pos} {more : List ExceptHandler} {l : List Clause} (rest : Clauses X more l) (at_ : X.N[i]? = some n) (loc : X.env.kindOf n = some .local) (hc : Names X x c)
    (body : ∀ (a : Addr) (oe : Obj) (cls : Value) (d : Option Addr) (pn : List (Addr × Obj)), Zc cls d oe → (∃ vs, oe.data = .fields vs) → PSs (X.suite a ((a, oe) :: pn)) (b₀ :: suite) (ts a cls d)) : Clauses X (.ExceptHandler (some (.Name x np)) (some n) (b₀ :: suite) cpos :: more) ((c, i, ts) :: l) := .cons at_ loc hc body rest
section
variable {X : Cx}
theorem ps_try_clauses {body : List Stmt} {h₀ : ExceptHandler} {hds : List ExceptHandler} {l : List Clause} {pos : Pos} {tb : WX → TS} {Wout : WX} (hs : X.stack = X.env :: X.outer) (hf : X.env.frame = some X.env.locals) (hN : X.N.Nodup) (tk : Takes X Wout)
    (hh : Clauses X (h₀ :: hds) l)
    (hb : ∀ (W : WX) (pn : List (Addr × Obj)) (xe : Value → Shared → Prop), Takes (X.tr pn xe) W → PassesOwn (model X.prog X.w) X.A X.env xe → PSs (X.tr pn xe) body (tb W)) :
    PS X (.Try body (h₀ :: hds) [] [] pos) (fun D σ H => tb (wish X.K Wout D l) D σ H) := by
  refine ⟨fun pins s σ H D I want => ?_⟩
  have iok := I.ok
  have frames : X.A.frames = some (X.env :: X.outer) := iok.frames.trans (by rw [hs])
  refine wpAny_Try_except (wpAny_mono ((hb (wish X.K Wout D l) (X.pn ++ pins) (fun e z₁ => wpAny (model X.prog X.w) X.A (noteFrame e X.env) (fun _ z₂ => wpAny (model X.prog X.w) X.A (setFlight e none) (fun _ z₃ =>
    wpAny (model X.prog X.w) X.A (handleBy e X.env (h₀ :: hds)) (SP X pins D) X.xe z₃) X.xe z₂) X.xe z₁) (fun thrown t caught => ?_) PassesOwn.looking).run [] s σ H D (I.toTry _) want) (fun out t fine => ?_) fun _ _ z => z)
  · obtain ⟨a, B, t0, pins', σ', H', cls, d, rfl, inv0, nb, up0, air, na, os, ag, wished⟩ := caught
    have inv : Inv X pins σ' H' t0 := inv0.ofTry iok
    rw [hs] at air
    show wpAny (model X.prog X.w) X.A (noteFrame (.ref a) X.env) _ _ _
    refine Sky.land Zc.steady frames hf air fun g fl upg => ?_
    have invg : Inv X pins σ' H' { t with heap := g } := inv.landed nb fl.1 (up0.trans upg) os ag
    obtain ⟨oe, us, oeg, zc, dat⟩ := fl.there
    have apart : a ∉ frs (X.env :: X.outer) := fun hm => by
      obtain ⟨_, o2, o2g, no⟩ := fl.2.2.1.mem hm
      cases oeg.symm.trans o2g
      exact no _ dat
    have out : ∀ e ∈ X.env :: X.outer, ∀ q, e.frame = some q → a ≠ q := fun e he q hq z => apart (List.mem_filterMap.mpr ⟨e, he, by rw [hq, z]⟩)
    have nloc : a ≠ X.env.locals := out _ List.mem_cons_self _ hf
    have nfs : a ∉ X.fs := fun hm => by
      obtain ⟨e, he, q⟩ := List.mem_filterMap.mp hm
      exact out e (List.mem_cons_of_mem _ he) a q rfl
    have su := invg.suite oeg dat na nloc nfs
    suffices go : ∀ {hd : List ExceptHandler} {cl : List Clause}, Clauses X hd cl → wish X.K Wout D cl cls d σ' H' → wpAny (model X.prog X.w) X.A (handleBy (.ref a) X.env hd) (SP X pins D) X.xe { t with heap := g } from go hh wished
    intro hd cl ok
    induction ok with
    | nil =>
      intro want
      refine wpAny_handleBy_nil ?_
      obtain ⟨_, _, _, oe', us', T, _, _, oeg', _, dat', first', _⟩ := id fl
      unfold PySem.passOn
      refine wpAny_bind (wpAny_field oeg' dat' first' ?_)
      have isT : ¬ ((Value.ref T == Value.none) = true) := by simp
      rw [if_neg isT]
      have thrown : wpAny (model X.prog X.w) X.A (setFlight (.ref a) X.env.frame) (fun _ z => wpAny (model X.prog X.w) X.A (throw (.ref a) : Sem Flow) (SP X pins D) X.xe z) X.xe { t with heap := g } := by
        rw [hf]
        exact HandSPX.setFlight_upZ fl fun g4 air4 up4 => wpAny_throw (tk _ _ ⟨a, B, t0, pins, σ', H', cls, d, rfl, inv, nb, (up0.trans upg).trans up4, .inr (.inr (by rw [hs]; exact air4)), na, os, ag, want⟩)
      first
        | exact wpAny_bind (wpAny_pure (wpAny_bind thrown))
        | exact wpAny_bind thrown
    | @cons x n c i ts b₀ suite np cpos more rest' at_ loc hc bodyOk rest ih =>
      intro want
      obtain ⟨b, told, yes, no⟩ := want
      refine wpAny_handleBy_cons (codeAny_handlers_test ?_) (by intro q; cases q)
      have look : PySem.W.Looks (model X.prog X.w) g (typeOf (.ref a)) cls := fun A Q E s k q => wpAny_typeOf_ref (k _ _ oeg) (by rw [zc.1]; exact q)
      have asked := PySem.W.exm_one (M := model X.prog X.w) invg.kIn look told
      have named : ∀ {Q : Value → Shared → Prop} {E : Value → Shared → Prop}, Q c { t with heap := g } → wpAny (model X.prog X.w) (X.A.mark (some (.ref a))) (eval (.Name x np) X.env) Q E { t with heap := g } := fun {Q E} q => by
        obtain ⟨hg, dbg, hm | ⟨hm, hv, nn⟩⟩ := hc
        · exact ld_glob (X := X.suite a ((a, oe) :: (X.pn ++ pins))) su hg hm q dbg
        · exact ld_blt (X := X.suite a ((a, oe) :: (X.pn ++ pins))) su hg hm hv q nn dbg
      refine named (asked.here ?_)
      cases b with
      | false => exact ih (no rfl)
      | true =>
        refine codeAny_handlers_suite_as (HandSPX.lands_againZ fl fun g4 fl4 up4 => ?_)
        have inv4 : Inv X pins σ' H' { t with heap := g4 } := inv.landed nb fl4.1 ((up0.trans upg).trans up4) os ag
        obtain ⟨oe4, us4, oeg4, zc4, dat4⟩ := fl4.there
        have su4 := inv4.suite oeg4 dat4 na nloc nfs
        refine store_ok (X := X.suite a ((a, oe4) :: (X.pn ++ pins))) (v := .ref a) su4 hN at_ (.inl loc) rfl (fun t5 su5 => ?_) (.inr loc)
        have bare : ∀ {σ6 : L2.St} {H6 : Hp} {t6 : Shared} {Q : Shared → Prop}, Inv (X.suite a ((a, oe4) :: (X.pn ++ pins))) [] σ6 H6 t6 → (∀ t7, Inv X pins (σ6.set i none) H6 t7 → Q t7) →
            wpAny (model X.prog X.w) X.A (do bindName X.env n .none; unbindBehindTheSuite X.env n cpos) (fun _ t7 => Q t7) X.xe t6 := fun {σ6 H6 t6 Q} su6 hq => gone_ok (su6.unsuite iok) hN at_ loc hq
        refine wpAny_mono ((bodyOk a oe4 cls d (X.pn ++ pins) zc4 ⟨_, dat4⟩).run [] t5 _ H' _ su5 (yes rfl a na)) (fun out t6 end6 => ?_) fun _ _ z => z.elim
        cases out with
        | next => obtain ⟨_, _, su6, q6⟩ := end6; exact bare su6 fun _ inv7 => ⟨_, _, inv7, q6⟩
        | brk => obtain ⟨_, _, su6, q6⟩ := end6; exact bare su6 fun _ inv7 => ⟨_, _, inv7, q6⟩
        | cont => obtain ⟨_, _, su6, q6⟩ := end6; exact bare su6 fun _ inv7 => ⟨_, _, inv7, q6⟩
        | ret u => obtain ⟨_, _, _, su6, r6, q6⟩ := end6; exact bare su6 fun _ inv7 => ⟨_, _, _, inv7, r6, q6⟩
  · cases out with
    | next => obtain ⟨_, _, inv, q⟩ := fine; exact wpAny_execs_nil ⟨_, _, inv.ofTry iok, q⟩
    | brk => obtain ⟨_, _, inv, q⟩ := fine; exact ⟨_, _, inv.ofTry iok, q⟩
    | cont => obtain ⟨_, _, inv, q⟩ := fine; exact ⟨_, _, inv.ofTry iok, q⟩
    | ret u => obtain ⟨_, _, _, inv, r, q⟩ := fine; exact ⟨_, _, _, inv.ofTry iok, r, q⟩
end
end TM
namespace L2
open PySem PySem.Spec PyProof.Rows
/-! ### C(), an own error without a def of its own that makes it -/
theorem pmk_own0 {X : Cx} {C : Addr} {bmB : List Value} {B newId initId : String} {x : Str} {p pos : Pos} (F : ExcBaseFacts B newId initId bmB) (q : PySem.W.excIn X.K C bmB newId = true) (gC : X.mg x = some (.ref C))
    (kC : PySem.W.keepIn X.K (.ref C) = true) (r : Raises X (.ref C)) (hg : Gl X x) (hdb : (x == ("__debug__" : Str)) = false := by decide) :
    PMk X (.Call (.Name x p) [] [] pos) (fun _ H Q => Q (.ref C) none H) := by
  intro pins s σ H Q I h
  refine wpAny_Call_Name_kw (ld_glob I hg gC ?_ hdb)
  refine PySem.W.callWith_K0 I.kIn kC ?_
  show wpAny _ _ (call (.ref C) []) _ _ _
  obtain ⟨bm, N, nm, qn, bs, hdct, sn, sub, ab, col, dd, k0, k1, k2, k3, k5, mN, hC, hN, hni, T⟩ := exc_obj I.kIn q
  exact wpAny_call_exc_subT F T hC hN hni (fun h' e hm => mk_of I hm r h (I.hok.gone hm.new)) (Nat.zero_le _)
end L2
namespace L2
open PySem PySem.Spec PyProof.Rows
/-! ### a != b of two objects whose class has its own ==, and no own != -/
section
variable {M : Model} {prog : Program} {w : World} {A : Around} {E : Value → Shared → Prop} {s : Shared} {K : PySem.W.Frag} {x y C f : Addr} {ox : Obj} {od : Option Obj}
theorem ne_asked {args : List Value} {Q : Option Value → Shared → Prop} (X : K.In s.heap) (I : PySem.W.InstAt s.heap x ox C od) (hs : PySem.W.findIn K (.ref C) "__ne__" = some (some (.builtin "object.__ne__")))
    (h : wpAny M A (call (.builtin "object.__ne__") (.ref x :: args)) (fun v => Q (some v)) E s) : wpAny M A (callSpecialIfBound? (.ref x) "__ne__" args) Q E s := by
  simp only [callSpecialIfBound?, bindSpecialIfBound?]
  have tail : wpAny M A (call (.builtin "object.__ne__") ([.ref x] ++ args) >>= fun v => pure (some v)) Q E s := wpAny_bind (wpAny_mono h (fun _ _ q => wpAny_pure q) fun _ _ q => q)
  refine wpAny_holding (wpAny_bind (wpAny_bind (wpAny_bind (I.type.here ((PySem.W.looks_findIn X hs).here (wpAny_bind (wpAny_askSetting (wpAny_ite ?_))))))))
  split
  case isFalse => exact wpAny_tryCatch (wpAny_bind (wpAny_of_eq (F.cmp_object.ne.bind _) (wpAny_pure (by exact tail))))
  case isTrue => exact wpAny_bind (wpAny_of_eq (F.cmp_object.ne.bind _) (wpAny_pure (by exact tail)))
theorem ne_told {Q : Fin → Shared → Prop} (X : K.In s.heap) (I : PySem.W.InstAt s.heap x ox C od) (hu : A.units < cLine) (hs : PySem.W.findIn K (.ref C) "__eq__" = some (some (.ref f))) (hf : PySem.W.isFn K (.ref f) = true)
    (h : wpAny (model prog w) A (call (.ref f) [.ref x, .ref y]) (fun v s' => ∃ b, v = .bool b ∧ Q (.done (.ret (.bool (!b)))) s') E s) : wpAny (model prog w) A (Builtin.«object.__ne__» ⟨[.ref x, .ref y], []⟩) Q E s := by
  unfold Builtin.«object.__ne__»
  repeat (first
    | with_reducible refine wpAny_cRoomFor hu ?_
    | (refine wpAny_bind (m := callSpecialIfBound? (.ref x) (Str.ofString "__eq__") [.ref y]) (PySem.W.ifBound_K X I hs hf (wpAny_mono h (fun v s' hv => by
        obtain ⟨b, rfl, q⟩ := hv
        repeat (first | exact q | exact wpAny_pure q | (refine wpAny_bind (m := truthy (.bool _)) (wpAny_truthy_bool ?_)) | wp_step)) fun _ _ e => e)))
    | wp_step)
theorem ne_one {Q : Option Value → Shared → Prop} (X : K.In s.heap) (I : PySem.W.InstAt s.heap x ox C od) (hu : A.units + 1 < cLine) (hm : PySem.W.mroIn K C (.type "object") = some true) (hn : PySem.W.findIn K (.ref C) "__ne__" = some (some (.builtin "object.__ne__"))) (hs : PySem.W.findIn K (.ref C) "__eq__" = some (some (.ref f))) (hf : PySem.W.isFn K (.ref f) = true)
    (h : wpAny (model prog w) A.in1 (call (.ref f) [.ref x, .ref y]) (fun v s' => ∃ b, v = .bool b ∧ Q (some (.bool (!b))) s') E s) : wpAny (model prog w) A (tryCompare (.ref x) "__ne__" (.ref y)) Q E s := by
  simp only [tryCompare]
  refine wpAny_bind (ne_asked X I hn (wpAny_call (codeAny_call_builtin F.cmp_object.ne.plain F.cmpEntry_ne (PySem.W.check_slot F.cmpKind_ne F.cmpSplit_ne (I.type.andThen (PySem.W.looks_mroIn X hm)) (F.cmpArgs_ne _ _)
    (ne_told (A := A.in1) X I hu hs hf (wpAny_mono h (fun v s' hv => ?_) fun _ _ e => e))))))
  obtain ⟨b, rfl, q⟩ := hv
  first | exact ⟨b, rfl, wpAny_pure q⟩ | exact ⟨b, rfl, wpAny_pure (wpAny_pure q)⟩ | exact ⟨b, rfl, q⟩
theorem ne_rich {oy : Obj} {od' : Option Obj} {Q : Value → Shared → Prop} (X : K.In s.heap) (I : PySem.W.InstAt s.heap x ox C od) (J : PySem.W.InstAt s.heap y oy C od') (hu : A.units + 1 < cLine) (hm : PySem.W.mroIn K C (.type "object") = some true) (hn : PySem.W.findIn K (.ref C) "__ne__" = some (some (.builtin "object.__ne__"))) (hs : PySem.W.findIn K (.ref C) "__eq__" = some (some (.ref f))) (hf : PySem.W.isFn K (.ref f) = true)
    (h : wpAny (model prog w) A.in1 (call (.ref f) [.ref x, .ref y]) (fun v s' => ∃ b, v = .bool b ∧ Q (.bool (!b)) s') E s) : wpAny (model prog w) A (compareOp .NotEq (.ref x) (.ref y)) Q E s := by
  unfold compareOp richCompare
  simp only [oneThing_ref]
  refine wpAny_holding (wpAny_bind (wpAny_cRoomFor (Nat.lt_of_succ_lt hu) ?_))
  rw [cmpInfo_NotEq]
  dsimp only
  refine wpAny_bind (I.type.here (wpAny_bind (J.type.here ?_)))
  rw [show (Value.ref C != Value.ref C) = false from by simp]
  simp only [Bool.false_eq_true, if_false]
  refine wpAny_bind (wpAny_pure ?_)
  simp only [Bool.false_eq_true, if_false]
  refine wpAny_bind (ne_one X I hu hm hn hs hf (wpAny_mono h (fun v s' hv => ?_) fun _ _ e => e))
  obtain ⟨b, rfl, q⟩ := hv
  first | exact ⟨b, rfl, wpAny_pure q⟩ | exact ⟨b, rfl, wpAny_pure (wpAny_pure q)⟩
end
def rNeO (C : Addr) (sp : Sp) (E : XK) : R2 := fun x y H Q => ∃ (a b dx dy : Addr) (fs gs : List (Str × V)), x = .ref a ∧ y = .ref b ∧ H a = some (.ins C dx fs) ∧ H b = some (.ins C dy gs) ∧ sp [.ref a, .ref b] H (fun v H' => ∃ c, v = .bl c ∧ Q (.bl (!c)) H') E
theorem op_neO {X : Cx} {CX : CXT} {n : Nat} {C f : Addr} {fd : FuncData} {ps : List Str} {sp : Sp} {E : XK} (F : FnOk X.prog X.w X.K X.mg X.base CX n f fd ps sp) (hrm : Room (n + 1) X.A) (hu : X.A.units + 1 < cLine)
    (hm : PySem.W.mroIn X.K C (.type "object") = some true) (hn : PySem.W.findIn X.K (.ref C) "__ne__" = some (some (.builtin "object.__ne__"))) (hs : PySem.W.findIn X.K (.ref C) "__eq__" = some (some (.ref f))) (hf : PySem.W.isFn X.K (.ref f) = true) (hb : Binds X.K fd ps []) (hx : Passes CX X E) : OpR X (compareOp .NotEq) (rNeO C sp E) := by
  intro pins s σ H x y v u Q I rx ry h
  obtain ⟨a, b, dx, dy, fs, gs, rfl, rfl, ha, hb', hsp⟩ := h
  cases rx
  cases ry
  obtain ⟨mA, J, _⟩ := ins_get I.hok ha
  obtain ⟨mB, J', _⟩ := ins_get I.hok hb'
  obtain ⟨od, J, _⟩ := J.look
  obtain ⟨od', J', _⟩ := J'.look
  refine ne_rich I.kIn J J' hu hm hn hs hf (wpAny_mono (run_fn1 (E := fun _ => E) F hrm hb (pAt hx σ) I (us := [.ref a, .ref b]) (vs := [.ref a, .ref b]) (.cons rfl (.cons rfl .nil)) hsp) (fun r s' q => ?_) fun _ _ z => z)
  obtain ⟨w, H', I', rw', c, ew, q⟩ := q
  subst ew
  cases rw'
  exact ⟨c, rfl, .bl (!c), H', I', rfl, q⟩
end L2
namespace L2
open PySem PySem.Spec PyProof.Rows
/-- x = {..} on one line, x a local, the keys names or numbers -/
theorem ps_setDc {X : Cx} {i : Nat} {y : Str} {py : Pos} {kx vx tg iter : Expr} {ifs : List Expr} {scope : Scope} {own : List (Str × Nat)} {pos spos : Pos} {wi : TI} {g : TG} {tt : TT} {tk tv : TE} (hc : X.calm = true) (hN : X.N.Nodup) (hy : X.N[i]? = some y) (hyl : X.env.scope.names.lookup y = some .local)
    (hsw : swapsWith (.DictComp kx vx [⟨tg, iter, ifs, 0⟩] scope pos) (some (.Name y py)) spos.line X.env = pure true) (hi : PI X tg iter wi) (ok : BlkOk X.N X.env.scope scope own)
    (hg : ∀ s H C cl fp, PG (X.blk s H scope (compEnvC scope cl C X.env) fp) tg g) (ht : ∀ s H C cl fp, PTs (X.blk s H scope (compEnvC scope cl C X.env) fp) ifs tt)
    (hk : ∀ s H C cl fp, PE (X.blk s H scope (compEnvC scope cl C X.env) fp) kx tk) (he : ∀ s H C cl fp, PE (X.blk s H scope (compEnvC scope cl C X.env) fp) vx tv) (hs : ∀ x, foldedSetIterable iter X.env x = pure x := by intro _; rfl) :
    PS X (.Assign [.Name y py] (.DictComp kx vx [⟨tg, iter, ifs, 0⟩] scope pos) spos) (tAsg (tDc wi g tt tk tv (own.map (·.2))) (gName i)) := by
  refine ⟨fun pins s σ H D I h => ?_⟩
  rw [exec_Assign_Name_used _ _ _ _ hsw]
  refine wpAny_bind (wpAny_standAt (wpAny_bind ?_))
  show wpAny _ X.A (do let _ ← comprehension (.DictComp kx vx [⟨tg, iter, ifs, 0⟩] scope pos) scope X.env (firstIterPos [⟨tg, iter, ifs, 0⟩] pos) newDict false (eval iter X.env) (some (assign (.Name y py) X.env))) _ _ s
  have h : tDc wi g tt tk tv (own.map (·.2)) σ H (fun x H1 => gName i x σ H1 D.nx) := h
  refine wpAny_bind (thn (dc_core (Qf := fun _ s' => SP X pins D .next s') hc hN I hi ok hg ht hk he hs h fun L C s' m H' I' q hn f => ?_) fun _ s' hq => wpAny_pure (wpAny_pure hq))
  show wpAny _ _ (assign (.Name y py) X.env (.ref L)) _ _ _
  refine wpAny_assign_Name (store_ok2 (v := V.ref L) I' hN hy (.inl hyl) rfl (fun s2 I2 ⟨a, sb, ha⟩ => ?_) (.inr hyl))
  obtain ⟨f0, f1, f2, f3, f4, f5⟩ := f
  refine ⟨m, hn.sameBut sb (fun e => ha.elim (fun z => f1 (e.trans z)) fun z => f4 y a z e.symm), fun h3 sb3 => ?_⟩
  exact ⟨_, H', I2.turned (t' := s2.toks) (fun b o hb e => (sb3.2 b hb).trans e) f0 f1 f3 f4 f5, q⟩
end L2
namespace L2
open PySem PySem.Spec PyProof.Rows
/-- o.f, told without the block -/
theorem pe_fldK {X : Cx} {K : PySem.W.Frag} {e : Expr} {f : Str} {pos : Pos} {ta : TE} (hK : X.K = K) (he : PE X e ta) (hb : attributeBase e f X.env (eval e X.env) = eval e X.env) : PE X (.Attribute e f pos) (tFld K ta f) := by
  subst hK
  exact pe_fld he hb
end L2
namespace L2
open PySem PySem.Spec PyProof.Rows
/-! ### == of nested things: tuples, lists, dicts with names as keys, data at the leaves -/
inductive NEq (K : PySem.W.Frag) (H : Hp) : Nat → V → V → Bool → Prop
  | dat {n : Nat} {x y : V} {d e : PyData} : Dp K H x d → Dp K H y e → SeqAt.shaped d = true → SeqAt.shaped e = true → NEq K H n x y (PyData.eqv d e)
  | same {n : Nat} {p : Addr} : NEq K H n (.ref p) (.ref p) true
  | tup {n : Nat} {p q : Addr} {xs ys : List V} {e : Nat → Bool} : p ≠ q → H p = some (.tup xs) → H q = some (.tup ys) → (∀ (j : Nat) (x y : V), xs[j]? = some x → ys[j]? = some y → NEq K H n x y (e j)) →
      NEq K H (n + 1) (.ref p) (.ref q) ((List.range (min xs.length ys.length)).all e && xs.length == ys.length)
  | lst {n : Nat} {p q : Addr} {xs ys : List V} {e : Nat → Bool} : p ≠ q → H p = some (.lst xs) → H q = some (.lst ys) → xs.length = ys.length → (∀ (j : Nat) (x y : V), xs[j]? = some x → ys[j]? = some y → NEq K H n x y (e j)) →
      NEq K H (n + 1) (.ref p) (.ref q) ((List.range xs.length).all e)
  | lstL {n : Nat} {p q : Addr} {xs ys : List V} : p ≠ q → H p = some (.lst xs) → H q = some (.lst ys) → xs.length ≠ ys.length → NEq K H (n + 1) (.ref p) (.ref q) false
  | dct {n : Nat} {p q : Addr} {ks ls : List (Key × V)} {e : Key → Bool} : p ≠ q → H p = some (.dK ks) → H q = some (.dK ls) → (∀ (k : Key) (x y : V), (k, x) ∈ ks → valV ls k = some y → NEq K H n x y (e k)) →
      NEq K H (n + 1) (.ref p) (.ref q) (ks.length == ls.length && ks.all fun z => (valV ls z.1).isSome && e z.1)
theorem kv_all {ks ls : List (Key × V)} {va vb : List (Key × Value)} (rb : KV ls vb) (e : Key → Bool) (ra : KV ks va) : (va.all fun z => (valueAt vb z.1).isSome && e z.1) = ks.all fun z => (valV ls z.1).isSome && e z.1 := by
  unfold KV at ra
  induction ra with
  | nil => rfl
  | @cons p q ps qs h t ih =>
    rw [List.all_cons, List.all_cons, ih]
    have h1 : p.1 = q.1 := h.1
    have r := rb.val p.1
    rw [← h1]
    congr 1
    congr 1
    cases e1 : valV ls p.1 with
    | none =>
      rw [e1] at r
      cases e2 : valueAt vb p.1 with
      | none => rfl
      | some _ => rw [e2] at r; exact (show False from r).elim
    | some y =>
      rw [e1] at r
      obtain ⟨u, hu, _⟩ := r.some_of
      rw [hu]
      rfl
theorem kv_mem {ks : List (Key × V)} {va : List (Key × Value)} (ra : KV ks va) {k : Key} {u : Value} (h : (k, u) ∈ va) : ∃ x, (k, x) ∈ ks ∧ RelV x u := by
  unfold KV at ra
  induction ra with
  | nil => cases h
  | @cons p q ps qs hh t ih =>
    rcases List.mem_cons.mp h with e | hm
    · subst e
      obtain ⟨h1, h2⟩ := hh
      obtain ⟨pk, pv⟩ := p
      have h1 : pk = k := h1
      subst h1
      exact ⟨pv, List.mem_cons_self, h2⟩
    · obtain ⟨x, hx, r⟩ := ih hm
      exact ⟨x, List.mem_cons_of_mem _ hx, r⟩
section
variable {X : Cx} {pins : List (Addr × Obj)} {σ : L2.St} {H : Hp} {s : Shared}
theorem at_vals {xs : List V} {its : List Value} (r : Vals xs its) {j : Nat} (h : j < its.toArray.size) : ∃ x, xs[j]? = some x ∧ RelV x (its.toArray[j]'h) := by
  have hl : j < its.length := by simpa using h
  have hx : j < xs.length := by rw [Vals.length r]; exact hl
  obtain ⟨u, hu, ru⟩ := Vals.get r (List.getElem?_eq_getElem hx)
  rw [List.getElem?_eq_getElem hl] at hu
  cases hu
  exact ⟨_, List.getElem?_eq_getElem hx, by simpa using ru⟩
theorem dct_items (I : Inv X pins σ H s) {ks ls : List (Key × V)} {va vb : List (Key × Value)} {n : Nat} {e : Key → Bool} (ra : KV ks va) (rb : KV ls vb) (ih : ∀ (k : Key) (x y : V), (k, x) ∈ ks → valV ls k = some y → ∀ v u, RelV x v → RelV y u → PySem.W.EqTree X.prog X.w s n v u (e k)) :
    ∀ k v u, (k, v) ∈ va → valueAt vb k = some u → PySem.W.EqTree X.prog X.w s n v u (e k) := fun k v u hm hu => by
  obtain ⟨x, hx, rx⟩ := kv_mem ra hm
  have r := rb.val k
  rw [hu] at r
  cases e1 : valV ls k with
  | none => rw [e1] at r; exact (show False from r).elim
  | some y =>
    rw [e1] at r
    exact ih k x y hx e1 v u rx r
theorem NEq.tree (I : Inv X pins σ H s) {n : Nat} {x y : V} {b : Bool} (h : NEq X.K H n x y b) : ∀ v u, RelV x v → RelV y u → PySem.W.EqTree X.prog X.w s (n + 64) v u b := by
  induction h with
  | dat hd he sd se =>
    intro v u rx ry
    obtain ⟨as, r1⟩ := Dp.reads I _ _ _ hd rx
    obtain ⟨bs, r2⟩ := Dp.reads I _ _ _ he ry
    exact .leaf fun A hu => SeqAt.eqAt_reads _ _ A s v u as bs r1 r2 (SeqAt.canLay_of_shaped sd) (SeqAt.canLay_of_shaped se) (SeqAt.room_of_shaped sd (by omega))
  | same =>
    intro v u rx ry
    cases rx
    cases ry
    exact .same
  | tup hne hp hq _ ih =>
    intro v u rx ry
    cases rx
    cases ry
    obtain ⟨_, its, rv, ht⟩ := (show ObjOk X.prog X.w H s.heap _ (.tup _) from I.hok _ _ hp)
    obtain ⟨_, its', rv', ht'⟩ := (show ObjOk X.prog X.w H s.heap _ (.tup _) from I.hok _ _ hq)
    have t := PySem.W.EqTree.tuples (prog := X.prog) (w := X.w) (s := s) hne (show s.heap.IsTuple _ its.toArray from ht) (show s.heap.IsTuple _ its'.toArray from ht') (fun j h1 h2 => by
      obtain ⟨x, hx, r1⟩ := at_vals rv h1
      obtain ⟨y, hy, r2⟩ := at_vals rv' h2
      exact ih j x y hx hy _ _ r1 r2)
    rw [List.size_toArray, List.size_toArray, ← Vals.length rv, ← Vals.length rv'] at t
    rw [Nat.add_right_comm]
    exact t
  | lst hne hp hq hl _ ih =>
    intro v u rx ry
    cases rx
    cases ry
    obtain ⟨_, its, n1, rv, ht⟩ := (show ObjOk X.prog X.w H s.heap _ (.lst _) from I.hok _ _ hp)
    obtain ⟨_, its', n2, rv', ht'⟩ := (show ObjOk X.prog X.w H s.heap _ (.lst _) from I.hok _ _ hq)
    have t := PySem.W.EqTree.lists (prog := X.prog) (w := X.w) (s := s) hne (show s.heap.IsList _ its.toArray from ⟨_, ht, rfl, n1, rfl⟩) (show s.heap.IsList _ its'.toArray from ⟨_, ht', rfl, n2, rfl⟩) (by rw [List.size_toArray, List.size_toArray, ← Vals.length rv, ← Vals.length rv']; exact hl) (fun j h1 h2 => by
      obtain ⟨x, hx, r1⟩ := at_vals rv h1
      obtain ⟨y, hy, r2⟩ := at_vals rv' h2
      exact ih j x y hx hy _ _ r1 r2)
    rw [List.size_toArray, ← Vals.length rv] at t
    rw [Nat.add_right_comm]
    exact t
  | lstL hne hp hq hl =>
    intro v u rx ry
    cases rx
    cases ry
    obtain ⟨_, its, n1, rv, ht⟩ := (show ObjOk X.prog X.w H s.heap _ (.lst _) from I.hok _ _ hp)
    obtain ⟨_, its', n2, rv', ht'⟩ := (show ObjOk X.prog X.w H s.heap _ (.lst _) from I.hok _ _ hq)
    rw [Nat.add_right_comm]
    exact PySem.W.EqTree.listsLen hne (show s.heap.IsList _ its.toArray from ⟨_, ht, rfl, n1, rfl⟩) (show s.heap.IsList _ its'.toArray from ⟨_, ht', rfl, n2, rfl⟩) (by rw [List.size_toArray, List.size_toArray, ← Vals.length rv, ← Vals.length rv']; simpa using hl)
  | dct hne hp hq _ ih =>
    intro v u rx ry
    cases rx
    cases ry
    obtain ⟨_, ya, va, ra, da⟩ := (show ObjOk X.prog X.w H s.heap _ (.dK _) from I.hok _ _ hp)
    obtain ⟨_, yb, vb, rb, db⟩ := (show ObjOk X.prog X.w H s.heap _ (.dK _) from I.hok _ _ hq)
    have t := PySem.W.EqTree.dicts hne ya yb da db (dct_items I ra rb ih)
    rw [← ra.length, ← rb.length, kv_all rb _ ra] at t
    rw [Nat.add_right_comm]
    exact t
/-- at the top: data, tuples, lists or dicts -/
def rEqN (K : PySem.W.Frag) : R2 := fun x y H Q => ∃ (n : Nat) (b : Bool), n ≤ 8 ∧ (∀ p, x = .ref p → y ≠ .ref p) ∧ NEq K H n x y b ∧ Q (.bl b) H
theorem op_eqN (hu : X.A.units + 80 < cLine) : OpR X (compareOp .Eq) (rEqN X.K) := by
  intro pins s σ H x y v u Q I rx ry h
  obtain ⟨n, b, hn, hne, h, q⟩ := h
  cases h with
  | dat hd he sd se =>
    obtain ⟨as, r1⟩ := Dp.reads I _ x v hd rx
    obtain ⟨bs, r2⟩ := Dp.reads I _ y u he ry
    exact SeqAt.compareEq_shaped r1 r2 sd se (by omega) ⟨.bl _, H, I, rfl, q⟩
  | same => exact absurd rfl (hne _ rfl)
  | @tup n p p' xs ys e _ hp hq hh =>
    cases rx
    cases ry
    obtain ⟨_, its, rv, ht⟩ := (show ObjOk X.prog X.w H s.heap _ (.tup _) from I.hok _ _ hp)
    obtain ⟨_, its', rv', ht'⟩ := (show ObjOk X.prog X.w H s.heap _ (.tup _) from I.hok _ _ hq)
    refine PySem.W.eq_tuplesT (n := n + 64) (e := e) (show s.heap.IsTuple p its.toArray from ht) (show s.heap.IsTuple p' its'.toArray from ht') (fun j h1 h2 => ?_) (by omega) (fin_bl I q ?_)
    · obtain ⟨x, hx, r1⟩ := at_vals rv h1
      obtain ⟨y, hy, r2⟩ := at_vals rv' h2
      exact (hh j x y hx hy).tree I _ _ r1 r2
    · rw [List.size_toArray, List.size_toArray, ← Vals.length rv, ← Vals.length rv']
  | @lst n p p' xs ys e _ hp hq hl hh =>
    cases rx
    cases ry
    obtain ⟨_, its, n1, rv, ht⟩ := (show ObjOk X.prog X.w H s.heap _ (.lst _) from I.hok _ _ hp)
    obtain ⟨_, its', n2, rv', ht'⟩ := (show ObjOk X.prog X.w H s.heap _ (.lst _) from I.hok _ _ hq)
    refine PySem.W.eq_listsT (n := n + 64) (e := e) (show s.heap.IsList p its.toArray from ⟨_, ht, rfl, n1, rfl⟩) (show s.heap.IsList p' its'.toArray from ⟨_, ht', rfl, n2, rfl⟩) (by rw [List.size_toArray, List.size_toArray, ← Vals.length rv, ← Vals.length rv']; exact hl) (fun j h1 h2 => ?_) (by omega) (fin_bl I q ?_)
    · obtain ⟨x, hx, r1⟩ := at_vals rv h1
      obtain ⟨y, hy, r2⟩ := at_vals rv' h2
      exact (hh j x y hx hy).tree I _ _ r1 r2
    · rw [List.size_toArray, ← Vals.length rv]
  | lstL _ hp hq hl =>
    cases rx
    cases ry
    obtain ⟨_, its, n1, rv, ht⟩ := (show ObjOk X.prog X.w H s.heap _ (.lst _) from I.hok _ _ hp)
    obtain ⟨_, its', n2, rv', ht'⟩ := (show ObjOk X.prog X.w H s.heap _ (.lst _) from I.hok _ _ hq)
    exact (SeqAt.RcAt.lists_lengths (A := X.A) (show s.heap.IsList _ its.toArray from ⟨_, ht, rfl, n1, rfl⟩) (show s.heap.IsList _ its'.toArray from ⟨_, ht', rfl, n2, rfl⟩) (by rw [List.size_toArray, List.size_toArray, ← Vals.length rv, ← Vals.length rv']; simpa using hl) (by omega)) X.prog X.w _ _ (fin_bl I q rfl)
  | @dct n p p' ks ls e _ hp hq hh =>
    cases rx
    cases ry
    obtain ⟨_, ya, va, ra, da⟩ := (show ObjOk X.prog X.w H s.heap _ (.dK _) from I.hok _ _ hp)
    obtain ⟨_, yb, vb, rb, db⟩ := (show ObjOk X.prog X.w H s.heap _ (.dK _) from I.hok _ _ hq)
    refine PySem.W.eq_dictsT (n := n + 64) (e := e) ya yb da db (dct_items I ra rb fun k x y h1 h2 => (hh k x y h1 h2).tree I) (by omega) (fin_bl I q ?_)
    rw [← ra.length, ← rb.length, kv_all rb _ ra]
end
end L2
namespace L2
open PySem PySem.Spec PyProof.Rows
/-- isinstance(e, c), e the exception that the suite holds, made with no dict -/
theorem call_isX0 {X : Cx} {a D : Addr} {cls : Value} {oe : Obj} {d : Option Addr} {pn : List (Addr × Obj)} (C : ExcC X.K D) (hz : Zc cls d oe) (hf : ∃ vs, oe.data = .fields vs) :
    CallR (X.suite a ((a, oe) :: pn)) (.builtin "isinstance") (fun xs H Q => ∃ (c : V) (cv : Value) (b : Bool), cls = .ref D ∧ d = none ∧ xs = [.ref a, c] ∧ (∀ u, RelV c u → u = cv) ∧ PySem.W.kitOne X.K (.ref D) cv = some b ∧ Q (.bl b) H) := by
  intro pins s σ H xs us Q I r h
  obtain ⟨c, cv, b, rfl, rfl, rfl, hcv, e, q⟩ := h
  cases r with
  | cons rx rr =>
    cases rr with
    | cons rt rr =>
      cases rr
      cases rx
      have ec := hcv _ rt
      subst ec
      obtain ⟨hget, _⟩ := I.pin (a, oe) (List.mem_append.mpr (.inl List.mem_cons_self))
      obtain ⟨vs, hv⟩ := hf
      have J : PySem.W.InstAt s.heap a oe D none := ⟨hget, hz.1, by unfold PySem.W.notCls; rw [hv] <;> rfl, by rw [hz.2]; trivial⟩
      have hcl : (PySem.W.clsIn X.K D).isSome = true := by
        obtain ⟨cdD, hcD, _⟩ := PySem.W.any_some C.hd
        rw [hcD]
        rfl
      exact PySem.W.kia_one (PySem.W.kitx_exc hcl C.hg C.hk C.hs C.ha C.hn C.ht C.hm) I.kIn J e (fun z => nomatch z) fun tk => ⟨.bl b, H, I.kept (t' := tk) fun _ _ z => z, rfl, q⟩
end L2
namespace L2
open PySem PySem.Spec PyProof.Rows
/-! ### dicts whose keys are tuples of a text and a tuple of ints and texts -/
abbrev CK := Str × List L2.Key
abbrev NZ := NestedKey × Addr × Value
def kN : L2.Key → NestedKey
  | .inl i => .num i
  | .inr x => .text x
def nk (k : CK) : NestedKey := .tup [.text k.1, .tup (k.2.map kN)]
theorem kN_inj : ∀ {a b : L2.Key}, kN a = kN b → a = b
  | .inl i, .inl j, e => by cases e; rfl
  | .inl i, .inr y, e => nomatch (show NestedKey.num i = NestedKey.text y from e)
  | .inr x, .inl j, e => nomatch (show NestedKey.text x = NestedKey.num j from e)
  | .inr x, .inr y, e => by cases e; rfl
theorem kNs_inj : ∀ {a b : List L2.Key}, a.map kN = b.map kN → a = b
  | [], [], _ => rfl
  | [], _ :: _, e => by simp at e
  | _ :: _, [], e => by simp at e
  | x :: xs, y :: ys, e => by
    rw [List.map_cons, List.map_cons] at e
    injection e with e1 e2
    rw [kN_inj e1, kNs_inj e2]
theorem nk_inj {a b : CK} (e : nk a = nk b) : a = b := by
  obtain ⟨a1, a2⟩ := a
  obtain ⟨b1, b2⟩ := b
  unfold nk at e
  injection e with e
  injection e with e1 e2
  injection e1 with e1
  injection e2 with e2 _
  injection e2 with e2
  have e1 : a1 = b1 := e1
  have e2 : a2 = b2 := kNs_inj e2
  rw [e1, e2]
theorem kN_depth : ∀ ks : List L2.Key, NestedKey.depthAll (ks.map kN) = 0
  | [] => rfl
  | .inl i :: ks => by rw [List.map_cons, NestedKey.depthAll, kN_depth ks]; rfl
  | .inr i :: ks => by rw [List.map_cons, NestedKey.depthAll, kN_depth ks]; rfl
theorem nk_depth (k : CK) : (nk k).depth ≤ 8 := by
  unfold nk
  simp only [NestedKey.depth, NestedKey.depthAll, kN_depth]
  decide
def CkAt (H : Hp) (b : Addr) (k : CK) : Prop := ∃ c, H b = some (.tup [.str k.1, .ref c]) ∧ H c = some (.tup (k.2.map kV))
theorem CkAt.keeps {H H' : Hp} {b : Addr} {k : CK} (h : CkAt H b k) (ht : ∀ b ys, H b = some (.tup ys) → H' b = some (.tup ys)) : CkAt H' b k :=
  let ⟨c, h1, h2⟩ := h; ⟨c, ht _ _ h1, ht _ _ h2⟩
theorem kV_vinj {a b : L2.Key} (e : kV a = kV b) : a = b := kV_inj e
theorem CkAt.inj {H : Hp} {b : Addr} {k l : CK} (h : CkAt H b k) (g : CkAt H b l) : k = l := by
  obtain ⟨c, h1, h2⟩ := h
  obtain ⟨c', g1, g2⟩ := g
  rw [h1] at g1
  injection g1 with g1
  injection g1 with g1
  injection g1 with e1 e2
  injection e1 with e1
  injection e2 with e2 _
  injection e2 with e2
  subst e2
  rw [h2] at g2
  injection g2 with g2
  injection g2 with g2
  obtain ⟨k1, k2⟩ := k
  obtain ⟨l1, l2⟩ := l
  have e1 : k1 = l1 := e1
  have e2 : k2 = l2 := kVs_inj g2
  rw [e1, e2]
/-- the dict's own object -/
def ndF (w : World) (d : Addr) (zs : List NZ) : Heap → Prop := fun h => ∃ o es ep, h.get? d = some o ∧ o.ExactDict ∧ o.data = .dict es ep ∧ es.toList = zs.map (fun x => (⟨x.1.hash w, .ref x.2.1, x.2.2⟩ : DictEntry)) ∧ (zs.map (·.1)).Nodup
abbrev NT (H : Hp) : List (CK × V) → List NZ → Prop := Paired fun p q => q.1 = nk p.1 ∧ CkAt H q.2.1 p.1 ∧ RelV p.2 q.2.2
/-- at d such a dict, written or locked; one that may be written -/
def NDictR (w : World) (H : Hp) (d : Addr) (kvs : List (CK × V)) : Prop := ∃ zs, Rd H d (.ext (ndF w d zs)) ∧ (d == sysModules) = false ∧ kvs.length ≤ sizeLine ∧ NT H kvs zs
def NDict (w : World) (H : Hp) (d : Addr) (kvs : List (CK × V)) : Prop := ∃ zs, H d = some (.ext (ndF w d zs)) ∧ (d == sysModules) = false ∧ kvs.length ≤ sizeLine ∧ NT H kvs zs
def NDictL (w : World) (H : Hp) (d : Addr) (o : Obj) (kvs : List (CK × V)) : Prop := ∃ zs, H d = some (.frz o (.ext (ndF w d zs))) ∧ (d == sysModules) = false ∧ kvs.length ≤ sizeLine ∧ NT H kvs zs
theorem NDict.r {w : World} {H : Hp} {d : Addr} {kvs : List (CK × V)} (h : NDict w H d kvs) : NDictR w H d kvs := let ⟨zs, a, b, c, e⟩ := h; ⟨zs, .inl a, b, c, e⟩
theorem NDictL.r {w : World} {H : Hp} {d : Addr} {o : Obj} {kvs : List (CK × V)} (h : NDictL w H d o kvs) : NDictR w H d kvs := let ⟨zs, a, b, c, e⟩ := h; ⟨zs, .inr ⟨o, a⟩, b, c, e⟩
theorem NT.keeps {H H' : Hp} {kvs : List (CK × V)} {zs : List NZ} (r : NT H kvs zs) (ht : ∀ b ys, H b = some (.tup ys) → H' b = some (.tup ys)) : NT H' kvs zs :=
  Paired.mapP r fun _ _ z => ⟨z.1, z.2.1.keeps ht, z.2.2⟩
theorem NDict.keeps {w : World} {H H' : Hp} {d : Addr} {kvs : List (CK × V)} (h : NDict w H d kvs) (hd : H' d = H d) (ht : ∀ b ys, H b = some (.tup ys) → H' b = some (.tup ys)) : NDict w H' d kvs :=
  let ⟨zs, a, b, c, e⟩ := h; ⟨zs, by rw [hd]; exact a, b, c, e.keeps ht⟩
theorem NDictL.keeps {w : World} {H H' : Hp} {d : Addr} {o : Obj} {kvs : List (CK × V)} (h : NDictL w H d o kvs) (hd : H' d = H d) (ht : ∀ b ys, H b = some (.tup ys) → H' b = some (.tup ys)) : NDictL w H' d o kvs :=
  let ⟨zs, a, b, c, e⟩ := h; ⟨zs, by rw [hd]; exact a, b, c, e.keeps ht⟩
theorem NDict.same {w : World} {H H' : Hp} {d : Addr} {kvs : List (CK × V)} (h : NDict w H d kvs) (s : ∀ b o, H b = some o → H' b = some o) : NDict w H' d kvs :=
  let ⟨zs, a, b, c, e⟩ := h; ⟨zs, s _ _ a, b, c, e.keeps fun _ _ z => s _ _ z⟩
theorem CkAt.same {H H' : Hp} {b : Addr} {k : CK} (h : CkAt H b k) (s : ∀ b o, H b = some o → H' b = some o) : CkAt H' b k := h.keeps fun _ _ e => s _ _ e
theorem NDict.at_ {w : World} {H : Hp} {d : Addr} {kvs : List (CK × V)} (h : NDict w H d kvs) : ∃ φ, H d = some (.ext φ) := let ⟨_, a, _⟩ := h; ⟨_, a⟩
theorem NDict.len {w : World} {H : Hp} {d : Addr} {kvs : List (CK × V)} (h : NDict w H d kvs) : kvs.length ≤ sizeLine := let ⟨_, _, _, c, _⟩ := h; c
/-- locked and freed -/
theorem NDict.lock {w : World} {H : Hp} {d : Addr} {kvs : List (CK × V)} (h : NDict w H d kvs) : ∃ u, H d = some u ∧ Mut (some u) ∧ ∀ od, NDictL w (upd H d (.frz od u)) d od kvs := by
  obtain ⟨zs, a, b, c, e⟩ := h
  refine ⟨_, a, True.intro, fun od => ⟨zs, upd_same, b, c, e.keeps fun x ys hx => ?_⟩⟩
  rw [upd_ne (ne_of hx a (fun z => nomatch z))]
  exact hx
theorem NDict.free {w : World} {H H' : Hp} {d : Addr} {u : HO} {kvs : List (CK × V)} (h : NDict w H d kvs) (hu : H d = some u) (ht : ∀ b ys, H b = some (.tup ys) → H' b = some (.tup ys)) : NDict w (upd H' d u) d kvs := by
  obtain ⟨zs, a, b, c, e⟩ := h
  rw [a] at hu
  cases hu
  refine ⟨zs, upd_same, b, c, e.keeps fun x ys hx => ?_⟩
  rw [upd_ne (ne_of hx a (fun z => nomatch z))]
  exact ht _ _ hx
theorem nd_val : ∀ {kvs : List (CK × V)}, (kvs.map (·.1)).Nodup → ∀ {p : CK × V}, p ∈ kvs → valV kvs p.1 = some p.2
  | [], _, _, h => nomatch h
  | q :: kvs, nd, p, h => by
    rw [List.map_cons, List.nodup_cons] at nd
    rcases List.mem_cons.mp h with rfl | h
    · exact valV_pos rfl
    · rw [valV_neg fun e => nd.1 (by rw [e]; exact List.mem_map.mpr ⟨p, h, rfl⟩)]
      exact nd_val nd.2 h
theorem nd_none : ∀ {kvs : List (CK × V)} {k : CK}, k ∉ kvs.map (·.1) → valV kvs k = none
  | [], _, _ => rfl
  | q :: kvs, k, h => by
    rw [List.map_cons, List.mem_cons, not_or] at h
    rw [valV_neg fun e => h.1 e.symm]
    exact nd_none h.2
theorem NT.val {H : Hp} {kvs : List (CK × V)} {zs : List NZ} (r : NT H kvs zs) (k : CK) : RelO (valV kvs k) ((atKey zs (nk k)).map (·.2)) := by
  induction r with
  | nil => exact True.intro
  | @cons p q ps qs h t ih =>
    obtain ⟨h1, _, h2⟩ := h
    by_cases e : p.1 = k
    · have e' : q.1 = nk k := by rw [h1, e]
      have b : atKey (q :: qs) (nk k) = some q.2 := by simp [atKey, List.find?_cons, e']
      rw [valV_pos e, b]; exact h2
    · have e' : ¬ q.1 = nk k := fun z => e (nk_inj (h1.symm.trans z))
      have b : atKey (q :: qs) (nk k) = atKey qs (nk k) := by simp [atKey, List.find?_cons, e']
      rw [valV_neg e, b]; exact ih
theorem NT.repl {H : Hp} {kvs : List (CK × V)} {zs : List NZ} (r : NT H kvs zs) (k : CK) {y : V} {u : Value} (ry : RelV y u) :
    NT H (kvs.map fun kv => if kv.1 = k then (kv.1, y) else kv) (zs.map (putAt (nk k) u)) := by
  induction r with
  | nil => exact .nil
  | @cons p q ps qs h t ih =>
    rw [List.map_cons, List.map_cons]
    refine .cons ?_ ih
    obtain ⟨h1, h2, h3⟩ := h
    unfold putAt
    by_cases e : p.1 = k
    · rw [if_pos e, if_pos (by rw [h1, e])]; exact ⟨h1, h2, ry⟩
    · rw [if_neg e, if_neg (fun z => e (nk_inj (h1.symm.trans z)))]; exact ⟨h1, h2, h3⟩
theorem NT.put {H : Hp} {kvs : List (CK × V)} {zs : List NZ} (r : NT H kvs zs) (k : CK) {b : Addr} {y : V} {u : Value} (hb : CkAt H b k) (ry : RelV y u) : NT H (putK kvs k y) (storedH zs (nk k) b u) := by
  have e : (kvs.any fun kv => decide (kv.1 = k)) = (atKey zs (nk k)).isSome := by
    rw [valV_any, (r.val k).isSome_eq, Option.isSome_map]
  unfold putK storedH
  rw [e]
  by_cases q : (atKey zs (nk k)).isSome = true
  · rw [if_pos q, if_pos q]; exact r.repl k ry
  · rw [if_neg q, if_neg q]; exact Paired.snoc r ⟨rfl, hb, ry⟩
section
variable {P : Program} {w : World} {H : Hp} {h : Heap} {a b : Addr} {k : CK} {kvs : List (CK × V)} {zs : List NZ}
theorem flats {h : Heap} : ∀ {ks : List L2.Key} {us : List Value}, Vals (ks.map kV) us → NestedAll h (ks.map kN) us
  | [], _, r => by rw [List.map_nil] at r; cases r; exact .nil
  | .inl i :: ks, _, r => by
    rw [List.map_cons] at r
    cases r with
    | cons hh t =>
      obtain ⟨tk, rfl⟩ := hh
      exact .cons (.int _ _) (flats t)
  | .inr x :: ks, _, r => by
    rw [List.map_cons] at r
    cases r with
    | cons hh t =>
      obtain ⟨tk, rfl⟩ := hh
      exact .cons (.text _ _) (flats t)
theorem ck_is (ok : HOk P w H h) (e : CkAt H b k) : (nestedKind P w).is h (nk k) b := by
  obtain ⟨c, e1, e2⟩ := e
  obtain ⟨_, its, r, o, h1, h2, n, h3⟩ := (show ObjOk P w H h b (.tup [.str k.1, .ref c]) from ok b _ e1)
  obtain ⟨_, its', r', o', g1, g2, n', g3⟩ := (show ObjOk P w H h c (.tup (k.2.map kV)) from ok c _ e2)
  refine ⟨?_, nk_depth k⟩
  refine .tup h1 h2 h3 ?_
  cases r with
  | cons ra rb =>
    obtain ⟨t, rfl⟩ := ra
    cases rb with
    | cons rb rc =>
      cases rc
      cases rb
      exact .cons (.text _ _) (.cons (.tup g1 g2 g3 (by simpa using flats r')) .nil)
theorem nt_is (ok : HOk P w H h) (r : NT H kvs zs) : ∀ x ∈ zs, (nestedKind P w).is h x.1 x.2.1 := by
  induction r with
  | nil => intro x hx; exact nomatch hx
  | @cons p q ps qs hq t ih =>
    intro x hx
    rcases List.mem_cons.mp hx with e | hx
    · subst e
      rw [hq.1]
      exact ck_is ok hq.2.1
    · exact ih x hx
theorem nd_rd (ok : HOk P w H h) (e : Rd H a (.ext (ndF w a zs))) (r : NT H kvs zs) : h.DictOfH (nestedKind P w) a zs := by
  obtain ⟨⟨o, es, ep, h1, h2, h3, h4, h5⟩, _⟩ := (show ObjOk P w H h a (.ext (ndF w a zs)) from e.ok ok)
  exact ⟨o, es, ep, h1, h2, h3, h4, nt_is ok r, h5⟩
theorem nd_obj (H' : Hp) (dd : h.DictOfH (nestedKind P w) a zs) : ObjOk P w H' h a (.ext (ndF w a zs)) := by
  obtain ⟨o, es, ep, h1, h2, h3, h4, _, h5⟩ := dd
  exact ⟨⟨o, es, ep, h1, h2, h3, h4, h5⟩, ⟨o, h1⟩, fun h1' h2' ⟨o', es', ep', g1, g2, g3, g4, g5⟩ hk => ⟨o', es', ep', hk _ g1, g2, g3, g4, g5⟩⟩
end
section
variable {X : Cx} {pins : List (Addr × Obj)} {σ : L2.St} {H : Hp} {s : Shared} {a b d : Addr} {k : CK} {y v : V} {u r : Value} {kvs : List (CK × V)} {A : Around} {E : Value → Shared → Prop}
theorem nroom (hu : A.units + 9 < cLine) : (nestedKind X.prog X.w).room A.in1 := by show A.units + 1 + 8 < cLine; omega
theorem nd_getItem {Q : Value → Shared → Prop} (hu : A.units + 9 < cLine) (I : Inv X pins σ H s) (e : NDictR X.w H a kvs) (eb : CkAt H b k) (l : valV kvs k = some v) (h : ∀ w' s', Inv X pins σ H s' → RelV v w' → Q w' s') :
    wpAny (model X.prog X.w) A (getItem (.ref a) (.ref b)) Q E s := by
  obtain ⟨zs, e, hd, z, rel⟩ := e
  obtain ⟨w', hw, rw'⟩ := RelO.some_of (v := v) (o := (atKey zs (nk k)).map (·.2)) (by rw [← l]; exact rel.val k)
  obtain ⟨p, hp, hp2⟩ := Option.map_eq_some_iff.mp hw
  refine wpAny_getItem_heap (nroom hu) (ck_is I.hok eb) (nd_rd I.hok e rel) hp ?_
  rw [hp2]
  exact h w' _ (I.tok _) rw'
theorem nd_in {Q : Value → Shared → Prop} (hu : A.units + 9 < cLine) (I : Inv X pins σ H s) (e : NDictR X.w H a kvs) (eb : CkAt H b k) (h : ∀ s', Inv X pins σ H s' → Q (.bool (valV kvs k).isSome) s') :
    wpAny (model X.prog X.w) A (compareOp .In (.ref b) (.ref a)) Q E s := by
  obtain ⟨zs, e, hd, z, rel⟩ := e
  refine wpAny_in_heap (nroom hu) (ck_is I.hok eb) hd (nd_rd I.hok e rel) ?_
  have q := (rel.val k).isSome_eq
  rw [Option.isSome_map] at q
  rw [← q]
  exact h _ (I.tok _)
theorem nd_notIn {Q : Value → Shared → Prop} (hu : A.units + 9 < cLine) (I : Inv X pins σ H s) (e : NDictR X.w H a kvs) (eb : CkAt H b k) (h : ∀ s', Inv X pins σ H s' → Q (.bool (!(valV kvs k).isSome)) s') :
    wpAny (model X.prog X.w) A (compareOp .NotIn (.ref b) (.ref a)) Q E s := by
  obtain ⟨zs, e, hd, z, rel⟩ := e
  refine wpAny_notIn_heap (nroom hu) (ck_is I.hok eb) hd (nd_rd I.hok e rel) ?_
  have q := (rel.val k).isSome_eq
  rw [Option.isSome_map] at q
  rw [← q]
  exact h _ (I.tok _)
/-- the dict at a replaced: the new heap -/
theorem nd_wr {h' : Heap} {t' : Nat} {zs zs' : List NZ} {kvs' : List (CK × V)} (I : Inv X pins σ H s) (e : H a = some (.ext (ndF X.w a zs))) (hd : (a == sysModules) = false) (z : kvs'.length ≤ sizeLine) (rel : NT H kvs' zs') (hs : Heap.SameBut a s.heap h') (dd : h'.DictOfH (nestedKind X.prog X.w) a zs') :
    ∃ φ, Inv X pins σ (upd H a (.ext φ)) { s with heap := h', toks := t' } ∧ NDict X.w (upd H a (.ext φ)) a kvs' := by
  have he : ∃ q, h'.get? a = some q := let ⟨q, _, _, hq, _⟩ := dd; ⟨q, hq⟩
  refine ⟨ndF X.w a zs', d_write I (by rw [e]; exact True.intro) hs he (nd_obj _ dd), zs', upd_same, hd, z, rel.keeps fun c ys ec => ?_⟩
  rw [upd_ne (ne_of ec e (fun z => nomatch z))]
  exact ec
theorem nd_setItem {Q : Unit → Shared → Prop} (hu : A.units + 9 < cLine) (I : Inv X pins σ H s) (e : NDict X.w H a kvs) (eb : CkAt H b k) (hz : kvs.length < sizeLine) (rv : RelV v r)
    (h : ∀ φ s', NDict X.w (upd H a (.ext φ)) a (putK kvs k v) → Inv X pins σ (upd H a (.ext φ)) s' → Q () s') : wpAny (model X.prog X.w) A (setItem (.ref a) (.ref b) r) Q E s := by
  obtain ⟨zs, e, hd, z, rel⟩ := e
  have hl : (putK kvs k v).length ≤ sizeLine := by have := length_putK kvs k v; omega
  refine wpAny_setItem_heap (hsz := by rw [← Paired.length rel]; exact z) (nroom hu) (ck_is I.hok eb) (nd_rd I.hok (.inl e) rel) fun h' dd' hs => ?_
  obtain ⟨φ, I', nd⟩ := nd_wr I e hd hl (rel.put k eb rv) hs dd'
  exact h φ _ nd I'
theorem nd_set {Q : Unit → Shared → Prop} (hu : A.units + 9 < cLine) (I : Inv X pins σ H s) (e : NDict X.w H a kvs) (eb : CkAt H b k) (hz : kvs.length < sizeLine) (rv : RelV v r)
    (h : ∀ φ s', NDict X.w (upd H a (.ext φ)) a (putK kvs k v) → Inv X pins σ (upd H a (.ext φ)) s' → Q () s') : wpAny (model X.prog X.w) A (dictSet a (.ref b) r) Q E s := by
  obtain ⟨zs, e, hd, z, rel⟩ := e
  have hl : (putK kvs k v).length ≤ sizeLine := by have := length_putK kvs k v; omega
  refine wpAny_dictSet_heap (hsz := by rw [← Paired.length rel]; exact z) (show (nestedKind X.prog X.w).room A by show A.units + 8 < cLine; omega) (ck_is I.hok eb) (nd_rd I.hok (.inl e) rel) fun h' dd' hs => ?_
  obtain ⟨φ, I', nd⟩ := nd_wr I e hd hl (rel.put k eb rv) hs dd'
  exact h φ _ nd I'
theorem nd_empty (h : Heap) (P : Program) (w : World) : (h.push { cls := .type "dict", data := .dict #[] }).DictOfH (nestedKind P w) h.objs.size [] :=
  ⟨_, #[], 0, Heap.get?_push_size _ rfl, ⟨rfl, rfl, rfl⟩, rfl, rfl, (fun x hx => nomatch hx), List.nodup_nil⟩
theorem nd_new (I : Inv X pins σ H s) : ∃ φ, Inv X pins σ (upd H s.heap.objs.size (.ext φ)) { s with heap := s.heap.push { cls := .type "dict", data := .dict #[] } } ∧ NDict X.w (upd H s.heap.objs.size (.ext φ)) s.heap.objs.size [] :=
  ⟨ndF X.w s.heap.objs.size [], I.laid (a := s.heap.objs.size) (t' := s.toks) (fun _ _ q => Heap.get?_push_of_some _ q) (Nat.le_refl _) (nd_obj _ (nd_empty s.heap X.prog X.w)), [], upd_same, beq_eq_false_iff_ne.mpr (Ne.symm (Nat.ne_of_lt I.big)), Nat.zero_le _, .nil⟩
theorem nd_typeIs (I : Inv X pins σ H s) (e : NDictR X.w H a kvs) : s.TypeIs (.ref a) "dict" := let ⟨_, e, _, _, rel⟩ := e; (nd_rd (P := X.prog) I.hok e rel).typeIs
theorem nd_noDict (I : Inv X pins σ H s) (e : NDictR X.w H a kvs) : ∀ b, Value.ref a = .ref b → ∃ ob, s.heap.get? b = some ob ∧ ob.dict = none := fun b q => by
  cases q
  obtain ⟨_, e, _, _, rel⟩ := e
  obtain ⟨ob, _, _, h1, h2, _⟩ := nd_rd (P := X.prog) I.hok e rel
  exact ⟨ob, h1, h2.2.1⟩
end
theorem hu_of9 {A : Around} {k : Nat} (hr : Room k A) : A.units + 9 < cLine := Nat.lt_of_le_of_lt (Nat.add_le_add_left (by decide : 9 ≤ 64) _) hr.units
/-! readings and rules -/
def tNGet (w : World) (td ty : TE) : TE := fun σ H Q => td σ H fun x H1 => ty σ H1 fun y H2 => ∃ a b kvs k v, x = .ref a ∧ y = .ref b ∧ NDictR w H2 a kvs ∧ CkAt H2 b k ∧ valV kvs k = some v ∧ Q v H2
def tNIn (w : World) (ty td : TE) : TE := fun σ H Q => ty σ H fun y H1 => td σ H1 fun x H2 => ∃ a b kvs k, x = .ref a ∧ y = .ref b ∧ NDictR w H2 a kvs ∧ CkAt H2 b k ∧ Q (.bl (valV kvs k).isSome) H2
def tNNotIn (w : World) (ty td : TE) : TE := fun σ H Q => ty σ H fun y H1 => td σ H1 fun x H2 => ∃ a b kvs k, x = .ref a ∧ y = .ref b ∧ NDictR w H2 a kvs ∧ CkAt H2 b k ∧ Q (.bl (!(valV kvs k).isSome)) H2
def sNPut (w : World) (td ty tv : TE) : TS := fun D σ H => tv σ H fun v H1 => td σ H1 fun x H2 => ty σ H2 fun y H3 => ∃ a b kvs k, x = .ref a ∧ y = .ref b ∧ NDict w H3 a kvs ∧ CkAt H3 b k ∧ kvs.length < sizeLine ∧
  ∀ φ, NDict w (upd H3 a (.ext φ)) a (putK kvs k v) → D.nx σ (upd H3 a (.ext φ))
def tNNew (w : World) : TE := fun _ H Q => ∀ p φ, H p = none → NDict w (upd H p (.ext φ)) p [] → Q (.ref p) (upd H p (.ext φ))
section
variable {X : Cx} {o i e value : Expr} {pos pos' : Pos} {td ty tv : TE} {w : World}
theorem pe_nget (ew : X.w = w) (hu : X.A.units + 9 < cLine) (ho : PE X o td) (hi : PE X i ty) (hs : NoSl i) : PE X (.Subscript o i pos) (tNGet w td ty) := by
  subst ew
  refine ⟨fun pins s σ H Q I h => ?_⟩
  refine subD_of PySem.F.slot_dict_getitem.lookup hs (thn (ho.run pins s σ H _ I h) fun u s1 ⟨x, H1, I1, rx, q1⟩ => thn (hi.run pins s1 σ H1 _ I1 q1) fun iv s2 ⟨y, H2, I2, ry, a, b, kvs, k, v, ex, ey, g, eb, l, q2⟩ => ?_)
  subst ex ey
  obtain rfl : u = Value.ref a := rx
  obtain rfl : iv = Value.ref b := ry
  exact ⟨nd_typeIs I2 g, nd_getItem hu I2 g eb l fun w' s3 I3 rw' => ⟨v, H2, I3, rw', q2⟩⟩
theorem pc_nin (ew : X.w = w) (hu : X.A.units + 9 < cLine) (hi : PE X i ty) (ho : PE X o td) : PC X .In i o (tNIn w ty td) := by
  subst ew
  refine ⟨fun pins s σ H Q I h => ?_⟩
  refine thn (hi.run pins s σ H _ I h) fun iv s1 ⟨y, H1, I1, ry, q1⟩ => thn (ho.run pins s1 σ H1 _ I1 q1) fun u s2 ⟨x, H2, I2, rx, a, b, kvs, k, ex, ey, g, eb, q2⟩ => ?_
  subst ex ey
  obtain rfl : u = Value.ref a := rx
  obtain rfl : iv = Value.ref b := ry
  exact nd_in hu I2 g eb fun s3 I3 => ⟨.bl _, H2, I3, rfl, q2⟩
theorem pc_nnotin (ew : X.w = w) (hu : X.A.units + 9 < cLine) (hi : PE X i ty) (ho : PE X o td) : PC X .NotIn i o (tNNotIn w ty td) := by
  subst ew
  refine ⟨fun pins s σ H Q I h => ?_⟩
  refine thn (hi.run pins s σ H _ I h) fun iv s1 ⟨y, H1, I1, ry, q1⟩ => thn (ho.run pins s1 σ H1 _ I1 q1) fun u s2 ⟨x, H2, I2, rx, a, b, kvs, k, ex, ey, g, eb, q2⟩ => ?_
  subst ex ey
  obtain rfl : u = Value.ref a := rx
  obtain rfl : iv = Value.ref b := ry
  exact nd_notIn hu I2 g eb fun s3 I3 => ⟨.bl _, H2, I3, rfl, q2⟩
theorem ps_nput (ew : X.w = w) (hu : X.A.units + 9 < cLine) (ho : PE X o td) (hi : PE X i ty) (hv : PE X value tv) (hs : swapsWith value (some (.Subscript o i pos')) pos.line X.env = pure false) :
    PS X (.Assign [.Subscript o i pos'] value pos) (sNPut w td ty tv) := by
  subst ew
  refine ⟨fun pins s σ H D I h => ?_⟩
  refine wpAny_Assign_Subscript (thn (hv.run pins s σ H _ I h) fun r s1 ⟨v, H1, I1, rv, q1⟩ => thn (ho.run pins s1 σ H1 _ I1 q1) fun u s2 ⟨x, H2, I2, rx, q2⟩ => thn (hi.run pins s2 σ H2 _ I2 q2) fun iv s3 ⟨y, H3, I3, ry, a, b, kvs, k, ex, ey, g, eb, hz, q3⟩ => ?_) hs
  subst ex ey
  obtain rfl : u = Value.ref a := rx
  obtain rfl : iv = Value.ref b := ry
  exact nd_setItem hu I3 g eb hz rv fun φ s4 nd I4 => ⟨σ, _, I4, q3 φ nd⟩
theorem pe_nnew (ew : X.w = w) : PE X (.Dict [] [] pos) (tNNew w) := by
  subst ew
  refine ⟨fun pins s σ H Q I h => wpAny_Dict_empty ?_⟩
  obtain ⟨φ, I', nd⟩ := nd_new I
  exact ⟨.ref s.heap.objs.size, _, I', rfl, h _ φ (I.hok.fresh (Nat.le_refl _)) nd⟩
/-- d.clear() -/
def rNClear (w : World) : V → List V → Hp → VK → Prop := fun x xs H Q => ∃ a kvs, x = .ref a ∧ xs = [] ∧ NDict w H a kvs ∧ ∀ φ, NDict w (upd H a (.ext φ)) a [] → Q .non (upd H a (.ext φ))
theorem mt_nclear (ew : X.w = w) : MtR X "dict.clear" (rNClear w) := by
  subst ew
  intro pins s σ H x xs v us Q I rx rxs h
  obtain ⟨a, kvs, rfl, rfl, ⟨zs, e, hd, z, rel⟩, q⟩ := h
  cases rx
  cases rxs
  have dd := nd_rd (P := X.prog) I.hok (.inl e) rel
  have lz : zs.length ≤ sizeLine := by rw [← Paired.length rel]; exact z
  refine clear_keyed (knd := nestedKind X.prog X.w) (kvs := pairsH zs) ⟨zs, dd, rfl⟩ (fun h' hn hs => ?_) (by rw [pairsH_length]; exact lz)
  obtain ⟨ys, hy, ey⟩ := hn
  have ey' : ys = [] := by
    cases ys with
    | nil => rfl
    | cons _ _ => exact nomatch ey
  subst ey'
  obtain ⟨φ, I', nd⟩ := nd_wr (t' := s.toks) (kvs' := []) I e hd (Nat.zero_le _) .nil hs hy
  exact ⟨.non, _, I', rfl, q φ nd⟩
/-- len(d) -/
theorem call_nlen (ew : X.w = w) (hu : X.A.units + 9 < cLine) : MtR X "dict.__len__" (fun x xs H Q => ∃ a kvs, x = .ref a ∧ xs = [] ∧ NDictR w H a kvs ∧ Q (.int kvs.length) H) := by
  subst ew
  intro pins s σ H x xs v us Q I rx rxs h
  obtain ⟨a, kvs, rfl, rfl, ⟨zs, e, hd, z, rel⟩, q⟩ := h
  cases rx
  cases rxs
  have dd := nd_rd (P := X.prog) I.hok e rel
  refine len_keyed (knd := nestedKind X.prog X.w) (kvs := pairsH zs) hd ⟨zs, dd, rfl⟩ ?_
  rw [pairsH_length, ← Paired.length rel]
  exact ⟨.int kvs.length, H, I.tok _, ⟨_, rfl⟩, q⟩
/-- list(d) -/
def NKeys (H : Hp) (kvs : List (CK × V)) (bs : List Addr) : Prop := Paired (fun p b => CkAt H b p.1) kvs bs
theorem nKeys_of {H : Hp} {kvs : List (CK × V)} {zs : List NZ} (r : NT H kvs zs) : NKeys H kvs (zs.map fun x => x.2.1) := by
  unfold NKeys
  induction r with
  | nil => exact Paired.nil
  | cons h t ih => exact Paired.cons h.2.1 ih
theorem call_list_nd (ew : X.w = w) (hc : X.calm = true) : CallR X (.type "list") (fun xs H Q => ∃ d kvs, xs = [V.ref d] ∧ NDictR w H d kvs ∧ ∀ p bs, H p = none → NKeys H kvs bs → Q (.ref p) (upd H p (.lst (bs.map V.ref)))) := by
  subst ew
  intro pins s σ H xs us Q I r h
  obtain ⟨d, kvs, rfl, ⟨ks, hd, hs, z, pr⟩, q⟩ := h
  obtain ⟨u, rfl, rx⟩ := r.one
  cases rx
  obtain ⟨o, es, ep, ho, hx, hdt, he, hki, hn⟩ := nd_rd (P := X.prog) I.hok hd pr
  have l1 : es.size = ks.length := size_of_entries he
  have l2 : kvs.length = ks.length := Paired.length pr
  refine PySem.W.kdl_call (kdl_raw hs hx hdt) (I.ok.hd hc) ho (by omega) fun h' tk acc' c' kp e it => ?_
  have ea : acc'.toList = ks.map fun x => Value.ref x.2.1 := by
    have hl : acc'.toList.length = ks.length := by rw [Array.length_toList, it.1]; exact l1
    apply List.ext_getElem?
    intro j
    rw [List.getElem?_map]
    cases hj : acc'.toList[j]? with
    | none =>
      have h1 := List.getElem?_eq_none_iff.mp hj
      rw [List.getElem?_eq_none (by omega)]
      all_goals rfl
    | some v =>
      obtain ⟨en, hen, hv⟩ := it.2 j v (by rw [← Array.getElem?_toList]; exact hj)
      have qe := entry_at he j
      rw [hen] at qe
      cases hb : ks[j]? with
      | none =>
        rw [hb] at qe
        exact nomatch (show some en = none from qe)
      | some b =>
        rw [hb] at qe
        have e2 : en = entryOfKey (nestedKind X.prog X.w) b := Option.some.inj qe
        rw [hv, e2]
        all_goals rfl
  have eb : acc'.toList = (ks.map fun x => x.2.1).map Value.ref := by rw [ea, List.map_map]; all_goals rfl
  have rv : Vals ((ks.map fun x => x.2.1).map V.ref) acc'.toList := by rw [eb]; exact vals_refs _
  have hz : ((ks.map fun x => x.2.1).map V.ref).length ≤ sizeLine := by rw [List.length_map, List.length_map]; omega
  refine ⟨.ref s.heap.objs.size, _, I.laid (t' := tk) (o := .lst ((ks.map fun x => x.2.1).map V.ref)) kp (Nat.le_refl _) ?_, rfl, q _ _ (I.hok.fresh (Nat.le_refl _)) (nKeys_of pr)⟩
  exact ⟨hz, acc'.toList, c', rv, by rw [Array.toArray_toList]; exact e⟩
end
end L2
namespace L2
open PySem PySem.Spec PyProof.Rows
/-! ### the keys of a locked such dict, walked -/
def Itkn (w : World) (d : Addr) (o : Obj) (zs : List NZ) : It :=
  ⟨fun i H => (∃ kvs : List (CK × V), H d = some (.frz o (.ext (ndF w d zs))) ∧ (d == sysModules) = false ∧ NT H kvs zs) ∧ i < zs.length, fun i H x H' => H' = H ∧ ∃ z, zs[i]? = some z ∧ x = .ref z.2.1, fun i H => (∃ kvs : List (CK × V), H d = some (.frz o (.ext (ndF w d zs))) ∧ (d == sysModules) = false ∧ NT H kvs zs) ∧ zs.length ≤ i⟩
theorem frzN {X : Cx} {pins : List (Addr × Obj)} {σ : L2.St} {H : Hp} {s : Shared} {d : Addr} {o : Obj} {zs : List NZ} {kvs : List (CK × V)} (I : Inv X pins σ H s) (h : H d = some (.frz o (.ext (ndF X.w d zs)))) (rel : NT H kvs zs) :
    s.heap.get? d = some o ∧ o.ExactDict ∧ ∃ (es : Array DictEntry) (ep : Nat), o.data = .dict es ep ∧ es.size = zs.length ∧ ∀ (i : Nat) (z : NZ), zs[i]? = some z → ∃ en : DictEntry, es[i]? = some en ∧ en.key = .ref z.2.1 := by
  obtain ⟨hd, _⟩ := I.hok d _ h
  obtain ⟨o', es, ep, ho, hx, hdt, he, _⟩ := nd_rd (P := X.prog) I.hok (.inr ⟨o, h⟩) rel
  rw [hd] at ho
  cases ho
  refine ⟨hd, hx, es, ep, hdt, size_of_entries he, fun i z hz => ?_⟩
  have q := entry_at he i
  rw [hz] at q
  exact ⟨_, q, rfl⟩
section
variable {P : Program} {w : World} {K : PySem.W.Frag} {tg : Expr} {d : Addr} {o : Obj} {es : Array DictEntry} {ep : Nat}
theorem turn_keysN {zs : List NZ} (it : Addr) (hod : o.data = .dict es ep) : Turn P w K tg (Itkn w d o zs) [it] it (fun i h => h.IsKeyIter it d i zs.length ep) where
  mem := by simp
  obj := fun i h st b hb => by
    have e : b = it := by simpa using hb
    subst e
    obtain ⟨oi, e, c, dd⟩ := st
    exact ⟨oi, e, fun v z => by rw [dd] at z; cases z⟩
  keep := fun i h h' st k => st.at fun oi e => k it (by simp) oi e
  item := by
    intro X hP hw hK hc i pins s σ H E I hf st hg
    subst hP hw hK
    obtain ⟨⟨kvs, hd, hs, rel⟩, hi⟩ := hg
    obtain ⟨f0, f1, f2, f3, f4, f5⟩ := hf it (by simp)
    obtain ⟨hgd, hx, es', ep', hdt, hsz, ent⟩ := frzN I hd rel
    obtain ⟨rfl, rfl⟩ := dict_ep hod hdt
    obtain ⟨z, hz⟩ : ∃ p, zs[i]? = some p := ⟨zs[i], List.getElem?_eq_getElem hi⟩
    obtain ⟨en, hen, hkey⟩ := ent i z hz
    refine next_key_item st hgd hdt hsz hen fun h' st' sb => ?_
    have I1 : Inv X pins σ H { s with heap := h' } := I.turned (t' := s.toks) (fun b ob hb e => (sb.2 b hb).trans e) f0 f1 f3 f4 f5
    obtain ⟨oi, e, c, dd⟩ := id st'
    exact ⟨en.key, rfl, go_of (s := { s with heap := h' }) e c dd (by decide) ⟨.ref z.2.1, H, I1, hkey, ⟨rfl, z, hz, rfl⟩, st', fun b hb => (hf b hb).1⟩⟩
  done := by
    intro X hP hw hK hc i pins s σ H E I hf st hg
    subst hP hw hK
    obtain ⟨⟨kvs, hd, hs, rel⟩, hi⟩ := hg
    obtain ⟨f0, f1, f2, f3, f4, f5⟩ := hf it (by simp)
    obtain ⟨hgd, hx, es', ep', hdt, hsz, ent⟩ := frzN I hd rel
    obtain ⟨rfl, rfl⟩ := dict_ep hod hdt
    exact next_key_end (I.ok.hd hc) st hgd hdt hsz hi fun h' eb => ⟨rfl, I.turned (t' := s.toks) (fun b ob hb e => eb b ob hb e) f0 f1 f3 f4 f5⟩
  self := fun A i s Q E st h => by
    refine wpAny_pyIter_slot st.typeIs F.slot_dict_keyiterator_iter (wpAny_call_entry F.slot_dict_keyiterator_iter st.typeIs F.entry_dict_keyiterator_iter ?_ (F.args_dict_keyiterator_iter_1 _))
    show wpAny _ _ (ret (.ref it)) _ _ s
    exact wpAny_pure ⟨_, rfl, "dict_keyiterator", _, st.typeIs, F.slot_dict_keyiterator_next.lookup, h⟩
end
def iKeysN (w : World) (td : TE) : TI := fun σ H R => td σ H fun x H1 => ∃ d o zs kvs, x = .ref d ∧ H1 d = some (.frz o (.ext (ndF w d zs))) ∧ (d == sysModules) = false ∧ NT H1 kvs zs ∧ R (Itkn w d o zs) H1
theorem pi_keysN {X : Cx} {tg e : Expr} {td : TE} {w : World} (ew : X.w = w) (he : PE X e td) : PI X tg e (iKeysN w td) := by
  subst ew
  refine ⟨fun pins s σ H R I h => ?_⟩
  refine thn (he.run pins s σ H _ I h) fun u s1 ⟨x, H1, I1, rx, d, o, zs, kvs, ex, hd, hs, rel, q⟩ => ?_
  subst ex
  obtain rfl : u = Value.ref d := rx
  obtain ⟨hgd, hx, es, ep, hdt, hsz, ent⟩ := frzN I1 hd rel
  refine iter_keys hs hgd hx hdt (pi_one (tk := s1.toks) I1 _ (turn_keysN _ hdt) ⟨_, Heap.get?_push_size _ rfl, rfl, ?_⟩ q)
  rw [hsz] <;> rfl
theorem nt_get {H : Hp} {kvs : List (CK × V)} {zs : List NZ} (rel : NT H kvs zs) {i : Nat} {z : NZ} (h : zs[i]? = some z) : ∃ k v, kvs[i]? = some (k, v) ∧ CkAt H z.2.1 k := by
  have hl := Paired.length rel
  have hi : i < zs.length := (List.getElem?_eq_some_iff.mp h).1
  obtain ⟨p, hp⟩ : ∃ p, kvs[i]? = some p := ⟨kvs[i]'(by omega), List.getElem?_eq_getElem (by omega)⟩
  obtain ⟨b, hb, h1, h2, h3⟩ := paired_get rel hp
  rw [h] at hb
  cases hb
  exact ⟨p.1, p.2, hp, h2⟩
theorem walk_keysN {w : World} {d : Addr} {o : Obj} {zs : List NZ} {kvs : List (CK × V)} : Walk (Itkn w d o zs) kvs.length (fun H => H d = some (.frz o (.ext (ndF w d zs))) ∧ (d == sysModules) = false ∧ NT H kvs zs)
    (fun i H x H' => H' = H ∧ ∃ (k : CK) (v : V) (q : Addr), kvs[i]? = some (k, v) ∧ x = .ref q ∧ CkAt H q k) :=
  ⟨fun _ _ hi q => ⟨⟨kvs, q.1, q.2.1, q.2.2⟩, by rw [← Paired.length q.2.2]; exact hi⟩, fun _ q => ⟨⟨kvs, q.1, q.2.1, q.2.2⟩, Nat.le_of_eq (Paired.length q.2.2).symm⟩, fun i H x H' _ q y => by
    obtain ⟨e, z, hz, ex⟩ := y
    obtain ⟨k, v, hk, hc⟩ := nt_get q.2.2 hz
    exact ⟨e, k, v, z.2.1, hk, ex, hc⟩⟩
end L2
namespace L2
open PySem PySem.Spec PyProof.Rows
/-! ### == and != of two such dicts -/
def eqN (ks ls : List (CK × V)) (e : CK → Bool) : Bool := ks.length == ls.length && ks.all fun z => (valV ls z.1).isSome && e z.1
section
open PySem.W PySem.SeqAt
theorem neH_dicts {prog : Program} {w : World} {κ : Type} [DecidableEq κ] {knd : HeapKind prog w κ} {A : Around} {E : Value → Shared → Prop} {s : Shared} {a b : Addr} {ka kb : List (κ × Addr × Value)} {r : Bool} {Q : Value → Shared → Prop} (ha : (a == sysModules) = false) (hb : (b == sysModules) = false)
    (da : s.heap.DictOfH knd a ka) (db : s.heap.DictOfH knd b kb) (hr : knd.room A.in1) (hu : A.units < cLine) (hits : ka.length = kb.length → KeqHitsIn prog w A.in1 s (kb.map pairH) (ka.map pairH) r) (h : Q (.bool (!(ka.length == kb.length && r))) s) : wpAny (model prog w) A (richCompare .NotEq (.ref a) (.ref b)) Q E s := by
  have told : wpAny (model prog w) A.in1 (Builtin.Dict.samePairs "dict.__ne__" a b) (fun c s' => c = (ka.length == kb.length && r) ∧ s' = s) E s := samePairsH ha hb da db hr hits ⟨rfl, rfl⟩
  have ta := da.typeIs
  have tb := db.typeIs
  refine wpAny_richCompare_same_room (op := .NotEq) ta tb PySem.F.slot_dict_ne (wpAny_call_entry PySem.F.slot_dict_ne ta PySem.F.entry_dict_ne (s := s) ?_ (PySem.F.args_dict_ne_2 _ _)) hu
  show wpAny _ _ (Builtin.Dict.dictSlotArgs "__ne__" ⟨[.ref a, .ref b], []⟩ >>= _) _ _ s
  unfold Builtin.Dict.dictSlotArgs
  refine wpAny_bind <| wpAny_bind <| wpAny_notOrdered_dict ta <| wpAny_pure <| wpAny_bind <| wpAny_isInstance (T := "dict") tb PySem.F.sub_dict_dict ?_
  simp only [Bool.not_true, Bool.false_eq_true, if_false]
  refine wpAny_bind <| wpAny_pure <| wpAny_bind <| wpAny_pure <| wpAny_bind <| wpAny_mono told (fun c s' e => ?_) fun _ _ z => z
  obtain ⟨rfl, rfl⟩ := e
  exact wpAny_pure ⟨_, rfl, (fun x => nomatch x), by simpa using h⟩
end
section
variable {X : Cx} {pins : List (Addr × Obj)} {σ : L2.St} {H : Hp} {s : Shared}
theorem hitsN (I : Inv X pins σ H s) {n : Nat} {A : Around} (hu : A.units + (n + 65) < cLine) {e : CK → Bool} {ls : List (CK × V)} {zb : List NZ} (rb : NT H ls zb) : ∀ {ks : List (CK × V)} {za : List NZ}, NT H ks za → (∀ (k : CK) (x y : V), (k, x) ∈ ks → valV ls k = some y → NEq X.K H n x y (e k)) →
    PySem.W.KeqHitsIn X.prog X.w A s (zb.map pairH) (za.map pairH) (ks.all fun z => (valV ls z.1).isSome && e z.1)
  | [], _, r, _ => by cases r; exact .nil
  | p :: ps, _, r, hp => by
    cases r with
    | @cons _ q _ qs h t =>
      obtain ⟨h1, h2, h3⟩ := h
      have ih := hitsN I hu rb t fun k x y hm hv => hp k x y (List.mem_cons_of_mem _ hm) hv
      rw [List.all_cons, List.map_cons]
      have hv := rb.val p.1
      cases e1 : valV ls p.1 with
      | none =>
        rw [e1] at hv
        have hn : (atKey zb (nk p.1)).map (·.2) = none := RelO.none_of hv
        refine .miss (v := q.2.2) (k := q.1) ?_
        rw [valH, h1]
        exact hn
      | some y =>
        rw [e1] at hv
        obtain ⟨u, hy, ry⟩ := RelO.some_of hv
        have tr := (hp p.1 p.2 y List.mem_cons_self e1).tree I q.2.2 u h3 ry
        refine .hit (v := q.2.2) (k := q.1) (y := u) (by rw [valH, h1]; exact hy) (tr.at A (by omega)) ih
def rEqND (w : World) (K : PySem.W.Frag) (neg : Bool) : R2 := fun x y H Q => ∃ (a b : Addr) (ks ls : List (CK × V)) (n : Nat) (e : CK → Bool), n ≤ 8 ∧ x = .ref a ∧ y = .ref b ∧ NDictR w H a ks ∧ NDictR w H b ls ∧ (∀ (k : CK) (x y : V), (k, x) ∈ ks → valV ls k = some y → NEq K H n x y (e k)) ∧ Q (.bl (if neg then !eqN ks ls e else eqN ks ls e)) H
theorem op_eqND {w : World} (ew : X.w = w) (hu : X.A.units + 80 < cLine) : OpR X (compareOp .Eq) (rEqND w X.K false) := by
  subst ew
  intro pins s σ H x y v u Q I rx ry h
  obtain ⟨a, b, ks, ls, n, e, hn, rfl, rfl, ⟨za, ea, ha, _, ra⟩, ⟨zb, eb, hb, _, rb⟩, hp, q⟩ := h
  cases rx
  cases ry
  refine rcH_dicts (knd := nestedKind X.prog X.w) ha hb (nd_rd I.hok ea ra) (nd_rd I.hok eb rb) (nroom (by omega)) (by omega) (fun _ => hitsN I (show X.A.units + 1 + _ < cLine by omega) rb ra hp) (fin_bl I q ?_)
  unfold eqN
  rw [Paired.length ra, Paired.length rb]
  rfl
theorem op_neND {w : World} (ew : X.w = w) (hu : X.A.units + 80 < cLine) : OpR X (compareOp .NotEq) (rEqND w X.K true) := by
  subst ew
  intro pins s σ H x y v u Q I rx ry h
  obtain ⟨a, b, ks, ls, n, e, hn, rfl, rfl, ⟨za, ea, ha, _, ra⟩, ⟨zb, eb, hb, _, rb⟩, hp, q⟩ := h
  cases rx
  cases ry
  refine neH_dicts (knd := nestedKind X.prog X.w) ha hb (nd_rd I.hok ea ra) (nd_rd I.hok eb rb) (nroom (by omega)) (by omega) (fun _ => hitsN I (show X.A.units + 1 + _ < cLine by omega) rb ra hp) (fin_bl I q ?_)
  unfold eqN
  rw [Paired.length ra, Paired.length rb]
  rfl
end
end L2
namespace DcN
open PySem PySem.Spec PyProof.Rows L2
/-! ### {k: v for target in iter if ..} whose keys are such tuples -/
section
variable {X : Cx}
def tD (w : World) (wi : TI) (g : TG) (tt : TT) (tk tv : TE) (vs : List Nat) : TE := fun σ H Q => wi σ H fun J H1 => ∀ D φ0, H1 D = none → NDict w (upd H1 D (.ext φ0)) D [] → ∃ W : Nat → Nat → Hp → Prop, (∃ m, W 0 m (upd H1 D (.ext φ0))) ∧ ∀ i m H, W i m H →
  (J.stop i H ∧ Q (.ref D) H) ∨ (J.go i H ∧ ∃ Nx : Hp → Prop, (∀ H', Nx H' → ∃ m', m' < m ∧ W (i + 1) m' H') ∧ ∀ x H', J.yld i H x H' → g x (wipe σ vs) H' fun σ2 H2 => wipe σ2 vs = wipe σ vs ∧ tt σ2 H2 fun b H3 =>
    if b = true then tk σ2 H3 fun y H4 => tv σ2 H4 fun z H5 => ∃ kvs k c, y = .ref c ∧ CkAt H5 c k ∧ NDict w H5 D kvs ∧ kvs.length < sizeLine ∧ ∀ φ, NDict w (upd H5 D (.ext φ)) D (putK kvs k z) → Nx (upd H5 D (.ext φ)) else Nx H3)
theorem core {w : World} (ew : X.w = w) {pins : List (Addr × Obj)} {s : Shared} {σ : L2.St} {H : Hp} {Q : VK} {kx vx tg iter : Expr} {ifs : List Expr} {scope : Scope} {own : List (Str × Nat)} {pos pos' : Pos} {wi : TI} {g : TG} {tt : TT} {tk tv : TE} {use : Option (Value → Sem Unit)} {Qf : Value → Shared → Prop}
    (hu : X.A.units + 9 < cLine) (hc : X.calm = true) (hN : X.N.Nodup) (I : Inv X pins σ H s) (hi : PI X tg iter wi) (ok : BlkOk X.N X.env.scope scope own)
    (hg : ∀ s H C cl fp, PG (X.blk s H scope (compEnvC scope cl C X.env) fp) tg g) (ht : ∀ s H C cl fp, PTs (X.blk s H scope (compEnvC scope cl C X.env) fp) ifs tt)
    (hk : ∀ s H C cl fp, PE (X.blk s H scope (compEnvC scope cl C X.env) fp) kx tk) (he : ∀ s H C cl fp, PE (X.blk s H scope (compEnvC scope cl C X.env) fp) vx tv) (hs : ∀ x, foldedSetIterable iter X.env x = pure x)
    (h : tD w wi g tt tk tv (own.map (·.2)) σ H Q)
    (end_ : ∀ D C s' m H', Inv X pins σ H' s' → Q (.ref D) H' → s'.heap.Ns C m → FpOk X pins H' C → compPost (model X.prog X.w) X.A X.xe use Qf (.ref D) C (.ok .next) s') :
    wpAny (model X.prog X.w) X.A (comprehension (.DictComp kx vx [⟨tg, iter, ifs, 0⟩] scope pos) scope X.env pos' newDict false (eval iter X.env) use) Qf X.xe s := by
  have clos : ∀ y ∈ scope.names, y.2 = .free → ∃ c, X.env.cells.lookup y.1 = some c := fun y hy e =>
    (ok.free y hy e).elim (fun k => I.ok.has _ (.inl k)) fun k => I.ok.has _ (.inr k)
  subst ew
  refine wpAny_comprehension_free (use := use) rfl hs (closure_ok clos) ok.kind (fun y hy e => by rw [ok.uniq y hy, e]) (thn (hi.run pins s σ H _ I h) fun xv s1 hx => thn hx fun itv s2 h2 => ?_)
  obtain ⟨it, fp, tn, J, H2, e, I2, T, st2, f2, q⟩ := h2
  subst e
  refine wpAny_newObj_type (newEnv_comp ?_)
  obtain ⟨φ0, I2', nd0⟩ := nd_new I2
  obtain ⟨W, ⟨m0, w0⟩, turn⟩ := q s2.heap.objs.size φ0 (I2.hok.fresh (Nat.le_refl _)) nd0
  generalize hH3 : upd H2 s2.heap.objs.size (.ext φ0) = H3 at w0 I2'
  have push : ∀ b o, s2.heap.get? b = some o → (s2.heap.push { cls := .type "dict", data := .dict #[] }).get? b = some o := fun b o e => Heap.get?_push_of_some _ e
  have I3 : Inv X pins σ H3 ({ s2 with heap := s2.heap.push { cls := .type "dict", data := .dict #[] } } : Shared) := by
    exact I2'
  have f3 : ∀ b ∈ fp, FpOk X pins H3 b ∧ b < (s2.heap.push ({ cls := .type "dict", data := .dict #[] } : Obj)).objs.size := fun b hb => by
    obtain ⟨o, e, _⟩ := T.obj _ _ st2 b hb
    have lt : b < s2.heap.objs.size := Heap.lt_size e
    refine ⟨⟨?_, (f2 b hb).2⟩, by rw [Heap.size_push]; exact Nat.lt_succ_of_lt lt⟩
    rw [← hH3, upd_ne (Nat.ne_of_lt lt)]
    exact (f2 b hb).1
  generalize hs3 : ({ s2 with heap := s2.heap.push { cls := .type "dict", data := .dict #[] } } : Shared) = s3 at I3
  have h3 : s3.heap = s2.heap.push { cls := .type "dict", data := .dict #[] } := by rw [← hs3]
  rw [← h3] at f3
  have st3 : tn 0 s3.heap := T.keep _ _ _ st2 fun b _ o e => by rw [h3]; exact push b o e
  have I4 := block_start I3 ok hN f3
  generalize hcl : cellsFrom (s3.heap.objs.size + 1) scope.names (cloFrom X.env.cells scope.names []) = cl at I4
  have pg := hg s3 H3 s3.heap.objs.size cl fp
  have pt := ht s3 H3 s3.heap.objs.size cl fp
  have pk := hk s3 H3 s3.heap.objs.size cl fp
  have pe := he s3 H3 s3.heap.objs.size cl fp
  show codeAny _ _ (.compStart (.DictComp kx vx [⟨tg, iter, ifs, 0⟩] scope pos) 0 (.ref it) (.ref s2.heap.objs.size) (compEnvC scope cl s3.heap.objs.size X.env)) (compPost (model X.prog X.w) X.A X.xe use Qf (.ref s2.heap.objs.size) s3.heap.objs.size) { s3 with heap := pushCells (s3.heap.push { cls := .type "dict", data := .dict #[] }) scope.names }
  generalize hD : s2.heap.objs.size = D at turn
  generalize hce : compEnvC scope cl s3.heap.objs.size X.env = ce at I4 pg pt pk pe ⊢
  have lo : ce.locals = s3.heap.objs.size := by rw [← hce]; rfl
  generalize hs4 : ({ s3 with heap := pushCells (s3.heap.push { cls := .type "dict", data := .dict #[] }) scope.names } : Shared) = s4 at I4 ⊢
  have st4 : tn 0 s4.heap := T.keep _ _ _ st3 fun b _ o e => by rw [← hs4]; exact pushCells_keeps _ _ _ _ (Heap.get?_push_of_some _ e)
  have fpo : ∀ {σ' : L2.St} {H' : Hp} {s' : Shared}, Inv (X.blk s3 H3 scope ce fp) [] σ' H' s' → (∀ b ∈ fp, H' b = none) → ∀ b ∈ fp, FpOk (X.blk s3 H3 scope ce fp) [] H' b := fun {σ' H' s'} I' hn b hb =>
    ⟨hn b hb, (I'.ok.exf b hb).1, I'.ok.exfs b hb, .inl hb, fun x c e => (I'.ok.exf b hb).2 x c e, fun p hp => absurd (show p ∈ ([] : List (Addr × Obj)) ++ [] from hp) (by simp)⟩
  refine codeAny_compStart_dict ?_ (T.self X.A 0 _ _ _ st4 ?_)
  all_goals
    refine compLoop_anyD (fun n s' => ∃ i H', Inv (X.blk s3 H3 scope ce fp) [] (wipe σ (own.map (·.2))) H' s' ∧ tn i s'.heap ∧ (∀ b ∈ fp, H' b = none) ∧ W i n H') ?_ m0 ⟨0, H3, I4, st4, fun b hb => (f3 b hb).1.1, w0⟩
    rintro n s5 ⟨i, H5, I5, st5, n5, w5⟩
    rcases turn i n H5 w5 with ⟨stop, qq⟩ | ⟨go, Nx, more, step⟩
    · refine thnF (T.done (X.blk s3 H3 scope ce fp) rfl rfl rfl hc i [] s5 _ H5 (fun _ _ => False) I5 (fpo I5 n5) st5 stop) fun r s6 ⟨hr, I6⟩ => ?_
      subst hr
      have I7 : Inv X pins σ H5 s6 := I3.call' (ch := fp) I6.os I6.base I6.hok I6.bare fun b hb => ⟨(f3 b hb).1.2.2.2.1, (f3 b hb).1.2.1, (f3 b hb).1.2.2.2.2.1, (f3 b hb).1.2.2.2.2.2⟩
      obtain ⟨m, hn, _⟩ := I6.loc
      have hn : s6.heap.Ns ce.locals m := hn
      have nC : H5 ce.locals = none := I6.free
      rw [lo] at hn nC
      exact end_ D s3.heap.objs.size s6 m H5 I7 qq hn (I3.fpOk (Nat.le_refl _) nC)
    · refine thnF (T.item (X.blk s3 H3 scope ce fp) rfl rfl rfl hc i [] s5 _ H5 (fun _ _ => False) I5 (fpo I5 n5) st5 go) fun r s6 ⟨u, hr, h6⟩ => ?_
      subst hr
      refine thnF h6 fun _ s7 ⟨x, H7, I7, r7, y7, st7, n7⟩ => ?_
      refine thnF (pg.run _ s7 _ H7 x u _ (I7.pinned (fpo I7 n7) (T.obj _ _ st7)) r7 (step x H7 y7)) fun _ s8 ⟨σ8, H8, I8, hw8, q8⟩ => ?_
      refine thnF (pt.run _ s8 σ8 H8 _ I8 q8) fun b s9 ⟨H9, I9, q9⟩ => ?_
      have back : ∀ {s' : Shared} {H' : Hp}, Inv (X.blk s3 H3 scope ce fp) ([] ++ pinsAt fp s7.heap) σ8 H' s' → Nx H' → ∃ m, m < n ∧ ∃ i H', Inv (X.blk s3 H3 scope ce fp) [] (wipe σ (own.map (·.2))) H' s' ∧ tn i s'.heap ∧ (∀ b ∈ fp, H' b = none) ∧ W i m H' := fun {s' H'} I' nx => by
        obtain ⟨m', lt, w'⟩ := more H' nx
        have held : ∀ b ∈ fp, ∀ o, s7.heap.get? b = some o → s'.heap.get? b = some o ∧ H' b = none := fun b hb o e =>
          let z := I'.pin (b, o) (List.mem_append_right _ (List.mem_append_right _ (mem_pinsAt hb e)))
          ⟨z.1, z.2.1⟩
        refine ⟨m', lt, i + 1, H', (I'.unpinned (pins := [])).weak (by rw [← hw8, wipe_length]) (fun j v e => ?_), T.keep _ _ _ st7 fun b hb o e => (held b hb o e).1, fun b hb => ?_, w'⟩
        · rw [← hw8] at e
          exact (wipe_some e).1
        · obtain ⟨o, e, _⟩ := T.obj _ _ st7 b hb
          exact (held b hb o e).2
      cases b with
      | false =>
        simp only [Bool.false_eq_true, if_false] at q9 ⊢
        exact back I9 q9
      | true =>
        simp only [if_true] at q9 ⊢
        refine thnF (pk.run _ s9 σ8 H9 _ I9 q9) fun z s10 ⟨yk, H10, I10, r10, q10⟩ => ?_
        refine thnF (pe.run _ s10 σ8 H10 _ I10 q10) fun z2 s11 ⟨yv, H11, I11, r11, kvs, k, c, ek, hc11, hD11, hz11, nx⟩ => ?_
        subst ek
        obtain rfl : z = Value.ref c := r10
        exact nd_set (X := X.blk s3 H3 scope ce fp) hu I11 hD11 hc11 hz11 r11 fun φ s12 nd I12 => back I12 (nx φ nd)
/-- as a value -/
theorem pe_dcN {w : World} (ew : X.w = w) {kx vx tg iter : Expr} {ifs : List Expr} {scope : Scope} {own : List (Str × Nat)} {pos : Pos} {wi : TI} {g : TG} {tt : TT} {tk tv : TE} (hu : X.A.units + 9 < cLine) (hc : X.calm = true) (hN : X.N.Nodup) (hi : PI X tg iter wi) (ok : BlkOk X.N X.env.scope scope own)
    (hg : ∀ s H C cl fp, PG (X.blk s H scope (compEnvC scope cl C X.env) fp) tg g) (ht : ∀ s H C cl fp, PTs (X.blk s H scope (compEnvC scope cl C X.env) fp) ifs tt)
    (hk : ∀ s H C cl fp, PE (X.blk s H scope (compEnvC scope cl C X.env) fp) kx tk) (he : ∀ s H C cl fp, PE (X.blk s H scope (compEnvC scope cl C X.env) fp) vx tv) (hs : ∀ x, foldedSetIterable iter X.env x = pure x := by intro _; rfl) :
    PE X (.DictComp kx vx [⟨tg, iter, ifs, 0⟩] scope pos) (tD w wi g tt tk tv (own.map (·.2))) := by
  refine ⟨fun pins s σ H Q I h => ?_⟩
  rw [arm_eval_DictComp]
  refine core ew hu hc hN I hi ok hg ht hk he hs h fun D C s' m H' I' q hn f => ⟨m, hn, fun h'' sb => ?_⟩
  obtain ⟨f0, f1, f2, f3, f4, f5⟩ := f
  exact ⟨.ref D, H', I'.turned (t' := s'.toks) (fun b o hb e => (sb.2 b hb).trans e) f0 f1 f3 f4 f5, rfl, q⟩
/-- x = {..} on one line, x a local -/
theorem ps_setDcN {w : World} (ew : X.w = w) {i : Nat} {y : Str} {py : Pos} {kx vx tg iter : Expr} {ifs : List Expr} {scope : Scope} {own : List (Str × Nat)} {pos spos : Pos} {wi : TI} {g : TG} {tt : TT} {tk tv : TE} (hu : X.A.units + 9 < cLine) (hc : X.calm = true) (hN : X.N.Nodup) (hy : X.N[i]? = some y) (hyl : X.env.scope.names.lookup y = some .local)
    (hsw : swapsWith (.DictComp kx vx [⟨tg, iter, ifs, 0⟩] scope pos) (some (.Name y py)) spos.line X.env = pure true) (hi : PI X tg iter wi) (ok : BlkOk X.N X.env.scope scope own)
    (hg : ∀ s H C cl fp, PG (X.blk s H scope (compEnvC scope cl C X.env) fp) tg g) (ht : ∀ s H C cl fp, PTs (X.blk s H scope (compEnvC scope cl C X.env) fp) ifs tt)
    (hk : ∀ s H C cl fp, PE (X.blk s H scope (compEnvC scope cl C X.env) fp) kx tk) (he : ∀ s H C cl fp, PE (X.blk s H scope (compEnvC scope cl C X.env) fp) vx tv) (hs : ∀ x, foldedSetIterable iter X.env x = pure x := by intro _; rfl) :
    PS X (.Assign [.Name y py] (.DictComp kx vx [⟨tg, iter, ifs, 0⟩] scope pos) spos) (tAsg (tD w wi g tt tk tv (own.map (·.2))) (gName i)) := by
  refine ⟨fun pins s σ H D I h => ?_⟩
  rw [exec_Assign_Name_used _ _ _ _ hsw]
  refine wpAny_bind (wpAny_standAt (wpAny_bind ?_))
  show wpAny _ X.A (do let _ ← comprehension (.DictComp kx vx [⟨tg, iter, ifs, 0⟩] scope pos) scope X.env (firstIterPos [⟨tg, iter, ifs, 0⟩] pos) newDict false (eval iter X.env) (some (assign (.Name y py) X.env))) _ _ s
  have h : tD w wi g tt tk tv (own.map (·.2)) σ H (fun x H1 => gName i x σ H1 D.nx) := h
  refine wpAny_bind (thn (core (Qf := fun _ s' => SP X pins D .next s') ew hu hc hN I hi ok hg ht hk he hs h fun L C s' m H' I' q hn f => ?_) fun _ s' hq => wpAny_pure (wpAny_pure hq))
  show wpAny _ _ (assign (.Name y py) X.env (.ref L)) _ _ _
  refine wpAny_assign_Name (store_ok2 (v := V.ref L) I' hN hy (.inl hyl) rfl (fun s2 I2 ⟨a, sb, ha⟩ => ?_) (.inr hyl))
  obtain ⟨f0, f1, f2, f3, f4, f5⟩ := f
  refine ⟨m, hn.sameBut sb (fun e => ha.elim (fun z => f1 (e.trans z)) fun z => f4 y a z e.symm), fun h3 sb3 => ?_⟩
  exact ⟨_, H', I2.turned (t' := s2.toks) (fun b o hb e => (sb3.2 b hb).trans e) f0 f1 f3 f4 f5, q⟩
/-- over a list that stays -/
theorem dcN_list {w : World} {K : PySem.W.Frag} {a : Addr} {xs : List V} {g : TG} {tt : TT} {tk tv : TE} {vs : List Nat} {σ : L2.St} {H1 : Hp} {D : Addr} {φ0 : Heap → Prop} {Qd : Hp → Prop} (Pv : Nat → Hp → Prop) (h0 : Pv 0 (upd H1 D (.ext φ0))) (hl : ∀ i H, i ≤ xs.length → Pv i H → SqL K H a xs)
    (hs : ∀ i x H, xs[i]? = some x → Pv i H → g x (wipe σ vs) H fun σ2 H2 => wipe σ2 vs = wipe σ vs ∧ tt σ2 H2 fun b H3 =>
      if b = true then tk σ2 H3 fun y H4 => tv σ2 H4 fun z H5 => ∃ kvs k c, y = .ref c ∧ CkAt H5 c k ∧ NDict w H5 D kvs ∧ kvs.length < sizeLine ∧ ∀ φ, NDict w (upd H5 D (.ext φ)) D (putK kvs k z) → Pv (i + 1) (upd H5 D (.ext φ)) else Pv (i + 1) H3) (hd : ∀ H, Pv xs.length H → Qd H) :
    ∃ W : Nat → Nat → Hp → Prop, (∃ m, W 0 m (upd H1 D (.ext φ0))) ∧ ∀ i m H, W i m H →
      ((Itl K a).stop i H ∧ Qd H) ∨ ((Itl K a).go i H ∧ ∃ Nx : Hp → Prop, (∀ H', Nx H' → ∃ m', m' < m ∧ W (i + 1) m' H') ∧ ∀ x H', (Itl K a).yld i H x H' → g x (wipe σ vs) H' fun σ2 H2 => wipe σ2 vs = wipe σ vs ∧ tt σ2 H2 fun b H3 =>
        if b = true then tk σ2 H3 fun y H4 => tv σ2 H4 fun z H5 => ∃ kvs k c, y = .ref c ∧ CkAt H5 c k ∧ NDict w H5 D kvs ∧ kvs.length < sizeLine ∧ ∀ φ, NDict w (upd H5 D (.ext φ)) D (putK kvs k z) → Nx (upd H5 D (.ext φ)) else Nx H3) := by
  refine ⟨fun i m H => m = xs.length - i ∧ i ≤ xs.length ∧ Pv i H, ⟨xs.length, by simp, Nat.zero_le _, h0⟩, ?_⟩
  rintro i m H ⟨rfl, hi, p⟩
  have q := hl i H hi p
  rcases Nat.lt_or_ge i xs.length with lt | ge
  · refine .inr ⟨⟨xs, xs[i], q, by simp [lt]⟩, Pv (i + 1), fun H' p' => ⟨xs.length - (i + 1), by omega, rfl, lt, p'⟩, fun x H' y => ?_⟩
    obtain ⟨e, y⟩ := y
    subst e
    exact hs i x _ (y xs q) p
  · obtain rfl : i = xs.length := by omega
    exact .inl ⟨⟨xs, q, Nat.le_refl _⟩, hd H p⟩
/-- over any walk -/
theorem dcN_it {w : World} {J : It} {n : Nat} {G : Hp → Prop} {Y : Nat → Hp → V → Hp → Prop} (wk : Walk J n G Y) {g : TG} {tt : TT} {tk tv : TE} {vs : List Nat} {σ : L2.St} {H1 : Hp} {D : Addr} {φ0 : Heap → Prop} {Qd : Hp → Prop} (Pv : Nat → Hp → Prop) (h0 : Pv 0 (upd H1 D (.ext φ0))) (hG : ∀ i H, i ≤ n → Pv i H → G H)
    (hs : ∀ i x H H', i < n → Pv i H → Y i H x H' → g x (wipe σ vs) H' fun σ2 H2 => wipe σ2 vs = wipe σ vs ∧ tt σ2 H2 fun b H3 =>
      if b = true then tk σ2 H3 fun y H4 => tv σ2 H4 fun z H5 => ∃ kvs k c, y = .ref c ∧ CkAt H5 c k ∧ NDict w H5 D kvs ∧ kvs.length < sizeLine ∧ ∀ φ, NDict w (upd H5 D (.ext φ)) D (putK kvs k z) → Pv (i + 1) (upd H5 D (.ext φ)) else Pv (i + 1) H3) (hd : ∀ H, Pv n H → Qd H) :
    ∃ W : Nat → Nat → Hp → Prop, (∃ m, W 0 m (upd H1 D (.ext φ0))) ∧ ∀ i m H, W i m H →
      (J.stop i H ∧ Qd H) ∨ (J.go i H ∧ ∃ Nx : Hp → Prop, (∀ H', Nx H' → ∃ m', m' < m ∧ W (i + 1) m' H') ∧ ∀ x H', J.yld i H x H' → g x (wipe σ vs) H' fun σ2 H2 => wipe σ2 vs = wipe σ vs ∧ tt σ2 H2 fun b H3 =>
        if b = true then tk σ2 H3 fun y H4 => tv σ2 H4 fun z H5 => ∃ kvs k c, y = .ref c ∧ CkAt H5 c k ∧ NDict w H5 D kvs ∧ kvs.length < sizeLine ∧ ∀ φ, NDict w (upd H5 D (.ext φ)) D (putK kvs k z) → Nx (upd H5 D (.ext φ)) else Nx H3) := by
  refine ⟨fun i m H => m = n - i ∧ i ≤ n ∧ Pv i H, ⟨n, by simp, Nat.zero_le _, h0⟩, ?_⟩
  rintro i m H ⟨rfl, hi, p⟩
  have q := hG i H hi p
  rcases Nat.lt_or_ge i n with lt | ge
  · exact .inr ⟨wk.goes i H lt q, Pv (i + 1), fun H' p' => ⟨n - (i + 1), by omega, rfl, lt, p'⟩, fun x H' y => hs i x H H' lt p (wk.yields i H x H' lt q y)⟩
  · obtain rfl : i = n := by omega
    exact .inl ⟨wk.stops H q, hd H p⟩
end
end DcN
namespace L2
open PySem PySem.Spec PyProof.Rows
theorem NDictR.same {w : World} {H H' : Hp} {d : Addr} {kvs : List (CK × V)} (h : NDictR w H d kvs) (s : ∀ b o, H b = some o → H' b = some o) : NDictR w H' d kvs :=
  let ⟨zs, a, b, c, e⟩ := h; ⟨zs, a.elim (fun x => .inl (s _ _ x)) (fun ⟨o, x⟩ => .inr ⟨o, s _ _ x⟩), b, c, e.keeps fun _ _ z => s _ _ z⟩
end L2
namespace L2
open PySem PySem.Spec PyProof.Rows
section
variable {X : Cx} {o : Expr} {to : TE} {apos cpos : Pos} {w : World}
def tNClear (w : World) (to : TE) : TE := fun σ H Q => to σ H fun x H1 => rNClear w x [] H1 Q
theorem pe_nclear (ew : X.w = w) (ho : PE X o to) (hbase : attributeBase o "clear" X.env (eval o X.env) = eval o X.env := by rfl) (hline : (apos.endLine == cpos.line) = true := by rfl) : PE X (.Call (.Attribute o "clear" apos) [] [] cpos) (tNClear w to) := by
  refine ⟨fun pins s σ H Q I h => ?_⟩
  refine wpAny_Call_method0_late hbase hline (thn (ho.run pins s σ H _ I h) fun v s1 ⟨x, H1, I1, r1, q1⟩ => ?_)
  subst ew
  have q2 := q1
  obtain ⟨a, kvs, rfl, _, nd, _⟩ := q1
  have r2 := r1
  cases r1
  exact ⟨"dict", "dict.clear", PySem.F.plainAttrs_dict, PySem.F.slot_dict_clear, PySem.F.type_dict_clear, nd_typeIs I1 nd.r, nd_noDict I1 nd.r, Calls.callWith_builtin rfl (PySem.evalArgs_none (mt_nclear rfl pins s1 σ H1 _ [] _ [] Q I1 r2 .nil q2))⟩
end
end L2
namespace L2
open PySem PySem.Spec PyProof.Rows
/-! ### o(e, ..) by the class's own `__call__` -/
section
variable {M : Model} {A : Around} {E : Value → Shared → Prop} {s : Shared} {pos : Pos} {x : Addr} {first : List Value} {Q : Value → Shared → Prop}
theorem callWithO {args : List (Bool × Sem Value)} {keywords : List (Option Str × Sem Value)} (hplain : (args.any (·.1) || keywords.any (·.1.isNone)) = false)
    (h : wpAny M A (evalArgs (.ref x) true args keywords) (fun a s₁ => (∃ (ox : Obj) (C : Addr) (od : Option Obj), PySem.W.InstAt s₁.heap x ox C od ∧ ox.data = .plain) ∧ wpAny M A (call (.ref x) (first ++ a.pos) a.kw) Q E s₁) E s) : wpAny M A (callWith pos (.ref x) first args keywords) Q E s := by
  unfold callWith
  refine wpAny_bind (wpAny_holding (wpAny_mono h (fun a s₁ h₁ => wpAny_bind (wpAny_standAt ?_)) fun _ _ y => y))
  obtain ⟨⟨ox, C, od, I, hd⟩, h₁⟩ := h₁
  have L := PySem.W.kco_keeper (M := M) I hd
  simp only [hplain]
  refine wpAny_bind (L.here ?_)
  have tail : ∀ {t : Sem Value}, wpAny M A t Q E s₁ → wpAny M A (t >>= fun r => holding [r] point >>= fun _ => pure r) Q E s₁ :=
    fun ht => wpAny_bind (wpAny_mono ht (fun r s₂ hr => wpAny_bind (wpAny_holding (wpAny_point (wpAny_pure hr)))) fun _ _ y => y)
  exact tail (wpAny_operateT h₁)
end
def tCallO (C : Addr) (sp : Sp) (E : St → XK) (tf : TE) (t : TA) : TE := fun σ H Q => tf σ H fun x H1 => ∃ a, x = .ref a ∧ t σ H1 fun vs H2 => ∃ (dx : Addr) (fs : List (Str × V)), H2 a = some (.ins C dx fs) ∧ sp (.ref a :: vs) H2 Q (E σ)
section
variable {X : Cx} {CX : CXT} {k : Nat} {g C : Addr} {fd : FuncData} {ps : List Str} {sp : Sp} {E : St → XK} {f e : Expr} {es : List Expr} {pos : Pos} {tf : TE} {t : TA}
theorem run_callO {pins : List (Addr × Obj)} {σ : St} {H : Hp} {s : Shared} {Q : VK} {us : List Value} {vs : List V} {a dx : Addr} {fs : List (Str × V)} (hs : Spec1 X.K C "__call__" g) (F : FnOk X.prog X.w X.K X.mg X.base CX k g fd ps sp) (hr : Room k X.A) (hb : Binds X.K fd ps []) (hx : PassesAt CX X σ (E σ))
    (I : Inv X pins σ H s) (ha : H a = some (.ins C dx fs)) (r : Vals vs us) (h : sp (.ref a :: vs) H Q (E σ)) : wpAny (model X.prog X.w) X.A (call (.ref a) us) (EP X pins σ Q) X.xe s := by
  obtain ⟨mA, J, _⟩ := ins_get I.hok ha
  obtain ⟨od, J, _⟩ := J.look
  have r2 : Vals (.ref a :: vs) (.ref a :: us) := .cons rfl r
  have hl : (Value.ref a :: us).length = ps.length := by rw [← r2.length]; exact F.len _ _ _ _ h
  have b := hb s (.ref a :: us) I.kIn (by rw [List.append_nil]; exact hl)
  rw [List.append_nil] at b
  refine wpAny_call (PySem.W.kco_code I.kIn J rfl hs.at_ hs.fn hs.isf (codeAny_mono (F.run X.A X.stack s H ⟨.ref a :: us, []⟩ (.ref a :: us) (.ref a :: vs) Q (E σ) hr I.env0 b r2 h) fun r s' hq => ?_))
  cases r with
  | error e => exact hx pins H s e s' I hq
  | ok fl =>
    cases fl with
    | ret u => exact I.after hq
    | next => exact False.elim hq
    | brk => exact False.elim hq
    | cont => exact False.elim hq
theorem pe_callO (hf : PE X f tf) (hs : Spec1 X.K C "__call__" g) (F : FnOk X.prog X.w X.K X.mg X.base CX k g fd ps sp) (hr : Room k X.A) (hb : Binds X.K fd ps []) (hx : ∀ σ, PassesAt CX X σ (E σ)) (ha : PA X (e :: es) t)
    (hst : starEach (e :: es) X.env = (false, eval e X.env) :: starEach es X.env := by rfl) (hpl : (backTo pos (starEach es X.env)).any (·.1) = false := by rfl)
    (het : eval (.Call f (e :: es) [] pos) X.env = (do callWith pos (← eval f X.env) [] (backTo pos (starEach (e :: es) X.env)) (backToKw pos (keywordEach [] X.env))) := by rfl) : PE X (.Call f (e :: es) [] pos) (tCallO C sp E tf t) := by
  refine ⟨fun pins s σ H Q I h => Call_ (thn (hf.run pins s σ H _ I h) fun u s1 ⟨x, H1, I1, rx, a, ex, q⟩ => ?_) het⟩
  subst ex
  obtain rfl : u = Value.ref a := rx
  have h0 : wpAny (model X.prog X.w) X.A (spliced (backTo pos (starEach (e :: es) X.env))) (fun us s2 => (∃ (ox : Obj) (C : Addr) (od : Option Obj), PySem.W.InstAt s2.heap a ox C od ∧ ox.data = .plain) ∧ wpAny (model X.prog X.w) X.A (call (.ref a) us) (EP X pins σ Q) X.xe s2) X.xe s1 :=
    thn (ha.run pos pins s1 σ H1 _ I1 q) fun us s2 ⟨vs, H2, I2, r, dx, fs, h2, q2⟩ => by
      obtain ⟨mA, J, _⟩ := ins_get I2.hok h2
      obtain ⟨od, J, _⟩ := J.look
      exact ⟨⟨_, C, _, J, rfl⟩, run_callO hs F hr hb (hx σ) I2 h2 r q2⟩
  rw [hst] at h0 ⊢
  exact callWithO (by show ((false || (backTo pos (starEach es X.env)).any (·.1)) || false) = false; rw [hpl]; rfl) (Calls.evalArgs_plain h0)
end
end L2
namespace L2
open PySem PySem.Spec PyProof.Rows
/-! ### a def with one default, None -/
section
variable {P : Program} {w : World} {K : PySem.W.Frag} {mg : Str → Option Value} {base : Heap} {x qual : Str} {params : Arguments} {body : List Stmt} {scope : Scope} {f : Addr} {fd : FuncData} {ps : List Str}
theorem FunD.okN {dvs : List V} {kws : List (Str × V)} {N : List Str} {k : Nat} {sp : Sp} (F : FunD K x qual params body scope dvs kws f fd) (S : FnScope N ps scope) (len : ∀ vs H Q E, sp vs H Q E → vs.length = ps.length)
    (hbody : ∀ (cdv : Value) (A : Around) (outer : List Env) (s : Shared) (H : Hp) (vs : List V) (Q : VK) (E : XK), Room k (A.deeper (envOfC qual scope s.heap.objs.size f cdv)) → sp vs H Q E →
      ∃ t, PSs (cxOf CX0 P w K mg base N qual scope f cdv A outer s H E).nox body t ∧ t { nx := fun _ H' => Q .non H', rt := Q } (start N vs) H) : FnOk P w K mg base CX0 (k + 1) f fd ps sp :=
  F.ok S len fun cdv A outer s H vs Q E hr h => let ⟨t, h1, q⟩ := hbody cdv A outer s H vs Q E hr h; ⟨t, h1.nox, q⟩
theorem binds_all (F : FunD K x qual params body scope [.non] [] f fd) (hp : 1 ≤ ps.length)
    (h : ∀ (T : Addr) (kV doc pm : Value) (an : Option Addr) (cdv ct : Value) (us its : List Value), us.length = ps.length → its.length = 1 →
      ∃ k, bindArgs (PySem.W.fnOf x qual params body scope (.ref T) kV doc pm an cdv ct) ⟨us, []⟩ = seqItems? (.ref T) >>= k ∧ k (some its.toArray) = pure (ps.zip (us ++ its.drop 1))) : Binds K fd ps [] := by
  obtain ⟨ds, hv, hb⟩ := F.binds1 ps.length 1 (by simp) (by simp) h
  cases hv
  exact hb
theorem binds_one (F : FunD K x qual params body scope [.non] [] f fd) (hp : 1 ≤ ps.length)
    (h : ∀ (T : Addr) (kV doc pm : Value) (an : Option Addr) (cdv ct : Value) (us its : List Value), us.length = ps.length - 1 → its.length = 1 →
      ∃ k, bindArgs (PySem.W.fnOf x qual params body scope (.ref T) kV doc pm an cdv ct) ⟨us, []⟩ = seqItems? (.ref T) >>= k ∧ k (some its.toArray) = pure (ps.zip (us ++ its.drop 0))) : Binds K fd ps [.none] := by
  obtain ⟨ds, hv, hb⟩ := F.binds1 (ps.length - 1) 0 (by simp) (by simp only [List.length_cons, List.length_nil]; omega) h
  cases hv with
  | cons a b =>
    cases b
    cases a
    exact hb
end
end L2
namespace L2
open PySem PySem.Spec PyProof.Rows
theorem vals_non : Vals [.non] [.none] := .cons rfl .nil
theorem op_orR {X : Cx} {f : Value → Value → Sem Value} {r1 r2 : R2} (h1 : OpR X f r1) (h2 : OpR X f r2) : OpR X f (fun x y H Q => r1 x y H Q ∨ r2 x y H Q) := fun pins s σ H x y v u Q I rx ry h => h.elim (h1 pins s σ H x y v u Q I rx ry) (h2 pins s σ H x y v u Q I rx ry)
end L2
namespace My
open PySem PySem.Spec PyProof.Rows L2
def topS (i : Nat) : Stmt := PySem.Challenge.pw_cappedcalls_k10_answers_of_calls.main.body.getD i (.Pass ⟨0, 0, 0, 0⟩)
abbrev s_UnknownName___init__ : Stmt := inClass (topS 3) 0
theorem sc_UnknownName___init__ : FnScope ["self", "name"] ["self", "name"] (defScope s_UnknownName___init__) := ⟨rfl, rfl, rfl, by decide +kernel, rfl, by decide +kernel, by decide +kernel⟩
abbrev s_InvalidCall___init__ : Stmt := inClass (topS 8) 0
theorem sc_InvalidCall___init__ : FnScope ["self", "service"] ["self", "service"] (defScope s_InvalidCall___init__) := ⟨rfl, rfl, rfl, by decide +kernel, rfl, by decide +kernel, by decide +kernel⟩
abbrev s_is_plain_int : Stmt := topS 13
theorem sc_is_plain_int : FnScope ["thing"] ["thing"] (defScope s_is_plain_int) := ⟨rfl, rfl, rfl, by decide +kernel, rfl, by decide +kernel, by decide +kernel⟩
abbrev s_is_word : Stmt := topS 14
theorem sc_is_word : FnScope ["thing", "letter"] ["thing"] (defScope s_is_word) := ⟨rfl, rfl, rfl, by decide +kernel, rfl, by decide +kernel, by decide +kernel⟩
abbrev s_is_value : Stmt := topS 15
theorem sc_is_value : FnScope ["thing"] ["thing"] (defScope s_is_value) := ⟨rfl, rfl, rfl, by decide +kernel, rfl, by decide +kernel, by decide +kernel⟩
abbrev s_are_values : Stmt := topS 16
theorem sc_are_values : FnScope ["thing", "many", "part"] ["thing", "many"] (defScope s_are_values) := ⟨rfl, rfl, rfl, by decide +kernel, rfl, by decide +kernel, by decide +kernel⟩
abbrev s_columns_of : Stmt := topS 17
theorem sc_columns_of : FnScope ["row", "columns", "column"] ["row", "columns"] (defScope s_columns_of) := ⟨rfl, rfl, rfl, by decide +kernel, rfl, by decide +kernel, by decide +kernel⟩
abbrev s_row_key : Stmt := topS 18
theorem sc_row_key : FnScope ["row", "part"] ["row"] (defScope s_row_key) := ⟨rfl, rfl, rfl, by decide +kernel, rfl, by decide +kernel, by decide +kernel⟩
abbrev s_sorted_rows : Stmt := topS 19
theorem sc_sorted_rows : FnScope ["rows", "different", "row"] ["rows"] (defScope s_sorted_rows) := ⟨rfl, rfl, rfl, by decide +kernel, rfl, by decide +kernel, by decide +kernel⟩
abbrev s__is_count : Stmt := topS 31
theorem sc__is_count : FnScope ["thing", "most"] ["thing", "most"] (defScope s__is_count) := ⟨rfl, rfl, rfl, by decide +kernel, rfl, by decide +kernel, by decide +kernel⟩
abbrev s__is_name_in : Stmt := topS 32
theorem sc__is_name_in : FnScope ["thing", "names"] ["thing", "names"] (defScope s__is_name_in) := ⟨rfl, rfl, rfl, by decide +kernel, rfl, by decide +kernel, by decide +kernel⟩
abbrev s__are_columns : Stmt := topS 33
theorem sc__are_columns : FnScope ["thing", "width", "least", "column"] ["thing", "width"] (defScope s__are_columns) := ⟨rfl, rfl, rfl, by decide +kernel, rfl, by decide +kernel, by decide +kernel⟩
abbrev s__is_key : Stmt := topS 34
theorem sc__is_key : FnScope ["thing", "width"] ["thing", "width"] (defScope s__is_key) := ⟨rfl, rfl, rfl, by decide +kernel, rfl, by decide +kernel, by decide +kernel⟩
abbrev s__is_service : Stmt := topS 35
theorem sc__is_service : FnScope ["thing", "tables", "table", "given", "cap"] ["thing", "tables"] (defScope s__is_service) := ⟨rfl, rfl, rfl, by decide +kernel, rfl, by decide +kernel, by decide +kernel⟩
abbrev s__is_whole_service : Stmt := topS 36
theorem sc__is_whole_service : FnScope ["service", "tables", "keys", "table", "given", "cap", "column"] ["service", "tables", "keys"] (defScope s__is_whole_service) := ⟨rfl, rfl, rfl, by decide +kernel, rfl, by decide +kernel, by decide +kernel⟩
abbrev s__check_tables : Stmt := topS 37
theorem sc__check_tables : FnScope ["tables", "name"] ["tables"] (defScope s__check_tables) := ⟨rfl, rfl, rfl, by decide +kernel, rfl, by decide +kernel, by decide +kernel⟩
abbrev s__check_keys : Stmt := topS 38
theorem sc__check_keys : FnScope ["keys", "tables", "name"] ["keys", "tables"] (defScope s__check_keys) := ⟨rfl, rfl, rfl, by decide +kernel, rfl, by decide +kernel, by decide +kernel⟩
abbrev s__check_services : Stmt := topS 39
theorem sc__check_services : FnScope ["services", "tables", "name"] ["services", "tables"] (defScope s__check_services) := ⟨rfl, rfl, rfl, by decide +kernel, rfl, by decide +kernel, by decide +kernel⟩
abbrev s__check_capped : Stmt := topS 40
theorem sc__check_capped : FnScope ["services", "tables", "keys", "capped_tables", "name", "service"] ["services", "tables", "keys"] (defScope s__check_capped) := ⟨rfl, rfl, rfl, by decide +kernel, rfl, by decide +kernel, by decide +kernel⟩
abbrev s__copied : Stmt := topS 41
theorem sc__copied : FnScope ["things", "name"] ["things"] (defScope s__copied) := ⟨rfl, rfl, rfl, by decide +kernel, rfl, by decide +kernel, by decide +kernel⟩
abbrev s_Schema___init__ : Stmt := inClass (topS 42) 0
theorem sc_Schema___init__ : FnScope ["self", "tables", "keys", "services"] ["self", "tables", "keys", "services"] (defScope s_Schema___init__) := ⟨rfl, rfl, rfl, by decide +kernel, rfl, by decide +kernel, by decide +kernel⟩
abbrev s_Schema_services : Stmt := inClass (topS 42) 3
theorem sc_Schema_services : FnScope ["self"] ["self"] (defScope s_Schema_services) := ⟨rfl, rfl, rfl, by decide +kernel, rfl, by decide +kernel, by decide +kernel⟩
abbrev s_Schema___eq__ : Stmt := inClass (topS 42) 4
theorem sc_Schema___eq__ : FnScope ["self", "other"] ["self", "other"] (defScope s_Schema___eq__) := ⟨rfl, rfl, rfl, by decide +kernel, rfl, by decide +kernel, by decide +kernel⟩
abbrev s_Schema_table_names : Stmt := inClass (topS 42) 5
theorem sc_Schema_table_names : FnScope ["self"] ["self"] (defScope s_Schema_table_names) := ⟨rfl, rfl, rfl, by decide +kernel, rfl, by decide +kernel, by decide +kernel⟩
abbrev s_Schema_width_of : Stmt := inClass (topS 42) 8
theorem sc_Schema_width_of : FnScope ["self", "table"] ["self", "table"] (defScope s_Schema_width_of) := ⟨rfl, rfl, rfl, by decide +kernel, rfl, by decide +kernel, by decide +kernel⟩
abbrev s_Schema_key_of : Stmt := inClass (topS 42) 9
theorem sc_Schema_key_of : FnScope ["self", "table"] ["self", "table"] (defScope s_Schema_key_of) := ⟨rfl, rfl, rfl, by decide +kernel, rfl, by decide +kernel, by decide +kernel⟩
abbrev s_Schema_service_of : Stmt := inClass (topS 42) 10
theorem sc_Schema_service_of : FnScope ["self", "name"] ["self", "name"] (defScope s_Schema_service_of) := ⟨rfl, rfl, rfl, by decide +kernel, rfl, by decide +kernel, by decide +kernel⟩
abbrev s__check_table : Stmt := topS 46
theorem sc__check_table : FnScope ["schema", "table", "rows", "width", "key", "columns", "seen", "at", "row"] ["schema", "table", "rows"] (defScope s__check_table) := ⟨rfl, rfl, rfl, by decide +kernel, rfl, by decide +kernel, by decide +kernel⟩
abbrev s__by_given : Stmt := topS 47
theorem sc__by_given : FnScope ["rows", "given", "found", "row"] ["rows", "given"] (defScope s__by_given) := ⟨rfl, rfl, rfl, by decide +kernel, rfl, by decide +kernel, by decide +kernel⟩
abbrev s_Store___init__ : Stmt := inClass (topS 48) 0
theorem sc_Store___init__ : FnScope ["self", "schema", "rows", "table", "ordered", "row", "name", "given", "_"] ["self", "schema", "rows"] (defScope s_Store___init__) := ⟨rfl, rfl, rfl, by decide +kernel, rfl, by decide +kernel, by decide +kernel⟩
abbrev s_Store___eq__ : Stmt := inClass (topS 48) 5
theorem sc_Store___eq__ : FnScope ["self", "other"] ["self", "other"] (defScope s_Store___eq__) := ⟨rfl, rfl, rfl, by decide +kernel, rfl, by decide +kernel, by decide +kernel⟩
abbrev s_Store_fitting : Stmt := inClass (topS 48) 8
theorem sc_Store_fitting : FnScope ["self", "service", "given", "columns"] ["self", "service", "given"] (defScope s_Store_fitting) := ⟨rfl, rfl, rfl, by decide +kernel, rfl, by decide +kernel, by decide +kernel⟩
abbrev s__answer_size : Stmt := topS 21
theorem sc__answer_size : FnScope ["store", "service", "rows", "cap"] ["store", "service", "rows"] (defScope s__answer_size) := ⟨rfl, rfl, rfl, by decide +kernel, rfl, by decide +kernel, by decide +kernel⟩
abbrev s__is_answer : Stmt := topS 22
theorem sc__is_answer : FnScope ["store", "service", "given", "rows", "fitting", "row"] ["store", "service", "given", "rows"] (defScope s__is_answer) := ⟨rfl, rfl, rfl, by decide +kernel, rfl, by decide +kernel, by decide +kernel⟩
abbrev s__check_choice : Stmt := topS 23
theorem sc__check_choice : FnScope ["store", "service", "given", "rows", "right"] ["store", "service", "given", "rows"] (defScope s__check_choice) := ⟨rfl, rfl, rfl, by decide +kernel, rfl, by decide +kernel, by decide +kernel⟩
abbrev s__call_key : Stmt := topS 24
theorem sc__call_key : FnScope ["call", "service", "given"] ["call"] (defScope s__call_key) := ⟨rfl, rfl, rfl, by decide +kernel, rfl, by decide +kernel, by decide +kernel⟩
abbrev s_Answers___init__ : Stmt := inClass (topS 25) 0
theorem sc_Answers___init__ : FnScope ["self", "store", "choices", "chosen", "calls", "service", "given", "call"] ["self", "store", "choices"] (defScope s_Answers___init__) := ⟨rfl, rfl, rfl, by decide +kernel, rfl, by decide +kernel, by decide +kernel⟩
abbrev s_Answers_choices : Stmt := inClass (topS 25) 1
theorem sc_Answers_choices : FnScope ["self", "call"] ["self"] (defScope s_Answers_choices) := ⟨rfl, rfl, rfl, by decide +kernel, rfl, by decide +kernel, by decide +kernel⟩
abbrev s_Answers___call__ : Stmt := inClass (topS 25) 2
theorem sc_Answers___call__ : FnScope ["self", "service", "given", "rows"] ["self", "service", "given"] (defScope s_Answers___call__) := ⟨rfl, rfl, rfl, by decide +kernel, rfl, by decide +kernel, by decide +kernel⟩
abbrev s__law_pool : Stmt := topS 50
theorem sc__law_pool : FnScope ["_law_script", "_law_cell"] ["_law_script"] (defScope s__law_pool) := ⟨rfl, rfl, rfl, by decide +kernel, rfl, by decide +kernel, by decide +kernel⟩
abbrev s__law_mixed : Stmt := topS 51
theorem sc__law_mixed : FnScope ["_law_seed", "_law_count", "_law_number"] ["_law_seed", "_law_count"] (defScope s__law_mixed) := ⟨rfl, rfl, rfl, by decide +kernel, rfl, by decide +kernel, by decide +kernel⟩
abbrev s__law_draw : Stmt := topS 52
theorem sc__law_draw : FnScope ["_law_pool_here", "_law_many", "_law_cell", "_law_found"] ["_law_pool_here", "_law_many"] (defScope s__law_draw) := ⟨rfl, rfl, rfl, by decide +kernel, rfl, by decide +kernel, by decide +kernel⟩
abbrev s__law_word : Stmt := topS 53
theorem sc__law_word : FnScope ["_law_pool_here", "_law_many", "_law_letters", "_law_word_here", "_law_k"] ["_law_pool_here", "_law_many"] (defScope s__law_word) := ⟨rfl, rfl, rfl, by decide +kernel, rfl, by decide +kernel, by decide +kernel⟩
abbrev s__law_value : Stmt := topS 61
theorem sc__law_value : FnScope ["_law_pool_here", "_law_kind"] ["_law_pool_here"] (defScope s__law_value) := ⟨rfl, rfl, rfl, by decide +kernel, rfl, by decide +kernel, by decide +kernel⟩
abbrev s__law_names : Stmt := topS 54
theorem sc__law_names : FnScope ["_law_pool_here", "_law_many", "_law_letters", "_law_stem", "_law_first_here", "_law_step", "_law_front", "_law_found", "_law_k", "_law_sign"] ["_law_pool_here", "_law_many"] (defScope s__law_names) := ⟨rfl, rfl, rfl, by decide +kernel, rfl, by decide +kernel, by decide +kernel⟩
abbrev s__law_columns : Stmt := topS 55
theorem sc__law_columns : FnScope ["_law_pool_here", "_law_width", "_law_low", "_law_high", "_law_chosen_here", "_law_column"] ["_law_pool_here", "_law_width", "_law_low", "_law_high"] (defScope s__law_columns) := ⟨rfl, rfl, rfl, by decide +kernel, rfl, by decide +kernel, by decide +kernel⟩
abbrev s__law_tables : Stmt := topS 56
theorem sc__law_tables : FnScope ["_law_pool_here", "_law_many", "_law_widest", "_law_names_here", "_law_tables_here", "_law_name"] ["_law_pool_here", "_law_many", "_law_widest"] (defScope s__law_tables) := ⟨rfl, rfl, rfl, by decide +kernel, rfl, by decide +kernel, by decide +kernel⟩
abbrev s__law_keys : Stmt := topS 57
theorem sc__law_keys : FnScope ["_law_pool_here", "_law_tables_here", "_law_keys_here", "_law_name"] ["_law_pool_here", "_law_tables_here"] (defScope s__law_keys) := ⟨rfl, rfl, rfl, by decide +kernel, rfl, by decide +kernel, by decide +kernel⟩
abbrev s__law_is_whole : Stmt := topS 58
theorem sc__law_is_whole : FnScope ["_law_tables_here", "_law_keys_here", "_law_told", "_law_table", "_law_given", "_law_cap", "_law_column"] ["_law_tables_here", "_law_keys_here", "_law_told"] (defScope s__law_is_whole) := ⟨rfl, rfl, rfl, by decide +kernel, rfl, by decide +kernel, by decide +kernel⟩
abbrev s__law_services : Stmt := topS 59
theorem sc__law_services : FnScope ["_law_pool_here", "_law_tables_here", "_law_keys_here", "_law_caps", "_law_more", "_law_order", "_law_names_here", "_law_services_here", "_law_filled", "_law_k", "_law_table", "_law_cap", "_law_told"] ["_law_pool_here", "_law_tables_here", "_law_keys_here", "_law_caps", "_law_more"] (defScope s__law_services) := ⟨rfl, rfl, rfl, by decide +kernel, rfl, by decide +kernel, by decide +kernel⟩
abbrev s__law_schema_parts : Stmt := topS 60
theorem sc__law_schema_parts : FnScope ["_law_pool_here", "_law_many", "_law_widest", "_law_caps", "_law_more", "_law_tables_here", "_law_keys_here"] ["_law_pool_here", "_law_many", "_law_widest", "_law_caps", "_law_more"] (defScope s__law_schema_parts) := ⟨rfl, rfl, rfl, by decide +kernel, rfl, by decide +kernel, by decide +kernel⟩
abbrev s__law_palette : Stmt := topS 63
theorem sc__law_palette : FnScope ["_law_pool_here", "_law_many", "_law_found", "_law_k"] ["_law_pool_here", "_law_many"] (defScope s__law_palette) := ⟨rfl, rfl, rfl, by decide +kernel, rfl, by decide +kernel, by decide +kernel⟩
abbrev s__law_pick : Stmt := topS 62
theorem sc__law_pick : FnScope ["_law_pool_here", "_law_row"] ["_law_pool_here", "_law_row"] (defScope s__law_pick) := ⟨rfl, rfl, rfl, by decide +kernel, rfl, by decide +kernel, by decide +kernel⟩
abbrev s__law_lets : Stmt := topS 64
theorem sc__law_lets : FnScope ["_law_rows_here", "_law_mark", "_law_row", "_law_other", "_law_at"] ["_law_rows_here", "_law_mark", "_law_row"] (defScope s__law_lets) := ⟨rfl, rfl, rfl, by decide +kernel, rfl, by decide +kernel, by decide +kernel⟩
abbrev s__law_rows : Stmt := topS 65
theorem sc__law_rows : FnScope ["_law_pool_here", "_law_tables_here", "_law_keys_here", "_law_palette_here", "_law_most", "_law_found", "_law_table", "_law_rows_here", "_law_k", "_law_row", "_law_at"] ["_law_pool_here", "_law_tables_here", "_law_keys_here", "_law_palette_here", "_law_most"] (defScope s__law_rows) := ⟨rfl, rfl, rfl, by decide +kernel, rfl, by decide +kernel, by decide +kernel⟩
abbrev s__law_rank : Stmt := topS 66
theorem sc__law_rank : FnScope ["_law_row", "_law_part"] ["_law_row"] (defScope s__law_rank) := ⟨rfl, rfl, rfl, by decide +kernel, rfl, by decide +kernel, by decide +kernel⟩
abbrev s__law_sorted : Stmt := topS 67
theorem sc__law_sorted : FnScope ["_law_rows_here", "_law_found", "_law_row"] ["_law_rows_here"] (defScope s__law_sorted) := ⟨rfl, rfl, rfl, by decide +kernel, rfl, by decide +kernel, by decide +kernel⟩
abbrev s__law_copies : Stmt := topS 68
theorem sc__law_copies : FnScope ["_law_lists", "_law_found", "_law_name"] ["_law_lists"] (defScope s__law_copies) := ⟨rfl, rfl, rfl, by decide +kernel, rfl, by decide +kernel, by decide +kernel⟩
abbrev s__law_fitting : Stmt := topS 69
theorem sc__law_fitting : FnScope ["_law_services_here", "_law_rows_here", "_law_service", "_law_values", "_law_table", "_law_given", "_law_cap", "_law_found", "_law_row", "_law_at"] ["_law_services_here", "_law_rows_here", "_law_service", "_law_values"] (defScope s__law_fitting) := ⟨rfl, rfl, rfl, by decide +kernel, rfl, by decide +kernel, by decide +kernel⟩
abbrev s__law_first : Stmt := topS 70
theorem sc__law_first : FnScope ["_law_services_here", "_law_rows_here", "_law_service", "_law_values", "_law_found", "_law_cap"] ["_law_services_here", "_law_rows_here", "_law_service", "_law_values"] (defScope s__law_first) := ⟨rfl, rfl, rfl, by decide +kernel, rfl, by decide +kernel, by decide +kernel⟩
abbrev s__law_mixed_rows : Stmt := topS 71
theorem sc__law_mixed_rows : FnScope ["_law_pool_here", "_law_rows_here", "_law_left", "_law_found", "_law_k"] ["_law_pool_here", "_law_rows_here"] (defScope s__law_mixed_rows) := ⟨rfl, rfl, rfl, by decide +kernel, rfl, by decide +kernel, by decide +kernel⟩
abbrev s__law_calls : Stmt := topS 72
theorem sc__law_calls : FnScope ["_law_services_here", "_law_rows_here", "_law_found", "_law_service", "_law_table", "_law_given", "_law_cap", "_law_row", "_law_call", "_law_at"] ["_law_services_here", "_law_rows_here"] (defScope s__law_calls) := ⟨rfl, rfl, rfl, by decide +kernel, rfl, by decide +kernel, by decide +kernel⟩
abbrev s__law_chosen : Stmt := topS 73
theorem sc__law_chosen : FnScope ["_law_pool_here", "_law_services_here", "_law_rows_here", "_law_calls_here", "_law_found", "_law_service", "_law_values", "_law_line", "_law_cap"] ["_law_pool_here", "_law_services_here", "_law_rows_here", "_law_calls_here"] (defScope s__law_chosen) := ⟨rfl, rfl, rfl, by decide +kernel, rfl, by decide +kernel, by decide +kernel⟩
abbrev s__law_holds : Stmt := topS 74
theorem sc__law_holds : FnScope ["_law_answers", "_law_services_here", "_law_rows_here", "_law_chosen_here", "_law_calls_here", "_law_service", "_law_values", "_law_due", "_law_told", "_law_call"] ["_law_answers", "_law_services_here", "_law_rows_here", "_law_chosen_here", "_law_calls_here"] (defScope s__law_holds) := ⟨rfl, rfl, rfl, by decide +kernel, rfl, by decide +kernel, by decide +kernel⟩
abbrev s__law_refused : Stmt := topS 75
theorem sc__law_refused : FnScope ["_law_answers", "_law_service", "_law_values", "_law_told", "e"] ["_law_answers", "_law_service", "_law_values"] (defScope s__law_refused) := ⟨rfl, rfl, rfl, by decide +kernel, rfl, by decide +kernel, by decide +kernel⟩
abbrev s__law_refuses : Stmt := topS 76
theorem sc__law_refuses : FnScope ["_law_pool_here", "_law_answers", "_law_services_here", "_law_service", "_law_given", "_law_wrong", "_law_at"] ["_law_pool_here", "_law_answers", "_law_services_here"] (defScope s__law_refuses) := ⟨rfl, rfl, rfl, by decide +kernel, rfl, by decide +kernel, by decide +kernel⟩
abbrev s_law : Stmt := topS 77
theorem sc_law : FnScope ["_law_script", "_law_pool_here", "_law_tables_here", "_law_keys_here", "_law_services_here", "_law_palette_here", "_law_rows_here", "_law_schema", "_law_store", "_law_calls_here", "_law_chosen_here", "_law_service", "_law_handed", "_law_answers", "_law_plain", "_law_call", "_law_k", "_law_at"] ["_law_script"] (defScope s_law) := ⟨rfl, rfl, rfl, by decide +kernel, rfl, by decide +kernel, by decide +kernel⟩
/-- what the top has written, as the walks ask for it -/
structure Txt (K : PySem.W.Frag) (mg : Str → Option Value) (a : Nat → Addr) (d : Nat → FuncData) : Prop where
  F1300 : Fun K "__init__" "UnknownName.__init__" s_UnknownName___init__ (a 1300) (d 1300)
  b1300 : Binds K (d 1300) ["self", "name"] []
  F1800 : Fun K "__init__" "InvalidCall.__init__" s_InvalidCall___init__ (a 1800) (d 1800)
  b1800 : Binds K (d 1800) ["self", "service"] []
  F13 : Fun K "is_plain_int" "is_plain_int" s_is_plain_int (a 13) (d 13)
  b13 : Binds K (d 13) ["thing"] []
  g13 : mg "is_plain_int" = some (.ref (a 13))
  F14 : Fun K "is_word" "is_word" s_is_word (a 14) (d 14)
  b14 : Binds K (d 14) ["thing"] []
  g14 : mg "is_word" = some (.ref (a 14))
  F15 : Fun K "is_value" "is_value" s_is_value (a 15) (d 15)
  b15 : Binds K (d 15) ["thing"] []
  g15 : mg "is_value" = some (.ref (a 15))
  F16 : Fun K "are_values" "are_values" s_are_values (a 16) (d 16)
  b16 : Binds K (d 16) ["thing", "many"] []
  g16 : mg "are_values" = some (.ref (a 16))
  F17 : Fun K "columns_of" "columns_of" s_columns_of (a 17) (d 17)
  b17 : Binds K (d 17) ["row", "columns"] []
  g17 : mg "columns_of" = some (.ref (a 17))
  F18 : Fun K "row_key" "row_key" s_row_key (a 18) (d 18)
  b18 : Binds K (d 18) ["row"] []
  g18 : mg "row_key" = some (.ref (a 18))
  F19 : Fun K "sorted_rows" "sorted_rows" s_sorted_rows (a 19) (d 19)
  b19 : Binds K (d 19) ["rows"] []
  g19 : mg "sorted_rows" = some (.ref (a 19))
  F31 : Fun K "_is_count" "_is_count" s__is_count (a 31) (d 31)
  b31 : Binds K (d 31) ["thing", "most"] []
  g31 : mg "_is_count" = some (.ref (a 31))
  F32 : Fun K "_is_name_in" "_is_name_in" s__is_name_in (a 32) (d 32)
  b32 : Binds K (d 32) ["thing", "names"] []
  g32 : mg "_is_name_in" = some (.ref (a 32))
  F33 : Fun K "_are_columns" "_are_columns" s__are_columns (a 33) (d 33)
  b33 : Binds K (d 33) ["thing", "width"] []
  g33 : mg "_are_columns" = some (.ref (a 33))
  F34 : Fun K "_is_key" "_is_key" s__is_key (a 34) (d 34)
  b34 : Binds K (d 34) ["thing", "width"] []
  g34 : mg "_is_key" = some (.ref (a 34))
  F35 : Fun K "_is_service" "_is_service" s__is_service (a 35) (d 35)
  b35 : Binds K (d 35) ["thing", "tables"] []
  g35 : mg "_is_service" = some (.ref (a 35))
  F36 : Fun K "_is_whole_service" "_is_whole_service" s__is_whole_service (a 36) (d 36)
  b36 : Binds K (d 36) ["service", "tables", "keys"] []
  g36 : mg "_is_whole_service" = some (.ref (a 36))
  F37 : Fun K "_check_tables" "_check_tables" s__check_tables (a 37) (d 37)
  b37 : Binds K (d 37) ["tables"] []
  g37 : mg "_check_tables" = some (.ref (a 37))
  F38 : Fun K "_check_keys" "_check_keys" s__check_keys (a 38) (d 38)
  b38 : Binds K (d 38) ["keys", "tables"] []
  g38 : mg "_check_keys" = some (.ref (a 38))
  F39 : Fun K "_check_services" "_check_services" s__check_services (a 39) (d 39)
  b39 : Binds K (d 39) ["services", "tables"] []
  g39 : mg "_check_services" = some (.ref (a 39))
  F40 : Fun K "_check_capped" "_check_capped" s__check_capped (a 40) (d 40)
  b40 : Binds K (d 40) ["services", "tables", "keys"] []
  g40 : mg "_check_capped" = some (.ref (a 40))
  F41 : Fun K "_copied" "_copied" s__copied (a 41) (d 41)
  b41 : Binds K (d 41) ["things"] []
  g41 : mg "_copied" = some (.ref (a 41))
  F5200 : Fun K "__init__" "Schema.__init__" s_Schema___init__ (a 5200) (d 5200)
  b5200 : Binds K (d 5200) ["self", "tables", "keys", "services"] []
  F5203 : Fun K "services" "Schema.services" s_Schema_services (a 5203) (d 5203)
  b5203 : Binds K (d 5203) ["self"] []
  F5204 : Fun K "__eq__" "Schema.__eq__" s_Schema___eq__ (a 5204) (d 5204)
  b5204 : Binds K (d 5204) ["self", "other"] []
  F5205 : Fun K "table_names" "Schema.table_names" s_Schema_table_names (a 5205) (d 5205)
  b5205 : Binds K (d 5205) ["self"] []
  F5208 : Fun K "width_of" "Schema.width_of" s_Schema_width_of (a 5208) (d 5208)
  b5208 : Binds K (d 5208) ["self", "table"] []
  F5209 : Fun K "key_of" "Schema.key_of" s_Schema_key_of (a 5209) (d 5209)
  b5209 : Binds K (d 5209) ["self", "table"] []
  F5210 : Fun K "service_of" "Schema.service_of" s_Schema_service_of (a 5210) (d 5210)
  b5210 : Binds K (d 5210) ["self", "name"] []
  F46 : Fun K "_check_table" "_check_table" s__check_table (a 46) (d 46)
  b46 : Binds K (d 46) ["schema", "table", "rows"] []
  g46 : mg "_check_table" = some (.ref (a 46))
  F47 : Fun K "_by_given" "_by_given" s__by_given (a 47) (d 47)
  b47 : Binds K (d 47) ["rows", "given"] []
  g47 : mg "_by_given" = some (.ref (a 47))
  F5800 : Fun K "__init__" "Store.__init__" s_Store___init__ (a 5800) (d 5800)
  b5800 : Binds K (d 5800) ["self", "schema", "rows"] []
  F5805 : Fun K "__eq__" "Store.__eq__" s_Store___eq__ (a 5805) (d 5805)
  b5805 : Binds K (d 5805) ["self", "other"] []
  F5808 : Fun K "fitting" "Store.fitting" s_Store_fitting (a 5808) (d 5808)
  b5808 : Binds K (d 5808) ["self", "service", "given"] []
  F21 : Fun K "_answer_size" "_answer_size" s__answer_size (a 21) (d 21)
  b21 : Binds K (d 21) ["store", "service", "rows"] []
  g21 : mg "_answer_size" = some (.ref (a 21))
  F22 : Fun K "_is_answer" "_is_answer" s__is_answer (a 22) (d 22)
  b22 : Binds K (d 22) ["store", "service", "given", "rows"] []
  g22 : mg "_is_answer" = some (.ref (a 22))
  F23 : Fun K "_check_choice" "_check_choice" s__check_choice (a 23) (d 23)
  b23 : Binds K (d 23) ["store", "service", "given", "rows"] []
  g23 : mg "_check_choice" = some (.ref (a 23))
  F24 : Fun K "_call_key" "_call_key" s__call_key (a 24) (d 24)
  b24 : Binds K (d 24) ["call"] []
  g24 : mg "_call_key" = some (.ref (a 24))
  F3500 : FunD K "__init__" "Answers.__init__" (defArgs s_Answers___init__) (defBody s_Answers___init__) (defScope s_Answers___init__) [.non] [] (a 3500) (d 3500)
  e3500 : Binds K (d 3500) ["self", "store", "choices"] [.none]
  b3500 : Binds K (d 3500) ["self", "store", "choices"] []
  F3501 : Fun K "choices" "Answers.choices" s_Answers_choices (a 3501) (d 3501)
  b3501 : Binds K (d 3501) ["self"] []
  F3502 : Fun K "__call__" "Answers.__call__" s_Answers___call__ (a 3502) (d 3502)
  b3502 : Binds K (d 3502) ["self", "service", "given"] []
  F50 : Fun K "_law_pool" "_law_pool" s__law_pool (a 50) (d 50)
  b50 : Binds K (d 50) ["_law_script"] []
  g50 : mg "_law_pool" = some (.ref (a 50))
  F51 : Fun K "_law_mixed" "_law_mixed" s__law_mixed (a 51) (d 51)
  b51 : Binds K (d 51) ["_law_seed", "_law_count"] []
  g51 : mg "_law_mixed" = some (.ref (a 51))
  F52 : Fun K "_law_draw" "_law_draw" s__law_draw (a 52) (d 52)
  b52 : Binds K (d 52) ["_law_pool_here", "_law_many"] []
  g52 : mg "_law_draw" = some (.ref (a 52))
  F53 : Fun K "_law_word" "_law_word" s__law_word (a 53) (d 53)
  b53 : Binds K (d 53) ["_law_pool_here", "_law_many"] []
  g53 : mg "_law_word" = some (.ref (a 53))
  F61 : Fun K "_law_value" "_law_value" s__law_value (a 61) (d 61)
  b61 : Binds K (d 61) ["_law_pool_here"] []
  g61 : mg "_law_value" = some (.ref (a 61))
  F54 : Fun K "_law_names" "_law_names" s__law_names (a 54) (d 54)
  b54 : Binds K (d 54) ["_law_pool_here", "_law_many"] []
  g54 : mg "_law_names" = some (.ref (a 54))
  F55 : Fun K "_law_columns" "_law_columns" s__law_columns (a 55) (d 55)
  b55 : Binds K (d 55) ["_law_pool_here", "_law_width", "_law_low", "_law_high"] []
  g55 : mg "_law_columns" = some (.ref (a 55))
  F56 : Fun K "_law_tables" "_law_tables" s__law_tables (a 56) (d 56)
  b56 : Binds K (d 56) ["_law_pool_here", "_law_many", "_law_widest"] []
  g56 : mg "_law_tables" = some (.ref (a 56))
  F57 : Fun K "_law_keys" "_law_keys" s__law_keys (a 57) (d 57)
  b57 : Binds K (d 57) ["_law_pool_here", "_law_tables_here"] []
  g57 : mg "_law_keys" = some (.ref (a 57))
  F58 : Fun K "_law_is_whole" "_law_is_whole" s__law_is_whole (a 58) (d 58)
  b58 : Binds K (d 58) ["_law_tables_here", "_law_keys_here", "_law_told"] []
  g58 : mg "_law_is_whole" = some (.ref (a 58))
  F59 : Fun K "_law_services" "_law_services" s__law_services (a 59) (d 59)
  b59 : Binds K (d 59) ["_law_pool_here", "_law_tables_here", "_law_keys_here", "_law_caps", "_law_more"] []
  g59 : mg "_law_services" = some (.ref (a 59))
  F60 : Fun K "_law_schema_parts" "_law_schema_parts" s__law_schema_parts (a 60) (d 60)
  b60 : Binds K (d 60) ["_law_pool_here", "_law_many", "_law_widest", "_law_caps", "_law_more"] []
  g60 : mg "_law_schema_parts" = some (.ref (a 60))
  F63 : Fun K "_law_palette" "_law_palette" s__law_palette (a 63) (d 63)
  b63 : Binds K (d 63) ["_law_pool_here", "_law_many"] []
  g63 : mg "_law_palette" = some (.ref (a 63))
  F62 : Fun K "_law_pick" "_law_pick" s__law_pick (a 62) (d 62)
  b62 : Binds K (d 62) ["_law_pool_here", "_law_row"] []
  g62 : mg "_law_pick" = some (.ref (a 62))
  F64 : Fun K "_law_lets" "_law_lets" s__law_lets (a 64) (d 64)
  b64 : Binds K (d 64) ["_law_rows_here", "_law_mark", "_law_row"] []
  g64 : mg "_law_lets" = some (.ref (a 64))
  F65 : Fun K "_law_rows" "_law_rows" s__law_rows (a 65) (d 65)
  b65 : Binds K (d 65) ["_law_pool_here", "_law_tables_here", "_law_keys_here", "_law_palette_here", "_law_most"] []
  g65 : mg "_law_rows" = some (.ref (a 65))
  F66 : Fun K "_law_rank" "_law_rank" s__law_rank (a 66) (d 66)
  b66 : Binds K (d 66) ["_law_row"] []
  g66 : mg "_law_rank" = some (.ref (a 66))
  F67 : Fun K "_law_sorted" "_law_sorted" s__law_sorted (a 67) (d 67)
  b67 : Binds K (d 67) ["_law_rows_here"] []
  g67 : mg "_law_sorted" = some (.ref (a 67))
  F68 : Fun K "_law_copies" "_law_copies" s__law_copies (a 68) (d 68)
  b68 : Binds K (d 68) ["_law_lists"] []
  g68 : mg "_law_copies" = some (.ref (a 68))
  F69 : Fun K "_law_fitting" "_law_fitting" s__law_fitting (a 69) (d 69)
  b69 : Binds K (d 69) ["_law_services_here", "_law_rows_here", "_law_service", "_law_values"] []
  g69 : mg "_law_fitting" = some (.ref (a 69))
  F70 : Fun K "_law_first" "_law_first" s__law_first (a 70) (d 70)
  b70 : Binds K (d 70) ["_law_services_here", "_law_rows_here", "_law_service", "_law_values"] []
  g70 : mg "_law_first" = some (.ref (a 70))
  F71 : Fun K "_law_mixed_rows" "_law_mixed_rows" s__law_mixed_rows (a 71) (d 71)
  b71 : Binds K (d 71) ["_law_pool_here", "_law_rows_here"] []
  g71 : mg "_law_mixed_rows" = some (.ref (a 71))
  F72 : Fun K "_law_calls" "_law_calls" s__law_calls (a 72) (d 72)
  b72 : Binds K (d 72) ["_law_services_here", "_law_rows_here"] []
  g72 : mg "_law_calls" = some (.ref (a 72))
  F73 : Fun K "_law_chosen" "_law_chosen" s__law_chosen (a 73) (d 73)
  b73 : Binds K (d 73) ["_law_pool_here", "_law_services_here", "_law_rows_here", "_law_calls_here"] []
  g73 : mg "_law_chosen" = some (.ref (a 73))
  F74 : Fun K "_law_holds" "_law_holds" s__law_holds (a 74) (d 74)
  b74 : Binds K (d 74) ["_law_answers", "_law_services_here", "_law_rows_here", "_law_chosen_here", "_law_calls_here"] []
  g74 : mg "_law_holds" = some (.ref (a 74))
  F75 : Fun K "_law_refused" "_law_refused" s__law_refused (a 75) (d 75)
  b75 : Binds K (d 75) ["_law_answers", "_law_service", "_law_values"] []
  g75 : mg "_law_refused" = some (.ref (a 75))
  F76 : Fun K "_law_refuses" "_law_refuses" s__law_refuses (a 76) (d 76)
  b76 : Binds K (d 76) ["_law_pool_here", "_law_answers", "_law_services_here"] []
  g76 : mg "_law_refuses" = some (.ref (a 76))
  F77 : Fun K "law" "law" s_law (a 77) (d 77)
  b77 : Binds K (d 77) ["_law_script"] []
  g77 : mg "law" = some (.ref (a 77))
  cg_2 : mg "CappedError" = some (.ref (a 2))
  x_2 : OexC K (a 2)
  xf_2 : XfC K (a 2)
  xi_2 : ExcC K (a 2)
  cg_3 : mg "UnknownName" = some (.ref (a 3))
  x_3 : OexC K (a 3)
  xf_3 : XfC K (a 3)
  xi_3 : ExcC K (a 3)
  in_3 : PySem.W.findIn K (.ref (a 3)) "__init__" = some (some (.ref (a 1300)))
  ti_3 : PySem.W.typeIn K (.ref (a 1300)) = some (.type "function")
  no_3_name : PySem.W.findIn K (.ref (a 3)) "name" = some none
  cg_8 : mg "InvalidCall" = some (.ref (a 8))
  x_8 : OexC K (a 8)
  xf_8 : XfC K (a 8)
  xi_8 : ExcC K (a 8)
  in_8 : PySem.W.findIn K (.ref (a 8)) "__init__" = some (some (.ref (a 1800)))
  ti_8 : PySem.W.typeIn K (.ref (a 1800)) = some (.type "function")
  no_8_service : PySem.W.findIn K (.ref (a 8)) "service" = some none
  cg_42 : mg "Schema" = some (.ref (a 42))
  cl_42 : Cls K (a 42)
  M_42 : Mk K (a 42) (a 5200)
  no_42__tables : NoAttr K (a 42) "_tables"
  no_42__keys : NoAttr K (a 42) "_keys"
  no_42__services : NoAttr K (a 42) "_services"
  cg_48 : mg "Store" = some (.ref (a 48))
  cl_48 : Cls K (a 48)
  M_48 : Mk K (a 48) (a 5800)
  no_48_schema : NoAttr K (a 48) "schema"
  no_48__rows : NoAttr K (a 48) "_rows"
  no_48__fitting : NoAttr K (a 48) "_fitting"
  cg_25 : mg "Answers" = some (.ref (a 25))
  cl_25 : Cls K (a 25)
  M_25 : Mk K (a 25) (a 3500)
  no_25_store : NoAttr K (a 25) "store"
  no_25_schema : NoAttr K (a 25) "schema"
  no_25__chosen : NoAttr K (a 25) "_chosen"
  ic_42 : C8.InsC K (a 42)
  ic_48 : C8.InsC K (a 48)
  kit_3_2 : PySem.W.kitOne K (.ref (a 3)) (.ref (a 2)) = some true
  kit_8_2 : PySem.W.kitOne K (.ref (a 8)) (.ref (a 2)) = some true
  kif_3_8 : PySem.W.kitOne K (.ref (a 3)) (.ref (a 8)) = some false
  kif_8_3 : PySem.W.kitOne K (.ref (a 8)) (.ref (a 3)) = some false
  exm_3_3 : PySem.W.exmOne K (.ref (a 3)) (.ref (a 3)) = some true
  exm_8_8 : PySem.W.exmOne K (.ref (a 8)) (.ref (a 8)) = some true
  exf_8_3 : PySem.W.exmOne K (.ref (a 8)) (.ref (a 3)) = some false
  p_5203 : PropOf K (a 42) "services" (a 55203) (a 5203)
  m_5204 : Meth K (a 42) "__eq__" (a 5204)
  m_5205 : Meth K (a 42) "table_names" (a 5205)
  m_5208 : Meth K (a 42) "width_of" (a 5208)
  m_5209 : Meth K (a 42) "key_of" (a 5209)
  m_5210 : Meth K (a 42) "service_of" (a 5210)
  m_5805 : Meth K (a 48) "__eq__" (a 5805)
  m_5808 : Meth K (a 48) "fitting" (a 5808)
  p_3501 : PropOf K (a 25) "choices" (a 53501) (a 3501)
  m_3502 : Meth K (a 25) "__call__" (a 3502)
  sp_3502 : Spec1 K (a 25) "__call__" (a 3502)
  z_abs : mg "abs" = none
  z_all : mg "all" = none
  z_bool : mg "bool" = none
  z_dict : mg "dict" = none
  z_enumerate : mg "enumerate" = none
  z_int : mg "int" = none
  z_isinstance : mg "isinstance" = none
  z_len : mg "len" = none
  z_list : mg "list" = none
  z_min : mg "min" = none
  z_range : mg "range" = none
  z_sorted : mg "sorted" = none
  z_str : mg "str" = none
  z_sum : mg "sum" = none
  z_tuple : mg "tuple" = none
  c_LONGEST_WORD : ∃ t, mg "LONGEST_WORD" = some (.int (8) t)
  c_GREATEST_VALUE : ∃ t, mg "GREATEST_VALUE" = some (.int (999999999999999999999999999999) t)
  c_MOST_TABLES : ∃ t, mg "MOST_TABLES" = some (.int (5) t)
  c_MOST_WIDTH : ∃ t, mg "MOST_WIDTH" = some (.int (4) t)
  c_MOST_SERVICES : ∃ t, mg "MOST_SERVICES" = some (.int (8) t)
  c_MOST_CAP : ∃ t, mg "MOST_CAP" = some (.int (4) t)
  c_MOST_ROWS : ∃ t, mg "MOST_ROWS" = some (.int (400) t)
end My
namespace My
open PySem PySem.Spec PyProof.Rows L2
local macro_rules | `(tactic| walk_at "g") => `(tactic| first
  | refine ⟨_, rfl, ?_⟩
  | refine ⟨_, _, rfl, rfl, .inl ⟨by decide, by decide⟩, ?_⟩
  | refine ⟨_, _, rfl, rfl, .inr ⟨by decide, by decide⟩, ?_⟩
  | refine ⟨_, _, rfl, rfl, .inl ⟨by omega, by omega⟩, ?_⟩
  | refine ⟨_, _, rfl, rfl, ⟨by decide, by decide +kernel⟩, ?_⟩
  | refine ⟨_, _, rfl, rfl, ⟨by decide, by decide, by decide⟩, ?_⟩
  | refine ⟨_, _, rfl, rfl, (by show (0 : Int) < _; decide), ?_⟩
  | refine ⟨_, _, rfl, rfl, ?_⟩
  | refine .inl ⟨_, rfl, ?_⟩
  | refine ⟨rfl, _, rfl, ?_⟩)
local macro_rules | `(tactic| walk_at "gg") => `(tactic| repeat walk_at "g")
/-! ### the pool of draws: a list of ints at an address that every draw changes -/
def PoolAt (H : Hp) (a : Addr) : Prop := ∃ (p0 p1 p2 p3 : Int) (r : List Int), H a = some (.lst (.int p0 :: .int p1 :: .int p2 :: .int p3 :: r.map V.int)) ∧ 0 ≤ p0 ∧ 0 ≤ p1 ∧ 0 ≤ p2 ∧ p2 < 2147483647 ∧ 0 ≤ p3 ∧ r.length ≤ 63
/-- the pool at a may have changed; all else that was tracked stands -/
def Chg (a : Addr) (H H' : Hp) : Prop := PoolAt H' a ∧ ∀ b o, b ≠ a → H b = some o → H' b = some o
theorem Chg.refl {a : Addr} {H : Hp} (h : PoolAt H a) : Chg a H H := ⟨h, fun _ _ _ e => e⟩
theorem Chg.trans {a : Addr} {H H1 H2 : Hp} (x : Chg a H H1) (y : Chg a H1 H2) : Chg a H H2 := ⟨y.1, fun b o n e => y.2 b o n (x.2 b o n e)⟩
theorem Chg.new {a p : Addr} {o : HO} {H H1 : Hp} (x : Chg a H H1) (h : H1 p = none) : Chg a H (upd H1 p o) := by
  obtain ⟨⟨p0, p1, p2, p3, r, e, c⟩, k⟩ := x
  have n : a ≠ p := ne_of_none e h
  exact ⟨⟨p0, p1, p2, p3, r, by rw [upd_ne n]; exact e, c⟩, fun b u nb q => by
    have q' := k b u nb q
    rw [upd_ne (ne_of_none q' h)]
    exact q'⟩
theorem Chg.mut {a p : Addr} {o : HO} {H H1 : Hp} (x : Chg a H H1) (h : H p = none) (n : p ≠ a) : Chg a H (upd H1 p o) := by
  obtain ⟨⟨p0, p1, p2, p3, r, e, c⟩, k⟩ := x
  exact ⟨⟨p0, p1, p2, p3, r, by rw [upd_ne n.symm]; exact e, c⟩, fun b u nb q => by
    rw [upd_ne (ne_of_none q h)]
    exact k b u nb q⟩
theorem Chg.ne {a p : Addr} {H : Hp} (x : PoolAt H a) (h : H p = none) : p ≠ a := by
  obtain ⟨p0, p1, p2, p3, r, e, c⟩ := x
  exact (ne_of_none e h).symm
theorem PoolAt.same {a : Addr} {H H' : Hp} (x : PoolAt H a) (s : Same H H') : PoolAt H' a := by
  obtain ⟨p0, p1, p2, p3, r, e, c⟩ := x
  exact ⟨p0, p1, p2, p3, r, s _ _ e, c⟩
theorem same_upd {H : Hp} {p : Addr} {o : HO} (h : H p = none) : Same H (upd H p o) := fun b x e => by
  rw [upd_ne (ne_of_none e h)]
  exact e
theorem Same.on {H H' : Hp} {b : Addr} {o : HO} (s : Same H H') (e : H b = some o) : H' b = some o := s _ _ e
theorem upd_old {H : Hp} {p b : Addr} {o u : HO} (h : H p = none) (e : H b = some u) : upd H p o b = some u := by
  rw [upd_ne (ne_of_none e h)]
  exact e
theorem upd_oldN {H : Hp} {p b : Addr} {o u : HO} (n : b ≠ p) (e : H b = some u) : upd H p o b = some u := by
  rw [upd_ne n]
  exact e
theorem free_of {a p : Addr} {H H1 : Hp} (x : Chg a H H1) (h0 : PoolAt H a) (h : H1 p = none) : H p = none := by
  cases e : H p with
  | none => rfl
  | some o =>
    by_cases n : p = a
    · subst n
      obtain ⟨⟨p0, p1, p2, p3, r, e, c⟩, _⟩ := x
      rw [e] at h
      cases h
    · rw [x.2 p o n e] at h
      cases h
theorem ixN_at {n j : Nat} (h : j < n) : ixN n (j : Int) = some j := by
  unfold ixN
  rw [if_pos (by omega), if_pos (by omega)]
  simp
theorem ite_d {p A B : Prop} [Decidable p] (h1 : p → A) (h2 : ¬ p → B) : if decide p = true then A else B := by
  by_cases h : p
  · rw [if_pos (decide_eq_true h)]
    exact h1 h
  · rw [if_neg (by rw [decide_eq_false h]; decide)]
    exact h2 h
theorem ite_nd {p A B : Prop} [Decidable p] (h1 : ¬ p → A) (h2 : p → B) : if (!decide p) = true then A else B := by
  by_cases h : p
  · rw [if_neg (by rw [decide_eq_true h]; decide)]
    exact h2 h
  · rw [if_pos (by rw [decide_eq_false h]; decide)]
    exact h1 h
theorem ite_eqI {i j : Int} {A B : Prop} (h1 : i = j → A) (h2 : i ≠ j → B) : if decide (V.int i = V.int j) = true then A else B := ite_d (fun h => h1 (V.int.inj h)) (fun h => h2 fun e => h (congrArg V.int e))
theorem int_at {q0 q1 q2 q3 : Int} {r : List Int} {i : Nat} (h : i < (V.int q0 :: .int q1 :: .int q2 :: .int q3 :: r.map V.int).length) : ∃ c, (V.int q0 :: .int q1 :: .int q2 :: .int q3 :: r.map V.int)[i]? = some (.int c) := by
  have e : (V.int q0 :: .int q1 :: .int q2 :: .int q3 :: r.map V.int) = (q0 :: q1 :: q2 :: q3 :: r).map V.int := rfl
  rw [e] at h ⊢
  rw [List.length_map] at h
  exact ⟨_, by rw [List.getElem?_map, List.getElem?_eq_getElem h]; rfl⟩
theorem map_at {α β : Type} {f : α → β} {xs : List α} {i : Nat} {y : β} (h : (xs.map f)[i]? = some y) : ∃ x, xs[i]? = some x ∧ f x = y := by
  rw [List.getElem?_map] at h
  cases e : xs[i]? with
  | none =>
    rw [e] at h
    cases h
  | some x =>
    rw [e] at h
    exact ⟨x, rfl, Option.some.inj h⟩
theorem map_take {α β : Type} {f : α → β} {xs : List α} {i : Nat} {x : α} (h : xs[i]? = some x) : (xs.take (i + 1)).map f = (xs.take i).map f ++ [f x] := by
  rw [List.take_add_one, h, List.map_append]
  rfl
theorem small1000' {n : Nat} (h : n ≤ 1000) : n ≤ sizeLine := Nat.le_of_lt (small1000 h)
theorem hu_of64 {A : Around} {k : Nat} (hr : Room k A) : A.units + 64 < cLine := Nat.lt_of_le_of_lt (Nat.add_le_add_left (by omega : 64 ≤ 16 * k + 200) _) (by have := hr.un; omega)
theorem hu_of65 {A : Around} {k : Nat} (hr : Room k A) : A.units + 65 < cLine := Nat.lt_of_le_of_lt (Nat.add_le_add_left (by omega : 65 ≤ 16 * k + 200) _) (by have := hr.un; omega)
theorem hu_of80 {A : Around} {k : Nat} (hr : Room k A) : A.units + 80 < cLine := Nat.lt_of_le_of_lt (Nat.add_le_add_left (by omega : 80 ≤ 16 * k + 200) _) (by have := hr.un; omega)
theorem at_g {α : Type} {xs : List α} {z : Int} {j : Nat} {v : α} (e : z = (j : Int)) (h : xs[j]? = some v) : atI xs z = some v := by
  rw [e]
  exact atI_nat h
theorem at_some {α : Type} {xs : List α} {z : Int} (h0 : 0 ≤ z) (h1 : z < xs.length) : ∃ v, atI xs z = some v := by
  have h2 : z.toNat < xs.length := by omega
  exact ⟨_, at_g (show z = ((z.toNat : Nat) : Int) by omega) (List.getElem?_eq_getElem h2)⟩
theorem atI_mem {α : Type} {xs : List α} {z : Int} {v : α} (h : atI xs z = some v) : v ∈ xs := by
  unfold atI at h
  cases e : ixN xs.length z with
  | none =>
    rw [e] at h
    cases h
  | some j =>
    rw [e] at h
    exact List.mem_of_getElem? h
theorem cutS_mem {z : Str} {lo hi : Option Int} {c : Nat} (h : c ∈ (cutS z lo hi).cps.toList) : c ∈ z.cps.toList := by
  unfold cutS at h
  exact List.mem_of_mem_drop (List.mem_of_mem_take h)
theorem letter_at : ∀ j : Nat, j < 26 → ("abcdefghijklmnopqrstuvwxyz" : Str).cps.toList[j]? = some (97 + j) := by decide +kernel
section
variable {P : Program} {w : World} {K : PySem.W.Frag} {mg : Str → Option Value} {base : Heap} {a : Nat → Addr} {d : Nat → FuncData}
/-! ### _law_mixed: some int -/
def spMixed : Sp := fun vs H Q _ => ∃ (s c : Int), vs = [.int s, .int c] ∧ ∀ r : Int, Q (.int r) H
theorem ok_mixed (T : Txt K mg a d) : FnOk P w K mg base CX0 1 (a 51) (d 51) ["_law_seed", "_law_count"] spMixed := by
  refine T.F51.ok sc__law_mixed (fun vs H Q E h => ?_) (fun cdv A outer s H vs Q E hr h => ?_)
  · obtain ⟨s, c, rfl, _⟩ := h
    rfl
  · obtain ⟨s, c, rfl, q⟩ := h
    refine ⟨_, (pss_cons (ps_set (i := 2) sc__law_mixed.nd rfl (.inl rfl) (pe_op op_mod (pe_callTy (T := "int")  call_int1 (by rfl) T.z_int (by decide +kernel) (pa_cons (pe_op op_mul (pe_op op_add (pe_op op_add (pv 0) (pe_op op_mul pe_int (pv 1))) pe_int) pe_int) pa_nil)) pe_int))
  (pss_cons (ps_set (i := 2) sc__law_mixed.nd rfl (.inl rfl) (pe_op op_mod (pe_callTy (T := "int")  call_int1 (by rfl) T.z_int (by decide +kernel) (pa_cons (pe_op op_mul (pv 2) (pe_op op_add (pe_op op_fdivW (pv 2) pe_int) pe_int)) pa_nil)) pe_int))
  (pss_one (ps_ret (pe_op op_mod (pe_callTy (T := "int")  call_int1 (by rfl) T.z_int (by decide +kernel) (pa_cons (pe_op op_mul (pv 2) (pe_op op_add (pe_op op_fdivW (pv 2) pe_int) pe_int)) pa_nil)) pe_int))))), ?_⟩
    walk_at "gg"
    exact q _
/-! ### _law_draw: an int from 0 below many -/
def spDraw : Sp := fun vs H Q _ => ∃ (p : Addr) (m : Int), vs = [.ref p, .int m] ∧ PoolAt H p ∧ 0 < m ∧ m.natAbs < 2 ^ 200 ∧ ∀ (r : Int) (H' : Hp), 0 ≤ r → r < m → Chg p H H' → Q (.int r) H'
def Oth (a : Addr) (H H' : Hp) : Prop := ∀ b o, b ≠ a → H b = some o → H' b = some o
theorem Oth.refl (a : Addr) (H : Hp) : Oth a H H := fun _ _ _ e => e
theorem Oth.upd {a : Addr} {H H' : Hp} {o : HO} (x : Oth a H H') : Oth a H (upd H' a o) := fun b u n e => by
  rw [upd_ne n]
  exact x b u n e
theorem chg_of {p : Addr} {H H' : Hp} {p0 p1 p2 p3 : Int} {r : List Int} (e : H' p = some (.lst (.int p0 :: .int p1 :: .int p2 :: .int p3 :: r.map V.int))) (o : Oth p H H')
    (h0 : 0 ≤ p0) (h1 : 0 ≤ p1) (h2 : 0 ≤ p2) (h3 : p2 < 2147483647) (h4 : 0 ≤ p3) (h5 : r.length ≤ 63) : Chg p H H' := ⟨⟨p0, p1, p2, p3, r, e, h0, h1, h2, h3, h4, h5⟩, o⟩
theorem ok_draw (T : Txt K mg a d) : FnOk P w K mg base CX0 2 (a 52) (d 52) ["_law_pool_here", "_law_many"] spDraw := by
  have G51 : FnOk P w K mg base CX0 1 (a 51) (d 51) ["_law_seed", "_law_count"] spMixed := ok_mixed T
  refine T.F52.ok sc__law_draw (fun vs H Q E h => ?_) (fun cdv A outer s H vs Q E hr h => ?_)
  · obtain ⟨p, m, rfl, _⟩ := h
    rfl
  · obtain ⟨p, m, rfl, ⟨p0, p1, p2, p3, r, e, c0, c1, c2, c3, c4, c5⟩, hm, hm2, q⟩ := h
    refine ⟨_, (pss_cons (ps_asg (pe_op op_add (pe_ix ix_list (pv 0) pe_int (fun _ _ => rfl)) pe_int) (pg_sub (pv 0) pe_int set_list))
  (Evl.pss_cut (ps_if (PW.pt (pw_and (pt_cmpR op_eq (pe_ix ix_list (pv 0) pe_int (fun _ _ => rfl)) pe_int (nomark _)) (pw_and1 (pt_cmpR op_lt (pe_ix ix_list (pv 0) pe_int (fun _ _ => rfl)) (pe_callB (id := "len")  call_len_seq (by rfl) T.z_len (by decide +kernel) (pa_cons (pv 0) pa_nil)) (nomark _)))))
    (pss_cons (ps_set (i := 2) sc__law_draw.nd rfl (.inl rfl) (pe_callB (id := "abs")  call_abs (by rfl) T.z_abs (by decide +kernel) (pa_cons (pe_ix ix_list (pv 0) (pe_ix ix_list (pv 0) pe_int (fun _ _ => rfl)) (fun _ _ => rfl)) pa_nil)))
      (pss_cons (ps_asg (pe_op op_add (pe_ix ix_list (pv 0) pe_int (fun _ _ => rfl)) pe_int) (pg_sub (pv 0) pe_int set_list))
      (pss_one (ps_if (pt_cmpR op_lt (pv 2) (pe_op op_pow pe_int pe_int) (nomark _))
        (pss_one (ps_asg (pe_op op_mod (pe_callTy (T := "int")  call_int1 (by rfl) T.z_int (by decide +kernel) (pa_cons (pe_op op_add (pe_op op_add (pe_op op_mul (pe_ix ix_list (pv 0) pe_int (fun _ _ => rfl)) pe_int) (pv 2)) pe_int) pa_nil)) pe_int) (pg_sub (pv 0) pe_int set_list)))
        (pss_one (ps_asg (pv 2) (pg_sub (pv 0) pe_int set_list)))))))
    pss_nil)
  (pss_cons (ps_if (pt_cmpR op_gt (pe_ix ix_list (pv 0) pe_int (fun _ _ => rfl)) pe_int (nomark _))
    (pss_cons (ps_set (i := 3) sc__law_draw.nd rfl (.inl rfl) (pe_op op_mod (pe_callTy (T := "int")  call_int1 (by rfl) T.z_int (by decide +kernel) (pa_cons (pe_ix ix_list (pv 0) pe_int (fun _ _ => rfl)) pa_nil)) (pv 1)))
      (pss_cons (ps_asg (pe_op op_fdivW (pe_ix ix_list (pv 0) pe_int (fun _ _ => rfl)) (pv 1)) (pg_sub (pv 0) pe_int set_list))
      (pss_one (ps_ret (pv 3)))))
    pss_nil)
  (pss_one (ps_ret (pe_op op_mod (pe_callTy (T := "int")  call_int1 (by rfl) T.z_int (by decide +kernel) (pa_cons (pe_call G51 (hr.mono (by decide)) (by rfl) T.g51 T.F51.kp T.b51 .nil pass0 (pa_cons (pe_ix ix_list (pv 0) pe_int (fun _ _ => rfl)) (pa_cons (pe_ix ix_list (pv 0) pe_int (fun _ _ => rfl)) pa_nil))) pa_nil)) (pv 1))))))), ?_⟩
    -- pool[3] = pool[3] + 1
    refine ⟨_, rfl, _, _, _, _, rfl, rfl, .of e, atI_nat (j := 3) rfl, _, _, rfl, rfl, _, rfl, _, _, _, 3, rfl, rfl, e, ixN_at (j := 3) (by simp only [List.length_cons]; omega), ?_⟩
    generalize hH : upd H p (HO.lst (List.set _ _ _)) = H1
    have e1 : H1 p = some (.lst (.int p0 :: .int p1 :: .int p2 :: .int (p3 + 1) :: r.map V.int)) := by
      rw [← hH]
      exact upd_same
    have o1 : Oth p H H1 := by
      rw [← hH]
      exact (Oth.refl p H).upd
    -- if pool[0] == 0 and pool[1] < len(pool): ..
    refine ⟨fun σ H2 => ∃ (q0 q1 q2 : Int) (y : Option V), σ = [some (.ref p), some (.int m), y, none] ∧ H2 p = some (.lst (.int q0 :: .int q1 :: .int q2 :: .int (p3 + 1) :: r.map V.int)) ∧ Oth p H H2 ∧ 0 ≤ q0 ∧ 0 ≤ q1 ∧ 0 ≤ q2 ∧ q2 < 2147483647, ?_, ?_⟩
    · refine ⟨_, rfl, _, _, _, _, rfl, rfl, .of e1, atI_nat (j := 0) rfl, rfl, _, rfl, ite_eqI (fun h0 => ?_) (fun h0 => iteF ⟨p0, p1, p2, none, rfl, e1, o1, c0, c1, c2, c3⟩)⟩
      refine ⟨_, rfl, _, _, _, _, rfl, rfl, .of e1, atI_nat (j := 1) rfl, _, rfl, _, _, rfl, .inl (.of e1), _, _, rfl, rfl, _, rfl, ite_d (fun h1 => ?_) (fun h1 => ⟨p0, p1, p2, none, rfl, e1, o1, c0, c1, c2, c3⟩)⟩
      -- cell = abs(pool[pool[1]]); pool[1] = pool[1] + 1
      obtain ⟨c, hc⟩ := int_at (q0 := p0) (q1 := p1) (q2 := p2) (q3 := p3 + 1) (r := r) (i := p1.toNat) (by omega)
      refine ⟨_, rfl, _, rfl, _, _, _, _, rfl, rfl, .of e1, atI_nat (j := 1) rfl, _, _, _, _, rfl, rfl, .of e1, at_of (j := p1.toNat) (by omega) hc, _, rfl, ?_⟩
      refine ⟨_, rfl, _, _, _, _, rfl, rfl, .of e1, atI_nat (j := 1) rfl, _, _, rfl, rfl, _, rfl, _, _, _, 1, rfl, rfl, e1, ixN_at (j := 1) (by simp only [List.length_cons]; omega), ?_⟩
      generalize hH2 : upd H1 p (HO.lst (List.set _ _ _)) = H2
      have e2 : H2 p = some (.lst (.int p0 :: .int (p1 + 1) :: .int p2 :: .int (p3 + 1) :: r.map V.int)) := by
        rw [← hH2]
        exact upd_same
      have o2 : Oth p H H2 := by
        rw [← hH2]
        exact o1.upd
      refine ⟨_, rfl, _, _, rfl, rfl, ⟨by decide, by decide, by decide⟩, _, _, rfl, rfl, _, rfl, ite_d (fun h2 => ?_) (fun h2 => ?_)⟩
      · refine ⟨_, rfl, _, _, _, _, rfl, rfl, .of e2, atI_nat (j := 2) rfl, _, _, rfl, rfl, .inr ⟨by decide, by decide⟩, _, rfl, _, _, rfl, rfl, _, _, rfl, rfl, .inl ⟨_, rfl, _, _, rfl, rfl, (by show (0 : Int) < _; decide), _, rfl, _, _, _, 2, rfl, rfl, e2, ixN_at (j := 2) (by simp only [List.length_cons]; omega), ?_⟩⟩
        exact ⟨p0, p1 + 1, _, _, rfl, upd_same, o2.upd, c0, by omega, Int.emod_nonneg _ (by decide), Int.emod_lt_of_pos _ (by decide)⟩
      · refine ⟨_, rfl, _, rfl, _, _, _, 0, rfl, rfl, e2, ixN_at (j := 0) (by simp only [List.length_cons]; omega), ?_⟩
        exact ⟨_, p1 + 1, p2, _, rfl, upd_same, o2.upd, by split <;> omega, by omega, c2, c3⟩
    · rintro σ H2 ⟨q0, q1, q2, y, rfl, e2, o2, d0, d1, d2, d3⟩
      refine ⟨_, rfl, _, _, _, _, rfl, rfl, .of e2, atI_nat (j := 0) rfl, _, _, rfl, rfl, _, rfl, ite_d (fun h0 => ?_) (fun h0 => ?_)⟩
      · refine ⟨_, rfl, _, _, _, _, rfl, rfl, .of e2, atI_nat (j := 0) rfl, .inl ⟨_, rfl, _, rfl, _, _, rfl, rfl, hm, ?_⟩⟩
        refine ⟨_, rfl, _, _, _, _, rfl, rfl, .of e2, atI_nat (j := 0) rfl, _, rfl, _, _, rfl, rfl, wide_div hm hm2 (by decide) (by decide), _, rfl, _, _, _, 0, rfl, rfl, e2, ixN_at (j := 0) (by simp only [List.length_cons]; omega), ?_⟩
        exact ⟨_, rfl, q _ _ (Int.emod_nonneg _ (by omega)) (Int.emod_lt_of_pos _ hm) (chg_of upd_same o2.upd (Int.ediv_nonneg d0 (by omega)) d1 d2 d3 (by omega) c5)⟩
      · refine ⟨_, rfl, _, _, _, _, rfl, rfl, .of e2, atI_nat (j := 2) rfl, _, rfl, _, _, _, _, rfl, rfl, .of e2, atI_nat (j := 3) rfl, _, _, rfl, fun x => .inl ⟨_, rfl, _, rfl, _, _, rfl, rfl, hm, ?_⟩⟩
        exact q _ _ (Int.emod_nonneg _ (by omega)) (Int.emod_lt_of_pos _ hm) (chg_of e2 o2 d0 d1 d2 d3 (by omega) c5)
/-! ### _law_pool: a pool made of the script -/
def spPool (K : PySem.W.Frag) : Sp := fun vs H Q _ => ∃ (p : Addr) (ns : List Int), vs = [.ref p] ∧ SqL K H p (ns.map V.int) ∧ ns.length ≤ 63 ∧ ∀ q H', H q = none → PoolAt H' q → Same H H' → Q (.ref q) H'
theorem ok_pool (T : Txt K mg a d) : FnOk P w K mg base CX0 1 (a 50) (d 50) ["_law_script"] (spPool K) := by
  refine T.F50.ok sc__law_pool (fun vs H Q E h => ?_) (fun cdv A outer s H vs Q E hr h => ?_)
  · obtain ⟨p, ns, rfl, _⟩ := h
    rfl
  · obtain ⟨p, ns, rfl, hS, hl, q⟩ := h
    refine ⟨_, (pss_one (ps_ret (pe_op op_cat (pe_lst (pa_cons pe_int (pa_cons pe_int (pa_cons pe_int (pa_cons pe_int pa_nil))))) (pe_lc (own := [("_law_cell", 1)]) rfl sc__law_pool.nd (pi_list (pv 0)) (blkOk_by (N := ["_law_script", "_law_cell"]) (sc := defScope s__law_pool) (by decide +kernel)) (fun _ _ _ _ _ => pg_name (i := 1) sc__law_pool.nd rfl (.inl rfl)) (fun _ _ _ _ _ => pts_nil) (fun _ _ _ _ _ => (pe_callTy (T := "int")  call_int1 (by rfl) T.z_int (by decide +kernel) (pa_cons (pv 1) pa_nil))))))), ?_⟩
    refine ⟨by show 4 ≤ sizeLine; decide, fun l nl => ?_⟩
    have s1 : Same H (upd H l (.lst [.int 0, .int 4, .int 5, .int 0])) := same_upd nl
    refine ⟨_, rfl, p, rfl, ⟨_, s1.seq hS⟩, fun D hD => ?_⟩
    refine lc_list (K := K) (a := p) (xs := ns.map V.int) (fun i H' => H' D = some (.lst ((ns.take i).map V.int)) ∧ Same (upd H l (.lst [.int 0, .int 4, .int 5, .int 0])) H') ⟨upd_same, same_upd hD⟩ (fun i H' _ hp => (s1.trans hp.2).seq hS) (fun i x H' hx hp => ?_) (fun H' hp => ?_)
    · obtain ⟨z, hz, rfl⟩ := map_at hx
      have hi : i < ns.length := (List.getElem?_eq_some_iff.mp hz).1
      refine ⟨rfl, ?_⟩
      refine ⟨_, rfl, .inl ⟨_, rfl, _, hp.1, ?_, ?_, ?_⟩⟩
      · rw [List.length_map, List.length_take]
        exact small1000 (by omega)
      · rw [map_take hz]
        exact upd_same
      · exact fun b o e => by
          rw [upd_ne (ne_of_none e hD)]
          exact hp.2 b o e
    · obtain ⟨h1, h2⟩ := hp
      rw [List.length_map, List.take_length] at h1
      refine ⟨l, D, _, _, rfl, rfl, h2 _ _ upd_same, h1, ?_, fun r hr => ?_⟩
      · show 4 + (ns.map V.int).length ≤ sizeLine
        rw [List.length_map]
        exact Nat.le_trans (by omega : 4 + ns.length ≤ 67) (by decide)
      · exact q r _ (s1.free (h2.free hr)) ⟨0, 4, 5, 0, ns, upd_same, by decide, by decide, by decide, by decide, by decide, hl⟩ ((s1.trans h2).trans (same_upd hr))
/-! ### _law_word: a word of so many letters -/
def IsWd (s : Str) (m : Nat) : Prop := s.length = m ∧ ∀ c ∈ s.cps.toList, 97 ≤ c ∧ c ≤ 122
def spWord : Sp := fun vs H Q _ => ∃ (p : Addr) (m : Nat), vs = [.ref p, .int (m : Int)] ∧ PoolAt H p ∧ m ≤ 100 ∧ ∀ (s : Str) (H' : Hp), IsWd s m → Chg p H H' → Q (.str s) H'
theorem ok_word (T : Txt K mg a d) : FnOk P w K mg base CX0 3 (a 53) (d 53) ["_law_pool_here", "_law_many"] spWord := by
  have G52 : FnOk P w K mg base CX0 2 (a 52) (d 52) ["_law_pool_here", "_law_many"] spDraw := ok_draw T
  refine T.F53.ok sc__law_word (fun vs H Q E h => ?_) (fun cdv A outer s H vs Q E hr h => ?_)
  · obtain ⟨p, m, rfl, _⟩ := h
    rfl
  · obtain ⟨p, m, rfl, hP, hm, q⟩ := h
    refine ⟨_, (pss_cons (ps_set (i := 2) sc__law_word.nd rfl (.inl rfl) pe_str)
  (pss_cons (ps_set (i := 3) sc__law_word.nd rfl (.inl rfl) pe_str)
  (pss_cons (ps_for PassesOwn.never rfl (pi_range1 (by rfl) T.z_range (pa_cons (pv 1) pa_nil)) (pg_name (i := 4) sc__law_word.nd rfl (.inl rfl))
    (pss_one (ps_set (i := 3) sc__law_word.nd rfl (.inl rfl) (pe_op op_add_str (pv 3) (pe_ix ix_str (pv 2) (pe_call G52 (hr.mono (by decide)) (by rfl) T.g52 T.F52.kp T.b52 .nil pass0 (pa_cons (pv 0) (pa_cons pe_int pa_nil))) (fun _ _ => rfl))))))
  (pss_one (ps_ret (pv 3)))))), ?_⟩
    refine ⟨_, rfl, _, rfl, by omega, by omega, ?_⟩
    refine for_range (lo := 0) (n := (m : Int).toNat) (fun i σ H' => ∃ (s : Str) (y : Option V), σ = [some (.ref p), some (.int m), some (.str "abcdefghijklmnopqrstuvwxyz"), some (.str s), y] ∧ IsWd s i ∧ Chg p H H') ⟨"", none, rfl, ⟨rfl, fun c hc => by cases hc⟩, Chg.refl hP⟩ (fun i σ H' hi hp => ?_) (fun σ H' hp => ?_)
    · obtain ⟨s, y, rfl, hs, hc⟩ := hp
      refine ⟨_, rfl, _, rfl, _, rfl, p, 26, rfl, hc.1, by decide, by decide, fun r H'' h0 h1 hC => ?_⟩
      refine ⟨_, r, 97 + r.toNat, rfl, rfl, by decide +kernel, at_g (show r = ((r.toNat : Nat) : Int) by omega) (letter_at r.toNat (by omega)), _, _, rfl, rfl, ?_, ?_⟩
      · show s.length + 1 ≤ sizeLine
        rw [hs.1]
        exact small1000 (by omega)
      · refine ⟨_, _, rfl, ⟨?_, fun c hcc => ?_⟩, hc.trans hC⟩
        · show (s.cps ++ #[97 + r.toNat]).size = i + 1
          rw [Array.size_append]
          have := hs.1
          show s.cps.size + 1 = i + 1
          exact congrArg (· + 1) this
        · have e : (s ++ (⟨#[97 + r.toNat]⟩ : Str)).cps.toList = s.cps.toList ++ [97 + r.toNat] := by
            show (s.cps ++ #[97 + r.toNat]).toList = _
            rw [Array.toList_append]
          rw [e] at hcc
          rcases List.mem_append.mp hcc with h | h
          · exact hs.2 c h
          · have := List.mem_singleton.mp h
            omega
    · obtain ⟨s, y, rfl, hs, hc⟩ := hp
      exact ⟨_, rfl, q s H' (by rw [Int.toNat_natCast] at hs; exact hs) hc⟩
end
/-! ### words, names -/
def Wd (s : Str) : Prop := 1 ≤ s.length ∧ s.length ≤ 8 ∧ ∀ c ∈ s.cps.toList, 97 ≤ c ∧ c ≤ 122
def sgn (c : Nat) : Str := ⟨#[c]⟩
theorem cps_app (s t : Str) : (s ++ t).cps.toList = s.cps.toList ++ t.cps.toList := by
  show (s.cps ++ t.cps).toList = _
  rw [Array.toList_append]
theorem len_cps (s : Str) : s.length = s.cps.toList.length := by
  show s.cps.size = _
  rw [Array.length_toList]
theorem len_app (s t : Str) : (s ++ t).length = s.length + t.length := by
  rw [len_cps, cps_app, List.length_append, ← len_cps, ← len_cps]
def nmOf (fr : Bool) (stem : Str) (c : Nat) : Str := if fr = true then sgn c ++ stem else stem ++ sgn c
theorem nmOf_inj {fr : Bool} {stem : Str} {c e : Nat} (h : nmOf fr stem c = nmOf fr stem e) : c = e := by
  have h' := congrArg (fun s : Str => s.cps.toList) h
  cases fr with
  | true =>
    have h2 : (sgn c ++ stem).cps.toList = (sgn e ++ stem).cps.toList := h'
    rw [cps_app, cps_app] at h2
    exact (List.cons.inj h2).1
  | false =>
    have h2 : (stem ++ sgn c).cps.toList = (stem ++ sgn e).cps.toList := h'
    rw [cps_app, cps_app] at h2
    exact (List.cons.inj (List.append_cancel_left h2)).1
theorem nmOf_wd {fr : Bool} {stem : Str} {n c : Nat} (h : IsWd stem n) (hn : n ≤ 7) (h1 : 97 ≤ c) (h2 : c ≤ 122) : Wd (nmOf fr stem c) := by
  have l1 : (sgn c).length = 1 := rfl
  have hl := h.1
  have hs : ∀ x ∈ (sgn c).cps.toList, 97 ≤ x ∧ x ≤ 122 := fun x hx => by
    rw [List.mem_singleton.mp hx]
    exact ⟨h1, h2⟩
  cases fr with
  | true =>
    refine ⟨?_, ?_, fun x hx => ?_⟩
    · show 1 ≤ (sgn c ++ stem).length
      rw [len_app]
      omega
    · show (sgn c ++ stem).length ≤ 8
      rw [len_app]
      omega
    · have hx' : x ∈ (sgn c ++ stem).cps.toList := hx
      rw [cps_app] at hx'
      exact (List.mem_append.mp hx').elim (hs x) (h.2 x)
  | false =>
    refine ⟨?_, ?_, fun x hx => ?_⟩
    · show 1 ≤ (stem ++ sgn c).length
      rw [len_app]
      omega
    · show (stem ++ sgn c).length ≤ 8
      rw [len_app]
      omega
    · have hx' : x ∈ (stem ++ sgn c).cps.toList := hx
      rw [cps_app] at hx'
      exact (List.mem_append.mp hx').elim (h.2 x) (hs x)
/-- names of m things: words, no two alike -/
structure Nms (ns : List Str) (m : Nat) : Prop where
  len : ns.length = m
  nd : ns.Nodup
  wd : ∀ s ∈ ns, Wd s
def signAt (f s : Int) (k : Nat) : Nat := 97 + ((f + s * (k : Int)) % 26).toNat
theorem signAt_le (f s : Int) (k : Nat) : 97 ≤ signAt f s k ∧ signAt f s k ≤ 122 := by
  unfold signAt
  have h1 := Int.emod_nonneg (f + s * (k : Int)) (by decide : (26 : Int) ≠ 0)
  have h2 := Int.emod_lt_of_pos (f + s * (k : Int)) (by decide : (0 : Int) < 26)
  omega
theorem signAt_inj {f s : Int} (hs : s ∈ ([1, 3, 5, 7, 9, 11] : List Int)) {i j : Nat} (hi : i < 26) (hj : j < 26) (h : signAt f s i = signAt f s j) : i = j := by
  unfold signAt at h
  have h1 := Int.emod_nonneg (f + s * (i : Int)) (by decide : (26 : Int) ≠ 0)
  have h2 := Int.emod_nonneg (f + s * (j : Int)) (by decide : (26 : Int) ≠ 0)
  have e : (f + s * (i : Int)) % 26 = (f + s * (j : Int)) % 26 := by omega
  simp only [List.mem_cons, List.not_mem_nil, or_false] at hs
  rcases hs with rfl | rfl | rfl | rfl | rfl | rfl <;> omega
def namesOf (fr : Bool) (stem : Str) (f s : Int) (m : Nat) : List Str := (List.range m).map fun k => nmOf fr stem (signAt f s k)
theorem namesOf_succ (fr : Bool) (stem : Str) (f s : Int) (m : Nat) : namesOf fr stem f s (m + 1) = namesOf fr stem f s m ++ [nmOf fr stem (signAt f s m)] := by
  unfold namesOf
  rw [List.range_succ, List.map_append]
  rfl
theorem nodup_map {α β : Type} {f : α → β} : ∀ {xs : List α}, xs.Nodup → (∀ x ∈ xs, ∀ y ∈ xs, f x = f y → x = y) → (xs.map f).Nodup
  | [], _, _ => List.nodup_nil
  | x :: xs, hd, hi => by
    have hd' := List.nodup_cons.mp hd
    rw [List.map_cons]
    refine List.nodup_cons.mpr ⟨fun hm => ?_, nodup_map hd'.2 fun y hy z hz => hi y (List.mem_cons_of_mem _ hy) z (List.mem_cons_of_mem _ hz)⟩
    obtain ⟨y, hy, e⟩ := List.mem_map.mp hm
    have := hi y (List.mem_cons_of_mem _ hy) x (List.mem_cons_self ..) e
    rw [this] at hy
    exact hd'.1 hy
theorem namesOf_ok {fr : Bool} {stem : Str} {n : Nat} {f s : Int} {m : Nat} (h : IsWd stem n) (hn : n ≤ 7) (hs : s ∈ ([1, 3, 5, 7, 9, 11] : List Int)) (hm : m ≤ 26) : Nms (namesOf fr stem f s m) m := by
  refine ⟨by unfold namesOf; rw [List.length_map, List.length_range], nodup_map List.nodup_range fun x hx y hy e => ?_, fun z hz => ?_⟩
  · exact signAt_inj hs (Nat.lt_of_lt_of_le (List.mem_range.mp hx) hm) (Nat.lt_of_lt_of_le (List.mem_range.mp hy) hm) (nmOf_inj e)
  · obtain ⟨k, hk, rfl⟩ := List.mem_map.mp hz
    exact nmOf_wd h hn (signAt_le f s k).1 (signAt_le f s k).2
section
variable {P : Program} {w : World} {K : PySem.W.Frag} {mg : Str → Option Value} {base : Heap} {a : Nat → Addr} {d : Nat → FuncData}
/-! ### _law_names -/
def spNames : Sp := fun vs H Q _ => ∃ (p : Addr) (m : Nat), vs = [.ref p, .int (m : Int)] ∧ PoolAt H p ∧ m ≤ 26 ∧
  ∀ (l : Addr) (ns : List Str) (H' : Hp), H l = none → H' l = some (.lst (ns.map V.str)) → Nms ns m → Chg p H H' → Q (.ref l) H'
theorem ok_names (T : Txt K mg a d) : FnOk P w K mg base CX0 4 (a 54) (d 54) ["_law_pool_here", "_law_many"] spNames := by
  have G52 : FnOk P w K mg base CX0 2 (a 52) (d 52) ["_law_pool_here", "_law_many"] spDraw := ok_draw T
  have G53 : FnOk P w K mg base CX0 3 (a 53) (d 53) ["_law_pool_here", "_law_many"] spWord := ok_word T
  refine T.F54.ok sc__law_names (fun vs H Q E h => ?_) (fun cdv A outer s H vs Q E hr h => ?_)
  · obtain ⟨p, m, rfl, _⟩ := h
    rfl
  · obtain ⟨p, m, rfl, hP, hm, q⟩ := h
    refine ⟨_, (pss_cons (ps_set (i := 2) sc__law_names.nd rfl (.inl rfl) pe_str)
  (pss_cons (ps_set (i := 3) sc__law_names.nd rfl (.inl rfl) (pe_call G53 (hr.mono (by decide)) (by rfl) T.g53 T.F53.kp T.b53 .nil pass0 (pa_cons (pv 0) (pa_cons (pe_call G52 (hr.mono (by decide)) (by rfl) T.g52 T.F52.kp T.b52 .nil pass0 (pa_cons (pv 0) (pa_cons pe_int pa_nil))) pa_nil))))
  (pss_cons (ps_set (i := 4) sc__law_names.nd rfl (.inl rfl) (pe_call G52 (hr.mono (by decide)) (by rfl) T.g52 T.F52.kp T.b52 .nil pass0 (pa_cons (pv 0) (pa_cons pe_int pa_nil))))
  (pss_cons (ps_set (i := 5) sc__law_names.nd rfl (.inl rfl) (pe_ix ix_list (pe_lst (pa_cons pe_int (pa_cons pe_int (pa_cons pe_int (pa_cons pe_int (pa_cons pe_int (pa_cons pe_int pa_nil))))))) (pe_call G52 (hr.mono (by decide)) (by rfl) T.g52 T.F52.kp T.b52 .nil pass0 (pa_cons (pv 0) (pa_cons pe_int pa_nil))) (fun _ _ => rfl)))
  (pss_cons (ps_set (i := 6) sc__law_names.nd rfl (.inl rfl) (pe_call G52 (hr.mono (by decide)) (by rfl) T.g52 T.F52.kp T.b52 .nil pass0 (pa_cons (pv 0) (pa_cons pe_int pa_nil))))
  (pss_cons (ps_set (i := 7) sc__law_names.nd rfl (.inl rfl) (pe_lst pa_nil))
  (pss_cons (ps_for PassesOwn.never rfl (pi_range1 (by rfl) T.z_range (pa_cons (pv 1) pa_nil)) (pg_name (i := 8) sc__law_names.nd rfl (.inl rfl))
    (pss_cons (ps_set (i := 9) sc__law_names.nd rfl (.inl rfl) (pe_ix ix_str (pv 2) (pe_op op_mod (pe_callTy (T := "int")  call_int1 (by rfl) T.z_int (by decide +kernel) (pa_cons (pe_op op_add (pv 4) (pe_op op_mul (pv 5) (pv 8))) pa_nil)) pe_int) (fun _ _ => rfl)))
      (pss_one (ps_if (pt_cmpR op_eq (pv 6) pe_int (nomark _))
        (pss_one (ps_expr (pe_bm PySem.F.plainAttrs_list PySem.F.slot_list_append PySem.F.type_list_append mt_append (pv 7) (pa_cons (pe_op op_add_str (pv 9) (pv 3)) pa_nil))))
        (pss_one (ps_expr (pe_bm PySem.F.plainAttrs_list PySem.F.slot_list_append PySem.F.type_list_append mt_append (pv 7) (pa_cons (pe_op op_add_str (pv 3) (pv 9)) pa_nil))))))))
  (pss_one (ps_ret (pv 7)))))))))), ?_⟩
    -- the stem
    refine ⟨_, rfl, _, rfl, p, 8, rfl, hP, by decide, by decide, fun n H1 a0 a1 C1 => ?_⟩
    refine ⟨p, n.toNat, (by rw [Int.toNat_of_nonneg a0]; rfl), C1.1, by omega, fun stem H2 hst C2 => ?_⟩
    have C02 := C1.trans C2
    -- first, step, front
    refine ⟨_, rfl, p, 26, rfl, C2.1, by decide, by decide, fun f H3 f0 f1 C3 => ?_⟩
    have C03 := C02.trans C3
    refine ⟨by show 6 ≤ sizeLine; decide, fun l1 nl1 => ?_⟩
    have C04 : Chg p H (upd H3 l1 (.lst [.int 1, .int 3, .int 5, .int 7, .int 9, .int 11])) := C03.new nl1
    have n1 : l1 ≠ p := Chg.ne C3.1 nl1
    refine ⟨_, rfl, p, 6, rfl, C04.1, by decide, by decide, fun x H5 x0 x1 C5 => ?_⟩
    have C05 := C04.trans C5
    obtain ⟨v, hv⟩ := at_some (xs := ([.int 1, .int 3, .int 5, .int 7, .int 9, .int 11] : List V)) x0 x1
    obtain ⟨st, hst2, rfl⟩ : ∃ s : Int, s ∈ ([1, 3, 5, 7, 9, 11] : List Int) ∧ V.int s = v := List.mem_map.mp (show v ∈ ([1, 3, 5, 7, 9, 11] : List Int).map V.int from atI_mem hv)
    have hsb : 0 ≤ st ∧ st ≤ 11 := by
      simp only [List.mem_cons, List.not_mem_nil, or_false] at hst2
      omega
    refine ⟨_, _, _, _, rfl, rfl, .of (C5.2 l1 _ n1 upd_same), hv, ?_⟩
    refine ⟨_, rfl, p, 2, rfl, C5.1, by decide, by decide, fun fr H6 r0 r1 C6 => ?_⟩
    have C06 := C05.trans C6
    -- found
    refine ⟨Nat.zero_le _, fun l nl => ?_⟩
    have nlp : l ≠ p := Chg.ne C6.1 nl
    have l0 : H l = none := free_of C06 hP nl
    refine ⟨_, rfl, _, rfl, by omega, by omega, ?_⟩
    refine for_range (lo := 0) (n := (m : Int).toNat) (fun i σ H' => ∃ y8 y9, σ = [some (.ref p), some (.int m), some (.str "abcdefghijklmnopqrstuvwxyz"), some (.str stem), some (.int f), some (.int st), some (.int fr), some (.ref l), y8, y9] ∧ H' l = some (.lst ((namesOf (decide (fr = 1)) stem f st i).map V.str)) ∧ Chg p H H') ⟨none, none, rfl, upd_same, C06.new nl⟩ (fun i σ H' hi hp => ?_) (fun σ H' hp => ?_)
    · obtain ⟨y8, y9, rfl, hl, hc⟩ := hp
      have hin : i < m := by omega
      have hs1 := signAt_le f st i
      have hlen : ((namesOf (decide (fr = 1)) stem f st i).map V.str).length < sizeLine := by
        rw [List.length_map]
        unfold namesOf
        rw [List.length_map, List.length_range]
        exact Nat.lt_of_le_of_lt (by omega : i ≤ 26) (by decide)
      have b1 := Int.emod_nonneg (f + st * (i : Int)) (by decide : (26 : Int) ≠ 0)
      have b2 := Int.emod_lt_of_pos (f + st * (i : Int)) (by decide : (0 : Int) < 26)
      refine ⟨_, rfl, _, rfl, _, rfl, _, rfl, _, _, rfl, rfl, .inl ⟨by omega, by omega⟩, _, _, rfl, rfl, .inl ⟨_, rfl, _, _, rfl, rfl, (by show (0 : Int) < 26; decide), ?_⟩⟩
      refine ⟨_, _, signAt f st i, rfl, rfl, by decide +kernel, at_g (j := ((f + st * (i : Int)) % 26).toNat) (by rw [Int.zero_add]; omega) (letter_at _ (by omega)), ?_⟩
      refine ⟨_, rfl, rfl, _, rfl, ite_eqI (fun h => ?_) (fun h => ?_)⟩
      · refine ⟨_, rfl, .inl ⟨rfl, _, .of hl⟩, _, rfl, _, rfl, _, _, rfl, rfl, ?_, l, _, _, rfl, rfl, hl, hlen, _, _, rfl, ?_, hc.mut l0 nlp⟩
        · show 1 + stem.length ≤ sizeLine
          rw [hst.1]
          exact small1000' (by omega)
        · rw [namesOf_succ, List.map_append, decide_eq_true h]
          exact upd_same
      · refine ⟨_, rfl, .inl ⟨rfl, _, .of hl⟩, _, rfl, _, rfl, _, _, rfl, rfl, ?_, l, _, _, rfl, rfl, hl, hlen, _, _, rfl, ?_, hc.mut l0 nlp⟩
        · show stem.length + 1 ≤ sizeLine
          rw [hst.1]
          exact small1000' (by omega)
        · rw [namesOf_succ, List.map_append, decide_eq_false h]
          exact upd_same
    · obtain ⟨y8, y9, rfl, hl, hc⟩ := hp
      rw [Int.toNat_natCast] at hl
      exact ⟨_, rfl, q l _ H' l0 hl (namesOf_ok hst (by omega) hst2 hm) hc⟩
/-! ### _law_columns -/
def Cols (cs : List Int) (w : Int) : Prop := cs.Pairwise (· < ·) ∧ ∀ c ∈ cs, 0 ≤ c ∧ c < w
theorem Cols.take {cs : List Int} {w : Int} (h : Cols cs w) (n : Nat) : Cols (cs.take n) w := ⟨h.1.sublist (List.take_sublist n cs), fun c hc => h.2 c (List.mem_of_mem_take hc)⟩
theorem Cols.snoc {cs : List Int} {i : Nat} (h : Cols cs (i : Int)) : Cols (cs ++ [(i : Int)]) ((i + 1 : Nat) : Int) := by
  refine ⟨List.pairwise_append.mpr ⟨h.1, List.pairwise_singleton _ _, fun x hx y hy => ?_⟩, fun c hc => ?_⟩
  · rw [List.mem_singleton.mp hy]
    exact (h.2 x hx).2
  · rcases List.mem_append.mp hc with h' | h'
    · have := h.2 c h'
      omega
    · rw [List.mem_singleton.mp h']
      omega
theorem Cols.up {cs : List Int} {v w : Int} (h : Cols cs v) (hw : v ≤ w) : Cols cs w := ⟨h.1, fun c hc => ⟨(h.2 c hc).1, Int.lt_of_lt_of_le (h.2 c hc).2 hw⟩⟩
theorem cut_take (xs : List V) (n : Nat) : cutV xs none (some (n : Int)) = xs.take n := by
  unfold cutV
  show (xs.drop 0).take (HT.sIx xs.length xs.length (some (n : Int)) - 0) = _
  rw [List.drop_zero, Nat.sub_zero]
  rw [HT.sIx_nat]
  by_cases h : n ≤ xs.length
  · rw [Nat.min_eq_left h]
  · rw [Nat.min_eq_right (by omega), List.take_length, List.take_of_length_le (by omega)]
def spCols : Sp := fun vs H Q _ => ∃ (p : Addr) (w lo : Int) (hi : Nat), vs = [.ref p, .int w, .int lo, .int (hi : Int)] ∧ PoolAt H p ∧ 1 ≤ w ∧ w ≤ 100 ∧ lo ≤ 1 ∧
  ∀ (t : Addr) (cs : List Int) (H' : Hp), H t = none → H' t = some (.tup (cs.map V.int)) → Cols cs w → cs.length ≤ hi → (lo = 1 → 1 ≤ hi → 1 ≤ cs.length) → Chg p H H' → Q (.ref t) H'
theorem ok_columns (T : Txt K mg a d) : FnOk P w K mg base CX0 3 (a 55) (d 55) ["_law_pool_here", "_law_width", "_law_low", "_law_high"] spCols := by
  have G52 : FnOk P w K mg base CX0 2 (a 52) (d 52) ["_law_pool_here", "_law_many"] spDraw := ok_draw T
  refine T.F55.ok sc__law_columns (fun vs H Q E h => ?_) (fun cdv A outer s H vs Q E hr h => ?_)
  · obtain ⟨p, w, lo, hi, rfl, _⟩ := h
    rfl
  · obtain ⟨p, wd, lo, hi, rfl, hP, hw1, hw2, hlo, q⟩ := h
    refine ⟨_, (pss_cons (ps_setLc (i := 4) (own := [("_law_column", 5)]) rfl sc__law_columns.nd rfl rfl (sw_true rfl rfl rfl (by decide +kernel)) (pi_range1 (by rfl) T.z_range (pa_cons (pv 1) pa_nil)) (blkOk_by (N := ["_law_pool_here", "_law_width", "_law_low", "_law_high", "_law_chosen_here", "_law_column"]) (sc := defScope s__law_columns) (by decide +kernel)) (fun _ _ _ _ _ => pg_name (i := 5) sc__law_columns.nd rfl (.inl rfl)) (fun _ _ _ _ _ => (pts_one (pt_cmpR op_eq (pe_call G52 (hr.mono (by decide)) (by rfl) T.g52 T.F52.kp T.b52 .nil pass0 (pa_cons (pv 0) (pa_cons pe_int pa_nil))) pe_int (nomark _)))) (fun _ _ _ _ _ => (pv 5)))
  (Evl.pss_cut (ps_if (pt_cmpR op_lt (pe_callB (id := "len")  call_len_seq (by rfl) T.z_len (by decide +kernel) (pa_cons (pv 4) pa_nil)) (pv 2) (nomark _))
    (pss_one (ps_set (i := 4) sc__law_columns.nd rfl (.inl rfl) (pe_lst (pa_cons (pe_call G52 (hr.mono (by decide)) (by rfl) T.g52 T.F52.kp T.b52 .nil pass0 (pa_cons (pv 0) (pa_cons (pv 1) pa_nil))) pa_nil))))
    pss_nil)
  (pss_one (ps_ret (pe_callTy (T := "tuple")  call_tuple_of (by rfl) T.z_tuple (by decide +kernel) (pa_cons (pe_slice sl_list (pv 4) po_none (po_some (pv 3))) pa_nil)))))), ?_⟩
    refine ⟨_, rfl, _, rfl, by omega, by omega, fun D hD => ?_⟩
    have nD : D ≠ p := Chg.ne hP hD
    refine lc_range (lo := 0) (n := wd.toNat) (fun i H' => ∃ cs : List Int, H' D = some (.lst (cs.map V.int)) ∧ cs.length ≤ i ∧ Cols cs (i : Int) ∧ Chg p H H') ⟨[], upd_same, Nat.le_refl _, ⟨.nil, fun c hc => by cases hc⟩, (Chg.refl hP).new hD⟩ (fun i H' hi' hp => ?_) (fun H' hp => ?_)
    · obtain ⟨cs, c1, c2, c3, c4⟩ := hp
      refine ⟨rfl, ?_⟩
      refine ⟨_, rfl, p, 2, rfl, c4.1, by decide, by decide, fun r H'' r0 r1 C => ⟨rfl, _, rfl, ite_eqI (fun h => ?_) (fun h => ?_)⟩⟩
      · refine ⟨_, rfl, _, C.2 D _ nD c1, ?_, cs ++ [(i : Int)], ?_, ?_, c3.snoc, (c4.trans C).mut hD nD⟩
        · rw [List.length_map]
          exact small1000 (by omega)
        · rw [List.map_append, Int.zero_add]
          exact upd_same
        · rw [List.length_append]
          exact Nat.succ_le_succ c2
      · exact ⟨cs, C.2 D _ nD c1, Nat.le_succ_of_le c2, c3.up (by omega), c4.trans C⟩
    obtain ⟨cs, c1, c2, c3, c4⟩ := hp
    rw [Int.toNat_of_nonneg (by omega)] at c3
    -- at low so many
    refine ⟨fun σ H2 => ∃ l cs y5, σ = [some (.ref p), some (.int wd), some (.int lo), some (.int hi), some (.ref l), y5] ∧ H2 l = some (.lst (cs.map V.int)) ∧ cs.length ≤ 100 ∧ Cols cs wd ∧ (lo = 1 → 1 ≤ cs.length) ∧ Chg p H H2, ?_, ?_⟩
    · refine ⟨_, rfl, _, _, rfl, .inl (.of c1), _, rfl, _, _, rfl, rfl, _, rfl, ite_d (fun h1 => ?_) (fun h1 => ⟨D, cs, _, rfl, c1, by omega, c3, fun e => ?_, c4⟩)⟩
      · refine ⟨_, rfl, _, rfl, p, wd, rfl, c4.1, by omega, Nat.lt_of_le_of_lt (by omega : _ ≤ 100) (by decide), fun r H3 r0 r1 C3 => ⟨by show 1 ≤ sizeLine; decide, fun l2 nl2 => ⟨l2, [r], _, rfl, upd_same, by show 1 ≤ 100; decide, ⟨List.pairwise_singleton _ _, fun c hc => ?_⟩, fun _ => Nat.le_refl _, (c4.trans C3).new nl2⟩⟩⟩
        rw [List.mem_singleton.mp hc]
        exact ⟨r0, r1⟩
      · rw [List.length_map] at h1
        omega
    · rintro σ H2 ⟨l, cs, y5, rfl, e1, e2, e3, e4, e5⟩
      refine ⟨_, rfl, _, rfl, _, rfl, _, _, rfl, .of e1, fun m hm => ?_⟩
      refine ⟨m, _, rfl, .inl ⟨.of upd_same, fun t ht => ?_⟩⟩
      rw [cut_take, ← List.map_take] at ht ⊢
      have C := (e5.new (o := .lst ((cs.take hi).map V.int)) hm).new (o := .tup ((cs.take hi).map V.int)) ht
      refine q t (cs.take hi) _ (free_of (e5.new (o := .lst ((cs.take hi).map V.int)) hm) hP ht) upd_same (e3.take hi) ?_ (fun h1 h2 => ?_) C
      · rw [List.length_take]
        omega
      · have := e4 h1
        rw [List.length_take]
        omega
/-! ### _law_tables -/
def tabK (ts : List (Str × Int)) : List (Key × V) := ts.map fun p => (Sum.inr p.1, V.int p.2)
structure Tabs (ts : List (Str × Int)) (m : Nat) (wm : Int) : Prop where
  nm : Nms (ts.map (·.1)) m
  wd : ∀ p ∈ ts, 1 ≤ p.2 ∧ p.2 ≤ wm
theorem Tabs.len {ts : List (Str × Int)} {m : Nat} {wm : Int} (h : Tabs ts m wm) : ts.length = m := by
  rw [← h.nm.len, List.length_map]
theorem valV_no {κ : Type} [DecidableEq κ] {k : κ} : ∀ {kvs : List (κ × V)}, k ∉ kvs.map (·.1) → valV kvs k = none
  | [], _ => rfl
  | p :: r, h => by
    rw [List.map_cons] at h
    rw [valV_neg (fun e => h (by rw [e]; exact List.mem_cons_self ..))]
    exact valV_no fun hm => h (List.mem_cons_of_mem _ hm)
theorem nd_take {α : Type} {xs : List α} {i : Nat} {x : α} (h : xs.Nodup) (hx : xs[i]? = some x) : x ∉ xs.take i := fun hm => by
  have e : (xs.take (i + 1)).Nodup := h.sublist (List.take_sublist _ _)
  rw [List.take_add_one, hx] at e
  exact (List.nodup_append.mp e).2.2 x hm x (by simp) rfl
theorem keys_tab (ts : List (Str × Int)) : (tabK ts).map (·.1) = (ts.map (·.1)).map Sum.inr := by
  unfold tabK
  rw [List.map_map, List.map_map]
  rfl
theorem inr_nd {ns : List Str} (h : ns.Nodup) : (ns.map (Sum.inr : Str → Key)).Nodup := nodup_map h fun _ _ _ _ e => Sum.inr.inj e
theorem inr_no {ns : List Str} {n : Str} (h : n ∉ ns) : (Sum.inr n : Key) ∉ ns.map Sum.inr := fun hm => by
  obtain ⟨x, hx, e⟩ := List.mem_map.mp hm
  rw [← Sum.inr.inj e] at h
  exact h hx
theorem tab_at {H : Hp} {t : Addr} {ts : List (Str × Int)} {n : Str} {w : Int} (e : H t = some (.dK (tabK ts))) (nd : (ts.map (·.1)).Nodup) (h : (n, w) ∈ ts) : DGet H t (.str n) (some (.int w)) := by
  have g := DGet.k (k := Sum.inr n) e
  have v : valV (tabK ts) (Sum.inr n) = some (.int w) := val_nodup (kvs := tabK ts) (by rw [keys_tab]; exact inr_nd nd) (Sum.inr n, V.int w) (List.mem_map.mpr ⟨(n, w), h, rfl⟩)
  rw [v] at g
  exact g
theorem snoc_map {α β : Type} (f : α → β) (xs : List α) (x : α) : (xs ++ [x]).map f = xs.map f ++ [f x] := by
  rw [List.map_append]
  rfl
theorem Chg.at {p b : Addr} {H H' : Hp} {o : HO} (c : Chg p H H') (n : b ≠ p) (e : H b = some o) : H' b = some o := c.2 b o n e
theorem pool_ne {H : Hp} {p b : Addr} {o : HO} (h : PoolAt H p) (e : H b = some o) (x : ∀ xs, o ≠ .lst xs) : b ≠ p := by
  obtain ⟨p0, p1, p2, p3, r, e', c⟩ := h
  exact ne_of e e' (x _)
def spTables : Sp := fun vs H Q _ => ∃ (p : Addr) (m : Nat) (wm : Int), vs = [.ref p, .int (m : Int), .int wm] ∧ PoolAt H p ∧ m ≤ 26 ∧ 1 ≤ wm ∧ wm ≤ 100 ∧
  ∀ (t : Addr) (ts : List (Str × Int)) (H' : Hp), H t = none → H' t = some (.dK (tabK ts)) → Tabs ts m wm → Chg p H H' → Q (.ref t) H'
theorem ok_tables (T : Txt K mg a d) : FnOk P w K mg base CX0 5 (a 56) (d 56) ["_law_pool_here", "_law_many", "_law_widest"] spTables := by
  have G52 : FnOk P w K mg base CX0 2 (a 52) (d 52) ["_law_pool_here", "_law_many"] spDraw := ok_draw T
  have G54 : FnOk P w K mg base CX0 4 (a 54) (d 54) ["_law_pool_here", "_law_many"] spNames := ok_names T
  refine T.F56.ok sc__law_tables (fun vs H Q E h => ?_) (fun cdv A outer s H vs Q E hr h => ?_)
  · obtain ⟨p, m, wm, rfl, _⟩ := h
    rfl
  · obtain ⟨p, m, wm, rfl, hP, hm, hw1, hw2, q⟩ := h
    have hu := hu_of hr
    refine ⟨_, (pss_cons (ps_set (i := 3) sc__law_tables.nd rfl (.inl rfl) (pe_call G54 (hr.mono (by decide)) (by rfl) T.g54 T.F54.kp T.b54 .nil pass0 (pa_cons (pv 0) (pa_cons (pv 1) pa_nil))))
  (pss_cons (ps_set (i := 4) sc__law_tables.nd rfl (.inl rfl) pe_dnewK)
  (pss_cons (ps_for PassesOwn.never rfl (pi_list (pv 3)) (pg_name (i := 5) sc__law_tables.nd rfl (.inl rfl))
    (pss_one (ps_dput (hu_of hr) (pv 4) (pv 5) (pe_op op_add pe_int (pe_call G52 (hr.mono (by decide)) (by rfl) T.g52 T.F52.kp T.b52 .nil pass0 (pa_cons (pv 0) (pa_cons (pv 2) pa_nil)))) rfl)))
  (pss_one (ps_ret (pv 4)))))), ?_⟩
    refine ⟨_, rfl, _, rfl, p, m, rfl, hP, hm, fun l ns H1 l0 hl hn C1 => ?_⟩
    have nl : l ≠ p := fun e => by
      obtain ⟨p0, p1, p2, p3, r, e', c⟩ := hP
      rw [e, e'] at l0
      cases l0
    intro t ht
    have nt : t ≠ p := Chg.ne C1.1 ht
    have nlt : l ≠ t := ne_of_none hl ht
    have t0 : H t = none := free_of C1 hP ht
    have lens : (ns.map V.str).length = m := by rw [List.length_map, hn.len]
    refine ⟨_, rfl, l, rfl, ⟨_, .of (by rw [upd_ne nlt]; exact hl)⟩, for_list (K := K) (a := l) (xs := ns.map V.str) (fun i σ H' => ∃ (ts : List (Str × Int)) (y5 : Option V), σ = [some (.ref p), some (.int m), some (.int wm), some (.ref l), some (.ref t), y5] ∧ H' t = some (.dK (tabK ts)) ∧ H' l = some (.lst (ns.map V.str)) ∧ ts.map (·.1) = ns.take i ∧ (∀ b ∈ ts, 1 ≤ b.2 ∧ b.2 ≤ wm) ∧ Chg p H H')
      ⟨[], none, rfl, upd_same, by rw [upd_ne nlt]; exact hl, rfl, (fun b hb => by cases hb), C1.new ht⟩ (fun i σ H' _ hp => ?_) (fun i y σ H' hy hp => ?_) (fun σ H' hp => ?_)⟩
    · obtain ⟨ts, y5, rfl, _, hl', _⟩ := hp
      exact .of hl'
    · obtain ⟨ts, y5, rfl, ht', hl', hk, hw, hc⟩ := hp
      obtain ⟨n, hn', rfl⟩ := map_at hy
      have hlen : ts.length ≤ 26 := by
        have e := congrArg List.length hk
        rw [List.length_map, List.length_take] at e
        have := hn.len
        omega
      refine ⟨_, rfl, _, rfl, p, wm, rfl, hc.1, by omega, Nat.lt_of_le_of_lt (by omega : _ ≤ 100) (by decide), fun r H'' r0 r1 C => ⟨_, _, rfl, rfl, _, rfl, _, rfl, t, _, rfl, DPut.k (k := Sum.inr n) (C.at nt ht') ?_, ts ++ [(n, 1 + r)], _, rfl, ?_, ?_, ?_, fun b hb => ?_, (hc.trans C).mut t0 nt⟩⟩
      · unfold tabK
        rw [List.length_map]
        exact Nat.lt_of_le_of_lt hlen (by decide)
      · unfold tabK
        rw [snoc_map]
        refine Eq.trans upd_same (congrArg (fun x => some (HO.dK x)) (putK_new _ (valV_no ?_)))
        have e := keys_tab ts
        unfold tabK at e
        rw [e, hk]
        exact inr_no (nd_take hn.nd hn')
      · rw [upd_ne nlt]
        exact C.at nl hl'
      · rw [snoc_map, hk, List.take_add_one, hn']
        rfl
      · rcases List.mem_append.mp hb with h | h
        · exact hw b h
        · rw [List.mem_singleton.mp h]
          exact ⟨by show 1 ≤ 1 + r; omega, by show 1 + r ≤ wm; omega⟩
    · obtain ⟨ts, y5, rfl, ht', hl', hk, hw, hc⟩ := hp
      rw [List.length_map, List.take_length] at hk
      exact ⟨_, rfl, q t ts H' t0 ht' ⟨by rw [hk]; exact hn, hw⟩ hc⟩
/-! ### _law_keys -/
abbrev KeyE := Str × Addr × List Int
def keyK (ks : List KeyE) : List (Key × V) := ks.map fun b => (Sum.inr b.1, V.ref b.2.1)
theorem keys_key (ks : List KeyE) : (keyK ks).map (·.1) = (ks.map (·.1)).map Sum.inr := by
  unfold keyK
  rw [List.map_map, List.map_map]
  rfl
structure Keys (H : Hp) (ts : List (Str × Int)) (ks : List KeyE) : Prop where
  nd : (ks.map (·.1)).Nodup
  le : ks.length ≤ ts.length
  at_ : ∀ b ∈ ks, H b.2.1 = some (.tup (b.2.2.map V.int))
  ok : ∀ b ∈ ks, ∃ w, (b.1, w) ∈ ts ∧ Cols b.2.2 w ∧ 1 ≤ b.2.2.length ∧ (b.2.2.length : Int) < w
theorem Keys.mono {H H' : Hp} {ts : List (Str × Int)} {ks : List KeyE} (h : Keys H ts ks) (m : ∀ b xs, H b = some (.tup xs) → H' b = some (.tup xs)) : Keys H' ts ks := ⟨h.nd, h.le, fun b hb => m _ _ (h.at_ b hb), h.ok⟩
theorem chg_tup {p : Addr} {H H' : Hp} (h : PoolAt H p) (c : Chg p H H') : ∀ b xs, H b = some (.tup xs) → H' b = some (.tup xs) := fun b xs e => c.at (pool_ne h e (by intro _ z; cases z)) e
theorem upd_tup {H : Hp} {t : Addr} {o u : HO} (h : H t = some u) (n : ∀ xs, u ≠ .tup xs) : ∀ b xs, H b = some (.tup xs) → upd H t o b = some (.tup xs) := fun b xs e => by
  rw [upd_ne (ne_of e h (fun z => n xs z.symm))]
  exact e
def spKeys : Sp := fun vs H Q _ => ∃ (p t : Addr) (m : Nat) (ts : List (Str × Int)), vs = [.ref p, .ref t] ∧ PoolAt H p ∧ H t = some (.dK (tabK ts)) ∧ Tabs ts m 100 ∧ m ≤ 26 ∧
  ∀ (k : Addr) (ks : List KeyE) (H' : Hp), H k = none → H' k = some (.dK (keyK ks)) → Keys H' ts ks → Chg p H H' → Q (.ref k) H'
theorem ok_keys (T : Txt K mg a d) : FnOk P w K mg base CX0 4 (a 57) (d 57) ["_law_pool_here", "_law_tables_here"] spKeys := by
  have G52 : FnOk P w K mg base CX0 2 (a 52) (d 52) ["_law_pool_here", "_law_many"] spDraw := ok_draw T
  have G55 : FnOk P w K mg base CX0 3 (a 55) (d 55) ["_law_pool_here", "_law_width", "_law_low", "_law_high"] spCols := ok_columns T
  refine T.F57.ok sc__law_keys (fun vs H Q E h => ?_) (fun cdv A outer s H vs Q E hr h => ?_)
  · obtain ⟨p, t, m, ts, rfl, _⟩ := h
    rfl
  · obtain ⟨p, t, m, ts, rfl, hP, ht, hT, hm, q⟩ := h
    have hu := hu_of hr
    refine ⟨_, (pss_cons (ps_set (i := 2) sc__law_keys.nd rfl (.inl rfl) pe_dnewK)
  (pss_cons (ps_for PassesOwn.never rfl (pi_list (pe_callTy (T := "list")  (call_listD rfl) (by rfl) T.z_list (by decide +kernel) (pa_cons (pv 1) pa_nil))) (pg_name (i := 3) sc__law_keys.nd rfl (.inl rfl))
    (pss_one (ps_if (PW.pt (pw_and (pt_cmpR op_gt (pe_dget (hu_of hr) (pv 1) (pv 3) (fun _ _ => rfl)) pe_int (nomark _)) (pw_and1 (pt_cmpR op_eq (pe_call G52 (hr.mono (by decide)) (by rfl) T.g52 T.F52.kp T.b52 .nil pass0 (pa_cons (pv 0) (pa_cons pe_int pa_nil))) pe_int (nomark _)))))
        (pss_one (ps_dput (hu_of hr) (pv 2) (pv 3) (pe_call G55 (hr.mono (by decide)) (by rfl) T.g55 T.F55.kp T.b55 .nil pass0 (pa_cons (pv 0) (pa_cons (pe_dget (hu_of hr) (pv 1) (pv 3) (fun _ _ => rfl)) (pa_cons pe_int (pa_cons (pe_op op_sub (pe_dget (hu_of hr) (pv 1) (pv 3) (fun _ _ => rfl)) pe_int) pa_nil))))) rfl))
        pss_nil)))
  (pss_one (ps_ret (pv 2))))), ?_⟩
    intro k hk
    have nt : t ≠ p := pool_ne hP ht (by intro _ z; cases z)
    have nk : k ≠ p := Chg.ne hP hk
    have ntk : t ≠ k := ne_of_none ht hk
    have C0 : Chg p H (upd H k (.dK [])) := (Chg.refl hP).new hk
    have e0 : (tabK ts).map (fun kv => kV kv.1) = (ts.map (·.1)).map V.str := by
      unfold tabK
      rw [List.map_map, List.map_map]
      rfl
    refine ⟨_, rfl, t, tabK ts, rfl, .inl (C0.at nt ht), fun l hl => ⟨l, rfl, ?_⟩⟩
    rw [e0]
    have nl : l ≠ p := Chg.ne C0.1 hl
    have nkl : k ≠ l := ne_of_none upd_same hl
    have C1 := C0.new (o := .lst ((ts.map (·.1)).map V.str)) hl
    refine ⟨⟨_, .of upd_same⟩, for_list (K := K) (a := l) (xs := (ts.map (·.1)).map V.str) (fun i σ H' => ∃ (ks : List KeyE) (y3 : Option V), σ = [some (.ref p), some (.ref t), some (.ref k), y3] ∧ H' k = some (.dK (keyK ks)) ∧ H' l = some (.lst ((ts.map (·.1)).map V.str)) ∧ (ks.map (·.1)).Sublist ((ts.map (·.1)).take i) ∧ (∀ b ∈ ks, H' b.2.1 = some (.tup (b.2.2.map V.int))) ∧
        (∀ b ∈ ks, ∃ w, (b.1, w) ∈ ts ∧ Cols b.2.2 w ∧ 1 ≤ b.2.2.length ∧ (b.2.2.length : Int) < w) ∧ Chg p H H')
      ⟨[], none, rfl, ?_, upd_same, List.nil_sublist _, (fun b hb => by cases hb), (fun b hb => by cases hb), C1⟩ (fun i σ H' _ hp => ?_) (fun i y σ H' hy hp => ?_) (fun σ H' hp => ?_)⟩
    · rw [upd_ne nkl]
      exact upd_same
    · obtain ⟨ks, y3, rfl, _, hl', _⟩ := hp
      exact .of hl'
    · obtain ⟨ks, y3, rfl, hk', hl', hsub, hat, hok, hc⟩ := hp
      obtain ⟨n, hn, rfl⟩ := map_at hy
      obtain ⟨b, hb, rfl⟩ := map_at hn
      obtain ⟨n, w⟩ := b
      have hmem : (n, w) ∈ ts := List.mem_of_getElem? hb
      have hw := hT.wd _ hmem
      have tk : (ts.map (·.1)).take (i + 1) = (ts.map (·.1)).take i ++ [n] := by
        rw [List.take_add_one, hn]
        rfl
      have hsub' : (ks.map (·.1)).Sublist ((ts.map (·.1)).take (i + 1)) := by
        rw [tk]
        exact hsub.trans (List.sublist_append_left _ _)
      have hlen : ks.length ≤ 26 := by
        have e1 := hsub.length_le
        rw [List.length_map, List.length_take] at e1
        have e2 := hT.nm.len
        omega
      have g : ∀ H2 : Hp, H2 t = some (.dK (tabK ts)) → DGet H2 t (.str n) (some (.int w)) := fun H2 e => tab_at e hT.nm.nd hmem
      have ht' := hc.at nt ht
      refine ⟨_, rfl, _, rfl, t, _, rfl, g _ ht', _, _, rfl, rfl, _, rfl, ite_d (fun h1 => ?_) (fun h1 => ⟨ks, _, rfl, hk', hl', hsub', hat, hok, hc⟩)⟩
      refine ⟨_, rfl, p, 3, rfl, hc.1, by decide, by decide, fun r H2 r0 r1 C2 => ⟨rfl, _, rfl, ite_eqI (fun h2 => ?_) (fun h2 => ?_)⟩⟩
      · refine ⟨_, rfl, _, rfl, _, rfl, t, _, rfl, g _ (C2.at nt ht'), _, rfl, _, rfl, t, _, rfl, g _ (C2.at nt ht'), _, _, rfl, rfl, p, w, 1, (w - 1).toNat, ?_, C2.1, by omega, by omega, by decide, fun c cs H3 c0 c1 c2 c3 c4 C3 => ?_⟩
        · rw [Int.toNat_of_nonneg (by omega)]
          rfl
        have C23 := C2.trans C3
        have hk3 := C23.at nk hk'
        have nc : ∀ o, H3 k = some o → c ≠ k := fun o e => ne_of c1 hk3 (by intro z; cases z)
        refine ⟨_, rfl, _, rfl, k, _, rfl, DPut.k (k := Sum.inr n) hk3 ?_, ks ++ [(n, c, cs)], _, rfl, ?_, ?_, ?_, fun b hb => ?_, fun b hb => ?_, (hc.trans C23).mut hk nk⟩
        · unfold keyK
          rw [List.length_map]
          exact Nat.lt_of_le_of_lt hlen (by decide)
        · unfold keyK
          rw [snoc_map]
          refine Eq.trans upd_same (congrArg (fun x => some (HO.dK x)) (putK_new _ (valV_no ?_)))
          have e := keys_key ks
          unfold keyK at e
          rw [e]
          exact inr_no fun hm => nd_take hT.nm.nd hn (hsub.subset hm)
        · rw [upd_ne nkl.symm]
          exact C23.at nl hl'
        · rw [snoc_map, tk]
          exact hsub.append (List.Sublist.refl _)
        · rcases List.mem_append.mp hb with h | h
          · exact upd_tup hk3 (by intro _ z; cases z) _ _ (chg_tup hc.1 C23 _ _ (hat b h))
          · rw [List.mem_singleton.mp h]
            exact upd_tup hk3 (by intro _ z; cases z) _ _ c1
        · rcases List.mem_append.mp hb with h | h
          · exact hok b h
          · rw [List.mem_singleton.mp h]
            have h5 := c4 rfl (by omega)
            exact ⟨w, hmem, c2, h5, by show (cs.length : Int) < w; omega⟩
      · exact ⟨ks, _, rfl, C2.at nk hk', C2.at nl hl', hsub', fun b hb => chg_tup hc.1 C2 _ _ (hat b hb), hok, hc.trans C2⟩
    · obtain ⟨ks, y3, rfl, hk', hl', hsub, hat, hok, hc⟩ := hp
      rw [List.length_map, List.take_length] at hsub
      exact ⟨_, rfl, q k ks H' hk hk' ⟨hT.nm.nd.sublist hsub, by have := hsub.length_le; rw [List.length_map, List.length_map] at this; exact this, hat, hok⟩ hc⟩
/-! ### _law_is_whole -/
theorem valV_mem {κ : Type} [DecidableEq κ] {k : κ} {v : V} : ∀ {kvs : List (κ × V)}, valV kvs k = some v → (k, v) ∈ kvs
  | [], h => by cases h
  | p :: r, h => by
    by_cases e : p.1 = k
    · rw [valV_pos e] at h
      have : p = (k, v) := by rw [← e, ← Option.some.inj h]
      rw [this]
      exact List.mem_cons_self ..
    · rw [valV_neg e] at h
      exact List.mem_cons_of_mem _ (valV_mem h)
theorem perm_nd {κ : Type} {a b : List (κ × V)} (p : a.Perm b) (nd : (b.map (·.1)).Nodup) : (a.map (·.1)).Nodup := (p.map (·.1)).nodup_iff.mpr nd
theorem valV_perm {κ : Type} [DecidableEq κ] {a b : List (κ × V)} (p : a.Perm b) (nd : (b.map (·.1)).Nodup) (k : κ) : valV a k = valV b k := by
  cases h : valV b k with
  | some v => exact val_nodup (perm_nd p nd) (k, v) (p.mem_iff.mpr (valV_mem h))
  | none =>
    cases h' : valV a k with
    | none => rfl
    | some v =>
      rw [val_nodup nd (k, v) (p.mem_iff.mp (valV_mem h'))] at h
      cases h
/-- a dict at t with these pairs, in any order -/
def DctAt (H : Hp) (t : Addr) (kvs : List (Key × V)) : Prop := ∃ ks, H t = some (.dK ks) ∧ ks.Perm kvs
theorem DctAt.of {H : Hp} {t : Addr} {kvs : List (Key × V)} (h : H t = some (.dK kvs)) : DctAt H t kvs := ⟨kvs, h, .refl _⟩
theorem DctAt.same {H H' : Hp} {t : Addr} {kvs : List (Key × V)} (h : DctAt H t kvs) (s : Same H H') : DctAt H' t kvs := by
  obtain ⟨ks, e, p⟩ := h
  exact ⟨ks, s _ _ e, p⟩
theorem DctAt.get {H : Hp} {t : Addr} {kvs : List (Key × V)} (h : DctAt H t kvs) (nd : (kvs.map (·.1)).Nodup) (k : Key) : DGet H t (kV k) (valV kvs k) := by
  obtain ⟨ks, e, p⟩ := h
  have g := DGet.k (k := k) e
  rw [valV_perm p nd] at g
  exact g
theorem tab_nd {ts : List (Str × Int)} {m : Nat} {wm : Int} (h : Tabs ts m wm) : ((tabK ts).map (·.1)).Nodup := by
  rw [keys_tab]
  exact inr_nd h.nm.nd
theorem tab_val {ts : List (Str × Int)} {m : Nat} {wm : Int} {n : Str} {w : Int} (h : Tabs ts m wm) (hm : (n, w) ∈ ts) : valV (tabK ts) (Sum.inr n) = some (.int w) :=
  val_nodup (kvs := tabK ts) (tab_nd h) (Sum.inr n, V.int w) (List.mem_map.mpr ⟨(n, w), hm, rfl⟩)
theorem key_nd {H : Hp} {ts : List (Str × Int)} {ks : List KeyE} {m : Nat} {wm : Int} (hT : Tabs ts m wm) (h : Keys H ts ks) : ((keyK ks).map (·.1)).Nodup := by
  rw [keys_key]
  exact inr_nd h.nd
theorem DctAt.at_ {H : Hp} {t : Addr} {kvs : List (Key × V)} {n : Str} {v : V} (h : DctAt H t kvs) (nd : (kvs.map (·.1)).Nodup) (e : valV kvs (Sum.inr n) = some v) : DGet H t (.str n) (some v) := by
  have g := h.get nd (Sum.inr n)
  rw [e] at g
  exact g
def capV : Option Int → V
  | none => .non
  | some i => .int i
theorem capV_none (c : Option Int) : decide (capV c = .non) = c.isNone := by
  cases c <;> rfl
def keyAt (ks : List KeyE) (n : Str) : Option KeyE := ks.find? fun b => decide (b.1 = n)
theorem keyAt_val (n : Str) : ∀ ks : List KeyE, valV (keyK ks) (Sum.inr n) = (keyAt ks n).map fun b => V.ref b.2.1
  | [] => rfl
  | b :: ks => by
    have ih := keyAt_val n ks
    unfold keyAt keyK at ih ⊢
    rw [List.map_cons]
    by_cases e : b.1 = n
    · rw [valV_pos (by rw [e])]
      simp [e]
    · rw [valV_neg (fun z => e (Sum.inr.inj z)), ih]
      simp [e]
theorem keyAt_mem {ks : List KeyE} {n : Str} {b : KeyE} (h : keyAt ks n = some b) : b ∈ ks ∧ b.1 = n := by
  unfold keyAt at h
  exact ⟨List.mem_of_find?_eq_some h, by simpa using List.find?_some h⟩
def isWh (w : Int) (ks : List KeyE) (n : Str) (cols : List Int) (cap : Option Int) : Bool :=
  cap.isNone || (decide ((cols.length : Int) = w) || match keyAt ks n with
    | none => false
    | some b => b.2.2.all fun x => decide (x ∈ cols))
theorem inV_ints (c : Int) (xs : List Int) : inV (.int c) (xs.map V.int) = decide (c ∈ xs) := by
  unfold inV
  rw [List.any_map]
  apply Bool.eq_iff_iff.mpr
  rw [List.any_eq_true, decide_eq_true_iff]
  constructor
  · rintro ⟨x, hx, e⟩
    have e' : decide (x = c) = true := e
    rw [← of_decide_eq_true e']
    exact hx
  · intro h
    exact ⟨c, h, decide_eq_true rfl⟩
theorem flat_ints (xs : List Int) : (xs.map V.int).all flatV = true := by
  rw [List.all_map, List.all_eq_true]
  intro _ _
  rfl
theorem dp_ints {K : PySem.W.Frag} {H : Hp} : ∀ ns : List Int, DpAll K H (ns.map V.int) (ns.map PyData.int)
  | [] => .nil
  | n :: ns => .cons (.int n) (dp_ints ns)
theorem lay_ints : ∀ ns : List Int, PyData.canLayAll0 (ns.map PyData.int) = true ∧ PyData.depthAll (ns.map PyData.int) = 0
  | [] => by simp [PyData.canLayAll0, PyData.depthAll]
  | n :: ns => by
    obtain ⟨h1, h2⟩ := lay_ints ns
    simp only [List.map_cons, PyData.canLayAll0, PyData.depthAll, PyData.canLay0, PyData.depth, h1, h2, Bool.and_self, true_and]
    rfl
theorem ints_shaped (ns : List Int) : SeqAt.shaped (.list (ns.map PyData.int)) = true := by
  obtain ⟨h1, h2⟩ := lay_ints ns
  show ((PyData.list (ns.map PyData.int)).canLay0 && decide ((PyData.list (ns.map PyData.int)).depth ≤ 64)) = true
  simp only [PyData.canLay0, PyData.depth, h1, h2]
  decide
theorem eqv_nilL (ds : List PyData) : PyData.eqv (.list ds) (.list []) = ds.isEmpty := by
  cases ds <;> simp [PyData.eqv, PyData.eqvAll]
theorem filter_empty (cs xs : List Int) : ((cs.filter fun c => !decide (c ∈ xs)).map PyData.int).isEmpty = cs.all fun c => decide (c ∈ xs) := by
  induction cs with
  | nil => rfl
  | cons c cs ih =>
    by_cases h : c ∈ xs
    · rw [List.filter_cons_of_neg (by simp [h]), ih, List.all_cons, decide_eq_true h, Bool.true_and]
    · rw [List.filter_cons_of_pos (by simp [h]), List.all_cons, decide_eq_false h, Bool.false_and]
      rfl
structure Told (H : Hp) (v : Addr) (n : Str) (ga : Addr) (cols : List Int) (cap : Option Int) : Prop where
  tup : H v = some (.tup [.str n, .ref ga, capV cap])
  cols : H ga = some (.tup (cols.map V.int))
theorem Told.mono {H H' : Hp} {v : Addr} {n : Str} {ga : Addr} {cols : List Int} {cap : Option Int} (h : Told H v n ga cols cap) (m : ∀ b xs, H b = some (.tup xs) → H' b = some (.tup xs)) : Told H' v n ga cols cap := ⟨m _ _ h.tup, m _ _ h.cols⟩
def spWhole : Sp := fun vs H Q _ => ∃ (t k v ga : Addr) (m : Nat) (ts : List (Str × Int)) (ks : List KeyE) (n : Str) (w : Int) (cols : List Int) (cap : Option Int), vs = [.ref t, .ref k, .ref v] ∧ DctAt H t (tabK ts) ∧ DctAt H k (keyK ks) ∧ Tabs ts m 100 ∧ Keys H ts ks ∧
  Told H v n ga cols cap ∧ (n, w) ∈ ts ∧ cols.length ≤ 100 ∧ ∀ H', Same H H' → Q (.bl (isWh w ks n cols cap)) H'
theorem ok_is_whole (T : Txt K mg a d) : FnOk P w K mg base CX0 3 (a 58) (d 58) ["_law_tables_here", "_law_keys_here", "_law_told"] spWhole := by
  refine T.F58.ok sc__law_is_whole (fun vs H Q E h => ?_) (fun cdv A outer s H vs Q E hr h => ?_)
  · obtain ⟨t, k, v, ga, m, ts, ks, n, w, cols, cap, rfl, _⟩ := h
    rfl
  · obtain ⟨t, k, v, ga, m, ts, ks, n, w, cols, cap, rfl, ht, hk, hT, hK, hv, hm, hc, q⟩ := h
    refine ⟨_, (pss_cons (ps_asg (pv 2) (pg_tup rfl (pgs_cons (pg_name (i := 3) sc__law_is_whole.nd rfl (.inl rfl)) (pgs_cons (pg_name (i := 4) sc__law_is_whole.nd rfl (.inr rfl)) (pgs_cons (pg_name (i := 5) sc__law_is_whole.nd rfl (.inl rfl)) pgs_nil)))))
  (pss_cons (ps_if (PW.pt (pw_or (pt_cmpR op_isN (pv 5) pe_non (nomark _)) (pw_or1 (pt_cmpR op_eq (pe_callB (id := "len")  call_len_seq (by rfl) T.z_len (by decide +kernel) (pa_cons (pv 4) pa_nil)) (pe_dget (hu_of hr) (pv 0) (pv 3) (fun _ _ => rfl)) (nomark _)))))
    (pss_one (ps_ret pe_bl))
    pss_nil)
  (pss_cons (ps_if (pt_cmp (pc_dnotin (hu_of hr) (pv 3) (pv 1)))
    (pss_one (ps_ret pe_bl))
    pss_nil)
  (pss_one (ps_ret (pe_cmpR (op_eqD (hu_of64 hr)) (pe_lc (own := [("_law_column", 6)]) rfl sc__law_is_whole.nd (pi_tup (pe_dget (hu_of hr) (pv 1) (pv 3) (fun _ _ => rfl))) (blkOk_by (N := ["_law_tables_here", "_law_keys_here", "_law_told", "_law_table", "_law_given", "_law_cap", "_law_column"]) (sc := defScope s__law_is_whole) (by decide +kernel)) (fun _ _ _ _ _ => pg_name (i := 6) sc__law_is_whole.nd rfl (.inl rfl)) (fun _ _ _ _ _ => (pts_one (pt_cmpR (r := rIn K true) op_notIn_seq (pv 6) (pv 4) (by rfl)))) (fun _ _ _ _ _ => (pv 6))) (pe_lst pa_nil) (nomark _))))))), ?_⟩
    refine ⟨_, rfl, v, _, rfl, .of hv.tup, rfl, _, _, rfl, _, _, rfl, _, _, rfl, rfl, ?_⟩
    have fin : ∀ b : Bool, b = isWh w ks n cols cap → ∀ H', Same H H' → Q (.bl b) H' := fun b e H' s => by
      rw [e]
      exact q H' s
    refine ⟨_, rfl, rfl, _, rfl, ?_⟩
    rw [capV_none]
    cases e1 : cap.isNone with
    | true => exact fin true (by unfold isWh; rw [e1]; rfl) H (fun _ _ e => e)
    | false =>
      refine ⟨_, rfl, _, _, rfl, .inr (.of hv.cols), _, rfl, _, rfl, t, _, rfl, ht.at_ (tab_nd hT) (tab_val hT hm), rfl, _, rfl, ?_⟩
      rw [List.length_map]
      refine ite_eqI (fun e2 => ?_) (fun e2 => ?_)
      · exact fin true (by unfold isWh; rw [e1, decide_eq_true e2]; rfl) H (fun _ _ e => e)
      · refine ⟨_, rfl, _, rfl, k, _, rfl, hk.get (key_nd hT hK) (Sum.inr n), _, rfl, ?_⟩
        rw [keyAt_val]
        cases e3 : keyAt ks n with
        | none => exact fin false (by unfold isWh; rw [e1, decide_eq_false e2, e3]; rfl) H (fun _ _ e => e)
        | some b =>
          obtain ⟨bm, bn⟩ := keyAt_mem e3
          have hb := hK.at_ b bm
          obtain ⟨w', hw', hcols', hl1, hl2⟩ := hK.ok b bm
          have hw2 := (hT.wd _ hw').2
          have dg := hk.get (key_nd hT hK) (Sum.inr n)
          rw [keyAt_val, e3] at dg
          refine ⟨_, rfl, _, rfl, k, _, rfl, dg, b.2.1, rfl, ⟨_, .of hb⟩, fun D hD => ?_⟩
          refine lc_tup (K := K) (a := b.2.1) (xs := b.2.2.map V.int) (fun i H' => H' D = some (.lst (((b.2.2.take i).filter fun c => !decide (c ∈ cols)).map V.int)) ∧ Same H H') ⟨upd_same, same_upd hD⟩ (fun i H' _ hp => .of (hp.2 _ _ hb)) (fun i x H' hx hp => ?_) (fun H' hp => ?_)
          · obtain ⟨h1, h2⟩ := hp
            obtain ⟨c, hcx, rfl⟩ := map_at hx
            have hi : i < b.2.2.length := (List.getElem?_eq_some_iff.mp hcx).1
            refine ⟨rfl, _, rfl, _, rfl, ga, _, rfl, .inr (.of (h2 _ _ hv.cols)), rfl, flat_ints _, _, rfl, ?_⟩
            show if (!inV (.int c) (cols.map V.int)) = true then _ else _
            rw [inV_ints]
            have tk : (b.2.2.take (i + 1)).filter (fun c => !decide (c ∈ cols)) = (b.2.2.take i).filter (fun c => !decide (c ∈ cols)) ++ ([c].filter fun c => !decide (c ∈ cols)) := by
              rw [List.take_add_one, hcx, List.filter_append]
              rfl
            refine ite_nd (fun e => ?_) (fun e => ?_)
            · refine ⟨_, rfl, _, h1, ?_, ?_, ?_⟩
              · rw [List.length_map]
                have l1 := List.length_filter_le (fun c => !decide (c ∈ cols)) (b.2.2.take i)
                rw [List.length_take] at l1
                exact Nat.lt_of_le_of_lt (by omega : _ ≤ 100) (by decide)
              · rw [tk, List.map_append, List.filter_cons_of_pos (by simp [e])]
                exact upd_same
              · intro x o ex
                rw [upd_ne (ne_of_none ex hD)]
                exact h2 x o ex
            · refine ⟨?_, h2⟩
              rw [tk, List.filter_cons_of_neg (by simp [e])]
              simpa using h1
          · obtain ⟨h1, h2⟩ := hp
            rw [List.length_map, List.take_length] at h1
            refine ⟨Nat.zero_le _, fun p hp => ⟨_, .list [], .lst (.of (same_upd hp _ _ h1)) (dp_ints _), .lst (.of upd_same) .nil, ints_shaped _, by decide, ?_⟩⟩
            rw [eqv_nilL, filter_empty]
            exact fin _ (by unfold isWh; rw [e1, decide_eq_false e2, e3]; rfl) _ (h2.trans (same_upd hp))
/-! ### _law_services -/
structure SvE where
  name : Str
  at_ : Addr
  tab : Str
  ga : Addr
  cols : List Int
  cap : Option Int
def svK (ss : List SvE) : List (Key × V) := ss.map fun b => (Sum.inr b.name, V.ref b.at_)
theorem keys_sv (ss : List SvE) : (svK ss).map (·.1) = (ss.map (·.name)).map Sum.inr := by
  unfold svK
  rw [List.map_map, List.map_map]
  rfl
def widthAt (ts : List (Str × Int)) (n : Str) : Int := ((ts.find? fun b => decide (b.1 = n)).map (·.2)).getD 0
theorem widthAt_mem {n : Str} {w : Int} : ∀ {ts : List (Str × Int)}, (ts.map (·.1)).Nodup → (n, w) ∈ ts → widthAt ts n = w
  | b :: ts, nd, h => by
    rw [List.map_cons] at nd
    have nd' := List.nodup_cons.mp nd
    unfold widthAt
    by_cases e : b.1 = n
    · rcases List.mem_cons.mp h with h' | h'
      · rw [← h']
        simp
      · exact absurd (by rw [e]; exact List.mem_map.mpr ⟨_, h', rfl⟩) nd'.1
    · rcases List.mem_cons.mp h with h' | h'
      · exact absurd (by rw [← h']) e
      · have ih := widthAt_mem nd'.2 h'
        unfold widthAt at ih
        simpa [e] using ih
/-- is the service whole -/
def whE (ts : List (Str × Int)) (ks : List KeyE) (b : SvE) : Bool := isWh (widthAt ts b.tab) ks b.tab b.cols b.cap
def fillE (ts : List (Str × Int)) (ks : List KeyE) (ss : List SvE) : List Str := (ss.filter fun b => !whE ts ks b).map (·.tab)
theorem fillE_snoc (ts : List (Str × Int)) (ks : List KeyE) (ss : List SvE) (b : SvE) : fillE ts ks (ss ++ [b]) = fillE ts ks ss ++ (if whE ts ks b = true then [] else [b.tab]) := by
  unfold fillE
  rw [List.filter_append, List.map_append]
  cases e : whE ts ks b <;> simp [e]
structure SvOk (H : Hp) (ts : List (Str × Int)) (b : SvE) : Prop where
  told : Told H b.at_ b.tab b.ga b.cols b.cap
  ok : ∃ w, (b.tab, w) ∈ ts ∧ Cols b.cols w ∧ b.cols.length ≤ 4
  cap : ∀ c, b.cap = some c → 1 ≤ c ∧ c ≤ 4
theorem SvOk.mono {H H' : Hp} {ts : List (Str × Int)} {b : SvE} (h : SvOk H ts b) (m : ∀ b xs, H b = some (.tup xs) → H' b = some (.tup xs)) : SvOk H' ts b := ⟨h.told.mono m, h.ok, h.cap⟩
structure Svcs (H : Hp) (ts : List (Str × Int)) (ks : List KeyE) (ss : List SvE) (n : Nat) : Prop where
  nm : Nms (ss.map (·.name)) n
  ok : ∀ b ∈ ss, SvOk H ts b
  one : (fillE ts ks ss).Nodup
theorem Svcs.mono {H H' : Hp} {ts : List (Str × Int)} {ks : List KeyE} {ss : List SvE} {n : Nat} (h : Svcs H ts ks ss n) (m : ∀ b xs, H b = some (.tup xs) → H' b = some (.tup xs)) : Svcs H' ts ks ss n := ⟨h.nm, fun b hb => (h.ok b hb).mono m, h.one⟩
theorem inV_strs (n : Str) (xs : List Str) : inV (.str n) (xs.map V.str) = decide (n ∈ xs) := by
  unfold inV
  rw [List.any_map]
  apply Bool.eq_iff_iff.mpr
  rw [List.any_eq_true, decide_eq_true_iff]
  constructor
  · rintro ⟨x, hx, e⟩
    have e' : decide (x = n) = true := e
    rw [← of_decide_eq_true e']
    exact hx
  · intro h
    exact ⟨n, h, decide_eq_true rfl⟩
theorem flat_strs (xs : List Str) : (xs.map V.str).all flatV = true := by
  rw [List.all_map, List.all_eq_true]
  intro _ _
  rfl
/-- while the services are made -/
structure SvMade (p t k ca l1 l2 s f : Addr) (ts : List (Str × Int)) (ks : List KeyE) (cps : List (Option Int)) (ns : List Str) (H0 H : Hp) (ss : List SvE) (fl : List Str) : Prop where
  chg : Chg p H0 H
  sv : H s = some (.dK (svK ss))
  fil : H f = some (.lst (fl.map V.str))
  ord : H l1 = some (.lst ((ts.map (·.1)).map V.str))
  nam : H l2 = some (.lst (ns.map V.str))
  tabs : H t = some (.dK (tabK ts))
  keys : H k = some (.dK (keyK ks))
  caps : H ca = some (.lst (cps.map capV))
  kok : Keys H ts ks
  ok : ∀ b ∈ ss, SvOk H ts b
structure SvNe (p t k ca l1 l2 s f : Addr) (H0 : Hp) : Prop where
  s0 : H0 s = none
  f0 : H0 f = none
  sp : s ≠ p
  fp : f ≠ p
  cp : ca ≠ p
  p1 : l1 ≠ p
  p2 : l2 ≠ p
  f1 : l1 ≠ f
  f2 : l2 ≠ f
  fc : ca ≠ f
theorem SvMade.go {p t k ca l1 l2 s f : Addr} {ts : List (Str × Int)} {ks : List KeyE} {cps : List (Option Int)} {ns : List Str} {H0 H H' : Hp} {ss : List SvE} {fl : List Str} (h : SvMade p t k ca l1 l2 s f ts ks cps ns H0 H ss fl) (n : SvNe p t k ca l1 l2 s f H0) (c : Chg p H H') : SvMade p t k ca l1 l2 s f ts ks cps ns H0 H' ss fl := by
  have m := chg_tup h.chg.1 c
  have d : ∀ {b : Addr} {kvs : List (Key × V)}, H b = some (.dK kvs) → H' b = some (.dK kvs) := fun e => c.at (pool_ne h.chg.1 e (by intro _ z; cases z)) e
  exact ⟨h.chg.trans c, d h.sv, c.at n.fp h.fil, c.at n.p1 h.ord, c.at n.p2 h.nam, d h.tabs, d h.keys, c.at n.cp h.caps, h.kok.mono m, fun b hb => (h.ok b hb).mono m⟩
theorem SvMade.same {p t k ca l1 l2 s f : Addr} {ts : List (Str × Int)} {ks : List KeyE} {cps : List (Option Int)} {ns : List Str} {H0 H H' : Hp} {ss : List SvE} {fl : List Str} (h : SvMade p t k ca l1 l2 s f ts ks cps ns H0 H ss fl) (n : SvNe p t k ca l1 l2 s f H0) (c : Same H H') : SvMade p t k ca l1 l2 s f ts ks cps ns H0 H' ss fl :=
  h.go n ⟨h.chg.1.same c, fun b o _ e => c b o e⟩
theorem SvMade.fill {p t k ca l1 l2 s f : Addr} {ts : List (Str × Int)} {ks : List KeyE} {cps : List (Option Int)} {ns : List Str} {H0 H : Hp} {ss : List SvE} {fl gl : List Str} (h : SvMade p t k ca l1 l2 s f ts ks cps ns H0 H ss fl) (n : SvNe p t k ca l1 l2 s f H0) : SvMade p t k ca l1 l2 s f ts ks cps ns H0 (upd H f (.lst (gl.map V.str))) ss gl := by
  have m : ∀ b xs, H b = some (.tup xs) → upd H f (.lst (gl.map V.str)) b = some (.tup xs) := upd_tup h.fil (by intro _ z; cases z)
  have d : ∀ {b : Addr} {kvs : List (Key × V)}, H b = some (.dK kvs) → upd H f (.lst (gl.map V.str)) b = some (.dK kvs) := fun e => by
    rw [upd_ne (ne_of e h.fil (by intro z; cases z))]
    exact e
  exact ⟨h.chg.mut n.f0 n.fp, d h.sv, upd_same, by rw [upd_ne n.f1]; exact h.ord, by rw [upd_ne n.f2]; exact h.nam, d h.tabs, d h.keys, by rw [upd_ne n.fc]; exact h.caps, h.kok.mono m, fun b hb => (h.ok b hb).mono m⟩
theorem SvMade.put {p t k ca l1 l2 s f : Addr} {ts : List (Str × Int)} {ks : List KeyE} {cps : List (Option Int)} {ns : List Str} {H0 H : Hp} {ss : List SvE} {fl : List Str} {b : SvE} (h : SvMade p t k ca l1 l2 s f ts ks cps ns H0 H ss fl) (n : SvNe p t k ca l1 l2 s f H0) (ht : H0 t ≠ none) (hk : H0 k ≠ none) (hb : SvOk H ts b) :
    SvMade p t k ca l1 l2 s f ts ks cps ns H0 (upd H s (.dK (svK (ss ++ [b])))) (ss ++ [b]) fl := by
  have m : ∀ c xs, H c = some (.tup xs) → upd H s (.dK (svK (ss ++ [b]))) c = some (.tup xs) := upd_tup h.sv (by intro _ z; cases z)
  have l : ∀ {c : Addr} {xs : List V}, H c = some (.lst xs) → upd H s (.dK (svK (ss ++ [b]))) c = some (.lst xs) := fun e => by
    rw [upd_ne (ne_of e h.sv (by intro z; cases z))]
    exact e
  have nts : t ≠ s := fun e => ht (by rw [e]; exact n.s0)
  have nks : k ≠ s := fun e => hk (by rw [e]; exact n.s0)
  refine ⟨h.chg.mut n.s0 n.sp, upd_same, l h.fil, l h.ord, l h.nam, by rw [upd_ne nts]; exact h.tabs, by rw [upd_ne nks]; exact h.keys, l h.caps, h.kok.mono m, fun c hc => ?_⟩
  rcases List.mem_append.mp hc with e | e
  · exact (h.ok c e).mono m
  · rw [List.mem_singleton.mp e]
    exact hb.mono m
def spServices : Sp := fun vs H Q _ => ∃ (p t k ca : Addr) (m more : Nat) (ts : List (Str × Int)) (ks : List KeyE) (cps : List (Option Int)), vs = [.ref p, .ref t, .ref k, .ref ca, .int (more : Int)] ∧ PoolAt H p ∧ H t = some (.dK (tabK ts)) ∧ H k = some (.dK (keyK ks)) ∧ Tabs ts m 100 ∧ 1 ≤ m ∧ m + more ≤ 26 ∧ Keys H ts ks ∧
  H ca = some (.lst (cps.map capV)) ∧ ca ≠ p ∧ 1 ≤ cps.length ∧ cps.length ≤ 100 ∧ (∀ c, some c ∈ cps → 1 ≤ c ∧ c ≤ 4) ∧
  ∀ (s : Addr) (ss : List SvE) (H' : Hp), H s = none → H' s = some (.dK (svK ss)) → Svcs H' ts ks ss (m + more) → Chg p H H' → Q (.ref s) H'
theorem ok_services (T : Txt K mg a d) : FnOk P w K mg base CX0 5 (a 59) (d 59) ["_law_pool_here", "_law_tables_here", "_law_keys_here", "_law_caps", "_law_more"] spServices := by
  have G52 : FnOk P w K mg base CX0 2 (a 52) (d 52) ["_law_pool_here", "_law_many"] spDraw := ok_draw T
  have G54 : FnOk P w K mg base CX0 4 (a 54) (d 54) ["_law_pool_here", "_law_many"] spNames := ok_names T
  have G55 : FnOk P w K mg base CX0 3 (a 55) (d 55) ["_law_pool_here", "_law_width", "_law_low", "_law_high"] spCols := ok_columns T
  have G58 : FnOk P w K mg base CX0 3 (a 58) (d 58) ["_law_tables_here", "_law_keys_here", "_law_told"] spWhole := ok_is_whole T
  refine T.F59.ok sc__law_services (fun vs H Q E h => ?_) (fun cdv A outer s H vs Q E hr h => ?_)
  · obtain ⟨p, t, k, ca, m, more, ts, ks, cps, rfl, _⟩ := h
    rfl
  · obtain ⟨p, t, k, ca, m, more, ts, ks, cps, rfl, hP, ht, hk, hT, hm1, hm2, hK, hca, ncp, hc1, hc2, hcap, q⟩ := h
    refine ⟨_, (pss_cons (ps_set (i := 5) sc__law_services.nd rfl (.inl rfl) (pe_callTy (T := "list")  (call_listD rfl) (by rfl) T.z_list (by decide +kernel) (pa_cons (pv 1) pa_nil)))
  (pss_cons (ps_set (i := 6) sc__law_services.nd rfl (.inl rfl) (pe_call G54 (hr.mono (by decide)) (by rfl) T.g54 T.F54.kp T.b54 .nil pass0 (pa_cons (pv 0) (pa_cons (pe_op op_add (pe_callB (id := "len")  call_len_seq (by rfl) T.z_len (by decide +kernel) (pa_cons (pv 5) pa_nil)) (pv 4)) pa_nil))))
  (pss_cons (ps_set (i := 7) sc__law_services.nd rfl (.inl rfl) pe_dnewK)
  (pss_cons (ps_set (i := 8) sc__law_services.nd rfl (.inl rfl) (pe_lst pa_nil))
  (pss_cons (ps_for PassesOwn.never rfl (pi_range1 (by rfl) T.z_range (pa_cons (pe_callB (id := "len")  call_len_seq (by rfl) T.z_len (by decide +kernel) (pa_cons (pv 6) pa_nil)) pa_nil)) (pg_name (i := 9) sc__law_services.nd rfl (.inl rfl))
    (pss_cons (ps_set (i := 10) sc__law_services.nd rfl (.inl rfl) (pe_ix ix_list (pv 5) (pe_op op_mod (pv 9) (pe_callB (id := "len")  call_len_seq (by rfl) T.z_len (by decide +kernel) (pa_cons (pv 5) pa_nil))) (fun _ _ => rfl)))
      (pss_cons (ps_set (i := 11) sc__law_services.nd rfl (.inl rfl) (pe_ix ix_list (pv 3) (pe_call G52 (hr.mono (by decide)) (by rfl) T.g52 T.F52.kp T.b52 .nil pass0 (pa_cons (pv 0) (pa_cons (pe_callB (id := "len")  call_len_seq (by rfl) T.z_len (by decide +kernel) (pa_cons (pv 3) pa_nil)) pa_nil))) (fun _ _ => rfl)))
      (pss_cons (ps_set (i := 12) sc__law_services.nd rfl (.inl rfl) (pe_tup (pa_cons (pv 10) (pa_cons (pe_call G55 (hr.mono (by decide)) (by rfl) T.g55 T.F55.kp T.b55 .nil pass0 (pa_cons (pv 0) (pa_cons (pe_dget (hu_of hr) (pv 1) (pv 10) (fun _ _ => rfl)) (pa_cons pe_int (pa_cons pe_int pa_nil))))) (pa_cons (pv 11) pa_nil)))))
      (Evl.pss_cut (ps_if (pt_not (pt_val (pe_call G58 (hr.mono (by decide)) (by rfl) T.g58 T.F58.kp T.b58 .nil pass0 (pa_cons (pv 1) (pa_cons (pv 2) (pa_cons (pv 12) pa_nil))))))
        (pss_one (ps_if (pt_cmpR op_in_seq (pv 10) (pv 8) (by rfl))
            (pss_one (ps_set (i := 12) sc__law_services.nd rfl (.inl rfl) (pe_tup (pa_cons (pv 10) (pa_cons (pe_ix ix_tup (pv 12) pe_int (fun _ _ => rfl)) (pa_cons pe_non pa_nil))))))
            (pss_one (ps_expr (pe_bm PySem.F.plainAttrs_list PySem.F.slot_list_append PySem.F.type_list_append mt_append (pv 8) (pa_cons (pv 10) pa_nil))))))
        pss_nil)
      (pss_one (ps_dput (hu_of hr) (pv 7) (pe_ix ix_list (pv 6) (pv 9) (fun _ _ => rfl)) (pv 12) rfl)))))))
  (pss_one (ps_ret (pv 7)))))))), ?_⟩
    have e0 : (tabK ts).map (fun kv => kV kv.1) = (ts.map (·.1)).map V.str := by
      unfold tabK
      rw [List.map_map, List.map_map]
      rfl
    have lts : ((ts.map (·.1)).map V.str).length = m := by rw [List.length_map, hT.nm.len]
    refine ⟨_, rfl, t, tabK ts, rfl, .inl ht, fun l1 hl1 => ?_⟩
    rw [e0]
    have n1 : l1 ≠ p := Chg.ne hP hl1
    have C1 : Chg p H (upd H l1 (.lst ((ts.map (·.1)).map V.str))) := (Chg.refl hP).new hl1
    -- the names
    refine ⟨_, rfl, _, rfl, _, _, rfl, .inl (.of upd_same), _, rfl, _, _, rfl, rfl, p, m + more, ?_, C1.1, hm2, fun l2 ns H2 hl2 h2 hn C2 => ?_⟩
    · rw [lts]
      rfl
    have C02 := C1.trans C2
    have h1 := C2.at n1 upd_same
    have n2 : l2 ≠ p := fun e => by
      obtain ⟨p0, p1, p2, p3, r, e', c⟩ := C1.1
      rw [e, e'] at hl2
      cases hl2
    have nca : ca ≠ l1 := ne_of_none hca hl1
    have hca1 : upd H l1 (.lst ((ts.map (·.1)).map V.str)) ca = some (.lst (cps.map capV)) := C1.at ncp hca
    intro sv hsv
    have nsv : sv ≠ p := Chg.ne C2.1 hsv
    have C3 := C02.new (o := .dK []) hsv
    refine ⟨Nat.zero_le _, fun f hf => ?_⟩
    have nf : f ≠ p := Chg.ne C3.1 hf
    have C4 := C3.new (o := .lst []) hf
    have h14 : ∀ {b : Addr} {o : HO}, H2 b = some o → upd (upd H2 sv (.dK [])) f (.lst []) b = some o := fun e => (same_upd hf) _ _ ((same_upd hsv) _ _ e)
    have d4 : ∀ {b : Addr} {kvs : List (Key × V)}, H b = some (.dK kvs) → upd (upd H2 sv (.dK [])) f (.lst []) b = some (.dK kvs) := fun e => C4.at (pool_ne hP e (by intro _ z; cases z)) e
    have N : SvNe p t k ca l1 l2 sv f H := ⟨free_of C02 hP hsv, free_of C3 hP hf, nsv, nf, ncp, n1, n2, ne_of_none ((same_upd hsv) _ _ h1) hf, ne_of_none ((same_upd hsv) _ _ h2) hf, ne_of_none (C3.at ncp hca) hf⟩
    have M0 : SvMade p t k ca l1 l2 sv f ts ks cps ns H (upd (upd H2 sv (.dK [])) f (.lst [])) [] [] :=
      ⟨C4, (by rw [upd_ne (ne_of_none upd_same hf)]; exact upd_same), upd_same, h14 h1, h14 h2, d4 ht, d4 hk, C4.at ncp hca, hK.mono (chg_tup hP C4), fun b hb => by cases hb⟩
    have lns : ((ns.map V.str).length : Int) = ((m + more : Nat) : Int) := by rw [List.length_map, hn.len]
    refine ⟨_, rfl, _, _, rfl, .inl (.of M0.nam), _, rfl, by omega, by omega, ?_⟩
    rw [lns, Int.toNat_natCast]
    refine for_range (lo := 0) (n := m + more) (fun i σ H' => ∃ (ss : List SvE) (y9 y10 y11 y12 : Option V), σ = [some (.ref p), some (.ref t), some (.ref k), some (.ref ca), some (.int more), some (.ref l1), some (.ref l2), some (.ref sv), some (.ref f), y9, y10, y11, y12] ∧ SvMade p t k ca l1 l2 sv f ts ks cps ns H H' ss (fillE ts ks ss) ∧ ss.map (·.name) = ns.take i ∧ (fillE ts ks ss).Nodup)
      ⟨[], none, none, none, none, rfl, M0, rfl, List.nodup_nil⟩ (fun i σ H' hi hp => ?_) (fun σ H' hp => ?_)
    · obtain ⟨ss, y9, y10, y11, y12, rfl, M, hnm, hone⟩ := hp
      have hss : ss.length ≤ 26 := by
        have e := congrArg List.length hnm
        rw [List.length_map, List.length_take] at e
        have := hn.len
        omega
      have hfl : (fillE ts ks ss).length ≤ 26 := by
        unfold fillE
        rw [List.length_map]
        exact Nat.le_trans (List.length_filter_le _ _) hss
      -- table
      have hj : i % m < ts.length := by
        rw [hT.len]
        exact Nat.mod_lt _ (by omega)
      have hat : (ts.map (·.1))[i % m]? = some ts[i % m].1 := by rw [List.getElem?_map, List.getElem?_eq_getElem hj]; rfl
      generalize hb : ts[i % m] = b at hat
      obtain ⟨n, w⟩ := b
      have hmem : (n, w) ∈ ts := by
        rw [← hb]
        exact List.getElem_mem hj
      have hw := hT.wd _ hmem
      have hwa := widthAt_mem hT.nm.nd hmem
      refine ⟨_, rfl, _, rfl, _, rfl, _, _, rfl, .inl (.of M.ord), _, _, rfl, rfl, ?_, _, _, _, .str n, rfl, rfl, .of M.ord, at_g (j := i % m) ?_ (by rw [List.getElem?_map, hat]; rfl), ?_⟩
      · rw [lts]
        omega
      · rw [lts, Int.zero_add]
        exact (Int.natCast_emod i m).symm
      -- cap
      refine ⟨_, rfl, _, rfl, _, rfl, _, _, rfl, .inl (.of M.caps), p, _, rfl, M.chg.1, ?_, ?_, fun r H5 r0 r1 C5 => ?_⟩
      · rw [List.length_map]
        omega
      · rw [List.length_map]
        exact Nat.lt_of_le_of_lt (by omega : _ ≤ 100) (by decide)
      have M5 := M.go N C5
      obtain ⟨v, hv⟩ := at_some (xs := cps.map capV) r0 r1
      obtain ⟨cap, hcp, rfl⟩ := List.mem_map.mp (atI_mem hv)
      refine ⟨_, _, r, _, rfl, rfl, .of M5.caps, hv, ?_⟩
      -- told
      refine ⟨_, rfl, _, rfl, _, rfl, _, rfl, t, _, rfl, tab_at M5.tabs hT.nm.nd hmem, p, w, 0, 4, rfl, M5.chg.1, hw.1, hw.2, by decide, fun c cs H6 c0 c1 c2 c3 c4 C6 => ⟨_, rfl, by show 3 ≤ sizeLine; decide, fun v hv => ?_⟩⟩
      have M6 := (M5.go N C6).same N (same_upd (o := .tup [.str n, .ref c, capV cap]) hv)
      have told : Told (upd H6 v (.tup [.str n, .ref c, capV cap])) v n c cs cap := ⟨upd_same, same_upd hv _ _ c1⟩
      have hcapok : ∀ z, cap = some z → 1 ≤ z ∧ z ≤ 4 := fun z e => hcap z (e ▸ hcp)
      refine ⟨fun σ H' => ∃ (v : Addr) (cap capY : Option Int) (fl : List Str), σ = [some (.ref p), some (.ref t), some (.ref k), some (.ref ca), some (.int more), some (.ref l1), some (.ref l2), some (.ref sv), some (.ref f), some (.int ((0 : Int) + (i : Int))), some (.str n), some (capV capY), some (.ref v)] ∧ SvMade p t k ca l1 l2 sv f ts ks cps ns H H' ss fl ∧ Told H' v n c cs cap ∧ (∀ z, cap = some z → 1 ≤ z ∧ z ≤ 4) ∧ fl = fillE ts ks ss ++ (if isWh w ks n cs cap = true then [] else [n]) ∧ fl.Nodup, ?_, ?_⟩
      · refine ⟨_, rfl, _, rfl, _, rfl, t, k, v, c, m, ts, ks, n, w, cs, cap, rfl, .of M6.tabs, .of M6.keys, hT, M6.kok, told, hmem, by omega, fun H7 s7 => ⟨_, rfl, ?_⟩⟩
        have M7 := M6.same N s7
        have told7 := told.mono fun _ _ e => s7 _ _ e
        cases e : isWh w ks n cs cap with
        | true => exact ⟨v, cap, _, _, rfl, M7, told7, hcapok, by rw [e, if_pos rfl, List.append_nil], hone⟩
        | false =>
          refine ⟨_, rfl, _, rfl, f, _, rfl, .inl (.of M7.fil), rfl, flat_strs _, _, rfl, ?_⟩
          show if inV (.str n) ((fillE ts ks ss).map V.str) = true then _ else _
          rw [inV_strs]
          refine ite_d (fun h => ?_) (fun h => ?_)
          · refine ⟨_, rfl, _, rfl, _, _, _, _, rfl, rfl, .of told7.tup, atI_nat (j := 1) rfl, by show 3 ≤ sizeLine; decide, fun v2 hv2 => ?_⟩
            have s8 := same_upd (o := .tup [.str n, .ref c, .non]) hv2
            exact ⟨v2, none, _, _, rfl, M7.same N s8, ⟨upd_same, s8 _ _ told7.cols⟩, (fun z e => by cases e), by rw [show isWh w ks n cs none = true from rfl, if_pos rfl, List.append_nil], hone⟩
          · refine ⟨_, rfl, .inl ⟨rfl, _, .of M7.fil⟩, _, rfl, f, _, _, rfl, rfl, M7.fil, ?_, ?_⟩
            · rw [List.length_map]
              exact Nat.lt_of_le_of_lt hfl (by decide)
            · have M8 := M7.fill N (gl := fillE ts ks ss ++ [n])
              rw [List.map_append] at M8
              exact ⟨v, cap, _, _, rfl, M8, told7.mono (upd_tup M7.fil (by intro _ z; cases z)), hcapok, by rw [e, if_neg (by decide)], List.nodup_append.mpr ⟨hone, List.nodup_cons.mpr ⟨(fun z => by cases z), List.nodup_nil⟩, fun x hx y hy => fun z => h (by rw [← List.mem_singleton.mp hy, ← z]; exact hx)⟩⟩
      · rintro σ H8 ⟨v, cap, capY, fl, rfl, M8, told, hcapok, hfe, hnd⟩
        have hin : i < ns.length := by rw [hn.len]; exact hi
        refine ⟨_, rfl, _, rfl, _, rfl, _, rfl, _, _, _, .str ns[i], rfl, rfl, .of M8.nam, at_g (j := i) (by omega) (by rw [List.getElem?_map, List.getElem?_eq_getElem hin]; rfl), sv, _, rfl, DPut.k (k := Sum.inr ns[i]) M8.sv ?_, ss ++ [⟨ns[i], v, n, c, cs, cap⟩], _, _, _, _, rfl, ?_, ?_, ?_⟩
        · unfold svK
          rw [List.length_map]
          exact Nat.lt_of_le_of_lt hss (by decide)
        · have e : putK (svK ss) (Sum.inr ns[i]) (V.ref v) = svK (ss ++ [⟨ns[i], v, n, c, cs, cap⟩]) := by
            rw [putK_new _ (valV_no ?_)]
            · unfold svK
              rw [snoc_map]
            · rw [keys_sv, hnm]
              exact inr_no (nd_take hn.nd (List.getElem?_eq_getElem hin))
          rw [e]
          have hf2 : fillE ts ks (ss ++ [⟨ns[i], v, n, c, cs, cap⟩]) = fl := by
            rw [fillE_snoc, hfe]
            unfold whE
            rw [hwa]
          rw [hf2]
          exact M8.put N (by rw [ht]; intro z; cases z) (by rw [hk]; intro z; cases z) ⟨told, ⟨w, hmem, c2, c3⟩, hcapok⟩
        · rw [snoc_map, hnm, List.take_add_one, List.getElem?_eq_getElem hin]
          rfl
        · have hf2 : fillE ts ks (ss ++ [⟨ns[i], v, n, c, cs, cap⟩]) = fl := by
            rw [fillE_snoc, hfe]
            unfold whE
            rw [hwa]
          rw [hf2]
          exact hnd
    · obtain ⟨ss, y9, y10, y11, y12, rfl, M, hnm, hone⟩ := hp
      rw [← hn.len, List.take_length] at hnm
      exact ⟨_, rfl, q sv ss H' N.s0 M.sv ⟨by rw [hnm]; exact hn, M.ok, hone⟩ M.chg⟩
end
theorem lc_str {x : Str} {g : TG} {tt : TT} {te : TE} {vs : List Nat} {σ : L2.St} {H1 : Hp} {D : Addr} {Qd : Hp → Prop} (Pv : Nat → Hp → Prop) (h0 : Pv 0 (upd H1 D (.lst [])))
    (hs : ∀ i c H, x.cps[i]? = some c → Pv i H → g (.str ⟨#[c]⟩) (wipe σ vs) H fun σ2 H2 => wipe σ2 vs = wipe σ vs ∧ tt σ2 H2 fun b H3 =>
      if b = true then te σ2 H3 fun y H4 => ∃ acc, H4 D = some (.lst acc) ∧ acc.length < sizeLine ∧ Pv (i + 1) (upd H4 D (.lst (acc ++ [y]))) else Pv (i + 1) H3) (hd : ∀ H, Pv x.cps.size H → Qd H) :
    ∃ W : Nat → Nat → Hp → Prop, (∃ m, W 0 m (upd H1 D (.lst []))) ∧ ∀ i m H, W i m H →
      ((Its x).stop i H ∧ Qd H) ∨ ((Its x).go i H ∧ ∃ Nx : Hp → Prop, (∀ H', Nx H' → ∃ m', m' < m ∧ W (i + 1) m' H') ∧ ∀ v H', (Its x).yld i H v H' → g v (wipe σ vs) H' fun σ2 H2 => wipe σ2 vs = wipe σ vs ∧ tt σ2 H2 fun b H3 =>
        if b = true then te σ2 H3 fun y H4 => ∃ acc, H4 D = some (.lst acc) ∧ acc.length < sizeLine ∧ Nx (upd H4 D (.lst (acc ++ [y]))) else Nx H3) := by
  refine ⟨fun i m H => m = x.cps.size - i ∧ i ≤ x.cps.size ∧ Pv i H, ⟨x.cps.size, by simp, Nat.zero_le _, h0⟩, ?_⟩
  rintro i m H ⟨rfl, hi, p⟩
  by_cases hlt : i < x.cps.size
  · refine .inr ⟨hlt, Pv (i + 1), fun H' p' => ⟨x.cps.size - (i + 1), by omega, rfl, hlt, p'⟩, fun v H' y => ?_⟩
    obtain ⟨e, c, hc, ev⟩ := y
    subst e
    subst ev
    exact hs i c _ hc p
  · have e : i = x.cps.size := by omega
    subst e
    exact .inl ⟨Nat.le_refl _, hd H p⟩
/-! ### words and values -/
def okC (c : Nat) : Bool := decide (97 ≤ c ∧ c ≤ 122)
def wordB (s : Str) : Bool := decide (1 ≤ s.length ∧ s.length ≤ 8) && s.cps.toList.all okC
def wordV : V → Bool
  | .str s => wordB s
  | _ => false
def valV' : V → Bool
  | .int i => decide (-999999999999999999999999999999 ≤ i ∧ i ≤ 999999999999999999999999999999)
  | .str s => wordB s
  | _ => false
inductive Thg (H : Hp) : V → Prop
  | int (i : Int) : Thg H (.int i)
  | bl (b : Bool) : Thg H (.bl b)
  | non : Thg H .non
  | str (s : Str) (h : s.length ≤ 1000) (hc : ∀ c ∈ s.cps.toList, c < 128) : Thg H (.str s)
  | lst {a : Addr} {xs : List V} (e : H a = some (.lst xs)) : Thg H (.ref a)
  | tup {a : Addr} {xs : List V} (e : H a = some (.tup xs)) : Thg H (.ref a)
theorem Thg.same {H H' : Hp} {v : V} (h : Thg H v) (s : Same H H') : Thg H' v := by
  cases h with
  | int i => exact .int i
  | bl b => exact .bl b
  | non => exact .non
  | str s h hc => exact .str s h hc
  | lst e => exact .lst (s _ _ e)
  | tup e => exact .tup (s _ _ e)
def tyInt : V → Bool
  | .int _ => true
  | .bl _ => true
  | _ => false
def tyBool : V → Bool
  | .bl _ => true
  | _ => false
def plainV (v : V) : Bool := tyInt v && !tyBool v
def tyStr : V → Bool
  | .str _ => true
  | _ => false
section
variable {K : PySem.W.Frag} {H : Hp} {v : V} {Q : VK}
theorem Thg.ty (h : Thg H v) : ∃ n, TyX K H v (.type n) ∧ kitB n "int" = some (tyInt v) ∧ kitB n "bool" = some (tyBool v) ∧ kitB n "str" = some (tyStr v) := by
  cases h with
  | int i => exact ⟨_, .base (.int _), show kitB "int" "int" = some true by decide +kernel, show kitB "int" "bool" = some false by decide +kernel, show kitB "int" "str" = some false by decide +kernel⟩
  | bl b => exact ⟨_, .base (.bl _), show kitB "bool" "int" = some true by decide +kernel, show kitB "bool" "bool" = some true by decide +kernel, show kitB "bool" "str" = some false by decide +kernel⟩
  | non => exact ⟨_, .base .non, show kitB "NoneType" "int" = some false by decide +kernel, show kitB "NoneType" "bool" = some false by decide +kernel, show kitB "NoneType" "str" = some false by decide +kernel⟩
  | str s => exact ⟨_, .base (.str _), show kitB "str" "int" = some false by decide +kernel, show kitB "str" "bool" = some false by decide +kernel, show kitB "str" "str" = some true by decide +kernel⟩
  | lst e => exact ⟨_, .base (.lst e), show kitB "list" "int" = some false by decide +kernel, show kitB "list" "bool" = some false by decide +kernel, show kitB "list" "str" = some false by decide +kernel⟩
  | tup e => exact ⟨_, .base (.tup e), show kitB "tuple" "int" = some false by decide +kernel, show kitB "tuple" "bool" = some false by decide +kernel, show kitB "tuple" "str" = some false by decide +kernel⟩
end
def spB (f : V → Bool) : Sp := fun vs H Q _ => ∃ v : V, vs = [v] ∧ Thg H v ∧ ∀ H', Same H H' → Q (.bl (f v)) H'
theorem sgn_le {c : Nat} : ((!decide (([c] : List Nat) < [97])) && (!decide (([122] : List Nat) < [c]))) = okC c := by
  have h1 : (([c] : List Nat) < [97]) ↔ c < 97 := by rw [List.cons_lt_cons_iff]; simp
  have h2 : (([122] : List Nat) < [c]) ↔ 122 < c := by rw [List.cons_lt_cons_iff]; simp
  unfold okC
  simp only [h1, h2]
  by_cases a : c < 97 <;> by_cases b : 122 < c <;> simp [a, b] <;> omega
theorem sgn_in : ∀ {c : Nat}, decide (c ∈ ("abcdefghijklmnopqrstuvwxyz" : Str).cps.toList) = okC c := by
  intro c
  by_cases h : c < 128
  · exact (show ∀ c : Nat, c < 128 → decide (c ∈ ("abcdefghijklmnopqrstuvwxyz" : Str).cps.toList) = okC c by decide +kernel) c h
  · have e1 : okC c = false := by
      unfold okC
      exact decide_eq_false (by omega)
    rw [e1]
    refine decide_eq_false fun hm => ?_
    have := (show ∀ c ∈ ("abcdefghijklmnopqrstuvwxyz" : Str).cps.toList, c < 128 by decide +kernel) c hm
    omega
section
variable {P : Program} {w : World} {K : PySem.W.Frag} {mg : Str → Option Value} {base : Heap} {a : Nat → Addr} {d : Nat → FuncData}
theorem ok_plain (T : Txt K mg a d) : FnOk P w K mg base CX0 1 (a 13) (d 13) ["thing"] (spB plainV) := by
  refine T.F13.ok sc_is_plain_int (fun vs H Q E h => ?_) (fun cdv A outer s H vs Q E hr h => ?_)
  · obtain ⟨v, rfl, _⟩ := h
    rfl
  · obtain ⟨v, rfl, hv, q⟩ := h
    refine ⟨_, (pss_one (ps_ret (pe_and (pe_callB (id := "isinstance")  call_isi (by rfl) T.z_isinstance (by decide +kernel) (pa_cons (pv 0) (pa_cons (pe_bltn (v := .ty "int") (by rfl) T.z_int (by decide +kernel) rfl) pa_nil))) (pe_one (pe_not (pe_callB (id := "isinstance")  call_isi (by rfl) T.z_isinstance (by decide +kernel) (pa_cons (pv 0) (pa_cons (pe_bltn (v := .ty "bool") (by rfl) T.z_bool (by decide +kernel) rfl) pa_nil)))))))), ?_⟩
    obtain ⟨n, ht, k1, k2, k3⟩ := hv.ty (K := K)
    refine ⟨_, rfl, _, _, _, _, _, rfl, .ty _, ht, kit_ty k1, _, rfl, ?_⟩
    have q : Q (.bl (tyInt v && !tyBool v)) H := q H (Same.refl H)
    refine ite2 (fun e => ?_) (fun e => ?_)
    · rw [e] at q
      exact ⟨_, rfl, _, _, _, _, _, rfl, .ty _, ht, kit_ty k2, _, rfl, q⟩
    · rw [Bool.eq_false_iff.mpr e] at q
      exact q
theorem ok_is_word (T : Txt K mg a d) : FnOk P w K mg base CX0 1 (a 14) (d 14) ["thing"] (spB wordV) := by
  refine T.F14.ok sc_is_word (fun vs H Q E h => ?_) (fun cdv A outer s H vs Q E hr h => ?_)
  · obtain ⟨v, rfl, _⟩ := h
    rfl
  · obtain ⟨v, rfl, hv, q⟩ := h
    obtain ⟨t8, h_LONGEST_WORD⟩ := T.c_LONGEST_WORD
    refine ⟨_, (pss_cons (ps_if (PW.pt (pw_or (pt_not (pt_val (pe_callB (id := "isinstance")  call_isi (by rfl) T.z_isinstance (by decide +kernel) (pa_cons (pv 0) (pa_cons (pe_bltn (v := .ty "str") (by rfl) T.z_str (by decide +kernel) rfl) pa_nil))))) (pw_or1 (pt_not (pt_chain op_le op_le pe_int (pe_callB (id := "len")  call_len_str (by rfl) T.z_len (by decide +kernel) (pa_cons (pv 0) pa_nil)) (pe_glob (v := .int (8)) rfl h_LONGEST_WORD ⟨_, rfl⟩))))))
    (pss_one (ps_ret pe_bl))
    pss_nil)
  (pss_one (ps_ret (pe_callB (id := "all")  (cr_all rfl) (by rfl) T.z_all (by decide +kernel) (pa_cons (pe_lc (own := [("letter", 1)]) rfl sc_is_word.nd (pi_str (pv 0)) (blkOk_by (N := ["thing", "letter"]) (sc := defScope s_is_word) (by decide +kernel)) (fun _ _ _ _ _ => pg_name (i := 1) sc_is_word.nd rfl (.inl rfl)) (fun _ _ _ _ _ => pts_nil) (fun _ _ _ _ _ => (pe_chain op_le_str op_le_str pe_str (pv 1) pe_str))) pa_nil))))), ?_⟩
    obtain ⟨n, ht, k1, k2, k3⟩ := hv.ty (K := K)
    refine ⟨_, rfl, _, _, _, _, _, rfl, .ty _, ht, kit_ty k3, _, rfl, ?_⟩
    cases hv with
    | int i => exact q H (Same.refl H)
    | bl i => exact q H (Same.refl H)
    | non => exact q H (Same.refl H)
    | lst e => exact q H (Same.refl H)
    | tup e => exact q H (Same.refl H)
    | str s hl hc =>
      have q : ∀ H', Same H H' → Q (.bl (decide (1 ≤ s.length ∧ s.length ≤ 8) && s.cps.toList.all okC)) H' := q
      refine ⟨_, rfl, _, rfl, small1000' hl, _, _, rfl, rfl, _, rfl, ?_⟩
      refine ite_d (fun h1 => ?_) (fun h1 => ?_)
      · refine ⟨_, _, rfl, rfl, _, rfl, ?_⟩
        refine ite_nd (fun h2 => ?_) (fun h2 => ?_)
        · have e : decide (1 ≤ s.length ∧ s.length ≤ 8) = false := decide_eq_false (by omega)
          rw [e] at q
          exact q H (Same.refl H)
        · have e : decide (1 ≤ s.length ∧ s.length ≤ 8) = true := decide_eq_true (by omega)
          rw [e] at q
          refine ⟨_, rfl, _, rfl, fun D hD => ?_⟩
          refine lc_str (fun i H' => H' D = some (.lst (((s.cps.toList.take i).map okC).map V.bl)) ∧ Same H H') ⟨upd_same, same_upd hD⟩ (fun i c H' hx hp => ?_) (fun H' hp => ?_)
          · have hx' : s.cps.toList[i]? = some c := by rw [Array.getElem?_toList]; exact hx
            have hsz : (((s.cps.toList.take i).map okC).map V.bl).length < sizeLine := by
              rw [List.length_map, List.length_map, List.length_take]
              have : s.cps.toList.length = s.length := Array.length_toList
              exact small1000 (by omega)
            have step : ∀ b, b = okC c → ∀ H3, H3 = H' → (upd H3 D (.lst (((s.cps.toList.take i).map okC).map V.bl ++ [.bl b]))) D = some (.lst (((s.cps.toList.take (i + 1)).map okC).map V.bl)) ∧ Same H (upd H3 D (.lst (((s.cps.toList.take i).map okC).map V.bl ++ [.bl b]))) := fun b eb H3 e3 => by
              subst e3
              refine ⟨?_, fun x o ex => ?_⟩
              · rw [map_take hx', List.map_append, ← eb]
                exact upd_same
              · rw [upd_ne (ne_of_none ex hD)]
                exact hp.2 x o ex
            have e0 : ("a" : Str).cps.toList = [97] := by decide +kernel
            have e9 : ("z" : Str).cps.toList = [122] := by decide +kernel
            have eo := sgn_le (c := c)
            refine ⟨rfl, ?_⟩
            refine ⟨_, rfl, _, _, rfl, rfl, _, rfl, ?_⟩
            refine ite_nd (fun h3 => ?_) (fun h3 => ?_)
            · rw [e0] at h3
              have h3' : ¬ ([c] : List Nat) < [97] := h3
              rw [decide_eq_false h3'] at eo
              refine ⟨_, _, rfl, rfl, _, hp.1, hsz, step _ ?_ _ rfl⟩
              rw [e9]
              exact eo
            · rw [e0] at h3
              have h3' : ([c] : List Nat) < [97] := h3
              rw [decide_eq_true h3'] at eo
              exact ⟨_, hp.1, hsz, step _ eo _ rfl⟩
          · obtain ⟨h3, h4⟩ := hp
            have et : s.cps.toList.take s.cps.size = s.cps.toList := List.take_of_length_le (Nat.le_of_eq Array.length_toList)
            rw [et] at h3
            refine ⟨D, _, rfl, .of h3, ?_⟩
            have ea : ((s.cps.toList.map okC).all id) = s.cps.toList.all okC := by rw [List.all_map]; rfl
            rw [ea]
            exact q H' h4
      · have e : decide (1 ≤ s.length ∧ s.length ≤ 8) = false := decide_eq_false (by omega)
        rw [e] at q
        exact ⟨_, rfl, q H (Same.refl H)⟩
end
section
variable {P : Program} {w : World} {K : PySem.W.Frag} {mg : Str → Option Value} {base : Heap} {a : Nat → Addr} {d : Nat → FuncData}
theorem ok_is_value (T : Txt K mg a d) : FnOk P w K mg base CX0 2 (a 15) (d 15) ["thing"] (spB valV') := by
  have G13 : FnOk P w K mg base CX0 1 (a 13) (d 13) ["thing"] (spB plainV) := ok_plain T
  have G14 : FnOk P w K mg base CX0 1 (a 14) (d 14) ["thing"] (spB wordV) := ok_is_word T
  refine T.F15.ok sc_is_value (fun vs H Q E h => ?_) (fun cdv A outer s H vs Q E hr h => ?_)
  · obtain ⟨v, rfl, _⟩ := h
    rfl
  · obtain ⟨v, rfl, hv, q⟩ := h
    obtain ⟨t9, h_GREATEST_VALUE⟩ := T.c_GREATEST_VALUE
    refine ⟨_, (pss_cons (ps_if (pt_val (pe_call G13 (hr.mono (by decide)) (by rfl) T.g13 T.F13.kp T.b13 .nil pass0 (pa_cons (pv 0) pa_nil)))
    (pss_one (ps_ret (pe_chain op_le op_le (pe_un un_neg (pe_glob (v := .int (999999999999999999999999999999)) rfl h_GREATEST_VALUE ⟨_, rfl⟩)) (pv 0) (pe_glob (v := .int (999999999999999999999999999999)) rfl h_GREATEST_VALUE ⟨_, rfl⟩))))
    pss_nil)
  (pss_one (ps_ret (pe_call G14 (hr.mono (by decide)) (by rfl) T.g14 T.F14.kp T.b14 .nil pass0 (pa_cons (pv 0) pa_nil))))), ?_⟩
    refine ⟨_, rfl, v, rfl, hv, fun H1 s1 => ⟨_, rfl, ?_⟩⟩
    have word : ∀ H1, Same H H1 → valV' v = wordV v → tRet (tCall (spB wordV) [] (fun _ _ _ => False) (tCons (tVar 0) tNil)) { nx := fun _ H' => Q .non H', rt := Q } [some v] H1 := fun H1 s1 ev => ⟨_, rfl, v, rfl, hv.same s1, fun H2 s2 => by
      rw [← ev]
      exact q H2 (s1.trans s2)⟩
    cases hv with
    | int i =>
      refine ⟨_, rfl, _, rfl, _, _, rfl, rfl, _, rfl, ?_⟩
      have q1 := q H1 s1
      refine ite_d (fun h2 => ?_) (fun h2 => ?_)
      · refine ⟨_, _, rfl, rfl, ?_⟩
        have e : decide (i ≤ 999999999999999999999999999999) = decide (-999999999999999999999999999999 ≤ i ∧ i ≤ 999999999999999999999999999999) := by
          by_cases h3 : i ≤ 999999999999999999999999999999
          · rw [decide_eq_true h3, decide_eq_true ⟨h2, h3⟩]
          · rw [decide_eq_false h3, decide_eq_false (fun x => h3 x.2)]
        show Q (.bl (decide (i ≤ 999999999999999999999999999999))) H1
        rw [e]
        exact q1
      · have e : decide (-999999999999999999999999999999 ≤ i ∧ i ≤ 999999999999999999999999999999) = false := decide_eq_false (fun x => h2 x.1)
        have q1 : Q (.bl (decide (-999999999999999999999999999999 ≤ i ∧ i ≤ 999999999999999999999999999999))) H1 := q1
        rw [e] at q1
        exact q1
    | bl b => exact word H1 s1 rfl
    | non => exact word H1 s1 rfl
    | str s h hc => exact word H1 s1 rfl
    | lst e => exact word H1 s1 rfl
    | tup e => exact word H1 s1 rfl
end
theorem paired_snoc {α β : Type} {R : α → β → Prop} {x : α} {y : β} : ∀ {xs : List α} {ys : List β}, Paired R xs ys → R x y → Paired R (xs ++ [x]) (ys ++ [y])
  | _, _, .nil, h => .cons h .nil
  | _, _, .cons r t, h => .cons r (paired_snoc t h)
/-! ### rows of values: their order -/
abbrev RowK := List Key
def item : Key → Int ⊕ List Nat
  | .inl i => .inl i
  | .inr s => .inr s.cps.toList
theorem item_inj {a b : Key} (h : item a = item b) : a = b := by
  cases a <;> cases b
  · exact congrArg Sum.inl (Sum.inl.inj h)
  · cases h
  · cases h
  · rename_i x y
    have e : x.cps.toList = y.cps.toList := Sum.inr.inj h
    have e2 : x = y := by
      cases x
      cases y
      exact congrArg Str.mk (Array.toList_inj.mp e)
    rw [e2]
def toks (r : RowK) : List (Int ⊕ List Nat) := r.map item
def rowLt (a b : RowK) : Bool := PyProof.Rows.lexLt PyProof.Rows.itemOrd (toks a) (toks b)
def isStrK : Key → Bool
  | .inl _ => false
  | .inr _ => true
def keyD : Key → PyData
  | .inl i => .int i
  | .inr s => .str s
def pairD (k : Key) : PyData := .tuple [.bool (isStrK k), keyD k]
def rowD (r : RowK) : PyData := .tuple (r.map pairD)
def tokP : PyData → Int ⊕ List Nat
  | .tuple [_, .int i] => .inl i
  | .tuple [_, .str s] => .inr s.cps.toList
  | _ => .inl 0
def tokD : PyData → List (Int ⊕ List Nat)
  | .tuple ps => ps.map tokP
  | _ => []
theorem tokP_pair (k : Key) : tokP (pairD k) = item k := by cases k <;> rfl
theorem tokD_row (r : RowK) : tokD (rowD r) = toks r := by
  show (r.map pairD).map tokP = r.map item
  rw [List.map_map]
  exact List.map_congr_left fun k _ => tokP_pair k
theorem eqv_key (x y : Key) : PyData.eqv (keyD x) (keyD y) = decide (x = y) := by
  cases x <;> cases y <;> simp [keyD, PyData.eqv]
  · rename_i a b
    exact Bool.eq_iff_iff.mpr (by simp)
  · rename_i a b
    exact Bool.eq_iff_iff.mpr (by simp)
theorem eqv_pair (x y : Key) : PyData.eqv (pairD x) (pairD y) = decide (x = y) := by
  have h := eqv_key x y
  unfold pairD
  simp only [PyData.eqv, PyData.eqvAll, h, Bool.and_true]
  cases x <;> cases y <;> simp [isStrK]
theorem ok_pair {x y : Key} (h : x ≠ y) : SK.okLt (pairD x) (pairD y) = true := by
  have hk := eqv_key x y
  rw [decide_eq_false h] at hk
  cases x <;> cases y <;> simp [pairD, SK.okLt, SK.okAll, isStrK, PyData.eqv] <;> first | trivial | (rw [hk]; simp [keyD, SK.okLt])
theorem lt_pair {x y : Key} (h : x ≠ y) : SK.ltD (pairD x) (pairD y) = PyProof.Rows.itemLt (item x) (item y) := by
  have hk := eqv_key x y
  rw [decide_eq_false h] at hk
  cases x <;> cases y <;> simp [pairD, SK.ltD, SK.ltAll, isStrK, PyData.eqv]
  · rw [hk]
    simp [keyD, SK.ltD, item, PyProof.Rows.itemLt]
  · simp only [item, PyProof.Rows.itemLt]
    decide
  · simp only [item, PyProof.Rows.itemLt]
    decide
  · rw [hk]
    simp [keyD, SK.ltD, item, PyProof.Rows.itemLt, PyProof.Rows.strKind]
theorem item_total {x y : Key} (h : x ≠ y) : PyProof.Rows.itemLt (item y) (item x) = !PyProof.Rows.itemLt (item x) (item y) := by
  have a : PyProof.Rows.itemLt (item x) (item y) = false → PyProof.Rows.itemLt (item y) (item x) = false → item x = item y := PyProof.Rows.itemOrd.total _ _
  have b : PyProof.Rows.itemLt (item x) (item y) = true → PyProof.Rows.itemLt (item y) (item x) = true → False := fun h1 h2 => by
    have h3 := PyProof.Rows.itemOrd.trans _ _ _ h1 h2
    rw [PyProof.Rows.itemOrd.irrefl] at h3
    cases h3
  cases h1 : PyProof.Rows.itemLt (item x) (item y) <;> cases h2 : PyProof.Rows.itemLt (item y) (item x)
  · exact absurd (item_inj (a h1 h2)) h
  · rfl
  · rfl
  · exact (b h1 h2).elim
theorem rowLt_cons (x y : Key) (r t : RowK) : rowLt (x :: r) (y :: t) = if x = y then rowLt r t else PyProof.Rows.itemLt (item x) (item y) := by
  show (PyProof.Rows.itemLt (item x) (item y) || (!PyProof.Rows.itemLt (item y) (item x) && rowLt r t)) = _
  by_cases h : x = y
  · subst h
    rw [if_pos rfl, show PyProof.Rows.itemLt (item x) (item x) = false from PyProof.Rows.itemOrd.irrefl _]
    simp
  · rw [if_neg h, item_total h]
    cases PyProof.Rows.itemLt (item x) (item y) <;> simp
theorem ok_rows : ∀ a b : RowK, SK.okAll (a.map pairD) (b.map pairD) = true
  | [], _ => by cases ‹RowK› <;> simp [SK.okAll]
  | _ :: _, [] => by simp [SK.okAll]
  | x :: r, y :: t => by
    simp only [List.map_cons, SK.okAll, eqv_pair]
    by_cases h : x = y
    · rw [decide_eq_true h, if_pos rfl]
      exact ok_rows r t
    · rw [decide_eq_false h, if_neg (by decide)]
      exact ok_pair h
theorem lt_rows : ∀ a b : RowK, SK.ltAll (a.map pairD) (b.map pairD) = rowLt a b
  | [], [] => by simp [SK.ltAll, rowLt, toks, PyProof.Rows.lexLt]
  | [], _ :: _ => by simp [SK.ltAll, rowLt, toks, PyProof.Rows.lexLt]
  | _ :: _, [] => by simp [SK.ltAll, rowLt, toks, PyProof.Rows.lexLt]
  | x :: r, y :: t => by
    rw [rowLt_cons]
    simp only [List.map_cons, SK.ltAll, eqv_pair]
    by_cases h : x = y
    · rw [decide_eq_true h, if_pos rfl, if_pos h]
      exact lt_rows r t
    · rw [decide_eq_false h, if_neg (by decide), if_neg h]
      exact lt_pair h
theorem toks_inj : ∀ {a b : RowK}, toks a = toks b → a = b
  | [], [], _ => rfl
  | [], _ :: _, h => by cases h
  | _ :: _, [], h => by cases h
  | x :: r, y :: t, h => by
    have h1 : item x = item y := (List.cons.inj h).1
    have h2 : toks r = toks t := (List.cons.inj h).2
    rw [item_inj h1, toks_inj h2]
theorem rowLt_total {a b : RowK} (h1 : rowLt a b = false) (h2 : rowLt b a = false) : a = b := toks_inj ((PyProof.Rows.listOrd PyProof.Rows.itemOrd).total _ _ h1 h2)
theorem rowLt_trans {a b c : RowK} (h1 : rowLt a b = true) (h2 : rowLt b c = true) : rowLt a c = true := (PyProof.Rows.listOrd PyProof.Rows.itemOrd).trans _ _ _ h1 h2
theorem rowLt_irrefl (a : RowK) : rowLt a a = false := (PyProof.Rows.listOrd PyProof.Rows.itemOrd).irrefl _
theorem rowLt_neg {a b c : RowK} (h : rowLt a c = true) : rowLt a b = true ∨ rowLt b c = true := (PyProof.Rows.listOrd PyProof.Rows.itemOrd).negTrans _ _ _ h
/-- what may stand in a row: an int, a text of true code points -/
def KOk : Key → Prop
  | .inl _ => True
  | .inr s => PyData.strOk s = true
theorem lay_pair {k : Key} (h : KOk k) : (pairD k).canLay0 = true := by
  cases k with
  | inl i => simp [pairD, keyD, PyData.canLay0, PyData.canLayAll0]
  | inr s =>
    have h' : PyData.strOk s = true := h
    simp [pairD, keyD, PyData.canLay0, PyData.canLayAll0, h']
theorem lay_pairs : ∀ {r : RowK}, (∀ k ∈ r, KOk k) → PyData.canLayAll0 (r.map pairD) = true
  | [], _ => by simp [PyData.canLayAll0]
  | k :: r, h => by
    simp only [List.map_cons, PyData.canLayAll0, lay_pair (h k List.mem_cons_self), lay_pairs fun x hx => h x (List.mem_cons_of_mem _ hx), Bool.and_self]
theorem depth_pair (k : Key) : (pairD k).depth = 1 := by cases k <;> simp [pairD, keyD, PyData.depth, PyData.depthAll]
theorem depth_pairs : ∀ r : RowK, PyData.depthAll (r.map pairD) ≤ 1
  | [] => by simp [PyData.depthAll]
  | k :: r => by
    simp only [List.map_cons, PyData.depthAll, depth_pair]
    have := depth_pairs r
    omega
theorem rowD_depth (r : RowK) : (rowD r).depth ≤ 2 := by
  show PyData.depthAll (r.map pairD) + 1 ≤ 2
  have := depth_pairs r
  omega
theorem keys_rows (rs : List RowK) (h : ∀ r ∈ rs, ∀ k ∈ r, KOk k) : SK.Keys (rs.map rowD) tokD where
  lay d hd := by
    obtain ⟨r, hr, rfl⟩ := List.mem_map.mp hd
    show PyData.canLay0 (.tuple (r.map pairD)) = true
    simp only [PyData.canLay0]
    exact lay_pairs (h r hr)
  tup d hd := by
    obtain ⟨r, hr, rfl⟩ := List.mem_map.mp hd
    exact ⟨_, rfl⟩
  ok d hd d' hd' := by
    obtain ⟨r, hr, rfl⟩ := List.mem_map.mp hd
    obtain ⟨t, ht, rfl⟩ := List.mem_map.mp hd'
    show SK.okLt (.tuple (r.map pairD)) (.tuple (t.map pairD)) = true
    simp only [SK.okLt]
    exact ok_rows r t
  lt d hd d' hd' := by
    obtain ⟨r, hr, rfl⟩ := List.mem_map.mp hd
    obtain ⟨t, ht, rfl⟩ := List.mem_map.mp hd'
    rw [tokD_row, tokD_row]
    show SK.ltD (.tuple (r.map pairD)) (.tuple (t.map pairD)) = rowLt r t
    simp only [SK.ltD]
    exact lt_rows r t
  ty x r y t hx hy := by
    obtain ⟨a, ha, ea⟩ := List.mem_map.mp hx
    obtain ⟨b, hb, eb⟩ := List.mem_map.mp hy
    have first : ∀ (a : RowK) x r, rowD a = .tuple (x :: r) → ∃ ps, x = .tuple ps := fun a x r e => by
      cases a with
      | nil => cases e
      | cons k a =>
        have e' : PyData.tuple (pairD k :: a.map pairD) = .tuple (x :: r) := e
        injection e' with e'
        exact ⟨_, (List.cons.inj e').1.symm⟩
    obtain ⟨p1, rfl⟩ := first a x r ea
    obtain ⟨p2, rfl⟩ := first b y t eb
    rfl
/-! ### rows in the heap -/
/-- p is the tuple r -/
abbrev RowAt (H : Hp) (p : Addr) (r : RowK) : Prop := H p = some (.tup (r.map kV))
abbrev RowsAt (H : Hp) (L : List (Addr × RowK)) : Prop := ∀ b ∈ L, RowAt H b.1 b.2
theorem RowsAt.same {H H' : Hp} {L : List (Addr × RowK)} (h : RowsAt H L) (s : ∀ b o, H b = some o → H' b = some o) : RowsAt H' L := fun b hb => s _ _ (h b hb)
theorem snoc_ind {α : Type} {P : List α → Prop} (h0 : P []) (h1 : ∀ l a, P l → P (l ++ [a])) : ∀ l, P l := by
  intro l
  rw [← List.reverse_reverse l]
  induction l.reverse with
  | nil => exact h0
  | cons a t ih =>
    rw [List.reverse_cons]
    exact h1 _ _ ih
/-- the different rows, in the order of their first places -/
def add1 (acc : List RowK) (r : RowK) : List RowK := if (acc.any fun k => decide (k = r)) = true then acc else acc ++ [r]
def uniq (rs : List RowK) : List RowK := rs.foldl add1 []
theorem any_mem {acc : List RowK} {r : RowK} : (acc.any fun k => decide (k = r)) = true ↔ r ∈ acc := by
  rw [List.any_eq_true]
  constructor
  · rintro ⟨x, hx, e⟩
    rw [← of_decide_eq_true e]
    exact hx
  · exact fun h => ⟨r, h, decide_eq_true rfl⟩
theorem putK_uniq (ks : List RowK) (r : RowK) : (putK (ks.map fun k => (k, V.bl true)) r (.bl true)) = (add1 ks r).map fun k => (k, V.bl true) := by
  unfold putK add1
  have e : ((ks.map fun k => (k, V.bl true)).any fun kv => decide (kv.1 = r)) = (ks.any fun k => decide (k = r)) := by rw [List.any_map]; rfl
  rw [e]
  split
  · rw [List.map_map]
    exact List.map_congr_left fun k _ => by
      by_cases q : k = r
      · simp [q]
      · simp [q]
  · rw [List.map_append]
    rfl
theorem uniq_snoc (rs : List RowK) (r : RowK) : uniq (rs ++ [r]) = add1 (uniq rs) r := by
  unfold uniq
  rw [List.foldl_append]
  rfl
theorem uniq_all : ∀ rs : List RowK, (uniq rs).Nodup ∧ ∀ r, r ∈ uniq rs ↔ r ∈ rs := snoc_ind ⟨List.nodup_nil, fun r => Iff.rfl⟩ fun l a ih => by
  obtain ⟨h1, h2⟩ := ih
  rw [uniq_snoc]
  unfold add1
  by_cases h : ((uniq l).any fun k => decide (k = a)) = true
  · rw [if_pos h]
    refine ⟨h1, fun r => ?_⟩
    rw [h2, List.mem_append, List.mem_singleton]
    exact ⟨.inl, fun q => q.elim id fun e => by rw [e, ← h2]; exact any_mem.mp h⟩
  · rw [if_neg h]
    have h' : ¬ a ∈ uniq l := fun q => h (any_mem.mpr q)
    refine ⟨List.nodup_append.mpr ⟨h1, List.nodup_cons.mpr ⟨by simp, List.nodup_nil⟩, fun x hx y hy e => ?_⟩, fun r => ?_⟩
    · rw [List.mem_singleton.mp hy] at e
      exact h' (e ▸ hx)
    · rw [List.mem_append, List.mem_append, h2]
theorem uniq_len : ∀ rs : List RowK, (uniq rs).length ≤ rs.length := snoc_ind (Nat.le_refl _) fun l a ih => by
  rw [uniq_snoc, List.length_append]
  unfold add1
  split
  · exact Nat.le_succ_of_le ih
  · rw [List.length_append]
    exact Nat.add_le_add_right ih 1
/-- the rows sorted: each once, each before the next -/
structure SortedRows (L : List (Addr × RowK)) (rs : List RowK) : Prop where
  all : ∀ r, r ∈ L.map (·.2) ↔ r ∈ rs
  up : L.Pairwise fun a b => rowLt a.2 b.2 = true
  len : L.length ≤ rs.length
section
variable {P : Program} {w : World} {K : PySem.W.Frag} {mg : Str → Option Value} {base : Heap} {a : Nat → Addr} {d : Nat → FuncData}
/-! ### row_key, sorted_rows -/
def spRK : Sp := fun vs H Q _ => ∃ (p : Addr) (r : RowK), vs = [.ref p] ∧ RowAt H p r ∧ r.length ≤ 100 ∧ ∀ (K : PySem.W.Frag) (v : V) (H' : Hp), (∀ K : PySem.W.Frag, Dp K H' v (rowD r)) → Same H H' → Q v H'
theorem kb_int_str : kitB "int" "str" = some false := by decide +kernel
theorem kb_str_str : kitB "str" "str" = some true := by decide +kernel
theorem dp_pairs {K : PySem.W.Frag} {H : Hp} : ∀ {ps : List Addr} {r : RowK}, Paired (fun p k => H p = some (.tup [V.bl (isStrK k), kV k])) ps r → DpAll K H (ps.map V.ref) (r.map pairD)
  | _, _, .nil => .nil
  | _, _, .cons (b := k) h t => .cons (.tup (.of h) (.cons (.bl _) (.cons (by cases k <;> first | exact .int _ | exact .str _) .nil))) (dp_pairs t)
theorem ok_row_key (T : Txt K mg a d) : FnOk P w K mg base CX0 1 (a 18) (d 18) ["row"] spRK := by
  refine T.F18.ok sc_row_key (fun vs H Q E h => ?_) (fun cdv A outer s H vs Q E hr h => ?_)
  · obtain ⟨p, r, rfl, _⟩ := h
    rfl
  · obtain ⟨p, r, rfl, hp, hl, q⟩ := h
    refine ⟨_, (pss_one (ps_ret (pe_callTy (T := "tuple")  call_tuple_of (by rfl) T.z_tuple (by decide +kernel) (pa_cons (pe_lc (own := [("part", 1)]) rfl sc_row_key.nd (pi_tup (pv 0)) (blkOk_by (N := ["row", "part"]) (sc := defScope s_row_key) (by decide +kernel)) (fun _ _ _ _ _ => pg_name (i := 1) sc_row_key.nd rfl (.inl rfl)) (fun _ _ _ _ _ => pts_nil) (fun _ _ _ _ _ => (pe_tup (pa_cons (pe_callB (id := "isinstance") (r := rIsi K)  call_isi (by rfl) T.z_isinstance (by decide +kernel) (pa_cons (pv 1) (pa_cons (pe_bltn (v := .ty "str") (by rfl) T.z_str (by decide +kernel) rfl) pa_nil))) (pa_cons (pv 1) pa_nil))))) pa_nil)))), ?_⟩
    refine ⟨_, rfl, p, rfl, ⟨_, .of hp⟩, fun D hD => ?_⟩
    refine lc_tup (K := K) (a := p) (xs := r.map kV) (fun i H' => ∃ ps : List Addr, H' D = some (.lst (ps.map V.ref)) ∧ Same H H' ∧ Paired (fun p k => H' p = some (.tup [V.bl (isStrK k), kV k])) ps (r.take i)) ⟨[], upd_same, same_upd hD, by rw [List.take_zero]; exact .nil⟩ (fun i H' _ hp' => ?_) (fun i x H' hx hp' => ?_) (fun H' hp' => ?_)
    · obtain ⟨ps, _, sm, _⟩ := hp'
      exact .of (sm _ _ hp)
    · obtain ⟨ps, e1, sm, e2⟩ := hp'
      obtain ⟨k, hk, rfl⟩ := map_at hx
      have li : i < r.length := (List.getElem?_eq_some_iff.mp hk).1
      have lp : ps.length = (r.take i).length := Paired.length e2
      rw [List.length_take] at lp
      refine ⟨rfl, ?_⟩
      have isi : ∃ n, TyX K H' (kV k) (.type n) ∧ kitB n "str" = some (isStrK k) := by
        cases k with
        | inl i => exact ⟨_, .base (.int _), kb_int_str⟩
        | inr s => exact ⟨_, .base (.str _), kb_str_str⟩
      obtain ⟨n, ht, hb⟩ := isi
      refine ⟨_, rfl, _, _, _, _, _, rfl, .ty _, ht, kit_ty hb, _, rfl, by show 2 ≤ sizeLine; decide, fun c hc => ⟨ps.map V.ref, ?_, ?_, ps ++ [c], ?_, ?_, ?_⟩⟩
      · exact (same_upd hc) D _ e1
      · rw [List.length_map]
        exact small1000 (by omega)
      · rw [List.map_append]
        exact upd_same
      · exact fun b o e => by
          rw [upd_ne (ne_of_none e hD)]
          exact same_upd hc _ _ (sm b o e)
      · rw [List.take_add_one, hk]
        have cD : c ≠ D := fun z => by
          rw [z, e1] at hc
          cases hc
        have old : ∀ b xs, H' b = some (.tup xs) → (upd (upd H' c (.tup [V.bl (isStrK k), kV k])) D (.lst (ps.map V.ref ++ [.ref c]))) b = some (.tup xs) := fun b xs e => by
          rw [upd_ne (ne_of e e1 (by intro z; cases z)), upd_ne (ne_of_none e hc)]
          exact e
        refine paired_snoc (L2.Paired.mapP e2 fun _ _ e => old _ _ e) ?_
        rw [upd_ne cD]
        exact upd_same
    · obtain ⟨ps, e1, sm, e2⟩ := hp'
      rw [List.length_map, List.take_length] at e2
      refine ⟨D, _, rfl, .inl ⟨.of e1, fun t ht => ?_⟩⟩
      exact q K _ _ (fun K => .tup (.of upd_same) (dp_pairs (L2.Paired.mapP e2 fun _ _ e => same_upd ht _ _ e))) (sm.trans (same_upd ht))
def spSR (K : PySem.W.Frag) : Sp := fun vs H Q _ => ∃ (l : Addr) (L : List (Addr × RowK)), vs = [.ref l] ∧ SqL K H l (L.map fun b => V.ref b.1) ∧ RowsAt H L ∧ (∀ b ∈ L, (∀ k ∈ b.2, KOk k) ∧ b.2.length ≤ 100) ∧ L.length ≤ 10000 ∧
  ∀ (q : Addr) (H' : Hp) (L' : List (Addr × RowK)), H q = none → Same H H' → H' q = some (.lst (L'.map fun b => V.ref b.1)) → RowsAt H' L' → SortedRows L' (L.map (·.2)) → Q (.ref q) H'
theorem keys_zip {H : Hp} : ∀ {us : List RowK} {bs : List Addr}, Paired (fun (p : RowK × V) b => H b = some (.tup (p.1.map kV))) (us.map fun k => (k, V.bl true)) bs → ∃ L : List (Addr × RowK), L.map (·.1) = bs ∧ L.map (·.2) = us ∧ RowsAt H L
  | [], _, .nil => ⟨[], rfl, rfl, fun b hb => by cases hb⟩
  | u :: us, _, .cons (b := b) h t => by
    obtain ⟨L, e1, e2, e3⟩ := keys_zip t
    refine ⟨(b, u) :: L, by rw [List.map_cons, e1], by rw [List.map_cons, e2], fun x hx => ?_⟩
    rcases List.mem_cons.mp hx with rfl | hx
    · exact h
    · exact e3 x hx
theorem byKey_rows (L : List (Addr × RowK)) (hn : (L.map (·.2)).Nodup) : ∃ L' : List (Addr × RowK), SK.byKey tokD (L.map fun b => V.ref b.1) (L.map fun b => rowD b.2) = L'.map (fun b => V.ref b.1) ∧ L'.Perm L ∧ L'.Pairwise fun a b => rowLt a.2 b.2 = true := by
  refine ⟨L.mergeSort fun a b => !rowLt b.2 a.2, ?_, List.mergeSort_perm _ _, ?_⟩
  · unfold SK.byKey
    rw [List.zip_map', ← List.map_mergeSort (r := fun a b : Addr × RowK => !rowLt b.2 a.2) (f := fun b : Addr × RowK => ((V.ref b.1, rowD b.2) : V × PyData)), List.map_map]
    · rfl
    · intro a _ b _
      show _ = (!(PyProof.Rows.listOrd PyProof.Rows.itemOrd).blt (tokD (rowD b.2)) (tokD (rowD a.2)))
      rw [tokD_row, tokD_row]
      rfl
  · have h1 := List.pairwise_mergeSort (le := fun a b : Addr × RowK => !rowLt b.2 a.2) (fun a b c x y => ?_) (fun a b => ?_) L
    · have h2 : ((L.mergeSort fun a b => !rowLt b.2 a.2).map (·.2)).Nodup := ((List.mergeSort_perm L _).map _).nodup_iff.mpr hn
      refine (h1.and (List.pairwise_map.mp h2)).imp fun {a b} hab => ?_
      cases h3 : rowLt a.2 b.2 with
      | true => rfl
      | false => exact absurd (rowLt_total h3 (by simpa using hab.1)) hab.2
    · simp only [Bool.not_eq_true'] at x y ⊢
      cases h3 : rowLt c.2 a.2 with
      | false => rfl
      | true => rcases rowLt_neg (b := b.2) h3 with h | h
                · rw [y] at h
                  cases h
                · rw [x] at h
                  cases h
    · cases h3 : rowLt b.2 a.2 with
      | false => rfl
      | true =>
        have h4 : rowLt a.2 b.2 = false := by
          cases h5 : rowLt a.2 b.2 with
          | false => rfl
          | true =>
            have := rowLt_trans h3 h5
            rw [rowLt_irrefl] at this
            cases this
        rw [h4]
        rfl
theorem ok_sorted_rows (T : Txt K mg a d) : FnOk P w K mg base CX0 4 (a 19) (d 19) ["rows"] (spSR K) := by
  have G18 : FnOk P w K mg base CX0 1 (a 18) (d 18) ["row"] spRK := ok_row_key T
  refine T.F19.ok sc_sorted_rows (fun vs H Q E h => ?_) (fun cdv A outer s H vs Q E hr h => ?_)
  · obtain ⟨l, L, rfl, _⟩ := h
    rfl
  · obtain ⟨l, L, rfl, hS, hR, hok, hlen, q⟩ := h
    refine ⟨_, (pss_cons (DcT.ps_setDcT (i := 1) (own := [("row", 2)]) (hu_of hr) rfl sc_sorted_rows.nd rfl rfl (DcT.sw_dict rfl rfl rfl (by decide +kernel)) (pi_list (pv 0)) (blkOk_by (N := ["rows", "different", "row"]) (sc := defScope s_sorted_rows) (by decide +kernel)) (fun _ _ _ _ _ => pg_name (i := 2) sc_sorted_rows.nd rfl (.inl rfl)) (fun _ _ _ _ _ => pts_nil) (fun _ _ _ _ _ => (pv 2)) (fun _ _ _ _ _ => pe_bl))
  (pss_one (ps_ret (pe_callBK (SK.cr_sortF G18 (hr.mono (by decide)) T.b18 rfl) (by rfl) T.z_sorted (by decide +kernel) (pa_cons (pe_callTy (call_list_dT rfl) (by rfl) T.z_list (by decide +kernel) (pa_cons (pv 1) pa_nil)) pa_nil) (pk_cons (pe_glob (v := .ref (a 18)) (by rfl) T.g18 rfl) pk_nil))))), ?_⟩
    refine ⟨_, rfl, l, rfl, ⟨_, hS⟩, fun D hD => ?_⟩
    refine DcT.dcT_list (K := K) (a := l) (xs := L.map fun b => V.ref b.1) (fun i H' => H' D = some (.dT ((uniq ((L.take i).map (·.2))).map fun k => (k, V.bl true))) ∧ Same H H') ⟨upd_same, same_upd hD⟩ (fun i H' _ hp => hp.2.seq hS) (fun i x H' hx hp => ?_) (fun H1 hp => ?_)
    · obtain ⟨b, hb, rfl⟩ := map_at hx
      have li : i < L.length := (List.getElem?_eq_some_iff.mp hb).1
      have hbm : b ∈ L := List.mem_of_getElem? hb
      refine ⟨rfl, _, rfl, _, b.2, b.1, rfl, hp.2 _ _ (hR b hbm), hp.1, ?_, ?_, fun c o e => ?_⟩
      · rw [List.length_map]
        have h1 := uniq_len ((L.take i).map (·.2))
        rw [List.length_map, List.length_take] at h1
        exact Nat.lt_of_le_of_lt (by omega : _ ≤ 10000) (by decide)
      · rw [putK_uniq, map_take hb, uniq_snoc]
        exact upd_same
      · rw [upd_ne (ne_of_none e hD)]
        exact hp.2 c o e
    · obtain ⟨e1, sm⟩ := hp
      rw [List.length_map, List.take_length] at e1
      refine ⟨_, rfl, D, _, rfl, .inl e1, fun p bs hp hk => ?_⟩
      obtain ⟨L0, b1, b2, b3⟩ := keys_zip hk
      obtain ⟨nd, mem⟩ := uniq_all (L.map (·.2))
      have sp := same_upd (o := .lst (bs.map V.ref)) hp
      have hok0 : ∀ b ∈ L0, (∀ k ∈ b.2, KOk k) ∧ b.2.length ≤ 100 := fun b hb => by
        have h1 : b.2 ∈ L.map (·.2) := (mem _).mp (by rw [← b2]; exact List.mem_map.mpr ⟨b, hb, rfl⟩)
        obtain ⟨c, hc, e⟩ := List.mem_map.mp h1
        rw [← e]
        exact hok c hc
      obtain ⟨L', r1, r2, r3⟩ := byKey_rows L0 (by rw [b2]; exact nd)
      have ebs : bs.map V.ref = L0.map fun b => V.ref b.1 := by rw [← b1, List.map_map]; rfl
      refine ⟨p, L0.map (fun b => V.ref b.1), L0.map (fun b => rowD b.2), tokD, rfl, rfl, .of (by rw [← ebs]; exact upd_same), by rw [List.length_map, List.length_map], ?_, fun d hd => ?_, fun i x k hx hk H2 s2 => ?_, fun q' H2 nq s2 e2 => ?_⟩
      · have h1 := keys_rows (L0.map (·.2)) fun r hr k hkr => by
          obtain ⟨b, hb, rfl⟩ := List.mem_map.mp hr
          exact (hok0 b hb).1 k hkr
        rw [List.map_map] at h1
        exact h1.g
      · obtain ⟨b, hb, rfl⟩ := List.mem_map.mp hd
        exact Nat.le_trans (rowD_depth _) (by decide)
      · obtain ⟨b, hb, rfl⟩ := map_at hx
        obtain ⟨b', hb', rfl⟩ := map_at hk
        obtain rfl : b = b' := Option.some.inj (hb.symm.trans hb')
        have hbm : b ∈ L0 := List.mem_of_getElem? hb
        exact ⟨b.1, b.2, rfl, s2 _ _ (sp _ _ (b3 b hbm)), (hok0 b hbm).2, fun K' v H3 dp s3 => ⟨dp K, s3⟩⟩
      · rw [r1] at e2
        refine q q' H2 L' (sm.free (sp.free nq)) ((sm.trans sp).trans s2) e2 (fun b hb => s2 _ _ (sp _ _ (b3 b (r2.mem_iff.mp hb)))) ⟨fun r => ?_, r3, ?_⟩
        · rw [(r2.map _).mem_iff, b2]
          exact mem r
        · rw [r2.length_eq, ← List.length_map (f := (·.2)), b2]
          exact uniq_len _
end
/-! ### rows as data -/
theorem item_kinds {x y : Key} (h : isStrK x ≠ isStrK y) : PyProof.Rows.itemLt (item x) (item y) = isStrK y := by
  cases x <;> cases y <;> first | exact absurd rfl h | rfl
theorem lay_key {k : Key} (h : KOk k) : (keyD k).canLay0 = true := by
  cases k with
  | inl i => simp [keyD, PyData.canLay0]
  | inr s =>
    have h' : PyData.strOk s = true := h
    simp [keyD, PyData.canLay0, h']
theorem key_shaped {k : Key} (h : KOk k) : SeqAt.shaped (keyD k) = true := by
  unfold SeqAt.shaped
  rw [lay_key h]
  cases k <;> simp [keyD, PyData.depth]
theorem dp_key {K : PySem.W.Frag} {H : Hp} (k : Key) : Dp K H (kV k) (keyD k) := by
  cases k
  · exact .int _
  · exact .str _
theorem eqv_nil (ds : List PyData) : PyData.eqv (.list ds) (.list []) = ds.isEmpty := by
  cases ds <;> simp [PyData.eqv, PyData.eqvAll]
/-- a row as data -/
def tupD (r : RowK) : PyData := .tuple (r.map keyD)
theorem eqvAll_keys : ∀ a b : RowK, PyData.eqvAll (a.map keyD) (b.map keyD) = decide (a = b)
  | [], [] => by simp [PyData.eqvAll]
  | [], _ :: _ => by simp [PyData.eqvAll]
  | _ :: _, [] => by simp [PyData.eqvAll]
  | x :: a, y :: b => by
    simp only [List.map_cons, PyData.eqvAll, eqv_key, eqvAll_keys a b]
    by_cases h1 : x = y <;> by_cases h2 : a = b <;> simp [h1, h2]
theorem eqv_tup (a b : RowK) : PyData.eqv (tupD a) (tupD b) = decide (a = b) := by
  show PyData.eqv (.tuple (a.map keyD)) (.tuple (b.map keyD)) = _
  simp only [PyData.eqv]
  exact eqvAll_keys a b
theorem dp_keys {K : PySem.W.Frag} {H : Hp} : ∀ r : RowK, DpAll K H (r.map kV) (r.map keyD)
  | [] => .nil
  | k :: r => .cons (dp_key k) (dp_keys r)
theorem dp_tup {K : PySem.W.Frag} {H : Hp} {p : Addr} {r : RowK} (h : RowAt H p r) : Dp K H (.ref p) (tupD r) := .tup (.of h) (dp_keys r)
theorem lay_keys : ∀ {r : RowK}, (∀ k ∈ r, KOk k) → PyData.canLayAll0 (r.map keyD) = true ∧ PyData.depthAll (r.map keyD) = 0
  | [], _ => by simp [PyData.canLayAll0, PyData.depthAll]
  | k :: r, h => by
    obtain ⟨h1, h2⟩ := lay_keys (r := r) fun x hx => h x (List.mem_cons_of_mem _ hx)
    simp only [List.map_cons, PyData.canLayAll0, PyData.depthAll, lay_key (h k List.mem_cons_self), h1, h2, Bool.and_self, true_and]
    cases k <;> simp [keyD, PyData.depth]
theorem tup_shaped {r : RowK} (h : ∀ k ∈ r, KOk k) : SeqAt.shaped (tupD r) = true := by
  obtain ⟨h1, h2⟩ := lay_keys h
  show ((PyData.tuple (r.map keyD)).canLay0 && decide ((PyData.tuple (r.map keyD)).depth ≤ 64)) = true
  simp only [PyData.canLay0, PyData.depth, h1, h2]
  decide
theorem lay_tups : ∀ {rs : List RowK}, (∀ r ∈ rs, ∀ k ∈ r, KOk k) → PyData.canLayAll0 (rs.map tupD) = true ∧ PyData.depthAll (rs.map tupD) ≤ 1
  | [], _ => by simp [PyData.canLayAll0, PyData.depthAll]
  | r :: rs, h => by
    obtain ⟨h1, h2⟩ := lay_tups (rs := rs) fun x hx => h x (List.mem_cons_of_mem _ hx)
    obtain ⟨h3, h4⟩ := lay_keys (h r List.mem_cons_self)
    simp only [List.map_cons, PyData.canLayAll0, PyData.depthAll, h1, Bool.and_true]
    refine ⟨?_, ?_⟩
    · show (PyData.tuple (r.map keyD)).canLay0 = true
      simp only [PyData.canLay0, h3]
    · have : (tupD r).depth = 1 := by
        show (PyData.tuple (r.map keyD)).depth = 1
        simp only [PyData.depth, h4]
      omega
theorem tups_shaped {rs : List RowK} (h : ∀ r ∈ rs, ∀ k ∈ r, KOk k) : SeqAt.shaped (.list (rs.map tupD)) = true := by
  obtain ⟨h1, h2⟩ := lay_tups h
  unfold SeqAt.shaped
  simp only [PyData.canLay0, PyData.depth, h1, Bool.true_and]
  exact decide_eq_true (by omega)
theorem dp_rows {K : PySem.W.Frag} {H : Hp} : ∀ {L : List (Addr × RowK)}, RowsAt H L → DpAll K H (L.map fun b => V.ref b.1) ((L.map (·.2)).map tupD)
  | [], _ => .nil
  | b :: L, h => .cons (dp_tup (h b List.mem_cons_self)) (dp_rows fun x hx => h x (List.mem_cons_of_mem _ hx))
theorem any_tup (rs : List RowK) (r : RowK) : ((rs.map tupD).any fun z => PyData.eqv z (tupD r)) = rs.any fun k => decide (k = r) := by
  rw [List.any_map]
  have e : ((fun z => PyData.eqv z (tupD r)) ∘ tupD) = fun k => decide (k = r) := funext fun k => eqv_tup k r
  rw [e]
theorem nd_sub {α : Type} [DecidableEq α] : ∀ {xs ys : List α}, xs.Nodup → (∀ x ∈ xs, x ∈ ys) → xs.length ≤ ys.length ∧ (ys.length ≤ xs.length → ∀ y ∈ ys, y ∈ xs)
  | [], ys, _, _ => ⟨Nat.zero_le _, fun h y hy => by
    have : ys = [] := List.length_eq_zero_iff.mp (Nat.le_zero.mp h)
    rw [this] at hy
    exact hy⟩
  | x :: xs, ys, nd, sub => by
    obtain ⟨n1, n2⟩ := List.nodup_cons.mp nd
    have hx := sub x List.mem_cons_self
    have hl := List.length_erase_of_mem hx
    have hpos : 0 < ys.length := List.length_pos_of_mem hx
    have ih := nd_sub (ys := ys.erase x) n2 fun z hz => (List.mem_erase_of_ne (fun e => n1 (by rw [← e]; exact hz))).mpr (sub z (List.mem_cons_of_mem _ hz))
    refine ⟨by rw [List.length_cons]; omega, fun h y hy => ?_⟩
    rw [List.length_cons] at h
    by_cases e : y = x
    · rw [e]
      exact List.mem_cons_self
    · exact List.mem_cons_of_mem _ (ih.2 (by omega) y ((List.mem_erase_of_ne e).mpr hy))
theorem same_mut {H H1 : Hp} {D : Addr} {o : HO} (s : Same H H1) (h : H D = none) : Same H (upd H1 D o) := fun b u e => by
  rw [upd_ne (ne_of_none e h)]
  exact s b u e
theorem sv_nd {H : Hp} {ts : List (Str × Int)} {ks : List KeyE} {ss : List SvE} {n : Nat} (h : Svcs H ts ks ss n) : ((svK ss).map (·.1)).Nodup := by
  rw [keys_sv]
  exact inr_nd h.nm.nd
theorem Tabs.up {ts : List (Str × Int)} {m : Nat} {w v : Int} (h : Tabs ts m w) (hv : w ≤ v) : Tabs ts m v := ⟨h.nm, fun p hp => ⟨(h.wd p hp).1, Int.le_trans (h.wd p hp).2 hv⟩⟩
theorem wd_b {s : Str} (h : Wd s) : wordB s = true := by
  unfold wordB
  rw [decide_eq_true (show 1 ≤ s.length ∧ s.length ≤ 8 from ⟨h.1, h.2.1⟩), Bool.true_and, List.all_eq_true]
  intro c hc
  unfold okC
  exact decide_eq_true (h.2.2 c hc)
theorem wd_thg {H : Hp} {s : Str} (h : Wd s) : Thg H (.str s) := .str s (by have := h.2.1; omega) fun c hc => by have := (h.2.2 c hc).2; omega
theorem capV_none' {cap : Option Int} (h : cap.isNone = true) : capV cap = .non := by
  cases cap with
  | none => rfl
  | some c => cases h
theorem all_bls (bs : List Bool) : (bs.all id) = bs.all fun b => b := rfl
def spIsWh : Sp := fun vs H Q _ => ∃ (v t k ga : Addr) (n : Str) (cs : List Int) (cap : Option Int) (w : Int) (ts : List (Str × Int)) (ks : List KeyE) (m : Nat), vs = [.ref v, .ref t, .ref k] ∧ Told H v n ga cs cap ∧ DctAt H t (tabK ts) ∧ DctAt H k (keyK ks) ∧ Tabs ts m 4 ∧ Keys H ts ks ∧ (n, w) ∈ ts ∧ cs.length ≤ 100 ∧
  ∀ H', Same H H' → Q (.bl (isWh w ks n cs cap)) H'
section
variable {P : Program} {w : World} {K : PySem.W.Frag} {mg : Str → Option Value} {base : Heap} {a : Nat → Addr} {d : Nat → FuncData}
theorem ok_is_wh (T : Txt K mg a d) : FnOk P w K mg base CX0 1 (a 36) (d 36) ["service", "tables", "keys"] spIsWh := by
  refine T.F36.ok sc__is_whole_service (fun vs H Q E h => ?_) (fun cdv A outer s H vs Q E hr h => ?_)
  · obtain ⟨v, t, k, ga, n, cs, cap, w, ts, ks, m, rfl, _⟩ := h
    rfl
  · obtain ⟨v, t, k, ga, n, cs, cap, w, ts, ks, m, rfl, hv, ht, hk, hT, hK, hm, hl, q⟩ := h
    have fin : ∀ b : Bool, b = isWh w ks n cs cap → ∀ H', Same H H' → Q (.bl b) H' := fun b e H' s => by
      rw [e]
      exact q H' s
    have g := ht.get (tab_nd hT) (Sum.inr n)
    rw [tab_val hT hm] at g
    have gk := fun (H' : Hp) (s : Same H H') => (hk.same s).get (key_nd hT hK) (Sum.inr n)
    rw [keyAt_val] at gk
    refine ⟨_, (pss_cons (ps_asg (pv 0) (pg_tup rfl (pgs_cons (pg_name (i := 3) sc__is_whole_service.nd rfl (.inl rfl)) (pgs_cons (pg_name (i := 4) sc__is_whole_service.nd rfl (.inr rfl)) (pgs_cons (pg_name (i := 5) sc__is_whole_service.nd rfl (.inl rfl)) pgs_nil)))))
  (pss_cons (ps_if (PW.pt (pw_or (pt_cmpR op_isN (pv 5) pe_non (nomark _)) (pw_or1 (pt_cmpR op_eq (pe_callB (id := "len")  call_len_seq (by rfl) T.z_len (by decide +kernel) (pa_cons (pv 4) pa_nil)) (pe_dget (hu_of hr) (pv 1) (pv 3) (fun _ _ => rfl)) (nomark _)))))
    (pss_one (ps_ret pe_bl))
    pss_nil)
  (pss_one (ps_ret (pe_and (pe_cmp (pc_din (hu_of hr) (pv 3) (pv 2)) rfl) (pe_one (pe_callB (id := "all")  (cr_all rfl) (by rfl) T.z_all (by decide +kernel) (pa_cons (pe_lc (own := [("column", 6)]) rfl sc__is_whole_service.nd (pi_tup (pe_dget (hu_of hr) (pv 2) (pv 3) (fun _ _ => rfl))) (blkOk_by (N := ["service", "tables", "keys", "table", "given", "cap", "column"]) (sc := defScope s__is_whole_service) (by decide +kernel)) (fun _ _ _ _ _ => pg_name (i := 6) sc__is_whole_service.nd rfl (.inl rfl)) (fun _ _ _ _ _ => pts_nil) (fun _ _ _ _ _ => (pe_cmpR (r := rIn K false) op_in_seq (pv 6) (pv 4) (by rfl)))) pa_nil)))))))), ?_⟩
    refine ⟨_, rfl, v, _, rfl, .of hv.tup, rfl, _, _, rfl, _, _, rfl, _, _, rfl, rfl, ?_⟩
    refine ⟨_, rfl, rfl, _, rfl, ?_⟩
    rw [capV_none]
    cases e1 : cap.isNone with
    | true => exact fin true (by unfold isWh; rw [e1]; rfl) H (fun _ _ e => e)
    | false =>
      refine ⟨_, rfl, _, _, rfl, .inr (.of hv.cols), _, rfl, _, rfl, t, _, rfl, g, rfl, _, rfl, ?_⟩
      rw [List.length_map]
      refine ite_eqI (fun e2 => ?_) (fun e2 => ?_)
      · exact fin true (by unfold isWh; rw [e1, decide_eq_true e2]; rfl) H (fun _ _ e => e)
      · refine ⟨_, rfl, _, rfl, k, _, rfl, gk H (Same.refl H), _, rfl, ?_⟩
        cases e3 : keyAt ks n with
        | none => exact fin false (by unfold isWh; rw [e1, decide_eq_false e2, e3]; rfl) H (fun _ _ e => e)
        | some b =>
          rw [e3] at gk
          obtain ⟨bm, bn⟩ := keyAt_mem e3
          have hb := hK.at_ b bm
          obtain ⟨w', hw', hcols', hl1, hl2⟩ := hK.ok b bm
          have hw2 := (hT.wd _ hw').2
          refine ⟨_, rfl, _, rfl, k, _, rfl, gk H (Same.refl H), b.2.1, rfl, ⟨_, .of hb⟩, fun D hD => ?_⟩
          refine lc_tup (K := K) (a := b.2.1) (xs := b.2.2.map V.int) (fun i H' => H' D = some (.lst (((b.2.2.take i).map fun c => decide (c ∈ cs)).map V.bl)) ∧ Same H H') ⟨upd_same, same_upd hD⟩ (fun i H' _ hp => .of (hp.2 _ _ hb)) (fun i x H' hx hp => ?_) (fun H' hp => ?_)
          · obtain ⟨h1, h2⟩ := hp
            obtain ⟨c, hcx, rfl⟩ := map_at hx
            have hi : i < b.2.2.length := (List.getElem?_eq_some_iff.mp hcx).1
            refine ⟨rfl, ?_⟩
            refine ⟨_, rfl, _, rfl, ga, _, rfl, .inr (.of (h2 _ _ hv.cols)), rfl, flat_ints _, _, h1, ?_, ?_, ?_⟩
            · rw [List.length_map, List.length_map, List.length_take]
              exact Nat.lt_of_le_of_lt (by omega : _ ≤ 100) (by decide)
            · rw [map_take hcx, List.map_append]
              refine Eq.trans upd_same ?_
              show some (HO.lst (_ ++ [V.bl (inV (.int c) (cs.map V.int))])) = _
              rw [inV_ints]
              rfl
            · intro x o ex
              rw [upd_ne (ne_of_none ex hD)]
              exact h2 x o ex
          · obtain ⟨h1, h2⟩ := hp
            rw [List.length_map, List.take_length] at h1
            refine ⟨D, _, rfl, .of h1, ?_⟩
            refine fin _ ?_ _ h2
            unfold isWh
            rw [e1, decide_eq_false e2, e3, List.all_map]
            rfl
end
theorem perm_map_ex {α β : Type} {f : α → β} {ys zs : List β} (h : ys.Perm zs) : ∀ xs : List α, zs = xs.map f → ∃ L : List α, L.Perm xs ∧ L.map f = ys := by
  induction h with
  | nil =>
    intro xs e
    cases xs with
    | nil => exact ⟨[], .refl _, rfl⟩
    | cons x xs => cases e
  | cons y p ih =>
    intro xs e
    cases xs with
    | nil => cases e
    | cons x xs =>
      rw [List.map_cons] at e
      injection e with e1 e2
      obtain ⟨L, h1, h2⟩ := ih xs e2
      exact ⟨x :: L, h1.cons x, by rw [List.map_cons, h2, e1]⟩
  | swap y z l =>
    intro xs e
    cases xs with
    | nil => cases e
    | cons x xs =>
      cases xs with
      | nil => cases e
      | cons x' xs =>
        rw [List.map_cons, List.map_cons] at e
        injection e with e1 e2
        injection e2 with e2 e3
        exact ⟨x' :: x :: xs, .swap _ _ _, by rw [List.map_cons, List.map_cons, e1, e2, e3]⟩
  | trans p q ih1 ih2 =>
    intro xs e
    obtain ⟨L, h1, h2⟩ := ih2 xs e
    obtain ⟨M, h3, h4⟩ := ih1 L h2.symm
    exact ⟨M, h3.trans h1, h4⟩
/-- what sorted(d) is asked and gives -/
theorem DctAt.names {α : Type} {H : Hp} {t : Addr} {xs : List α} {g : α → Key × V} {f : α → Str} (h : DctAt H t (xs.map g)) (hg : ∀ x, (g x).1 = Sum.inr (f x)) (hl : xs.length < 64) :
    ∃ ks zs, H t = some (.dK ks) ∧ ks.length = xs.length ∧ ks.map (·.1) = zs.map Sum.inr ∧ zs.length < 64 ∧ zs.Perm (xs.map f) ∧ ∀ ys : List Str, ys.Perm zs → ∃ L : List α, L.Perm xs ∧ L.map f = ys := by
  obtain ⟨ks, e, p⟩ := h
  obtain ⟨L, h1, h2⟩ := perm_map_ex p xs rfl
  refine ⟨ks, L.map f, e, ?_, ?_, ?_, h1.map f, fun ys hy => ?_⟩
  · rw [← h2, List.length_map, h1.length_eq]
  · rw [← h2, List.map_map, List.map_map]
    exact List.map_congr_left fun x _ => hg x
  · rw [List.length_map, h1.length_eq]
    exact hl
  · obtain ⟨M, h3, h4⟩ := perm_map_ex hy L rfl
    exact ⟨M, h3.trans h1, h4⟩
theorem key_val {H : Hp} {ts : List (Str × Int)} {ks : List KeyE} {m : Nat} {wm : Int} (hT : Tabs ts m wm) (h : Keys H ts ks) {b : KeyE} (hb : b ∈ ks) : valV (keyK ks) (Sum.inr b.1) = some (.ref b.2.1) :=
  val_nodup (kvs := keyK ks) (key_nd hT h) (Sum.inr b.1, V.ref b.2.1) (List.mem_map.mpr ⟨b, hb, rfl⟩)
theorem sv_val {H : Hp} {ts : List (Str × Int)} {ks : List KeyE} {ss : List SvE} {n : Nat} (h : Svcs H ts ks ss n) {b : SvE} (hb : b ∈ ss) : valV (svK ss) (Sum.inr b.name) = some (.ref b.at_) :=
  val_nodup (kvs := svK ss) (sv_nd h) (Sum.inr b.name, V.ref b.at_) (List.mem_map.mpr ⟨b, hb, rfl⟩)
theorem fillE_perm {ts : List (Str × Int)} {ks : List KeyE} {a b : List SvE} (p : a.Perm b) : (fillE ts ks a).Perm (fillE ts ks b) := (p.filter _).map _
theorem fillE_take {ts : List (Str × Int)} {ks : List KeyE} (L : List SvE) (i : Nat) : (fillE ts ks (L.take i)).Sublist (fillE ts ks L) := ((List.take_sublist i L).filter _).map _
theorem rising_pw : ∀ (l : List Str) (p : Str), PyProof.Rows.risingS p l = true → (p :: l).Pairwise fun a b => a.cps.toList ≤ b.cps.toList
  | [], p, _ => List.pairwise_singleton _ _
  | x :: r, p, h => by
    have h' : (!PySem.Spec.ltCps x.cps.toList p.cps.toList && PyProof.Rows.risingS x r) = true := h
    rw [Bool.and_eq_true] at h'
    obtain ⟨h1, h2⟩ := h'
    have ih := rising_pw r x h2
    have hpx : p.cps.toList ≤ x.cps.toList := by
      rw [PyProof.Rows.ltCps_eq] at h1
      have h3 : ¬ x.cps.toList < p.cps.toList := by simpa using h1
      exact h3
    refine List.pairwise_cons.mpr ⟨fun y hy => ?_, ih⟩
    rcases List.mem_cons.mp hy with rfl | hy
    · exact hpx
    · exact List.le_trans hpx ((List.pairwise_cons.mp ih).1 y hy)
theorem sorted_pw {l : List Str} (h : PyProof.Rows.sortedS l = true) : l.Pairwise fun a b => a.cps.toList ≤ b.cps.toList := by
  cases l with
  | nil => exact .nil
  | cons x r => exact rising_pw r x h
theorem sorted_uniq {a b : List Str} (p : a.Perm b) (ha : PyProof.Rows.sortedS a = true) (hb : PyProof.Rows.sortedS b = true) : a = b := by
  refine List.Perm.eq_of_pairwise (le := fun a b : Str => a.cps.toList ≤ b.cps.toList) (fun x y _ _ h1 h2 => ?_) (sorted_pw ha) (sorted_pw hb) p
  have e := List.le_antisymm h1 h2
  cases x
  cases y
  congr
  exact Array.toList_inj.mp e
theorem dc_list {K : PySem.W.Frag} {a : Addr} {xs : List V} {g : TG} {tt : TT} {tk tv : TE} {vs : List Nat} {σ : L2.St} {H1 : Hp} {D : Addr} {Qd : Hp → Prop} (Pv : Nat → Hp → Prop) (h0 : Pv 0 (upd H1 D (.dK []))) (hl : ∀ i H, i ≤ xs.length → Pv i H → SqL K H a xs)
    (hs : ∀ i x H, xs[i]? = some x → Pv i H → g x (wipe σ vs) H fun σ2 H2 => wipe σ2 vs = wipe σ vs ∧ tt σ2 H2 fun b H3 =>
      if b = true then tk σ2 H3 fun y H4 => tv σ2 H4 fun z H5 => ∃ kvs k, y = kV k ∧ H5 D = some (.dK kvs) ∧ kvs.length < sizeLine ∧ Pv (i + 1) (upd H5 D (.dK (putK kvs k z))) else Pv (i + 1) H3) (hd : ∀ H, Pv xs.length H → Qd H) :
    ∃ W : Nat → Nat → Hp → Prop, (∃ m, W 0 m (upd H1 D (.dK []))) ∧ ∀ i m H, W i m H →
      ((Itl K a).stop i H ∧ Qd H) ∨ ((Itl K a).go i H ∧ ∃ Nx : Hp → Prop, (∀ H', Nx H' → ∃ m', m' < m ∧ W (i + 1) m' H') ∧ ∀ x H', (Itl K a).yld i H x H' → g x (wipe σ vs) H' fun σ2 H2 => wipe σ2 vs = wipe σ vs ∧ tt σ2 H2 fun b H3 =>
        if b = true then tk σ2 H3 fun y H4 => tv σ2 H4 fun z H5 => ∃ kvs k, y = kV k ∧ H5 D = some (.dK kvs) ∧ kvs.length < sizeLine ∧ Nx (upd H5 D (.dK (putK kvs k z))) else Nx H3) := by
  refine ⟨fun i m H => m = xs.length - i ∧ i ≤ xs.length ∧ Pv i H, ⟨xs.length, by simp, Nat.zero_le _, h0⟩, ?_⟩
  rintro i m H ⟨rfl, hi, p⟩
  have q := hl i H hi p
  rcases Nat.lt_or_ge i xs.length with lt | ge
  · refine .inr ⟨⟨xs, xs[i], q, by simp [lt]⟩, Pv (i + 1), fun H' p' => ⟨xs.length - (i + 1), by omega, rfl, lt, p'⟩, fun x H' y => ?_⟩
    obtain ⟨e, y⟩ := y
    subst e
    exact hs i x _ (y xs q) p
  · obtain rfl : i = xs.length := by omega
    exact .inl ⟨⟨xs, q, Nat.le_refl _⟩, hd H p⟩
def spCopied : Sp := fun vs H Q _ => ∃ (t : Addr) (kvs : List (Key × V)) (names : List Str), vs = [.ref t] ∧ DctAt H t kvs ∧ kvs.map (·.1) = names.map Sum.inr ∧ names.Nodup ∧ names.length < 64 ∧ ∀ D H', H D = none → DctAt H' D kvs → Same H H' → Q (.ref D) H'
section
variable {P : Program} {w : World} {K : PySem.W.Frag} {mg : Str → Option Value} {base : Heap} {a : Nat → Addr} {d : Nat → FuncData}
theorem ok_copied (T : Txt K mg a d) : FnOk P w K mg base CX0 1 (a 41) (d 41) ["things"] spCopied := by
  refine T.F41.ok sc__copied (fun vs H Q E h => ?_) (fun cdv A outer s H vs Q E hr h => ?_)
  · obtain ⟨t, kvs, names, rfl, _⟩ := h
    rfl
  · obtain ⟨t, kvs, names, rfl, ht, hk, hnd, h64, q⟩ := h
    have nd : (kvs.map (·.1)).Nodup := by
      rw [hk]
      exact inr_nd hnd
    obtain ⟨kd, e, pk⟩ := id ht
    have pk' := pk.map (·.1)
    rw [hk] at pk'
    obtain ⟨zs, z1, z2⟩ := perm_map_ex pk' names rfl
    refine ⟨_, (pss_one (ps_ret (pe_dc (own := [("name", 1)]) rfl sc__copied.nd (pi_list (pe_callB (id := "sorted")  (call_sortedD rfl) (by rfl) T.z_sorted (by decide +kernel) (pa_cons (pv 0) pa_nil))) (blkOk_by (N := ["things", "name"]) (sc := defScope s__copied) (by decide +kernel)) (fun _ _ _ _ _ => pg_name (i := 1) sc__copied.nd rfl (.inl rfl)) (fun _ _ _ _ _ => pts_nil) (fun _ _ _ _ _ => (pv 1)) (fun _ _ _ _ _ => (pe_dget (hu_of hr) (pv 0) (pv 1) (fun _ _ => rfl)))))), ?_⟩
    refine ⟨_, rfl, t, kd, zs, rfl, .inl e, z2.symm, by rw [z1.length_eq]; exact h64, fun ys p yp _ hp => ⟨p, rfl, ?_⟩⟩
    have s0 := same_upd (o := .lst (ys.map V.str)) hp
    have yn : ys.Perm names := yp.trans z1
    have ynd : ys.Nodup := yn.nodup_iff.mpr hnd
    have yl : ys.length < 64 := by rw [yn.length_eq]; exact h64
    refine ⟨⟨_, .of upd_same⟩, fun D hD => ?_⟩
    have hD0 : H D = none := s0.free hD
    have npD : p ≠ D := ne_of_none upd_same hD
    have pairs : ∀ zs : List Str, zs.Perm names → (zs.map fun n => ((Sum.inr n : Key), (valV kvs (Sum.inr n)).getD .non)).Perm kvs := fun zs hz => by
      refine (hz.map _).trans (List.Perm.of_eq ?_)
      have e1 : (names.map fun n => ((Sum.inr n : Key), (valV kvs (Sum.inr n)).getD .non)) = (kvs.map (·.1)).map fun k => (k, (valV kvs k).getD .non) := by
        rw [hk, List.map_map]
        rfl
      rw [e1, List.map_map]
      refine Eq.trans (List.map_congr_left (g := id) fun x hx => ?_) (List.map_id _)
      show (x.1, (valV kvs x.1).getD .non) = x
      rw [val_nodup nd x hx]
      rfl
    refine dc_list (K := K) (a := p) (xs := ys.map V.str) (fun i H' => H' D = some (.dK ((ys.take i).map fun n => ((Sum.inr n : Key), (valV kvs (Sum.inr n)).getD .non))) ∧ Same (upd H p (.lst (ys.map V.str))) H') ⟨upd_same, same_upd hD⟩ (fun i H' _ hp => .of (hp.2 _ _ upd_same)) (fun i x H' hx hp => ?_) (fun H' hp => ?_)
    · obtain ⟨h1, h2⟩ := hp
      obtain ⟨n, hn, rfl⟩ := map_at hx
      have hmem : n ∈ names := yn.mem_iff.mp (List.mem_of_getElem? hn)
      have hv : ∃ v, valV kvs (Sum.inr n) = some v := by
        have : (Sum.inr n : Key) ∈ kvs.map (·.1) := by
          rw [hk]
          exact List.mem_map.mpr ⟨n, hmem, rfl⟩
        obtain ⟨x, hx, e⟩ := List.mem_map.mp this
        exact ⟨x.2, by rw [← e]; exact val_nodup nd x hx⟩
      obtain ⟨v, hv⟩ := hv
      refine ⟨rfl, _, rfl, _, rfl, _, rfl, t, v, rfl, (ht.same (s0.trans h2)).at_ nd hv, _, Sum.inr n, rfl, h1, ?_, ?_, ?_⟩
      · rw [List.length_map, List.length_take]
        exact small1000 (by omega)
      · rw [map_take hn, hv]
        refine Eq.trans upd_same (congrArg (fun x => some (HO.dK x)) ?_)
        rw [putK_new _ (valV_no ?_)]
        · rfl
        · rw [List.map_map]
          exact inr_no (nd_take ynd hn)
      · intro x o ex
        rw [upd_ne (ne_of_none ex hD)]
        exact h2 x o ex
    · obtain ⟨h1, h2⟩ := hp
      rw [List.length_map, List.take_length] at h1
      exact q D H' hD0 ⟨_, h1, pairs ys yn⟩ (s0.trans h2)
end
def fldsS (d1 d2 d3 : Addr) : List (Str × V) := putF "_services" (.ref d3) (putF "_keys" (.ref d2) (putF "_tables" (.ref d1) []))
theorem flds_t (d1 d2 d3 : Addr) : (fldsS d1 d2 d3).lookup ("_tables" : Str) = some (V.ref d1) := by
  unfold fldsS
  rw [lookup_putF, if_neg (by decide +kernel), lookup_putF, if_neg (by decide +kernel), lookup_putF, if_pos rfl]
theorem flds_k (d1 d2 d3 : Addr) : (fldsS d1 d2 d3).lookup ("_keys" : Str) = some (V.ref d2) := by
  unfold fldsS
  rw [lookup_putF, if_neg (by decide +kernel), lookup_putF, if_pos rfl]
theorem flds_s (d1 d2 d3 : Addr) : (fldsS d1 d2 d3).lookup ("_services" : Str) = some (V.ref d3) := by
  unfold fldsS
  rw [lookup_putF, if_pos rfl]
theorem flds_no (d1 d2 d3 : Addr) {m : Str} (h1 : ¬ m = "_services") (h2 : ¬ m = "_keys") (h3 : ¬ m = "_tables") : (fldsS d1 d2 d3).lookup m = none := by
  unfold fldsS
  rw [lookup_putF, if_neg h1, lookup_putF, if_neg h2, lookup_putF, if_neg h3]
  rfl
theorem DctAt.but {H H' : Hp} {t p : Addr} {kvs : List (Key × V)} {C dx : Addr} {fs : List (Str × V)} (h : DctAt H t kvs) (hp : H p = some (.ins C dx fs)) (s : ∀ b o, b ≠ p → H b = some o → H' b = some o) : DctAt H' t kvs := by
  obtain ⟨ks, e, q⟩ := h
  exact ⟨ks, s _ _ (ne_of e hp (by intro z; cases z)) e, q⟩
/-! ### dicts with the same pairs in any order -/
section
variable {P : Program} {w : World} {K : PySem.W.Frag} {mg : Str → Option Value} {base : Heap} {a : Nat → Addr} {d : Nat → FuncData}
/-! ### the small ones -/
def spCount : Sp := fun vs H Q _ => ∃ (i m : Int), vs = [.int i, .int m] ∧ ∀ H', Same H H' → Q (.bl (decide (1 ≤ i ∧ i ≤ m))) H'
theorem ok_count (T : Txt K mg a d) : FnOk P w K mg base CX0 2 (a 31) (d 31) ["thing", "most"] spCount := by
  have G13 : FnOk P w K mg base CX0 1 (a 13) (d 13) ["thing"] (spB plainV) := ok_plain T
  refine T.F31.ok sc__is_count (fun vs H Q E h => ?_) (fun cdv A outer s H vs Q E hr h => ?_)
  · obtain ⟨i, m, rfl, _⟩ := h
    rfl
  · obtain ⟨i, m, rfl, q⟩ := h
    refine ⟨_, (pss_one (ps_ret (pe_and (pe_call G13 (hr.mono (by decide)) (by rfl) T.g13 T.F13.kp T.b13 .nil pass0 (pa_cons (pv 0) pa_nil)) (pe_one (pe_chain op_le op_le pe_int (pv 0) (pv 1)))))), ?_⟩
    refine ⟨_, rfl, _, rfl, .int i, fun H1 s1 => ⟨_, rfl, ?_⟩⟩
    refine ⟨_, rfl, _, _, rfl, rfl, _, rfl, ite_d (fun h1 => ?_) (fun h1 => ?_)⟩
    · refine ⟨_, rfl, _, _, rfl, rfl, ?_⟩
      have := q H1 s1
      show Q (.bl (decide (i ≤ m))) H1
      by_cases h2 : i ≤ m
      · rw [decide_eq_true (show 1 ≤ i ∧ i ≤ m from ⟨h1, h2⟩)] at this
        rw [decide_eq_true h2]
        exact this
      · rw [decide_eq_false (fun z : 1 ≤ i ∧ i ≤ m => h2 z.2)] at this
        rw [decide_eq_false h2]
        exact this
    · have := q H1 s1
      rw [decide_eq_false (fun z : 1 ≤ i ∧ i ≤ m => h1 z.1)] at this
      exact this
def spNameIn : Sp := fun vs H Q _ => ∃ (n : Str) (t : Addr) (kvs : List (Key × V)), vs = [.str n, .ref t] ∧ DctAt H t kvs ∧ (kvs.map (·.1)).Nodup ∧ Q (.bl (valV kvs (Sum.inr n)).isSome) H
theorem ok_name_in (T : Txt K mg a d) : FnOk P w K mg base CX0 1 (a 32) (d 32) ["thing", "names"] spNameIn := by
  refine T.F32.ok sc__is_name_in (fun vs H Q E h => ?_) (fun cdv A outer s H vs Q E hr h => ?_)
  · obtain ⟨n, t, kvs, rfl, _⟩ := h
    rfl
  · obtain ⟨n, t, kvs, rfl, ht, nd, q⟩ := h
    refine ⟨_, (pss_one (ps_ret (pe_and (pe_callB (id := "isinstance")  call_isi (by rfl) T.z_isinstance (by decide +kernel) (pa_cons (pv 0) (pa_cons (pe_bltn (v := .ty "str") (by rfl) T.z_str (by decide +kernel) rfl) pa_nil))) (pe_one (pe_cmp (pc_din (hu_of hr) (pv 0) (pv 1)) rfl))))), ?_⟩
    refine ⟨_, rfl, _, _, _, _, _, rfl, .ty _, .base (.str n), kit_ty (show kitB "str" "str" = some true by decide +kernel), _, rfl, ?_⟩
    exact ⟨_, rfl, _, rfl, t, _, rfl, ht.get nd (Sum.inr n), q⟩
def spAreCols : Sp := fun vs H Q _ => ∃ (c : Addr) (cs : List Int) (w : Int), vs = [.ref c, .int w] ∧ H c = some (.tup (cs.map V.int)) ∧ Cols cs w ∧ cs.length ≤ 100 ∧ ∀ H', Same H H' → Q (.bl true) H'
theorem ok_are_columns (T : Txt K mg a d) : FnOk P w K mg base CX0 2 (a 33) (d 33) ["thing", "width"] spAreCols := by
  have G13 : FnOk P w K mg base CX0 1 (a 13) (d 13) ["thing"] (spB plainV) := ok_plain T
  refine T.F33.ok sc__are_columns (fun vs H Q E h => ?_) (fun cdv A outer s H vs Q E hr h => ?_)
  · obtain ⟨c, cs, w, rfl, _⟩ := h
    rfl
  · obtain ⟨c, cs, w, rfl, hc, hcs, hl, q⟩ := h
    refine ⟨_, (pss_cons (ps_if (pt_not (pt_val (pe_callB (id := "isinstance")  call_isi (by rfl) T.z_isinstance (by decide +kernel) (pa_cons (pv 0) (pa_cons (pe_bltn (v := .ty "tuple") (by rfl) T.z_tuple (by decide +kernel) rfl) pa_nil)))))
    (pss_one (ps_ret pe_bl))
    pss_nil)
  (pss_cons (ps_set (i := 2) sc__are_columns.nd rfl (.inl rfl) pe_int)
  (pss_cons (ps_for PassesOwn.never rfl (pi_tup (pv 0)) (pg_name (i := 3) sc__are_columns.nd rfl (.inl rfl))
    (pss_cons (ps_if (PW.pt (pw_or (pt_not (pt_val (pe_call G13 (hr.mono (by decide)) (by rfl) T.g13 T.F13.kp T.b13 .nil pass0 (pa_cons (pv 3) pa_nil)))) (pw_or1 (pt_not (pt_chain op_le op_lt (pv 2) (pv 3) (pv 1))))))
        (pss_one (ps_ret pe_bl))
        pss_nil)
      (pss_one (ps_set (i := 2) sc__are_columns.nd rfl (.inl rfl) (pe_op op_add (pv 3) pe_int)))))
  (pss_one (ps_ret pe_bl))))), ?_⟩
    refine ⟨_, rfl, _, _, _, _, _, rfl, .ty _, .base (.tup hc), kit_ty (show kitB "tuple" "tuple" = some true by decide +kernel), _, rfl, ?_⟩
    refine ⟨_, rfl, c, rfl, ⟨_, .of hc⟩, for_tup (K := K) (a := c) (xs := cs.map V.int) (fun i σ H' => ∃ (l : Int) (y3 : Option V), σ = [some (.ref c), some (.int w), some (.int l), y3] ∧ Same H H' ∧ (∀ j x, i ≤ j → cs[j]? = some x → l ≤ x)) ⟨0, none, rfl, Same.refl H, fun j x _ e => (hcs.2 x (List.mem_of_getElem? e)).1⟩ (fun i σ H' _ hp => ?_) (fun i y σ H' hy hp => ?_) (fun σ H' hp => ?_)⟩
    · obtain ⟨l, y3, rfl, s1, _⟩ := hp
      exact .of (s1 _ _ hc)
    · obtain ⟨l, y3, rfl, s1, hlow⟩ := hp
      obtain ⟨x, hx, rfl⟩ := map_at hy
      have hb := hcs.2 x (List.mem_of_getElem? hx)
      have h1 := hlow i x (Nat.le_refl _) hx
      refine ⟨_, rfl, _, rfl, .int x, fun H1 s2 => ⟨_, rfl, ?_⟩⟩
      refine ⟨_, rfl, _, rfl, _, _, rfl, rfl, _, rfl, ite_d (fun _ => ?_) (fun z => absurd h1 z)⟩
      refine ⟨_, rfl, _, _, rfl, rfl, _, rfl, ?_⟩
      rw [decide_eq_true hb.2]
      refine ⟨_, rfl, _, _, rfl, rfl, _, _, rfl, s1.trans s2, fun j z hj e => ?_⟩
      have hij : i < j := hj
      obtain ⟨hi', ei⟩ := List.getElem?_eq_some_iff.mp hx
      obtain ⟨hj', ej⟩ := List.getElem?_eq_some_iff.mp e
      have := List.pairwise_iff_getElem.mp hcs.1 i j hi' hj' hij
      rw [ei, ej] at this
      omega
    · obtain ⟨l, y3, rfl, s1, _⟩ := hp
      exact q H' s1
/-! ### keys and services that are right -/
def spIsKey : Sp := fun vs H Q _ => ∃ (c : Addr) (cs : List Int) (w : Int), vs = [.ref c, .int w] ∧ H c = some (.tup (cs.map V.int)) ∧ Cols cs w ∧ cs.length ≤ 100 ∧ 1 ≤ cs.length ∧ (cs.length : Int) < w ∧ ∀ H', Same H H' → Q (.bl true) H'
theorem ok_is_key (T : Txt K mg a d) : FnOk P w K mg base CX0 3 (a 34) (d 34) ["thing", "width"] spIsKey := by
  have G33 : FnOk P w K mg base CX0 2 (a 33) (d 33) ["thing", "width"] spAreCols := ok_are_columns T
  refine T.F34.ok sc__is_key (fun vs H Q E h => ?_) (fun cdv A outer s H vs Q E hr h => ?_)
  · obtain ⟨c, cs, w, rfl, _⟩ := h
    rfl
  · obtain ⟨c, cs, w, rfl, hc, hcs, hl, h1, h2, q⟩ := h
    refine ⟨_, (pss_one (ps_ret (pe_and (pe_call G33 (hr.mono (by decide)) (by rfl) T.g33 T.F33.kp T.b33 .nil pass0 (pa_cons (pv 0) (pa_cons (pv 1) pa_nil))) (pe_one (pe_chain op_lt op_lt pe_int (pe_callB (id := "len")  call_len_seq (by rfl) T.z_len (by decide +kernel) (pa_cons (pv 0) pa_nil)) (pv 1)))))), ?_⟩
    refine ⟨_, rfl, _, rfl, c, cs, w, rfl, hc, hcs, hl, fun H1 s1 => ⟨_, rfl, ?_⟩⟩
    have lc : ((cs.map V.int).length : Int) = cs.length := by rw [List.length_map]
    refine ⟨_, rfl, _, _, rfl, .inr (.of (s1 _ _ hc)), _, _, rfl, rfl, _, rfl, ite_d (fun _ => ?_) (fun z => absurd (by omega) z)⟩
    refine ⟨_, rfl, _, _, rfl, rfl, ?_⟩
    show Q (.bl (decide (((cs.map V.int).length : Int) < w))) H1
    rw [lc, decide_eq_true h2]
    exact q H1 s1
def spIsSvc : Sp := fun vs H Q _ => ∃ (v t ga : Addr) (n : Str) (cs : List Int) (cap : Option Int) (w : Int) (ts : List (Str × Int)) (m : Nat), vs = [.ref v, .ref t] ∧ Told H v n ga cs cap ∧ DctAt H t (tabK ts) ∧ Tabs ts m 4 ∧ (n, w) ∈ ts ∧ Cols cs w ∧ cs.length ≤ 4 ∧ (∀ z, cap = some z → 1 ≤ z ∧ z ≤ 4) ∧ ∀ H', Same H H' → Q (.bl true) H'
theorem ok_is_service (T : Txt K mg a d) : FnOk P w K mg base CX0 3 (a 35) (d 35) ["thing", "tables"] spIsSvc := by
  have G33 : FnOk P w K mg base CX0 2 (a 33) (d 33) ["thing", "width"] spAreCols := ok_are_columns T
  have G32 : FnOk P w K mg base CX0 1 (a 32) (d 32) ["thing", "names"] spNameIn := ok_name_in T
  have G31 : FnOk P w K mg base CX0 2 (a 31) (d 31) ["thing", "most"] spCount := ok_count T
  refine T.F35.ok sc__is_service (fun vs H Q E h => ?_) (fun cdv A outer s H vs Q E hr h => ?_)
  · obtain ⟨v, t, ga, n, cs, cap, w, ts, m, rfl, _⟩ := h
    rfl
  · obtain ⟨v, t, ga, n, cs, cap, w, ts, m, rfl, hv, ht, hT, hm, hcs, hl, hcap, q⟩ := h
    obtain ⟨t9, h_MOST_CAP⟩ := T.c_MOST_CAP
    have tv := tab_val hT hm
    have g := fun (H' : Hp) (s : Same H H') => (ht.same s).get (tab_nd hT) (Sum.inr n)
    rw [tv] at g
    refine ⟨_, (pss_cons (ps_if (PW.pt (pw_or (pt_not (pt_val (pe_callB (id := "isinstance")  call_isi (by rfl) T.z_isinstance (by decide +kernel) (pa_cons (pv 0) (pa_cons (pe_bltn (v := .ty "tuple") (by rfl) T.z_tuple (by decide +kernel) rfl) pa_nil))))) (pw_or1 (pt_cmpR op_ne (pe_callB (id := "len")  call_len_seq (by rfl) T.z_len (by decide +kernel) (pa_cons (pv 0) pa_nil)) pe_int (nomark _)))))
    (pss_one (ps_ret pe_bl))
    pss_nil)
  (pss_cons (ps_asg (pv 0) (pg_tup rfl (pgs_cons (pg_name (i := 2) sc__is_service.nd rfl (.inl rfl)) (pgs_cons (pg_name (i := 3) sc__is_service.nd rfl (.inl rfl)) (pgs_cons (pg_name (i := 4) sc__is_service.nd rfl (.inl rfl)) pgs_nil)))))
  (pss_cons (ps_if (PW.pt (pw_or (pt_not (pt_val (pe_call G32 (hr.mono (by decide)) (by rfl) T.g32 T.F32.kp T.b32 .nil pass0 (pa_cons (pv 2) (pa_cons (pv 1) pa_nil))))) (pw_or1 (pt_not (pt_val (pe_call G33 (hr.mono (by decide)) (by rfl) T.g33 T.F33.kp T.b33 .nil pass0 (pa_cons (pv 3) (pa_cons (pe_dget (hu_of hr) (pv 1) (pv 2) (fun _ _ => rfl)) pa_nil))))))))
    (pss_one (ps_ret pe_bl))
    pss_nil)
  (pss_one (ps_ret (pe_or (pe_cmpR op_isN (pv 4) pe_non (nomark _)) (pe_one (pe_call G31 (hr.mono (by decide)) (by rfl) T.g31 T.F31.kp T.b31 .nil pass0 (pa_cons (pv 4) (pa_cons (pe_glob (v := .int (4)) rfl h_MOST_CAP ⟨_, rfl⟩) pa_nil)))))))))), ?_⟩
    refine ⟨_, rfl, _, _, _, _, _, rfl, .ty _, .base (.tup hv.tup), kit_ty (show kitB "tuple" "tuple" = some true by decide +kernel), _, rfl, ?_⟩
    refine ⟨_, rfl, _, _, rfl, .inr (.of hv.tup), rfl, _, rfl, ?_⟩
    refine ⟨_, rfl, v, _, rfl, .of hv.tup, rfl, _, _, rfl, _, _, rfl, _, _, rfl, rfl, ?_⟩
    refine ⟨_, rfl, _, rfl, n, t, tabK ts, rfl, ht, tab_nd hT, ?_⟩
    rw [tv]
    refine ⟨_, rfl, _, rfl, _, rfl, _, rfl, t, _, rfl, g H (Same.refl H), ga, cs, w, rfl, hv.cols, hcs, by omega, fun H1 s1 => ⟨_, rfl, ?_⟩⟩
    refine ⟨_, rfl, rfl, _, rfl, ?_⟩
    rw [capV_none]
    cases e : cap.isNone with
    | true => exact q H1 s1
    | false =>
      cases cap with
      | none => cases e
      | some z =>
        have hz := hcap z rfl
        refine ⟨_, rfl, z, 4, rfl, fun H2 s2 => ?_⟩
        rw [decide_eq_true hz]
        exact q H2 (s1.trans s2)
end
/-! ### a dict whose names are sorted -/
section
variable {P : Program} {w : World} {K : PySem.W.Frag} {mg : Str → Option Value} {base : Heap} {a : Nat → Addr} {d : Nat → FuncData}
def spChkT : Sp := fun vs H Q _ => ∃ (t : Addr) (ts : List (Str × Int)) (m : Nat), vs = [.ref t] ∧ DctAt H t (tabK ts) ∧ Tabs ts m 4 ∧ 1 ≤ m ∧ m ≤ 5 ∧ ∀ H', Same H H' → Q .non H'
theorem ok_check_tables (T : Txt K mg a d) : FnOk P w K mg base CX0 3 (a 37) (d 37) ["tables"] spChkT := by
  have G14 : FnOk P w K mg base CX0 1 (a 14) (d 14) ["thing"] (spB wordV) := ok_is_word T
  have G31 : FnOk P w K mg base CX0 2 (a 31) (d 31) ["thing", "most"] spCount := ok_count T
  refine T.F37.ok sc__check_tables (fun vs H Q E h => ?_) (fun cdv A outer s H vs Q E hr h => ?_)
  · obtain ⟨t, ts, m, rfl, _⟩ := h
    rfl
  · obtain ⟨t, ts, m, rfl, ht, hT, hm1, hm2, q⟩ := h
    obtain ⟨t8, h_MOST_TABLES⟩ := T.c_MOST_TABLES
    obtain ⟨t9, h_MOST_WIDTH⟩ := T.c_MOST_WIDTH
    have hlen := hT.len
    obtain ⟨ks, zs, e, kl, ek, z64, _, hL⟩ := DctAt.names (f := (·.1)) ht (fun _ => rfl) (by omega)
    refine ⟨_, (pss_cons (ps_if (pt_not (pt_chain op_le op_le pe_int (pe_callB (id := "len")  call_lenD (by rfl) T.z_len (by decide +kernel) (pa_cons (pv 0) pa_nil)) (pe_glob (v := .int (5)) rfl h_MOST_TABLES ⟨_, rfl⟩)))
    (pss_one ps_never)
    pss_nil)
  (pss_one (ps_for PassesOwn.never rfl (pi_list (pe_callB (id := "sorted")  (call_sortedD rfl) (by rfl) T.z_sorted (by decide +kernel) (pa_cons (pv 0) pa_nil))) (pg_name (i := 1) sc__check_tables.nd rfl (.inl rfl))
    (pss_one (ps_if (PW.pt (pw_or (pt_not (pt_val (pe_call G14 (hr.mono (by decide)) (by rfl) T.g14 T.F14.kp T.b14 .nil pass0 (pa_cons (pv 1) pa_nil)))) (pw_or1 (pt_not (pt_val (pe_call G31 (hr.mono (by decide)) (by rfl) T.g31 T.F31.kp T.b31 .nil pass0 (pa_cons (pe_dget (hu_of hr) (pv 0) (pv 1) (fun _ _ => rfl)) (pa_cons (pe_glob (v := .int (4)) rfl h_MOST_WIDTH ⟨_, rfl⟩) pa_nil))))))))
        (pss_one ps_never)
        pss_nil))))), ?_⟩
    refine ⟨_, rfl, t, ks, rfl, e, _, _, rfl, rfl, _, rfl, ite_d (fun _ => ?_) (fun z => absurd (by omega) z)⟩
    refine ⟨_, _, rfl, rfl, _, rfl, ?_⟩
    show if (!decide ((ks.length : Int) ≤ 5)) = true then _ else _
    rw [decide_eq_true (by omega)]
    refine ⟨_, rfl, t, ks, zs, rfl, .inl e, ek, z64, fun ys p yp _ hp => ⟨p, rfl, ?_⟩⟩
    obtain ⟨L, hLp, rfl⟩ := hL ys yp
    have s0 := same_upd (o := .lst ((L.map (·.1)).map V.str)) hp
    refine ⟨⟨_, .of upd_same⟩, for_list (K := K) (a := p) (xs := (L.map (·.1)).map V.str) (fun i σ H' => ∃ y1 : Option V, σ = [some (.ref t), y1] ∧ Same (upd H p (.lst ((L.map (·.1)).map V.str))) H') ⟨none, rfl, Same.refl _⟩ (fun i σ H' _ hp => ?_) (fun i y σ H' hy hp => ?_) (fun σ H' hp => ?_)⟩
    · obtain ⟨y1, rfl, s1⟩ := hp
      exact .of (s1 _ _ upd_same)
    · obtain ⟨y1, rfl, s1⟩ := hp
      obtain ⟨n, hn, rfl⟩ := map_at hy
      obtain ⟨b, hb, rfl⟩ := map_at hn
      have hm : (b.1, b.2) ∈ ts := hLp.mem_iff.mp (List.mem_of_getElem? hb)
      have hw := hT.wd _ hm
      have hwd := hT.nm.wd b.1 (List.mem_map.mpr ⟨_, hm, rfl⟩)
      refine ⟨_, rfl, .str b.1, rfl, wd_thg hwd, fun H1 s2 => ⟨_, rfl, ?_⟩⟩
      show if (!wordB b.1) = true then _ else _
      rw [wd_b hwd]
      refine ⟨_, rfl, _, rfl, t, _, rfl, (ht.same ((s0.trans s1).trans s2)).at_ (tab_nd hT) (tab_val hT hm), b.2, 4, rfl, fun H2 s3 => ⟨_, rfl, ?_⟩⟩
      rw [decide_eq_true hw]
      exact ⟨_, rfl, (s1.trans s2).trans s3⟩
    · obtain ⟨y1, rfl, s1⟩ := hp
      exact q H' (s0.trans s1)
def spChkK : Sp := fun vs H Q _ => ∃ (k t : Addr) (ts : List (Str × Int)) (ks : List KeyE) (m : Nat), vs = [.ref k, .ref t] ∧ DctAt H k (keyK ks) ∧ DctAt H t (tabK ts) ∧ Tabs ts m 4 ∧ Keys H ts ks ∧ m ≤ 5 ∧ ∀ H', Same H H' → Q .non H'
theorem ok_check_keys (T : Txt K mg a d) : FnOk P w K mg base CX0 4 (a 38) (d 38) ["keys", "tables"] spChkK := by
  have G34 : FnOk P w K mg base CX0 3 (a 34) (d 34) ["thing", "width"] spIsKey := ok_is_key T
  refine T.F38.ok sc__check_keys (fun vs H Q E h => ?_) (fun cdv A outer s H vs Q E hr h => ?_)
  · obtain ⟨k, t, ts, ks, m, rfl, _⟩ := h
    rfl
  · obtain ⟨k, t, ts, ks, m, rfl, hk, ht, hT, hK, hm2, q⟩ := h
    have hlen := hT.len
    have hkl : ks.length ≤ 5 := by
      have := hK.le
      omega
    obtain ⟨kd, zs, e, kl, ek, z64, _, hL⟩ := DctAt.names (f := (·.1)) hk (fun _ => rfl) (by omega)
    refine ⟨_, (pss_one (ps_for PassesOwn.never rfl (pi_list (pe_callB (id := "sorted")  (call_sortedD rfl) (by rfl) T.z_sorted (by decide +kernel) (pa_cons (pv 0) pa_nil))) (pg_name (i := 2) sc__check_keys.nd rfl (.inl rfl))
    (pss_one (ps_if (PW.pt (pw_or (pt_cmp (pc_dnotin (hu_of hr) (pv 2) (pv 1))) (pw_or1 (pt_not (pt_val (pe_call G34 (hr.mono (by decide)) (by rfl) T.g34 T.F34.kp T.b34 .nil pass0 (pa_cons (pe_dget (hu_of hr) (pv 0) (pv 2) (fun _ _ => rfl)) (pa_cons (pe_dget (hu_of hr) (pv 1) (pv 2) (fun _ _ => rfl)) pa_nil))))))))
        (pss_one ps_never)
        pss_nil)))), ?_⟩
    refine ⟨_, rfl, k, kd, zs, rfl, .inl e, ek, z64, fun ys p yp _ hp => ⟨p, rfl, ?_⟩⟩
    obtain ⟨L, hLp, rfl⟩ := hL ys yp
    have s0 := same_upd (o := .lst ((L.map (·.1)).map V.str)) hp
    refine ⟨⟨_, .of upd_same⟩, for_list (K := K) (a := p) (xs := (L.map (·.1)).map V.str) (fun i σ H' => ∃ y1 : Option V, σ = [some (.ref k), some (.ref t), y1] ∧ Same (upd H p (.lst ((L.map (·.1)).map V.str))) H') ⟨none, rfl, Same.refl _⟩ (fun i σ H' _ hp => ?_) (fun i y σ H' hy hp => ?_) (fun σ H' hp => ?_)⟩
    · obtain ⟨y1, rfl, s1⟩ := hp
      exact .of (s1 _ _ upd_same)
    · obtain ⟨y1, rfl, s1⟩ := hp
      obtain ⟨n, hn, rfl⟩ := map_at hy
      obtain ⟨b, hb, rfl⟩ := map_at hn
      have hm : b ∈ ks := hLp.mem_iff.mp (List.mem_of_getElem? hb)
      obtain ⟨w', hw', hcols, hl1, hl2⟩ := hK.ok b hm
      have hwd := hT.wd _ hw'
      have s2 := s0.trans s1
      have gt := (ht.same s2).at_ (tab_nd hT) (tab_val hT hw')
      refine ⟨_, rfl, _, rfl, t, _, rfl, gt, _, rfl, ?_⟩
      refine ⟨_, rfl, _, rfl, k, _, rfl, (hk.same s2).at_ (key_nd hT hK) (key_val hT hK hm), _, rfl, _, rfl, t, _, rfl, gt, b.2.1, b.2.2, w', rfl, s2 _ _ (hK.at_ b hm), hcols, by omega, hl1, hl2, fun H1 s3 => ⟨_, rfl, ?_⟩⟩
      exact ⟨_, rfl, s1.trans s3⟩
    · obtain ⟨y1, rfl, s1⟩ := hp
      exact q H' (s0.trans s1)
def spChkS : Sp := fun vs H Q _ => ∃ (v t : Addr) (ts : List (Str × Int)) (ks : List KeyE) (ss : List SvE) (m n : Nat), vs = [.ref v, .ref t] ∧ DctAt H v (svK ss) ∧ DctAt H t (tabK ts) ∧ Tabs ts m 4 ∧ Svcs H ts ks ss n ∧ 1 ≤ n ∧ n ≤ 8 ∧ ∀ H', Same H H' → Q .non H'
theorem ok_check_services (T : Txt K mg a d) : FnOk P w K mg base CX0 4 (a 39) (d 39) ["services", "tables"] spChkS := by
  have G14 : FnOk P w K mg base CX0 1 (a 14) (d 14) ["thing"] (spB wordV) := ok_is_word T
  have G35 : FnOk P w K mg base CX0 3 (a 35) (d 35) ["thing", "tables"] spIsSvc := ok_is_service T
  refine T.F39.ok sc__check_services (fun vs H Q E h => ?_) (fun cdv A outer s H vs Q E hr h => ?_)
  · obtain ⟨v, t, ts, ks, ss, m, n, rfl, _⟩ := h
    rfl
  · obtain ⟨v, t, ts, ks, ss, m, n, rfl, hv, ht, hT, hS, hm1, hm2, q⟩ := h
    obtain ⟨t8, h_MOST_SERVICES⟩ := T.c_MOST_SERVICES
    have hlen : ss.length = n := by rw [← hS.nm.len, List.length_map]
    obtain ⟨kd, zs, e, kl, ek, z64, _, hL⟩ := DctAt.names (f := (·.name)) hv (fun _ => rfl) (by omega)
    refine ⟨_, (pss_cons (ps_if (pt_not (pt_chain op_le op_le pe_int (pe_callB (id := "len")  call_lenD (by rfl) T.z_len (by decide +kernel) (pa_cons (pv 0) pa_nil)) (pe_glob (v := .int (8)) rfl h_MOST_SERVICES ⟨_, rfl⟩)))
    (pss_one ps_never)
    pss_nil)
  (pss_one (ps_for PassesOwn.never rfl (pi_list (pe_callB (id := "sorted")  (call_sortedD rfl) (by rfl) T.z_sorted (by decide +kernel) (pa_cons (pv 0) pa_nil))) (pg_name (i := 2) sc__check_services.nd rfl (.inl rfl))
    (pss_one (ps_if (PW.pt (pw_or (pt_not (pt_val (pe_call G14 (hr.mono (by decide)) (by rfl) T.g14 T.F14.kp T.b14 .nil pass0 (pa_cons (pv 2) pa_nil)))) (pw_or1 (pt_not (pt_val (pe_call G35 (hr.mono (by decide)) (by rfl) T.g35 T.F35.kp T.b35 .nil pass0 (pa_cons (pe_dget (hu_of hr) (pv 0) (pv 2) (fun _ _ => rfl)) (pa_cons (pv 1) pa_nil))))))))
        (pss_one ps_never)
        pss_nil))))), ?_⟩
    refine ⟨_, rfl, v, kd, rfl, e, _, _, rfl, rfl, _, rfl, ite_d (fun _ => ?_) (fun z => absurd (by omega) z)⟩
    refine ⟨_, _, rfl, rfl, _, rfl, ?_⟩
    show if (!decide ((kd.length : Int) ≤ 8)) = true then _ else _
    rw [decide_eq_true (by omega)]
    refine ⟨_, rfl, v, kd, zs, rfl, .inl e, ek, z64, fun ys p yp _ hp => ⟨p, rfl, ?_⟩⟩
    obtain ⟨L, hLp, rfl⟩ := hL ys yp
    have s0 := same_upd (o := .lst ((L.map (·.name)).map V.str)) hp
    refine ⟨⟨_, .of upd_same⟩, for_list (K := K) (a := p) (xs := (L.map (·.name)).map V.str) (fun i σ H' => ∃ y1 : Option V, σ = [some (.ref v), some (.ref t), y1] ∧ Same (upd H p (.lst ((L.map (·.name)).map V.str))) H') ⟨none, rfl, Same.refl _⟩ (fun i σ H' _ hp => ?_) (fun i y σ H' hy hp => ?_) (fun σ H' hp => ?_)⟩
    · obtain ⟨y1, rfl, s1⟩ := hp
      exact .of (s1 _ _ upd_same)
    · obtain ⟨y1, rfl, s1⟩ := hp
      obtain ⟨nm, hn, rfl⟩ := map_at hy
      obtain ⟨b, hb, rfl⟩ := map_at hn
      have hm : b ∈ ss := hLp.mem_iff.mp (List.mem_of_getElem? hb)
      have hwd := hS.nm.wd b.name (List.mem_map.mpr ⟨_, hm, rfl⟩)
      obtain ⟨htold, ⟨w', hw', hcols, hcl⟩, hcap⟩ := hS.ok b hm
      refine ⟨_, rfl, .str b.name, rfl, wd_thg hwd, fun H1 s2 => ⟨_, rfl, ?_⟩⟩
      have s3 := (s0.trans s1).trans s2
      show if (!wordB b.name) = true then _ else _
      rw [wd_b hwd]
      refine ⟨_, rfl, _, rfl, v, _, rfl, (hv.same s3).at_ (sv_nd hS) (sv_val hS hm), _, rfl, b.at_, t, b.ga, b.tab, b.cols, b.cap, w', ts, m, rfl, htold.mono fun _ _ e => s3 _ _ e, ht.same s3, hT, hw', hcols, hcl, hcap, fun H2 s4 => ⟨_, rfl, ?_⟩⟩
      exact ⟨_, rfl, (s1.trans s2).trans s4⟩
    · obtain ⟨y1, rfl, s1⟩ := hp
      exact q H' (s0.trans s1)
end
/-! ### the order of names -/
section
variable {P : Program} {w : World} {K : PySem.W.Frag} {mg : Str → Option Value} {base : Heap} {a : Nat → Addr} {d : Nat → FuncData}
def spChkC : Sp := fun vs H Q _ => ∃ (v t k : Addr) (ts : List (Str × Int)) (ks : List KeyE) (ss : List SvE) (m n : Nat), vs = [.ref v, .ref t, .ref k] ∧ DctAt H v (svK ss) ∧ DctAt H t (tabK ts) ∧ DctAt H k (keyK ks) ∧ Tabs ts m 4 ∧ Keys H ts ks ∧ Svcs H ts ks ss n ∧ n ≤ 8 ∧ ∀ H', Same H H' → Q .non H'
theorem ok_check_capped (T : Txt K mg a d) : FnOk P w K mg base CX0 2 (a 40) (d 40) ["services", "tables", "keys"] spChkC := by
  have G36 : FnOk P w K mg base CX0 1 (a 36) (d 36) ["service", "tables", "keys"] spIsWh := ok_is_wh T
  refine T.F40.ok sc__check_capped (fun vs H Q E h => ?_) (fun cdv A outer s H vs Q E hr h => ?_)
  · obtain ⟨v, t, k, ts, ks, ss, m, n, rfl, _⟩ := h
    rfl
  · obtain ⟨v, t, k, ts, ks, ss, m, n, rfl, hv, ht, hk, hT, hK, hS, hn, q⟩ := h
    have hlen : ss.length = n := by rw [← hS.nm.len, List.length_map]
    obtain ⟨kd, zs, e, kl, ek, z64, _, hL⟩ := DctAt.names (f := (·.name)) hv (fun _ => rfl) (by omega)
    refine ⟨_, (pss_cons (ps_set (i := 3) sc__check_capped.nd rfl (.inl rfl) (pe_lst pa_nil))
  (pss_one (ps_for PassesOwn.never rfl (pi_list (pe_callB (id := "sorted")  (call_sortedD rfl) (by rfl) T.z_sorted (by decide +kernel) (pa_cons (pv 0) pa_nil))) (pg_name (i := 4) sc__check_capped.nd rfl (.inl rfl))
    (pss_cons (ps_set (i := 5) sc__check_capped.nd rfl (.inl rfl) (pe_dget (hu_of hr) (pv 0) (pv 4) (fun _ _ => rfl)))
      (pss_one (ps_if (pt_not (pt_val (pe_call G36 (hr.mono (by decide)) (by rfl) T.g36 T.F36.kp T.b36 .nil pass0 (pa_cons (pv 5) (pa_cons (pv 1) (pa_cons (pv 2) pa_nil))))))
        (pss_cons (ps_if (pt_cmpR op_in_seq (pe_ix ix_tup (pv 5) pe_int (fun _ _ => rfl)) (pv 3) (by rfl))
            (pss_one ps_never)
            pss_nil)
          (pss_one (ps_expr (pe_bm PySem.F.plainAttrs_list PySem.F.slot_list_append PySem.F.type_list_append mt_append (pv 3) (pa_cons (pe_ix ix_tup (pv 5) pe_int (fun _ _ => rfl)) pa_nil)))))
        pss_nil)))))), ?_⟩
    refine ⟨Nat.zero_le _, fun f hf => ?_⟩
    have s0 := same_upd (o := .lst []) hf
    refine ⟨_, rfl, v, kd, zs, rfl, .inl (s0 _ _ e), ek, z64, fun ys p yp _ hp => ⟨p, rfl, ?_⟩⟩
    obtain ⟨L, hLp, rfl⟩ := hL ys yp
    have s1 := same_upd (o := .lst ((L.map (·.name)).map V.str)) hp
    have nfp : f ≠ p := ne_of_none upd_same hp
    have nd : (fillE ts ks L).Nodup := (fillE_perm hLp).nodup_iff.mpr hS.one
    have lL : L.length ≤ 8 := by rw [hLp.length_eq]; omega
    refine ⟨⟨_, .of upd_same⟩, for_list (K := K) (a := p) (xs := (L.map (·.name)).map V.str) (fun i σ H' => ∃ y4 y5 : Option V, σ = [some (.ref v), some (.ref t), some (.ref k), some (.ref f), y4, y5] ∧ H' p = some (.lst ((L.map (·.name)).map V.str)) ∧ H' f = some (.lst ((fillE ts ks (L.take i)).map V.str)) ∧ Same H H')
      ⟨none, none, rfl, upd_same, s1 _ _ upd_same, s0.trans s1⟩ (fun i σ H' _ hp => ?_) (fun i y σ H' hy hp => ?_) (fun σ H' hp => ?_)⟩
    · obtain ⟨y4, y5, rfl, hp', _⟩ := hp
      exact .of hp'
    · obtain ⟨y4, y5, rfl, hp', hf', sm⟩ := hp
      obtain ⟨nm, hn', rfl⟩ := map_at hy
      obtain ⟨b, hb, rfl⟩ := map_at hn'
      have hm : b ∈ ss := hLp.mem_iff.mp (List.mem_of_getElem? hb)
      obtain ⟨htold, ⟨w', hw', hcols, hcl⟩, hcap⟩ := hS.ok b hm
      have hw2 := widthAt_mem hT.nm.nd hw'
      have tk : L.take (i + 1) = L.take i ++ [b] := by
        rw [List.take_add_one, hb]
        rfl
      have fs := fillE_snoc ts ks (L.take i) b
      rw [← tk] at fs
      have we : whE ts ks b = isWh w' ks b.tab b.cols b.cap := by
        unfold whE
        rw [hw2]
      refine ⟨_, rfl, _, rfl, v, _, rfl, (hv.same sm).at_ (sv_nd hS) (sv_val hS hm), ?_⟩
      refine ⟨_, rfl, _, rfl, _, rfl, b.at_, t, k, b.ga, b.tab, b.cols, b.cap, w', ts, ks, m, rfl, htold.mono fun _ _ e => sm _ _ e, ht.same sm, hk.same sm, hT, hK.mono fun _ _ e => sm _ _ e, hw', by omega, fun H2 s2 => ⟨_, rfl, ?_⟩⟩
      have sm2 := sm.trans s2
      cases ew : isWh w' ks b.tab b.cols b.cap with
      | true =>
        rw [we, ew, if_pos rfl, List.append_nil] at fs
        refine ⟨_, _, rfl, s2 _ _ hp', ?_, sm2⟩
        rw [fs]
        exact s2 _ _ hf'
      | false =>
        rw [we, ew, if_neg (by decide)] at fs
        have hno : b.tab ∉ fillE ts ks (L.take i) := fun hx => by
          have nd2 : (fillE ts ks (L.take (i + 1))).Nodup := nd.sublist (fillE_take L (i + 1))
          rw [fs] at nd2
          exact (List.nodup_append.mp nd2).2.2 b.tab hx b.tab (by simp) rfl
        have hat := htold.tup
        refine ⟨_, rfl, _, _, _, _, rfl, rfl, .of (sm2 _ _ hat), atI_nat (j := 0) rfl, _, rfl, f, _, rfl, .inl (.of (s2 _ _ hf')), rfl, flat_strs _, _, rfl, ?_⟩
        show if inV (.str b.tab) ((fillE ts ks (L.take i)).map V.str) = true then _ else _
        rw [inV_strs, decide_eq_false hno]
        refine ⟨_, rfl, .inl ⟨rfl, _, .of (s2 _ _ hf')⟩, _, rfl, _, _, _, _, rfl, rfl, .of (sm2 _ _ hat), atI_nat (j := 0) rfl, f, _, _, rfl, rfl, s2 _ _ hf', ?_, _, _, rfl, ?_, ?_, ?_⟩
        · rw [List.length_map]
          unfold fillE
          rw [List.length_map]
          have l1 := List.length_filter_le (fun b => !whE ts ks b) (L.take i)
          rw [List.length_take] at l1
          exact Nat.lt_of_le_of_lt (by omega : _ ≤ 8) (by decide)
        · rw [upd_ne nfp.symm]
          exact s2 _ _ hp'
        · rw [fs, List.map_append]
          exact upd_same
        · intro x o ex
          rw [upd_ne (ne_of_none ex hf)]
          exact sm2 x o ex
    · obtain ⟨y4, y5, rfl, hp', hf', sm⟩ := hp
      exact q H' sm
end
/-! ### the class -/
/-- a Schema at p -/
structure SchO (C p dx d1 d2 d3 : Addr) (H : Hp) (ts : List (Str × Int)) (ks : List KeyE) (ss : List SvE) (m n : Nat) : Prop where
  ob : H p = some (.ins C dx (fldsS d1 d2 d3))
  tb : DctAt H d1 (tabK ts)
  ky : DctAt H d2 (keyK ks)
  sv : DctAt H d3 (svK ss)
  hT : Tabs ts m 4
  hK : Keys H ts ks
  hS : Svcs H ts ks ss n
  m5 : m ≤ 5
  n8 : n ≤ 8
def SchAt (C p : Addr) (H : Hp) (ts : List (Str × Int)) (ks : List KeyE) (ss : List SvE) (m n : Nat) : Prop := ∃ dx d1 d2 d3, SchO C p dx d1 d2 d3 H ts ks ss m n
theorem SchO.same {C p dx d1 d2 d3 : Addr} {H H' : Hp} {ts : List (Str × Int)} {ks : List KeyE} {ss : List SvE} {m n : Nat} (h : SchO C p dx d1 d2 d3 H ts ks ss m n) (s : Same H H') : SchO C p dx d1 d2 d3 H' ts ks ss m n :=
  ⟨s _ _ h.ob, h.tb.same s, h.ky.same s, h.sv.same s, h.hT, h.hK.mono fun _ _ e => s _ _ e, h.hS.mono fun _ _ e => s _ _ e, h.m5, h.n8⟩
theorem SchAt.same {C p : Addr} {H H' : Hp} {ts : List (Str × Int)} {ks : List KeyE} {ss : List SvE} {m n : Nat} (h : SchAt C p H ts ks ss m n) (s : Same H H') : SchAt C p H' ts ks ss m n := by
  obtain ⟨dx, d1, d2, d3, o⟩ := h
  exact ⟨dx, d1, d2, d3, o.same s⟩
section
variable {P : Program} {w : World} {K : PySem.W.Frag} {mg : Str → Option Value} {base : Heap} {a : Nat → Addr} {d : Nat → FuncData}
def spSInit (C : Addr) : Sp := fun vs H Q _ => ∃ (p dx t k v : Addr) (ts : List (Str × Int)) (ks : List KeyE) (ss : List SvE) (m n : Nat), vs = [.ref p, .ref t, .ref k, .ref v] ∧ H p = some (.ins C dx []) ∧ DctAt H t (tabK ts) ∧ DctAt H k (keyK ks) ∧ DctAt H v (svK ss) ∧ Tabs ts m 4 ∧ Keys H ts ks ∧ Svcs H ts ks ss n ∧ 1 ≤ m ∧ m ≤ 5 ∧ 1 ≤ n ∧ n ≤ 8 ∧
  ∀ H' d1 d2 d3, SchO C p dx d1 d2 d3 H' ts ks ss m n → H d1 = none → H d2 = none → H d3 = none → (∀ b o, b ≠ p → H b = some o → H' b = some o) → Q .non H'
theorem ok_sinit (T : Txt K mg a d) : FnOk P w K mg base CX0 5 (a 5200) (d 5200) ["self", "tables", "keys", "services"] (spSInit (a 42)) := by
  have G37 : FnOk P w K mg base CX0 3 (a 37) (d 37) ["tables"] spChkT := ok_check_tables T
  have G38 : FnOk P w K mg base CX0 4 (a 38) (d 38) ["keys", "tables"] spChkK := ok_check_keys T
  have G39 : FnOk P w K mg base CX0 4 (a 39) (d 39) ["services", "tables"] spChkS := ok_check_services T
  have G40 : FnOk P w K mg base CX0 2 (a 40) (d 40) ["services", "tables", "keys"] spChkC := ok_check_capped T
  have G41 : FnOk P w K mg base CX0 1 (a 41) (d 41) ["things"] spCopied := ok_copied T
  refine T.F5200.ok sc_Schema___init__ (fun vs H Q E h => ?_) (fun cdv A outer s H vs Q E hr h => ?_)
  · obtain ⟨p, dx, t, k, v, ts, ks, ss, m, n, rfl, _⟩ := h
    rfl
  · obtain ⟨p, dx, t, k, v, ts, ks, ss, m, n, rfl, hp, ht, hk, hv, hT, hK, hS, hm1, hm2, hn1, hn2, q⟩ := h
    have lt : ts.length = m := hT.len
    have lk : ks.length ≤ 5 := by
      have := hK.le
      omega
    have ls : ss.length = n := by rw [← hS.nm.len, List.length_map]
    refine ⟨_, (pss_cons (ps_expr (pe_call G37 (hr.mono (by decide)) (by rfl) T.g37 T.F37.kp T.b37 .nil pass0 (pa_cons (pv 1) pa_nil)))
  (pss_cons (ps_expr (pe_call G38 (hr.mono (by decide)) (by rfl) T.g38 T.F38.kp T.b38 .nil pass0 (pa_cons (pv 2) (pa_cons (pv 1) pa_nil))))
  (pss_cons (ps_expr (pe_call G39 (hr.mono (by decide)) (by rfl) T.g39 T.F39.kp T.b39 .nil pass0 (pa_cons (pv 3) (pa_cons (pv 1) pa_nil))))
  (pss_cons (ps_expr (pe_call G40 (hr.mono (by decide)) (by rfl) T.g40 T.F40.kp T.b40 .nil pass0 (pa_cons (pv 3) (pa_cons (pv 1) (pa_cons (pv 2) pa_nil)))))
  (pss_cons (ps_fld (pv 0) (pe_call G41 (hr.mono (by decide)) (by rfl) T.g41 T.F41.kp T.b41 .nil pass0 (pa_cons (pv 1) pa_nil)) rfl)
  (pss_cons (ps_fld (pv 0) (pe_call G41 (hr.mono (by decide)) (by rfl) T.g41 T.F41.kp T.b41 .nil pass0 (pa_cons (pv 2) pa_nil)) rfl)
  (pss_one (ps_fld (pv 0) (pe_call G41 (hr.mono (by decide)) (by rfl) T.g41 T.F41.kp T.b41 .nil pass0 (pa_cons (pv 3) pa_nil)) rfl)))))))), ?_⟩
    refine ⟨_, rfl, t, ts, m, rfl, ht, hT, hm1, hm2, fun H1 s1 => ?_⟩
    refine ⟨_, rfl, _, rfl, k, t, ts, ks, m, rfl, hk.same s1, ht.same s1, hT, hK.mono fun _ _ e => s1 _ _ e, hm2, fun H2 s2 => ?_⟩
    have s12 := s1.trans s2
    refine ⟨_, rfl, _, rfl, v, t, ts, ks, ss, m, n, rfl, hv.same s12, ht.same s12, hT, hS.mono fun _ _ e => s12 _ _ e, hn1, hn2, fun H3 s3 => ?_⟩
    have s13 := s12.trans s3
    refine ⟨_, rfl, _, rfl, _, rfl, v, t, k, ts, ks, ss, m, n, rfl, hv.same s13, ht.same s13, hk.same s13, hT, hK.mono fun _ _ e => s13 _ _ e, hS.mono fun _ _ e => s13 _ _ e, hn2, fun H4 s4 => ?_⟩
    have s14 := s13.trans s4
    -- the three copies
    refine ⟨_, rfl, t, tabK ts, ts.map (·.1), rfl, ht.same s14, keys_tab ts, hT.nm.nd, by rw [List.length_map]; omega, fun d1 H5 f1 D1 s5 => ?_⟩
    have hp5 := (s14.trans s5) _ _ hp
    refine ⟨_, rfl, p, _, dx, _, rfl, hp5, T.cl_42, T.no_42__tables, by show 0 < 1000; decide, ?_⟩
    generalize hH6 : upd H5 p _ = H6
    have hp6 : H6 p = some (.ins (a 42) dx (putF "_tables" (.ref d1) [])) := by rw [← hH6]; exact upd_same
    have o6 : ∀ b o, b ≠ p → H5 b = some o → H6 b = some o := fun b o n e => by rw [← hH6, upd_ne n]; exact e
    have o06 : ∀ b o, b ≠ p → H b = some o → H6 b = some o := fun b o n e => o6 b o n ((s14.trans s5) _ _ e)
    have kn : ((keyK ks).map (·.1)) = (ks.map (·.1)).map Sum.inr := keys_key ks
    refine ⟨_, rfl, k, keyK ks, ks.map (·.1), rfl, hk.but hp o06, kn, hK.nd, by rw [List.length_map]; omega, fun d2 H7 f2 D2 s7 => ?_⟩
    have hp7 := s7 _ _ hp6
    refine ⟨_, rfl, p, _, dx, _, rfl, hp7, T.cl_42, T.no_42__keys, by show 1 < 1000; decide, ?_⟩
    generalize hH8 : upd H7 p _ = H8
    have hp8 : H8 p = some (.ins (a 42) dx (putF "_keys" (.ref d2) (putF "_tables" (.ref d1) []))) := by rw [← hH8]; exact upd_same
    have o8 : ∀ b o, b ≠ p → H7 b = some o → H8 b = some o := fun b o n e => by rw [← hH8, upd_ne n]; exact e
    have o68 : ∀ b o, b ≠ p → H6 b = some o → H8 b = some o := fun b o n e => o8 b o n (s7 _ _ e)
    have o08 : ∀ b o, b ≠ p → H b = some o → H8 b = some o := fun b o n e => o68 b o n (o06 b o n e)
    refine ⟨_, rfl, v, svK ss, ss.map (·.name), rfl, hv.but hp o08, keys_sv ss, hS.nm.nd, by rw [List.length_map]; omega, fun d3 H9 f3 D3 s9 => ?_⟩
    have hp9 := s9 _ _ hp8
    have l2 : ∀ d1 d2 : Addr, (putF "_keys" (.ref d2) (putF "_tables" (.ref d1) ([] : List (Str × V)))).length < 1000 := fun d1 d2 => by
      have e : putF "_keys" (.ref d2) (putF "_tables" (.ref d1) ([] : List (Str × V))) = [(("_tables" : Str), V.ref d1), (("_keys" : Str), V.ref d2)] := by
        show (if ("_tables" : Str) = "_keys" then _ else (("_tables" : Str), V.ref d1) :: putF "_keys" (.ref d2) []) = _
        rw [if_neg (by decide +kernel)]
        rfl
      rw [e]
      show 2 < 1000
      decide
    refine ⟨_, rfl, p, _, dx, _, rfl, hp9, T.cl_42, T.no_42__services, l2 _ _, ?_⟩
    generalize hH : upd H9 p _ = Hz
    have hpz : Hz p = some (.ins (a 42) dx (fldsS d1 d2 d3)) := by rw [← hH]; exact upd_same
    have oz : ∀ b o, b ≠ p → H9 b = some o → Hz b = some o := fun b o n e => by rw [← hH, upd_ne n]; exact e
    have o0z : ∀ b o, b ≠ p → H b = some o → Hz b = some o := fun b o n e => oz b o n (s9 _ _ (o08 b o n e))
    have tz : ∀ b xs, H b = some (.tup xs) → Hz b = some (.tup xs) := fun b xs e => o0z b _ (ne_of e hp (by intro z; cases z)) e
    have free : ∀ {x : Addr} {G : Hp} {o : HO}, G p = some o → (∀ b o, b ≠ p → H b = some o → G b = some o) → G x = none → H x = none := fun {x G o} hG k e => by
      cases e' : H x with
      | none => rfl
      | some u =>
        by_cases n : x = p
        · rw [n, hG] at e
          cases e
        · rw [k x u n e'] at e
          cases e
    refine q Hz d1 d2 d3 ⟨hpz, (((D1.but hp5 o6).same s7).but hp7 o8 |>.same s9).but hp9 oz, ((D2.but hp7 o8).same s9).but hp9 oz, D3.but hp9 oz, hT, hK.mono tz, hS.mono tz, hm2, hn2⟩ (s14.free f1) (free hp6 o06 f2) (free hp8 o08 f3) o0z
/-! ### its properties and lists of names -/
def spProp (C : Addr) (f : List (Str × Int) → List KeyE → List SvE → List (Key × V)) : Sp := fun vs H Q _ => ∃ (p : Addr) (ts : List (Str × Int)) (ks : List KeyE) (ss : List SvE) (m n : Nat), vs = [.ref p] ∧ SchAt C p H ts ks ss m n ∧ ∀ D H', H D = none → DctAt H' D (f ts ks ss) → Same H H' → Q (.ref D) H'
theorem ok_p_services (T : Txt K mg a d) : FnOk P w K mg base CX0 1 (a 5203) (d 5203) ["self"] (spProp (a 42) fun _ _ ss => svK ss) := by
  refine T.F5203.ok sc_Schema_services (fun vs H Q E h => ?_) (fun cdv A outer s H vs Q E hr h => ?_)
  · obtain ⟨p, ts, ks, ss, m, n, rfl, _⟩ := h
    rfl
  · obtain ⟨p, ts, ks, ss, m, n, rfl, ⟨dx, d1, d2, d3, o⟩, q⟩ := h
    obtain ⟨kd, e, pk⟩ := o.sv
    exact ⟨_, (pss_one (ps_ret (pe_callTy (T := "dict")  call_dictD (by rfl) T.z_dict (by decide +kernel) (pa_cons (pe_fld (pv 0) rfl) pa_nil)))), _, rfl, p, _, dx, _, _, rfl, o.ob, T.cl_42, T.no_42__services, flds_s _ _ _, d3, kd, rfl, .inl e, fun D hD => q D _ hD ⟨kd, upd_same, pk⟩ (same_upd hD)⟩
def spNms (C : Addr) (f : List (Str × Int) → List SvE → List Str) : Sp := fun vs H Q _ => ∃ (p : Addr) (ts : List (Str × Int)) (ks : List KeyE) (ss : List SvE) (m n : Nat), vs = [.ref p] ∧ SchAt C p H ts ks ss m n ∧ ∀ l ys H', H l = none → H' l = some (.lst (ys.map V.str)) → ys.Perm (f ts ss) → PyProof.Rows.sortedS ys = true → Same H H' → Q (.ref l) H'
theorem ok_table_names (T : Txt K mg a d) : FnOk P w K mg base CX0 1 (a 5205) (d 5205) ["self"] (spNms (a 42) fun ts _ => ts.map (·.1)) := by
  refine T.F5205.ok sc_Schema_table_names (fun vs H Q E h => ?_) (fun cdv A outer s H vs Q E hr h => ?_)
  · obtain ⟨p, ts, ks, ss, m, n, rfl, _⟩ := h
    rfl
  · obtain ⟨p, ts, ks, ss, m, n, rfl, ⟨dx, d1, d2, d3, o⟩, q⟩ := h
    obtain ⟨kd, zs, e, kl, ek, z64, zp, _⟩ := DctAt.names (f := (·.1)) o.tb (fun _ => rfl) (by have := o.hT.len; have := o.m5; omega)
    exact ⟨_, (pss_one (ps_ret (pe_callB (id := "sorted")  (call_sortedD rfl) (by rfl) T.z_sorted (by decide +kernel) (pa_cons (pe_fld (pv 0) rfl) pa_nil)))), _, rfl, p, _, dx, _, _, rfl, o.ob, T.cl_42, T.no_42__tables, flds_t _ _ _, d1, kd, zs, rfl, .inl e, ek, z64, fun ys l yp so hl => q l ys _ hl upd_same (yp.trans zp) so (same_upd hl)⟩
end
section
variable {P : Program} {w : World} {K : PySem.W.Frag} {mg : Str → Option Value} {base : Heap} {a : Nat → Addr} {d : Nat → FuncData}
/-! ### an unknown name -/
def spUInit (C : Addr) : Sp := fun vs H Q _ => ∃ (x : Addr) (v : V), vs = [.ref x, v] ∧ H x = some (exo x C none) ∧ ∀ dx, H dx = none → dx ≠ x → Q .non (upd (upd H dx (exd dx [(("name" : Str), v)])) x (exo x C (some dx)))
theorem ok_uinit (T : Txt K mg a d) : FnOk P w K mg base CX0 1 (a 1300) (d 1300) ["self", "name"] (spUInit (a 3)) := by
  refine T.F1300.ok sc_UnknownName___init__ (fun vs H Q E h => ?_) (fun cdv A outer s H vs Q E hr h => ?_)
  · obtain ⟨x, v, rfl, _⟩ := h
    rfl
  · obtain ⟨x, v, rfl, hx, q⟩ := h
    exact ⟨_, (pss_one (ps_ost (pv 0) (pv 1))), _, rfl, _, rfl, x, _, rfl, T.x_3, T.no_3_name, .inl ⟨hx, fun dx hdx ne => q dx hdx ne⟩⟩
/-- how an UnknownName(v) goes out: its dict dx, new -/
def Unk (C : Addr) (v : V) (H : Hp) (E : XK) : Prop := ∀ dx H', H dx = none → H' dx = some (.xd [(("name" : Str), v)]) → Same H H' → E (.ref C) (some dx) H'
theorem unk_raise {C : Addr} {v : V} {H : Hp} {E : XK} (k : Unk C v H E) : ([v] : List V).length ≤ 1000 ∧ ∀ x, H x = none → spUInit C (.ref x :: ([v] ++ [])) (upd H x (exo x C none))
    (fun u H2 => u = .non ∧ ∃ (dd : Addr) (fs : List (Str × V)), H2 x = some (exo x C (some dd)) ∧ H2 dd = some (exd dd fs) ∧ H dd = none ∧ E (.ref C) (some dd) (upd (del H2 x) dd (.xd fs))) (fun _ _ _ => False) := by
  refine ⟨by show 1 ≤ 1000; decide, fun x hx => ⟨x, v, rfl, upd_same, fun dx hdx ne => ⟨rfl, dx, _, upd_same, by rw [upd_ne ne]; exact upd_same, ?_, ?_⟩⟩⟩
  · rw [upd_ne ne] at hdx
    exact hdx
  · rw [upd_ne ne] at hdx
    refine k dx _ hdx upd_same fun b o e => ?_
    have nb : b ≠ x := ne_of_none e hx
    have nd : b ≠ dx := ne_of_none e hdx
    rw [upd_ne nd, del_ne nb, upd_ne nb, upd_ne nd, upd_ne nb]
    exact e
/-- what is asked of a name: told, or unknown -/
def spAsk (C CU : Addr) (f g : List (Str × Int) → List KeyE → List SvE → Str → Option V) : Sp := fun vs H Q E => ∃ (p : Addr) (n : Str) (ts : List (Str × Int)) (ks : List KeyE) (ss : List SvE) (mt ms : Nat), vs = [.ref p, .str n] ∧ SchAt C p H ts ks ss mt ms ∧
  (∀ v, f ts ks ss n = some v → ∃ u, g ts ks ss n = some u ∧ Q u H) ∧ (f ts ks ss n = none → Unk CU (.str n) H E)
theorem ok_width_of (T : Txt K mg a d) : FnOk P w K mg base (L2.CX P w) 4 (a 5208) (d 5208) ["self", "table"] (spAsk (a 42) (a 3) (fun ts _ _ n => valV (tabK ts) (Sum.inr n)) (fun ts _ _ n => valV (tabK ts) (Sum.inr n))) := by
  have G32 : FnOk P w K mg base CX0 1 (a 32) (d 32) ["thing", "names"] spNameIn := ok_name_in T
  have G1300 : FnOk P w K mg base CX0 1 (a 1300) (d 1300) ["self", "name"] (spUInit (a 3)) := ok_uinit T
  refine T.F5208.okX sc_Schema_width_of (fun vs H Q E h => ?_) (fun cdv A outer s H vs Q E hr h => ?_)
  · obtain ⟨p, n, ts, ks, ss, mt, ms, rfl, _⟩ := h
    rfl
  · obtain ⟨p, n, ts, ks, ss, mt, ms, rfl, ⟨dx, d1, d2, d3, o⟩, q1, q2⟩ := h
    refine ⟨_, (pss_cons (ps_if (pt_not (pt_val (pe_call G32 (hr.mono (by decide)) (by rfl) T.g32 T.F32.kp T.b32 .nil pass0 (pa_cons (pv 1) (pa_cons (pe_fld (pv 0) rfl) pa_nil)))))
    (pss_one (ps_raise rfl (takes_of rfl rfl rfl rfl) (pmk_oex T.x_3 T.in_3 T.ti_3 G1300 (hr.mono (by decide)) T.b1300 .nil pass0 (by rfl) T.cg_3 (pa_cons (pv 1) pa_nil))))
    pss_nil)
  (pss_one (ps_ret (pe_dget (hu_of hr) (pe_fld (pv 0) rfl) (pv 1) (fun _ _ => rfl))))), ?_⟩
    refine ⟨_, rfl, _, rfl, p, _, dx, _, _, rfl, o.ob, T.cl_42, T.no_42__tables, flds_t _ _ _, n, d1, tabK ts, rfl, o.tb, tab_nd o.hT, ?_⟩
    cases e : valV (tabK ts) (Sum.inr n) with
    | none => exact ⟨_, rfl, _, rfl, unk_raise (q2 e)⟩
    | some v =>
      obtain ⟨u, hu, q⟩ := q1 v e
      exact ⟨_, rfl, _, rfl, p, _, dx, _, _, rfl, o.ob, T.cl_42, T.no_42__tables, flds_t _ _ _, _, rfl, d1, u, rfl, o.tb.at_ (tab_nd o.hT) hu, q⟩
theorem ok_key_of (T : Txt K mg a d) : FnOk P w K mg base (L2.CX P w) 4 (a 5209) (d 5209) ["self", "table"] (spAsk (a 42) (a 3) (fun ts _ _ n => valV (tabK ts) (Sum.inr n)) (fun _ ks _ n => some ((valV (keyK ks) (Sum.inr n)).getD .non))) := by
  have G32 : FnOk P w K mg base CX0 1 (a 32) (d 32) ["thing", "names"] spNameIn := ok_name_in T
  have G1300 : FnOk P w K mg base CX0 1 (a 1300) (d 1300) ["self", "name"] (spUInit (a 3)) := ok_uinit T
  refine T.F5209.okX sc_Schema_key_of (fun vs H Q E h => ?_) (fun cdv A outer s H vs Q E hr h => ?_)
  · obtain ⟨p, n, ts, ks, ss, mt, ms, rfl, _⟩ := h
    rfl
  · obtain ⟨p, n, ts, ks, ss, mt, ms, rfl, ⟨dx, d1, d2, d3, o⟩, q1, q2⟩ := h
    refine ⟨_, (pss_cons (ps_if (pt_not (pt_val (pe_call G32 (hr.mono (by decide)) (by rfl) T.g32 T.F32.kp T.b32 .nil pass0 (pa_cons (pv 1) (pa_cons (pe_fld (pv 0) rfl) pa_nil)))))
    (pss_one (ps_raise rfl (takes_of rfl rfl rfl rfl) (pmk_oex T.x_3 T.in_3 T.ti_3 G1300 (hr.mono (by decide)) T.b1300 .nil pass0 (by rfl) T.cg_3 (pa_cons (pv 1) pa_nil))))
    pss_nil)
  (pss_one (ps_ret (pe_dget1 (hu_of hr) (pe_fld (pv 0) rfl) (pv 1) ⟨rfl, rfl, rfl, rfl⟩)))), ?_⟩
    refine ⟨_, rfl, _, rfl, p, _, dx, _, _, rfl, o.ob, T.cl_42, T.no_42__tables, flds_t _ _ _, n, d1, tabK ts, rfl, o.tb, tab_nd o.hT, ?_⟩
    cases e : valV (tabK ts) (Sum.inr n) with
    | none => exact ⟨_, rfl, _, rfl, unk_raise (q2 e)⟩
    | some v =>
      obtain ⟨u, hu, q⟩ := q1 v e
      cases hu
      obtain ⟨kd, ek, pk⟩ := id o.ky
      exact ⟨_, rfl, _, rfl, p, _, dx, _, _, rfl, o.ob, T.cl_42, T.no_42__keys, flds_k _ _ _, d2, rfl, .inl ⟨kd, .inl ek⟩, _, rfl, _, o.ky.get (key_nd o.hT o.hK) (Sum.inr n), q⟩
theorem ok_service_of (T : Txt K mg a d) : FnOk P w K mg base (L2.CX P w) 4 (a 5210) (d 5210) ["self", "name"] (spAsk (a 42) (a 3) (fun _ _ ss n => valV (svK ss) (Sum.inr n)) (fun _ _ ss n => valV (svK ss) (Sum.inr n))) := by
  have G32 : FnOk P w K mg base CX0 1 (a 32) (d 32) ["thing", "names"] spNameIn := ok_name_in T
  have G1300 : FnOk P w K mg base CX0 1 (a 1300) (d 1300) ["self", "name"] (spUInit (a 3)) := ok_uinit T
  refine T.F5210.okX sc_Schema_service_of (fun vs H Q E h => ?_) (fun cdv A outer s H vs Q E hr h => ?_)
  · obtain ⟨p, n, ts, ks, ss, mt, ms, rfl, _⟩ := h
    rfl
  · obtain ⟨p, n, ts, ks, ss, mt, ms, rfl, ⟨dx, d1, d2, d3, o⟩, q1, q2⟩ := h
    refine ⟨_, (pss_cons (ps_if (pt_not (pt_val (pe_call G32 (hr.mono (by decide)) (by rfl) T.g32 T.F32.kp T.b32 .nil pass0 (pa_cons (pv 1) (pa_cons (pe_fld (pv 0) rfl) pa_nil)))))
    (pss_one (ps_raise rfl (takes_of rfl rfl rfl rfl) (pmk_oex T.x_3 T.in_3 T.ti_3 G1300 (hr.mono (by decide)) T.b1300 .nil pass0 (by rfl) T.cg_3 (pa_cons (pv 1) pa_nil))))
    pss_nil)
  (pss_one (ps_ret (pe_dget (hu_of hr) (pe_fld (pv 0) rfl) (pv 1) (fun _ _ => rfl))))), ?_⟩
    refine ⟨_, rfl, _, rfl, p, _, dx, _, _, rfl, o.ob, T.cl_42, T.no_42__services, flds_s _ _ _, n, d3, svK ss, rfl, o.sv, sv_nd o.hS, ?_⟩
    cases e : valV (svK ss) (Sum.inr n) with
    | none => exact ⟨_, rfl, _, rfl, unk_raise (q2 e)⟩
    | some v =>
      obtain ⟨u, hu, q⟩ := q1 v e
      exact ⟨_, rfl, _, rfl, p, _, dx, _, _, rfl, o.ob, T.cl_42, T.no_42__services, flds_s _ _ _, _, rfl, d3, u, rfl, o.sv.at_ (sv_nd o.hS) hu, q⟩
/-! ### is_whole, capped_names -/
def svAt (ss : List SvE) (n : Str) : Option SvE := ss.find? fun b => decide (b.name = n)
theorem svAt_val (n : Str) : ∀ ss : List SvE, valV (svK ss) (Sum.inr n) = (svAt ss n).map fun b => V.ref b.at_
  | [] => rfl
  | b :: ks => by
    have ih := svAt_val n ks
    unfold svAt svK at ih ⊢
    rw [List.map_cons]
    by_cases e : b.name = n
    · rw [valV_pos (by rw [e])]
      simp [e]
    · rw [valV_neg (fun z => e (Sum.inr.inj z)), ih]
      simp [e]
theorem svAt_mem {ss : List SvE} {n : Str} {b : SvE} (h : svAt ss n = some b) : b ∈ ss ∧ b.name = n := by
  unfold svAt at h
  exact ⟨List.mem_of_find?_eq_some h, by simpa using List.find?_some h⟩
def spAskW (C CU : Addr) : Sp := fun vs H Q E => ∃ (p : Addr) (n : Str) (ts : List (Str × Int)) (ks : List KeyE) (ss : List SvE) (mt ms : Nat), vs = [.ref p, .str n] ∧ SchAt C p H ts ks ss mt ms ∧
  (∀ b, svAt ss n = some b → ∀ H', Same H H' → Q (.bl (whE ts ks b)) H') ∧ (svAt ss n = none → Unk CU (.str n) H E)
end
def Low (s : Str) : Prop := ∀ c ∈ s.cps.toList, c < 128
theorem low_ok {s : Str} (h : Low s) : PyData.strOk s = true := by
  unfold PyData.strOk
  rw [Array.all_eq_true']
  intro c hc
  have := h c (by simpa using hc)
  exact decide_eq_true (by omega)
theorem dp_strs {K : PySem.W.Frag} {H : Hp} : ∀ ns : List Str, DpAll K H (ns.map V.str) (ns.map PyData.str)
  | [] => .nil
  | n :: ns => .cons (.str n) (dp_strs ns)
theorem lay_strs : ∀ ns : List Str, (∀ s ∈ ns, Low s) → PyData.canLayAll0 (ns.map PyData.str) = true ∧ PyData.depthAll (ns.map PyData.str) = 0
  | [], _ => by simp [PyData.canLayAll0, PyData.depthAll]
  | n :: ns, h => by
    obtain ⟨h1, h2⟩ := lay_strs ns fun x hx => h x (List.mem_cons_of_mem _ hx)
    simp only [List.map_cons, PyData.canLayAll0, PyData.depthAll, PyData.canLay0, PyData.depth, low_ok (h n List.mem_cons_self), h1, h2, Bool.and_self, true_and]
    rfl
theorem strs_data {K : PySem.W.Frag} {H : Hp} {ns : List Str} (h : ∀ s ∈ ns, Low s) : ∃ dd, (∀ r, H r = some (.lst (ns.map V.str)) → Dp K H (.ref r) dd) ∧ SeqAt.shaped dd = true ∧ PyData.eqv dd dd = true := by
  obtain ⟨h1, h2⟩ := lay_strs ns h
  have hc : (PyData.list (ns.map PyData.str)).canLay0 = true := by simp only [PyData.canLay0, h1]
  refine ⟨.list (ns.map PyData.str), fun r hr => .lst (.of hr) (dp_strs ns), ?_, PySem.SeqAt.eqv_refl _ hc⟩
  unfold SeqAt.shaped
  rw [hc, Bool.true_and]
  exact decide_eq_true (by simp only [PyData.depth, h2]; omega)
theorem wd_low {s : Str} (h : Wd s) : Low s := fun c hc => by
  have := (h.2.2 c hc).2
  omega
theorem str_shaped {x : Str} (h : Low x) : SeqAt.shaped (.str x) = true := by
  unfold SeqAt.shaped
  simp only [PyData.canLay0, PyData.depth, low_ok h]
  rfl
theorem strs_shapedL {ns : List Str} (h : ∀ s ∈ ns, Low s) : SeqAt.shaped (.list (ns.map PyData.str)) = true := by
  obtain ⟨h1, h2⟩ := lay_strs ns h
  unfold SeqAt.shaped
  simp only [PyData.canLay0, PyData.depth, h1, h2]
  decide
/-! ### two dicts by what they hold -/
def valP (f : List (Key × PyData)) (k : Key) : Option PyData := (f.find? fun p => decide (p.1 = k)).map (·.2)
def optE : Option PyData → Option PyData → Bool
  | none, none => true
  | some a, some b => PyData.eqv a b
  | _, _ => false
def eqP (f g : List (Key × PyData)) : Bool := (f.length == g.length) && f.all fun p => match valP g p.1 with
  | none => false
  | some v => PyData.eqv p.2 v
theorem valP_mem {k : Key} {v : PyData} {f : List (Key × PyData)} (h : valP f k = some v) : (k, v) ∈ f := by
  unfold valP at h
  cases e : f.find? fun p => decide (p.1 = k) with
  | none => rw [e] at h; cases h
  | some p =>
    rw [e] at h
    have h1 := List.mem_of_find?_eq_some e
    have h2 : p.1 = k := by simpa using List.find?_some e
    have h3 : p = (k, v) := by rw [← h2, ← Option.some.inj h]
    rw [← h3]
    exact h1
theorem valP_nd {f : List (Key × PyData)} (nd : (f.map (·.1)).Nodup) {k : Key} {v : PyData} (h : (k, v) ∈ f) : valP f k = some v := by
  induction f with
  | nil => cases h
  | cons p f ih =>
    rw [List.map_cons] at nd
    obtain ⟨n1, n2⟩ := List.nodup_cons.mp nd
    unfold valP at ih ⊢
    rcases List.mem_cons.mp h with rfl | h
    · rw [List.find?_cons_of_pos (by simp)]
      rfl
    · rw [List.find?_cons_of_neg ?_]
      · exact ih n2 h
      · intro z
        have z' : p.1 = k := by simpa using z
        exact n1 (by rw [z']; exact List.mem_map.mpr ⟨_, h, rfl⟩)
theorem valP_none {f : List (Key × PyData)} {k : Key} (h : valP f k = none) : k ∉ f.map (·.1) := fun hm => by
  obtain ⟨p, hp, e⟩ := List.mem_map.mp hm
  unfold valP at h
  cases e2 : f.find? fun p => decide (p.1 = k) with
  | some q => rw [e2] at h; cases h
  | none =>
    have := List.find?_eq_none.mp e2 p hp
    simp [e] at this
theorem eqP_iff {f g : List (Key × PyData)} (nf : (f.map (·.1)).Nodup) (ng : (g.map (·.1)).Nodup) : eqP f g = true ↔ ∀ k, optE (valP f k) (valP g k) = true := by
  unfold eqP
  rw [Bool.and_eq_true, List.all_eq_true, beq_iff_eq]
  constructor
  · rintro ⟨h1, h2⟩ k
    have sub : ∀ x ∈ f.map (·.1), x ∈ g.map (·.1) := fun x hx => by
      obtain ⟨p, hp, rfl⟩ := List.mem_map.mp hx
      have := h2 p hp
      cases e : valP g p.1 with
      | none => rw [e] at this; cases this
      | some v => exact List.mem_map.mpr ⟨_, valP_mem e, rfl⟩
    have back := (nd_sub nf sub).2 (by rw [List.length_map, List.length_map, h1]; exact Nat.le_refl _)
    cases e1 : valP f k with
    | none =>
      cases e2 : valP g k with
      | none => rfl
      | some v => exact absurd (back k (List.mem_map.mpr ⟨_, valP_mem e2, rfl⟩)) (valP_none e1)
    | some u =>
      have := h2 _ (valP_mem e1)
      cases e2 : valP g k with
      | none =>
        have e2' : valP g (k, u).1 = none := e2
        rw [e2'] at this
        cases this
      | some v =>
        have e2' : valP g (k, u).1 = some v := e2
        rw [e2'] at this
        exact this
  · intro h
    have key : ∀ f g : List (Key × PyData), (∀ k, optE (valP f k) (valP g k) = true) → (f.map (·.1)).Nodup → ∀ x ∈ f.map (·.1), x ∈ g.map (·.1) := fun f g h nf x hx => by
      obtain ⟨p, hp, rfl⟩ := List.mem_map.mp hx
      have := h p.1
      rw [valP_nd nf (k := p.1) (v := p.2) hp] at this
      cases e : valP g p.1 with
      | none => rw [e] at this; cases this
      | some v => exact List.mem_map.mpr ⟨_, valP_mem e, rfl⟩
    have h' : ∀ k, optE (valP g k) (valP f k) = true := fun k => by
      have := h k
      cases e1 : valP f k <;> cases e2 : valP g k <;> rw [e1, e2] at this <;> try (first | rfl | cases this)
      show PyData.eqv _ _ = true
      rw [PySem.W.eqv_comm]
      exact this
    have l1 := (nd_sub nf (key f g h nf)).1
    have l2 := (nd_sub ng (key g f h' ng)).1
    rw [List.length_map, List.length_map] at l1 l2
    refine ⟨by omega, fun p hp => ?_⟩
    have := h p.1
    rw [valP_nd nf (k := p.1) (v := p.2) hp] at this
    cases e : valP g p.1 with
    | none => rw [e] at this; cases this
    | some v => rw [e] at this; exact this
theorem optE_comm (a b : Option PyData) : optE a b = optE b a := by
  cases a <;> cases b <;> try rfl
  exact PySem.W.eqv_comm _ _
theorem eqP_comm {f g : List (Key × PyData)} (nf : (f.map (·.1)).Nodup) (ng : (g.map (·.1)).Nodup) : eqP f g = eqP g f := by
  apply Bool.eq_iff_iff.mpr
  rw [eqP_iff nf ng, eqP_iff ng nf]
  exact ⟨fun h k => by rw [optE_comm]; exact h k, fun h k => by rw [optE_comm]; exact h k⟩
theorem permP_nd {f g : List (Key × PyData)} (p : f.Perm g) (ng : (g.map (·.1)).Nodup) : (f.map (·.1)).Nodup := (p.map (·.1)).nodup_iff.mpr ng
theorem valP_perm {f g : List (Key × PyData)} (p : f.Perm g) (ng : (g.map (·.1)).Nodup) (k : Key) : valP f k = valP g k := by
  cases h : valP g k with
  | some v => exact valP_nd (permP_nd p ng) (p.mem_iff.mpr (valP_mem h))
  | none =>
    cases h' : valP f k with
    | none => rfl
    | some v => rw [valP_nd ng (p.mem_iff.mp (valP_mem h'))] at h; cases h
theorem eqP_perm {f f' g g' : List (Key × PyData)} (p : f.Perm f') (q : g.Perm g') (nf : (f'.map (·.1)).Nodup) (ng : (g'.map (·.1)).Nodup) : eqP f g = eqP f' g' := by
  apply Bool.eq_iff_iff.mpr
  rw [eqP_iff (permP_nd p nf) (permP_nd q ng), eqP_iff nf ng]
  exact ⟨fun h k => by have := h k; rw [valP_perm p nf, valP_perm q ng] at this; exact this, fun h k => by rw [valP_perm p nf, valP_perm q ng]; exact h k⟩
theorem eqP_refl {f : List (Key × PyData)} (nf : (f.map (·.1)).Nodup) (hd : ∀ p ∈ f, SeqAt.shaped p.2 = true) : eqP f f = true := by
  rw [eqP_iff nf nf]
  intro k
  cases e : valP f k with
  | none => rfl
  | some v => exact PySem.SeqAt.eqv_refl v (PySem.SeqAt.canLay_of_shaped (hd _ (valP_mem e)))
/-! data at an address, two levels deep -/
def dt0 : V → PyData
  | .int i => .int i
  | .str s => .str s
  | .bl b => .bool b
  | _ => .none
def dt1 (H : Hp) : V → PyData
  | .ref a => match H a with
    | some (.tup xs) => .tuple (xs.map dt0)
    | _ => .none
  | v => dt0 v
def dt2 (H : Hp) : V → PyData
  | .ref a => match H a with
    | some (.tup xs) => .tuple (xs.map (dt1 H))
    | _ => .none
  | v => dt0 v
/-- a dict at t that holds this data, in any order -/
def DDat (K : PySem.W.Frag) (H : Hp) (t : Addr) (f : List (Key × PyData)) : Prop := ∃ ks, H t = some (.dK ks) ∧ (ks.map fun p => (p.1, dt2 H p.2)).Perm f ∧ ∀ p ∈ ks, Dp K H p.2 (dt2 H p.2) ∧ SeqAt.shaped (dt2 H p.2) = true
theorem valP_map (D : V → PyData) (k : Key) : ∀ ls : List (Key × V), valP (ls.map fun p => (p.1, D p.2)) k = (valV ls k).map D
  | [] => rfl
  | p :: ls => by
    have ih := valP_map D k ls
    unfold valP at ih ⊢
    rw [List.map_cons]
    by_cases e : p.1 = k
    · rw [valV_pos e, List.find?_cons_of_pos (by simp [e])]
      rfl
    · rw [valV_neg e, List.find?_cons_of_neg (by simp [e])]
      exact ih
theorem eqT_P (D : V → PyData) (ks ls : List (Key × V)) : L2.eqT D ks ls = eqP (ks.map fun p => (p.1, D p.2)) (ls.map fun p => (p.1, D p.2)) := by
  unfold L2.eqT eqP
  rw [List.length_map, List.length_map, List.all_map]
  congr 1
  congr 1
  funext p
  show (match valV ls p.1 with | none => false | some v => PyData.eqv (D p.2) (D v)) = match valP (ls.map fun p => (p.1, D p.2)) p.1 with | none => false | some v => PyData.eqv (D p.2) v
  rw [valP_map]
  cases valV ls p.1 <;> rfl
theorem rEqT_of {K : PySem.W.Frag} {H : Hp} {a b : Addr} {f g : List (Key × PyData)} {neg : Bool} {Q : VK} (h1 : DDat K H a f) (h2 : DDat K H b g) (nf : (f.map (·.1)).Nodup) (ng : (g.map (·.1)).Nodup) (q : Q (.bl (if neg then !eqP f g else eqP f g)) H) : rEqT K neg (.ref a) (.ref b) H Q := by
  obtain ⟨ks, e1, p1, d1⟩ := h1
  obtain ⟨ls, e2, p2, d2⟩ := h2
  refine ⟨a, b, ks, ls, dt2 H, rfl, rfl, e1, e2, d1, d2, ?_⟩
  rw [eqT_P, eqP_perm p1 p2 nf ng]
  exact q
theorem DDat.of {K : PySem.W.Frag} {H : Hp} {t : Addr} {kvs : List (Key × V)} {f : List (Key × PyData)} (h : DctAt H t kvs) (e : (kvs.map fun p => (p.1, dt2 H p.2)) = f) (hd : ∀ p ∈ kvs, Dp K H p.2 (dt2 H p.2) ∧ SeqAt.shaped (dt2 H p.2) = true) : DDat K H t f := by
  obtain ⟨ks, e1, p⟩ := h
  exact ⟨ks, e1, by rw [← e]; exact p.map _, fun x hx => hd x (p.mem_iff.mp hx)⟩
/-! the data of tables, keys and services -/
def tabP (ts : List (Str × Int)) : List (Key × PyData) := ts.map fun p => (Sum.inr p.1, .int p.2)
def keyP (ks : List KeyE) : List (Key × PyData) := ks.map fun b => (Sum.inr b.1, .tuple (b.2.2.map PyData.int))
def capP : Option Int → PyData
  | none => .none
  | some c => .int c
def svP (ss : List SvE) : List (Key × PyData) := ss.map fun b => (Sum.inr b.name, .tuple [.str b.tab, .tuple (b.cols.map PyData.int), capP b.cap])
theorem tabP_nd {ts : List (Str × Int)} {m : Nat} {wm : Int} (h : Tabs ts m wm) : ((tabP ts).map (·.1)).Nodup := by
  have := tab_nd h
  unfold tabK at this
  unfold tabP
  rw [List.map_map] at this ⊢
  exact this
theorem keyP_nd {H : Hp} {ts : List (Str × Int)} {ks : List KeyE} (h : Keys H ts ks) : ((keyP ks).map (·.1)).Nodup := by
  have := inr_nd h.nd
  unfold keyP
  rw [List.map_map] at this ⊢
  exact this
theorem svP_nd {ss : List SvE} {n : Nat} (h : Nms (ss.map (·.name)) n) : ((svP ss).map (·.1)).Nodup := by
  have := inr_nd h.nd
  unfold svP
  rw [List.map_map] at this ⊢
  exact this
theorem wd_strOk {s : Str} (h : Wd s) : PyData.strOk s = true := by
  unfold PyData.strOk
  rw [Array.all_eq_true_iff_forall_mem]
  intro c hc
  have := (h.2.2 c (Array.mem_toList_iff.mpr hc)).2
  exact decide_eq_true (by omega)
theorem ints_tup_shaped (ns : List Int) : SeqAt.shaped (.tuple (ns.map PyData.int)) = true := by
  obtain ⟨h1, h2⟩ := lay_ints ns
  show ((PyData.tuple (ns.map PyData.int)).canLay0 && decide ((PyData.tuple (ns.map PyData.int)).depth ≤ 64)) = true
  simp only [PyData.canLay0, PyData.depth, h1, h2]
  decide
theorem sv_shaped {n : Str} (hn : PyData.strOk n = true) (ns : List Int) (c : Option Int) : SeqAt.shaped (.tuple [.str n, .tuple (ns.map PyData.int), capP c]) = true := by
  obtain ⟨h1, h2⟩ := lay_ints ns
  show ((PyData.tuple [.str n, .tuple (ns.map PyData.int), capP c]).canLay0 && decide ((PyData.tuple [.str n, .tuple (ns.map PyData.int), capP c]).depth ≤ 64)) = true
  cases c <;> simp only [PyData.canLay0, PyData.depth, PyData.canLayAll0, PyData.depthAll, capP, h1, h2, hn] <;> decide
theorem dt1_ints {H : Hp} {a : Addr} {ns : List Int} (h : H a = some (.tup (ns.map V.int))) : dt1 H (.ref a) = .tuple (ns.map PyData.int) := by
  show (match H a with | some (.tup xs) => PyData.tuple (xs.map dt0) | _ => .none) = _
  rw [h]
  show PyData.tuple ((ns.map V.int).map dt0) = _
  rw [List.map_map]
  rfl
theorem dt2_ints {H : Hp} {a : Addr} {ns : List Int} (h : H a = some (.tup (ns.map V.int))) : dt2 H (.ref a) = .tuple (ns.map PyData.int) := by
  show (match H a with | some (.tup xs) => PyData.tuple (xs.map (dt1 H)) | _ => .none) = _
  rw [h]
  show PyData.tuple ((ns.map V.int).map (dt1 H)) = _
  rw [List.map_map]
  rfl
theorem dt_cap (H : Hp) (c : Option Int) : dt1 H (capV c) = capP c := by cases c <;> rfl
theorem dp_cap {K : PySem.W.Frag} {H : Hp} (c : Option Int) : Dp K H (capV c) (capP c) := by
  cases c with
  | none => exact .non
  | some i => exact .int i
theorem dt2_told {H : Hp} {v ga : Addr} {n : Str} {cs : List Int} {c : Option Int} (h : Told H v n ga cs c) : dt2 H (.ref v) = .tuple [.str n, .tuple (cs.map PyData.int), capP c] := by
  show (match H v with | some (.tup xs) => PyData.tuple (xs.map (dt1 H)) | _ => .none) = _
  rw [h.tup]
  show PyData.tuple [dt1 H (.str n), dt1 H (.ref ga), dt1 H (capV c)] = _
  rw [dt1_ints h.cols, dt_cap]
  rfl
theorem ddat_tab {K : PySem.W.Frag} {H : Hp} {t : Addr} {ts : List (Str × Int)} (h : DctAt H t (tabK ts)) : DDat K H t (tabP ts) := by
  refine .of h ?_ fun p hp => ?_
  · unfold tabK tabP
    rw [List.map_map]
    rfl
  · obtain ⟨b, _, rfl⟩ := List.mem_map.mp hp
    exact ⟨.int _, rfl⟩
theorem ddat_key {K : PySem.W.Frag} {H : Hp} {t : Addr} {ts : List (Str × Int)} {ks : List KeyE} (h : DctAt H t (keyK ks)) (hK : Keys H ts ks) : DDat K H t (keyP ks) := by
  refine .of h ?_ fun p hp => ?_
  · unfold keyK keyP
    rw [List.map_map]
    refine List.map_congr_left fun b hb => ?_
    show (Sum.inr b.1, dt2 H (.ref b.2.1)) = _
    rw [dt2_ints (hK.at_ b hb)]
  · obtain ⟨b, hb, rfl⟩ := List.mem_map.mp hp
    show Dp K H (.ref b.2.1) (dt2 H (.ref b.2.1)) ∧ SeqAt.shaped (dt2 H (.ref b.2.1)) = true
    rw [dt2_ints (hK.at_ b hb)]
    exact ⟨.tup (.of (hK.at_ b hb)) (dp_ints _), ints_tup_shaped _⟩
theorem ddat_sv {K : PySem.W.Frag} {H : Hp} {t : Addr} {ss : List SvE} (h : DctAt H t (svK ss)) (hS : ∀ b ∈ ss, Told H b.at_ b.tab b.ga b.cols b.cap ∧ Wd b.tab) : DDat K H t (svP ss) := by
  refine .of h ?_ fun p hp => ?_
  · unfold svK svP
    rw [List.map_map]
    refine List.map_congr_left fun b hb => ?_
    show (Sum.inr b.name, dt2 H (.ref b.at_)) = _
    rw [dt2_told (hS b hb).1]
  · obtain ⟨b, hb, rfl⟩ := List.mem_map.mp hp
    show Dp K H (.ref b.at_) (dt2 H (.ref b.at_)) ∧ SeqAt.shaped (dt2 H (.ref b.at_)) = true
    rw [dt2_told (hS b hb).1]
    exact ⟨.tup (.of (hS b hb).1.tup) (.cons (.str _) (.cons (.tup (.of (hS b hb).1.cols) (dp_ints _)) (.cons (dp_cap _) .nil))), sv_shaped (wd_strOk (hS b hb).2) _ _⟩
/-! ### uncapped -/
def uncE (ss : List SvE) (n : Str) (p : Addr) : List SvE := ss.map fun c => if c.name = n then { c with at_ := p, cap := none } else c
theorem uncE_names (ss : List SvE) (n : Str) (p : Addr) : (uncE ss n p).map (·.name) = ss.map (·.name) := by
  unfold uncE
  rw [List.map_map]
  refine List.map_congr_left fun c _ => ?_
  show (if c.name = n then _ else c).name = c.name
  split <;> rfl
theorem fillE_unc (ts : List (Str × Int)) (ks : List KeyE) (n : Str) (p : Addr) : ∀ ss : List SvE, (fillE ts ks (uncE ss n p)).Sublist (fillE ts ks ss)
  | [] => List.Sublist.refl _
  | c :: ss => by
    have ih := fillE_unc ts ks n p ss
    unfold fillE uncE at ih ⊢
    rw [List.map_cons]
    by_cases e : c.name = n
    · rw [if_pos e]
      have hw : whE ts ks { c with at_ := p, cap := none } = true := rfl
      rw [List.filter_cons_of_neg (by rw [hw]; decide)]
      by_cases h : whE ts ks c = true
      · rw [List.filter_cons_of_neg (by rw [h]; decide)]
        exact ih
      · rw [List.filter_cons_of_pos (by simp [h]), List.map_cons]
        exact ih.cons _
    · rw [if_neg e]
      by_cases h : whE ts ks c = true
      · rw [List.filter_cons_of_neg (by rw [h]; decide), List.filter_cons_of_neg (by rw [h]; decide)]
        exact ih
      · rw [List.filter_cons_of_pos (by simp [h]), List.filter_cons_of_pos (by simp [h]), List.map_cons, List.map_cons]
        exact ih.cons₂ _
theorem putK_map {ss : List SvE} {n : Str} (p : Addr) (h : n ∈ ss.map (·.name)) : putK (svK ss) (Sum.inr n) (V.ref p) = svK (uncE ss n p) := by
  unfold putK
  have ha : ((svK ss).any fun kv => decide (kv.1 = Sum.inr n)) = true := by
    obtain ⟨b, hb, e⟩ := List.mem_map.mp h
    exact List.any_eq_true.mpr ⟨_, List.mem_map.mpr ⟨b, hb, rfl⟩, decide_eq_true (by rw [e])⟩
  rw [if_pos ha]
  unfold svK uncE
  rw [List.map_map, List.map_map]
  refine List.map_congr_left fun c _ => ?_
  show (if (Sum.inr c.name : Key) = Sum.inr n then _ else _) = (fun b : SvE => ((Sum.inr b.name : Key), V.ref b.at_)) (if c.name = n then _ else c)
  by_cases e : c.name = n
  · rw [if_pos e, if_pos (by rw [e])]
  · rw [if_neg e, if_neg (fun z => e (Sum.inr.inj z))]
theorem putK_perm {κ : Type} [DecidableEq κ] {a b : List (κ × V)} (p : a.Perm b) (k : κ) (v : V) : (putK a k v).Perm (putK b k v) := by
  unfold putK
  have e : (a.any fun kv => decide (kv.1 = k)) = b.any fun kv => decide (kv.1 = k) := by
    apply Bool.eq_iff_iff.mpr
    rw [List.any_eq_true, List.any_eq_true]
    exact ⟨fun ⟨x, hx, h⟩ => ⟨x, p.mem_iff.mp hx, h⟩, fun ⟨x, hx, h⟩ => ⟨x, p.mem_iff.mpr hx, h⟩⟩
  rw [e]
  split
  · exact p.map _
  · exact p.append_right _
theorem name_uniq : ∀ {ss : List SvE} {b c : SvE}, (ss.map (·.name)).Nodup → b ∈ ss → c ∈ ss → b.name = c.name → b = c
  | x :: ss, b, c, nd, hb, hc, e => by
    rw [List.map_cons] at nd
    obtain ⟨n1, n2⟩ := List.nodup_cons.mp nd
    rcases List.mem_cons.mp hb with rfl | hb
    · rcases List.mem_cons.mp hc with rfl | hc
      · rfl
      · exact absurd (by rw [e]; exact List.mem_map.mpr ⟨_, hc, rfl⟩) n1
    · rcases List.mem_cons.mp hc with rfl | hc
      · exact absurd (by rw [← e]; exact List.mem_map.mpr ⟨_, ‹b ∈ ss›, rfl⟩) n1
      · exact name_uniq n2 ‹b ∈ ss› ‹c ∈ ss› e
section
/-! ### a schema's parts changed -/
theorem kd_names {kd : List (Key × V)} {zs : List Str} (h : kd.map (·.1) = zs.map Sum.inr) : kd.map (fun kv => kV kv.1) = zs.map V.str := by
  have : kd.map (fun kv => kV kv.1) = (kd.map (·.1)).map kV := by rw [List.map_map]; rfl
  rw [this, h, List.map_map]
  rfl
def upTs (ts : List (Str × Int)) (n : Str) (w : Int) : List (Str × Int) := ts.map fun b => if b.1 = n then (b.1, w) else b
theorem upTs_names (ts : List (Str × Int)) (n : Str) (w : Int) : (upTs ts n w).map (·.1) = ts.map (·.1) := by
  unfold upTs
  rw [List.map_map]
  refine List.map_congr_left fun b _ => ?_
  show (if b.1 = n then (b.1, w) else b).1 = b.1
  split <;> rfl
theorem upTs_put {ts : List (Str × Int)} {n : Str} {w : Int} (h : n ∈ ts.map (·.1)) : putK (tabK ts) (Sum.inr n) (.int w) = tabK (upTs ts n w) := by
  unfold putK
  have ha : ((tabK ts).any fun kv => decide (kv.1 = Sum.inr n)) = true := by
    obtain ⟨b, hb, e⟩ := List.mem_map.mp h
    exact List.any_eq_true.mpr ⟨_, List.mem_map.mpr ⟨b, hb, rfl⟩, decide_eq_true (by rw [e])⟩
  rw [if_pos ha]
  unfold tabK upTs
  rw [List.map_map, List.map_map]
  refine List.map_congr_left fun c _ => ?_
  show (if (Sum.inr c.1 : Key) = Sum.inr n then _ else _) = (fun b : Str × Int => ((Sum.inr b.1 : Key), V.int b.2)) (if c.1 = n then (c.1, w) else c)
  by_cases e : c.1 = n
  · rw [if_pos e, if_pos (by rw [e])]
  · rw [if_neg e, if_neg (fun z => e (Sum.inr.inj z))]
theorem upTs_len (ts : List (Str × Int)) (n : Str) (w : Int) : (upTs ts n w).length = ts.length := List.length_map ..
theorem upTs_mem {ts : List (Str × Int)} {n x : Str} {w v : Int} (h : (x, v) ∈ ts) (nd : (ts.map (·.1)).Nodup) {v0 : Int} (h0 : (n, v0) ∈ ts) (hw : v0 ≤ w) : ∃ v', (x, v') ∈ upTs ts n w ∧ v ≤ v' := by
  by_cases e : x = n
  · subst e
    have : v = v0 := by rw [← widthAt_mem nd h, ← widthAt_mem nd h0]
    refine ⟨w, List.mem_map.mpr ⟨_, h, by rw [if_pos rfl]⟩, by omega⟩
  · exact ⟨v, List.mem_map.mpr ⟨_, h, by rw [if_neg e]⟩, Int.le_refl _⟩
theorem Tabs.upd {ts : List (Str × Int)} {m : Nat} {wm : Int} {n : Str} {w : Int} (h : Tabs ts m wm) (h1 : 1 ≤ w) (h2 : w ≤ wm) : Tabs (upTs ts n w) m wm := ⟨by rw [upTs_names]; exact h.nm, fun b hb => by
  obtain ⟨c, hc, rfl⟩ := List.mem_map.mp hb
  show 1 ≤ (if c.1 = n then (c.1, w) else c).2 ∧ (if c.1 = n then (c.1, w) else c).2 ≤ wm
  split
  · exact ⟨h1, h2⟩
  · exact h.wd c hc⟩
theorem Keys.upTs {H : Hp} {ts : List (Str × Int)} {ks : List KeyE} {m : Nat} {wm : Int} {n : Str} {w v0 : Int} (hT : Tabs ts m wm) (h : Keys H ts ks) (h0 : (n, v0) ∈ ts) (hw : v0 ≤ w) : Keys H (upTs ts n w) ks :=
  ⟨h.nd, by rw [upTs_len]; exact h.le, h.at_, fun b hb => by
    obtain ⟨v, hv, hc, h1, h2⟩ := h.ok b hb
    obtain ⟨v', hv', hle⟩ := upTs_mem hv hT.nm.nd h0 hw
    exact ⟨v', hv', hc.up hle, h1, by omega⟩⟩
theorem SvOk.upTs {H : Hp} {ts : List (Str × Int)} {b : SvE} {m : Nat} {wm : Int} {n : Str} {w v0 : Int} (hT : Tabs ts m wm) (h : SvOk H ts b) (h0 : (n, v0) ∈ ts) (hw : v0 ≤ w) : SvOk H (upTs ts n w) b := by
  obtain ⟨v, hv, hc, hl⟩ := h.ok
  obtain ⟨v', hv', hle⟩ := upTs_mem hv hT.nm.nd h0 hw
  exact ⟨h.told, ⟨v', hv', hc.up hle, hl⟩, h.cap⟩
structure Ch3 (p t k v : Addr) (m n : Nat) (H0 H : Hp) (ts : List (Str × Int)) (ks : List KeyE) (ss : List SvE) : Prop where
  mm : m ≤ 26
  nn : n ≤ 26
  pool : PoolAt H p
  tb : DctAt H t (tabK ts)
  ky : DctAt H k (keyK ks)
  sv : DctAt H v (svK ss)
  hT : Tabs ts m 4
  hK : Keys H ts ks
  hS : ∀ b ∈ ss, SvOk H ts b
  nm : Nms (ss.map (·.name)) n
  oth : ∀ b o, b ≠ p → b ≠ t → b ≠ k → b ≠ v → H0 b = some o → H b = some o
theorem DctAt.ne {H : Hp} {t p : Addr} {kvs : List (Key × V)} (h : DctAt H t kvs) (hP : PoolAt H p) : t ≠ p := by
  obtain ⟨kd, e, _⟩ := h
  exact pool_ne hP e (by intro _ z; cases z)
theorem DctAt.chg {H H' : Hp} {t p : Addr} {kvs : List (Key × V)} (h : DctAt H t kvs) (hP : PoolAt H p) (c : Chg p H H') : DctAt H' t kvs := by
  have n := h.ne hP
  obtain ⟨kd, e, q⟩ := h
  exact ⟨kd, c.at n e, q⟩
theorem pool_ne' {H : Hp} {p b : Addr} (h : PoolAt H p) (e : H b = none) : b ≠ p := Chg.ne h e
theorem Ch3.chg {p t k v : Addr} {m n : Nat} {H0 H H' : Hp} {ts : List (Str × Int)} {ks : List KeyE} {ss : List SvE} (h : Ch3 p t k v m n H0 H ts ks ss) (c : Chg p H H') : Ch3 p t k v m n H0 H' ts ks ss :=
  ⟨h.mm, h.nn, c.1, h.tb.chg h.pool c, h.ky.chg h.pool c, h.sv.chg h.pool c, h.hT, h.hK.mono (chg_tup h.pool c), fun b hb => (h.hS b hb).mono (chg_tup h.pool c), h.nm, fun b o n1 n2 n3 n4 e => c.at n1 (h.oth b o n1 n2 n3 n4 e)⟩
theorem Ch3.same {p t k v : Addr} {m n : Nat} {H0 H H' : Hp} {ts : List (Str × Int)} {ks : List KeyE} {ss : List SvE} (h : Ch3 p t k v m n H0 H ts ks ss) (c : Same H H') : Ch3 p t k v m n H0 H' ts ks ss :=
  ⟨h.mm, h.nn, h.pool.same c, h.tb.same c, h.ky.same c, h.sv.same c, h.hT, h.hK.mono fun _ _ e => c _ _ e, fun b hb => (h.hS b hb).mono fun _ _ e => c _ _ e, h.nm, fun b o n1 n2 n3 n4 e => c _ _ (h.oth b o n1 n2 n3 n4 e)⟩
/-- a dict of the three is written -/
theorem DctAt.oth {H : Hp} {t b : Addr} {kvs : List (Key × V)} {o : HO} (h : DctAt H t kvs) (n : t ≠ b) : DctAt (upd H b o) t kvs := by
  obtain ⟨kd, e, q⟩ := h
  exact ⟨kd, by rw [upd_ne n]; exact e, q⟩
theorem DctAt.putD {H : Hp} {t : Addr} {kvs : List (Key × V)} {k : Key} {v : V} (h : DctAt H t kvs) : ∃ kd, H t = some (.dK kd) ∧ kd.length = kvs.length ∧ DctAt (upd H t (.dK (putK kd k v))) t (putK kvs k v) := by
  obtain ⟨kd, e, q⟩ := h
  exact ⟨kd, e, q.length_eq, _, upd_same, putK_perm q k v⟩
theorem DctAt.tup {H : Hp} {t : Addr} {kvs : List (Key × V)} (h : DctAt H t kvs) (o : HO) : ∀ b xs, H b = some (.tup xs) → upd H t o b = some (.tup xs) := by
  obtain ⟨kd, e, q⟩ := h
  exact upd_tup e (by intro _ z; cases z)
theorem DctAt.pool {H : Hp} {t p : Addr} {kvs : List (Key × V)} (h : DctAt H t kvs) (hP : PoolAt H p) (o : HO) : PoolAt (upd H t o) p := by
  have n := h.ne hP
  obtain ⟨p0, p1, p2, p3, r, e, c⟩ := hP
  exact ⟨p0, p1, p2, p3, r, by rw [upd_ne n.symm]; exact e, c⟩
theorem keyK_drop (ks : List KeyE) (n : Str) : dropK (keyK ks) (Sum.inr n) = keyK (ks.filter fun b => decide (b.1 ≠ n)) := by
  unfold dropK keyK
  rw [List.filter_map]
  congr 1
  refine List.filter_congr fun b _ => ?_
  show decide ((Sum.inr b.1 : Key) ≠ Sum.inr n) = decide (b.1 ≠ n)
  by_cases e : b.1 = n
  · rw [e]
    simp
  · have e' : (Sum.inr b.1 : Key) ≠ Sum.inr n := fun z => e (Sum.inr.inj z)
    rw [decide_eq_true e, decide_eq_true e']
theorem dropK_perm {κ : Type} [DecidableEq κ] {x y : List (κ × V)} (p : x.Perm y) (k : κ) : (dropK x k).Perm (dropK y k) := p.filter _
theorem Ch3.putT {p t k v : Addr} {m n : Nat} {H0 H : Hp} {ts : List (Str × Int)} {ks : List KeyE} {ss : List SvE} (h : Ch3 p t k v m n H0 H ts ks ss) (ntk : t ≠ k) (ntv : t ≠ v) {nm : Str} {w w' : Int} (hm : (nm, w) ∈ ts) (h1 : w ≤ w') (h2 : w' ≤ 4) :
    ∃ kd, H t = some (.dK kd) ∧ kd.length < sizeLine ∧ Ch3 p t k v m n H0 (upd H t (.dK (putK kd (Sum.inr nm) (.int w')))) (upTs ts nm w') ks ss := by
  have hw := h.hT.wd _ hm
  have hmem : nm ∈ ts.map (·.1) := List.mem_map.mpr ⟨_, hm, rfl⟩
  obtain ⟨kd, e, l, d⟩ := h.tb.putD (k := Sum.inr nm) (v := .int w')
  rw [upTs_put hmem] at d
  have tup := h.tb.tup (.dK (putK kd (Sum.inr nm) (.int w')))
  refine ⟨kd, e, ?_, h.mm, h.nn, h.tb.pool h.pool _, d, h.ky.oth ntk.symm, h.sv.oth ntv.symm, h.hT.upd (by have := hw.1; omega) h2, (h.hK.upTs h.hT hm h1).mono tup, fun b hb => ((h.hS b hb).upTs h.hT hm h1).mono tup, h.nm, fun b o n1 n2 n3 n4 e => ?_⟩
  · rw [l]
    unfold tabK
    rw [List.length_map, h.hT.len]
    have := h.hT.len
    have := h.mm
    exact small1000 (by omega)
  · rw [upd_ne n2]
    exact h.oth b o n1 n2 n3 n4 e
theorem Ch3.putK_ {p t k v : Addr} {m n : Nat} {H0 H : Hp} {ts : List (Str × Int)} {ks : List KeyE} {ss : List SvE} (h : Ch3 p t k v m n H0 H ts ks ss) (ntk : t ≠ k) (nkv : k ≠ v) {nm : Str} {w : Int} (hm : (nm, w) ∈ ts) (h1 : 1 < w) (hno : nm ∉ ks.map (·.1)) {x : Addr} (hx : H x = some (.tup [.int (w - 1)])) :
    ∃ kd, H k = some (.dK kd) ∧ kd.length < sizeLine ∧ Ch3 p t k v m n H0 (upd H k (.dK (putK kd (Sum.inr nm) (.ref x)))) ts (ks ++ [(nm, x, [w - 1])]) ss := by
  obtain ⟨kd, e, l, d⟩ := h.ky.putD (k := Sum.inr nm) (v := .ref x)
  have e1 : putK (keyK ks) (Sum.inr nm) (V.ref x) = keyK (ks ++ [(nm, x, [w - 1])]) := by
    unfold keyK
    rw [snoc_map]
    refine putK_new _ (valV_no ?_)
    have e := keys_key ks
    unfold keyK at e
    rw [e]
    exact inr_no hno
  rw [e1] at d
  have tup := h.ky.tup (.dK (putK kd (Sum.inr nm) (.ref x)))
  have hlen := h.hK.le
  have hlt := h.hT.len
  have hmm := h.mm
  have nd : ((ks ++ [(nm, x, [w - 1])]).map (·.1)).Nodup := by
    rw [snoc_map]
    exact List.nodup_append.mpr ⟨h.hK.nd, by simp, fun a ha b hb e => hno (by have hb' : b = nm := List.mem_singleton.mp hb; rw [← hb', ← e]; exact ha)⟩
  have hok : ∀ b ∈ ks ++ [(nm, x, [w - 1])], ∃ w', (b.1, w') ∈ ts ∧ Cols b.2.2 w' ∧ 1 ≤ b.2.2.length ∧ (b.2.2.length : Int) < w' := fun b hb => by
    rcases List.mem_append.mp hb with h' | h'
    · exact h.hK.ok b h'
    · rw [List.mem_singleton.mp h']
      refine ⟨w, hm, ⟨List.pairwise_singleton _ _, fun c hc => ?_⟩, Nat.le_refl 1, h1⟩
      rw [List.mem_singleton.mp hc]
      omega
  have le' : (ks ++ [(nm, x, [w - 1])]).length ≤ ts.length := by
    have sub := (nd_sub nd (ys := ts.map (·.1)) fun y hy => by
      obtain ⟨b, hb, rfl⟩ := List.mem_map.mp hy
      obtain ⟨w', hw', _⟩ := hok b hb
      exact List.mem_map.mpr ⟨_, hw', rfl⟩).1
    rw [List.length_map, List.length_map] at sub
    exact sub
  refine ⟨kd, e, ?_, h.mm, h.nn, h.ky.pool h.pool _, h.tb.oth ntk, d, h.sv.oth nkv.symm, h.hT, ⟨nd, le', fun b hb => ?_, hok⟩, fun b hb => (h.hS b hb).mono tup, h.nm, fun b o n1 n2 n3 n4 e => ?_⟩
  · rw [l]
    unfold keyK
    rw [List.length_map]
    exact small1000 (by omega)
  · rcases List.mem_append.mp hb with h' | h'
    · exact tup _ _ (h.hK.at_ b h')
    · rw [List.mem_singleton.mp h']
      exact tup _ _ hx
  · rw [upd_ne n3]
    exact h.oth b o n1 n2 n3 n4 e
theorem Ch3.dropK_ {p t k v : Addr} {m n : Nat} {H0 H : Hp} {ts : List (Str × Int)} {ks : List KeyE} {ss : List SvE} (h : Ch3 p t k v m n H0 H ts ks ss) (ntk : t ≠ k) (nkv : k ≠ v) {nm : Str} {b : KeyE} (hb : keyAt ks nm = some b) :
    ∃ kd, H k = some (.dK kd) ∧ valV kd (Sum.inr nm) = some (.ref b.2.1) ∧ Ch3 p t k v m n H0 (upd H k (.dK (dropK kd (Sum.inr nm)))) ts (ks.filter fun c => decide (c.1 ≠ nm)) ss := by
  obtain ⟨kd, e, q⟩ := h.ky
  have nd := key_nd h.hT h.hK
  have hv : valV kd (Sum.inr nm) = some (.ref b.2.1) := by
    rw [valV_perm q nd, keyAt_val, hb]
    rfl
  have tup := h.ky.tup (.dK (dropK kd (Sum.inr nm)))
  have sl : (ks.filter fun c => decide (c.1 ≠ nm)).Sublist ks := List.filter_sublist
  refine ⟨kd, e, hv, h.mm, h.nn, h.ky.pool h.pool _, h.tb.oth ntk, ⟨_, upd_same, ?_⟩, h.sv.oth nkv.symm, h.hT, ⟨h.hK.nd.sublist (sl.map _), Nat.le_trans sl.length_le h.hK.le, fun c hc => tup _ _ (h.hK.at_ c (sl.subset hc)), fun c hc => h.hK.ok c (sl.subset hc)⟩, fun b hb => (h.hS b hb).mono tup, h.nm, fun b o n1 n2 n3 n4 e => ?_⟩
  · rw [← keyK_drop]
    exact dropK_perm q _
  · rw [upd_ne n3]
    exact h.oth b o n1 n2 n3 n4 e
theorem Ch3.putS {p t k v : Addr} {m n : Nat} {H0 H : Hp} {ts : List (Str × Int)} {ks : List KeyE} {ss : List SvE} (h : Ch3 p t k v m n H0 H ts ks ss) (ntv : t ≠ v) (nkv : k ≠ v) {b : SvE} (hb : b ∈ ss) {x : Addr} (hx : H x = some (.tup [.str b.tab, .ref b.ga, .non])) :
    ∃ kd, H v = some (.dK kd) ∧ kd.length < sizeLine ∧ ∃ ss', Ch3 p t k v m n H0 (upd H v (.dK (putK kd (Sum.inr b.name) (.ref x)))) ts ks ss' := by
  have hmem : b.name ∈ ss.map (·.name) := List.mem_map.mpr ⟨b, hb, rfl⟩
  obtain ⟨kd, e, l, d⟩ := h.sv.putD (k := Sum.inr b.name) (v := .ref x)
  rw [putK_map x hmem] at d
  have tup := h.sv.tup (.dK (putK kd (Sum.inr b.name) (.ref x)))
  have hnn := h.nn
  refine ⟨kd, e, ?_, uncE ss b.name x, h.mm, h.nn, h.sv.pool h.pool _, h.tb.oth ntv, h.ky.oth nkv, d, h.hT, h.hK.mono tup, fun c hc => ?_, by rw [uncE_names]; exact h.nm, fun b o n1 n2 n3 n4 e => ?_⟩
  · rw [l]
    unfold svK
    have := h.nm.len
    rw [List.length_map] at this
    rw [List.length_map]
    exact small1000 (by omega)
  · obtain ⟨c0, hc0, rfl⟩ := List.mem_map.mp hc
    have old := (h.hS c0 hc0).mono tup
    show SvOk _ ts (if c0.name = b.name then { c0 with at_ := x, cap := none } else c0)
    by_cases e : c0.name = b.name
    · rw [if_pos e]
      have ebb := name_uniq h.nm.nd hc0 hb e
      subst ebb
      exact ⟨⟨tup _ _ hx, old.told.cols⟩, old.ok, fun z hz => by cases hz⟩
    · rw [if_neg e]
      exact old
  · rw [upd_ne n4]
    exact h.oth b o n1 n2 n3 n4 e
end
/-! ### a Schema made of dicts that are right -/
theorem SchO.chg {C p dx d1 d2 d3 a : Addr} {H H' : Hp} {ts : List (Str × Int)} {ks : List KeyE} {ss : List SvE} {m n : Nat} (h : SchO C p dx d1 d2 d3 H ts ks ss m n) (hP : PoolAt H a) (c : Chg a H H') : SchO C p dx d1 d2 d3 H' ts ks ss m n :=
  ⟨c.at (pool_ne hP h.ob (by intro _ z; cases z)) h.ob, h.tb.chg hP c, h.ky.chg hP c, h.sv.chg hP c, h.hT, h.hK.mono (chg_tup hP c), h.hS.mono (chg_tup hP c), h.m5, h.n8⟩
theorem SchAt.chg {C p a : Addr} {H H' : Hp} {ts : List (Str × Int)} {ks : List KeyE} {ss : List SvE} {m n : Nat} (h : SchAt C p H ts ks ss m n) (hP : PoolAt H a) (c : Chg a H H') : SchAt C p H' ts ks ss m n := by
  obtain ⟨dx, d1, d2, d3, o⟩ := h
  exact ⟨dx, d1, d2, d3, o.chg hP c⟩
theorem mk_schema {C t k v : Addr} {H : Hp} {ts : List (Str × Int)} {ks : List KeyE} {ss : List SvE} {m n : Nat} {Q' : Hp → Prop} {E : XK} {x dx : Addr} (ht : DctAt H t (tabK ts)) (hk : DctAt H k (keyK ks)) (hv : DctAt H v (svK ss)) (hT : Tabs ts m 4) (hK : Keys H ts ks) (hS : Svcs H ts ks ss n) (m1 : 1 ≤ m) (m5 : m ≤ 5) (n1 : 1 ≤ n) (n8 : n ≤ 8)
    (fx : H x = none) (fdx : H dx = none) (ndx : dx ≠ x) (q : ∀ H', SchAt C x H' ts ks ss m n → Same H H' → Q' H') :
    spSInit C (.ref x :: ([.ref t, .ref k, .ref v] ++ [])) (upd (upd H dx (.own x)) x (.ins C dx [])) (fun u H2 => u = .non ∧ Q' H2) E := by
  have s1 := same_upd (o := .own x) fdx
  have f1 : upd H dx (.own x) x = none := by rw [upd_ne ndx.symm]; exact fx
  have s := s1.trans (same_upd (o := .ins C dx []) f1)
  exact ⟨x, dx, t, k, v, ts, ks, ss, m, n, rfl, upd_same, ht.same s, hk.same s, hv.same s, hT, hK.mono fun _ _ e => s _ _ e, hS.mono fun _ _ e => s _ _ e, m1, m5, n1, n8, fun Hz e1 e2 e3 Oz _ _ _ keep => ⟨rfl, q Hz ⟨dx, e1, e2, e3, Oz⟩ fun b u e => keep b u (ne_of_none e fx) (s _ _ e)⟩⟩
section
variable {P : Program} {w : World} {K : PySem.W.Frag} {mg : Str → Option Value} {base : Heap} {a : Nat → Addr} {d : Nat → FuncData}
def spParts : Sp := fun vs H Q _ => ∃ (p ca : Addr) (m more : Nat) (wm : Int) (cps : List (Option Int)), vs = [.ref p, .int (m : Int), .int wm, .ref ca, .int (more : Int)] ∧ PoolAt H p ∧ H ca = some (.lst (cps.map capV)) ∧ ca ≠ p ∧ 1 ≤ m ∧ m + more ≤ 26 ∧ 1 ≤ wm ∧ wm ≤ 100 ∧ 1 ≤ cps.length ∧ cps.length ≤ 100 ∧ (∀ c, some c ∈ cps → 1 ≤ c ∧ c ≤ 4) ∧
  ∀ (l t k v : Addr) (ts : List (Str × Int)) (ks : List KeyE) (ss : List SvE) (H' : Hp), H' l = some (.lst [.ref t, .ref k, .ref v]) → H l = none → H t = none → H k = none → H v = none → t ≠ k → H' t = some (.dK (tabK ts)) → H' k = some (.dK (keyK ks)) → H' v = some (.dK (svK ss)) → Tabs ts m wm → Keys H' ts ks → Svcs H' ts ks ss (m + more) → Chg p H H' → Q (.ref l) H'
theorem ok_parts (T : Txt K mg a d) : FnOk P w K mg base CX0 6 (a 60) (d 60) ["_law_pool_here", "_law_many", "_law_widest", "_law_caps", "_law_more"] spParts := by
  have G56 : FnOk P w K mg base CX0 5 (a 56) (d 56) ["_law_pool_here", "_law_many", "_law_widest"] spTables := ok_tables T
  have G57 : FnOk P w K mg base CX0 4 (a 57) (d 57) ["_law_pool_here", "_law_tables_here"] spKeys := ok_keys T
  have G59 : FnOk P w K mg base CX0 5 (a 59) (d 59) ["_law_pool_here", "_law_tables_here", "_law_keys_here", "_law_caps", "_law_more"] spServices := ok_services T
  refine T.F60.ok sc__law_schema_parts (fun vs H Q E h => ?_) (fun cdv A outer s H vs Q E hr h => ?_)
  · obtain ⟨p, ca, m, more, wm, cps, rfl, _⟩ := h
    rfl
  · obtain ⟨p, ca, m, more, wm, cps, rfl, hP, hca, ncp, hm1, hm2, hw1, hw2, hc1, hc2, hcap, q⟩ := h
    refine ⟨_, (pss_cons (ps_set (i := 5) sc__law_schema_parts.nd rfl (.inl rfl) (pe_call G56 (hr.mono (by decide)) (by rfl) T.g56 T.F56.kp T.b56 .nil pass0 (pa_cons (pv 0) (pa_cons (pv 1) (pa_cons (pv 2) pa_nil)))))
  (pss_cons (ps_set (i := 6) sc__law_schema_parts.nd rfl (.inl rfl) (pe_call G57 (hr.mono (by decide)) (by rfl) T.g57 T.F57.kp T.b57 .nil pass0 (pa_cons (pv 0) (pa_cons (pv 5) pa_nil))))
  (pss_one (ps_ret (pe_lst (pa_cons (pv 5) (pa_cons (pv 6) (pa_cons (pe_call G59 (hr.mono (by decide)) (by rfl) T.g59 T.F59.kp T.b59 .nil pass0 (pa_cons (pv 0) (pa_cons (pv 5) (pa_cons (pv 6) (pa_cons (pv 3) (pa_cons (pv 4) pa_nil)))))) pa_nil)))))))), ?_⟩
    refine ⟨_, rfl, _, rfl, _, rfl, p, m, wm, rfl, hP, by omega, hw1, hw2, fun t ts H1 t0 ht hT C1 => ?_⟩
    refine ⟨_, rfl, _, rfl, p, t, m, ts, rfl, C1.1, ht, hT.up hw2, by omega, fun k ks H2 k0 hk hK C2 => ?_⟩
    have nt : t ≠ p := pool_ne C1.1 ht (by intro _ z; cases z)
    have ht2 := C2.at nt ht
    have nk : k ≠ p := pool_ne C2.1 hk (by intro _ z; cases z)
    have C12 := C1.trans C2
    refine ⟨_, rfl, _, rfl, _, rfl, _, rfl, _, rfl, _, rfl, _, rfl, p, t, k, ca, m, more, ts, ks, cps, rfl, C2.1, ht2, hk, hT.up hw2, hm1, hm2, hK, C12.at ncp hca, ncp, hc1, hc2, hcap, fun v ss H3 v0 hv hS C3 => ⟨by show 3 ≤ sizeLine; decide, fun l hl => ?_⟩⟩
    have C13 := C12.trans C3
    have s3 := same_upd (o := .lst [.ref t, .ref k, .ref v]) hl
    have K3 := hK.mono (chg_tup C2.1 C3)
    exact q l t k v ts ks ss _ upd_same (free_of C13 hP hl) t0 (free_of C1 hP k0) (free_of C12 hP v0) (ne_of_none ht k0) (s3 _ _ (C3.at nt ht2)) (s3 _ _ (C3.at nk hk)) (s3 _ _ hv) hT (K3.mono fun _ _ e => s3 _ _ e) (hS.mono fun _ _ e => s3 _ _ e) (C13.new hl)
end
section
variable {P : Program} {w : World} {K : PySem.W.Frag} {mg : Str → Option Value} {base : Heap} {a : Nat → Addr} {d : Nat → FuncData}
/-! ### helpers of the law -/
def spPick : Sp := fun vs H Q _ => ∃ (p l : Addr) (xs : List V), vs = [.ref p, .ref l] ∧ PoolAt H p ∧ H l = some (.lst xs) ∧ l ≠ p ∧ 1 ≤ xs.length ∧ xs.length ≤ 1000 ∧ ∀ v H', v ∈ xs → Chg p H H' → Q v H'
theorem ok_pick (T : Txt K mg a d) : FnOk P w K mg base CX0 3 (a 62) (d 62) ["_law_pool_here", "_law_row"] spPick := by
  have G52 : FnOk P w K mg base CX0 2 (a 52) (d 52) ["_law_pool_here", "_law_many"] spDraw := ok_draw T
  refine T.F62.ok sc__law_pick (fun vs H Q E h => ?_) (fun cdv A outer s H vs Q E hr h => ?_)
  · obtain ⟨p, l, xs, rfl, _⟩ := h
    rfl
  · obtain ⟨p, l, xs, rfl, hP, hl, nl, h1, h2, q⟩ := h
    refine ⟨_, (pss_one (ps_ret (pe_ix ix_list (pv 1) (pe_call G52 (hr.mono (by decide)) (by rfl) T.g52 T.F52.kp T.b52 .nil pass0 (pa_cons (pv 0) (pa_cons (pe_callB (id := "len")  call_len_seq (by rfl) T.z_len (by decide +kernel) (pa_cons (pv 1) pa_nil)) pa_nil))) (fun _ _ => rfl)))), ?_⟩
    refine ⟨_, rfl, _, rfl, _, rfl, _, _, rfl, .inl (.of hl), p, _, rfl, hP, by omega, Nat.lt_of_le_of_lt (by omega : _ ≤ 1000) (by decide), fun r H1 r0 r1 C1 => ?_⟩
    obtain ⟨v, hv⟩ := at_some (xs := xs) r0 r1
    exact ⟨l, xs, r, v, rfl, rfl, .of (C1.at nl hl), hv, q v H1 (atI_mem hv) C1⟩
end
/-! ### values: whole numbers of 30 digits at most, words -/
def KVal : Key → Prop
  | .inl i => -(10 ^ 30 - 1) ≤ i ∧ i ≤ 10 ^ 30 - 1
  | .inr s => Wd s
theorem KVal.ok {k : Key} (h : KVal k) : KOk k := by
  cases k with
  | inl i => exact trivial
  | inr s => exact wd_strOk h
section
variable {P : Program} {w : World} {K : PySem.W.Frag} {mg : Str → Option Value} {base : Heap} {a : Nat → Addr} {d : Nat → FuncData}
def spValue : Sp := fun vs H Q _ => ∃ p : Addr, vs = [.ref p] ∧ PoolAt H p ∧ ∀ (k : Key) (H' : Hp), KVal k → Chg p H H' → Q (kV k) H'
theorem ok_value (T : Txt K mg a d) : FnOk P w K mg base CX0 4 (a 61) (d 61) ["_law_pool_here"] spValue := by
  have G52 : FnOk P w K mg base CX0 2 (a 52) (d 52) ["_law_pool_here", "_law_many"] spDraw := ok_draw T
  have G53 : FnOk P w K mg base CX0 3 (a 53) (d 53) ["_law_pool_here", "_law_many"] spWord := ok_word T
  refine T.F61.ok sc__law_value (fun vs H Q E h => ?_) (fun cdv A outer s H vs Q E hr h => ?_)
  · obtain ⟨p, rfl, _⟩ := h
    rfl
  · obtain ⟨p, rfl, hP, q⟩ := h
    refine ⟨_, (pss_cons (ps_set (i := 1) sc__law_value.nd rfl (.inl rfl) (pe_call G52 (hr.mono (by decide)) (by rfl) T.g52 T.F52.kp T.b52 .nil pass0 (pa_cons (pv 0) (pa_cons pe_int pa_nil))))
  (pss_cons (ps_if (pt_cmpR op_eq (pv 1) pe_int (nomark _))
    (pss_one (ps_ret (pe_op op_sub (pe_call G52 (hr.mono (by decide)) (by rfl) T.g52 T.F52.kp T.b52 .nil pass0 (pa_cons (pv 0) (pa_cons (pe_op op_sub (pe_op op_mul pe_int (pe_op op_pow pe_int pe_int)) pe_int) pa_nil))) (pe_op op_sub (pe_op op_pow pe_int pe_int) pe_int))))
    pss_nil)
  (pss_cons (ps_if (pt_cmpR op_eq (pv 1) pe_int (nomark _))
    (pss_one (ps_ret (pe_call G53 (hr.mono (by decide)) (by rfl) T.g53 T.F53.kp T.b53 .nil pass0 (pa_cons (pv 0) (pa_cons (pe_op op_add pe_int (pe_call G52 (hr.mono (by decide)) (by rfl) T.g52 T.F52.kp T.b52 .nil pass0 (pa_cons (pv 0) (pa_cons pe_int pa_nil)))) pa_nil)))))
    pss_nil)
  (pss_one (ps_ret (pe_op op_sub (pe_call G52 (hr.mono (by decide)) (by rfl) T.g52 T.F52.kp T.b52 .nil pass0 (pa_cons (pv 0) (pa_cons pe_int pa_nil))) pe_int)))))), ?_⟩
    refine ⟨_, rfl, p, 4, rfl, hP, by decide, by decide, fun kd H1 a0 a1 C1 => ?_⟩
    refine ⟨_, rfl, rfl, _, rfl, ite_eqI (fun e1 => ?_) (fun e1 => ?_)⟩
    · refine ⟨_, rfl, _, _, rfl, rfl, ⟨by decide, by decide, by decide⟩, _, _, rfl, rfl, .inl ⟨by decide, by decide⟩, _, _, rfl, rfl, p, _, rfl, C1.1, by decide +kernel, by decide +kernel, fun r H2 b0 b1 C2 => ?_⟩
      refine ⟨_, _, rfl, rfl, ⟨by decide, by decide, by decide⟩, _, _, rfl, rfl, _, _, rfl, rfl, q (.inl _) _ ?_ (C1.trans C2)⟩
      have e30 : (10 : Int) ^ (30 : Int).toNat = 10 ^ 30 := rfl
      rw [e30] at b1 ⊢
      show -(10 ^ 30 - 1) ≤ r - (10 ^ 30 - 1) ∧ r - (10 ^ 30 - 1) ≤ 10 ^ 30 - 1
      generalize (10 : Int) ^ 30 = z at b1 ⊢
      omega
    refine ⟨_, rfl, rfl, _, rfl, ite_eqI (fun e2 => ?_) (fun e2 => ?_)⟩
    · refine ⟨_, rfl, _, rfl, p, 8, rfl, C1.1, by decide, by decide, fun r H2 b0 b1 C2 => ⟨_, _, rfl, rfl, ?_⟩⟩
      refine ⟨p, (1 + r).toNat, by rw [Int.toNat_of_nonneg (by omega)]; rfl, C2.1, by omega, fun s H3 hs C3 => q (.inr s) _ ⟨by rw [hs.1]; omega, by rw [hs.1]; omega, hs.2⟩ ((C1.trans C2).trans C3)⟩
    · refine ⟨_, rfl, p, 7, rfl, C1.1, by decide, by decide, fun r H2 b0 b1 C2 => ⟨_, _, rfl, rfl, q (.inl _) _ ?_ (C1.trans C2)⟩⟩
      have z : (1000 : Int) ≤ 10 ^ 30 := by decide
      show -(10 ^ 30 - 1) ≤ r - 3 ∧ r - 3 ≤ 10 ^ 30 - 1
      generalize (10 : Int) ^ 30 = y at z ⊢
      omega
def spPalette : Sp := fun vs H Q _ => ∃ (p : Addr) (m : Nat), vs = [.ref p, .int (m : Int)] ∧ PoolAt H p ∧ m ≤ 100 ∧ ∀ (l : Addr) (ks : List Key) (H' : Hp), H l = none → H' l = some (.lst (ks.map kV)) → ks.length = m → (∀ k ∈ ks, KVal k) → Chg p H H' → Q (.ref l) H'
theorem ok_palette (T : Txt K mg a d) : FnOk P w K mg base CX0 5 (a 63) (d 63) ["_law_pool_here", "_law_many"] spPalette := by
  have G61 : FnOk P w K mg base CX0 4 (a 61) (d 61) ["_law_pool_here"] spValue := ok_value T
  refine T.F63.ok sc__law_palette (fun vs H Q E h => ?_) (fun cdv A outer s H vs Q E hr h => ?_)
  · obtain ⟨p, m, rfl, _⟩ := h
    rfl
  · obtain ⟨p, m, rfl, hP, hm, q⟩ := h
    refine ⟨_, (pss_cons (ps_set (i := 2) sc__law_palette.nd rfl (.inl rfl) (pe_lst pa_nil))
  (pss_cons (ps_for PassesOwn.never rfl (pi_range1 (by rfl) T.z_range (pa_cons (pv 1) pa_nil)) (pg_name (i := 3) sc__law_palette.nd rfl (.inl rfl))
    (pss_one (ps_expr (pe_bm PySem.F.plainAttrs_list PySem.F.slot_list_append PySem.F.type_list_append mt_append (pv 2) (pa_cons (pe_call G61 (hr.mono (by decide)) (by rfl) T.g61 T.F61.kp T.b61 .nil pass0 (pa_cons (pv 0) pa_nil)) pa_nil)))))
  (pss_one (ps_ret (pv 2))))), ?_⟩
    refine ⟨Nat.zero_le _, fun l hl => ?_⟩
    have nlp : l ≠ p := Chg.ne hP hl
    refine ⟨_, rfl, _, rfl, by omega, by omega, ?_⟩
    refine for_range (lo := 0) (n := (m : Int).toNat) (fun i σ H' => ∃ (y3 : Option V) (ks : List Key), σ = [some (.ref p), some (.int m), some (.ref l), y3] ∧ H' l = some (.lst (ks.map kV)) ∧ ks.length = i ∧ (∀ k ∈ ks, KVal k) ∧ Chg p H H') ⟨none, [], rfl, upd_same, rfl, (fun k hk => by cases hk), (Chg.refl hP).new hl⟩ (fun i σ H' hi hp => ?_) (fun σ H' hp => ?_)
    · obtain ⟨y3, ks, rfl, e1, e2, e3, C⟩ := hp
      refine ⟨_, rfl, .inl ⟨rfl, _, .of e1⟩, _, rfl, p, rfl, C.1, fun k H2 hk C2 => ?_⟩
      have e4 := C2.2 l _ nlp e1
      refine ⟨l, _, _, rfl, rfl, e4, by rw [List.length_map]; exact small1000 (by omega), _, ks ++ [k], rfl, ?_, by rw [List.length_append, e2]; rfl, fun x hx => ?_, (C.trans C2).mut hl nlp⟩
      · rw [List.map_append]
        exact upd_same
      · rcases List.mem_append.mp hx with h | h
        · exact e3 x h
        · rw [List.mem_singleton.mp h]
          exact hk
    · obtain ⟨y3, ks, rfl, e1, e2, e3, C⟩ := hp
      exact ⟨_, rfl, q l ks H' hl e1 (by omega) e3 C⟩
end
def projR (cs : List Int) (r : RowK) : RowK := cs.map fun c => r.getD c.toNat (.inl 0)
def lets (rs : List RowK) (mk : Option (List Int)) (r : RowK) : Bool := rs.all fun t => !decide (t = r) && (match mk with
  | none => true
  | some cs => !decide (projR cs t = projR cs r))
theorem keys_shapedL {r : RowK} (h : ∀ k ∈ r, KOk k) : SeqAt.shaped (.list (r.map keyD)) = true := by
  obtain ⟨h1, h2⟩ := lay_keys h
  show ((PyData.list (r.map keyD)).canLay0 && decide ((PyData.list (r.map keyD)).depth ≤ 64)) = true
  simp only [PyData.canLay0, PyData.depth, h1, h2]
  decide
theorem eqv_keysL (a b : RowK) : PyData.eqv (.list (a.map keyD)) (.list (b.map keyD)) = decide (a = b) := by
  simp only [PyData.eqv]
  exact eqvAll_keys a b
theorem projR_ok {cs : List Int} {r : RowK} {w : Int} (h : ∀ k ∈ r, KOk k) (hc : ∀ c ∈ cs, 0 ≤ c ∧ c < w) (hw : (r.length : Int) = w) : ∀ k ∈ projR cs r, KOk k := fun k hk => by
  obtain ⟨c, hc', rfl⟩ := List.mem_map.mp hk
  have := hc c hc'
  rw [List.getD_eq_getElem?_getD, List.getElem?_eq_getElem (by omega)]
  exact h _ (List.getElem_mem _)
theorem getD_at {r : RowK} {c : Int} (h0 : 0 ≤ c) (h : c < r.length) : atI (r.map kV) c = some (kV (r.getD c.toNat (.inl 0))) := by
  refine at_g (j := c.toNat) (by omega) ?_
  rw [List.getElem?_map, List.getD_eq_getElem?_getD, List.getElem?_eq_getElem (by omega)]
  rfl
theorem projR_snoc {cs : List Int} {r : RowK} {j : Nat} {z : Int} (h : cs[j]? = some z) : projR (cs.take (j + 1)) r = projR (cs.take j) r ++ [r.getD z.toNat (.inl 0)] := by
  unfold projR
  rw [List.take_add_one, h, List.map_append]
  rfl
theorem ifT {A B : Prop} (h : A) : if true = true then A else B := by
  rw [if_pos rfl]
  exact h
theorem ifF {A B : Prop} (h : B) : if false = true then A else B := by
  rw [if_neg (by decide)]
  exact h
def markV : Option (List Int) → Addr → V
  | none, _ => .non
  | some _, c => .ref c
section
variable {P : Program} {w : World} {K : PySem.W.Frag} {mg : Str → Option Value} {base : Heap} {a : Nat → Addr} {d : Nat → FuncData}
def spLets : Sp := fun vs H Q _ => ∃ (l c p : Addr) (L : List (Addr × RowK)) (mk : Option (List Int)) (r : RowK), vs = [.ref l, markV mk c, .ref p] ∧ H l = some (.lst (L.map fun b => V.ref b.1)) ∧ RowsAt H L ∧ RowAt H p r ∧ (∀ cs, mk = some cs → H c = some (.tup (cs.map V.int)) ∧ (∀ x ∈ cs, 0 ≤ x ∧ x < (r.length : Int)) ∧ cs.length ≤ 100) ∧
  (∀ b ∈ L, b.2.length = r.length ∧ ∀ k ∈ b.2, KOk k) ∧ (∀ k ∈ r, KOk k) ∧ ∀ H', Same H H' → Q (.bl (lets (L.map (·.2)) mk r)) H'
theorem ok_lets (T : Txt K mg a d) : FnOk P w K mg base CX0 1 (a 64) (d 64) ["_law_rows_here", "_law_mark", "_law_row"] spLets := by
  refine T.F64.ok sc__law_lets (fun vs H Q E h => ?_) (fun cdv A outer s H vs Q E hr h => ?_)
  · obtain ⟨l, c, p, L, mk, r, rfl, _⟩ := h
    rfl
  · obtain ⟨l, c, p, L, mk, r, rfl, hl, hL, hp, hmk, hok, hr', q⟩ := h
    refine ⟨_, (pss_cons (ps_for PassesOwn.never rfl (pi_list (pv 0)) (pg_name (i := 3) sc__law_lets.nd rfl (.inr rfl))
    (pss_cons (ps_if (pt_cmpR (op_eqD (hu_of64 hr)) (pv 3) (pv 2) (nomark _))
        (pss_one (ps_ret pe_bl))
        pss_nil)
      (pss_one (ps_if (PW.pt (pw_and (pt_cmpR op_notN (pv 1) pe_non (nomark _)) (pw_and1 (pt_cmpR (op_eqD (hu_of64 hr)) (pe_lc (own := [("_law_at", 4)]) rfl sc__law_lets.nd (pi_tup (pv 1)) (blkOk_by (N := ["_law_rows_here", "_law_mark", "_law_row", "_law_other", "_law_at"]) (sc := defScope s__law_lets) (by decide +kernel)) (fun _ _ _ _ _ => pg_name (i := 4) sc__law_lets.nd rfl (.inl rfl)) (fun _ _ _ _ _ => pts_nil) (fun _ _ _ _ _ => (pe_ix (r := rIxT K) ix_tup (pv 3) (pv 4) (fun _ _ => rfl)))) (pe_lc (own := [("_law_at", 4)]) rfl sc__law_lets.nd (pi_tup (pv 1)) (blkOk_by (N := ["_law_rows_here", "_law_mark", "_law_row", "_law_other", "_law_at"]) (sc := defScope s__law_lets) (by decide +kernel)) (fun _ _ _ _ _ => pg_name (i := 4) sc__law_lets.nd rfl (.inl rfl)) (fun _ _ _ _ _ => pts_nil) (fun _ _ _ _ _ => (pe_ix (r := rIxT K) ix_tup (pv 2) (pv 4) (fun _ _ => rfl)))) (nomark _)))))
        (pss_one (ps_ret pe_bl))
        pss_nil))))
  (pss_one (ps_ret pe_bl))), ?_⟩
    refine ⟨_, rfl, l, rfl, ⟨_, .of hl⟩, for_list (K := K) (a := l) (xs := L.map fun b => V.ref b.1) (fun i σ H' => ∃ y3 y4 : Option V, σ = [some (.ref l), some (markV mk c), some (.ref p), y3, y4] ∧ Same H H' ∧ lets ((L.map (·.2)).take i) mk r = true) ⟨none, none, rfl, Same.refl H, rfl⟩ (fun i σ H' _ hp' => ?_) (fun i y σ H' hy hp' => ?_) (fun σ H' hp' => ?_)⟩
    · obtain ⟨y3, y4, rfl, s, _⟩ := hp'
      exact .of (s _ _ hl)
    · obtain ⟨y3, y4, rfl, s, hi⟩ := hp'
      obtain ⟨b, hb, rfl⟩ := map_at hy
      have hbm := List.mem_of_getElem? hb
      obtain ⟨b1, b2⟩ := hok b hbm
      have hbt : (L.map (·.2))[i]? = some b.2 := by rw [List.getElem?_map, hb]; rfl
      have stop : lets [b.2] mk r = false → lets (L.map (·.2)) mk r = false := fun e => by
        unfold lets at e ⊢
        rw [List.all_eq_false]
        refine ⟨b.2, List.mem_map.mpr ⟨b, hbm, rfl⟩, ?_⟩
        simpa using e
      have go : lets [b.2] mk r = true → lets ((L.map (·.2)).take (i + 1)) mk r = true := fun e => by
        rw [List.take_add_one, hbt]
        unfold lets at e hi ⊢
        rw [List.all_append, hi]
        exact e
      have hb' := s _ _ (hL b hbm)
      have hp'' := s _ _ hp
      refine ⟨_, rfl, _, rfl, tupD b.2, tupD r, dp_tup hb', dp_tup hp'', tup_shaped b2, tup_shaped hr', _, rfl, ?_⟩
      rw [eqv_tup]
      refine ite_d (fun e => ?_) (fun ne => ?_)
      · have := q H' s
        rw [stop (by unfold lets; simp [e])] at this
        exact this
      cases mk with
      | none => exact ⟨_, rfl, rfl, _, rfl, ite_nd (fun h => absurd rfl h) (fun _ => ifF ⟨_, _, rfl, s, go (by unfold lets; simp [ne])⟩)⟩
      | some cs =>
        obtain ⟨hc, hc2, hc3⟩ := hmk cs rfl
        refine ⟨_, rfl, rfl, _, rfl, ite_nd (fun _ => ?_) (fun h => nomatch h)⟩
        have hc' := s _ _ hc
        refine ⟨_, rfl, c, rfl, ⟨_, .of hc'⟩, fun D1 hD1 => ?_⟩
        refine lc_tup (K := K) (a := c) (xs := cs.map V.int) (fun j H2 => H2 D1 = some (.lst ((projR (cs.take j) b.2).map kV)) ∧ Same H' H2) ⟨upd_same, same_upd hD1⟩ (fun j H2 _ hp => .of (hp.2 _ _ hc')) (fun j x H2 hx hp => ?_) (fun H2 hp => ?_)
        · obtain ⟨z, hz, rfl⟩ := map_at hx
          have hzm := hc2 z (List.mem_of_getElem? hz)
          have hj : j < cs.length := (List.getElem?_eq_some_iff.mp hz).1
          refine ⟨rfl, _, rfl, _, rfl, b.1, _, z, _, rfl, rfl, .of (hp.2 _ _ hb'), getD_at hzm.1 (by omega), _, hp.1, ?_, ?_, fun x o e => ?_⟩
          · unfold projR
            rw [List.length_map, List.length_map, List.length_take]
            exact small1000 (by omega)
          · rw [projR_snoc hz, List.map_append]
            exact upd_same
          · rw [upd_ne (ne_of_none e hD1)]
            exact hp.2 x o e
        obtain ⟨f1, s2⟩ := hp
        rw [List.length_map, List.take_length] at f1
        refine ⟨_, rfl, c, rfl, ⟨_, .of (s2 _ _ hc')⟩, fun D2 hD2 => ?_⟩
        refine lc_tup (K := K) (a := c) (xs := cs.map V.int) (fun j H3 => H3 D2 = some (.lst ((projR (cs.take j) r).map kV)) ∧ Same H2 H3) ⟨upd_same, same_upd hD2⟩ (fun j H3 _ hp => .of (hp.2 _ _ (s2 _ _ hc'))) (fun j x H3 hx hp => ?_) (fun H3 hp => ?_)
        · obtain ⟨z, hz, rfl⟩ := map_at hx
          have hzm := hc2 z (List.mem_of_getElem? hz)
          have hj : j < cs.length := (List.getElem?_eq_some_iff.mp hz).1
          refine ⟨rfl, _, rfl, _, rfl, p, _, z, _, rfl, rfl, .of (hp.2 _ _ (s2 _ _ hp'')), getD_at hzm.1 (by omega), _, hp.1, ?_, ?_, fun x o e => ?_⟩
          · unfold projR
            rw [List.length_map, List.length_map, List.length_take]
            exact small1000 (by omega)
          · rw [projR_snoc hz, List.map_append]
            exact upd_same
          · rw [upd_ne (ne_of_none e hD2)]
            exact hp.2 x o e
        obtain ⟨f2, s3⟩ := hp
        rw [List.length_map, List.take_length] at f2
        have k1 := projR_ok (w := (r.length : Int)) b2 hc2 (by omega)
        have k2 := projR_ok (w := (r.length : Int)) hr' hc2 rfl
        refine ⟨_, _, .lst (.of (s3 _ _ f1)) (dp_keys _), .lst (.of f2) (dp_keys _), keys_shapedL k1, keys_shapedL k2, _, rfl, ?_⟩
        rw [eqv_keysL]
        have s13 := (s.trans s2).trans s3
        refine ite_d (fun e => ?_) (fun ne2 => ⟨_, _, rfl, s13, go (by unfold lets; simp [ne, ne2])⟩)
        have := q H3 s13
        rw [stop (by unfold lets; simp [e])] at this
        exact this
    · obtain ⟨y3, y4, rfl, s, hi⟩ := hp'
      rw [List.length_map] at hi
      rw [List.take_of_length_le (by rw [List.length_map]; exact Nat.le_refl _)] at hi
      have := q H' s
      rw [hi] at this
      exact this
end
/-! ### the law's own order of rows -/
def rankD : Key → PyData
  | .inl i => .tuple [.int 0, .int i, .str ""]
  | .inr s => .tuple [.int 1, .int 0, .str s]
def rankL (r : RowK) : PyData := .list (r.map rankD)
section
open PySem.SeqAt PySem.W
theorem alike_rank (k l : Key) : alike (rankD k) (rankD l) = true := by
  cases k <;> cases l <;> simp [rankD, alike, alikeAll]
theorem alike_ranks : ∀ a b : RowK, alikeAll (a.map rankD) (b.map rankD) = true
  | [], _ => by cases ‹RowK› <;> simp [alikeAll]
  | _ :: _, [] => by simp [alikeAll]
  | x :: a, y :: b => by
    simp only [List.map_cons, alikeAll, alike_rank, alike_ranks a b, Bool.and_self]
theorem eqv_rank (k l : Key) : PyData.eqv (rankD k) (rankD l) = decide (k = l) := by
  have h := eqv_key k l
  cases k <;> cases l <;> simp [rankD, keyD, PyData.eqv, PyData.eqvAll] at h ⊢ <;> exact h
theorem lt_rank {k l : Key} (h : k ≠ l) : dataLt (rankD k) (rankD l) = PyProof.Rows.itemLt (item k) (item l) := by
  cases k <;> cases l
  · rename_i i j
    have h' : i ≠ j := fun e => h (by rw [e])
    show PyProof.Rows.lexLt PyProof.Rows.itemOrd (keyToksAll _) (keyToksAll _) = _
    rw [dataLt_cons rfl, if_pos (by simp [PyData.eqv]), dataLt_cons rfl, if_neg (by simp [PyData.eqv, h']), dataLt_int]
    rfl
  · rename_i i j
    show PyProof.Rows.lexLt PyProof.Rows.itemOrd (keyToksAll _) (keyToksAll _) = _
    rw [dataLt_cons rfl, if_neg (by simp [PyData.eqv]), dataLt_int]
    rfl
  · rename_i i j
    show PyProof.Rows.lexLt PyProof.Rows.itemOrd (keyToksAll _) (keyToksAll _) = _
    rw [dataLt_cons rfl, if_neg (by simp [PyData.eqv]), dataLt_int]
    rfl
  · rename_i i j
    have h' : i ≠ j := fun e => h (by rw [e])
    have h2 : PyData.eqv (.str i) (.str j) = false := by
      have := eqv_key (.inr i) (.inr j)
      rw [decide_eq_false h] at this
      exact this
    show PyProof.Rows.lexLt PyProof.Rows.itemOrd (keyToksAll _) (keyToksAll _) = _
    rw [dataLt_cons rfl, if_pos (by simp [PyData.eqv]), dataLt_cons rfl, if_pos (by simp [PyData.eqv]), dataLt_cons rfl, if_neg (by rw [h2]; decide), dataLt_str]
    simp [item, PyProof.Rows.itemLt, PyProof.Rows.strKind]
theorem lt_ranks : ∀ a b : RowK, PyProof.Rows.lexLt PyProof.Rows.itemOrd (keyToksAll (a.map rankD)) (keyToksAll (b.map rankD)) = My.rowLt a b
  | [], [] => by
    show PyProof.Rows.lexLt PyProof.Rows.itemOrd (keyToksAll []) (keyToksAll []) = _
    rw [lex_irrefl, rowLt_irrefl]
  | [], _ :: _ => by
    show PyProof.Rows.lexLt PyProof.Rows.itemOrd [.inl 0] (.inl 1 :: _) = _
    rw [lex_diff (by simp)]
    rfl
  | _ :: _, [] => by
    show PyProof.Rows.lexLt PyProof.Rows.itemOrd (.inl 1 :: _) [.inl 0] = _
    rw [lex_diff (by simp)]
    rfl
  | x :: a, y :: b => by
    rw [List.map_cons, List.map_cons, dataLt_cons (alike_rank x y), eqv_rank, rowLt_cons, lt_ranks a b]
    by_cases h : x = y
    · rw [decide_eq_true h, if_pos rfl, if_pos h]
    · rw [decide_eq_false h, if_neg (by decide), if_neg h, lt_rank h]
theorem lay_rank {k : Key} (h : KOk k) : (rankD k).canLay0 = true ∧ (rankD k).depth = 1 := by
  cases k with
  | inl i => simp [rankD, PyData.canLay0, PyData.canLayAll0, PyData.depth, PyData.depthAll]; decide +kernel
  | inr s =>
    have h' : PyData.strOk s = true := h
    simp [rankD, PyData.canLay0, PyData.canLayAll0, PyData.depth, PyData.depthAll, h']
theorem lay_ranks : ∀ {r : RowK}, (∀ k ∈ r, KOk k) → PyData.canLayAll0 (r.map rankD) = true ∧ PyData.depthAll (r.map rankD) ≤ 1
  | [], _ => by simp [PyData.canLayAll0, PyData.depthAll]
  | k :: r, h => by
    obtain ⟨h1, h2⟩ := lay_ranks (r := r) fun x hx => h x (List.mem_cons_of_mem _ hx)
    obtain ⟨h3, h4⟩ := lay_rank (h k List.mem_cons_self)
    simp only [List.map_cons, PyData.canLayAll0, PyData.depthAll, h1, h3, h4, Bool.and_self, true_and]
    omega
/-- such keys can be sorted -/
theorem keys_ranks {rs : List RowK} (h : ∀ r ∈ rs, ∀ k ∈ r, KOk k) : SK.KeysG (rs.map rankL) keyToks := by
  refine SK.keysG_alike (fun d hd => ?_) (fun d hd d' hd' => ?_) (.inr fun d hd => ?_)
  · obtain ⟨r, hr, rfl⟩ := List.mem_map.mp hd
    show (PyData.list (r.map rankD)).canLay0 = true
    simp only [PyData.canLay0, (lay_ranks (h r hr)).1]
  · obtain ⟨r, _, rfl⟩ := List.mem_map.mp hd
    obtain ⟨r', _, rfl⟩ := List.mem_map.mp hd'
    exact alike_ranks r r'
  · obtain ⟨r, _, rfl⟩ := List.mem_map.mp hd
    exact ⟨(by intro z; cases z), fun xs z => by cases z⟩
theorem byKey_ranks (L : List (Addr × RowK)) (hn : (L.map (·.2)).Nodup) : ∃ L' : List (Addr × RowK), SK.byKey keyToks (L.map fun b => V.ref b.1) (L.map fun b => rankL b.2) = L'.map (fun b => V.ref b.1) ∧ L'.Perm L ∧ L'.Pairwise fun a b => My.rowLt a.2 b.2 = true := by
  obtain ⟨L', e1, e2, e3⟩ := byKey_rows L hn
  refine ⟨L', ?_, e2, e3⟩
  rw [← e1]
  unfold SK.byKey
  rw [List.zip_map', List.zip_map', ← List.map_mergeSort (r := fun a b : Addr × RowK => !My.rowLt b.2 a.2) (f := fun b : Addr × RowK => ((V.ref b.1, rankL b.2) : V × PyData)), ← List.map_mergeSort (r := fun a b : Addr × RowK => !My.rowLt b.2 a.2) (f := fun b : Addr × RowK => ((V.ref b.1, rowD b.2) : V × PyData)), List.map_map, List.map_map]
  · rfl
  · intro a _ b _
    show _ = (!(PyProof.Rows.listOrd PyProof.Rows.itemOrd).blt (tokD (rowD b.2)) (tokD (rowD a.2)))
    rw [tokD_row, tokD_row]
    rfl
  · intro a _ b _
    show _ = (!PyProof.Rows.lexLt PyProof.Rows.itemOrd (keyToksAll (b.2.map rankD)) (keyToksAll (a.2.map rankD)))
    rw [lt_ranks]
end
def kRank : Key → List V
  | .inl i => [.int 0, .int i, .str ""]
  | .inr s => [.int 1, .int 0, .str s]
theorem dp_rank {K : PySem.W.Frag} {H : Hp} {p : Addr} {k : Key} (h : H p = some (.tup (kRank k))) : Dp K H (.ref p) (rankD k) := by
  cases k with
  | inl i => exact .tup (.of h) (.cons (.int 0) (.cons (.int i) (.cons (.str "") .nil)))
  | inr s => exact .tup (.of h) (.cons (.int 1) (.cons (.int 0) (.cons (.str s) .nil)))
theorem dp_ranks {K : PySem.W.Frag} {H : Hp} : ∀ {ps : List Addr} {r : RowK}, Paired (fun p k => H p = some (.tup (kRank k))) ps r → DpAll K H (ps.map V.ref) (r.map rankD)
  | _, _, .nil => .nil
  | _, _, .cons h t => .cons (dp_rank h) (dp_ranks t)
section
variable {P : Program} {w : World} {K : PySem.W.Frag} {mg : Str → Option Value} {base : Heap} {a : Nat → Addr} {d : Nat → FuncData}
def spRank : Sp := fun vs H Q _ => ∃ (p : Addr) (r : RowK), vs = [.ref p] ∧ RowAt H p r ∧ r.length ≤ 100 ∧ ∀ (K : PySem.W.Frag) (v : V) (H' : Hp), (∀ K : PySem.W.Frag, Dp K H' v (rankL r)) → Same H H' → Q v H'
theorem ok_rank (T : Txt K mg a d) : FnOk P w K mg base CX0 1 (a 66) (d 66) ["_law_row"] spRank := by
  refine T.F66.ok sc__law_rank (fun vs H Q E h => ?_) (fun cdv A outer s H vs Q E hr h => ?_)
  · obtain ⟨p, r, rfl, _⟩ := h
    rfl
  · obtain ⟨p, r, rfl, hp, hl, q⟩ := h
    refine ⟨_, (pss_one (ps_ret (pe_lc (own := [("_law_part", 1)]) rfl sc__law_rank.nd (pi_tup (pv 0)) (blkOk_by (N := ["_law_row", "_law_part"]) (sc := defScope s__law_rank) (by decide +kernel)) (fun _ _ _ _ _ => pg_name (i := 1) sc__law_rank.nd rfl (.inl rfl)) (fun _ _ _ _ _ => pts_nil) (fun _ _ _ _ _ => (pe_ifExp (pt_val (pe_callB (id := "isinstance") (r := rIsi K)  call_isi (by rfl) T.z_isinstance (by decide +kernel) (pa_cons (pv 1) (pa_cons (pe_bltn (v := .ty "str") (by rfl) T.z_str (by decide +kernel) rfl) pa_nil)))) (pe_tup (pa_cons pe_int (pa_cons pe_int (pa_cons (pv 1) pa_nil)))) (pe_tup (pa_cons pe_int (pa_cons (pv 1) (pa_cons pe_str pa_nil))))))))), ?_⟩
    refine ⟨_, rfl, p, rfl, ⟨_, .of hp⟩, fun D hD => ?_⟩
    refine lc_tup (K := K) (a := p) (xs := r.map kV) (fun i H' => ∃ ps : List Addr, H' D = some (.lst (ps.map V.ref)) ∧ Same H H' ∧ Paired (fun p k => H' p = some (.tup (kRank k))) ps (r.take i)) ⟨[], upd_same, same_upd hD, by rw [List.take_zero]; exact .nil⟩ (fun i H' _ hp' => ?_) (fun i x H' hx hp' => ?_) (fun H' hp' => ?_)
    · obtain ⟨ps, _, sm, _⟩ := hp'
      exact .of (sm _ _ hp)
    · obtain ⟨ps, e1, sm, e2⟩ := hp'
      obtain ⟨k, hk, rfl⟩ := map_at hx
      have li : i < r.length := (List.getElem?_eq_some_iff.mp hk).1
      have lp : ps.length = (r.take i).length := Paired.length e2
      rw [List.length_take] at lp
      have fin : ∀ c, H' c = none → ∃ acc, (upd H' c (.tup (kRank k))) D = some (.lst acc) ∧ acc.length < sizeLine ∧ ∃ ps : List Addr, (upd (upd H' c (.tup (kRank k))) D (.lst (acc ++ [.ref c]))) D = some (.lst (ps.map V.ref)) ∧ Same H (upd (upd H' c (.tup (kRank k))) D (.lst (acc ++ [.ref c]))) ∧ Paired (fun p k' => (upd (upd H' c (.tup (kRank k))) D (.lst (acc ++ [.ref c]))) p = some (.tup (kRank k'))) ps (r.take (i + 1)) := fun c hc => by
        refine ⟨ps.map V.ref, (same_upd hc) D _ e1, ?_, ps ++ [c], ?_, ?_, ?_⟩
        · rw [List.length_map]
          exact small1000 (by omega)
        · rw [List.map_append]
          exact upd_same
        · exact fun b o e => by
            rw [upd_ne (ne_of_none e hD)]
            exact same_upd hc _ _ (sm b o e)
        · rw [List.take_add_one, hk]
          have cD : c ≠ D := fun z => by
            rw [z, e1] at hc
            cases hc
          have old : ∀ b xs, H' b = some (.tup xs) → (upd (upd H' c (.tup (kRank k))) D (.lst (ps.map V.ref ++ [.ref c]))) b = some (.tup xs) := fun b xs e => by
            rw [upd_ne (ne_of e e1 (by intro z; cases z)), upd_ne (ne_of_none e hc)]
            exact e
          refine paired_snoc (L2.Paired.mapP e2 fun _ _ e => old _ _ e) ?_
          rw [upd_ne cD]
          exact upd_same
      refine ⟨rfl, ?_⟩
      cases k with
      | inl j => exact ⟨_, rfl, _, _, _, _, _, rfl, .ty _, .base (.int _), kit_ty kb_int_str, _, rfl, ⟨_, rfl, by show 3 ≤ sizeLine; decide, fun c hc => fin c hc⟩⟩
      | inr s => exact ⟨_, rfl, _, _, _, _, _, rfl, .ty _, .base (.str _), kit_ty kb_str_str, _, rfl, ⟨_, rfl, by show 3 ≤ sizeLine; decide, fun c hc => fin c hc⟩⟩
    · obtain ⟨ps, e1, sm, e2⟩ := hp'
      rw [List.length_map, List.take_length] at e2
      exact q K _ _ (fun K => .lst (.of e1) (dp_ranks e2)) sm
end
section
variable {P : Program} {w : World} {K : PySem.W.Frag} {mg : Str → Option Value} {base : Heap} {a : Nat → Addr} {d : Nat → FuncData}
def spLSorted : Sp := fun vs H Q _ => ∃ (l : Addr) (L : List (Addr × RowK)), vs = [.ref l] ∧ H l = some (.lst (L.map fun b => V.ref b.1)) ∧ RowsAt H L ∧ (∀ b ∈ L, (∀ k ∈ b.2, KOk k) ∧ b.2.length ≤ 100) ∧ L.length ≤ 10000 ∧
  ∀ (q : Addr) (H' : Hp) (L' : List (Addr × RowK)), H q = none → Same H H' → H' q = some (.lst (L'.map fun b => V.ref b.1)) → RowsAt H' L' → SortedRows L' (L.map (·.2)) → Q (.ref q) H'
theorem ok_lsorted (T : Txt K mg a d) : FnOk P w K mg base CX0 4 (a 67) (d 67) ["_law_rows_here"] spLSorted := by
  have G66 : FnOk P w K mg base CX0 1 (a 66) (d 66) ["_law_row"] spRank := ok_rank T
  refine T.F67.ok sc__law_sorted (fun vs H Q E h => ?_) (fun cdv A outer s H vs Q E hr h => ?_)
  · obtain ⟨l, L, rfl, _⟩ := h
    rfl
  · obtain ⟨l, L, rfl, hl, hR, hok, hlen, q⟩ := h
    refine ⟨_, (pss_cons (ps_set (i := 1) sc__law_sorted.nd rfl (.inl rfl) pe_dnewT)
  (pss_cons (ps_for PassesOwn.never rfl (pi_list (pv 0)) (pg_name (i := 2) sc__law_sorted.nd rfl (.inl rfl))
    (pss_one (ps_dput (hu_of hr) (pv 1) (pv 2) pe_bl rfl)))
  (pss_one (ps_ret (pe_callBK (SK.cr_sortF G66 (hr.mono (by decide)) T.b66 rfl) (by rfl) T.z_sorted (by decide +kernel) (pa_cons (pe_callTy (call_list_dT rfl) (by rfl) T.z_list (by decide +kernel) (pa_cons (pv 1) pa_nil)) pa_nil) (pk_cons (pe_glob (v := .ref (a 66)) (by rfl) T.g66 rfl) pk_nil)))))), ?_⟩
    refine fun D hD => ?_
    have sD := same_upd (o := .dT []) hD
    refine ⟨_, rfl, l, rfl, ⟨_, .of (sD _ _ hl)⟩, for_list (K := K) (a := l) (xs := L.map fun b => V.ref b.1) (fun i σ H' => ∃ y2 : Option V, σ = [some (.ref l), some (.ref D), y2] ∧ H' D = some (.dT ((uniq ((L.take i).map (·.2))).map fun k => (k, V.bl true))) ∧ Same H H') ⟨none, rfl, upd_same, sD⟩ (fun i σ H' _ hp => ?_) (fun i y σ H' hy hp => ?_) (fun σ H' hp => ?_)⟩
    · obtain ⟨y2, rfl, _, s⟩ := hp
      exact .of (s _ _ hl)
    · obtain ⟨y2, rfl, e1, s⟩ := hp
      obtain ⟨b, hb, rfl⟩ := map_at hy
      have li : i < L.length := (List.getElem?_eq_some_iff.mp hb).1
      have hbm : b ∈ L := List.mem_of_getElem? hb
      refine ⟨_, rfl, _, rfl, D, _, rfl, DPut.t (k := b.2) e1 (s _ _ (hR b hbm)) ?_, _, rfl, ?_, fun c o e => ?_⟩
      · rw [List.length_map]
        have h1 := uniq_len ((L.take i).map (·.2))
        rw [List.length_map, List.length_take] at h1
        exact Nat.lt_of_le_of_lt (by omega : _ ≤ 10000) (by decide)
      · rw [putK_uniq, map_take hb, uniq_snoc]
        exact upd_same
      · rw [upd_ne (ne_of_none e hD)]
        exact s c o e
    · obtain ⟨y2, rfl, e1, sm⟩ := hp
      rw [List.length_map, List.take_length] at e1
      refine ⟨_, rfl, D, _, rfl, .inl e1, fun p bs hp hk => ?_⟩
      obtain ⟨L0, b1, b2, b3⟩ := keys_zip hk
      obtain ⟨nd, mem⟩ := uniq_all (L.map (·.2))
      have sp := same_upd (o := .lst (bs.map V.ref)) hp
      have hok0 : ∀ b ∈ L0, (∀ k ∈ b.2, KOk k) ∧ b.2.length ≤ 100 := fun b hb => by
        have h1 : b.2 ∈ L.map (·.2) := (mem _).mp (by rw [← b2]; exact List.mem_map.mpr ⟨b, hb, rfl⟩)
        obtain ⟨c, hc, e⟩ := List.mem_map.mp h1
        rw [← e]
        exact hok c hc
      obtain ⟨L', r1, r2, r3⟩ := byKey_ranks L0 (by rw [b2]; exact nd)
      have ebs : bs.map V.ref = L0.map fun b => V.ref b.1 := by rw [← b1, List.map_map]; rfl
      refine ⟨p, L0.map (fun b => V.ref b.1), L0.map (fun b => rankL b.2), PySem.W.keyToks, rfl, rfl, .of (by rw [← ebs]; exact upd_same), by rw [List.length_map, List.length_map], ?_, fun d hd => ?_, fun i x k hx hk H2 s2 => ?_, fun q' H2 nq s2 e2 => ?_⟩
      · have h1 := keys_ranks (rs := L0.map (·.2)) fun r hr k hkr => by
          obtain ⟨b, hb, rfl⟩ := List.mem_map.mp hr
          exact (hok0 b hb).1 k hkr
        rw [List.map_map] at h1
        exact h1
      · obtain ⟨b, hb, rfl⟩ := List.mem_map.mp hd
        have := (lay_ranks (hok0 b hb).1).2
        show PyData.depthAll (b.2.map rankD) + 1 ≤ 60
        omega
      · obtain ⟨b, hb, rfl⟩ := map_at hx
        obtain ⟨b', hb', rfl⟩ := map_at hk
        obtain rfl : b = b' := Option.some.inj (hb.symm.trans hb')
        have hbm : b ∈ L0 := List.mem_of_getElem? hb
        exact ⟨b.1, b.2, rfl, s2 _ _ (sp _ _ (b3 b hbm)), (hok0 b hbm).2, fun K' v H3 dp s3 => ⟨dp K, s3⟩⟩
      · rw [r1] at e2
        refine q q' H2 L' (sm.free (sp.free nq)) ((sm.trans sp).trans s2) e2 (fun b hb => s2 _ _ (sp _ _ (b3 b (r2.mem_iff.mp hb)))) ⟨fun r => ?_, r3, ?_⟩
        · rw [(r2.map _).mem_iff, b2]
          exact mem r
        · rw [r2.length_eq, ← List.length_map (f := (·.2)), b2]
          exact uniq_len _
end
/-! ### the rows that a law draws -/
theorem Chg.same4' {a : Addr} {H H1 H2 : Hp} (x : Chg a H H1) (s : Same H1 H2) : Chg a H H2 := ⟨x.1.same s, fun b o n e => s _ _ (x.2 b o n e)⟩
structure RwE where
  name : Str
  at_ : Addr
  rows : List (Addr × RowK)
def rwK (es : List RwE) : List (Key × V) := es.map fun b => (Sum.inr b.name, V.ref b.at_)
theorem keys_rw (es : List RwE) : (rwK es).map (·.1) = (es.map (·.name)).map Sum.inr := by
  unfold rwK
  rw [List.map_map, List.map_map]
  rfl
def markOf (ks : List KeyE) (n : Str) : Option (List Int) := (keyAt ks n).map (·.2.2)
def markA (ks : List KeyE) (n : Str) : Addr := ((keyAt ks n).map (·.2.1)).getD 0
theorem mark_val (ks : List KeyE) (n : Str) : (valV (keyK ks) (Sum.inr n)).getD .non = markV (markOf ks n) (markA ks n) := by
  rw [keyAt_val]
  unfold markOf markA
  cases keyAt ks n <;> rfl
theorem mark_at {H : Hp} {ts : List (Str × Int)} {ks : List KeyE} {n : Str} {w : Int} (hK : Keys H ts ks) (nd : (ts.map (·.1)).Nodup) (hm : (n, w) ∈ ts) {cs : List Int} (h : markOf ks n = some cs) : H (markA ks n) = some (.tup (cs.map V.int)) ∧ (∀ x ∈ cs, 0 ≤ x ∧ x < w) ∧ 1 ≤ cs.length ∧ (cs.length : Int) < w := by
  unfold markOf at h
  unfold markA
  cases e : keyAt ks n with
  | none =>
    rw [e] at h
    cases h
  | some b =>
    rw [e] at h
    cases h
    obtain ⟨bm, bn⟩ := keyAt_mem e
    obtain ⟨w', hw, hc, h1, h2⟩ := hK.ok b bm
    rw [bn] at hw
    have : w' = w := by rw [← widthAt_mem nd hw, ← widthAt_mem nd hm]
    subst this
    exact ⟨hK.at_ b bm, hc.2, h1, h2⟩
structure RowsOk (w : Int) (mk : Option (List Int)) (rs : List RowK) : Prop where
  wid : ∀ r ∈ rs, (r.length : Int) = w ∧ ∀ k ∈ r, KVal k
  apart : rs.Pairwise fun t r => t ≠ r ∧ ∀ cs, mk = some cs → projR cs t ≠ projR cs r
theorem RowsOk.nil (w : Int) (mk : Option (List Int)) : RowsOk w mk [] := ⟨fun r hr => (by cases hr), .nil⟩
theorem RowsOk.snoc {w : Int} {mk : Option (List Int)} {rs : List RowK} {r : RowK} (h : RowsOk w mk rs) (hr : (r.length : Int) = w) (hk : ∀ k ∈ r, KVal k) (hl : lets rs mk r = true) : RowsOk w mk (rs ++ [r]) := by
  refine ⟨fun x hx => ?_, List.pairwise_append.mpr ⟨h.apart, List.pairwise_singleton _ _, fun x hx y hy => ?_⟩⟩
  · rcases List.mem_append.mp hx with hx | hx
    · exact h.wid x hx
    · rw [List.mem_singleton.mp hx]
      exact ⟨hr, hk⟩
  · rw [List.mem_singleton.mp hy]
    unfold lets at hl
    have := List.all_eq_true.mp hl x hx
    rw [Bool.and_eq_true] at this
    refine ⟨fun e => ?_, fun cs e => ?_⟩
    · rw [decide_eq_true e] at this
      cases this.1
    · subst e
      have h2 := this.2
      intro z
      simp [z] at h2
structure RwAt (H : Hp) (b : RwE) : Prop where
  lst : H b.at_ = some (.lst (b.rows.map fun x => V.ref x.1))
  rows : RowsAt H b.rows
theorem RwAt.same {H H' : Hp} {b : RwE} (h : RwAt H b) (s : Same H H') : RwAt H' b := ⟨s _ _ h.lst, h.rows.same s⟩
theorem RwAt.chg {H H' : Hp} {p : Addr} {b : RwE} (h : RwAt H b) (hP : PoolAt H p) (n : b.at_ ≠ p) (c : Chg p H H') : RwAt H' b := ⟨c.at n h.lst, fun x hx => chg_tup hP c _ _ (h.rows x hx)⟩
theorem RwAt.oth {H : Hp} {b : RwE} {q : Addr} {o u : HO} (h : RwAt H b) (hq : H q = some u) (nt : ∀ xs, u ≠ .tup xs) (n : b.at_ ≠ q) : RwAt (upd H q o) b := ⟨by rw [upd_ne n]; exact h.lst, fun x hx => upd_tup hq nt _ _ (h.rows x hx)⟩
def spRows : Sp := fun vs H Q _ => ∃ (p t k pal : Addr) (most : Nat) (m : Nat) (wm : Int) (ts : List (Str × Int)) (ks : List KeyE) (vals : List Key), vs = [.ref p, .ref t, .ref k, .ref pal, .int (most : Int)] ∧ PoolAt H p ∧ H t = some (.dK (tabK ts)) ∧ H k = some (.dK (keyK ks)) ∧ Tabs ts m wm ∧ m ≤ 26 ∧ wm ≤ 100 ∧ Keys H ts ks ∧
  H pal = some (.lst (vals.map kV)) ∧ pal ≠ p ∧ 1 ≤ vals.length ∧ vals.length ≤ 100 ∧ (∀ x ∈ vals, KVal x) ∧ most ≤ 100 ∧
  ∀ (f : Addr) (es : List RwE) (H' : Hp), H f = none → H' f = some (.dK (rwK es)) → es.map (·.name) = ts.map (·.1) → (∀ b ∈ es, RwAt H' b ∧ b.at_ ≠ p ∧ H b.at_ = none ∧ b.rows.length ≤ most ∧ ∃ w, (b.name, w) ∈ ts ∧ RowsOk w (markOf ks b.name) (b.rows.map (·.2))) → (es.map (·.at_)).Nodup → Chg p H H' → Q (.ref f) H'
section
variable {P : Program} {w : World} {K : PySem.W.Frag} {mg : Str → Option Value} {base : Heap} {a : Nat → Addr} {d : Nat → FuncData}
theorem ok_lrows (T : Txt K mg a d) : FnOk P w K mg base CX0 4 (a 65) (d 65) ["_law_pool_here", "_law_tables_here", "_law_keys_here", "_law_palette_here", "_law_most"] spRows := by
  have G52 : FnOk P w K mg base CX0 2 (a 52) (d 52) ["_law_pool_here", "_law_many"] spDraw := ok_draw T
  have G64 : FnOk P w K mg base CX0 1 (a 64) (d 64) ["_law_rows_here", "_law_mark", "_law_row"] spLets := ok_lets T
  refine T.F65.ok sc__law_rows (fun vs H Q E h => ?_) (fun cdv A outer s H vs Q E hr h => ?_)
  · obtain ⟨p, t, k, pal, most, m, wm, ts, ks, vals, rfl, _⟩ := h
    rfl
  · obtain ⟨p, t, k, pal, most, m, wm, ts, ks, vals, rfl, hP, ht, hk, hT, hm, hwm, hK, hpal, npal, hv1, hv2, hv3, hmost, q⟩ := h
    have hu := hu_of hr
    refine ⟨_, (pss_cons (ps_set (i := 5) sc__law_rows.nd rfl (.inl rfl) pe_dnewK)
  (pss_cons (ps_for PassesOwn.never rfl (pi_list (pe_callTy (T := "list")  (call_listD rfl) (by rfl) T.z_list (by decide +kernel) (pa_cons (pv 1) pa_nil))) (pg_name (i := 6) sc__law_rows.nd rfl (.inl rfl))
    (pss_cons (ps_set (i := 7) sc__law_rows.nd rfl (.inl rfl) (pe_lst pa_nil))
      (pss_cons (ps_for PassesOwn.never rfl (pi_range1 (by rfl) T.z_range (pa_cons (pe_call G52 (hr.mono (by decide)) (by rfl) T.g52 T.F52.kp T.b52 .nil pass0 (pa_cons (pv 0) (pa_cons (pe_op op_add (pv 4) pe_int) pa_nil))) pa_nil)) (pg_name (i := 8) sc__law_rows.nd rfl (.inl rfl))
        (pss_cons (ps_set (i := 9) sc__law_rows.nd rfl (.inl rfl) (pe_callTy (T := "tuple")  call_tuple_of (by rfl) T.z_tuple (by decide +kernel) (pa_cons (pe_lc (own := [("_law_at", 10)]) rfl sc__law_rows.nd (pi_range1 (by rfl) T.z_range (pa_cons (pe_dget (hu_of hr) (pv 1) (pv 6) (fun _ _ => rfl)) pa_nil)) (blkOk_by (N := ["_law_pool_here", "_law_tables_here", "_law_keys_here", "_law_palette_here", "_law_most", "_law_found", "_law_table", "_law_rows_here", "_law_k", "_law_row", "_law_at"]) (sc := defScope s__law_rows) (by decide +kernel)) (fun _ _ _ _ _ => pg_name (i := 10) sc__law_rows.nd rfl (.inl rfl)) (fun _ _ _ _ _ => pts_nil) (fun _ _ _ _ _ => (pe_ix (r := rIxL K) ix_list (pv 3) (pe_call G52 (hr.mono (by decide)) (by rfl) T.g52 T.F52.kp T.b52 .nil pass0 (pa_cons (pv 0) (pa_cons (pe_callB (id := "len") (r := Evl.rLenS K)  call_len_seq (by rfl) T.z_len (by decide +kernel) (pa_cons (pv 3) pa_nil)) pa_nil))) (fun _ _ => rfl)))) pa_nil)))
          (pss_one (ps_if (pt_val (pe_call G64 (hr.mono (by decide)) (by rfl) T.g64 T.F64.kp T.b64 .nil pass0 (pa_cons (pv 7) (pa_cons (pe_dget1 (hu_of hr) (pv 2) (pv 6) ⟨rfl, rfl, rfl, rfl⟩) (pa_cons (pv 9) pa_nil)))))
            (pss_one (ps_expr (pe_bm PySem.F.plainAttrs_list PySem.F.slot_list_append PySem.F.type_list_append mt_append (pv 7) (pa_cons (pv 9) pa_nil))))
            pss_nil))))
      (pss_one (ps_dput (hu_of hr) (pv 5) (pv 6) (pv 7) rfl)))))
  (pss_one (ps_ret (pv 5))))), ?_⟩
    intro F hF
    have nt : t ≠ p := pool_ne hP ht (by intro _ z; cases z)
    have nk : k ≠ p := pool_ne hP hk (by intro _ z; cases z)
    have nF : F ≠ p := Chg.ne hP hF
    have C0 : Chg p H (upd H F (.dK [])) := (Chg.refl hP).new hF
    have e0 : (tabK ts).map (fun kv => kV kv.1) = (ts.map (·.1)).map V.str := by
      unfold tabK
      rw [List.map_map, List.map_map]
      rfl
    refine ⟨_, rfl, t, tabK ts, rfl, .inl (C0.at nt ht), fun l hl => ⟨l, rfl, ?_⟩⟩
    rw [e0]
    have nl : l ≠ p := Chg.ne C0.1 hl
    have nFl : F ≠ l := ne_of_none upd_same hl
    have C1 := C0.new (o := .lst ((ts.map (·.1)).map V.str)) hl
    refine ⟨⟨_, .of upd_same⟩, for_list (K := K) (a := l) (xs := (ts.map (·.1)).map V.str) (fun i σ H' => ∃ (es : List RwE) (y6 y7 y8 y9 y10 : Option V), σ = [some (.ref p), some (.ref t), some (.ref k), some (.ref pal), some (.int most), some (.ref F), y6, y7, y8, y9, y10] ∧ H' F = some (.dK (rwK es)) ∧ H' l = some (.lst ((ts.map (·.1)).map V.str)) ∧ es.map (·.name) = (ts.map (·.1)).take i ∧
        (∀ b ∈ es, RwAt H' b ∧ b.at_ ≠ p ∧ b.at_ ≠ l ∧ H b.at_ = none ∧ b.rows.length ≤ most ∧ ∃ w, (b.name, w) ∈ ts ∧ RowsOk w (markOf ks b.name) (b.rows.map (·.2))) ∧ (es.map (·.at_)).Nodup ∧ Chg p H H')
      ⟨[], none, none, none, none, none, rfl, ?_, upd_same, rfl, (fun b hb => by cases hb), List.nodup_nil, C1⟩ (fun i σ H' _ hp => ?_) (fun i y σ H' hy hp => ?_) (fun σ H' hp => ?_)⟩
    · rw [upd_ne nFl]
      exact upd_same
    · obtain ⟨es, y6, y7, y8, y9, y10, rfl, _, hl', _⟩ := hp
      exact .of hl'
    · obtain ⟨es, y6, y7, y8, y9, y10, rfl, hF', hl', hnm, hes, hnd, hc⟩ := hp
      obtain ⟨n, hn, rfl⟩ := map_at hy
      obtain ⟨b, hb, rfl⟩ := map_at hn
      obtain ⟨n, w⟩ := b
      have hmem : (n, w) ∈ ts := List.mem_of_getElem? hb
      have hw := hT.wd _ hmem
      have tk : (ts.map (·.1)).take (i + 1) = (ts.map (·.1)).take i ++ [n] := by
        rw [List.take_add_one, hn]
        rfl
      refine ⟨Nat.zero_le _, fun R hR => ?_⟩
      have nR : R ≠ p := Chg.ne hc.1 hR
      have nlR : l ≠ R := ne_of_none hl' hR
      have R0 : H R = none := free_of hc hP hR
      have C1' := (Chg.refl hc.1).new (o := .lst []) hR
      refine ⟨_, rfl, _, rfl, _, _, rfl, rfl, p, _, rfl, C1'.1, by omega, Nat.lt_of_le_of_lt (by omega : _ ≤ 1000) (by decide), fun mm H2 m0 m1 C2 => ⟨_, rfl, by omega, by omega, ?_⟩⟩
      have C02 := C1'.trans C2
      refine for_range (lo := 0) (n := mm.toNat) (fun j σ H3 => ∃ (L : List (Addr × RowK)) (y8 y9 y10 : Option V), σ = [some (.ref p), some (.ref t), some (.ref k), some (.ref pal), some (.int most), some (.ref F), some (.str n), some (.ref R), y8, y9, y10] ∧ H3 R = some (.lst (L.map fun x => V.ref x.1)) ∧ RowsAt H3 L ∧ RowsOk w (markOf ks n) (L.map (·.2)) ∧ L.length ≤ j ∧ Chg p H' H3) ⟨[], y8, y9, y10, rfl, C2.2 R _ nR upd_same, (fun b hb => by cases hb), RowsOk.nil _ _, Nat.le_refl _, C02⟩ (fun j σ H3 hj hp => ?_) (fun σ H3 hp => ?_)
      · obtain ⟨L, y8, y9, y10, rfl, hR3, hL3, hok, hlen, c3⟩ := hp
        have h03 := hc.trans c3
        refine ⟨_, rfl, _, rfl, t, _, rfl, tab_at (h03.at nt ht) hT.nm.nd hmem, _, rfl, by omega, by omega, fun D hD => ?_⟩
        have nD : D ≠ p := Chg.ne c3.1 hD
        refine lc_range (lo := 0) (n := w.toNat) (fun z H4 => ∃ vs : List Key, H4 D = some (.lst (vs.map kV)) ∧ vs.length = z ∧ (∀ x ∈ vs, KVal x) ∧ Chg p H3 H4) ⟨[], upd_same, rfl, (fun x hx => by cases hx), (Chg.refl c3.1).new hD⟩ (fun z H4 hz hp => ?_) (fun H4 hp => ?_)
        · obtain ⟨vs, v1, v2, v3, c4⟩ := hp
          refine ⟨rfl, ?_⟩
          have hpal4 := (h03.trans c4).at npal hpal
          refine ⟨_, rfl, _, rfl, _, rfl, _, _, rfl, .inl (.of hpal4), p, _, rfl, c4.1, by rw [List.length_map]; omega, Nat.lt_of_le_of_lt (by rw [List.length_map]; omega : _ ≤ 100) (by decide), fun r H5 r0 r1 C5 => ?_⟩
          obtain ⟨v, hv⟩ := at_some (xs := vals.map kV) r0 r1
          obtain ⟨x, hx, rfl⟩ := List.mem_map.mp (atI_mem hv)
          have h5 := C5.2 D _ nD v1
          refine ⟨_, _, r, kV x, rfl, rfl, .of (C5.at npal hpal4), hv, _, h5, ?_, vs ++ [x], ?_, ?_, fun y hy => ?_, (c4.trans C5).mut hD nD⟩
          · rw [List.length_map]
            exact small1000 (by omega)
          · rw [List.map_append]
            exact upd_same
          · rw [List.length_append, v2]
            rfl
          · rcases List.mem_append.mp hy with h | h
            · exact v3 y h
            · rw [List.mem_singleton.mp h]
              exact hv3 x hx
        obtain ⟨vs, v1, v2, v3, c4⟩ := hp
        refine ⟨D, _, rfl, .inl ⟨.of v1, fun tt htt => ?_⟩⟩
        have c5 := c4.new (o := .tup (vs.map kV)) htt
        have h05 := h03.trans c5
        have hk5 := h05.at nk hk
        have hR5 := c5.at nR hR3
        have hL5 : RowsAt (upd H4 tt (.tup (vs.map kV))) L := fun b hb => chg_tup c3.1 c5 _ _ (hL3 b hb)
        have hw5 : (vs.length : Int) = w := by omega
        refine ⟨_, rfl, _, rfl, k, rfl, .inl ⟨_, .inl hk5⟩, _, rfl, _, DGet.k (k := Sum.inr n) hk5, _, rfl, R, markA ks n, tt, L, markOf ks n, vs, by rw [mark_val]; rfl, hR5, hL5, upd_same, fun cs hcs => ?_, fun b hb => ?_, fun x hx => (v3 x hx).ok, fun H6 s6 => ⟨_, rfl, ?_⟩⟩
        · obtain ⟨a1, a2, a3, a4⟩ := mark_at hK hT.nm.nd hmem hcs
          exact ⟨chg_tup hP h05 _ _ a1, fun x hx => by rw [hw5]; exact a2 x hx, by omega⟩
        · obtain ⟨a1, a2⟩ := hok.wid b.2 (List.mem_map.mpr ⟨b, hb, rfl⟩)
          exact ⟨by omega, fun x hx => (a2 x hx).ok⟩
        have c6 := (c3.trans c5).same4' s6
        have hR6 := s6 _ _ hR5
        have hL6 := hL5.same s6
        have ht6 := s6 _ _ (upd_same (H := H4) (a := tt) (o := .tup (vs.map kV)))
        generalize upd H4 tt (.tup (vs.map kV)) = H5 at *
        cases e : lets (L.map (·.2)) (markOf ks n) vs with
        | false => exact ifF ⟨L, _, _, _, rfl, hR6, hL6, hok, Nat.le_succ_of_le hlen, c6⟩
        | true =>
          refine ifT ⟨_, rfl, .inl ⟨rfl, _, .of hR6⟩, _, rfl, R, _, _, rfl, rfl, hR6, by rw [List.length_map]; exact small1000 (by omega), L ++ [(tt, vs)], _, _, _, rfl, ?_, fun b hb => ?_, ?_, by rw [List.length_append]; exact Nat.succ_le_succ hlen, c6.mut hR nR⟩
          · rw [List.map_append]
            exact upd_same
          · refine upd_tup hR6 (by intro _ z; cases z) _ _ ?_
            rcases List.mem_append.mp hb with h | h
            · exact hL6 b h
            · rw [List.mem_singleton.mp h]
              exact ht6
          · rw [List.map_append]
            exact hok.snoc hw5 v3 e
      · obtain ⟨L, y8, y9, y10, rfl, hR3, hL3, hok, hlen, c3⟩ := hp
        have h03 := hc.trans c3
        have hF3 := c3.at nF hF'
        have nRF : R ≠ F := (ne_of_none hF' hR).symm
        have hle : es.length ≤ 26 := by
          have e1 := congrArg List.length hnm
          rw [List.length_map, List.length_take, List.length_map] at e1
          have e2 := hT.nm.len
          rw [List.length_map] at e2
          omega
        have lF : ∀ q : Addr, (∃ xs, H3 q = some (.lst xs)) → q ≠ F := fun q ⟨xs, e⟩ z => by
          rw [z, hF3] at e
          cases e
        refine ⟨_, rfl, _, rfl, _, rfl, F, _, rfl, DPut.k (k := Sum.inr n) hF3 ?_, es ++ [⟨n, R, L⟩], _, _, _, _, _, rfl, ?_, ?_, ?_, fun b hb => ?_, ?_, h03.mut hF nF⟩
        · unfold rwK
          rw [List.length_map]
          exact small1000 (by omega)
        · unfold rwK
          rw [snoc_map]
          refine Eq.trans upd_same (congrArg (fun x => some (HO.dK x)) (putK_new _ (valV_no ?_)))
          have e := keys_rw es
          unfold rwK at e
          rw [e, hnm]
          exact inr_no (nd_take hT.nm.nd hn)
        · rw [upd_ne nFl.symm]
          exact c3.at nl hl'
        · rw [List.map_append, hnm, tk]
          rfl
        · rcases List.mem_append.mp hb with h | h
          · obtain ⟨h1, h2, h3, h4, h5, h6⟩ := hes b h
            have h7 := h1.chg hc.1 h2 c3
            exact ⟨h7.oth hF3 (by intro _ z; cases z) (lF _ ⟨_, h7.lst⟩), h2, h3, h4, h5, h6⟩
          · rw [List.mem_singleton.mp h]
            exact ⟨(RwAt.mk (b := ⟨n, R, L⟩) hR3 hL3).oth hF3 (by intro _ z; cases z) nRF, nR, nlR.symm, R0, by show L.length ≤ most; omega, w, hmem, hok⟩
        · rw [List.map_append]
          refine List.nodup_append.mpr ⟨hnd, List.nodup_cons.mpr ⟨by simp, List.nodup_nil⟩, fun x hx y hy e => ?_⟩
          rw [List.mem_singleton.mp hy] at e
          obtain ⟨b, hb, rfl⟩ := List.mem_map.mp hx
          have h1 := (hes b hb).1.lst
          rw [e, hR] at h1
          cases h1
    · obtain ⟨es, y6, y7, y8, y9, y10, rfl, hF', hl', hnm, hes, hnd, hc⟩ := hp
      rw [List.length_map, List.take_of_length_le (by rw [List.length_map]; exact Nat.le_refl _)] at hnm
      exact ⟨_, rfl, q F es H' hF hF' hnm (fun b hb => by obtain ⟨h1, h2, h3, h4, h5, h6⟩ := hes b hb; exact ⟨h1, h2, h4, h5, h6⟩) hnd hc⟩
end
/-! ### are_values, columns_of -/
def goodT (xs : List V) (m : Int) : Bool := decide ((xs.length : Int) = m) && xs.all valV'
theorem thg_key {H : Hp} {k : Key} (h : KVal k) : Thg H (kV k) := by
  cases k with
  | inl i => exact .int i
  | inr s => exact .str s (by have := h.2.1; omega) fun c hc => by have := (h.2.2 c hc).2; omega
theorem valV_key {k : Key} (h : KVal k) : valV' (kV k) = true := by
  cases k with
  | inl i =>
    refine decide_eq_true ?_
    have e : (10 : Int) ^ 30 - 1 = 999999999999999999999999999999 := by decide
    obtain ⟨h1, h2⟩ := (show -(10 ^ 30 - 1) ≤ i ∧ i ≤ 10 ^ 30 - 1 from h)
    rw [e] at h1 h2
    exact ⟨h1, h2⟩
  | inr s =>
    show wordB s = true
    unfold wordB
    rw [decide_eq_true ⟨h.1, h.2.1⟩, Bool.true_and, List.all_eq_true]
    exact fun c hc => decide_eq_true (h.2.2 c hc)
theorem good_row {r : RowK} {m : Int} (hm : (r.length : Int) = m) (h : ∀ k ∈ r, KVal k) : goodT (r.map kV) m = true := by
  unfold goodT
  rw [List.length_map, decide_eq_true hm, Bool.true_and, List.all_eq_true]
  intro x hx
  obtain ⟨k, hk, rfl⟩ := List.mem_map.mp hx
  exact valV_key (h k hk)
section
variable {P : Program} {w : World} {K : PySem.W.Frag} {mg : Str → Option Value} {base : Heap} {a : Nat → Addr} {d : Nat → FuncData}
def spAre : Sp := fun vs H Q _ => ∃ (p : Addr) (xs : List V) (m : Int), vs = [.ref p, .int m] ∧ H p = some (.tup xs) ∧ xs.length ≤ 100 ∧ (∀ x ∈ xs, Thg H x) ∧ ∀ H', Same H H' → Q (.bl (goodT xs m)) H'
theorem ok_are (T : Txt K mg a d) : FnOk P w K mg base CX0 3 (a 16) (d 16) ["thing", "many"] spAre := by
  have G15 : FnOk P w K mg base CX0 2 (a 15) (d 15) ["thing"] (spB valV') := ok_is_value T
  refine T.F16.ok sc_are_values (fun vs H Q E h => ?_) (fun cdv A outer s H vs Q E hr h => ?_)
  · obtain ⟨p, xs, m, rfl, _⟩ := h
    rfl
  · obtain ⟨p, xs, m, rfl, hp, hl, hx, q⟩ := h
    refine ⟨_, (pss_one (ps_ret (pe_and (pe_callB (id := "isinstance")  call_isi (by rfl) T.z_isinstance (by decide +kernel) (pa_cons (pv 0) (pa_cons (pe_bltn (v := .ty "tuple") (by rfl) T.z_tuple (by decide +kernel) rfl) pa_nil))) (pe_and (pe_cmpR op_eq (pe_callB (id := "len")  call_len_seq (by rfl) T.z_len (by decide +kernel) (pa_cons (pv 0) pa_nil)) (pv 1) (nomark _)) (pe_one (pe_callB (id := "all")  (cr_all rfl) (by rfl) T.z_all (by decide +kernel) (pa_cons (pe_lc (own := [("part", 2)]) rfl sc_are_values.nd (pi_tup (pv 0)) (blkOk_by (N := ["thing", "many", "part"]) (sc := defScope s_are_values) (by decide +kernel)) (fun _ _ _ _ _ => pg_name (i := 2) sc_are_values.nd rfl (.inl rfl)) (fun _ _ _ _ _ => pts_nil) (fun _ _ _ _ _ => (pe_call G15 (hr.mono (by decide)) (by rfl) T.g15 T.F15.kp T.b15 .nil pass0 (pa_cons (pv 2) pa_nil)))) pa_nil))))))), ?_⟩
    refine ⟨_, rfl, _, _, _, _, _, rfl, .ty _, .base (.tup hp), kit_ty (show kitB "tuple" "tuple" = some true by decide +kernel), true, rfl, ifT ?_⟩
    refine ⟨_, rfl, _, _, rfl, .inr (.of hp), _, rfl, rfl, _, rfl, ?_⟩
    unfold goodT at q
    refine (fun (A B : Prop) (h1 : (xs.length : Int) = m → A) (h2 : (xs.length : Int) ≠ m → B) => (show if decide (V.int (xs.length : Int) = V.int m) = true then A else B from ite_eqI h1 h2)) _ _ (fun e => ?_) (fun ne => ?_)
    · rw [decide_eq_true e, Bool.true_and] at q
      refine ⟨_, rfl, p, rfl, ⟨_, .of hp⟩, fun D hD => ?_⟩
      refine lc_tup (K := K) (a := p) (xs := xs) (fun i H' => H' D = some (.lst (((xs.take i).map valV').map V.bl)) ∧ Same H H') ⟨upd_same, same_upd hD⟩ (fun i H' _ h => .of (h.2 _ _ hp)) (fun i x H' hx' h => ?_) (fun H' h => ?_)
      · have li : i < xs.length := (List.getElem?_eq_some_iff.mp hx').1
        refine ⟨rfl, _, rfl, x, rfl, (hx x (List.mem_of_getElem? hx')).same h.2, fun H2 s2 => ⟨_, s2 _ _ h.1, ?_, ?_, fun b o e => ?_⟩⟩
        · rw [List.length_map, List.length_map, List.length_take]
          exact small1000 (by omega)
        · rw [map_take hx', List.map_append]
          exact upd_same
        · rw [upd_ne (ne_of_none e hD)]
          exact s2 _ _ (h.2 b o e)
      · obtain ⟨h1, h2⟩ := h
        rw [List.take_length] at h1
        refine ⟨D, _, rfl, .of h1, ?_⟩
        have ea : ((xs.map valV').all id) = xs.all valV' := by rw [List.all_map]; rfl
        rw [ea]
        exact q H' h2
    · rw [decide_eq_false ne, Bool.false_and] at q
      exact q H (Same.refl H)
def spColsOf : Sp := fun vs H Q _ => ∃ (p c : Addr) (r : RowK) (cs : List Int), vs = [.ref p, .ref c] ∧ RowAt H p r ∧ H c = some (.tup (cs.map V.int)) ∧ (∀ x ∈ cs, 0 ≤ x ∧ x < (r.length : Int)) ∧ cs.length ≤ 100 ∧ ∀ t H', RowAt H' t (projR cs r) → Same H H' → Q (.ref t) H'
theorem ok_columns_of (T : Txt K mg a d) : FnOk P w K mg base CX0 1 (a 17) (d 17) ["row", "columns"] spColsOf := by
  refine T.F17.ok sc_columns_of (fun vs H Q E h => ?_) (fun cdv A outer s H vs Q E hr h => ?_)
  · obtain ⟨p, c, r, cs, rfl, _⟩ := h
    rfl
  · obtain ⟨p, c, r, cs, rfl, hp, hc, hc2, hc3, q⟩ := h
    refine ⟨_, (pss_one (ps_ret (pe_callTy (T := "tuple")  call_tuple_of (by rfl) T.z_tuple (by decide +kernel) (pa_cons (pe_lc (own := [("column", 2)]) rfl sc_columns_of.nd (pi_tup (pv 1)) (blkOk_by (N := ["row", "columns", "column"]) (sc := defScope s_columns_of) (by decide +kernel)) (fun _ _ _ _ _ => pg_name (i := 2) sc_columns_of.nd rfl (.inl rfl)) (fun _ _ _ _ _ => pts_nil) (fun _ _ _ _ _ => (pe_ix (r := rIxT K) ix_tup (pv 0) (pv 2) (fun _ _ => rfl)))) pa_nil)))), ?_⟩
    refine ⟨_, rfl, c, rfl, ⟨_, .of hc⟩, fun D hD => ?_⟩
    refine lc_tup (K := K) (a := c) (xs := cs.map V.int) (fun j H2 => H2 D = some (.lst ((projR (cs.take j) r).map kV)) ∧ Same H H2) ⟨upd_same, same_upd hD⟩ (fun j H2 _ hp => .of (hp.2 _ _ hc)) (fun j x H2 hx h => ?_) (fun H2 h => ?_)
    · obtain ⟨z, hz, rfl⟩ := map_at hx
      have hzm := hc2 z (List.mem_of_getElem? hz)
      have hj : j < cs.length := (List.getElem?_eq_some_iff.mp hz).1
      refine ⟨rfl, _, rfl, _, rfl, p, _, z, _, rfl, rfl, .of (h.2 _ _ hp), getD_at hzm.1 hzm.2, _, h.1, ?_, ?_, fun x o e => ?_⟩
      · unfold projR
        rw [List.length_map, List.length_map, List.length_take]
        exact small1000 (by omega)
      · rw [projR_snoc hz, List.map_append]
        exact upd_same
      · rw [upd_ne (ne_of_none e hD)]
        exact h.2 x o e
    · obtain ⟨h1, h2⟩ := h
      rw [List.length_map, List.take_length] at h1
      exact ⟨D, _, rfl, .inl ⟨.of h1, fun t ht => q t _ upd_same (h2.trans (same_upd ht))⟩⟩
end
/-! ### _check_table, where all is right -/
def colsW (w : Int) : List Int := (List.range w.toNat).map fun i => (0 : Int) + (i : Nat)
def colsOf (w : Int) (mk : Option (List Int)) : List Int := mk.getD (colsW w)
theorem rgV_cols (w : Int) : rgV 0 w = (colsW w).map V.int := by
  unfold rgV colsW
  rw [List.map_map, Int.sub_zero]
  rfl
theorem projR_all {r : RowK} {w : Int} (h : (r.length : Int) = w) : projR (colsW w) r = r := by
  unfold projR colsW
  rw [List.map_map]
  refine List.ext_getElem (by rw [List.length_map, List.length_range]; omega) fun i h1 h2 => ?_
  rw [List.getElem_map, List.getElem_range]
  show r.getD ((0 : Int) + (i : Nat)).toNat (.inl 0) = _
  rw [show ((0 : Int) + (i : Nat)).toNat = i by omega, List.getD_eq_getElem?_getD, List.getElem?_eq_getElem h2]
  rfl
theorem colsOf_in {w : Int} {mk : Option (List Int)} (h : ∀ cs, mk = some cs → ∀ x ∈ cs, 0 ≤ x ∧ x < w) : ∀ x ∈ colsOf w mk, 0 ≤ x ∧ x < w := by
  cases mk with
  | some cs => exact h cs rfl
  | none =>
    intro x hx
    obtain ⟨i, hi, rfl⟩ := List.mem_map.mp (show x ∈ colsW w from hx)
    have := List.mem_range.mp hi
    omega
theorem RowsOk.proj {w : Int} {mk : Option (List Int)} {rs : List RowK} (h : RowsOk w mk rs) : (rs.map (projR (colsOf w mk))).Nodup := by
  refine List.pairwise_map.mpr (h.apart.imp_of_mem fun {a b} ha hb hab => ?_)
  obtain ⟨n1, n2⟩ := hab
  cases mk with
  | some cs => exact n2 cs rfl
  | none =>
    show projR (colsW w) a ≠ projR (colsW w) b
    rw [projR_all (h.wid a ha).1, projR_all (h.wid b hb).1]
    exact n1
section
variable {P : Program} {w : World} {K : PySem.W.Frag} {mg : Str → Option Value} {base : Heap} {a : Nat → Addr} {d : Nat → FuncData}
def spChkTab (C : Addr) : Sp := fun vs H Q _ => ∃ (x l : Addr) (n : Str) (w : Int) (ts : List (Str × Int)) (ks : List KeyE) (ss : List SvE) (mt ms : Nat) (L : List (Addr × RowK)), vs = [.ref x, .str n, .ref l] ∧ SchAt C x H ts ks ss mt ms ∧ (n, w) ∈ ts ∧ H l = some (.lst (L.map fun b => V.ref b.1)) ∧ RowsAt H L ∧ RowsOk w (markOf ks n) (L.map (·.2)) ∧ L.length ≤ 500 ∧ ∀ H', Same H H' → Q .non H'
theorem ok_check_table (T : Txt K mg a d) : FnOk P w K mg base CX0 5 (a 46) (d 46) ["schema", "table", "rows"] (spChkTab (a 42)) := by
  have G5205 : FnOk P w K mg base CX0 1 (a 5205) (d 5205) ["self"] (spNms (a 42) fun ts _ => ts.map (·.1)) := ok_table_names T
  have G5208 : FnOk P w K mg base (L2.CX P w) 4 (a 5208) (d 5208) ["self", "table"] (spAsk (a 42) (a 3) (fun ts _ _ n => valV (tabK ts) (Sum.inr n)) (fun ts _ _ n => valV (tabK ts) (Sum.inr n))) := ok_width_of T
  have G5209 : FnOk P w K mg base (L2.CX P w) 4 (a 5209) (d 5209) ["self", "table"] (spAsk (a 42) (a 3) (fun ts _ _ n => valV (tabK ts) (Sum.inr n)) (fun _ ks _ n => some ((valV (keyK ks) (Sum.inr n)).getD .non))) := ok_key_of T
  have G16 : FnOk P w K mg base CX0 3 (a 16) (d 16) ["thing", "many"] spAre := ok_are T
  have G17 : FnOk P w K mg base CX0 1 (a 17) (d 17) ["row", "columns"] spColsOf := ok_columns_of T
  refine T.F46.ok sc__check_table (fun vs H Q E h => ?_) (fun cdv A outer s H vs Q E hr h => ?_)
  · obtain ⟨x, l, n, w, ts, ks, ss, mt, ms, L, rfl, _⟩ := h
    rfl
  · obtain ⟨x, l, n, w, ts, ks, ss, mt, ms, L, rfl, hx, hmem, hl, hL, hok, hlen, q⟩ := h
    refine ⟨_, (pss_cons (ps_if (pt_cmpR op_notIn_seq (pv 1) (pe_meth0 (pv 0) T.cl_42 T.m_5205 G5205 (hr.mono (by decide)) T.b5205 .nil pass0) (by rfl))
    (pss_one ps_never)
    pss_nil)
  (pss_cons (ps_set (i := 3) sc__check_table.nd rfl (.inl rfl) (pe_meth (pv 0) T.cl_42 T.m_5208 G5208 (hr.mono (by decide)) T.b5208 .nil (passN rfl) (pa_cons (pv 1) pa_nil)))
  (pss_cons (ps_set (i := 4) sc__check_table.nd rfl (.inl rfl) (pe_meth (pv 0) T.cl_42 T.m_5209 G5209 (hr.mono (by decide)) T.b5209 .nil (passN rfl) (pa_cons (pv 1) pa_nil)))
  (Evl.pss_cut (ps_set (i := 5) sc__check_table.nd rfl (.inl rfl) (pe_ifExp (pt_cmpR op_isN (pv 4) pe_non (nomark _)) (pe_tupRg rfl (by rfl) T.z_tuple (prg_1 (by rfl) T.z_range (pv 3))) (pv 4)))
  (pss_cons (ps_set (i := 6) sc__check_table.nd rfl (.inl rfl) pe_dnewT)
  (pss_one (ps_for PassesOwn.never rfl (pi_enum (by rfl) T.z_enumerate (pa_cons (pv 2) pa_nil)) (pg_tup rfl (pgs_cons (pg_name (i := 7) sc__check_table.nd rfl (.inl rfl)) (pgs_cons (pg_name (i := 8) sc__check_table.nd rfl (.inl rfl)) pgs_nil)))
    (pss_cons (ps_if (PW.pt (pw_or (pt_not (pt_val (pe_call G16 (hr.mono (by decide)) (by rfl) T.g16 T.F16.kp T.b16 .nil pass0 (pa_cons (pv 8) (pa_cons (pv 3) pa_nil))))) (pw_or1 (pt_cmp (pc_din (hu_of hr) (pe_call G17 (hr.mono (by decide)) (by rfl) T.g17 T.F17.kp T.b17 .nil pass0 (pa_cons (pv 8) (pa_cons (pv 5) pa_nil))) (pv 6))))))
        (pss_one ps_never)
        pss_nil)
      (pss_one (ps_dput (hu_of hr) (pv 6) (pe_call G17 (hr.mono (by decide)) (by rfl) T.g17 T.F17.kp T.b17 .nil pass0 (pa_cons (pv 8) (pa_cons (pv 5) pa_nil))) pe_bl rfl)))))))))), ?_⟩
    obtain ⟨dx, d1, d2, d3, o⟩ := id hx
    have hval : valV (tabK ts) (Sum.inr n) = some (.int w) := val_nodup (tab_nd o.hT) (Sum.inr n, .int w) (List.mem_map.mpr ⟨(n, w), hmem, rfl⟩)
    have hw := o.hT.wd _ hmem
    refine ⟨_, rfl, _, rfl, x, dx, _, rfl, o.ob, flds_no _ _ _ (by decide +kernel) (by decide +kernel) (by decide +kernel), x, ts, ks, ss, mt, ms, rfl, hx, fun l1 ys H1 f1 e1 p1 so1 s1 => ?_⟩
    refine ⟨l1, ys.map V.str, rfl, .inl (.of e1), rfl, (by rw [List.all_map]; exact List.all_eq_true.mpr fun _ _ => rfl), _, rfl, ?_⟩
    show if (!inV (.str n) (ys.map V.str)) = true then _ else _
    rw [inV_strs, decide_eq_true (p1.mem_iff.mpr (List.mem_map.mpr ⟨_, hmem, rfl⟩))]
    refine ifF ?_
    have hx1 := hx.same s1
    have o1 := o.same s1
    refine ⟨_, rfl, x, dx, _, rfl, o1.ob, flds_no _ _ _ (by decide +kernel) (by decide +kernel) (by decide +kernel), _, rfl, x, n, ts, ks, ss, mt, ms, rfl, hx1, fun v hv => ⟨_, hval, ?_⟩, fun e => by rw [show (fun ts _ _ n => valV (tabK ts) (Sum.inr n) : List (Str × Int) → List KeyE → List SvE → Str → Option V) ts ks ss n = some (.int w) from hval] at e; cases e⟩
    refine ⟨_, rfl, x, dx, _, rfl, o1.ob, flds_no _ _ _ (by decide +kernel) (by decide +kernel) (by decide +kernel), _, rfl, x, n, ts, ks, ss, mt, ms, rfl, hx1, fun v hv => ⟨_, rfl, ?_⟩, fun e => by rw [show (fun ts _ _ n => valV (tabK ts) (Sum.inr n) : List (Str × Int) → List KeyE → List SvE → Str → Option V) ts ks ss n = some (.int w) from hval] at e; cases e⟩
    rw [mark_val]
    have mk_in := colsOf_in (w := w) (mk := markOf ks n) fun cs e => (mark_at o.hK o.hT.nm.nd hmem e).2.1
    have mk_le : (colsOf w (markOf ks n)).length ≤ 100 := by
      cases e : markOf ks n with
      | none =>
        show (colsW w).length ≤ 100
        unfold colsW
        rw [List.length_map, List.length_range]
        omega
      | some cs =>
        have := (mark_at o.hK o.hT.nm.nd hmem e).2.2.2
        show cs.length ≤ 100
        omega
    refine ⟨fun σ H' => ∃ c, σ = [some (.ref x), some (.str n), some (.ref l), some (.int w), some (markV (markOf ks n) (markA ks n)), some (.ref c), none, none, none] ∧ H' c = some (.tup ((colsOf w (markOf ks n)).map V.int)) ∧ Same H H', ?_, ?_⟩
    · cases e : markOf ks n with
      | none =>
        refine ⟨_, rfl, rfl, _, rfl, ite_d (fun _ => ?_) (fun z => absurd rfl z)⟩
        refine ⟨_, rfl, w, rfl, RgOk.of_le (by omega) (by omega) (by omega) (by omega), fun c hc => ⟨c, rfl, ?_, s1.trans (same_upd hc)⟩⟩
        rw [rgV_cols]
        exact upd_same
      | some cs =>
        refine ⟨_, rfl, rfl, _, rfl, ite_d (fun z => nomatch z) (fun _ => ?_)⟩
        exact ⟨_, rfl, _, rfl, s1 _ _ (mark_at o.hK o.hT.nm.nd hmem e).1, s1⟩
    rintro σ H2 ⟨c, rfl, hc, s2⟩
    intro S hS
    have s3 := s2.trans (same_upd (o := .dT []) hS)
    have hw' : ∀ b ∈ L, (b.2.length : Int) = w ∧ ∀ k ∈ b.2, KVal k := fun b hb => hok.wid b.2 (List.mem_map.mpr ⟨b, hb, rfl⟩)
    refine ⟨_, rfl, l, L.map (fun b => V.ref b.1), rfl, .of (s3 _ _ hl), ?_⟩
    refine for_it (walk_enum (K := K) (a := l) (xs := L.map fun b => V.ref b.1)) (fun i σ H' => ∃ y7 y8 : Option V, σ = [some (.ref x), some (.str n), some (.ref l), some (.int w), some (markV (markOf ks n) (markA ks n)), some (.ref c), some (.ref S), y7, y8] ∧ H' S = some (.dT (((L.take i).map fun b => projR (colsOf w (markOf ks n)) b.2).map fun k => (k, V.bl true))) ∧ Same H2 H') ⟨none, none, rfl, upd_same, same_upd hS⟩ (fun i σ H' _ hp => ?_) (fun i v σ H' H'' hi hp hy => ?_) (fun σ H' hp => ?_)
    · obtain ⟨y7, y8, rfl, _, s⟩ := hp
      exact .of (s _ _ (s2 _ _ hl))
    · obtain ⟨y7, y8, rfl, e1, s⟩ := hp
      obtain ⟨T', u1, u2, rfl, hT', rfl, hu1, hu2⟩ := hy
      cases hu1
      obtain ⟨b, hb, rfl⟩ := map_at hu2
      have hbm := List.mem_of_getElem? hb
      obtain ⟨hbw, hbk⟩ := hw' b hbm
      have li : i < L.length := (List.getElem?_eq_some_iff.mp hb).1
      have sT := same_upd (o := .tup [.int ((i : Nat) : Int), .ref b.1]) hT'
      have s4 := s.trans sT
      have e4 := sT _ _ e1
      have hb4 := s4 _ _ (s2 _ _ (hL b hbm))
      refine ⟨T', _, rfl, .of upd_same, rfl, _, _, rfl, _, _, rfl, rfl, ?_⟩
      refine ⟨_, rfl, _, rfl, b.1, _, w, rfl, hb4, by rw [List.length_map]; omega, fun y hy => ?_, fun H5 s5 => ⟨_, rfl, ?_⟩⟩
      · obtain ⟨k, hk, rfl⟩ := List.mem_map.mp hy
        exact thg_key (hbk k hk)
      rw [good_row hbw hbk]
      refine ifF ?_
      have no : valV (((L.take i).map fun b => projR (colsOf w (markOf ks n)) b.2).map fun k => (k, V.bl true)) (projR (colsOf w (markOf ks n)) b.2) = none := by
        refine valV_no ?_
        rw [List.map_map]
        have nd := hok.proj
        rw [List.map_map] at nd
        intro hm
        obtain ⟨b', hb', e⟩ := List.mem_map.mp hm
        exact nd_take nd (show (L.map (projR (colsOf w (markOf ks n)) ∘ fun x => x.2))[i]? = some (projR (colsOf w (markOf ks n)) b.2) by rw [List.getElem?_map, hb]; rfl) (by rw [← List.map_take]; have e' : b' = projR (colsOf w (markOf ks n)) b.2 := e; rw [← e']; exact hb')
      have c5 := s5 _ _ (s4 _ _ hc)
      refine ⟨_, rfl, _, rfl, b.1, c, b.2, _, rfl, s5 _ _ hb4, c5, fun z hz => by rw [hbw]; exact mk_in z hz, mk_le, fun t6 H6 ht6 s6 => ?_⟩
      have e6 := s6 _ _ (s5 _ _ e4)
      refine ⟨_, rfl, S, _, rfl, DGet.t (k := projR (colsOf w (markOf ks n)) b.2) e6 ht6, _, rfl, ?_⟩
      rw [no]
      refine ifF ?_
      refine ⟨_, rfl, _, rfl, _, rfl, b.1, c, b.2, _, rfl, s6 _ _ (s5 _ _ hb4), s6 _ _ c5, fun z hz => by rw [hbw]; exact mk_in z hz, mk_le, fun t7 H7 ht7 s7 => ?_⟩
      refine ⟨S, _, rfl, DPut.t (k := projR (colsOf w (markOf ks n)) b.2) (s7 _ _ e6) ht7 ?_, _, _, rfl, ?_, fun d o e => ?_⟩
      · rw [List.length_map, List.length_map, List.length_take]
        exact small1000 (by omega)
      · rw [putK_new _ no, map_take hb, List.map_append]
        exact upd_same
      · rw [upd_ne (ne_of_none e hS)]
        exact s7 _ _ (s6 _ _ (s5 _ _ (s4 _ _ e)))
    · obtain ⟨y7, y8, rfl, _, s⟩ := hp
      exact q H' (s2.trans s)
end
/-! ### _by_given -/
theorem filt1 {α : Type} {p : α → Bool} {b : α} (h : p b = true) : [b].filter p = [b] := by simp [h]
theorem filt0 {α : Type} {p : α → Bool} {b : α} (h : p b = false) : [b].filter p = [] := by simp [h]
/-- a group: what the rows have at the columns, the place of their list, the rows -/
abbrev Grp := RowK × Addr × List (Addr × RowK)
structure Groups (H : Hp) (D : Addr) (cs : List Int) (L : List (Addr × RowK)) (gs : List Grp) : Prop where
  dic : H D = some (.dT (gs.map fun g => (g.1, V.ref g.2.1)))
  lst : ∀ g ∈ gs, H g.2.1 = some (.lst (g.2.2.map fun b => V.ref b.1))
  keys : (gs.map (·.1)).Nodup
  ats : (gs.map (·.2.1)).Nodup
  val : ∀ g ∈ gs, g.2.2 = L.filter fun b => decide (projR cs b.2 = g.1)
  all : ∀ b ∈ L, projR cs b.2 ∈ gs.map (·.1)
  le : gs.length ≤ L.length
theorem Groups.same {H H' : Hp} {D : Addr} {cs : List Int} {L : List (Addr × RowK)} {gs : List Grp} (g : Groups H D cs L gs) (s : Same H H') : Groups H' D cs L gs := ⟨s _ _ g.dic, fun x hx => s _ _ (g.lst x hx), g.keys, g.ats, g.val, g.all, g.le⟩
theorem grp_keys (gs : List Grp) : (gs.map fun g => (g.1, V.ref g.2.1)).map (·.1) = gs.map (·.1) := by
  rw [List.map_map]
  rfl
theorem Groups.new {H : Hp} {D e : Addr} {cs : List Int} {L : List (Addr × RowK)} {gs : List Grp} {b : Addr × RowK} (g : Groups H D cs L gs) (he : H e = some (.lst [])) (hn : ∀ x ∈ gs, x.2.1 ≠ e) (no : projR cs b.2 ∉ gs.map (·.1)) :
    Groups (upd (upd H D (.dT (putK (gs.map fun g => (g.1, V.ref g.2.1)) (projR cs b.2) (.ref e)))) e (.lst [.ref b.1])) D cs (L ++ [b]) (gs ++ [(projR cs b.2, e, [b])]) := by
  have nDe : D ≠ e := ne_of g.dic he (by intro z; cases z)
  refine ⟨?_, fun x hx => ?_, ?_, ?_, fun x hx => ?_, fun y hy => ?_, ?_⟩
  · rw [upd_ne nDe, putK_new _ (valV_no (by rw [grp_keys]; exact no)), List.map_append]
    exact upd_same
  · rcases List.mem_append.mp hx with h | h
    · have h1 := g.lst x h
      rw [upd_ne (hn x h), upd_ne (ne_of h1 g.dic (by intro z; cases z))]
      exact h1
    · rw [List.mem_singleton.mp h]
      exact upd_same
  · rw [List.map_append]
    refine List.nodup_append.mpr ⟨g.keys, List.nodup_cons.mpr ⟨by simp, List.nodup_nil⟩, fun x hx y hy e' => ?_⟩
    rw [List.mem_singleton.mp hy] at e'
    have e2 : x = projR cs b.2 := e'
    rw [e2] at hx
    exact no hx
  · rw [List.map_append]
    refine List.nodup_append.mpr ⟨g.ats, List.nodup_cons.mpr ⟨by simp, List.nodup_nil⟩, fun x hx y hy e' => ?_⟩
    rw [List.mem_singleton.mp hy] at e'
    obtain ⟨z, hz, rfl⟩ := List.mem_map.mp hx
    exact hn z hz e'
  · rw [List.filter_append]
    rcases List.mem_append.mp hx with h | h
    · have : projR cs b.2 ≠ x.1 := fun z => no (List.mem_map.mpr ⟨x, h, z.symm⟩)
      rw [filt0 (b := b) (p := fun b : Addr × RowK => decide (projR cs b.2 = x.1)) (decide_eq_false this), List.append_nil]
      exact g.val x h
    · rw [List.mem_singleton.mp h]
      have e0 : L.filter (fun y => decide (projR cs y.2 = projR cs b.2)) = [] := List.filter_eq_nil_iff.mpr fun y hy z => no (by rw [← of_decide_eq_true z]; exact g.all y hy)
      show [b] = L.filter (fun y => decide (projR cs y.2 = projR cs b.2)) ++ [b].filter (fun y => decide (projR cs y.2 = projR cs b.2))
      rw [e0, List.nil_append, filt1 (b := b) (p := fun y : Addr × RowK => decide (projR cs y.2 = projR cs b.2)) (decide_eq_true rfl)]
  · rw [List.map_append]
    rcases List.mem_append.mp hy with h | h
    · exact List.mem_append.mpr (.inl (g.all y h))
    · rw [List.mem_singleton.mp h]
      exact List.mem_append.mpr (.inr (List.mem_singleton.mpr rfl))
  · rw [List.length_append, List.length_append]
    exact Nat.add_le_add_right g.le 1
theorem valV_grp {gs : List Grp} (nd : (gs.map (·.1)).Nodup) {g : Grp} (hg : g ∈ gs) : valV (gs.map fun g => (g.1, V.ref g.2.1)) g.1 = some (.ref g.2.1) :=
  val_nodup (kvs := gs.map fun g => (g.1, V.ref g.2.1)) (by rw [grp_keys]; exact nd) (g.1, V.ref g.2.1) (List.mem_map.mpr ⟨g, hg, rfl⟩)
theorem Groups.add {H : Hp} {D : Addr} {cs : List Int} {L : List (Addr × RowK)} {gs : List Grp} {b : Addr × RowK} {g : Grp} (G : Groups H D cs L gs) (hg : g ∈ gs) (hk : projR cs b.2 = g.1) :
    Groups (upd H g.2.1 (.lst ((g.2.2.map fun b => V.ref b.1) ++ [.ref b.1]))) D cs (L ++ [b]) (gs.map fun x => if x.1 = g.1 then (x.1, x.2.1, x.2.2 ++ [b]) else x) := by
  have f1 : (gs.map fun x => if x.1 = g.1 then (x.1, x.2.1, x.2.2 ++ [b]) else x).map (·.1) = gs.map (·.1) := by
    rw [List.map_map]
    exact List.map_congr_left fun x _ => by show (if x.1 = g.1 then (x.1, x.2.1, x.2.2 ++ [b]) else x).1 = x.1; split <;> rfl
  have f2 : (gs.map fun x => if x.1 = g.1 then (x.1, x.2.1, x.2.2 ++ [b]) else x).map (·.2.1) = gs.map (·.2.1) := by
    rw [List.map_map]
    exact List.map_congr_left fun x _ => by show (if x.1 = g.1 then (x.1, x.2.1, x.2.2 ++ [b]) else x).2.1 = x.2.1; split <;> rfl
  have f3 : ((gs.map fun x => if x.1 = g.1 then (x.1, x.2.1, x.2.2 ++ [b]) else x).map fun g => (g.1, V.ref g.2.1)) = gs.map fun g => (g.1, V.ref g.2.1) := by
    rw [List.map_map]
    exact List.map_congr_left fun x _ => by show ((if x.1 = g.1 then (x.1, x.2.1, x.2.2 ++ [b]) else x).1, V.ref (if x.1 = g.1 then (x.1, x.2.1, x.2.2 ++ [b]) else x).2.1) = (x.1, V.ref x.2.1); split <;> rfl
  have inj : ∀ x ∈ gs, ∀ y ∈ gs, x.2.1 = y.2.1 → x.1 = y.1 := fun x hx y hy e => by
    by_cases h : x.1 = y.1
    · exact h
    · exfalso
      obtain ⟨i, hi, rfl⟩ := List.mem_iff_getElem.mp hx
      obtain ⟨j, hj, rfl⟩ := List.mem_iff_getElem.mp hy
      have := (List.nodup_iff_pairwise_ne.mp G.ats)
      have hij : i ≠ j := fun z => h (by subst z; rfl)
      rcases Nat.lt_or_gt_of_ne hij with l | l
      · exact List.pairwise_iff_getElem.mp this i j (by rw [List.length_map]; exact hi) (by rw [List.length_map]; exact hj) l (by rw [List.getElem_map, List.getElem_map]; exact e)
      · exact List.pairwise_iff_getElem.mp this j i (by rw [List.length_map]; exact hj) (by rw [List.length_map]; exact hi) l (by rw [List.getElem_map, List.getElem_map]; exact e.symm)
  have key : ∀ x ∈ gs, x.1 = g.1 → x.2 = g.2 := fun x hx e => by
    have h1 := valV_grp G.keys hx
    have h2 := valV_grp G.keys hg
    rw [e, h2] at h1
    have h3 : g.2.1 = x.2.1 := V.ref.inj (Option.some.inj h1)
    have h4 := G.lst x hx
    exact Prod.ext h3.symm (by rw [G.val x hx, G.val g hg, e])
  refine ⟨?_, fun x hx => ?_, by rw [f1]; exact G.keys, by rw [f2]; exact G.ats, fun x hx => ?_, fun y hy => ?_, by rw [List.length_map, List.length_append]; exact Nat.le_succ_of_le G.le⟩
  · rw [f3, upd_ne (ne_of G.dic (G.lst g hg) (by intro z; cases z))]
    exact G.dic
  · obtain ⟨z, hz, rfl⟩ := List.mem_map.mp hx
    by_cases h : z.1 = g.1
    · rw [if_pos h]
      have h2 := key z hz h
      show upd H g.2.1 _ z.2.1 = some (.lst ((z.2.2 ++ [b]).map fun b => V.ref b.1))
      rw [h2, List.map_append]
      exact upd_same
    · rw [if_neg h, upd_ne (fun e => h (inj z hz g hg e))]
      exact G.lst z hz
  · obtain ⟨z, hz, rfl⟩ := List.mem_map.mp hx
    rw [List.filter_append]
    by_cases h : z.1 = g.1
    · rw [if_pos h]
      show z.2.2 ++ [b] = L.filter (fun b => decide (projR cs b.2 = z.1)) ++ [b].filter fun b => decide (projR cs b.2 = z.1)
      rw [G.val z hz, filt1 (b := b) (p := fun b : Addr × RowK => decide (projR cs b.2 = z.1)) (decide_eq_true (by rw [hk, h]))]
    · rw [if_neg h, filt0 (b := b) (p := fun b : Addr × RowK => decide (projR cs b.2 = z.1)) (decide_eq_false fun q => h (by rw [← q, hk])), List.append_nil]
      exact G.val z hz
  · rw [f1]
    rcases List.mem_append.mp hy with h | h
    · exact G.all y h
    · rw [List.mem_singleton.mp h, hk]
      exact List.mem_map.mpr ⟨g, hg, rfl⟩
section
variable {P : Program} {w : World} {K : PySem.W.Frag} {mg : Str → Option Value} {base : Heap} {a : Nat → Addr} {d : Nat → FuncData}
def spByGiven : Sp := fun vs H Q _ => ∃ (l c : Addr) (L : List (Addr × RowK)) (cs : List Int) (w : Int), vs = [.ref l, .ref c] ∧ H l = some (.lst (L.map fun b => V.ref b.1)) ∧ RowsAt H L ∧ H c = some (.tup (cs.map V.int)) ∧ (∀ x ∈ cs, 0 ≤ x ∧ x < w) ∧ (∀ b ∈ L, (b.2.length : Int) = w) ∧ cs.length ≤ 100 ∧ L.length ≤ 1000 ∧
  ∀ (D : Addr) (gs : List Grp) (H' : Hp), H D = none → (∀ g ∈ gs, H g.2.1 = none) → Groups H' D cs L gs → Same H H' → Q (.ref D) H'
theorem ok_by_given (T : Txt K mg a d) : FnOk P w K mg base CX0 2 (a 47) (d 47) ["rows", "given"] spByGiven := by
  have G17 : FnOk P w K mg base CX0 1 (a 17) (d 17) ["row", "columns"] spColsOf := ok_columns_of T
  refine T.F47.ok sc__by_given (fun vs H Q E h => ?_) (fun cdv A outer s H vs Q E hr h => ?_)
  · obtain ⟨l, c, L, cs, w, rfl, _⟩ := h
    rfl
  · obtain ⟨l, c, L, cs, w, rfl, hl, hL, hc, hcs, hw, hcl, hlen, q⟩ := h
    refine ⟨_, (pss_cons (ps_set (i := 2) sc__by_given.nd rfl (.inl rfl) pe_dnewT)
  (pss_cons (ps_for PassesOwn.never rfl (pi_list (pv 0)) (pg_name (i := 3) sc__by_given.nd rfl (.inl rfl))
    (pss_one (ps_expr (pe_bm PySem.F.plainAttrs_list PySem.F.slot_list_append PySem.F.type_list_append mt_append (pe_bm PySem.F.plainAttrs_dict PySem.F.slot_dict_setdefault PySem.F.type_dict_setdefault (mt_setdefT (hu_of hr)) (pv 2) (pa_cons (pe_call G17 (hr.mono (by decide)) (by rfl) T.g17 T.F17.kp T.b17 .nil pass0 (pa_cons (pv 3) (pa_cons (pv 1) pa_nil))) (pa_cons (pe_lst pa_nil) pa_nil))) (pa_cons (pv 3) pa_nil)))))
  (pss_one (ps_ret (pv 2))))), ?_⟩
    intro D hD
    have sD := same_upd (o := .dT []) hD
    refine ⟨_, rfl, l, rfl, ⟨_, .of (sD _ _ hl)⟩, for_list (K := K) (a := l) (xs := L.map fun b => V.ref b.1) (fun i σ H' => ∃ (y3 : Option V) (gs : List Grp), σ = [some (.ref l), some (.ref c), some (.ref D), y3] ∧ Groups H' D cs (L.take i) gs ∧ (∀ g ∈ gs, H g.2.1 = none) ∧ Same H H') ⟨none, [], rfl, ⟨upd_same, (fun g hg => by cases hg), List.nodup_nil, List.nodup_nil, (fun g hg => by cases hg), (fun b hb => by cases hb), Nat.le_refl _⟩, (fun g hg => by cases hg), sD⟩ (fun i σ H' _ hp => ?_) (fun i y σ H' hy hp => ?_) (fun σ H' hp => ?_)⟩
    · obtain ⟨y3, gs, rfl, _, _, s⟩ := hp
      exact .of (s _ _ hl)
    · obtain ⟨y3, gs, rfl, G, hf, s⟩ := hp
      obtain ⟨b, hb, rfl⟩ := map_at hy
      have hbm := List.mem_of_getElem? hb
      have li : i < L.length := (List.getElem?_eq_some_iff.mp hb).1
      have hgl := G.le
      rw [List.length_take] at hgl
      refine ⟨_, rfl, .inr (.inr (.inl ⟨rfl, .inr ⟨_, G.dic⟩⟩)), _, rfl, _, rfl, b.1, c, b.2, cs, rfl, s _ _ (hL b hbm), s _ _ hc, fun x hx => by rw [hw b hbm]; exact hcs x hx, hcl, fun t H4 ht s4 => ⟨Nat.zero_le _, fun e he => ?_⟩⟩
      have se := same_upd (o := .lst []) he
      have s5 := s4.trans se
      have G5 := G.same s5
      have ht5 := se _ _ ht
      have he5 : upd H4 e (.lst []) e = some (.lst []) := upd_same
      have sH := s.trans s5
      have e0 : H e = none := s.free (s4.free he)
      have ne : ∀ g ∈ gs, g.2.1 ≠ e := fun g hg => ne_of_none (s4 _ _ (G.lst g hg)) he
      generalize upd H4 e (.lst []) = H5 at *
      have tk : L.take (i + 1) = L.take i ++ [b] := by rw [List.take_add_one, hb]; rfl
      refine ⟨D, _, projR cs b.2, t, .ref e, rfl, rfl, G5.dic, ht5, ?_, fun v hv => ?_, fun hn => ?_⟩
      · rw [List.length_map]
        exact small1000 (by omega)
      · obtain ⟨g, hg, e3⟩ := List.mem_map.mp (valV_mem hv)
        have e4 : g.1 = projR cs b.2 := (Prod.mk.inj e3).1
        have e5 : V.ref g.2.1 = v := (Prod.mk.inj e3).2
        subst e5
        have hlst := G5.lst g hg
        have hgle : g.2.2.length ≤ i := by
          rw [G5.val g hg]
          refine Nat.le_trans (List.length_filter_le _ _) ?_
          rw [List.length_take]
          omega
        refine ⟨.inl ⟨rfl, _, .of hlst⟩, _, rfl, g.2.1, _, _, rfl, rfl, hlst, by rw [List.length_map]; exact small1000 (by omega), _, _, rfl, by rw [tk]; exact G5.add hg e4.symm, fun x hx => ?_, fun d o e => ?_⟩
        · obtain ⟨z, hz, rfl⟩ := List.mem_map.mp hx
          have := hf z hz
          split <;> exact this
        · rw [upd_ne (ne_of_none e (hf g hg))]
          exact sH _ _ e
      · have no : projR cs b.2 ∉ gs.map (·.1) := fun hm => by
          obtain ⟨g, hg, e3⟩ := List.mem_map.mp hm
          have := valV_grp G5.keys hg
          rw [show g.1 = projR cs b.2 from e3, hn] at this
          cases this
        have nDe : e ≠ D := (ne_of G5.dic he5 (by intro z; cases z)).symm
        have he6 : upd H5 D (.dT (putK (gs.map fun g => (g.1, V.ref g.2.1)) (projR cs b.2) (.ref e))) e = some (.lst []) := by
          rw [upd_ne nDe]
          exact he5
        refine ⟨.inl ⟨rfl, _, .of he6⟩, _, rfl, e, _, _, rfl, rfl, he6, by decide, _, _, rfl, by rw [tk]; exact G5.new he5 ne no, fun x hx => ?_, fun d o e' => ?_⟩
        · rcases List.mem_append.mp hx with h | h
          · exact hf x h
          · rw [List.mem_singleton.mp h]
            exact e0
        · rw [upd_ne (ne_of_none e' e0), upd_ne (ne_of_none e' hD)]
          exact sH _ _ e'
    · obtain ⟨y3, gs, rfl, G, hf, s⟩ := hp
      rw [List.length_map, List.take_length] at G
      exact ⟨_, rfl, q D gs H' hD hf G s⟩
end
/-! ### a Store -/
def fldsT (x R Fi : Addr) : List (Str × V) := putF "_fitting" (.ref Fi) (putF "_rows" (.ref R) (putF "schema" (.ref x) []))
theorem fldt_s (x R Fi : Addr) : (fldsT x R Fi).lookup ("schema" : Str) = some (V.ref x) := by
  unfold fldsT
  rw [lookup_putF, if_neg (by decide +kernel), lookup_putF, if_neg (by decide +kernel), lookup_putF, if_pos rfl]
theorem fldt_r (x R Fi : Addr) : (fldsT x R Fi).lookup ("_rows" : Str) = some (V.ref R) := by
  unfold fldsT
  rw [lookup_putF, if_neg (by decide +kernel), lookup_putF, if_pos rfl]
theorem fldt_f (x R Fi : Addr) : (fldsT x R Fi).lookup ("_fitting" : Str) = some (V.ref Fi) := by
  unfold fldsT
  rw [lookup_putF, if_pos rfl]
theorem fldt_no (x R Fi : Addr) {m : Str} (h1 : ¬ m = "_fitting") (h2 : ¬ m = "_rows") (h3 : ¬ m = "schema") : (fldsT x R Fi).lookup m = none := by
  unfold fldsT
  rw [lookup_putF, if_neg h1, lookup_putF, if_neg h2, lookup_putF, if_neg h3]
  rfl
/-- a table's rows: its name, the place of the dict of its rows, the rows -/
abbrev TabE := Str × Addr × List RowK
def rdK (es : List TabE) : List (Key × V) := es.map fun b => (Sum.inr b.1, V.ref b.2.1)
theorem keys_rd (es : List TabE) : (rdK es).map (·.1) = (es.map (·.1)).map Sum.inr := by
  unfold rdK
  rw [List.map_map, List.map_map]
  rfl
structure StRows (H : Hp) (R : Addr) (es : List TabE) : Prop where
  dct : DctAt H R (rdK es)
  nd : (es.map (·.1)).Nodup
  ats : (es.map (·.2.1)).Nodup
  inner : ∀ b ∈ es, H b.2.1 = some (.dT (b.2.2.map fun k => (k, V.bl true)))
theorem StRows.same {H H' : Hp} {R : Addr} {es : List TabE} (h : StRows H R es) (s : Same H H') : StRows H' R es := ⟨h.dct.same s, h.nd, h.ats, fun b hb => s _ _ (h.inner b hb)⟩
theorem rd_nd {es : List TabE} (h : (es.map (·.1)).Nodup) : ((rdK es).map (·.1)).Nodup := by
  rw [keys_rd]
  exact inr_nd h
theorem rd_val {es : List TabE} (h : (es.map (·.1)).Nodup) {b : TabE} (hb : b ∈ es) : valV (rdK es) (Sum.inr b.1) = some (.ref b.2.1) := val_nodup (rd_nd h) (Sum.inr b.1, V.ref b.2.1) (List.mem_map.mpr ⟨b, hb, rfl⟩)
theorem rd_no {es : List TabE} {n : Str} (h : n ∉ es.map (·.1)) : valV (rdK es) (Sum.inr n) = none := valV_no (by rw [keys_rd]; exact inr_no h)
/-! ### the part of a heap that an object keeps -/
/-- what H' holds where H held nothing, or a tuple, or where G0 holds something -/
def hlet (H H' G0 : Hp) : Hp := fun b => match H b with
  | none => H' b
  | some (.tup _) => H' b
  | some _ => match G0 b with
    | none => none
    | some _ => H' b
theorem hlet_same (H H' G0 : Hp) : Same (hlet H H' G0) H' := fun b o e => by
  unfold hlet at e
  split at e
  · exact e
  · exact e
  · split at e
    · cases e
    · exact e
theorem hlet_new {H H' G0 : Hp} {b : Addr} (h : H b = none) : hlet H H' G0 b = H' b := by
  unfold hlet
  rw [h]
theorem hlet_tup {H H' G0 : Hp} {b : Addr} {xs : List V} (h : H b = some (.tup xs)) : hlet H H' G0 b = H' b := by
  unfold hlet
  rw [h]
theorem hlet_old {H H' G0 : Hp} {b : Addr} {o : HO} (h : G0 b = some o) : hlet H H' G0 b = H' b := by
  unfold hlet
  split
  · rfl
  · rfl
  · rw [h]
theorem hlet_no {H H' G0 : Hp} {b : Addr} {o : HO} (h : H b = some o) (nt : ∀ xs, o ≠ .tup xs) (g : G0 b = none) : hlet H H' G0 b = none := by
  unfold hlet
  rw [h]
  split
  · rename_i e
    cases e
  · rename_i e
    exact absurd (Option.some.inj e) (nt _)
  · rw [g]
def cut (H : Hp) (p : Addr) : Hp := fun b => if b = p then none else H b
theorem cut_at (H : Hp) (p : Addr) : cut H p p = none := if_pos rfl
theorem cut_ne {H : Hp} {p b : Addr} (h : b ≠ p) : cut H p b = H b := if_neg h
theorem cut_none {H : Hp} {p b : Addr} (h : H b = none) : cut H p b = none := by
  unfold cut
  split
  · rfl
  · exact h
/-! ### a Store whole -/
structure Srt (us rs : List RowK) : Prop where
  all : ∀ r, r ∈ us ↔ r ∈ rs
  up : us.Pairwise fun a b => rowLt a b = true
/-- a service: its name, the place of its dict, the given columns, the rows of its table, the groups -/
structure FitE where
  name : Str
  at_ : Addr
  cols : List Int
  L : List (Addr × RowK)
  gs : List Grp
def fitK (fs : List FitE) : List (Key × V) := fs.map fun f => (Sum.inr f.name, V.ref f.at_)
theorem keys_fit (fs : List FitE) : (fitK fs).map (·.1) = (fs.map (·.name)).map Sum.inr := by
  unfold fitK
  rw [List.map_map, List.map_map]
  rfl
structure FitOk (G : Hp) (ss : List SvE) (es : List TabE) (f : FitE) : Prop where
  grp : Groups G f.at_ f.cols f.L f.gs
  rows : RowsAt G f.L
  svc : ∃ b ∈ ss, b.name = f.name ∧ b.cols = f.cols ∧ ∃ e ∈ es, e.1 = b.tab ∧ f.L.map (·.2) = e.2.2
theorem FitOk.same {G H : Hp} {ss : List SvE} {es : List TabE} {f : FitE} (h : FitOk G ss es f) (s : Same G H) : FitOk H ss es f := ⟨h.grp.same s, h.rows.same s, h.svc⟩
structure StO (C CS p dx x R Fi : Addr) (G : Hp) (ts : List (Str × Int)) (ks : List KeyE) (ss : List SvE) (mt ms : Nat) (es : List TabE) : Prop where
  ob : G p = some (.ins CS dx (fldsT x R Fi))
  sch : SchAt C x G ts ks ss mt ms
  rows : StRows G R es
  names : (es.map (·.1)).Perm (ts.map (·.1))
  wid : ∀ b ∈ es, ∃ w, (b.1, w) ∈ ts ∧ ∀ r ∈ b.2.2, (r.length : Int) = w ∧ ∀ k ∈ r, KVal k
  lens : ∀ b ∈ es, b.2.2.length ≤ 500
  srt : ∀ b ∈ es, b.2.2.Pairwise fun a b => rowLt a b = true
  fit : ∃ fs, DctAt G Fi (fitK fs) ∧ (fs.map (·.name)).Perm (ss.map (·.name)) ∧ ∀ f ∈ fs, FitOk G ss es f
theorem StO.same {C CS p dx x R Fi : Addr} {G H : Hp} {ts : List (Str × Int)} {ks : List KeyE} {ss : List SvE} {mt ms : Nat} {es : List TabE} (h : StO C CS p dx x R Fi G ts ks ss mt ms es) (s : Same G H) : StO C CS p dx x R Fi H ts ks ss mt ms es := by
  obtain ⟨fs, f1, f2, f3⟩ := h.fit
  exact ⟨s _ _ h.ob, h.sch.same s, h.rows.same s, h.names, h.wid, h.lens, h.srt, fs, f1.same s, f2, fun f hf => (f3 f hf).same s⟩
section
variable {P : Program} {w : World} {K : PySem.W.Frag} {mg : Str → Option Value} {base : Heap} {a : Nat → Addr} {d : Nat → FuncData}
def spGetT (C CS CU : Addr) : Sp := fun vs H Q E => ∃ (p dx x R Fi : Addr) (n : Str) (ts : List (Str × Int)) (ks : List KeyE) (ss : List SvE) (mt ms : Nat) (es : List TabE), vs = [.ref p, .str n] ∧ StO C CS p dx x R Fi H ts ks ss mt ms es ∧
  (∀ b ∈ es, b.1 = n → ∀ (q : Addr) (L : List (Addr × RowK)) (H' : Hp), H q = none → L.map (·.2) = b.2.2 → RowsAt H' L → Same H H' → H' q = some (.lst (L.map fun y => V.ref y.1)) → Q (.ref q) H') ∧ (n ∉ es.map (·.1) → Unk CU (.str n) H E)
/-- a row that stands in a table, or none -/
def memR (us : List RowK) (r : RowK) : Bool := us.any fun k => decide (k = r)
def inT (es : List TabE) (n : Str) (r : RowK) : Bool := es.any fun b => decide (b.1 = n) && memR b.2.2 r
def spInT (C : Addr) : Sp := fun vs H Q _ => ∃ (p dx x R Fi pl rp : Addr) (n : Str) (r : RowK) (es : List TabE), vs = [.ref p, .ref pl] ∧ H p = some (.ins C dx (fldsT x R Fi)) ∧ StRows H R es ∧ H pl = some (.tup [.str n, .ref rp]) ∧ RowAt H rp r ∧ Q (.bl (inT es n r)) H
theorem inT_no {es : List TabE} {n : Str} {r : RowK} (h : n ∉ es.map (·.1)) : inT es n r = false := by
  unfold inT
  rw [List.any_eq_false]
  intro b hb
  have : b.1 ≠ n := fun e => h (List.mem_map.mpr ⟨b, hb, e⟩)
  simp [this]
theorem tab_one {es : List TabE} (nd : (es.map (·.1)).Nodup) {b c : TabE} (hb : b ∈ es) (hc : c ∈ es) (e : c.1 = b.1) : c = b := by
  obtain ⟨i, hi, rfl⟩ := List.mem_iff_getElem.mp hc
  obtain ⟨j, hj, rfl⟩ := List.mem_iff_getElem.mp hb
  have hp := List.nodup_iff_pairwise_ne.mp nd
  rcases Nat.lt_trichotomy i j with l | l | l
  · exact absurd (by rw [List.getElem_map, List.getElem_map]; exact e) (List.pairwise_iff_getElem.mp hp i j (by rw [List.length_map]; exact hi) (by rw [List.length_map]; exact hj) l)
  · subst l
    rfl
  · exact absurd (by rw [List.getElem_map, List.getElem_map]; exact e.symm) (List.pairwise_iff_getElem.mp hp j i (by rw [List.length_map]; exact hj) (by rw [List.length_map]; exact hi) l)
theorem inT_at {es : List TabE} (nd : (es.map (·.1)).Nodup) {b : TabE} (hb : b ∈ es) {r : RowK} : inT es b.1 r = memR b.2.2 r := by
  unfold inT
  cases h : memR b.2.2 r with
  | true =>
    rw [List.any_eq_true]
    exact ⟨b, hb, by rw [decide_eq_true rfl, h]; rfl⟩
  | false =>
    rw [List.any_eq_false]
    intro c hc
    by_cases e : c.1 = b.1
    · rw [tab_one nd hb hc e, h]
      simp
    · rw [decide_eq_false e]
      simp
theorem bl_val {r : RowK} : ∀ us : List RowK, (valV (us.map fun k => (k, V.bl true)) r).isSome = memR us r
  | [] => rfl
  | u :: us => by
    have ih := bl_val (r := r) us
    unfold memR at ih ⊢
    rw [List.map_cons, List.any_cons]
    by_cases e : u = r
    · rw [valV_pos e, decide_eq_true e]
      rfl
    · rw [valV_neg e, ih, decide_eq_false e]
      rfl
end
/-! ### several dicts locked at once -/
theorem locks_of {t : TE} {σ : L2.St} : ∀ (ds : List (Addr × HO)) (H : Hp) (Q : VK), (ds.map (·.1)).Nodup → (∀ b ∈ ds, H b.1 = some b.2 ∧ Mut (some b.2)) →
    (∀ (H2 : Hp) (Q2 : VK), (∀ b ∈ ds, ∃ od, H2 b.1 = some (.frz od b.2)) → (∀ c, c ∉ ds.map (·.1) → H2 c = H c) → (∀ v H3, (∀ b ∈ ds, H3 b.1 = H2 b.1) → (∀ H4 : Hp, (∀ b ∈ ds, H4 b.1 = some b.2) → (∀ c, c ∉ ds.map (·.1) → H4 c = H3 c) → Q v H4) → Q2 v H3) → t σ H2 Q2) → tLockNE t ds.length σ H Q
  | [], H, Q, _, _, h => h H Q (fun b hb => (by cases hb)) (fun _ _ => rfl) fun v H3 _ q => q H3 (fun b hb => (by cases hb)) fun _ _ => rfl
  | b :: ds, H, Q, nd, hat, h => by
    rw [List.map_cons] at nd
    obtain ⟨n1, n2⟩ := List.nodup_cons.mp nd
    obtain ⟨h1, h2⟩ := hat b List.mem_cons_self
    have ne : ∀ c ∈ ds, c.1 ≠ b.1 := fun c hc e => n1 (e ▸ List.mem_map.mpr ⟨c, hc, rfl⟩)
    refine ⟨b.1, b.2, h1, h2, fun od => ?_⟩
    refine locks_of ds _ _ n2 (fun c hc => ?_) fun H2 Q2 fz fr imp => ?_
    · rw [upd_ne (ne c hc)]
      exact hat c (List.mem_cons_of_mem _ hc)
    · have hb2 : H2 b.1 = some (.frz od b.2) := by
        rw [fr b.1 n1]
        exact upd_same
      refine h H2 Q2 (fun c hc => ?_) (fun c hc => ?_) fun v H3 kp q => imp v H3 (fun c hc => kp c (List.mem_cons_of_mem _ hc)) fun H4 p4 r4 => ⟨?_, q _ (fun c hc => ?_) fun c hc => ?_⟩
      · rcases List.mem_cons.mp hc with rfl | hc
        · exact ⟨od, hb2⟩
        · exact fz c hc
      · rw [List.map_cons] at hc
        rw [fr c (fun z => hc (List.mem_cons_of_mem _ z)), upd_ne (fun z => hc (by rw [z]; exact List.mem_cons_self))]
      · rw [r4 b.1 n1, kp b List.mem_cons_self]
        exact hb2
      · rcases List.mem_cons.mp hc with rfl | hc
        · exact upd_same
        · rw [upd_ne (ne c hc)]
          exact p4 c hc
      · rw [List.map_cons] at hc
        rw [upd_ne (fun z => hc (by rw [z]; exact List.mem_cons_self))]
        exact r4 c fun z => hc (List.mem_cons_of_mem _ z)
/-! ### the rows that are handed in -/
def rowsOf : List RwE → Str → List RowK
  | [], _ => []
  | b :: es, n => if b.name = n then b.rows.map (·.2) else rowsOf es n
theorem rowsOf_at : ∀ {es : List RwE}, (es.map (·.name)).Nodup → ∀ {b : RwE}, b ∈ es → rowsOf es b.name = b.rows.map (·.2)
  | [], _, _, h => by cases h
  | c :: es, nd, b, h => by
    rw [List.map_cons] at nd
    obtain ⟨n1, n2⟩ := List.nodup_cons.mp nd
    unfold rowsOf
    rcases List.mem_cons.mp h with rfl | h
    · rw [if_pos rfl]
    · have ne : ¬ c.name = b.name := fun e => n1 (List.mem_map.mpr ⟨b, h, e.symm⟩)
      rw [if_neg ne]
      exact rowsOf_at n2 h
theorem rowsOf_no : ∀ {es : List RwE} {n : Str}, n ∉ es.map (·.name) → rowsOf es n = []
  | [], _, _ => rfl
  | c :: es, n, h => by
    rw [List.map_cons] at h
    unfold rowsOf
    have ne : ¬ c.name = n := fun e => h (List.mem_cons.mpr (.inl e.symm))
    rw [if_neg ne]
    exact rowsOf_no fun z => h (List.mem_cons_of_mem _ z)
theorem le_sum {x : Nat} : ∀ {l : List Nat}, x ∈ l → x ≤ l.sum
  | [], h => by cases h
  | y :: l, h => by
    rw [List.sum_cons]
    rcases List.mem_cons.mp h with rfl | h
    · exact Nat.le_add_right _ _
    · exact Nat.le_trans (le_sum h) (Nat.le_add_left _ _)
theorem sum_cast {α : Type} {f : α → Nat} : ∀ l : List α, (l.map fun b => (f b : Int)).sum = (((l.map f).sum : Nat) : Int)
  | [] => rfl
  | b :: l => by rw [List.map_cons, List.map_cons, List.sum_cons, List.sum_cons, sum_cast l]; omega
theorem rw_nd {es : List RwE} (h : (es.map (·.name)).Nodup) : ((rwK es).map (·.1)).Nodup := by
  rw [keys_rw]
  exact inr_nd h
theorem rw_val {es : List RwE} (h : (es.map (·.name)).Nodup) {b : RwE} (hb : b ∈ es) : valV (rwK es) (Sum.inr b.name) = some (.ref b.at_) := val_nodup (rw_nd h) (Sum.inr b.name, V.ref b.at_) (List.mem_map.mpr ⟨b, hb, rfl⟩)
theorem rw_no {es : List RwE} {n : Str} (h : n ∉ es.map (·.name)) : valV (rwK es) (Sum.inr n) = none := valV_no (by rw [keys_rw]; exact inr_no h)
/-- a walk over a dict that is locked, and what stands behind it -/
theorem lock_same {H H' : Hp} {d : Addr} {u : HO} {od : Obj} (h : H d = some u) (s : Same (upd H d (.frz od u)) H') : Same H (upd H' d u) := fun b o e => by
  by_cases n : b = d
  · subst n
    rw [h] at e
    cases e
    exact upd_same
  · rw [upd_ne n]
    exact s b o (by rw [upd_ne n]; exact e)
theorem lock_rows {H : Hp} {d : Addr} {u : HO} {od : Obj} {L : List (Addr × RowK)} (h : H d = some u) (nt : ∀ xs, u ≠ .tup xs) (hL : RowsAt H L) : RowsAt (upd H d (.frz od u)) L := fun b hb => by
  have h1 : H b.1 = some (.tup (b.2.map kV)) := hL b hb
  have ne : b.1 ≠ d := fun e => by
    rw [e, h] at h1
    exact nt _ (Option.some.inj h1)
  show upd H d _ b.1 = _
  rw [upd_ne ne]
  exact h1
theorem lock_at {d : Addr} {od : Obj} {kvs : List (Key × V)} {k : Key} {v : V} (e : valV kvs k = some v) {H' : Hp} (h : H' d = some (.frz od (.dK kvs))) : DGet H' d (kV k) (some v) := .inl ⟨kvs, k, .inr ⟨od, h⟩, rfl, e.symm⟩
theorem srt_nd {L : List (Addr × RowK)} (h : L.Pairwise fun a b => rowLt a.2 b.2 = true) : (L.map (·.2)).Nodup := by
  refine List.pairwise_map.mpr (h.imp fun {a b} hab e => ?_)
  rw [e, rowLt_irrefl] at hab
  cases hab
theorem Groups.oth {H : Hp} {D q : Addr} {cs : List Int} {L : List (Addr × RowK)} {gs : List Grp} {u o : HO} (g : Groups H D cs L gs) (hq : H q = some u) (h1 : ∀ kvs, u ≠ .dT kvs) (h2 : ∀ xs, u ≠ .lst xs) : Groups (upd H q o) D cs L gs := by
  refine ⟨?_, fun x hx => ?_, g.keys, g.ats, g.val, g.all, g.le⟩
  · have n : D ≠ q := fun e => by
      have := g.dic
      rw [e, hq] at this
      exact h1 _ (Option.some.inj this)
    rw [upd_ne n]
    exact g.dic
  · have n : x.2.1 ≠ q := fun e => by
      have := g.lst x hx
      rw [e, hq] at this
      exact h2 _ (Option.some.inj this)
    rw [upd_ne n]
    exact g.lst x hx
theorem FitOk.oth {G : Hp} {q : Addr} {kvs : List (Key × V)} {o : HO} {ss : List SvE} {es : List TabE} {f : FitE} (h : FitOk G ss es f) (hq : G q = some (.dK kvs)) : FitOk (upd G q o) ss es f :=
  ⟨h.grp.oth hq (by intro _ z; cases z) (by intro _ z; cases z), fun y hy => upd_tup hq (by intro _ z; cases z) _ _ (h.rows y hy), h.svc⟩
section
variable {X : Cx}
/-- a dict comprehension over any walk -/
theorem dc_it {J : It} {n : Nat} {Gd : Hp → Prop} {Y : Nat → Hp → V → Hp → Prop} (w : Walk J n Gd Y) {g : TG} {tt : TT} {tk tv : TE} {vs : List Nat} {σ : L2.St} {H1 : Hp} {D : Addr} {Qd : Hp → Prop} (Pv : Nat → Hp → Prop) (h0 : Pv 0 (upd H1 D (.dK []))) (hG : ∀ i H, i ≤ n → Pv i H → Gd H)
    (hs : ∀ i x H H', i < n → Pv i H → Y i H x H' → g x (wipe σ vs) H' fun σ2 H2 => wipe σ2 vs = wipe σ vs ∧ tt σ2 H2 fun b H3 =>
      if b = true then tk σ2 H3 fun y H4 => tv σ2 H4 fun z H5 => ∃ kvs k, y = kV k ∧ H5 D = some (.dK kvs) ∧ kvs.length < sizeLine ∧ Pv (i + 1) (upd H5 D (.dK (putK kvs k z))) else Pv (i + 1) H3) (hd : ∀ H, Pv n H → Qd H) :
    ∃ W : Nat → Nat → Hp → Prop, (∃ m, W 0 m (upd H1 D (.dK []))) ∧ ∀ i m H, W i m H →
      (J.stop i H ∧ Qd H) ∨ (J.go i H ∧ ∃ Nx : Hp → Prop, (∀ H', Nx H' → ∃ m', m' < m ∧ W (i + 1) m' H') ∧ ∀ x H', J.yld i H x H' → g x (wipe σ vs) H' fun σ2 H2 => wipe σ2 vs = wipe σ vs ∧ tt σ2 H2 fun b H3 =>
        if b = true then tk σ2 H3 fun y H4 => tv σ2 H4 fun z H5 => ∃ kvs k, y = kV k ∧ H5 D = some (.dK kvs) ∧ kvs.length < sizeLine ∧ Nx (upd H5 D (.dK (putK kvs k z))) else Nx H3) := by
  refine ⟨fun i m H => m = n - i ∧ i ≤ n ∧ Pv i H, ⟨n, by simp, Nat.zero_le _, h0⟩, ?_⟩
  rintro i m H ⟨rfl, hi, p⟩
  have q := hG i H hi p
  by_cases hlt : i < n
  · refine .inr ⟨w.goes i H hlt q, Pv (i + 1), fun H' p' => ⟨n - (i + 1), by omega, rfl, hlt, p'⟩, fun x H' y => hs i x H H' hlt p (w.yields i H x H' hlt q y)⟩
  · have e : i = n := by omega
    subst e
    exact .inl ⟨w.stops H q, hd H p⟩
end
section
variable {P : Program} {w : World} {K : PySem.W.Frag} {mg : Str → Option Value} {base : Heap} {a : Nat → Addr} {d : Nat → FuncData}
def spStInit (C CS : Addr) : Sp := fun vs H Q _ => ∃ (p dx x r : Addr) (Gs : Hp) (ts : List (Str × Int)) (ks : List KeyE) (ss : List SvE) (mt ms : Nat) (es : List RwE), vs = [.ref p, .ref x, .ref r] ∧ H p = some (.ins CS dx []) ∧ SchAt C x Gs ts ks ss mt ms ∧ Same Gs H ∧ Gs p = none ∧
  DctAt H r (rwK es) ∧ (es.map (·.name)).Nodup ∧ (∀ b ∈ es, RwAt H b ∧ ∃ w, (b.name, w) ∈ ts ∧ RowsOk w (markOf ks b.name) (b.rows.map (·.2))) ∧ ((es.map fun b => b.rows.length).sum ≤ 400) ∧ es.length ≤ 26 ∧
  ∀ (G H' : Hp) (R Fi : Addr) (us : List TabE), StO C CS p dx x R Fi G ts ks ss mt ms us → (∀ b ∈ us, Srt b.2.2 (rowsOf es b.1)) → Same G H' → (∀ q o, q ≠ p → H q = some o → (∀ xs, o ≠ .tup xs) → Gs q = none → G q = none) → (∀ b o, b ≠ p → H b = some o → H' b = some o) → Q .non H'
theorem ok_stinit (T : Txt K mg a d) : FnOk P w K mg base CX0 6 (a 5800) (d 5800) ["self", "schema", "rows"] (spStInit (a 42) (a 48)) := by
  have G46 : FnOk P w K mg base CX0 5 (a 46) (d 46) ["schema", "table", "rows"] (spChkTab (a 42)) := ok_check_table T
  have G5205 : FnOk P w K mg base CX0 1 (a 5205) (d 5205) ["self"] (spNms (a 42) fun ts _ => ts.map (·.1)) := ok_table_names T
  have G19 : FnOk P w K mg base CX0 4 (a 19) (d 19) ["rows"] (spSR K) := ok_sorted_rows T
  have G5203 : FnOk P w K mg base CX0 1 (a 5203) (d 5203) ["self"] (spProp (a 42) fun _ _ ss => svK ss) := ok_p_services T
  have G47 : FnOk P w K mg base CX0 2 (a 47) (d 47) ["rows", "given"] spByGiven := ok_by_given T
  refine T.F5800.ok sc_Store___init__ (fun vs H Q E h => ?_) (fun cdv A outer s H vs Q E hr h => ?_)
  · obtain ⟨p, dx, x, r, Gs, ts, ks, ss, mt, ms, es, rfl, _⟩ := h
    rfl
  · obtain ⟨p, dx, x, r, Gs, ts, ks, ss, mt, ms, es, rfl, hp, hx, sG, gp, hr0, hnd, hes, hsum, hlen, q⟩ := h
    obtain ⟨t_MOST_ROWS, h_MOST_ROWS⟩ := T.c_MOST_ROWS
    refine ⟨_, (pss_cons (ps_for PassesOwn.never rfl (pi_list (pe_callB (id := "sorted")  (call_sortedD rfl) (by rfl) T.z_sorted (by decide +kernel) (pa_cons (pv 2) pa_nil))) (pg_name (i := 3) sc_Store___init__.nd rfl (.inl rfl))
    (pss_one (ps_expr (pe_call G46 (hr.mono (by decide)) (by rfl) T.g46 T.F46.kp T.b46 .nil pass0 (pa_cons (pv 1) (pa_cons (pv 3) (pa_cons (pe_dget (hu_of hr) (pv 2) (pv 3) (fun _ _ => rfl)) pa_nil)))))))
  (pss_cons (ps_if (pt_cmpR op_gt (pe_callB (id := "sum")  (cr_sum rfl) (by rfl) T.z_sum (by decide +kernel) (pa_cons (pe_lock (pe_lc (own := [("table", 3)]) rfl sc_Store___init__.nd (pi_keys (pv 2)) (blkOk_by (N := ["self", "schema", "rows", "table", "ordered", "row", "name", "given", "_"]) (sc := defScope s_Store___init__) (by decide +kernel)) (fun _ _ _ _ _ => pg_name (i := 3) sc_Store___init__.nd rfl (.inl rfl)) (fun _ _ _ _ _ => pts_nil) (fun _ _ _ _ _ => (pe_callB (id := "len") (r := Evl.rLenS K)  call_len_seq (by rfl) T.z_len (by decide +kernel) (pa_cons (pe_dget (hu_of hr) (pv 2) (pv 3) (fun _ _ => rfl)) pa_nil))))) pa_nil)) (pe_glob (v := .int (400)) rfl h_MOST_ROWS ⟨_, rfl⟩) (nomark _))
    (pss_one ps_never)
    pss_nil)
  (pss_cons (ps_set (i := 4) sc_Store___init__.nd rfl (.inr rfl) (pe_dc (own := [("table", 3)]) rfl sc_Store___init__.nd (pi_list (pe_meth0 (pv 1) T.cl_42 T.m_5205 G5205 (hr.mono (by decide)) T.b5205 .nil pass0)) (blkOk_by (N := ["self", "schema", "rows", "table", "ordered", "row", "name", "given", "_"]) (sc := defScope s_Store___init__) (by decide +kernel)) (fun _ _ _ _ _ => pg_name (i := 3) sc_Store___init__.nd rfl (.inl rfl)) (fun _ _ _ _ _ => pts_nil) (fun _ _ _ _ _ => (pv 3)) (fun _ _ _ _ _ => (pe_call G19 (hr.mono (by decide)) (by rfl) T.g19 T.F19.kp T.b19 .nil pass0 (pa_cons (pe_dget2 (hu_of hr) (pv 2) (pv 3) (pe_lst pa_nil) ⟨rfl, rfl, rfl, rfl⟩) pa_nil)))))
  (pss_cons (ps_fld (pv 0) (pv 1) rfl)
  (pss_cons (ps_fld (pv 0) (pe_lock (pe_dc (own := [("table", 3)]) rfl sc_Store___init__.nd (pi_keys (pv 4)) (blkOk_by (N := ["self", "schema", "rows", "table", "ordered", "row", "name", "given", "_"]) (sc := defScope s_Store___init__) (by decide +kernel)) (fun _ _ _ _ _ => pg_name (i := 3) sc_Store___init__.nd rfl (.inl rfl)) (fun _ _ _ _ _ => pts_nil) (fun _ _ _ _ _ => (pv 3)) (fun _ _ _ _ _ => (DcT.pe_dcT (own := [("row", 5)]) (by exact hu_of hr) rfl sc_Store___init__.nd (pi_listK (K := K) (by rfl) (pe_dget (by exact hu_of hr) (pv 4) (pv 3) (fun _ _ => rfl))) (blkOk_by (N := ["self", "schema", "rows", "table", "ordered", "row", "name", "given", "_"]) (sc := { kind := .function, names := [(".0", .local), ("table", .local), ("ordered", .cell)], isGenerator := false, isCoroutine := false }) (by decide +kernel)) (fun _ _ _ _ _ => pg_name (i := 5) sc_Store___init__.nd rfl (.inl rfl)) (fun _ _ _ _ _ => pts_nil) (fun _ _ _ _ _ => (pv 5)) (fun _ _ _ _ _ => pe_bl))))) rfl)
  (pss_one (ps_fld (pv 0) (pe_dc (own := [("name", 6), ("table", 3), ("given", 7), ("_", 8)]) rfl sc_Store___init__.nd (pi_items (pe_frz (pe_prop (pv 1) T.cl_42 T.p_5203 G5203 (hr.mono (by decide)) T.b5203 .nil pass0 rfl))) (blkOk_by (N := ["self", "schema", "rows", "table", "ordered", "row", "name", "given", "_"]) (sc := defScope s_Store___init__) (by decide +kernel)) (fun _ _ _ _ _ => pg_tupK (K := K) 2 rfl (by rfl) (pgs_cons (pg_name (i := 6) sc_Store___init__.nd rfl (.inl rfl)) (pgs_cons (pg_tupK (K := K) 3 rfl (by rfl) (pgs_cons (pg_name (i := 3) sc_Store___init__.nd rfl (.inl rfl)) (pgs_cons (pg_name (i := 7) sc_Store___init__.nd rfl (.inl rfl)) (pgs_cons (pg_name (i := 8) sc_Store___init__.nd rfl (.inl rfl)) pgs_nil)))) pgs_nil))) (fun _ _ _ _ _ => pts_nil) (fun _ _ _ _ _ => (pv 6)) (fun _ _ _ _ _ => (pe_call G47 (hr.mono (by decide)) (by rfl) T.g47 T.F47.kp T.b47 .nil pass0 (pa_cons (pe_dget (hu_of hr) (pv 4) (pv 3) (fun _ _ => rfl)) (pa_cons (pv 7) pa_nil))))) rfl))))))), ?_⟩
    obtain ⟨kd, er, pk⟩ := id hr0
    obtain ⟨zs, z1, z2⟩ := perm_map_ex (ys := kd) (zs := rwK es) (f := fun b : RwE => ((Sum.inr b.name : Key), V.ref b.at_)) pk es rfl
    subst z2
    have zn : (zs.map (·.name)).Nodup := (z1.map _).nodup_iff.mpr hnd
    have le1 : ∀ b ∈ es, b.rows.length ≤ 400 := fun b hb => by
      have : b.rows.length ≤ (es.map fun b => b.rows.length).sum := le_sum (List.mem_map.mpr ⟨b, hb, rfl⟩)
      omega
    have nms : (zs.map fun b : RwE => ((Sum.inr b.name : Key), V.ref b.at_)).map (·.1) = (zs.map (·.name)).map Sum.inr := by
      rw [List.map_map, List.map_map]
      rfl
    refine ⟨_, rfl, r, _, zs.map (·.name), rfl, .inl er, nms, by rw [List.length_map, z1.length_eq]; omega, fun ys l yp _ hl => ⟨l, rfl, ?_⟩⟩
    have s0 := same_upd (o := .lst (ys.map V.str)) hl
    refine ⟨⟨_, .of upd_same⟩, for_list (K := K) (a := l) (xs := ys.map V.str) (fun i σ H' => ∃ y3 y4 y5 y6 y7 y8 : Option V, σ = [some (.ref p), some (.ref x), some (.ref r), y3, y4, y5, y6, y7, y8] ∧ Same (upd H l (.lst (ys.map V.str))) H') ⟨_, _, _, _, _, _, rfl, Same.refl _⟩ (fun i σ H' _ hp => ?_) (fun i y σ H' hy hp' => ?_) (fun σ H1 hp1 => ?_)⟩
    · obtain ⟨_, _, _, _, _, _, rfl, s⟩ := hp
      exact .of (s _ _ upd_same)
    · obtain ⟨_, _, _, _, _, _, rfl, s⟩ := hp'
      obtain ⟨n, hn, rfl⟩ := map_at hy
      have hm : n ∈ es.map (·.name) := ((yp.trans (z1.map _)).mem_iff).mp (List.mem_of_getElem? hn)
      obtain ⟨b, hb, rfl⟩ := List.mem_map.mp hm
      obtain ⟨hb1, w, hw, hok⟩ := hes b hb
      have s1 := s0.trans s
      refine ⟨_, rfl, _, rfl, _, rfl, _, rfl, r, _, rfl, (hr0.same s1).at_ (rw_nd hnd) (rw_val hnd hb), x, b.at_, b.name, w, ts, ks, ss, mt, ms, b.rows, rfl, hx.same (sG.trans s1), hw, s1 _ _ hb1.lst, (hb1.same s1).rows, hok, by have := le1 b hb; omega, fun H2 s2 => ?_⟩
      exact ⟨_, _, _, _, _, _, rfl, s.trans s2⟩
    obtain ⟨y3, y4, y5, y6, y7, y8, rfl, s⟩ := hp1
    have s1 := s0.trans s
    clear s0 s hl
    -- how many rows
    have er1 := s1 _ _ er
    refine ⟨r, .dK (zs.map fun b : RwE => ((Sum.inr b.name : Key), V.ref b.at_)), er1, trivial, fun od => ?_⟩
    generalize hHf : upd H1 r (.frz od (.dK (zs.map fun b : RwE => ((Sum.inr b.name : Key), V.ref b.at_)))) = Hf
    have fr : Hf r = some (.frz od (.dK (zs.map fun b : RwE => ((Sum.inr b.name : Key), V.ref b.at_)))) := by rw [← hHf]; exact upd_same
    have rz : ∀ b ∈ zs, Hf b.at_ = some (.lst (b.rows.map fun x => V.ref x.1)) := fun b hb => by
      have h1 := s1 _ _ (hes b (z1.mem_iff.mp hb)).1.lst
      rw [← hHf, upd_ne (ne_of h1 er1 (by intro z; cases z))]
      exact h1
    refine ⟨_, rfl, r, od, rfl, .inl ⟨_, fr, fun D hD => ?_⟩⟩
    refine lc_it walk_keys (fun i H' => H' D = some (.lst (((zs.take i).map fun b => (b.rows.length : Int)).map V.int)) ∧ Same Hf H') ⟨upd_same, same_upd hD⟩ (fun i H' _ hp => hp.2 _ _ fr) (fun i x' H' H'' hi hp hy => ?_) (fun H' hp => ?_)
    · obtain ⟨h1, h2⟩ := hp
      obtain ⟨rfl, k, v, hk, rfl⟩ := hy
      obtain ⟨b, hb, e⟩ := map_at hk
      cases e
      have hbm := List.mem_of_getElem? hb
      have li : i < zs.length := (List.getElem?_eq_some_iff.mp hb).1
      have lz : zs.length ≤ 26 := by rw [z1.length_eq]; exact hlen
      refine ⟨rfl, _, rfl, _, rfl, r, _, rfl, lock_at (val_nodup (by rw [nms]; exact inr_nd zn) (Sum.inr b.name, V.ref b.at_) (List.mem_map.mpr ⟨b, hbm, rfl⟩)) (h2 _ _ fr), _, _, rfl, .inl (.of (h2 _ _ (rz b hbm))), _, h1, ?_, ?_, ?_⟩
      · rw [List.length_map, List.length_map, List.length_take]
        exact small1000 (by omega)
      · rw [map_take hb, List.map_append, List.length_map]
        exact upd_same
      · intro c o e
        rw [upd_ne (ne_of_none e hD)]
        exact h2 c o e
    · obtain ⟨h1, h2⟩ := hp
      have tk : zs.take (zs.map fun b : RwE => ((Sum.inr b.name : Key), V.ref b.at_)).length = zs := by rw [List.length_map, List.take_length]
      rw [tk] at h1
      have s2 : Same H1 (upd H' r (.dK (zs.map fun b : RwE => ((Sum.inr b.name : Key), V.ref b.at_)))) := lock_same (od := od) er1 (by rw [hHf]; exact h2)
      have nDr : D ≠ r := fun e => by rw [e, fr] at hD; cases hD
      refine ⟨h2 _ _ fr, D, zs.map fun b => (b.rows.length : Int), rfl, .of (by rw [upd_ne nDr]; exact h1), ?_⟩
      generalize upd H' r (.dK (zs.map fun b : RwE => ((Sum.inr b.name : Key), V.ref b.at_))) = H2 at s2
      clear h1 h2 nDr tk H' hD D fr rz hHf Hf
      have sm : (zs.map fun b => (b.rows.length : Int)).sum = (((es.map fun b => b.rows.length).sum : Nat) : Int) := by
        have e1 : (zs.map fun b => (b.rows.length : Int)).sum = (((zs.map fun b => b.rows.length).sum : Nat) : Int) := sum_cast _
        have e2 : (zs.map fun b => b.rows.length).sum = (es.map fun b => b.rows.length).sum := (z1.map _).sum_nat
        rw [e1, e2]
      have s12 := s1.trans s2
      refine ⟨_, _, rfl, rfl, _, rfl, ite_d (fun h => absurd h (by omega)) (fun _ => ?_)⟩
      -- the rows of each table, sorted
      have hx2 := (hx.same sG).same s12
      obtain ⟨xd, d1, d2, d3, o⟩ := id hx2
      refine ⟨_, rfl, x, xd, _, rfl, o.ob, flds_no _ _ _ (by decide +kernel) (by decide +kernel) (by decide +kernel), x, ts, ks, ss, mt, ms, rfl, hx2, fun ln ns H3 f3 e3 p3 so3 s3 => ?_⟩
      refine ⟨ln, rfl, ⟨_, .of e3⟩, fun D hD => ?_⟩
      have s13 := s12.trans s3
      have nsl : ns.length ≤ 5 := by rw [p3.length_eq, List.length_map, o.hT.len]; exact o.m5
      have nsn : ns.Nodup := p3.nodup_iff.mpr o.hT.nm.nd
      refine dc_list (K := K) (a := ln) (xs := ns.map V.str) (fun i H' => ∃ os : List RwE, H' D = some (.dK (rwK os)) ∧ os.map (·.name) = ns.take i ∧ (∀ b ∈ os, RwAt H' b ∧ SortedRows b.rows (rowsOf es b.name) ∧ H b.at_ = none) ∧ Same H3 H') ⟨[], upd_same, rfl, (fun b hb => by cases hb), same_upd hD⟩ (fun i H' _ hp => ?_) (fun i y H' hy hp => ?_) (fun H4 hq4 => ?_)
      · obtain ⟨os, _, _, _, s⟩ := hp
        exact .of (s _ _ e3)
      · obtain ⟨os, g1, g2, g3, s⟩ := hp
        obtain ⟨n, hn, rfl⟩ := map_at hy
        have hnm : n ∈ ns := List.mem_of_getElem? hn
        have li : i < ns.length := (List.getElem?_eq_some_iff.mp hn).1
        have osl : os.length ≤ i := by
          have := congrArg List.length g2
          rw [List.length_map, List.length_take] at this
          omega
        have s4 := s13.trans s
        refine ⟨rfl, _, rfl, _, rfl, r, rfl, .inl ⟨_, .inl (s4 _ _ er)⟩, _, rfl, Nat.zero_le _, fun e he => ?_⟩
        have se := same_upd (o := .lst []) he
        have s5 := s4.trans se
        refine ⟨_, (hr0.same s5).get (rw_nd hnd) (Sum.inr n), ?_⟩
        have key : ∀ (l0 : Addr) (L0 : List (Addr × RowK)), L0.map (·.2) = rowsOf es n → RwAt (upd H' e (.lst [])) ⟨n, l0, L0⟩ → (∀ b ∈ L0, (∀ k ∈ b.2, KOk k) ∧ b.2.length ≤ 100) → L0.length ≤ 10000 → ∃ (l : Addr) (L : List (Addr × RowK)), (V.ref l0 :: []) = [.ref l] ∧ SqL K (upd H' e (.lst [])) l (L.map fun b => V.ref b.1) ∧ RowsAt (upd H' e (.lst [])) L ∧ (∀ b ∈ L, (∀ k ∈ b.2, KOk k) ∧ b.2.length ≤ 100) ∧ L.length ≤ 10000 ∧
            ∀ (q : Addr) (H5 : Hp) (L' : List (Addr × RowK)), upd H' e (.lst []) q = none → Same (upd H' e (.lst [])) H5 → H5 q = some (.lst (L'.map fun b => V.ref b.1)) → RowsAt H5 L' → SortedRows L' (L.map (·.2)) → ∃ kvs k, V.str n = kV k ∧ H5 D = some (.dK kvs) ∧ kvs.length < sizeLine ∧ ∃ os : List RwE, upd H5 D (.dK (putK kvs k (.ref q))) D = some (.dK (rwK os)) ∧ os.map (·.name) = ns.take (i + 1) ∧ (∀ b ∈ os, RwAt (upd H5 D (.dK (putK kvs k (.ref q)))) b ∧ SortedRows b.rows (rowsOf es b.name) ∧ H b.at_ = none) ∧ Same H3 (upd H5 D (.dK (putK kvs k (.ref q)))) := fun l0 L0 w1 w2 w3 w4 => by
          refine ⟨l0, L0, rfl, .of w2.lst, w2.rows, w3, w4, fun q' H5 L' hq s6 hl hL hS => ?_⟩
          rw [w1] at hS
          have g15 := s6 _ _ (se _ _ g1)
          have nDq : q' ≠ D := (ne_of_none (se _ _ g1) hq).symm
          have no : valV (rwK os) (Sum.inr n) = none := rw_no (by rw [g2]; exact nd_take nsn hn)
          refine ⟨_, Sum.inr n, rfl, g15, ?_, os ++ [⟨n, q', L'⟩], ?_, ?_, fun b hb => ?_, fun c o' e' => ?_⟩
          · unfold rwK
            rw [List.length_map]
            exact small1000 (by omega)
          · rw [putK_new _ no]
            unfold rwK
            rw [List.map_append]
            exact upd_same
          · rw [List.map_append, g2, List.take_add_one, hn]
            rfl
          · rcases List.mem_append.mp hb with hb | hb
            · obtain ⟨c1, c2, c3⟩ := g3 b hb
              exact ⟨(c1.same (se.trans s6)).oth g15 (by intro _ z; cases z) (ne_of ((se.trans s6) _ _ c1.lst) g15 (by intro z; cases z)), c2, c3⟩
            · rw [List.mem_singleton.mp hb]
              exact ⟨(RwAt.mk (b := ⟨n, q', L'⟩) hl hL).oth g15 (by intro _ z; cases z) nDq, hS, s5.free hq⟩
          · rw [upd_ne (ne_of_none e' hD)]
            exact s6 _ _ (se _ _ (s _ _ e'))
        by_cases hm : n ∈ es.map (·.name)
        · obtain ⟨b, hb, rfl⟩ := List.mem_map.mp hm
          obtain ⟨hb1, w, hw, hok⟩ := hes b hb
          rw [rw_val hnd hb]
          have hbw : ∀ y ∈ b.rows, (∀ k ∈ y.2, KOk k) ∧ y.2.length ≤ 100 := fun y hy => by
            obtain ⟨v1, v2⟩ := hok.wid y.2 (List.mem_map.mpr ⟨y, hy, rfl⟩)
            have v3 := o.hT.wd _ hw
            exact ⟨fun k hk => (v2 k hk).ok, by omega⟩
          exact key b.at_ b.rows (rowsOf_at hnd hb).symm (hb1.same s5) hbw (by have := le1 b hb; omega)
        · rw [rw_no hm]
          exact key e [] (rowsOf_no hm).symm ⟨upd_same, fun b hb => by cases hb⟩ (fun b hb => by cases hb) (Nat.zero_le _)
      · obtain ⟨os, g1, g2, g3, s4⟩ := hq4
        rw [List.length_map, List.take_length] at g2
        have s14 := s13.trans s4
        have e4 := s4 _ _ e3
        -- self.schema
        have hp4 := s14 _ _ hp
        refine ⟨_, rfl, _, rfl, p, _, dx, _, rfl, hp4, T.cl_48, T.no_48_schema, by show 0 < 1000; decide, ?_⟩
        generalize hH5 : upd H4 p _ = H5
        have hp5 : H5 p = some (.ins (a 48) dx (putF "schema" (.ref x) [])) := by rw [← hH5]; exact upd_same
        have o5 : ∀ b o, b ≠ p → H4 b = some o → H5 b = some o := fun b o n e => by rw [← hH5, upd_ne n]; exact e
        have o05 : ∀ b o, b ≠ p → H b = some o → H5 b = some o := fun b o n e => o5 b o n (s14 _ _ e)
        have nop : ∀ {b : Addr} {o : HO}, H4 b = some o → (∀ C dx fs, o ≠ .ins C dx fs) → b ≠ p := fun {b o} h1 h2 e => by
          rw [e, hp4] at h1
          exact h2 _ _ _ (Option.some.inj h1).symm
        have g15 : H5 D = some (.dK (rwK os)) := o5 _ _ (nop g1 (by intro _ _ _ z; cases z)) g1
        have r5 : ∀ b ∈ os, RwAt H5 b := fun b hb => ⟨o5 _ _ (nop (g3 b hb).1.lst (by intro _ _ _ z; cases z)) (g3 b hb).1.lst, fun y hy => o5 _ _ (nop ((g3 b hb).1.rows y hy) (by intro _ _ _ z; cases z)) ((g3 b hb).1.rows y hy)⟩
        have osn : (os.map (·.name)).Nodup := by rw [g2]; exact nsn
        have osl : os.length ≤ 5 := by
          have := congrArg List.length g2
          rw [List.length_map] at this
          omega
        have bl400 : ∀ b ∈ os, b.rows.length ≤ 400 := fun b hb => by
          have h1 := (g3 b hb).2.1.len
          by_cases hm : b.name ∈ es.map (·.name)
          · obtain ⟨c, hc, e⟩ := List.mem_map.mp hm
            rw [← e, rowsOf_at hnd hc, List.length_map] at h1
            have := le1 c hc
            omega
          · rw [rowsOf_no hm] at h1
            exact Nat.le_trans h1 (Nat.zero_le _)
        -- self._rows
        refine ⟨D, .dK (rwK os), g15, trivial, fun od => ?_⟩
        generalize hHf : upd H5 D (.frz od (.dK (rwK os))) = Hf
        have fr : Hf D = some (.frz od (.dK (rwK os))) := by rw [← hHf]; exact upd_same
        have rf : ∀ b ∈ os, RwAt Hf b := fun b hb => by
          rw [← hHf]
          exact ⟨by rw [upd_ne (ne_of (r5 b hb).lst g15 (by intro z; cases z))]; exact (r5 b hb).lst, lock_rows g15 (by intro _ z; cases z) (r5 b hb).rows⟩
        have free5 : ∀ {c : Addr}, H5 c = none → H c = none := fun {c} h1 => by
          cases h2 : H c with
          | none => rfl
          | some o2 =>
            by_cases n : c = p
            · rw [n, hp5] at h1
              cases h1
            · rw [o05 c o2 n h2] at h1
              cases h1
        refine ⟨_, rfl, D, od, rfl, .inl ⟨_, fr, fun R hR => ?_⟩⟩
        have hR5 : H5 R = none := by
          rw [← hHf] at hR
          by_cases n : R = D
          · rw [n, upd_same] at hR
            cases hR
          · rw [upd_ne n] at hR
            exact hR
        refine dc_it walk_keys (fun i H' => ∃ us : List TabE, H' R = some (.dK (rdK us)) ∧ us.map (fun b => (b.1, b.2.2)) = (os.take i).map (fun b => (b.name, b.rows.map (·.2))) ∧ (∀ b ∈ us, H' b.2.1 = some (.dT (b.2.2.map fun k => (k, V.bl true))) ∧ H b.2.1 = none) ∧ (us.map (·.2.1)).Nodup ∧ Same Hf H') ⟨[], upd_same, rfl, (fun b hb => by cases hb), List.nodup_nil, same_upd hR⟩ (fun i H' _ hp => ?_) (fun i y H' H'' hi hp hy => ?_) (fun H6 hq6 => ?_)
        · obtain ⟨us, _, _, _, _, s⟩ := hp
          exact s _ _ fr
        · obtain ⟨us, u1, u2, u3, u4, s⟩ := hp
          obtain ⟨rfl, k, v, hk, rfl⟩ := hy
          obtain ⟨b, hb, e⟩ := map_at hk
          cases e
          have hbm := List.mem_of_getElem? hb
          have li : i < os.length := (List.getElem?_eq_some_iff.mp hb).1
          have usl : us.length ≤ i := by
            have := congrArg List.length u2
            rw [List.length_map, List.length_map, List.length_take] at this
            omega
          have lb := (rf b hbm).lst
          have hb4 := bl400 b hbm
          refine ⟨rfl, _, rfl, _, rfl, _, rfl, D, _, rfl, lock_at (rw_val osn hbm) (s _ _ fr), b.at_, rfl, ⟨_, .of (s _ _ lb)⟩, fun q hq => ?_⟩
          refine DcT.dcT_list (K := K) (a := b.at_) (xs := b.rows.map fun x => V.ref x.1) (fun j H3 => H3 q = some (.dT (((b.rows.take j).map (·.2)).map fun k => (k, V.bl true))) ∧ Same H'' H3) ⟨upd_same, same_upd hq⟩ (fun j H3 _ hp => .of (hp.2 _ _ (s _ _ lb))) (fun j z H3 hz hp => ?_) (fun H3 hp => ?_)
          · obtain ⟨v1, v2⟩ := hp
            obtain ⟨y, hy, rfl⟩ := map_at hz
            have hym := List.mem_of_getElem? hy
            have lj : j < b.rows.length := (List.getElem?_eq_some_iff.mp hy).1
            have no : valV (((b.rows.take j).map (·.2)).map fun k => (k, V.bl true)) y.2 = none := valV_no (by
              rw [List.map_map]
              have nd := srt_nd (g3 b hbm).2.1.up
              exact (show ¬ y.2 ∈ ((b.rows.take j).map (·.2)).map id by
                rw [List.map_id, List.map_take]
                exact nd_take nd (by rw [List.getElem?_map, hy]; rfl)))
            refine ⟨rfl, _, rfl, _, y.2, y.1, rfl, v2 _ _ (s _ _ ((rf b hbm).rows y hym)), v1, ?_, ?_, fun c o' e' => ?_⟩
            · rw [List.length_map, List.length_map, List.length_take]
              exact small1000 (by omega)
            · rw [putK_new _ no, map_take hy, List.map_append]
              exact upd_same
            · rw [upd_ne (ne_of_none e' hq)]
              exact v2 _ _ e'
          · obtain ⟨v1, v2⟩ := hp
            rw [List.length_map, List.take_length] at v1
            have no : valV (rdK us) (Sum.inr b.name) = none := rd_no (by
              have e1 : us.map (·.1) = (os.take i).map (·.name) := by
                have := congrArg (List.map Prod.fst) u2
                rw [List.map_map, List.map_map] at this
                exact this
              rw [e1, List.map_take]
              exact nd_take osn (by rw [List.getElem?_map, hb]; rfl))
            have u16 := v2 _ _ u1
            have nRq : q ≠ R := (ne_of_none u1 hq).symm
            refine ⟨_, Sum.inr b.name, rfl, u16, ?_, us ++ [(b.name, q, b.rows.map (·.2))], ?_, ?_, fun c hc => ?_, ?_, fun c o' e' => ?_⟩
            · unfold rdK
              rw [List.length_map]
              exact small1000 (by omega)
            · rw [putK_new _ no]
              unfold rdK
              rw [List.map_append]
              exact upd_same
            · rw [List.map_append, u2, List.take_add_one, hb, List.map_append]
              rfl
            · rcases List.mem_append.mp hc with hc | hc
              · obtain ⟨c1, c2⟩ := u3 c hc
                exact ⟨by rw [upd_ne (ne_of (v2 _ _ c1) u16 (by intro z; cases z))]; exact v2 _ _ c1, c2⟩
              · rw [List.mem_singleton.mp hc]
                refine ⟨by rw [upd_ne nRq]; exact v1, ?_⟩
                have q5 : H5 q = none := by
                  have q6 := s.free hq
                  rw [← hHf] at q6
                  by_cases n : q = D
                  · rw [n, upd_same] at q6
                    cases q6
                  · rw [upd_ne n] at q6
                    exact q6
                exact free5 q5
            · rw [List.map_append]
              refine List.nodup_append.mpr ⟨u4, List.nodup_cons.mpr ⟨by simp, List.nodup_nil⟩, fun x hx y hy e => ?_⟩
              obtain ⟨c, hc, rfl⟩ := List.mem_map.mp hx
              rw [List.mem_singleton.mp hy] at e
              have h1 := (u3 c hc).1
              rw [show c.2.1 = q from e, hq] at h1
              cases h1
            · rw [upd_ne (ne_of_none e' hR)]
              exact v2 _ _ (s _ _ e')
        · obtain ⟨us, u1, u2, u3, u4, s6⟩ := hq6
          have tk : os.take (rwK os).length = os := by
            unfold rwK
            rw [List.length_map, List.take_length]
          have u2' : us.map (fun b => (b.1, b.2.2)) = os.map (fun b => (b.name, b.rows.map (·.2))) := by rw [u2]; exact congrArg _ tk
          clear u2
          have s57 : Same H5 (upd H6 D (.dK (rwK os))) := lock_same (od := od) g15 (by rw [hHf]; exact s6)
          have nDR : R ≠ D := fun e => by rw [e, fr] at hR; cases hR
          refine ⟨s6 _ _ fr, _, rfl, p, _, dx, _, rfl, s57 _ _ hp5, T.cl_48, T.no_48__rows, by show 1 < 1000; decide, ?_⟩
          have u17 : (upd H6 D (.dK (rwK os))) R = some (.dK (rdK us)) := by rw [upd_ne nDR]; exact u1
          have u37 : ∀ b ∈ us, (upd H6 D (.dK (rwK os))) b.2.1 = some (.dT (b.2.2.map fun k => (k, V.bl true))) := fun b hb => by
            rw [upd_ne (ne_of (u3 b hb).1 (s6 _ _ fr) (by intro z; cases z))]
            exact (u3 b hb).1
          have hp7 := s57 _ _ hp5
          generalize (upd H6 D (.dK (rwK os))) = H7 at s57 u17 u37 hp7 ⊢
          generalize hH8 : upd H7 p _ = H8
          have hp8 : H8 p = some (.ins (a 48) dx (putF "_rows" (.ref R) (putF "schema" (.ref x) []))) := by rw [← hH8]; exact upd_same
          have o8 : ∀ b o, b ≠ p → H7 b = some o → H8 b = some o := fun b o n e => by rw [← hH8, upd_ne n]; exact e
          have o58 : ∀ b o, b ≠ p → H5 b = some o → H8 b = some o := fun b o n e => o8 b o n (s57 _ _ e)
          have o08 : ∀ b o, b ≠ p → H b = some o → H8 b = some o := fun b o n e => o58 b o n (o05 b o n e)
          have nop8 : ∀ {b : Addr} {o : HO}, H7 b = some o → (∀ C dx fs, o ≠ .ins C dx fs) → b ≠ p := fun {b o} h1 h2 e => by
            rw [e, hp7] at h1
            exact h2 _ _ _ (Option.some.inj h1).symm
          have g18 : H8 D = some (.dK (rwK os)) := o8 _ _ (nop8 (s57 _ _ g15) (by intro _ _ _ z; cases z)) (s57 _ _ g15)
          have r8 : ∀ b ∈ os, RwAt H8 b := fun b hb => ⟨o8 _ _ (nop8 (s57 _ _ (r5 b hb).lst) (by intro _ _ _ z; cases z)) (s57 _ _ (r5 b hb).lst), fun y hy => o8 _ _ (nop8 (s57 _ _ ((r5 b hb).rows y hy)) (by intro _ _ _ z; cases z)) (s57 _ _ ((r5 b hb).rows y hy))⟩
          have u18 : H8 R = some (.dK (rdK us)) := o8 _ _ (nop8 u17 (by intro _ _ _ z; cases z)) u17
          have u38 : ∀ b ∈ us, H8 b.2.1 = some (.dT (b.2.2.map fun k => (k, V.bl true))) := fun b hb => o8 _ _ (nop8 (u37 b hb) (by intro _ _ _ z; cases z)) (u37 b hb)
          have free8 : ∀ {c : Addr}, H8 c = none → H c = none := fun {c} h1 => by
            cases h2 : H c with
            | none => rfl
            | some o2 =>
              by_cases n : c = p
              · rw [n, hp8] at h1
                cases h1
              · rw [o08 c o2 n h2] at h1
                cases h1
          have sG8 : Same Gs H8 := fun b o e => by
            have n : b ≠ p := fun z => by rw [z, gp] at e; cases e
            exact o08 b o n (sG b o e)
          have hx8 := hx.same sG8
          obtain ⟨xe, e1, e2, e3', oo⟩ := id hx8
          -- self._fitting
          refine ⟨_, rfl, x, xe, _, rfl, oo.ob, x, ts, ks, ss, mt, ms, rfl, hx8, fun Dv H9 fDv hDv s9 => ?_⟩
          obtain ⟨kv, ekv, pkv⟩ := id hDv
          obtain ⟨sz, y1, y2⟩ := perm_map_ex (ys := kv) (zs := svK ss) (f := fun b : SvE => ((Sum.inr b.name : Key), V.ref b.at_)) pkv ss rfl
          subst y2
          refine ⟨Dv, _, rfl, ekv, trivial, fun od2 => ?_⟩
          generalize hHg : upd H9 Dv (.frz od2 _) = Hg
          have fg : Hg Dv = some (.frz od2 (.dK (sz.map fun b : SvE => ((Sum.inr b.name : Key), V.ref b.at_)))) := by rw [← hHg]; exact upd_same
          have s8g : Same H8 Hg := fun b o e => by
            rw [← hHg, upd_ne (ne_of_none e fDv)]
            exact s9 _ _ e
          refine ⟨Dv, od2, _, rfl, fg, fun Fi hFi => ?_⟩
          have hS8 := hx8
          refine dc_it walk_items (fun i H' => ∃ fs : List FitE, H' Fi = some (.dK (fitK fs)) ∧ fs.map (·.name) = (sz.take i).map (·.name) ∧ (∀ f ∈ fs, FitOk H' ss us f ∧ H f.at_ = none ∧ ∀ g ∈ f.gs, H g.2.1 = none) ∧ Same Hg H') ⟨[], upd_same, rfl, (fun b hb => by cases hb), same_upd hFi⟩ (fun i H' _ hp => ?_) (fun i y H' H'' hi hp hy => ?_) (fun HL hqL => ?_)
          · obtain ⟨fs, _, _, _, s⟩ := hp
            exact s _ _ fg
          · obtain ⟨fs, f1, f2, f3, s⟩ := hp
            obtain ⟨T', u, v, rfl, hT', rfl, hu, hv⟩ := hy
            have szl : i < sz.length := by
              have := hi
              rw [List.length_map] at this
              exact this
            obtain ⟨b, hb⟩ : ∃ b, sz[i]? = some b := ⟨_, List.getElem?_eq_getElem szl⟩
            have ei : (sz.map fun b : SvE => ((Sum.inr b.name : Key), V.ref b.at_))[i]? = some ((Sum.inr b.name : Key), V.ref b.at_) := by rw [List.getElem?_map, hb]; rfl
            have eu : V.str b.name = u := by
              have h1 : ((sz.map fun b : SvE => ((Sum.inr b.name : Key), V.ref b.at_))[i]?.map fun kv => kV kv.1) = some u := hu
              rw [ei] at h1
              exact Option.some.inj h1
            have ev : V.ref b.at_ = v := by
              have h1 : ((sz.map fun b : SvE => ((Sum.inr b.name : Key), V.ref b.at_))[i]?.map Prod.snd) = some v := hv
              rw [ei] at h1
              exact Option.some.inj h1
            subst eu ev
            have hbs : b ∈ ss := y1.mem_iff.mp (List.mem_of_getElem? hb)
            have sok := oo.hS.ok b hbs
            obtain ⟨wb, w1, w2, w3⟩ := sok.ok
            have sT := same_upd (o := .tup [.str b.name, .ref b.at_]) hT'
            have s8i := (s8g.trans s).trans sT
            obtain ⟨ob, hob, e5⟩ : ∃ ob ∈ os, ob.name = b.tab := by
              have : b.tab ∈ os.map (·.name) := by
                rw [g2, p3.mem_iff]
                exact List.mem_map.mpr ⟨_, w1, rfl⟩
              obtain ⟨ob, h1, h2⟩ := List.mem_map.mp this
              exact ⟨ob, h1, h2⟩
            have hor := (r8 ob hob).same s8i
            have owid : ∀ y ∈ ob.rows, (y.2.length : Int) = wb := fun y hy => by
              have h1 := ((g3 ob hob).2.1.all y.2).mp (List.mem_map.mpr ⟨y, hy, rfl⟩)
              by_cases hm : ob.name ∈ es.map (·.name)
              · obtain ⟨c, hc, e⟩ := List.mem_map.mp hm
                rw [← e, rowsOf_at hnd hc] at h1
                obtain ⟨_, w', hw', hok⟩ := hes c hc
                have hce : c.name = b.tab := e.trans e5
                rw [hce] at hw'
                have : w' = wb := by rw [← widthAt_mem o.hT.nm.nd hw', ← widthAt_mem o.hT.nm.nd w1]
                rw [← this]
                exact (hok.wid y.2 h1).1
              · rw [rowsOf_no hm] at h1
                cases h1
            refine ⟨T', _, rfl, .of upd_same, rfl, _, _, rfl, _, _, rfl, ⟨b.at_, _, rfl, .of (s8i _ _ sok.told.tup), rfl, _, _, rfl, _, _, rfl, _, _, rfl, rfl, ?_⟩⟩
            have hv5 : valV (rwK os) (Sum.inr b.tab) = some (.ref ob.at_) := by rw [← e5]; exact rw_val osn hob
            refine ⟨rfl, rfl, _, rfl, _, rfl, _, rfl, D, _, rfl, (DctAt.of (s8i _ _ g18)).at_ (rw_nd osn) hv5, _, rfl, ob.at_, b.ga, ob.rows, b.cols, wb, rfl, hor.lst, hor.rows, s8i _ _ sok.told.cols, w2.2, owid, by omega, by have := bl400 ob hob; omega, fun Dg gs HG fDg fgs GG s10 => ?_⟩
            have f1' := s10 _ _ (sT _ _ f1)
            have fsl : fs.length ≤ 8 := by
              have h1 := congrArg List.length f2
              rw [List.length_map, List.length_map, List.length_take] at h1
              have h2 : ss.length = ms := by rw [← oo.hS.nm.len, List.length_map]
              have h3 := oo.n8
              have h4 := y1.length_eq
              omega
            have szn : (sz.map (·.name)).Nodup := (y1.map _).nodup_iff.mpr oo.hS.nm.nd
            have no : valV (fitK fs) (Sum.inr b.name) = none := valV_no (by
              rw [keys_fit, f2, List.map_take]
              exact inr_no (nd_take szn (by rw [List.getElem?_map, hb]; rfl)))
            obtain ⟨ue, hue, he1⟩ : ∃ ue ∈ us, (ue.1, ue.2.2) = (ob.name, ob.rows.map (·.2)) := by
              have : (ob.name, ob.rows.map (·.2)) ∈ us.map (fun b => (b.1, b.2.2)) := by
                rw [u2']
                exact List.mem_map.mpr ⟨ob, hob, rfl⟩
              obtain ⟨ue, h1, h2⟩ := List.mem_map.mp this
              exact ⟨ue, h1, h2⟩
            refine ⟨_, Sum.inr b.name, rfl, f1', ?_, fs ++ [⟨b.name, Dg, b.cols, ob.rows, gs⟩], ?_, ?_, fun f hf => ?_, fun c o' e' => ?_⟩
            · unfold fitK
              rw [List.length_map]
              exact small1000 (by omega)
            · rw [putK_new _ no]
              unfold fitK
              rw [List.map_append]
              exact upd_same
            · rw [List.map_append, f2, List.take_add_one, hb, List.map_append]
              rfl
            · rcases List.mem_append.mp hf with hf | hf
              · obtain ⟨c1, c2, c3⟩ := f3 f hf
                exact ⟨(c1.same (sT.trans s10)).oth f1', c2, c3⟩
              · rw [List.mem_singleton.mp hf]
                refine ⟨⟨GG.oth f1' (by intro _ z; cases z) (by intro _ z; cases z), fun y hy => upd_tup f1' (by intro _ z; cases z) _ _ (s10 _ _ (hor.rows y hy)), b, hbs, rfl, rfl, ue, hue, ?_, ?_⟩, free8 (s8i.free fDg), fun g hg => free8 (s8i.free (fgs g hg))⟩
                · exact (Prod.mk.inj he1).1.trans e5
                · exact (Prod.mk.inj he1).2.symm
            · rw [upd_ne (ne_of_none e' hFi)]
              exact s10 _ _ (sT _ _ (s _ _ e'))
          · obtain ⟨fs, f1, f2, f3, s⟩ := hqL
            have tks : sz.take (sz.map fun b : SvE => ((Sum.inr b.name : Key), V.ref b.at_)).length = sz := by rw [List.length_map, List.take_length]
            rw [tks] at f2
            have s8L := s8g.trans s
            have hpL := s8L _ _ hp8
            refine ⟨_, rfl, p, _, dx, _, rfl, hpL, T.cl_48, T.no_48__fitting, ?_, ?_⟩
            · have e : putF "_rows" (.ref R) (putF "schema" (.ref x) ([] : List (Str × V))) = [(("schema" : Str), V.ref x), (("_rows" : Str), V.ref R)] := by
                show (if ("schema" : Str) = "_rows" then _ else (("schema" : Str), V.ref x) :: putF "_rows" (.ref R) []) = _
                rw [if_neg (by decide +kernel)]
                rfl
              rw [e]
              show 2 < 1000
              decide
            · generalize hHz : upd HL p _ = Hz
              have hpz : Hz p = some (.ins (a 48) dx (fldsT x R Fi)) := by rw [← hHz]; exact upd_same
              have oz : ∀ b o, b ≠ p → HL b = some o → Hz b = some o := fun b o n e => by rw [← hHz, upd_ne n]; exact e
              have o0z : ∀ b o, b ≠ p → H b = some o → Hz b = some o := fun b o n e => oz b o n (s8L _ _ (o08 b o n e))
              have nopL : ∀ {b : Addr} {o : HO}, HL b = some o → (∀ C dx fs, o ≠ .ins C dx fs) → b ≠ p := fun {b o} h1 h2 e => by
                rw [e, hpL] at h1
                exact h2 _ _ _ (Option.some.inj h1).symm
              have up : ∀ {b : Addr} {o : HO}, H b = none → HL b = some o → hlet (cut H p) Hz Gs b = some o := fun {b o} h1 h2 => by
                rw [hlet_new (cut_none h1)]
                exact oz b o (fun e => by rw [e, hp] at h1; cases h1) h2
              have upt : ∀ {b : Addr} {xs : List V}, HL b = some (.tup xs) → hlet (cut H p) Hz Gs b = some (.tup xs) := fun {b xs} h2 => by
                have n := nopL h2 (by intro _ _ _ z; cases z)
                cases h1 : H b with
                | none => exact up h1 h2
                | some o2 =>
                  have h3 := oz b _ n h2
                  have h4 := o0z b o2 n h1
                  rw [h3] at h4
                  cases h4
                  rw [hlet_tup (by rw [cut_ne n]; exact h1)]
                  exact h3
              have nDR : H R = none := free5 hR5
              have upG : Same Gs (hlet (cut H p) Hz Gs) := fun b o e => by
                rw [hlet_old e]
                exact o0z b o (fun z => by rw [z, gp] at e; cases e) (sG b o e)
              have wdu : ∀ b ∈ us, ∃ c ∈ os, c.name = b.1 ∧ b.2.2 = c.rows.map (·.2) := fun b hb => by
                have : (b.1, b.2.2) ∈ os.map (fun b => (b.name, b.rows.map (·.2))) := by
                  rw [← u2']
                  exact List.mem_map.mpr ⟨b, hb, rfl⟩
                obtain ⟨c, hc, e⟩ := List.mem_map.mp this
                exact ⟨c, hc, (Prod.mk.inj e).1, (Prod.mk.inj e).2.symm⟩
              have usn : us.map (·.1) = os.map (·.name) := by
                have := congrArg (List.map Prod.fst) u2'
                rw [List.map_map, List.map_map] at this
                exact this
              refine q (hlet (cut H p) Hz Gs) Hz R Fi us ⟨?_, hx.same upG, ⟨⟨_, up nDR (s8L _ _ u18), .refl _⟩, by rw [usn]; exact osn, u4, fun b hb => up (u3 b hb).2 (s8L _ _ (u38 b hb))⟩, ?_, fun b hb => ?_, fun b hb => ?_, fun b hb => ?_, fs, ⟨_, up ?_ f1, .refl _⟩, ?_, fun f hf => ?_⟩ (fun b hb => ?_) (hlet_same _ _ _) (fun c o n h1 h2 h3 => ?_) o0z
              · rw [hlet_new (cut_at H p)]
                exact hpz
              · rw [usn, g2]
                exact p3
              · obtain ⟨c, hc, e1, e2⟩ := wdu b hb
                have hm : c.name ∈ ts.map (·.1) := by
                  rw [← p3.mem_iff, ← g2]
                  exact List.mem_map.mpr ⟨c, hc, rfl⟩
                obtain ⟨y, hy, ey⟩ := List.mem_map.mp hm
                refine ⟨y.2, by rw [← e1, ← ey]; exact hy, fun rr hrr => ?_⟩
                rw [e2] at hrr
                have h1 := ((g3 c hc).2.1.all rr).mp hrr
                by_cases hm2 : c.name ∈ es.map (·.name)
                · obtain ⟨z, hz, ez⟩ := List.mem_map.mp hm2
                  rw [← ez, rowsOf_at hnd hz] at h1
                  obtain ⟨_, w', hw', hok⟩ := hes z hz
                  have hy2 : (c.name, y.2) ∈ ts := by rw [← ey]; exact hy
                  rw [ez] at hw'
                  have : w' = y.2 := by rw [← widthAt_mem o.hT.nm.nd hw', ← widthAt_mem o.hT.nm.nd hy2]
                  rw [← this]
                  exact hok.wid rr h1
                · rw [rowsOf_no hm2] at h1
                  cases h1
              · obtain ⟨c, hc, e1, e2⟩ := wdu b hb
                rw [e2, List.length_map]
                have := bl400 c hc
                omega
              · obtain ⟨c, hc, e1, e2⟩ := wdu b hb
                rw [e2]
                exact List.pairwise_map.mpr (g3 c hc).2.1.up
              · have h1 : Hg Fi = none := hFi
                exact free8 (s8g.free h1)
              · rw [f2]
                exact y1.map _
              · obtain ⟨c1, c2, c3⟩ := f3 f hf
                exact ⟨⟨up c2 c1.grp.dic, fun g hg => up (c3 g hg) (c1.grp.lst g hg), c1.grp.keys, c1.grp.ats, c1.grp.val, c1.grp.all, c1.grp.le⟩, fun y hy => upt (c1.rows y hy), c1.svc⟩
              · obtain ⟨c, hc, e1, e2⟩ := wdu b hb
                rw [e2, ← e1]
                exact ⟨(g3 c hc).2.1.all, List.pairwise_map.mpr (g3 c hc).2.1.up⟩
              · exact hlet_no (by rw [cut_ne n]; exact h1) h2 h3
end
/-! ### a Schema and a Store made, with the part of the heap that each keeps -/
theorem mk_schemaG {C t k v : Addr} {H : Hp} {ts : List (Str × Int)} {ks : List KeyE} {ss : List SvE} {m n : Nat} {Q' : Hp → Prop} {E : XK} {x dx : Addr} (ht : DctAt H t (tabK ts)) (hk : DctAt H k (keyK ks)) (hv : DctAt H v (svK ss)) (hT : Tabs ts m 4) (hK : Keys H ts ks) (hS : Svcs H ts ks ss n) (m1 : 1 ≤ m) (m5 : m ≤ 5) (n1 : 1 ≤ n) (n8 : n ≤ 8)
    (fx : H x = none) (fdx : H dx = none) (ndx : dx ≠ x) (q : ∀ Gs H' : Hp, SchAt C x Gs ts ks ss m n → Same Gs H' → Same H H' → (∀ b o, H b = some o → (∀ xs, o ≠ .tup xs) → Gs b = none) → Q' H') :
    spSInit C (.ref x :: ([.ref t, .ref k, .ref v] ++ [])) (upd (upd H dx (.own x)) x (.ins C dx [])) (fun u H2 => u = .non ∧ Q' H2) E := by
  have s1 := same_upd (o := .own x) fdx
  have f1 : upd H dx (.own x) x = none := by rw [upd_ne ndx.symm]; exact fx
  have s := s1.trans (same_upd (o := .ins C dx []) f1)
  refine ⟨x, dx, t, k, v, ts, ks, ss, m, n, rfl, upd_same, ht.same s, hk.same s, hv.same s, hT, hK.mono fun _ _ e => s _ _ e, hS.mono fun _ _ e => s _ _ e, m1, m5, n1, n8, fun Hz e1 e2 e3 Oz g1 g2 g3 keep => ⟨rfl, ?_⟩⟩
  have sz : Same H Hz := fun b u e => keep b u (ne_of_none e fx) (s _ _ e)
  have upt : ∀ b xs, Hz b = some (.tup xs) → hlet H Hz (fun _ => none) b = some (.tup xs) := fun b xs e => by
    cases h : H b with
    | none => rw [hlet_new h]; exact e
    | some o =>
      have h1 := sz _ _ h
      rw [e] at h1
      cases h1
      rw [hlet_tup h]
      exact e
  have dct : ∀ {d : Addr} {kvs : List (Key × V)}, H d = none → DctAt Hz d kvs → DctAt (hlet H Hz fun _ => none) d kvs := fun {d kvs} h ⟨kd, e, p⟩ => ⟨kd, by rw [hlet_new h]; exact e, p⟩
  exact q (hlet H Hz fun _ => none) Hz ⟨dx, e1, e2, e3, by rw [hlet_new fx]; exact Oz.ob, dct (s.free g1) Oz.tb, dct (s.free g2) Oz.ky, dct (s.free g3) Oz.sv, hT, Oz.hK.mono upt, Oz.hS.mono upt, m5, n8⟩ (hlet_same _ _ _) sz fun b o h nt => hlet_no h nt rfl
theorem mk_storeG {C CS x r : Addr} {H Gs : Hp} {ts : List (Str × Int)} {ks : List KeyE} {ss : List SvE} {mt ms : Nat} {es : List RwE} {Q' : Hp → Prop} {E : XK} {p dx : Addr} (hx : SchAt C x Gs ts ks ss mt ms) (sG : Same Gs H) (hr : DctAt H r (rwK es)) (nd : (es.map (·.name)).Nodup)
    (hes : ∀ b ∈ es, RwAt H b ∧ ∃ w, (b.name, w) ∈ ts ∧ RowsOk w (markOf ks b.name) (b.rows.map (·.2))) (hsum : (es.map fun b => b.rows.length).sum ≤ 400) (hlen : es.length ≤ 26) (fp : H p = none) (fdx : H dx = none) (ndx : dx ≠ p)
    (q : ∀ (G H' : Hp) (R Fi : Addr) (us : List TabE), StO C CS p dx x R Fi G ts ks ss mt ms us → (∀ b ∈ us, Srt b.2.2 (rowsOf es b.1)) → Same G H' → Same H H' → (∀ b o, H b = some o → (∀ xs, o ≠ .tup xs) → Gs b = none → G b = none) → Q' H') :
    spStInit C CS (.ref p :: ([.ref x, .ref r] ++ [])) (upd (upd H dx (.own p)) p (.ins CS dx [])) (fun u H2 => u = .non ∧ Q' H2) E := by
  have s1 := same_upd (o := .own p) fdx
  have f1 : upd H dx (.own p) p = none := by rw [upd_ne ndx.symm]; exact fp
  have s := s1.trans (same_upd (o := .ins CS dx []) f1)
  exact ⟨p, dx, x, r, Gs, ts, ks, ss, mt, ms, es, rfl, upd_same, hx, sG.trans s, sG.free fp, hr.same s, nd, fun b hb => ⟨(hes b hb).1.same s, (hes b hb).2⟩, hsum, hlen, fun G Hz R Fi us O hs sGz no keep => ⟨rfl, q G Hz R Fi us O hs sGz (fun b u e => keep b u (ne_of_none e fp) (s _ _ e)) fun b o h nt g => no b o (ne_of_none h fp) (s _ _ h) nt g⟩⟩
/-- all but some lists stand -/
def Lk (S : List Addr) (H H' : Hp) : Prop := (∀ q ∈ S, H q = none ∨ ∃ xs, H q = some (.lst xs)) ∧ ∀ b o, b ∉ S → H b = some o → H' b = some o
theorem Lk.keep {S : List Addr} {H H' : Hp} {b : Addr} {o : HO} (h : Lk S H H') (e : H b = some o) (nl : ∀ xs, o ≠ .lst xs) : H' b = some o := h.2 b o (fun hm => by
  rcases h.1 b hm with z | ⟨xs, z⟩
  · rw [z] at e
    cases e
  · rw [z] at e
    exact nl xs (Option.some.inj e).symm) e
theorem Lk.of_same {S : List Addr} {H H' : Hp} (h : ∀ q ∈ S, H q = none ∨ ∃ xs, H q = some (.lst xs)) (s : Same H H') : Lk S H H' := ⟨h, fun b o _ e => s b o e⟩
theorem Lk.same {S : List Addr} {H H' H2 : Hp} (h : Lk S H H') (s : Same H' H2) : Lk S H H2 := ⟨h.1, fun b o n e => s b o (h.2 b o n e)⟩
theorem Lk.rows {S : List Addr} {H H' : Hp} {L : List (Addr × RowK)} (h : Lk S H H') (hL : RowsAt H L) : RowsAt H' L := fun b hb => h.keep (hL b hb) (by intro _ z; cases z)
theorem Lk.rw {S : List Addr} {H H' : Hp} {b : RwE} (h : Lk S H H') (n : b.at_ ∉ S) (hb : RwAt H b) : RwAt H' b := ⟨h.2 _ _ n hb.lst, h.rows hb.rows⟩
theorem Lk.sub {S : List Addr} {G H H' : Hp} (h : Lk S H H') (g : ∀ q ∈ S, G q = none) (s : Same G H) : Same G H' := fun b o e => h.2 b o (fun hm => by rw [g b hm] at e; cases e) (s b o e)
theorem Lk.pool {S : List Addr} {H H' : Hp} {p : Addr} (h : Lk S H H') (n : p ∉ S) (hP : PoolAt H p) : PoolAt H' p := by
  obtain ⟨p0, p1, p2, p3, r, e, z⟩ := hP
  exact ⟨p0, p1, p2, p3, r, h.2 p _ n e, z⟩
theorem Lk.of_chg {H H' : Hp} {p : Addr} (hP : PoolAt H p) (c : Chg p H H') : Lk [p] H H' := ⟨fun q hq => by
  obtain ⟨p0, p1, p2, p3, r, e, _⟩ := hP
  rw [List.mem_singleton.mp hq]
  exact .inr ⟨_, e⟩, fun b o n e => c.2 b o (fun z => n (by rw [z]; exact List.mem_singleton.mpr rfl)) e⟩
section
variable {P : Program} {w : World} {K : PySem.W.Frag} {mg : Str → Option Value} {base : Heap} {a : Nat → Addr} {d : Nat → FuncData}
/-! ### == of two schemas -/
def schB (ts : List (Str × Int)) (ks : List KeyE) (ss : List SvE) (ts' : List (Str × Int)) (ks' : List KeyE) (ss' : List SvE) : Bool := eqP (tabP ts) (tabP ts') && (eqP (keyP ks) (keyP ks') && eqP (svP ss) (svP ss'))
theorem sv_toldW {H : Hp} {ts : List (Str × Int)} {ss : List SvE} {m : Nat} {wm : Int} (hT : Tabs ts m wm) (h : ∀ b ∈ ss, SvOk H ts b) : ∀ b ∈ ss, Told H b.at_ b.tab b.ga b.cols b.cap ∧ Wd b.tab := fun b hb => by
  obtain ⟨t, ⟨w, hw, _⟩, _⟩ := h b hb
  exact ⟨t, hT.nm.wd _ (List.mem_map.mpr ⟨_, hw, rfl⟩)⟩
def spSEq (C : Addr) : Sp := fun vs H Q _ => ∃ (p q : Addr) (ts : List (Str × Int)) (ks : List KeyE) (ss : List SvE) (m n : Nat) (ts' : List (Str × Int)) (ks' : List KeyE) (ss' : List SvE) (m' n' : Nat), vs = [.ref p, .ref q] ∧ SchAt C p H ts ks ss m n ∧ SchAt C q H ts' ks' ss' m' n' ∧ Q (.bl (schB ts ks ss ts' ks' ss')) H
theorem ok_seq (T : Txt K mg a d) : FnOk P w K mg base CX0 1 (a 5204) (d 5204) ["self", "other"] (spSEq (a 42)) := by
  refine T.F5204.ok sc_Schema___eq__ (fun vs H Q E h => ?_) (fun cdv A outer s H vs Q E hr h => ?_)
  · obtain ⟨p, q, ts, ks, ss, m, n, ts', ks', ss', m', n', rfl, _⟩ := h
    rfl
  · obtain ⟨p, q, ts, ks, ss, m, n, ts', ks', ss', m', n', rfl, ⟨dx, d1, d2, d3, O⟩, ⟨dy, e1, e2, e3, O'⟩, k⟩ := h
    refine ⟨_, (pss_one (ps_ret (pe_and (pe_callB (id := "isinstance")  (C8.call_isC T.ic_42) (by rfl) T.z_isinstance (by decide +kernel) (pa_cons (pv 1) (pa_cons (pe_glob (v := .ref (a 42)) (by rfl) T.cg_42 rfl) pa_nil))) (pe_and (pe_cmpR (op_eqT (hu_of65 hr)) (pe_fld (pv 0) rfl) (pe_fld (pv 1) rfl) (nomark _)) (pe_and (pe_cmpR (op_eqT (hu_of65 hr)) (pe_fld (pv 0) rfl) (pe_fld (pv 1) rfl) (nomark _)) (pe_one (pe_cmpR (op_eqT (hu_of65 hr)) (pe_fld (pv 0) rfl) (pe_fld (pv 1) rfl) (nomark _)))))))), ?_⟩
    refine ⟨_, rfl, q, dy, _, rfl, O'.ob, true, rfl, ?_⟩
    unfold schB at k
    refine ⟨_, rfl, p, _, dx, _, _, rfl, O.ob, T.cl_42, T.no_42__tables, flds_t _ _ _, _, rfl, q, _, dy, _, _, rfl, O'.ob, T.cl_42, T.no_42__tables, flds_t _ _ _, rEqT_of (ddat_tab O.tb) (ddat_tab O'.tb) (tabP_nd O.hT) (tabP_nd O'.hT) ⟨_, rfl, ?_⟩⟩
    show if eqP (tabP ts) (tabP ts') = true then _ else _
    cases h1 : eqP (tabP ts) (tabP ts') with
    | false =>
      rw [h1] at k
      exact k
    | true =>
      rw [h1, Bool.true_and] at k
      refine ⟨_, rfl, p, _, dx, _, _, rfl, O.ob, T.cl_42, T.no_42__keys, flds_k _ _ _, _, rfl, q, _, dy, _, _, rfl, O'.ob, T.cl_42, T.no_42__keys, flds_k _ _ _, rEqT_of (ddat_key O.ky O.hK) (ddat_key O'.ky O'.hK) (keyP_nd O.hK) (keyP_nd O'.hK) ⟨_, rfl, ?_⟩⟩
      show if eqP (keyP ks) (keyP ks') = true then _ else _
      cases h2 : eqP (keyP ks) (keyP ks') with
      | false =>
        rw [h2] at k
        exact k
      | true =>
        rw [h2, Bool.true_and] at k
        exact ⟨_, rfl, p, _, dx, _, _, rfl, O.ob, T.cl_42, T.no_42__services, flds_s _ _ _, _, rfl, q, _, dy, _, _, rfl, O'.ob, T.cl_42, T.no_42__services, flds_s _ _ _, rEqT_of (ddat_sv O.sv (sv_toldW O.hT O.hS.ok)) (ddat_sv O'.sv (sv_toldW O'.hT O'.hS.ok)) (svP_nd O.hS.nm) (svP_nd O'.hS.nm) k⟩
end
theorem schB_refl {H : Hp} {ts : List (Str × Int)} {ks : List KeyE} {ss : List SvE} {m n : Nat} (hT : Tabs ts m 4) (hK : Keys H ts ks) (hS : Svcs H ts ks ss n) : schB ts ks ss ts ks ss = true := by
  unfold schB
  rw [eqP_refl (tabP_nd hT) (fun p hp => ?_), eqP_refl (keyP_nd hK) (fun p hp => ?_), eqP_refl (svP_nd hS.nm) (fun p hp => ?_)]
  · rfl
  · obtain ⟨b, hb, rfl⟩ := List.mem_map.mp hp
    exact sv_shaped (wd_strOk (sv_toldW hT hS.ok b hb).2) _ _
  · obtain ⟨b, hb, rfl⟩ := List.mem_map.mp hp
    exact ints_tup_shaped _
  · obtain ⟨b, hb, rfl⟩ := List.mem_map.mp hp
    simp [SeqAt.shaped, PyData.canLay0, PyData.depth]
/-! ### == of two stores -/
def tabEq (es us : List TabE) : Bool := (es.length == us.length) && es.all fun b => us.any fun c => decide (c.1 = b.1) && sameRows b.2.2 c.2.2
theorem tabEq_iff {es us : List TabE} (h1 : (es.map (·.1)).Nodup) (h2 : (us.map (·.1)).Nodup) (hn : (es.map (·.1)).Perm (us.map (·.1))) : tabEq es us = true ↔ ∀ b ∈ es, ∀ c ∈ us, c.1 = b.1 → sameRows b.2.2 c.2.2 = true := by
  unfold tabEq
  rw [Bool.and_eq_true, List.all_eq_true]
  constructor
  · rintro ⟨_, h⟩ b hb c hc e
    obtain ⟨c', hc', h3⟩ := List.any_eq_true.mp (h b hb)
    rw [Bool.and_eq_true] at h3
    have e' := of_decide_eq_true h3.1
    have : c' = c := tab_one h2 hc hc' (e'.trans e.symm)
    rw [← this]
    exact h3.2
  · intro h
    have hl := hn.length_eq
    rw [List.length_map, List.length_map] at hl
    refine ⟨by simp [hl], fun b hb => ?_⟩
    have hm : b.1 ∈ us.map (·.1) := hn.mem_iff.mp (List.mem_map.mpr ⟨b, hb, rfl⟩)
    obtain ⟨c, hc, e⟩ := List.mem_map.mp hm
    exact List.any_eq_true.mpr ⟨c, hc, by rw [Bool.and_eq_true]; exact ⟨decide_eq_true e, h b hb c hc e⟩⟩
/-- the rows of a table's dict -/
def rowsD (H : Hp) (v : V) : List RowK := match v with
  | .ref q => match H q with
    | some (.dT kvs) => kvs.map (·.1)
    | _ => []
  | _ => []
theorem rowsD_at {H : Hp} {q : Addr} {us : List RowK} (h : H q = some (.dT (us.map fun k => (k, V.bl true)))) : rowsD H (.ref q) = us := by
  show (match H q with | some (.dT kvs) => kvs.map (·.1) | _ => []) = us
  rw [h]
  show (us.map fun k => (k, V.bl true)).map (·.1) = us
  rw [List.map_map]
  exact List.map_id us
theorem eqRR_tab {H : Hp} {es us zs ws : List TabE} (h1 : ∀ b ∈ es, H b.2.1 = some (.dT (b.2.2.map fun k => (k, V.bl true)))) (h2 : ∀ b ∈ us, H b.2.1 = some (.dT (b.2.2.map fun k => (k, V.bl true)))) (n2 : (us.map (·.1)).Nodup) (z1 : zs.Perm es) (w1 : ws.Perm us) :
    eqRR (rowsD H) (zs.map fun b : TabE => ((Sum.inr b.1 : Key), V.ref b.2.1)) (ws.map fun b : TabE => ((Sum.inr b.1 : Key), V.ref b.2.1)) = tabEq es us := by
  have wn : (ws.map (·.1)).Nodup := (w1.map _).nodup_iff.mpr n2
  have e1 : ∀ b ∈ zs, (match valV (ws.map fun b : TabE => ((Sum.inr b.1 : Key), V.ref b.2.1)) (Sum.inr b.1) with | none => false | some v => sameRows (rowsD H (.ref b.2.1)) (rowsD H v)) = us.any fun c => decide (c.1 = b.1) && sameRows b.2.2 c.2.2 := fun b hb => by
    rw [rowsD_at (h1 b (z1.mem_iff.mp hb))]
    by_cases hm : b.1 ∈ us.map (·.1)
    · obtain ⟨c, hc, e⟩ := List.mem_map.mp hm
      have hv : valV (rdK ws) (Sum.inr b.1) = some (.ref c.2.1) := by rw [← e]; exact rd_val wn (w1.mem_iff.mpr hc)
      rw [show valV (ws.map fun b : TabE => ((Sum.inr b.1 : Key), V.ref b.2.1)) (Sum.inr b.1) = some (.ref c.2.1) from hv]
      show sameRows b.2.2 (rowsD H (.ref c.2.1)) = _
      rw [rowsD_at (h2 c hc)]
      cases h3 : sameRows b.2.2 c.2.2 with
      | true => exact (List.any_eq_true.mpr ⟨c, hc, by rw [Bool.and_eq_true]; exact ⟨decide_eq_true e, h3⟩⟩).symm
      | false =>
        refine (List.any_eq_false.mpr fun x hx hh => ?_).symm
        rw [Bool.and_eq_true] at hh
        have : x = c := tab_one n2 hc hx ((of_decide_eq_true hh.1).trans e.symm)
        rw [this, h3] at hh
        cases hh.2
    · have hv : valV (rdK ws) (Sum.inr b.1) = none := rd_no fun h => hm ((w1.map _).mem_iff.mp h)
      rw [show valV (ws.map fun b : TabE => ((Sum.inr b.1 : Key), V.ref b.2.1)) (Sum.inr b.1) = none from hv]
      refine (List.any_eq_false.mpr fun x hx hh => ?_).symm
      rw [Bool.and_eq_true] at hh
      exact hm (List.mem_map.mpr ⟨x, hx, of_decide_eq_true hh.1⟩)
  unfold eqRR tabEq
  rw [List.length_map, List.length_map, z1.length_eq, w1.length_eq, List.all_map]
  congr 1
  have e2 : ∀ (f : TabE → Bool) (g : TabE → Bool), (∀ b ∈ zs, f b = g b) → zs.all f = es.all g := fun f g h => by
    rw [Bool.eq_iff_iff, List.all_eq_true, List.all_eq_true]
    exact ⟨fun h3 b hb => by rw [← h b (z1.mem_iff.mpr hb)]; exact h3 b (z1.mem_iff.mpr hb), fun h3 b hb => by rw [h b hb]; exact h3 b (z1.mem_iff.mp hb)⟩
  exact e2 _ _ fun b hb => e1 b hb
section
variable {P : Program} {w : World} {K : PySem.W.Frag} {mg : Str → Option Value} {base : Heap} {a : Nat → Addr} {d : Nat → FuncData}
def spSEqT (C CS : Addr) : Sp := fun vs H Q _ => ∃ (p q dx dy x x' R R' Fi Fi' : Addr) (ts : List (Str × Int)) (ks : List KeyE) (ss : List SvE) (m n : Nat) (ts' : List (Str × Int)) (ks' : List KeyE) (ss' : List SvE) (m' n' : Nat) (es us : List TabE), vs = [.ref p, .ref q] ∧ StO C CS p dx x R Fi H ts ks ss m n es ∧ StO C CS q dy x' R' Fi' H ts' ks' ss' m' n' us ∧
  Q (.bl (schB ts ks ss ts' ks' ss' && tabEq es us)) H
theorem ok_seqT (T : Txt K mg a d) : FnOk P w K mg base CX0 2 (a 5805) (d 5805) ["self", "other"] (spSEqT (a 42) (a 48)) := by
  have G5204 : FnOk P w K mg base CX0 1 (a 5204) (d 5204) ["self", "other"] (spSEq (a 42)) := ok_seq T
  refine T.F5805.ok sc_Store___eq__ (fun vs H Q E h => ?_) (fun cdv A outer s H vs Q E hr h => ?_)
  · obtain ⟨p, q, dx, dy, x, x', R, R', Fi, Fi', ts, ks, ss, m, n, ts', ks', ss', m', n', es, us, rfl, _⟩ := h
    rfl
  · obtain ⟨p, q, dx, dy, x, x', R, R', Fi, Fi', ts, ks, ss, m, n, ts', ks', ss', m', n', es, us, rfl, O, O', k⟩ := h
    refine ⟨_, (pss_one (ps_ret (pe_and (pe_callB (id := "isinstance")  (C8.call_isC T.ic_48) (by rfl) T.z_isinstance (by decide +kernel) (pa_cons (pv 1) (pa_cons (pe_glob (v := .ref (a 48)) (by rfl) T.cg_48 rfl) pa_nil))) (pe_and (pe_cmpR (op_eqO (E := fun _ _ _ => False) G5204 (hr.mono (by decide)) T.m_5204.at_ T.m_5204.fn T.b5204 pass0) (pe_fld (pv 0) rfl) (pe_fld (pv 1) rfl) (nomark _)) (pe_one (pe_cmpR (op_eqRR (hu_of65 hr)) (pe_fld (pv 0) rfl) (pe_fld (pv 1) rfl) (nomark _))))))), ?_⟩
    obtain ⟨kd, er, pk⟩ := id O.rows.dct
    obtain ⟨zs, z1, z2⟩ := perm_map_ex (ys := kd) (zs := rdK es) (f := fun b : TabE => ((Sum.inr b.1 : Key), V.ref b.2.1)) pk es rfl
    subst z2
    obtain ⟨kd', er', pk'⟩ := id O'.rows.dct
    obtain ⟨ws, w1, w2⟩ := perm_map_ex (ys := kd') (zs := rdK us) (f := fun b : TabE => ((Sum.inr b.1 : Key), V.ref b.2.1)) pk' us rfl
    subst w2
    obtain ⟨sx, c1, c2, c3, so⟩ := id O.sch
    obtain ⟨sx', c1', c2', c3', so'⟩ := id O'.sch
    refine ⟨_, rfl, q, dy, _, rfl, O'.ob, true, rfl, ?_⟩
    refine ⟨_, rfl, p, _, dx, _, _, rfl, O.ob, T.cl_48, T.no_48_schema, fldt_s _ _ _, _, rfl, q, _, dy, _, _, rfl, O'.ob, T.cl_48, T.no_48_schema, fldt_s _ _ _, x, x', sx, sx', _, _, rfl, rfl, so.ob, so'.ob, x, x', ts, ks, ss, m, n, ts', ks', ss', m', n', rfl, O.sch, O'.sch, _, rfl, _, rfl, ?_⟩
    show if schB ts ks ss ts' ks' ss' = true then _ else _
    cases h1 : schB ts ks ss ts' ks' ss' with
    | false =>
      rw [h1] at k
      exact k
    | true =>
      rw [h1, Bool.true_and] at k
      refine ⟨_, rfl, p, _, dx, _, _, rfl, O.ob, T.cl_48, T.no_48__rows, fldt_r _ _ _, _, rfl, q, _, dy, _, _, rfl, O'.ob, T.cl_48, T.no_48__rows, fldt_r _ _ _, R, R', _, _, rowsD H, rfl, rfl, er, er', fun b hb => ?_, fun b hb => ?_, ?_⟩
      · obtain ⟨c, hc, rfl⟩ := List.mem_map.mp hb
        have h3 := O.rows.inner c (z1.mem_iff.mp hc)
        exact ⟨c.2.1, rfl, by rw [rowsD_at h3]; exact h3⟩
      · obtain ⟨c, hc, rfl⟩ := List.mem_map.mp hb
        have h3 := O'.rows.inner c (w1.mem_iff.mp hc)
        exact ⟨c.2.1, rfl, by rw [rowsD_at h3]; exact h3⟩
      · rw [eqRR_tab O.rows.inner O'.rows.inner O'.rows.nd z1 w1]
        exact k
end
theorem eqvAll_tups : ∀ a b : List RowK, PyData.eqvAll (a.map tupD) (b.map tupD) = decide (a = b)
  | [], [] => by simp [PyData.eqvAll]
  | [], _ :: _ => by simp [PyData.eqvAll]
  | _ :: _, [] => by simp [PyData.eqvAll]
  | x :: a, y :: b => by
    simp only [List.map_cons, PyData.eqvAll, eqv_tup, eqvAll_tups a b]
    by_cases h1 : x = y <;> by_cases h2 : a = b <;> simp [h1, h2]
theorem eqv_tups (a b : List RowK) : PyData.eqv (.list (a.map tupD)) (.list (b.map tupD)) = decide (a = b) := by
  simp only [PyData.eqv]
  exact eqvAll_tups a b
theorem sorted_eq : ∀ {a b : List RowK}, (a.Pairwise fun x y => rowLt x y = true) → (b.Pairwise fun x y => rowLt x y = true) → (∀ r, r ∈ a ↔ r ∈ b) → a = b
  | [], [], _, _, _ => rfl
  | [], y :: _, _, _, h => absurd ((h y).mpr List.mem_cons_self) (by simp)
  | x :: _, [], _, _, h => absurd ((h x).mp List.mem_cons_self) (by simp)
  | x :: a, y :: b, ha, hb, h => by
    obtain ⟨a1, a2⟩ := List.pairwise_cons.mp ha
    obtain ⟨b1, b2⟩ := List.pairwise_cons.mp hb
    have exy : x = y := by
      rcases List.mem_cons.mp ((h x).mp List.mem_cons_self) with e | hx
      · exact e
      · rcases List.mem_cons.mp ((h y).mpr List.mem_cons_self) with e | hy
        · exact e.symm
        · have := rowLt_trans (a1 y hy) (b1 x hx)
          rw [rowLt_irrefl] at this
          cases this
    subst exy
    have hm : ∀ r, r ∈ a ↔ r ∈ b := fun r => by
      constructor
      · intro hr
        rcases List.mem_cons.mp ((h r).mp (List.mem_cons_of_mem _ hr)) with e | hx
        · have := a1 r hr
          rw [e, rowLt_irrefl] at this
          cases this
        · exact hx
      · intro hr
        rcases List.mem_cons.mp ((h r).mpr (List.mem_cons_of_mem _ hr)) with e | hx
        · have := b1 r hr
          rw [e, rowLt_irrefl] at this
          cases this
        · exact hx
    rw [sorted_eq a2 b2 hm]
theorem Srt.eq {us ws rs : List RowK} (h1 : Srt us rs) (h2 : Srt ws rs) : us = ws := sorted_eq h1.up h2.up fun r => (h1.all r).trans (h2.all r).symm
theorem SortedRows.srt {L : List (Addr × RowK)} {rs : List RowK} (h : SortedRows L rs) : Srt (L.map (·.2)) rs := ⟨h.all, List.pairwise_map.mpr h.up⟩
theorem nodup_le {α : Type} [DecidableEq α] : ∀ {l m : List α}, l.Nodup → (∀ x ∈ l, x ∈ m) → l.length ≤ m.length
  | [], _, _, _ => Nat.zero_le _
  | x :: l, m, nd, hs => by
    obtain ⟨n1, n2⟩ := List.nodup_cons.mp nd
    have hx : x ∈ m := hs x List.mem_cons_self
    have ih := nodup_le (l := l) (m := m.erase x) n2 fun y hy => (List.mem_erase_of_ne (fun e => n1 (by rw [← e]; exact hy))).mpr (hs y (List.mem_cons_of_mem _ hy))
    rw [List.length_erase_of_mem hx] at ih
    have := List.length_pos_of_mem hx
    rw [List.length_cons]
    omega
/-- the values of a call that are values all make a row -/
theorem good_key {v : V} (h : valV' v = true) : ∃ k, v = kV k ∧ KVal k := by
  cases v with
  | int i => exact ⟨.inl i, rfl, by have := of_decide_eq_true h; show -(10 ^ 30 - 1) ≤ i ∧ i ≤ 10 ^ 30 - 1; omega⟩
  | str s => exact ⟨.inr s, rfl, by
      have h' : (decide (1 ≤ s.length ∧ s.length ≤ 8) && s.cps.toList.all fun c => decide (97 ≤ c ∧ c ≤ 122)) = true := h
      rw [Bool.and_eq_true, List.all_eq_true] at h'
      obtain ⟨h1, h2⟩ := of_decide_eq_true h'.1
      exact ⟨h1, h2, fun c hc => of_decide_eq_true (h'.2 c hc)⟩⟩
  | bl b => cases h
  | non => cases h
  | ref a => cases h
  | byt b => cases h
  | flt x => cases h
  | ty n => cases h
theorem good_rows : ∀ {xs : List V}, xs.all valV' = true → ∃ r : RowK, xs = r.map kV ∧ ∀ k ∈ r, KVal k
  | [], _ => ⟨[], rfl, fun k hk => by cases hk⟩
  | x :: xs, h => by
    rw [List.all_cons, Bool.and_eq_true] at h
    obtain ⟨k, rfl, hk⟩ := good_key h.1
    obtain ⟨r, rfl, hr⟩ := good_rows h.2
    exact ⟨k :: r, rfl, fun z hz => by
      rcases List.mem_cons.mp hz with rfl | hz
      · exact hk
      · exact hr z hz⟩
/-! ### an error with one field -/
def spI1 (fld : Str) (C : Addr) : Sp := fun vs H Q _ => ∃ (x : Addr) (v : V), vs = [.ref x, v] ∧ H x = some (exo x C none) ∧ ∀ dx, H dx = none → dx ≠ x → Q .non (upd (upd H dx (exd dx [(fld, v)])) x (exo x C (some dx)))
/-- how C(v) goes out: its dict dx, new -/
def Er1 (fld : Str) (C : Addr) (v : V) (H : Hp) (E : XK) : Prop := ∀ dx H', H dx = none → H' dx = some (.xd [(fld, v)]) → Same H H' → E (.ref C) (some dx) H'
theorem er1_raise {fld : Str} {C : Addr} {v : V} {H : Hp} {E : XK} (k : Er1 fld C v H E) : ([v] : List V).length ≤ 1000 ∧ ∀ x, H x = none → spI1 fld C (.ref x :: ([v] ++ [])) (upd H x (exo x C none))
    (fun u H2 => u = .non ∧ ∃ (dd : Addr) (fs : List (Str × V)), H2 x = some (exo x C (some dd)) ∧ H2 dd = some (exd dd fs) ∧ H dd = none ∧ E (.ref C) (some dd) (upd (del H2 x) dd (.xd fs))) (fun _ _ _ => False) := by
  refine ⟨by show 1 ≤ 1000; decide, fun x hx => ⟨x, v, rfl, upd_same, fun dx hdx ne => ⟨rfl, dx, _, upd_same, by rw [upd_ne ne]; exact upd_same, ?_, ?_⟩⟩⟩
  · rw [upd_ne ne] at hdx
    exact hdx
  · rw [upd_ne ne] at hdx
    refine k dx _ hdx upd_same fun b o e => ?_
    have nb : b ≠ x := ne_of_none e hx
    have nd : b ≠ dx := ne_of_none e hdx
    rw [upd_ne nd, del_ne nb, upd_ne nb, upd_ne nd, upd_ne nb]
    exact e
theorem dp_sgns {K : PySem.W.Frag} {H : Hp} : ∀ cs : List Nat, DpAll K H (cs.map fun c => V.str ⟨#[c]⟩) (cs.map fun c => PyData.str ⟨#[c]⟩)
  | [] => .nil
  | c :: cs => .cons (.str _) (dp_sgns cs)
theorem sgns_shaped {cs : List Nat} (h : ∀ c ∈ cs, c < 128) : SeqAt.shaped (.list (cs.map fun c => PyData.str ⟨#[c]⟩)) = true := by
  have := strs_shapedL (ns := cs.map fun c => (⟨#[c]⟩ : Str)) fun s hs => by
    obtain ⟨c, hc, rfl⟩ := List.mem_map.mp hs
    intro x hx
    have : x = c := by simpa using hx
    rw [this]
    exact h c hc
  rw [List.map_map] at this
  exact this
theorem filter_okC (cs : List Nat) : ((cs.filter fun c => !okC c).map fun c => PyData.str ⟨#[c]⟩).isEmpty = cs.all okC := by
  induction cs with
  | nil => rfl
  | cons c cs ih =>
    cases h : okC c with
    | true => rw [List.filter_cons_of_neg (by rw [h]; decide), ih, List.all_cons, h, Bool.true_and]
    | false =>
      rw [List.filter_cons_of_pos (by rw [h]; rfl), List.all_cons, h, Bool.false_and]
      rfl
/-! ### fitting -/
section
variable {P : Program} {w : World} {K : PySem.W.Frag} {mg : Str → Option Value} {base : Heap} {a : Nat → Addr} {d : Nat → FuncData}
theorem ok_icinit (T : Txt K mg a d) : FnOk P w K mg base CX0 1 (a 1800) (d 1800) ["self", "service"] (spI1 "service" (a 8)) := by
  refine T.F1800.ok sc_InvalidCall___init__ (fun vs H Q E h => ?_) (fun cdv A outer s H vs Q E hr h => ?_)
  · obtain ⟨x, v, rfl, _⟩ := h
    rfl
  · obtain ⟨x, v, rfl, hx, q⟩ := h
    exact ⟨_, (pss_one (ps_ost (pv 0) (pv 1))), _, rfl, _, rfl, x, _, rfl, T.x_8, T.no_8_service, .inl ⟨hx, fun dx hdx ne => q dx hdx ne⟩⟩
/-- the rows that fit -/
def fitR (cs : List Int) (r : RowK) (us : List RowK) : List RowK := us.filter fun u => decide (projR cs u = r)
theorem fitR_map (cs : List Int) (r : RowK) (L : List (Addr × RowK)) : (L.filter fun b => decide (projR cs b.2 = r)).map (·.2) = fitR cs r (L.map (·.2)) := by
  unfold fitR
  rw [List.filter_map]
  rfl
theorem bl_valR {gs : List Grp} {r : RowK} (h : r ∉ gs.map (·.1)) : valV (gs.map fun g => (g.1, V.ref g.2.1)) r = none := valV_no (by rw [grp_keys]; exact h)
def spFit (C CS CU CI : Addr) : Sp := fun vs H Q E => ∃ (p dx x R Fi g : Addr) (n : Str) (xs : List V) (ts : List (Str × Int)) (ks : List KeyE) (ss : List SvE) (mt ms : Nat) (es : List TabE), vs = [.ref p, .str n, .ref g] ∧ StO C CS p dx x R Fi H ts ks ss mt ms es ∧
  H g = some (.tup xs) ∧ xs.length ≤ 100 ∧ (∀ y ∈ xs, Thg H y) ∧ (n ∉ ss.map (·.name) → Unk CU (.str n) H E) ∧
  (∀ b ∈ ss, b.name = n → (goodT xs (b.cols.length : Nat) = false → ∀ H', Same H H' → Er1 "service" CI (.str n) H' E) ∧
    (∀ r : RowK, xs = r.map kV → (∀ k ∈ r, KVal k) → r.length = b.cols.length → ∀ e ∈ es, e.1 = b.tab → ∀ (q : Addr) (H' : Hp) (L : List (Addr × RowK)), H q = none → H' q = some (.lst (L.map fun y => V.ref y.1)) → RowsAt H' L → L.map (·.2) = fitR b.cols r e.2.2 → Same H H' → Q (.ref q) H'))
theorem ok_fitting (T : Txt K mg a d) : FnOk P w K mg base (L2.CX P w) 5 (a 5808) (d 5808) ["self", "service", "given"] (spFit (a 42) (a 48) (a 3) (a 8)) := by
  have G5210 : FnOk P w K mg base (L2.CX P w) 4 (a 5210) (d 5210) ["self", "name"] (spAsk (a 42) (a 3) (fun _ _ ss n => valV (svK ss) (Sum.inr n)) (fun _ _ ss n => valV (svK ss) (Sum.inr n))) := ok_service_of T
  have G16 : FnOk P w K mg base CX0 3 (a 16) (d 16) ["thing", "many"] spAre := ok_are T
  have G1800 : FnOk P w K mg base CX0 1 (a 1800) (d 1800) ["self", "service"] (spI1 "service" (a 8)) := ok_icinit T
  refine T.F5808.okX sc_Store_fitting (fun vs H Q E h => ?_) (fun cdv A outer s H vs Q E hr h => ?_)
  · obtain ⟨p, dx, x, R, Fi, g, n, xs, ts, ks, ss, mt, ms, es, rfl, _⟩ := h
    rfl
  · obtain ⟨p, dx, x, R, Fi, g, n, xs, ts, ks, ss, mt, ms, es, rfl, O, hg, hgl, hgt, q1, q2⟩ := h
    obtain ⟨xd, d1, d2, d3, o⟩ := id O.sch
    refine ⟨_, (pss_cons (ps_set (i := 3) sc_Store_fitting.nd rfl (.inl rfl) (pe_ix ix_tup (pe_meth (pe_fld (pv 0) rfl) T.cl_42 T.m_5210 G5210 (hr.mono (by decide)) T.b5210 .nil (passes_call (takes_of rfl rfl rfl rfl) (fun _ _ _ _ h => h)) (pa_cons (pv 1) pa_nil)) pe_int (fun _ _ => rfl)))
  (pss_cons (ps_if (pt_not (pt_val (pe_call G16 (hr.mono (by decide)) (by rfl) T.g16 T.F16.kp T.b16 .nil pass0 (pa_cons (pv 2) (pa_cons (pe_callB (id := "len")  call_len_seq (by rfl) T.z_len (by decide +kernel) (pa_cons (pv 3) pa_nil)) pa_nil)))))
    (pss_one (ps_raise rfl (takes_of rfl rfl rfl rfl) (pmk_oex T.x_8 T.in_8 T.ti_8 G1800 (hr.mono (by decide)) T.b1800 .nil pass0 (by rfl) T.cg_8 (pa_cons (pv 1) pa_nil))))
    pss_nil)
  (pss_one (ps_ret (pe_callTy (T := "list")  call_list_of (by rfl) T.z_list (by decide +kernel) (pa_cons (pe_dget2 (hu_of hr) (pe_dget (hu_of hr) (pe_fld (pv 0) rfl) (pv 1) (fun _ _ => rfl)) (pv 2) (pe_lst pa_nil) ⟨rfl, rfl, rfl, rfl⟩) pa_nil)))))), ?_⟩
    refine ⟨_, rfl, p, _, dx, _, _, rfl, O.ob, T.cl_48, T.no_48_schema, fldt_s _ _ _, x, xd, _, rfl, o.ob, flds_no _ _ _ (by decide +kernel) (by decide +kernel) (by decide +kernel), _, rfl, x, n, ts, ks, ss, mt, ms, rfl, O.sch, fun v hv => ?_, fun hn => ?_⟩
    · obtain ⟨b, hb, e⟩ := List.mem_map.mp (valV_mem (show valV (svK ss) (Sum.inr n) = some v from hv))
      have e1 : b.name = n := Sum.inr.inj (Prod.mk.inj e).1
      have e2 : V.ref b.at_ = v := (Prod.mk.inj e).2
      subst e1 e2
      obtain ⟨qa, qb⟩ := q2 b hb rfl
      have sok := o.hS.ok b hb
      refine ⟨_, hv, ?_⟩
      refine ⟨_, _, _, _, rfl, rfl, .of sok.told.tup, atI_nat (j := 1) rfl, ?_⟩
      refine ⟨_, rfl, _, rfl, _, _, rfl, .inr (.of sok.told.cols), g, xs, _, rfl, hg, hgl, hgt, fun H1 s1 => ⟨_, rfl, ?_⟩⟩
      rw [List.length_map]
      cases hgood : goodT xs (b.cols.length : Nat) with
      | false => exact ifT ⟨_, rfl, er1_raise (qa hgood H1 s1)⟩
      | true =>
        refine ifF ?_
        unfold goodT at hgood
        rw [Bool.and_eq_true] at hgood
        have hlen := of_decide_eq_true hgood.1
        obtain ⟨r, hr1, hr2⟩ := good_rows hgood.2
        subst hr1
        rw [List.length_map] at hlen
        obtain ⟨fs, f1, f2, f3⟩ := O.fit
        have hfm : b.name ∈ fs.map (·.name) := f2.mem_iff.mpr (List.mem_map.mpr ⟨b, hb, rfl⟩)
        obtain ⟨f, hf, ef⟩ := List.mem_map.mp hfm
        have fn : ((fitK fs).map (·.1)).Nodup := by rw [keys_fit]; exact inr_nd (f2.nodup_iff.mpr o.hS.nm.nd)
        have hfv : valV (fitK fs) (Sum.inr b.name) = some (.ref f.at_) := by rw [← ef]; exact val_nodup fn (Sum.inr f.name, V.ref f.at_) (List.mem_map.mpr ⟨f, hf, rfl⟩)
        have fo := f3 f hf
        obtain ⟨b', hb', eb1, eb2, te, he, ee1, ee2⟩ := fo.svc
        have : b' = b := name_uniq o.hS.nm.nd hb' hb (eb1.trans ef)
        subst this
        have gr := fo.grp.same s1
        refine ⟨_, rfl, p, _, dx, _, _, rfl, s1 _ _ O.ob, T.cl_48, T.no_48__fitting, fldt_f _ _ _, _, rfl, Fi, _, rfl, (f1.same s1).at_ fn hfv, f.at_, rfl, .inr ⟨_, .inl gr.dic⟩, _, rfl, Nat.zero_le _, fun e0 he0 => ?_⟩
        have se := same_upd (o := .lst []) he0
        have gr2 := gr.same se
        refine ⟨_, DGet.t (k := r) gr2.dic (se _ _ (s1 _ _ hg)), ?_⟩
        have fin : ∀ (l : Addr) (L : List (Addr × RowK)) (H2 : Hp), Same H H2 → H2 l = some (.lst (L.map fun y => V.ref y.1)) → RowsAt H2 L → L.map (·.2) = fitR b'.cols r te.2.2 → ∃ p ys, [V.ref l] = [.ref p] ∧ (SqL K H2 p ys ∨ SqT K H2 p ys) ∧ ∀ q, H2 q = none → Q (.ref q) (upd H2 q (.lst ys)) := fun l L H2 s2 hl hL eL => by
          refine ⟨l, _, rfl, .inl (.of hl), fun q hq => ?_⟩
          have sq := same_upd (o := .lst (L.map fun y => V.ref y.1)) hq
          exact qb r rfl hr2 (by omega) te he ee1 q _ L (s2.free hq) upd_same (hL.same sq) eL (s2.trans sq)
        by_cases hm : r ∈ f.gs.map (·.1)
        · obtain ⟨z, hz, rfl⟩ := List.mem_map.mp hm
          rw [valV_grp gr2.keys hz]
          refine fin z.2.1 z.2.2 _ (s1.trans se) (gr2.lst z hz) (fun y hy => ?_) ?_
          · rw [gr2.val z hz] at hy
            exact se _ _ (s1 _ _ (fo.rows y (List.mem_filter.mp hy).1))
          · rw [gr2.val z hz, fitR_map, ee2, eb2]
        · rw [bl_valR hm]
          refine fin e0 [] _ (s1.trans se) upd_same (fun b hb => by cases hb) ?_
          rw [← ee2]
          unfold fitR
          rw [List.map_nil]
          refine (List.filter_eq_nil_iff.mpr fun u hu z => ?_).symm
          obtain ⟨y, hy, rfl⟩ := List.mem_map.mp hu
          refine hm ?_
          rw [← of_decide_eq_true z, eb2]
          exact gr2.all y hy
    · refine q1 fun hm => ?_
      obtain ⟨y, hy, rfl⟩ := List.mem_map.mp hm
      have h4 := val_nodup (sv_nd o.hS) (Sum.inr y.name, V.ref y.at_) (List.mem_map.mpr ⟨y, hy, rfl⟩)
      rw [show valV (svK ss) (Sum.inr y.name) = none from hn] at h4
      cases h4
end
/-! ### the law's own helpers -/
/-- what a call's values may be -/
inductive Odd (H : Hp) : V → Prop
  | int (i : Int) : Odd H (.int i)
  | bl (b : Bool) : Odd H (.bl b)
  | non : Odd H .non
  | str (s : Str) (h : s.length ≤ 1000) (hc : ∀ c ∈ s.cps.toList, c < 128) : Odd H (.str s)
  | one {a : Addr} (e : H a = some (.tup [.int 1])) : Odd H (.ref a)
theorem Odd.mono {H H' : Hp} {v : V} (h : Odd H v) (k : ∀ b xs, H b = some (.tup xs) → H' b = some (.tup xs)) : Odd H' v := by
  cases h with
  | int i => exact .int i
  | bl b => exact .bl b
  | non => exact .non
  | str s h hc => exact .str s h hc
  | one e => exact .one (k _ _ e)
theorem Odd.thg {H : Hp} {v : V} (h : Odd H v) : Thg H v := by
  cases h with
  | int i => exact .int i
  | bl b => exact .bl b
  | non => exact .non
  | str s h hc => exact .str s h hc
  | one e => exact .tup e
theorem Odd.dat {H : Hp} {v : V} (h : Odd H v) : ∃ d : PyData, (∀ K : PySem.W.Frag, Dp K H v d) ∧ d.canLay0 = true ∧ d.depth ≤ 1 := by
  cases h with
  | int i => exact ⟨.int i, fun _ => .int _, by simp [PyData.canLay0], by simp [PyData.depth]⟩
  | bl b => exact ⟨.bool b, fun _ => .bl _, by simp [PyData.canLay0], by simp [PyData.depth]⟩
  | non => exact ⟨.none, fun _ => .non, by simp [PyData.canLay0], by simp [PyData.depth]⟩
  | str s h hc => exact ⟨.str s, fun _ => .str _, by have := low_ok hc; simp [PyData.canLay0, this], by simp [PyData.depth]⟩
  | one e => exact ⟨.tuple [.int 1], fun _ => .tup (.of e) (.cons (.int _) .nil), by simp [PyData.canLay0, PyData.canLayAll0], by simp [PyData.depth, PyData.depthAll]⟩
theorem odds_dat {H : Hp} : ∀ {xs : List V}, (∀ x ∈ xs, Odd H x) → ∃ ds : List PyData, (∀ K : PySem.W.Frag, DpAll K H xs ds) ∧ PyData.canLayAll0 ds = true ∧ PyData.depthAll ds ≤ 1 ∧ ds.isEmpty = xs.isEmpty
  | [], _ => ⟨[], fun _ => .nil, by simp [PyData.canLayAll0], by simp [PyData.depthAll], rfl⟩
  | x :: xs, h => by
    obtain ⟨d, d1, d2, d3⟩ := (h x List.mem_cons_self).dat
    obtain ⟨ds, e1, e2, e3, _⟩ := odds_dat fun y hy => h y (List.mem_cons_of_mem _ hy)
    exact ⟨d :: ds, fun K => .cons (d1 K) (e1 K), by simp [PyData.canLayAll0, d2, e2], by simp only [PyData.depthAll]; omega, rfl⟩
theorem odds_shaped {ds : List PyData} (h1 : PyData.canLayAll0 ds = true) (h2 : PyData.depthAll ds ≤ 1) : SeqAt.shaped (.list ds) = true := by
  unfold SeqAt.shaped
  simp only [PyData.canLay0, PyData.depth, h1, Bool.true_and]
  exact decide_eq_true (by omega)
theorem odd_key {H : Hp} {k : Key} (h : KVal k) : Odd H (kV k) := by
  cases k with
  | inl i => exact .int i
  | inr s => exact .str s (by have := h.2.1; omega) fun c hc => by have := (h.2.2 c hc).2; omega
/-- the rows of the tables, as the law holds them -/
structure RwsAt (H : Hp) (rA : Addr) (ts : List (Str × Int)) (ks : List KeyE) (es : List RwE) : Prop where
  dct : H rA = some (.dK (rwK es))
  nm : (es.map (·.name)).Nodup
  sub : ∀ b ∈ es, RwAt H b ∧ b.rows.length ≤ 400 ∧ ∃ w, (b.name, w) ∈ ts ∧ RowsOk w (markOf ks b.name) (b.rows.map (·.2))
theorem RwsAt.same {H H' : Hp} {rA : Addr} {ts : List (Str × Int)} {ks : List KeyE} {es : List RwE} (h : RwsAt H rA ts ks es) (s : Same H H') : RwsAt H' rA ts ks es := ⟨s _ _ h.dct, h.nm, fun b hb => ⟨(h.sub b hb).1.same s, (h.sub b hb).2⟩⟩
theorem rows_of {H : Hp} {rA : Addr} {ts : List (Str × Int)} {ks : List KeyE} {es : List RwE} {m : Nat} (h : RwsAt H rA ts ks es) (hT : Tabs ts m 4) {n : Str} {e : Addr} (he : H e = some (.lst [])) : ∃ (l0 : Addr) (L0 : List (Addr × RowK)), (valV (rwK es) (Sum.inr n)).getD (.ref e) = V.ref l0 ∧ L0.map (·.2) = rowsOf es n ∧ H l0 = some (.lst (L0.map fun x => V.ref x.1)) ∧ RowsAt H L0 ∧ (∀ y ∈ L0, (∀ k ∈ y.2, KOk k) ∧ y.2.length ≤ 100) ∧ L0.length ≤ 400 ∧ ∀ w, (n, w) ∈ ts → ∀ y ∈ L0, (y.2.length : Int) = w := by
  by_cases hm : n ∈ es.map (·.name)
  · obtain ⟨c, hc, rfl⟩ := List.mem_map.mp hm
    obtain ⟨c1, c2, w, c3, c4⟩ := h.sub c hc
    have hw := hT.wd _ c3
    refine ⟨c.at_, c.rows, by rw [rw_val h.nm hc]; rfl, (rowsOf_at h.nm hc).symm, c1.lst, c1.rows, fun y hy => ?_, c2, fun w' hw' y hy => ?_⟩
    · obtain ⟨d1, d2⟩ := c4.wid y.2 (List.mem_map.mpr ⟨y, hy, rfl⟩)
      exact ⟨fun k hk => (d2 k hk).ok, by omega⟩
    · obtain ⟨d1, d2⟩ := c4.wid y.2 (List.mem_map.mpr ⟨y, hy, rfl⟩)
      rw [d1, ← widthAt_mem hT.nm.nd c3, ← widthAt_mem hT.nm.nd hw']
  · exact ⟨e, [], by rw [rw_no hm]; rfl, (rowsOf_no hm).symm, he, (fun b hb => by cases hb), (fun b hb => by cases hb), Nat.zero_le _, fun _ _ y hy => by cases hy⟩
section
variable {P : Program} {w : World} {K : PySem.W.Frag} {mg : Str → Option Value} {base : Heap} {a : Nat → Addr} {d : Nat → FuncData}
def spLFit : Sp := fun vs H Q _ => ∃ (sA rA g : Addr) (n : Str) (r : RowK) (ts : List (Str × Int)) (ks : List KeyE) (ss : List SvE) (m : Nat) (es : List RwE) (b : SvE), vs = [.ref sA, .ref rA, .str n, .ref g] ∧ H sA = some (.dK (svK ss)) ∧ (ss.map (·.name)).Nodup ∧ b ∈ ss ∧ b.name = n ∧ SvOk H ts b ∧ Tabs ts m 4 ∧ RwsAt H rA ts ks es ∧
  RowAt H g r ∧ (∀ k ∈ r, KOk k) ∧ r.length ≤ 100 ∧ ∀ (us : List RowK) (q : Addr) (H' : Hp) (L : List (Addr × RowK)), Srt us (rowsOf es b.tab) → (∀ u ∈ us, ∀ k ∈ u, KOk k) → H' q = some (.lst (L.map fun y => V.ref y.1)) → RowsAt H' L → L.map (·.2) = fitR b.cols r us → Same H H' → Q (.ref q) H'
theorem ok_lfit (T : Txt K mg a d) : FnOk P w K mg base CX0 5 (a 69) (d 69) ["_law_services_here", "_law_rows_here", "_law_service", "_law_values"] spLFit := by
  have G67 : FnOk P w K mg base CX0 4 (a 67) (d 67) ["_law_rows_here"] spLSorted := ok_lsorted T
  refine T.F69.ok sc__law_fitting (fun vs H Q E h => ?_) (fun cdv A outer s H vs Q E hr h => ?_)
  · obtain ⟨sA, rA, g, n, r, ts, ks, ss, m, es, b, rfl, _⟩ := h
    rfl
  · obtain ⟨sA, rA, g, n, r, ts, ks, ss, m, es, b, rfl, hs, snd, hb, rfl, sok, hT, hR, hg, hgk, hgl, q⟩ := h
    obtain ⟨wb, w1, w2, w3⟩ := sok.ok
    have hv : valV (svK ss) (Sum.inr b.name) = some (.ref b.at_) := val_nodup (by rw [keys_sv]; exact inr_nd snd) (Sum.inr b.name, V.ref b.at_) (List.mem_map.mpr ⟨b, hb, rfl⟩)
    refine ⟨_, (pss_cons (ps_asg (pe_dget (hu_of hr) (pv 0) (pv 2) (fun _ _ => rfl)) (pg_tup rfl (pgs_cons (pg_name (i := 4) sc__law_fitting.nd rfl (.inl rfl)) (pgs_cons (pg_name (i := 5) sc__law_fitting.nd rfl (.inl rfl)) (pgs_cons (pg_name (i := 6) sc__law_fitting.nd rfl (.inl rfl)) pgs_nil)))))
  (pss_cons (ps_set (i := 7) sc__law_fitting.nd rfl (.inl rfl) (pe_lst pa_nil))
  (pss_cons (ps_for PassesOwn.never rfl (pi_list (pe_call G67 (hr.mono (by decide)) (by rfl) T.g67 T.F67.kp T.b67 .nil pass0 (pa_cons (pe_dget2 (hu_of hr) (pv 1) (pv 4) (pe_lst pa_nil) ⟨rfl, rfl, rfl, rfl⟩) pa_nil))) (pg_name (i := 8) sc__law_fitting.nd rfl (.inr rfl))
    (pss_one (ps_if (pt_cmpR (op_eqD (hu_of64 hr)) (pe_callTy (T := "tuple")  call_tuple_of (by rfl) T.z_tuple (by decide +kernel) (pa_cons (pe_lc (own := [("_law_at", 9)]) rfl sc__law_fitting.nd (pi_tup (pv 5)) (blkOk_by (N := ["_law_services_here", "_law_rows_here", "_law_service", "_law_values", "_law_table", "_law_given", "_law_cap", "_law_found", "_law_row", "_law_at"]) (sc := defScope s__law_fitting) (by decide +kernel)) (fun _ _ _ _ _ => pg_name (i := 9) sc__law_fitting.nd rfl (.inl rfl)) (fun _ _ _ _ _ => pts_nil) (fun _ _ _ _ _ => (pe_ix (r := rIxT K) ix_tup (pv 8) (pv 9) (fun _ _ => rfl)))) pa_nil)) (pv 3) (nomark _))
        (pss_one (ps_expr (pe_bm PySem.F.plainAttrs_list PySem.F.slot_list_append PySem.F.type_list_append mt_append (pv 7) (pa_cons (pv 8) pa_nil))))
        pss_nil)))
  (pss_one (ps_ret (pv 7)))))), ?_⟩
    refine ⟨_, rfl, _, rfl, sA, _, rfl, (DctAt.of hs).at_ (by rw [keys_sv]; exact inr_nd snd) hv, b.at_, _, rfl, .of sok.told.tup, rfl, _, _, rfl, _, _, rfl, _, _, rfl, rfl, ?_⟩
    refine ⟨Nat.zero_le _, fun F hF => ?_⟩
    have sF := same_upd (o := .lst []) hF
    refine ⟨_, rfl, rA, rfl, .inl ⟨_, .inl (sF _ _ hR.dct)⟩, _, rfl, Nat.zero_le _, fun e he => ?_⟩
    have s2 := sF.trans (same_upd (o := .lst []) he)
    have hF2 : (upd (upd H F (.lst [])) e (.lst [])) F = some (.lst []) := same_upd he _ _ upd_same
    have he2 : (upd (upd H F (.lst [])) e (.lst [])) e = some (.lst []) := upd_same
    generalize upd (upd H F (.lst [])) e (.lst []) = H2 at s2 hF2 he2 ⊢
    refine ⟨_, (DctAt.of (s2 _ _ hR.dct)).get (rw_nd hR.nm) (Sum.inr b.tab), ?_⟩
    obtain ⟨l0, L0, ev, u1, ul, ur, u3, u4, u5⟩ := rows_of (hR.same s2) hT (n := b.tab) he2
    rw [ev]
    refine ⟨l0, L0, rfl, ul, ur, u3, by omega, fun q' H3 L' hq s3 hl hL hS => ⟨q', rfl, ⟨_, .of hl⟩, ?_⟩⟩
    rw [u1] at hS
    have s23 := s2.trans s3
    have hF3 := s3 _ _ hF2
    have nFq : q' ≠ F := fun e => by rw [e, hF2] at hq; cases hq
    have hmem : ∀ y ∈ L', (y.2.length : Int) = wb ∧ ∀ k ∈ y.2, KOk k := fun y hy => by
      have h1 := (hS.all y.2).mp (List.mem_map.mpr ⟨y, hy, rfl⟩)
      rw [← u1] at h1
      obtain ⟨z, hz, ez⟩ := List.mem_map.mp h1
      rw [← ez]
      exact ⟨u5 wb w1 z hz, (u3 z hz).1⟩
    have hl400 : L'.length ≤ 400 := by
      have h1 := hS.len
      rw [← u1, List.length_map] at h1
      omega
    refine for_list (K := K) (a := q') (xs := L'.map fun y => V.ref y.1) (fun i σ H' => ∃ (y8 y9 : Option V), σ = [some (.ref sA), some (.ref rA), some (.str b.name), some (.ref g), some (.str b.tab), some (.ref b.ga), some (capV b.cap), some (.ref F), y8, y9] ∧ H' F = some (.lst (((L'.take i).filter fun y => decide (projR b.cols y.2 = r)).map fun y => V.ref y.1)) ∧ H' q' = some (.lst (L'.map fun y => V.ref y.1)) ∧ RowsAt H' L' ∧ Same H H') ⟨none, none, rfl, hF3, hl, hL, s23⟩ (fun i σ H' _ hp => ?_) (fun i y σ H' hy hp => ?_) (fun σ H' hp => ?_)
    · obtain ⟨_, _, rfl, _, h, _⟩ := hp
      exact .of h
    · obtain ⟨y8, y9, rfl, hF', hq', hL', s'⟩ := hp
      obtain ⟨z, hz, rfl⟩ := map_at hy
      have hzm := List.mem_of_getElem? hz
      obtain ⟨z1, z2⟩ := hmem z hzm
      have li : i < L'.length := (List.getElem?_eq_some_iff.mp hz).1
      have hc' := s' _ _ sok.told.cols
      have hz' := hL' z hzm
      refine ⟨_, rfl, b.ga, rfl, ⟨_, .of hc'⟩, fun D hD => ?_⟩
      refine lc_tup (K := K) (a := b.ga) (xs := b.cols.map V.int) (fun j H2 => H2 D = some (.lst ((projR (b.cols.take j) z.2).map kV)) ∧ Same H' H2) ⟨upd_same, same_upd hD⟩ (fun j H2 _ hp => .of (hp.2 _ _ hc')) (fun j x H2 hx h => ?_) (fun H2 h => ?_)
      · obtain ⟨c, hc, rfl⟩ := map_at hx
        have hcm := w2.2 c (List.mem_of_getElem? hc)
        have hj : j < b.cols.length := (List.getElem?_eq_some_iff.mp hc).1
        refine ⟨rfl, _, rfl, _, rfl, z.1, _, c, _, rfl, rfl, .of (h.2 _ _ hz'), getD_at hcm.1 (by omega), _, h.1, ?_, ?_, fun x o e => ?_⟩
        · unfold projR
          rw [List.length_map, List.length_map, List.length_take]
          exact small1000 (by omega)
        · rw [projR_snoc hc, List.map_append]
          exact upd_same
        · rw [upd_ne (ne_of_none e hD)]
          exact h.2 x o e
      · obtain ⟨h1, h2⟩ := h
        rw [List.length_map, List.take_length] at h1
        refine ⟨D, _, rfl, .inl ⟨.of h1, fun t ht => ?_⟩⟩
        have s4 := h2.trans (same_upd (o := .tup ((projR b.cols z.2).map kV)) ht)
        have pk : ∀ k ∈ projR b.cols z.2, KOk k := projR_ok z2 (fun c hc => w2.2 c hc) z1
        have ht4 : (upd H2 t (.tup ((projR b.cols z.2).map kV))) t = some (.tup ((projR b.cols z.2).map kV)) := upd_same
        generalize upd H2 t (.tup ((projR b.cols z.2).map kV)) = H4 at s4 ht4 ⊢
        refine ⟨_, rfl, tupD (projR b.cols z.2), tupD r, dp_tup ht4, dp_tup ((s'.trans s4) _ _ hg), tup_shaped pk, tup_shaped hgk, _, rfl, ?_⟩
        rw [eqv_tup]
        have fs : (L'.take (i + 1)).filter (fun y => decide (projR b.cols y.2 = r)) = (L'.take i).filter (fun y => decide (projR b.cols y.2 = r)) ++ [z].filter (fun y => decide (projR b.cols y.2 = r)) := by
          rw [List.take_add_one, hz, List.filter_append]
          rfl
        refine ite_d (fun e => ?_) (fun e => ?_)
        · have hF4 := s4 _ _ hF'
          refine ⟨_, rfl, .inl ⟨rfl, _, .of hF4⟩, _, rfl, F, _, _, rfl, rfl, hF4, ?_, _, _, rfl, ?_, ?_, fun y hy => ?_, fun c o e' => ?_⟩
          · rw [List.length_map]
            have h4 := List.length_filter_le (fun y => decide (projR b.cols y.2 = r)) (L'.take i)
            rw [List.length_take] at h4
            exact small1000 (by omega)
          · rw [fs, filt1 (b := z) (p := fun y : Addr × RowK => decide (projR b.cols y.2 = r)) (decide_eq_true e), List.map_append]
            exact upd_same
          · rw [upd_ne nFq]
            exact s4 _ _ hq'
          · exact upd_tup hF4 (by intro _ z; cases z) _ _ (s4 _ _ (hL' y hy))
          · rw [upd_ne (ne_of_none e' hF)]
            exact s4 _ _ (s' _ _ e')
        · refine ⟨_, _, rfl, ?_, s4 _ _ hq', hL'.same s4, s'.trans s4⟩
          rw [fs, filt0 (b := z) (p := fun y : Addr × RowK => decide (projR b.cols y.2 = r)) (decide_eq_false e), List.append_nil]
          exact s4 _ _ hF'
    · obtain ⟨y8, y9, rfl, hF', hq', hL', s'⟩ := hp
      rw [List.length_map, List.take_length] at hF'
      refine ⟨_, rfl, q (L'.map (·.2)) F H' _ hS.srt (fun u hu => ?_) hF' (fun y hy => hL' y (List.mem_filter.mp hy).1) (fitR_map _ _ _) s'⟩
      obtain ⟨y, hy, rfl⟩ := List.mem_map.mp hu
      exact (hmem y hy).2
end
/-! ### calls as keys, their order -/
def callD (k : CK) : PyData := .tuple [.str k.1, rowD k.2]
def ckR (k : CK) : RowK := .inr k.1 :: k.2
def tokC : PyData → List (Int ⊕ List Nat)
  | .tuple [.str s, .tuple ps] => .inr s.cps.toList :: ps.map tokP
  | _ => []
theorem tokC_call (k : CK) : tokC (callD k) = toks (ckR k) := by
  show Sum.inr k.1.cps.toList :: (k.2.map pairD).map tokP = item (.inr k.1) :: k.2.map item
  rw [List.map_map]
  congr 1
  exact List.map_congr_left fun k _ => tokP_pair k
theorem eqv_str (s t : Str) : PyData.eqv (.str s) (.str t) = decide (s = t) := by
  simp [PyData.eqv]
  exact Bool.eq_iff_iff.mpr (by simp)
theorem eqv_rowD : ∀ r t : RowK, PyData.eqv (rowD r) (rowD t) = decide (r = t) := by
  intro r t
  have h : ∀ r t : RowK, PyData.eqvAll (r.map pairD) (t.map pairD) = decide (r = t) := by
    intro r
    induction r with
    | nil => intro t; cases t <;> simp [PyData.eqvAll]
    | cons x r ih =>
      intro t
      cases t with
      | nil => simp [PyData.eqvAll]
      | cons y t =>
        simp only [List.map_cons, PyData.eqvAll, eqv_pair, ih]
        by_cases e : x = y <;> by_cases e2 : r = t <;> simp [e, e2]
  show PyData.eqv (.tuple (r.map pairD)) (.tuple (t.map pairD)) = _
  simp only [PyData.eqv]
  exact h r t
theorem okLt_call (k l : CK) : SK.okLt (callD k) (callD l) = true := by
  show SK.okLt (.tuple [.str k.1, .tuple (k.2.map pairD)]) (.tuple [.str l.1, .tuple (l.2.map pairD)]) = true
  have h := eqv_rowD k.2 l.2
  have h' : PyData.eqv (.tuple (k.2.map pairD)) (.tuple (l.2.map pairD)) = decide (k.2 = l.2) := h
  simp only [SK.okLt, SK.okAll, eqv_str, h']
  by_cases e : k.1 = l.1
  · by_cases e2 : k.2 = l.2
    · simp [e, e2]
    · simp [e, e2, ok_rows]
  · simp [e]
theorem ltD_call (k l : CK) : SK.ltD (callD k) (callD l) = rowLt (ckR k) (ckR l) := by
  show SK.ltD (.tuple [.str k.1, .tuple (k.2.map pairD)]) (.tuple [.str l.1, .tuple (l.2.map pairD)]) = _
  have h' : PyData.eqv (.tuple (k.2.map pairD)) (.tuple (l.2.map pairD)) = decide (k.2 = l.2) := eqv_rowD k.2 l.2
  unfold ckR
  rw [rowLt_cons]
  simp only [SK.ltD, SK.ltAll, eqv_str, h']
  by_cases e : k.1 = l.1
  · rw [e]
    by_cases e2 : k.2 = l.2
    · simp [e2, rowLt_irrefl]
    · simp [e2, lt_rows]
  · have e' : ¬ (Sum.inr k.1 : Key) = Sum.inr l.1 := fun z => e (Sum.inr.inj z)
    rw [if_neg e']
    simp only [e, decide_false, Bool.false_eq_true, if_false]
    simp [item, PyProof.Rows.itemLt, PyProof.Rows.strKind]
def CkOk (k : CK) : Prop := PyData.strOk k.1 = true ∧ (∀ x ∈ k.2, KOk x) ∧ k.2.length ≤ 100
theorem lay_call {k : CK} (h : CkOk k) : (callD k).canLay0 = true := by
  show PyData.canLay0 (.tuple [.str k.1, .tuple (k.2.map pairD)]) = true
  simp only [PyData.canLay0, PyData.canLayAll0, h.1, lay_pairs h.2.1, Bool.and_self]
theorem callD_depth (k : CK) : (callD k).depth ≤ 3 := by
  have := rowD_depth k.2
  show PyData.depthAll [.str k.1, rowD k.2] + 1 ≤ 3
  simp only [PyData.depthAll, PyData.depth]
  omega
theorem keys_calls (ks : List CK) (h : ∀ k ∈ ks, CkOk k) : SK.Keys (ks.map callD) tokC where
  lay d hd := by
    obtain ⟨r, hr, rfl⟩ := List.mem_map.mp hd
    exact lay_call (h r hr)
  tup d hd := by
    obtain ⟨r, hr, rfl⟩ := List.mem_map.mp hd
    exact ⟨_, rfl⟩
  ok d hd d' hd' := by
    obtain ⟨r, hr, rfl⟩ := List.mem_map.mp hd
    obtain ⟨t, ht, rfl⟩ := List.mem_map.mp hd'
    exact okLt_call r t
  lt d hd d' hd' := by
    obtain ⟨r, hr, rfl⟩ := List.mem_map.mp hd
    obtain ⟨t, ht, rfl⟩ := List.mem_map.mp hd'
    rw [tokC_call, tokC_call]
    exact ltD_call r t
  ty x r y t hx hy := by
    obtain ⟨a, ha, ea⟩ := List.mem_map.mp hx
    obtain ⟨b, hb, eb⟩ := List.mem_map.mp hy
    injection ea with ea
    injection eb with eb
    injection ea with ea _
    injection eb with eb _
    subst ea eb
    rfl
/-- the calls in the order of their keys -/
theorem byKey_calls (L : List (Addr × CK)) : ∃ L' : List (Addr × CK), SK.byKey tokC (L.map fun b => V.ref b.1) (L.map fun b => callD b.2) = L'.map (fun b => V.ref b.1) ∧ L'.Perm L ∧ L'.Pairwise fun a b => rowLt (ckR b.2) (ckR a.2) = false := by
  refine ⟨L.mergeSort fun a b => !rowLt (ckR b.2) (ckR a.2), ?_, List.mergeSort_perm _ _, ?_⟩
  · unfold SK.byKey
    rw [List.zip_map', ← List.map_mergeSort (r := fun a b : Addr × CK => !rowLt (ckR b.2) (ckR a.2)) (f := fun b : Addr × CK => ((V.ref b.1, callD b.2) : V × PyData)), List.map_map]
    · rfl
    · intro a _ b _
      show _ = (!(PyProof.Rows.listOrd PyProof.Rows.itemOrd).blt (tokC (callD b.2)) (tokC (callD a.2)))
      rw [tokC_call, tokC_call]
      rfl
  · refine (List.pairwise_mergeSort (le := fun a b : Addr × CK => !rowLt (ckR b.2) (ckR a.2)) (fun a b c x y => ?_) (fun a b => ?_) L).imp fun {a b} h => by simpa using h
    · simp only [Bool.not_eq_true'] at x y ⊢
      cases h3 : rowLt (ckR c.2) (ckR a.2) with
      | false => rfl
      | true => rcases rowLt_neg (b := ckR b.2) h3 with h | h
                · rw [y] at h
                  cases h
                · rw [x] at h
                  cases h
    · cases h3 : rowLt (ckR b.2) (ckR a.2) with
      | false => rfl
      | true =>
        have h4 : rowLt (ckR a.2) (ckR b.2) = false := by
          cases h5 : rowLt (ckR a.2) (ckR b.2) with
          | false => rfl
          | true =>
            have := rowLt_trans h3 h5
            rw [rowLt_irrefl] at this
            cases this
        rw [h4]
        rfl
section
variable {P : Program} {w : World} {K : PySem.W.Frag} {mg : Str → Option Value} {base : Heap} {a : Nat → Addr} {d : Nat → FuncData}
def spCKey : Sp := fun vs H Q _ => ∃ (b : Addr) (k : CK), vs = [.ref b] ∧ CkAt H b k ∧ k.2.length ≤ 100 ∧ ∀ (v : V) (H' : Hp), (∀ K : PySem.W.Frag, Dp K H' v (callD k)) → Same H H' → Q v H'
theorem ok_ckey (T : Txt K mg a d) : FnOk P w K mg base CX0 2 (a 24) (d 24) ["call"] spCKey := by
  have G18 : FnOk P w K mg base CX0 1 (a 18) (d 18) ["row"] spRK := ok_row_key T
  refine T.F24.ok sc__call_key (fun vs H Q E h => ?_) (fun cdv A outer s H vs Q E hr h => ?_)
  · obtain ⟨b, k, rfl, _⟩ := h
    rfl
  · obtain ⟨b, k, rfl, ⟨c, h1, h2⟩, hl, q⟩ := h
    refine ⟨_, (pss_cons (ps_asg (pv 0) (pg_tup rfl (pgs_cons (pg_name (i := 1) sc__call_key.nd rfl (.inl rfl)) (pgs_cons (pg_name (i := 2) sc__call_key.nd rfl (.inl rfl)) pgs_nil))))
  (pss_one (ps_ret (pe_tup (pa_cons (pv 1) (pa_cons (pe_call G18 (hr.mono (by decide)) (by rfl) T.g18 T.F18.kp T.b18 .nil pass0 (pa_cons (pv 2) pa_nil)) pa_nil)))))), ?_⟩
    refine ⟨_, rfl, b, _, rfl, .of h1, rfl, _, _, rfl, _, _, rfl, rfl, ?_⟩
    refine ⟨_, rfl, _, rfl, c, k.2, rfl, h2, hl, fun K' v H1 dp s1 => ⟨by show 2 ≤ sizeLine; decide, fun t ht => ?_⟩⟩
    have st := same_upd (o := .tup [.str k.1, v]) ht
    exact q _ _ (fun K => .tup (.of upd_same) (.cons (.str _) (.cons (SK.dp_same st _ _ (dp K)) .nil))) (s1.trans st)
end
/-! ### how many rows an answer has; a right answer -/
def capN : Option Int → Nat → Nat
  | none, n => n
  | some c, n => min c.toNat n
theorem capN_le (c : Option Int) (n : Nat) : capN c n ≤ n := by
  cases c with
  | none => exact Nat.le_refl _
  | some c => exact Nat.min_le_right _ _
theorem capN_int {c : Int} (n : Nat) (h : 1 ≤ c) : (if (n : Int) < c then (n : Int) else c) = ((capN (some c) n : Nat) : Int) := by
  show _ = ((min c.toNat n : Nat) : Int)
  by_cases e : (n : Int) < c
  · rw [if_pos e, Nat.min_eq_right (by omega)]
  · rw [if_neg e, Nat.min_eq_left (by omega)]
    omega
section
variable {P : Program} {w : World} {K : PySem.W.Frag} {mg : Str → Option Value} {base : Heap} {a : Nat → Addr} {d : Nat → FuncData}
def spASize (C CS : Addr) : Sp := fun vs H Q _ => ∃ (p dx x R Fi l : Addr) (n : Str) (xs : List V) (ts : List (Str × Int)) (ks : List KeyE) (ss : List SvE) (mt ms : Nat) (es : List TabE) (b : SvE), vs = [.ref p, .str n, .ref l] ∧ StO C CS p dx x R Fi H ts ks ss mt ms es ∧ b ∈ ss ∧ b.name = n ∧ H l = some (.lst xs) ∧ Q (.int (capN b.cap xs.length : Nat)) H
theorem ok_asize (T : Txt K mg a d) : FnOk P w K mg base (L2.CX P w) 5 (a 21) (d 21) ["store", "service", "rows"] (spASize (a 42) (a 48)) := by
  have G5210 : FnOk P w K mg base (L2.CX P w) 4 (a 5210) (d 5210) ["self", "name"] (spAsk (a 42) (a 3) (fun _ _ ss n => valV (svK ss) (Sum.inr n)) (fun _ _ ss n => valV (svK ss) (Sum.inr n))) := ok_service_of T
  refine T.F21.okX sc__answer_size (fun vs H Q E h => ?_) (fun cdv A outer s H vs Q E hr h => ?_)
  · obtain ⟨p, dx, x, R, Fi, l, n, xs, ts, ks, ss, mt, ms, es, b, rfl, _⟩ := h
    rfl
  · obtain ⟨p, dx, x, R, Fi, l, n, xs, ts, ks, ss, mt, ms, es, b, rfl, O, hb, rfl, hl, q⟩ := h
    obtain ⟨xd, d1, d2, d3, o⟩ := id O.sch
    have h4 := val_nodup (sv_nd o.hS) (Sum.inr b.name, V.ref b.at_) (List.mem_map.mpr ⟨b, hb, rfl⟩)
    refine ⟨_, (pss_cons (ps_set (i := 3) sc__answer_size.nd rfl (.inl rfl) (pe_ix ix_tup (pe_meth (pe_fld (pv 0) rfl) T.cl_42 T.m_5210 G5210 (hr.mono (by decide)) T.b5210 .nil (passes_call (takes_of rfl rfl rfl rfl) (fun _ _ _ _ h => h)) (pa_cons (pv 1) pa_nil)) pe_int (fun _ _ => rfl)))
  (pss_one (ps_ret (pe_ifExp (pt_cmpR op_isN (pv 3) pe_non (nomark _)) (pe_callB (id := "len")  call_len_seq (by rfl) T.z_len (by decide +kernel) (pa_cons (pv 2) pa_nil)) (pe_callB (id := "min")  (call_min2 rfl) (by rfl) T.z_min (by decide +kernel) (pa_cons (pv 3) (pa_cons (pe_callB (id := "len")  call_len_seq (by rfl) T.z_len (by decide +kernel) (pa_cons (pv 2) pa_nil)) pa_nil))))))), ?_⟩
    refine ⟨_, rfl, p, _, dx, _, _, rfl, O.ob, T.cl_48, T.no_48_schema, fldt_s _ _ _, x, xd, _, rfl, o.ob, flds_no _ _ _ (by decide +kernel) (by decide +kernel) (by decide +kernel), _, rfl, x, b.name, ts, ks, ss, mt, ms, rfl, O.sch, fun v hv => ⟨_, hv, ?_⟩, fun hn => ?_⟩
    · have e2 : v = V.ref b.at_ := Option.some.inj ((show some v = valV (svK ss) (Sum.inr b.name) from hv.symm).trans h4)
      subst e2
      have sok := o.hS.ok b hb
      refine ⟨_, _, _, _, rfl, rfl, .of sok.told.tup, atI_nat (j := 2) rfl, ?_⟩
      refine ⟨_, rfl, rfl, _, rfl, ?_⟩
      rw [capV_none]
      have hcap := sok.cap
      cases ec : b.cap with
      | none =>
        refine ⟨_, rfl, l, _, rfl, .inl (.of hl), ?_⟩
        rw [ec] at q
        exact q
      | some c =>
        refine ⟨_, rfl, _, rfl, l, _, rfl, .inl (.of hl), _, _, rfl, ?_⟩
        rw [capN_int _ (hcap c ec).1]
        rw [ec] at q
        exact q
    · rw [show valV (svK ss) (Sum.inr b.name) = none from hn] at h4
      cases h4
/-- the rows of an answer: in any order, each once, of the rows that fit, as many as the cap lets -/
structure AnsR (b : SvE) (fit : List RowK) (L : List RowK) : Prop where
  nd : L.Nodup
  sub : ∀ r ∈ L, r ∈ fit
  len : L.length = capN b.cap fit.length
theorem mem_eqv {us : List RowK} {r : RowK} : ((us.map tupD).any fun z => PyData.eqv z (tupD r)) = hasR us r := by
  unfold hasR
  rw [List.any_map]
  congr 1
  funext y
  show PyData.eqv (tupD y) (tupD r) = _
  rw [eqv_tup]
theorem sorted_len {L2 : List (Addr × RowK)} {rs : List RowK} (h : SortedRows L2 rs) (nd : rs.Nodup) : L2.length = rs.length := by
  have n2 : (L2.map (·.2)).Nodup := by
    refine List.pairwise_map.mpr (h.up.imp fun {a b} hab e => ?_)
    have e : a.2 = b.2 := e
    rw [e, rowLt_irrefl] at hab
    cases hab
  have := ((List.perm_ext_iff_of_nodup n2 nd).mpr fun r => h.all r).length_eq
  rw [List.length_map] at this
  exact this
def spIsAns (C CS : Addr) : Sp := fun vs H Q _ => ∃ (p dx x R Fi g l : Addr) (n : Str) (r : RowK) (ts : List (Str × Int)) (ks : List KeyE) (ss : List SvE) (mt ms : Nat) (es : List TabE) (b : SvE) (e : TabE) (L : List (Addr × RowK)), vs = [.ref p, .str n, .ref g, .ref l] ∧ StO C CS p dx x R Fi H ts ks ss mt ms es ∧ b ∈ ss ∧ b.name = n ∧ e ∈ es ∧ e.1 = b.tab ∧
  H g = some (.tup (r.map kV)) ∧ (∀ k ∈ r, KVal k) ∧ r.length = b.cols.length ∧ H l = some (.lst (L.map fun y => V.ref y.1)) ∧ RowsAt H L ∧ AnsR b (fitR b.cols r e.2.2) (L.map (·.2)) ∧ ∀ H', Same H H' → Q (.bl true) H'
theorem ok_isans (T : Txt K mg a d) : FnOk P w K mg base CX0 6 (a 22) (d 22) ["store", "service", "given", "rows"] (spIsAns (a 42) (a 48)) := by
  have G5808 : FnOk P w K mg base (L2.CX P w) 5 (a 5808) (d 5808) ["self", "service", "given"] (spFit (a 42) (a 48) (a 3) (a 8)) := ok_fitting T
  have G21 : FnOk P w K mg base (L2.CX P w) 5 (a 21) (d 21) ["store", "service", "rows"] (spASize (a 42) (a 48)) := ok_asize T
  have G19 : FnOk P w K mg base CX0 4 (a 19) (d 19) ["rows"] (spSR K) := ok_sorted_rows T
  refine T.F22.ok sc__is_answer (fun vs H Q E h => ?_) (fun cdv A outer s H vs Q E hr h => ?_)
  · obtain ⟨p, dx, x, R, Fi, g, l, n, r, ts, ks, ss, mt, ms, es, b, e, L, rfl, _⟩ := h
    rfl
  · obtain ⟨p, dx, x, R, Fi, g, l, n, r, ts, ks, ss, mt, ms, es, b, e, L, rfl, O, hb, rfl, he, ee, hg, hgk, hgl, hl, hL, hA, q⟩ := h
    obtain ⟨xd, d1, d2, d3, o⟩ := id O.sch
    have snd := sv_nd o.hS
    have hnl : r.length ≤ 100 := by
      obtain ⟨_, _, _, w3⟩ := (o.hS.ok b hb).ok
      omega
    obtain ⟨we, we1, we2⟩ := O.wid e he
    have hwk : ∀ u ∈ e.2.2, (∀ k ∈ u, KOk k) ∧ u.length ≤ 100 := fun u hu => ⟨fun k hk => ((we2 u hu).2 k hk).ok, by have := o.hT.wd _ we1; have := (we2 u hu).1; omega⟩
    have hfit : ∀ u ∈ fitR b.cols r e.2.2, u ∈ e.2.2 := fun u hu => (List.mem_filter.mp hu).1
    have hL500 : L.length ≤ 500 := by
      have h1 := hA.len
      rw [List.length_map] at h1
      have h2 := capN_le b.cap (fitR b.cols r e.2.2).length
      have h3 := List.length_filter_le (fun u => decide (projR b.cols u = r)) e.2.2
      have h4 := O.lens e he
      unfold fitR at h1 h2
      omega
    refine ⟨_, (pss_cons (ps_set (i := 4) sc__is_answer.nd rfl (.inr rfl) (pe_meth (pv 0) T.cl_48 T.m_5808 G5808 (hr.mono (by decide)) T.b5808 .nil (passN rfl) (pa_cons (pv 1) (pa_cons (pv 2) pa_nil))))
  (pss_cons (ps_if (PW.pt (pw_or (pt_not (pt_val (pe_callB (id := "isinstance")  call_isi (by rfl) T.z_isinstance (by decide +kernel) (pa_cons (pv 3) (pa_cons (pe_bltn (v := .ty "list") (by rfl) T.z_list (by decide +kernel) rfl) pa_nil))))) (pw_or1 (pt_cmpR op_ne (pe_callB (id := "len")  call_len_seq (by rfl) T.z_len (by decide +kernel) (pa_cons (pv 3) pa_nil)) (pe_call G21 (hr.mono (by decide)) (by rfl) T.g21 T.F21.kp T.b21 .nil (passN rfl) (pa_cons (pv 0) (pa_cons (pv 1) (pa_cons (pv 4) pa_nil)))) (nomark _)))))
    (pss_one (ps_ret pe_bl))
    pss_nil)
  (pss_one (ps_ret (pe_and (pe_callB (id := "all")  (cr_all rfl) (by rfl) T.z_all (by decide +kernel) (pa_cons (pe_lc (own := [("row", 5)]) rfl sc__is_answer.nd (pi_list (pv 3)) (blkOk_by (N := ["store", "service", "given", "rows", "fitting", "row"]) (sc := defScope s__is_answer) (by decide +kernel)) (fun _ _ _ _ _ => pg_name (i := 5) sc__is_answer.nd rfl (.inl rfl)) (fun _ _ _ _ _ => pts_nil) (fun _ _ _ _ _ => (pe_cmpR (r := rInD K) (op_inD (hu_of65 hr)) (pv 5) (pv 4) (by rfl)))) pa_nil)) (pe_one (pe_cmpR op_eq (pe_callB (id := "len")  call_len_seq (by rfl) T.z_len (by decide +kernel) (pa_cons (pe_call G19 (hr.mono (by decide)) (by rfl) T.g19 T.F19.kp T.b19 .nil pass0 (pa_cons (pv 3) pa_nil)) pa_nil)) (pe_callB (id := "len")  call_len_seq (by rfl) T.z_len (by decide +kernel) (pa_cons (pv 3) pa_nil)) (nomark _)))))))), ?_⟩
    refine ⟨_, rfl, p, dx, _, rfl, O.ob, fldt_no _ _ _ (by decide +kernel) (by decide +kernel) (by decide +kernel), _, rfl, _, rfl, p, dx, x, R, Fi, g, b.name, r.map kV, ts, ks, ss, mt, ms, es, rfl, O, hg, by rw [List.length_map]; exact hnl, fun y hy => ?_, fun hno => absurd (List.mem_map.mpr ⟨b, hb, rfl⟩) hno, fun b' hb' eb => ⟨fun hbad => ?_, fun r' hr1 hr2 hr3 e' he' ee' q1 H1 L1 hq1 hl1 hL1 eL1 s1 => ?_⟩⟩
    · obtain ⟨k, hk, rfl⟩ := List.mem_map.mp hy
      exact (odd_key (hgk k hk)).thg
    · obtain rfl := name_uniq o.hS.nm.nd hb' hb eb
      rw [good_row (by omega) hgk] at hbad
      cases hbad
    · obtain rfl := name_uniq o.hS.nm.nd hb' hb eb
      have er : r' = r := (kVs_inj hr1).symm
      subst er
      have ee2 : e' = e := tab_one O.rows.nd he he' (ee'.trans ee.symm)
      subst ee2
      refine ⟨_, rfl, _, _, _, _, _, rfl, .ty _, .base (.lst (s1 _ _ hl)), kit_ty (show kitB "list" "list" = some true by decide +kernel), true, rfl, ?_⟩
      refine ifF ?_
      refine ⟨_, rfl, l, _, rfl, .inl (.of (s1 _ _ hl)), ?_⟩
      refine ⟨_, rfl, _, rfl, _, rfl, p, dx, x, R, Fi, q1, b'.name, _, ts, ks, ss, mt, ms, es, b', rfl, O.same s1, hb', rfl, hl1, rfl, _, rfl, ?_⟩
      have hlen : L.length = capN b'.cap L1.length := by
        have h1 := hA.len
        rw [List.length_map, ← eL1, List.length_map] at h1
        exact h1
      rw [List.length_map, List.length_map, ← hlen, decide_eq_true rfl]
      refine ifF ?_
      have hl' := s1 _ _ hl
      have hL' := hL.same s1
      refine ⟨_, rfl, l, rfl, ⟨_, .of hl'⟩, fun D hD => ?_⟩
      refine lc_list (K := K) (a := l) (xs := L.map fun y => V.ref y.1) (fun i H' => H' D = some (.lst ((List.replicate i true).map V.bl)) ∧ Same H1 H') ⟨upd_same, same_upd hD⟩ (fun i H' _ hp => .of (hp.2 _ _ hl')) (fun i y H' hy hp => ?_) (fun H' hp => ?_)
      · obtain ⟨h1, h2⟩ := hp
        obtain ⟨z, hz, rfl⟩ := map_at hy
        have hzm := List.mem_of_getElem? hz
        have li : i < L.length := (List.getElem?_eq_some_iff.mp hz).1
        have hz2 : z.2 ∈ fitR b'.cols r' e'.2.2 := hA.sub _ (List.mem_map.mpr ⟨z, hzm, rfl⟩)
        refine ⟨rfl, _, rfl, _, rfl, tupD z.2, (L1.map (·.2)).map tupD, dp_tup (h2 _ _ (hL' z hzm)), .lst (.of (h2 _ _ hl1)) (dp_rows (hL1.same h2)), tup_shaped (hwk z.2 (hfit _ hz2)).1, ?_, ?_⟩
        · rw [eL1]
          exact tups_shaped fun u hu => (hwk u (hfit u hu)).1
        · rw [eL1, mem_eqv, hasR_iff.mpr hz2]
          refine ⟨_, h1, ?_, ?_, fun c o e => ?_⟩
          · rw [List.length_map, List.length_replicate]
            exact small1000 (by omega)
          · rw [List.replicate_succ', List.map_append]
            exact upd_same
          · rw [upd_ne (ne_of_none e hD)]
            exact h2 _ _ e
      · obtain ⟨h1, h2⟩ := hp
        rw [List.length_map] at h1
        refine ⟨D, List.replicate L.length true, rfl, .of h1, true, by rw [List.all_replicate]; simp, ?_⟩
        refine ⟨_, rfl, l, L, rfl, .of (h2 _ _ hl'), hL'.same h2, fun y hy => hwk y.2 (hfit _ (hA.sub _ (List.mem_map.mpr ⟨y, hy, rfl⟩))), by omega, fun q2 H2 L2 hq2 s2 hl2 hL2 hS2 => ⟨q2, _, rfl, .inl (.of hl2), _, rfl, l, _, rfl, .inl (.of (s2 _ _ (h2 _ _ hl'))), rfl, ?_⟩⟩
        have e2 : L2.length = L.length := by
          have := sorted_len hS2 hA.nd
          rw [List.length_map] at this
          exact this
        rw [List.length_map, List.length_map, e2, decide_eq_true rfl]
        exact q _ ((s1.trans h2).trans s2)
/-! ### a right choice is let through -/
theorem ok_chkc (T : Txt K mg a d) : FnOk P w K mg base CX0 7 (a 23) (d 23) ["store", "service", "given", "rows"] (fun vs H Q E => spIsAns (a 42) (a 48) vs H (fun v H' => v = .bl true ∧ Q .non H') E) := by
  have G22 : FnOk P w K mg base CX0 6 (a 22) (d 22) ["store", "service", "given", "rows"] (spIsAns (a 42) (a 48)) := ok_isans T
  refine T.F23.ok sc__check_choice (fun vs H Q E h => ?_) (fun cdv A outer s H vs Q E hr h => ?_)
  · obtain ⟨p, dx, x, R, Fi, g, l, n, r, ts, ks, ss, mt, ms, es, b, e, L, rfl, _⟩ := h
    rfl
  · obtain ⟨p, dx, x, R, Fi, g, l, n, r, ts, ks, ss, mt, ms, es, b, e, L, rfl, h1, h2, h3, h4, h5, h6, h7, h8, h9, h10, h11, q⟩ := h
    refine ⟨_, (pss_cons (ps_try_thru0 (pss_one (ps_set (i := 4) sc__check_choice.nd rfl (.inl rfl) (pe_call G22 (hr.mono (by decide)) (by rfl) T.g22 T.F22.kp T.b22 .nil pass0 (pa_cons (pv 0) (pa_cons (pv 1) (pa_cons (pv 2) (pa_cons (pv 3) pa_nil))))))))
  (pss_one (ps_if (pt_not (pt_val (pv 4)))
    (pss_one ps_never)
    pss_nil))), ?_⟩
    refine ⟨_, rfl, _, rfl, _, rfl, _, rfl, p, dx, x, R, Fi, g, l, n, r, ts, ks, ss, mt, ms, es, b, e, L, rfl, h1, h2, h3, h4, h5, h6, h7, h8, h9, h10, h11, fun H1 s1 => ?_⟩
    exact ⟨_, rfl, true, rfl, ifF (q H1 s1).2⟩
end
/-! ### the class Answers -/
structure ChE where
  svc : Str
  vals : RowK
  at_ : Addr
  rows : List (Addr × RowK)
def ChE.key (c : ChE) : CK := (c.svc, c.vals)
def chK (cs : List ChE) : List (CK × V) := cs.map fun c => (c.key, V.ref c.at_)
theorem ch_keys (cs : List ChE) : (chK cs).map (·.1) = cs.map ChE.key := by
  unfold chK
  rw [List.map_map]
  rfl
structure ChAt (H : Hp) (c : ChE) : Prop where
  lst : H c.at_ = some (.lst (c.rows.map fun y => V.ref y.1))
  rows : RowsAt H c.rows
theorem ChAt.same {H H' : Hp} {c : ChE} (h : ChAt H c) (s : Same H H') : ChAt H' c := ⟨s _ _ h.lst, h.rows.same s⟩
/-- a right choice -/
structure ChR (ss : List SvE) (es : List TabE) (c : ChE) : Prop where
  ex : ∃ (b : SvE) (e : TabE), b ∈ ss ∧ b.name = c.svc ∧ e ∈ es ∧ e.1 = b.tab ∧ (∀ k ∈ c.vals, KVal k) ∧ c.vals.length = b.cols.length ∧ AnsR b (fitR b.cols c.vals e.2.2) (c.rows.map (·.2))
/-- the same choices, their rows sorted -/
structure ChSame (cs cs' : List ChE) : Prop where
  keys : (cs'.map ChE.key).Perm (cs.map ChE.key)
  rows : ∀ c' ∈ cs', ∃ c ∈ cs, c.key = c'.key ∧ SortedRows c'.rows (c.rows.map (·.2))
def fldsA (p x D : Addr) : List (Str × V) := putF "_chosen" (.ref D) (putF "schema" (.ref x) (putF "store" (.ref p) []))
theorem flda_st (p x D : Addr) : (fldsA p x D).lookup ("store" : Str) = some (V.ref p) := by
  unfold fldsA
  rw [lookup_putF, if_neg (by decide +kernel), lookup_putF, if_neg (by decide +kernel), lookup_putF, if_pos rfl]
theorem flda_sc (p x D : Addr) : (fldsA p x D).lookup ("schema" : Str) = some (V.ref x) := by
  unfold fldsA
  rw [lookup_putF, if_neg (by decide +kernel), lookup_putF, if_pos rfl]
theorem flda_ch (p x D : Addr) : (fldsA p x D).lookup ("_chosen" : Str) = some (V.ref D) := by
  unfold fldsA
  rw [lookup_putF, if_pos rfl]
theorem flda_no (p x D : Addr) {m : Str} (h1 : ¬ m = "_chosen") (h2 : ¬ m = "schema") (h3 : ¬ m = "store") : (fldsA p x D).lookup m = none := by
  unfold fldsA
  rw [lookup_putF, if_neg h1, lookup_putF, if_neg h2, lookup_putF, if_neg h3]
  rfl
theorem putF_len (f : Str) (v : V) : ∀ fs : List (Str × V), (putF f v fs).length ≤ fs.length + 1
  | [] => Nat.le_refl _
  | (g, x) :: r => by
    show (if g = f then (g, v) :: r else (g, x) :: putF f v r).length ≤ _
    have := putF_len f v r
    split <;> simp only [List.length_cons] <;> omega
structure AnO (w : World) (C CS CA z dz p dx x R Fi D : Addr) (G : Hp) (ts : List (Str × Int)) (ks : List KeyE) (ss : List SvE) (mt ms : Nat) (es : List TabE) (cs : List ChE) : Prop where
  ob : G z = some (.ins CA dz (fldsA p x D))
  st : StO C CS p dx x R Fi G ts ks ss mt ms es
  dct : NDict w G D (chK cs)
  nd : (cs.map ChE.key).Nodup
  ls : ∀ c ∈ cs, ChAt G c
  right : ∀ c ∈ cs, ChR ss es c
  srt : ∀ c ∈ cs, c.rows.Pairwise fun a b => rowLt a.2 b.2 = true
theorem AnO.same {w : World} {C CS CA z dz p dx x R Fi D : Addr} {G H : Hp} {ts : List (Str × Int)} {ks : List KeyE} {ss : List SvE} {mt ms : Nat} {es : List TabE} {cs : List ChE} (h : AnO w C CS CA z dz p dx x R Fi D G ts ks ss mt ms es cs) (s : Same G H) : AnO w C CS CA z dz p dx x R Fi D H ts ks ss mt ms es cs :=
  ⟨s _ _ h.ob, h.st.same s, h.dct.same s, h.nd, fun c hc => (h.ls c hc).same s, h.right, h.srt⟩
theorem ch_val {cs : List ChE} (nd : (cs.map ChE.key).Nodup) {c : ChE} (hc : c ∈ cs) : valV (chK cs) c.key = some (.ref c.at_) := nd_val (p := (c.key, V.ref c.at_)) (by rw [ch_keys]; exact nd) (List.mem_map.mpr ⟨c, hc, rfl⟩)
theorem ifnew {w : World} {ch : V} {H : Hp} {σ : L2.St} {i : Nat} {cs : List ChE} {t : TT} {Q' : VK} (ht : ∀ R : Bool → Hp → Prop, R (decide (ch = V.non)) H → t σ H R) (hv : ∀ R : VK, R ch H → tVar i σ H R) (h : (ch = .non ∧ cs = []) ∨ ∃ D, ch = .ref D ∧ NDict w H D (chK cs))
    (q : ∀ (D : Addr) (H1 : Hp), Same H H1 → NDict w H1 D (chK cs) → Q' (.ref D) H1) : tIf t (tNNew w) (tVar i) σ H Q' := by
  refine ht _ ?_
  rcases h with ⟨rfl, rfl⟩ | ⟨D, rfl, nd⟩
  · exact ite_d (fun _ => fun p φ hp nd => q p _ (same_upd hp) nd) (fun n => absurd rfl n)
  · exact ite_d (fun e => nomatch e) (fun _ => hv _ (q D H (Same.refl H) nd))
theorem nkeys_zip {H : Hp} : ∀ {cs : List ChE} {bs : List Addr}, NKeys H (chK cs) bs → ∃ L : List (Addr × CK), L.map (·.1) = bs ∧ L.map (·.2) = cs.map ChE.key ∧ ∀ b ∈ L, CkAt H b.1 b.2
  | [], _, h => by
    cases h
    exact ⟨[], rfl, rfl, fun b hb => nomatch hb⟩
  | c :: cs, _, h => by
    cases h with
    | cons h t =>
      obtain ⟨L, e1, e2, e3⟩ := nkeys_zip (cs := cs) t
      refine ⟨(_, c.key) :: L, by rw [List.map_cons, e1], by rw [List.map_cons, e2]; rfl, fun x hx => ?_⟩
      rcases List.mem_cons.mp hx with rfl | hx
      · exact h
      · exact e3 x hx
section
variable {P : Program} {w : World} {K : PySem.W.Frag} {mg : Str → Option Value} {base : Heap} {a : Nat → Addr} {d : Nat → FuncData}
def spAInit (w : World) (C CS CA : Addr) : Sp := fun vs H Q _ => ∃ (z dz p dx x R Fi : Addr) (ch : V) (Gs : Hp) (ts : List (Str × Int)) (ks : List KeyE) (ss : List SvE) (mt ms : Nat) (es : List TabE) (cs : List ChE), vs = [.ref z, .ref p, ch] ∧ H z = some (.ins CA dz []) ∧ StO C CS p dx x R Fi Gs ts ks ss mt ms es ∧ Same Gs H ∧ Gs z = none ∧
  ((ch = .non ∧ cs = []) ∨ ∃ D, ch = .ref D ∧ NDict w H D (chK cs)) ∧ (cs.map ChE.key).Nodup ∧ (∀ c ∈ cs, ChAt H c ∧ ChR ss es c) ∧ cs.length ≤ 1000 ∧
  ∀ (G H' : Hp) (D : Addr) (cs' : List ChE), AnO w C CS CA z dz p dx x R Fi D G ts ks ss mt ms es cs' → ChSame cs cs' → Same G H' → Same Gs G → (∀ q o, q ≠ z → H q = some o → (∀ xs, o ≠ .tup xs) → Gs q = none → G q = none) → (∀ b o, b ≠ z → H b = some o → H' b = some o) → Q .non H'
theorem ok_ainit (T : Txt K mg a d) : FnOk P w K mg base CX0 8 (a 3500) (d 3500) ["self", "store", "choices"] (spAInit w (a 42) (a 48) (a 25)) := by
  have G23 : FnOk P w K mg base CX0 7 (a 23) (d 23) ["store", "service", "given", "rows"] (fun vs H Q E => spIsAns (a 42) (a 48) vs H (fun v H' => v = .bl true ∧ Q .non H') E) := ok_chkc T
  have G24 : FnOk P w K mg base CX0 2 (a 24) (d 24) ["call"] spCKey := ok_ckey T
  have G19 : FnOk P w K mg base CX0 4 (a 19) (d 19) ["rows"] (spSR K) := ok_sorted_rows T
  refine T.F3500.okN sc_Answers___init__ (fun vs H Q E h => ?_) (fun cdv A outer s H vs Q E hr h => ?_)
  · obtain ⟨z, dz, p, dx, x, R, Fi, ch, Gs, ts, ks, ss, mt, ms, es, cs, rfl, _⟩ := h
    rfl
  · obtain ⟨z, dz, p, dx, x, R, Fi, ch, Gs, ts, ks, ss, mt, ms, es, cs, rfl, hz, O, sG, gz, hch, nd, hcs, hlen, q⟩ := h
    obtain ⟨xd, d1, d2, d3, o⟩ := id O.sch
    have hsv : ∀ c ∈ cs, CkOk c.key := fun c hc => by
      obtain ⟨b, e, hb, e1, he, ee, h1, h2, h3⟩ := (hcs c hc).2.ex
      obtain ⟨_, _, _, w3⟩ := (o.hS.ok b hb).ok
      refine ⟨?_, fun k hk => (h1 k hk).ok, by show c.vals.length ≤ 100; omega⟩
      show PyData.strOk c.svc = true
      rw [← e1]
      exact wd_strOk (o.hS.nm.wd _ (List.mem_map.mpr ⟨b, hb, rfl⟩))
    refine ⟨_, (pss_cons (ps_set (i := 3) sc_Answers___init__.nd rfl (.inr rfl) (pe_ifExp (pt_cmpR op_isN (pv 2) pe_non (nomark _)) (pe_nnew (w := w) (by rfl)) (pv 2)))
  (pss_cons (ps_set (i := 4) sc_Answers___init__.nd rfl (.inl rfl) (pe_callBK (SK.cr_sortF G24 (hr.mono (by decide)) T.b24 rfl) (by rfl) T.z_sorted (by decide +kernel) (pa_cons (pe_callTy (call_list_nd (w := w) (by rfl) rfl) (by rfl) T.z_list (by decide +kernel) (pa_cons (pv 3) pa_nil)) pa_nil) (pk_cons (pe_glob (v := .ref (a 24)) (by rfl) T.g24 rfl) pk_nil)))
  (pss_cons (ps_for PassesOwn.never rfl (pi_list (pv 4)) (pg_tup rfl (pgs_cons (pg_name (i := 5) sc_Answers___init__.nd rfl (.inl rfl)) (pgs_cons (pg_name (i := 6) sc_Answers___init__.nd rfl (.inl rfl)) pgs_nil)))
    (pss_one (ps_expr (pe_call G23 (hr.mono (by decide)) (by rfl) T.g23 T.F23.kp T.b23 .nil pass0 (pa_cons (pv 1) (pa_cons (pv 5) (pa_cons (pv 6) (pa_cons (pe_nget (w := w) (by rfl) (by exact hu_of9 hr) (pv 3) (pe_tup (pa_cons (pv 5) (pa_cons (pv 6) pa_nil))) (fun _ _ => rfl)) pa_nil))))))))
  (pss_cons (ps_fld (pv 0) (pv 1) rfl)
  (pss_cons (ps_fld (pv 0) (pe_fld (pv 1) rfl) rfl)
  (pss_one (ps_fld (pv 0) (DcN.pe_dcN (w := w) (by rfl) (own := [("call", 7)]) (hu_of9 hr) rfl sc_Answers___init__.nd (pi_list (pv 4)) (blkOk_by (N := ["self", "store", "choices", "chosen", "calls", "service", "given", "call"]) (sc := defScope s_Answers___init__) (by decide +kernel)) (fun _ _ _ _ _ => pg_name (i := 7) sc_Answers___init__.nd rfl (.inl rfl)) (fun _ _ _ _ _ => pts_nil) (fun _ _ _ _ _ => (pv 7)) (fun _ _ _ _ _ => (pe_call G19 (hr.mono (by decide)) (by rfl) T.g19 T.F19.kp T.b19 .nil pass0 (pa_cons (pe_nget (w := w) (by rfl) (by exact hu_of9 hr) (pv 3) (pv 7) (fun _ _ => rfl)) pa_nil)))) rfl))))))), ?_⟩
    show tIf _ _ _ _ _ _
    refine ifnew (fun R r => ⟨_, rfl, rfl, _, rfl, r⟩) (fun R r => ⟨_, rfl, r⟩) hch fun D H1 s1 nd1 => ?_
    refine ⟨_, rfl, D, _, rfl, nd1.r, fun l bs hl hk => ?_⟩
    obtain ⟨L0, b1, b2, b3⟩ := nkeys_zip hk
    have sl := same_upd (o := .lst (bs.map V.ref)) hl
    have ebs : bs.map V.ref = L0.map fun b => V.ref b.1 := by rw [← b1, List.map_map]; rfl
    have b4 : ∀ b ∈ L0, ∃ c ∈ cs, c.key = b.2 := fun b hb => by
      have : b.2 ∈ cs.map ChE.key := by rw [← b2]; exact List.mem_map.mpr ⟨b, hb, rfl⟩
      obtain ⟨c, hc, e⟩ := List.mem_map.mp this
      exact ⟨c, hc, e⟩
    have b5 : ∀ b ∈ L0, CkOk b.2 := fun b hb => by
      obtain ⟨c, hc, e⟩ := b4 b hb
      rw [← e]
      exact hsv c hc
    obtain ⟨L', r1, r2, r3⟩ := byKey_calls L0
    refine ⟨l, L0.map (fun b => V.ref b.1), L0.map (fun b => callD b.2), tokC, rfl, rfl, .of (by rw [← ebs]; exact upd_same), by rw [List.length_map, List.length_map], ?_, fun dd hd => ?_, fun i y k hx hk H2 s2 => ?_, fun q' H2 nq s2 e2 => ?_⟩
    · have h1 := keys_calls (L0.map (·.2)) fun k hk => by
        obtain ⟨b, hb, rfl⟩ := List.mem_map.mp hk
        exact b5 b hb
      rw [List.map_map] at h1
      exact h1.g
    · obtain ⟨b, hb, rfl⟩ := List.mem_map.mp hd
      exact Nat.le_trans (callD_depth _) (by decide)
    · obtain ⟨b, hb, rfl⟩ := map_at hx
      obtain ⟨b', hb', rfl⟩ := map_at hk
      obtain rfl : b = b' := Option.some.inj (hb.symm.trans hb')
      have hbm : b ∈ L0 := List.mem_of_getElem? hb
      exact ⟨b.1, b.2, rfl, (b3 b hbm).same (sl.trans s2), (b5 b hbm).2.2, fun v H3 dp s3 => ⟨dp K, s3⟩⟩
    · rw [r1] at e2
      have s02 := (s1.trans sl).trans s2
      have nd2 := nd1.same (sl.trans s2)
      have b3' : ∀ b ∈ L', CkAt H2 b.1 b.2 := fun b hb => (b3 b (r2.mem_iff.mp hb)).same (sl.trans s2)
      have b4' : ∀ b ∈ L', ∃ c ∈ cs, c.key = b.2 := fun b hb => b4 b (r2.mem_iff.mp hb)
      have k2 : (L'.map (·.2)).Perm (cs.map ChE.key) := by rw [← b2]; exact r2.map _
      have hcs2 : ∀ c ∈ cs, ChAt H2 c := fun c hc => (hcs c hc).1.same s02
      have ll : L'.length = cs.length := by
        have := k2.length_eq
        rw [List.length_map, List.length_map] at this
        exact this
      clear r1 r2 r3 b1 b2 b3 b4 b5 ebs sl hk hl s2 nq
      refine ⟨_, rfl, q', rfl, ⟨_, .of e2⟩, for_list (K := K) (a := q') (xs := L'.map fun b => V.ref b.1) (fun i σ H' => ∃ y5 y6 y7 : Option V, σ = [some (.ref z), some (.ref p), some ch, some (.ref D), some (.ref q'), y5, y6, y7] ∧ Same H2 H') ⟨_, _, _, rfl, Same.refl _⟩ (fun i σ H' _ hp => ?_) (fun i y σ H' hy hp => ?_) (fun σ H3 hp => ?_)⟩
      · obtain ⟨_, _, _, rfl, s⟩ := hp
        exact .of (s _ _ e2)
      · obtain ⟨y5, y6, y7, rfl, s⟩ := hp
        obtain ⟨b, hb, rfl⟩ := map_at hy
        have hbm := List.mem_of_getElem? hb
        obtain ⟨c, hc, ec⟩ := b4' b hbm
        obtain ⟨cc, c1, c2⟩ := (b3' b hbm).same s
        obtain ⟨bb, e, hbb, e1, he, ee, g1, g2, g3⟩ := (hcs c hc).2.ex
        have hcc := (hcs2 c hc).same s
        rw [← ec] at c1 c2
        refine ⟨b.1, _, rfl, .of c1, rfl, _, _, rfl, _, _, rfl, rfl, ?_⟩
        refine ⟨_, rfl, _, rfl, _, rfl, _, rfl, _, rfl, _, rfl, by show 2 ≤ sizeLine; decide, fun t ht => ?_⟩
        have st := same_upd (o := .tup [.str c.svc, .ref cc]) ht
        refine ⟨D, t, chK cs, c.key, .ref c.at_, rfl, rfl, ((nd2.same s).same st).r, ⟨cc, upd_same, st _ _ c2⟩, ch_val nd hc, ?_⟩
        have hcc2 := hcc.same st
        refine ⟨p, dx, x, R, Fi, cc, c.at_, c.svc, c.vals, ts, ks, ss, mt, ms, es, bb, e, c.rows, rfl, O.same (((sG.trans s02).trans s).trans st), hbb, e1, he, ee, st _ _ c2, g1, g2, hcc2.lst, hcc2.rows, g3, fun H4 s4 => ⟨rfl, _, _, _, rfl, (s.trans st).trans s4⟩⟩
      · obtain ⟨y5, y6, y7, rfl, s3⟩ := hp
        have nLk : (L'.map (·.2)).Nodup := k2.nodup_iff.mpr nd
        have hrw : ∀ c ∈ cs, (∀ y ∈ c.rows, (∀ k ∈ y.2, KOk k) ∧ y.2.length ≤ 100) ∧ c.rows.length ≤ 10000 := fun c hc => by
          obtain ⟨b, e, hb, e1, he, ee, g1, g2, g3⟩ := (hcs c hc).2.ex
          obtain ⟨we, we1, we2⟩ := O.wid e he
          have h3 := List.length_filter_le (fun u => decide (projR b.cols u = c.vals)) e.2.2
          have h4 := O.lens e he
          refine ⟨fun y hy => ?_, ?_⟩
          · have h1 := (List.mem_filter.mp (g3.sub y.2 (List.mem_map.mpr ⟨y, hy, rfl⟩))).1
            exact ⟨fun k hk => ((we2 y.2 h1).2 k hk).ok, by have := o.hT.wd _ we1; have := (we2 y.2 h1).1; omega⟩
          · have h1 := g3.len
            rw [List.length_map] at h1
            have h2 := capN_le b.cap (fitR b.cols c.vals e.2.2).length
            unfold fitR at h1 h2
            omega
        have s03 := s02.trans s3
        have hz3 := s03 _ _ hz
        have pz : ∀ {b o}, Gs b = some o → b ≠ z := fun e n => by rw [n, gz] at e; cases e
        -- self.store, self.schema
        refine ⟨_, rfl, _, rfl, z, _, dz, _, rfl, hz3, T.cl_25, T.no_25_store, by decide, ?_⟩
        have u1 : ∀ {o b u}, b ≠ z → H3 b = some u → upd H3 z o b = some u := fun {o b u} n e => by rw [upd_ne n]; exact e
        refine ⟨_, rfl, p, _, dx, _, _, rfl, u1 (pz O.ob) (s03 _ _ (sG _ _ O.ob)), T.cl_48, T.no_48_schema, fldt_s _ _ _, _, rfl, z, _, dz, _, rfl, upd_same, T.cl_25, T.no_25_schema, Nat.lt_of_le_of_lt (putF_len _ _ _) (by decide), ?_⟩
        rw [upd_upd]
        generalize hH5 : upd H3 z (HO.ins _ dz (putF "schema" (V.ref x) (putF "store" (V.ref p) []))) = H5
        have k5 : ∀ b u, b ≠ z → H3 b = some u → H5 b = some u := fun b u n e => by rw [← hH5]; exact u1 n e
        have nz : ∀ {b : Addr} {u : HO}, H3 b = some u → (∀ C fs, u ≠ .ins C dz fs) → b ≠ z := fun {b u} e n m => by
          rw [m, hz3] at e
          exact n _ _ (Option.some.inj e).symm
        have hz5 : H5 z = some (.ins (a 25) dz (putF "schema" (V.ref x) (putF "store" (V.ref p) []))) := by rw [← hH5]; exact upd_same
        have t5 : ∀ b ys, H3 b = some (.tup ys) → H5 b = some (.tup ys) := fun b ys e => k5 _ _ (nz e (by intro _ _ z; cases z)) e
        have nd5 : NDict w H5 D (chK cs) := by
          have h1 := nd2.same s3
          obtain ⟨φ, e⟩ := h1.at_
          exact h1.keeps (by rw [e]; exact k5 _ _ (nz e (by intro _ _ z; cases z)) e) t5
        have q5 := k5 _ _ (nz (s3 _ _ e2) (by intro _ _ z; cases z)) (s3 _ _ e2)
        have b5 : ∀ b ∈ L', CkAt H5 b.1 b.2 := fun b hb => ((b3' b hb).same s3).keeps t5
        have c5 : ∀ c ∈ cs, ChAt H5 c := fun c hc => ⟨k5 _ _ (nz ((hcs2 c hc).same s3).lst (by intro _ _ z; cases z)) ((hcs2 c hc).same s3).lst, fun y hy => t5 _ _ (((hcs2 c hc).same s3).rows y hy)⟩
        have f5 : ∀ b, H5 b = none → cut H z b = none := fun b e => by
          by_cases n : b = z
          · rw [n]; exact cut_at H z
          · rw [cut_ne n]
            cases h : H b with
            | none => rfl
            | some u => rw [k5 b u n (s03 _ _ h)] at e; cases e
        refine ⟨_, rfl, q', rfl, ⟨_, .of q5⟩, fun D' φ0 hD' nd0 => ?_⟩
        have s5 := same_upd (o := .ext φ0) hD'
        refine DcN.dcN_it (w := w) (walk_list (K := K) (a := q') (xs := L'.map fun b => V.ref b.1)) (fun i H' => ∃ cs1 : List ChE, cs1.map ChE.key = (L'.take i).map (·.2) ∧ NDict w H' D' (chK cs1) ∧ (∀ c' ∈ cs1, ChAt H' c' ∧ H5 c'.at_ = none ∧ ∃ c ∈ cs, c.key = c'.key ∧ SortedRows c'.rows (c.rows.map (·.2))) ∧ Same H5 H') ⟨[], rfl, nd0, (fun c hc => nomatch hc), s5⟩ (fun i H' _ hp => ?_) (fun i y H' Hy hi hp hy => ?_) (fun H6 hp => ?_)
        · obtain ⟨_, _, _, _, s⟩ := hp
          exact .of (s _ _ q5)
        · obtain ⟨cs1, m1, m2, m3, m4⟩ := hp
          obtain ⟨eH, hy⟩ := hy
          subst eH
          obtain ⟨b, hb, rfl⟩ := map_at hy
          have hbm := List.mem_of_getElem? hb
          obtain ⟨c, hc, ec⟩ := b4' b hbm
          have hcc := (c5 c hc).same m4
          refine ⟨rfl, _, rfl, _, rfl, _, rfl, D, b.1, chK cs, c.key, .ref c.at_, rfl, rfl, (nd5.same m4).r, by rw [ec]; exact (b5 b hbm).same m4, ch_val nd hc, ?_⟩
          refine ⟨c.at_, c.rows, rfl, .of hcc.lst, hcc.rows, (hrw c hc).1, (hrw c hc).2, fun l2 H7 L2 hl2 s7 e7 r7 sr7 => ?_⟩
          have m2' := m2.same s7
          refine ⟨chK cs1, c.key, b.1, rfl, by rw [ec]; exact ((b5 b hbm).same m4).same s7, m2', ?_, fun φ nd' => ?_⟩
          · unfold chK
            rw [List.length_map, ← List.length_map (f := ChE.key), m1, List.length_map, List.length_take]
            exact small1000 (by omega)
          · have hno : valV (chK cs1) c.key = none := by
              refine nd_none ?_
              rw [ch_keys, m1, ec]
              intro hm
              have h1 : ((L'.take (i + 1)).map (·.2)).Nodup := nLk.sublist ((List.take_sublist _ _).map _)
              rw [map_take hb, List.nodup_append] at h1
              exact h1.2.2 _ hm _ (List.mem_singleton.mpr rfl) rfl
            rw [putK_new _ hno] at nd'
            obtain ⟨φ', e'⟩ := m2'.at_
            have l2D : l2 ≠ D' := fun n => by
              rw [n, e'] at e7
              cases e7
            have up7 : ∀ {o : HO} {b u}, b ≠ D' → H7 b = some u → upd H7 D' o b = some u := fun {o b u} n e => by rw [upd_ne n]; exact e
            have tup7 : ∀ {o : HO} {b ys}, H7 b = some (.tup ys) → upd H7 D' o b = some (.tup ys) := fun {o b ys} e => up7 (ne_of e e' (by intro z; cases z)) e
            refine ⟨cs1 ++ [⟨c.svc, c.vals, l2, L2⟩], ?_, ?_, fun c' hc' => ?_, fun b u e => ?_⟩
            · rw [List.map_append, m1, map_take hb, ← ec]
              rfl
            · unfold chK at nd' ⊢
              rw [List.map_append]
              exact nd'
            · rcases List.mem_append.mp hc' with h | h
              · obtain ⟨n1, n2, n3⟩ := m3 c' h
                have n1' := n1.same s7
                exact ⟨⟨up7 (ne_of n1'.lst e' (by intro z; cases z)) n1'.lst, fun y hy => tup7 (n1'.rows y hy)⟩, n2, n3⟩
              · rw [List.mem_singleton.mp h]
                exact ⟨⟨up7 l2D e7, fun y hy => tup7 (r7 y hy)⟩, m4.free hl2, c, hc, rfl, sr7⟩
            · rw [upd_ne (ne_of_none e hD')]
              exact s7 _ _ (m4 _ _ e)
        · obtain ⟨cs1, m1, m2, m3, m4⟩ := hp
          rw [List.length_map, List.take_length] at m1
          have hz6 := m4 _ _ hz5
          refine ⟨_, rfl, z, _, dz, _, rfl, hz6, T.cl_25, T.no_25__chosen, Nat.lt_of_le_of_lt (putF_len _ _ _) (Nat.lt_of_le_of_lt (Nat.succ_le_succ (putF_len _ _ _)) (by decide)), ?_⟩
          obtain ⟨φ', e'⟩ := m2.at_
          have nD : D' ≠ z := fun n => by rw [n, hz5] at hD'; cases hD'
          generalize hHz : upd H6 z (HO.ins _ dz (putF "_chosen" (V.ref D') (putF "schema" (V.ref x) (putF "store" (V.ref p) [])))) = Hz
          have k6 : ∀ b u, b ≠ z → H6 b = some u → Hz b = some u := fun b u n e => by rw [← hHz, upd_ne n]; exact e
          have hzz : Hz z = some (.ins (a 25) dz (fldsA p x D')) := by rw [← hHz]; exact upd_same
          have nz6 : ∀ {b : Addr} {u : HO}, H6 b = some u → (∀ C fs, u ≠ .ins C dz fs) → b ≠ z := fun {b u} e n m => by
            rw [m, hz6] at e
            exact n _ _ (Option.some.inj e).symm
          have t6 : ∀ b ys, H6 b = some (.tup ys) → Hz b = some (.tup ys) := fun b ys e => k6 _ _ (nz6 e (by intro _ _ z; cases z)) e
          have keep : ∀ b u, b ≠ z → H b = some u → Hz b = some u := fun b u n e => k6 _ _ n (m4 _ _ (k5 _ _ n (s03 _ _ e)))
          have upG : Same Gs (hlet (cut H z) Hz Gs) := fun b u e => by
            rw [hlet_old e]
            exact keep b u (pz e) (sG _ _ e)
          have upN : ∀ {b u}, H5 b = none → Hz b = some u → hlet (cut H z) Hz Gs b = some u := fun {b u} h e => by rw [hlet_new (f5 b h)]; exact e
          have upT : ∀ b ys, Hz b = some (.tup ys) → hlet (cut H z) Hz Gs b = some (.tup ys) := fun b ys e => by
            cases h : cut H z b with
            | none => rw [hlet_new h]; exact e
            | some u =>
              have n : b ≠ z := fun n => by rw [n, cut_at] at h; cases h
              rw [cut_ne n] at h
              have h1 := keep b u n h
              rw [e] at h1
              cases h1
              rw [hlet_tup (H := cut H z) (by rw [cut_ne n]; exact h)]
              exact e
          have hk : (cs1.map ChE.key).Perm (cs.map ChE.key) := by rw [m1]; exact k2
          refine q (hlet (cut H z) Hz Gs) Hz D' cs1 ⟨?_, O.same upG, ?_, hk.nodup_iff.mpr nd, fun c hc => ?_, fun c' hc' => ?_, fun c' hc' => ?_⟩ ⟨hk, fun c' hc' => (m3 c' hc').2.2⟩ (hlet_same _ _ _) upG (fun b u n h1 h2 h3 => hlet_no (by rw [cut_ne n]; exact h1) h2 h3) keep
          · rw [hlet_new (cut_at H z)]
            exact hzz
          · refine m2.keeps ?_ fun b ys e => upT _ _ (t6 _ _ e)
            rw [e']
            exact upN hD' (k6 _ _ nD e')
          · obtain ⟨n1, n2, n3⟩ := m3 c hc
            exact ⟨upN n2 (k6 _ _ (nz6 n1.lst (by intro _ _ z; cases z)) n1.lst), fun y hy => upT _ _ (t6 _ _ (n1.rows y hy))⟩
          · obtain ⟨n1, n2, c, hc, ec, sr⟩ := m3 c' hc'
            obtain ⟨b, e, hb, e1, he, ee, g1, g2, g3⟩ := (hcs c hc).2.ex
            have e3 : c'.svc = c.svc := (congrArg Prod.fst ec).symm
            have e4 : c'.vals = c.vals := (congrArg Prod.snd ec).symm
            refine ⟨b, e, hb, by rw [e3]; exact e1, he, ee, by rw [e4]; exact g1, by rw [e4]; exact g2, ?_, fun r hr => ?_, ?_⟩
            · exact List.pairwise_map.mpr (sr.up.imp fun {a b} hab e => by
                have e : a.2 = b.2 := e
                rw [e, rowLt_irrefl] at hab
                cases hab)
            · rw [e4]
              exact g3.sub r ((sr.all r).mp hr)
            · rw [e4, ← g3.len, List.length_map]
              exact sorted_len sr g3.nd
          · obtain ⟨n1, n2, c, hc, ec, sr⟩ := m3 c' hc'
            exact sr.up
end
/-! ### Answers: choices, the answer of a call -/
/-- the choices with new lists of the same rows -/
def ChNew (H : Hp) : List ChE → List ChE → Prop := Paired fun c c' => c'.key = c.key ∧ c'.rows = c.rows ∧ H c'.at_ = none
theorem ChNew.keys {H : Hp} : ∀ {cs cs' : List ChE}, ChNew H cs cs' → cs'.map ChE.key = cs.map ChE.key
  | _, _, .nil => rfl
  | _, _, .cons h t => by rw [List.map_cons, List.map_cons, h.1, ChNew.keys t]
theorem ch_at {cs : List ChE} {i : Nat} {k : CK} {v : V} (h : (chK cs)[i]? = some (k, v)) : ∃ c, cs[i]? = some c ∧ c.key = k ∧ V.ref c.at_ = v := by
  unfold chK at h
  rw [List.getElem?_map] at h
  cases e : cs[i]? with
  | none => rw [e] at h; cases h
  | some c =>
    rw [e] at h
    cases h
    exact ⟨c, rfl, rfl, rfl⟩
def ansOf (cs : List ChE) (k : CK) (cap : Option Int) (fit : List RowK) : List RowK := match cs.find? fun c => decide (c.key = k) with
  | some c => c.rows.map (·.2)
  | none => fit.take (capN cap fit.length)
theorem ansOf_val {cs : List ChE} {k : CK} {cap : Option Int} {fit : List RowK} : (∃ c ∈ cs, c.key = k ∧ valV (chK cs) k = some (.ref c.at_) ∧ ansOf cs k cap fit = c.rows.map (·.2)) ∨ (valV (chK cs) k = none ∧ k ∉ cs.map ChE.key ∧ ansOf cs k cap fit = fit.take (capN cap fit.length)) := by
  have e : valV (chK cs) k = (cs.find? fun c => decide (c.key = k)).map fun c => V.ref c.at_ := by
    unfold valV chK
    rw [List.find?_map]
    show ((cs.find? fun c => decide (c.key = k)).map fun c => (c.key, V.ref c.at_)).map (·.2) = _
    rw [Option.map_map]
    rfl
  unfold ansOf
  cases h : cs.find? fun c => decide (c.key = k) with
  | none =>
    rw [h] at e
    refine .inr ⟨e, fun hm => ?_, rfl⟩
    obtain ⟨c, hc, ec⟩ := List.mem_map.mp hm
    exact List.find?_eq_none.mp h c hc (decide_eq_true ec)
  | some c =>
    rw [h] at e
    exact .inl ⟨c, List.mem_of_find?_eq_some h, (by have := List.find?_some h; exact of_decide_eq_true this), e, rfl⟩
section
variable {P : Program} {w : World} {K : PySem.W.Frag} {mg : Str → Option Value} {base : Heap} {a : Nat → Addr} {d : Nat → FuncData}
def spAChs (w : World) (C CS CA : Addr) : Sp := fun vs H Q _ => ∃ (z dz p dx x R Fi D : Addr) (ts : List (Str × Int)) (ks : List KeyE) (ss : List SvE) (mt ms : Nat) (es : List TabE) (cs : List ChE), vs = [.ref z] ∧ AnO w C CS CA z dz p dx x R Fi D H ts ks ss mt ms es cs ∧ cs.length ≤ 1000 ∧
  ∀ (D' : Addr) (H' : Hp) (cs' : List ChE), H D' = none → NDict w H' D' (chK cs') → ChNew H cs cs' → (∀ c ∈ cs', ChAt H' c) → Same H H' → Q (.ref D') H'
theorem ok_achs (T : Txt K mg a d) : FnOk P w K mg base CX0 1 (a 3501) (d 3501) ["self"] (spAChs w (a 42) (a 48) (a 25)) := by
  refine T.F3501.ok sc_Answers_choices (fun vs H Q E h => ?_) (fun cdv A outer s H vs Q E hr h => ?_)
  · obtain ⟨z, dz, p, dx, x, R, Fi, D, ts, ks, ss, mt, ms, es, cs, rfl, _⟩ := h
    rfl
  · obtain ⟨z, dz, p, dx, x, R, Fi, D, ts, ks, ss, mt, ms, es, cs, rfl, O, hlen, q⟩ := h
    refine ⟨_, (pss_one (ps_ret (pe_lock (DcN.pe_dcN (w := w) (by rfl) (own := [("call", 1)]) (hu_of9 hr) rfl sc_Answers_choices.nd (pi_keysN (w := w) (by rfl) (pe_fld (pv 0) rfl)) (blkOk_by (N := ["self", "call"]) (sc := defScope s_Answers_choices) (by decide +kernel)) (fun _ _ _ _ _ => pg_name (i := 1) sc_Answers_choices.nd rfl (.inl rfl)) (fun _ _ _ _ _ => pts_nil) (fun _ _ _ _ _ => (pv 1)) (fun _ _ _ _ _ => (pe_callTy (T := "list") (r := Evl.rListS K)  call_list_of (by rfl) T.z_list (by decide +kernel) (pa_cons (pe_nget (w := w) (by rfl) (by exact hu_of9 hr) (pe_fldK (K := K) (by rfl) (pv 0) rfl) (pv 1) (fun _ _ => rfl)) pa_nil))))))), ?_⟩
    obtain ⟨u, hu, mu, hl⟩ := O.dct.lock
    refine ⟨D, u, hu, mu, fun od => ?_⟩
    obtain ⟨zs, l1, l2, l3, l4⟩ := hl od
    have nzD : z ≠ D := fun n => by
      obtain ⟨φ, e⟩ := O.dct.at_
      rw [← n, O.ob] at e
      cases e
    have oL : ∀ {b o}, b ≠ D → H b = some o → upd H D (.frz od u) b = some o := fun {b o} n e => by rw [upd_ne n]; exact e
    have obL := oL nzD O.ob
    refine ⟨_, rfl, z, _, dz, _, _, rfl, obL, T.cl_25, T.no_25__chosen, flda_ch _ _ _, D, od, zs, chK cs, rfl, l1, l2, l4, fun D' φ0 hD' nd0 => ?_⟩
    have eD : H D = some u := hu
    have lu : upd H D (.frz od u) D = some (.frz od u) := upd_same
    have nD' : D' ≠ D := fun n => by rw [n, upd_same] at hD'; cases hD'
    have hD0 : H D' = none := by rw [upd_ne nD'] at hD'; exact hD'
    have lat : ∀ c ∈ cs, ChAt (upd H D (.frz od u)) c := fun c hc => by
      obtain ⟨φ, e⟩ := O.dct.at_
      exact ⟨oL (ne_of (O.ls c hc).lst e (by intro z; cases z)) (O.ls c hc).lst, fun y hy => oL (ne_of ((O.ls c hc).rows y hy) e (by intro z; cases z)) ((O.ls c hc).rows y hy)⟩
    have ndL : NDictL w (upd H D (.frz od u)) D od (chK cs) := ⟨zs, l1, l2, l3, l4⟩
    have freeL : ∀ b, upd H D (.frz od u) b = none → H b = none := fun b e => by
      by_cases n : b = D
      · rw [n, upd_same] at e; cases e
      · rw [upd_ne n] at e; exact e
    have back : ∀ {b o}, upd H D (.frz od u) b = some o → b ≠ D → H b = some o := fun {b o} e n => by rw [upd_ne n] at e; exact e
    have s0 : ∀ b o, H b = some o → b ≠ D → upd H D (.frz od u) b = some o := fun b o e n => oL n e
    have sD := same_upd (o := .ext φ0) hD'
    generalize hHL : upd H D (.frz od u) = HL at *
    refine DcN.dcN_it (w := w) (walk_keysN (w := w) (d := D) (o := od) (zs := zs) (kvs := chK cs)) (fun i H' => ∃ cs1 : List ChE, ChNew H (cs.take i) cs1 ∧ NDict w H' D' (chK cs1) ∧ (∀ c' ∈ cs1, ChAt H' c') ∧ Same HL H') ⟨[], by rw [List.take_zero]; exact .nil, nd0, (fun c hc => nomatch hc), sD⟩ (fun i H' _ hp => ?_) (fun i y H' Hy hi hp hy => ?_) (fun H6 hp => ?_)
    · obtain ⟨_, _, _, _, s⟩ := hp
      exact ⟨s _ _ l1, l2, l4.keeps fun _ _ e => s _ _ e⟩
    · obtain ⟨cs1, m1, m2, m3, m4⟩ := hp
      obtain ⟨eH, k, v, qa, hkv, rfl, hqa⟩ := hy
      subst eH
      obtain ⟨c, hc, rfl, rfl⟩ := ch_at hkv
      have hcm := List.mem_of_getElem? hc
      have hcc := (lat c hcm).same m4
      refine ⟨rfl, _, rfl, ?_⟩
      refine ⟨_, rfl, z, _, dz, _, _, rfl, m4 _ _ obL, T.cl_25, T.no_25__chosen, flda_ch _ _ _, _, rfl, D, qa, chK cs, c.key, .ref c.at_, rfl, rfl, (ndL.keeps (by rw [l1]; exact m4 _ _ l1) fun _ _ e => m4 _ _ e).r, hqa, ch_val O.nd hcm, ?_⟩
      refine ⟨c.at_, _, rfl, .inl (.of hcc.lst), fun l2 hl2 => ?_⟩
      have s7 := same_upd (o := .lst (c.rows.map fun y => V.ref y.1)) hl2
      have e7 : upd Hy l2 (.lst (c.rows.map fun y => V.ref y.1)) l2 = some (.lst (c.rows.map fun y => V.ref y.1)) := upd_same
      generalize upd Hy l2 (.lst (c.rows.map fun y => V.ref y.1)) = H7 at s7 e7 ⊢
      have m2' := m2.same s7
      refine ⟨chK cs1, c.key, qa, rfl, hqa.same s7, m2', ?_, fun φ nd' => ?_⟩
      · unfold chK
        rw [List.length_map, ← Paired.length m1, List.length_take]
        exact small1000 (by omega)
      · have hno : valV (chK cs1) c.key = none := by
          refine nd_none ?_
          rw [ch_keys, m1.keys]
          intro hm
          have h1 : ((cs.take (i + 1)).map ChE.key).Nodup := O.nd.sublist ((List.take_sublist _ _).map _)
          rw [List.take_add_one, hc, List.map_append, List.nodup_append] at h1
          exact h1.2.2 _ hm _ (List.mem_singleton.mpr rfl) rfl
        rw [putK_new _ hno] at nd'
        obtain ⟨φ', e'⟩ := m2'.at_
        have l2D : l2 ≠ D' := fun n => by
          rw [n, e'] at e7
          cases e7
        have up7 : ∀ {o : HO} {b u}, b ≠ D' → H7 b = some u → upd H7 D' o b = some u := fun {o b u} n e => by rw [upd_ne n]; exact e
        have tup7 : ∀ {o : HO} {b ys}, H7 b = some (.tup ys) → upd H7 D' o b = some (.tup ys) := fun {o b ys} e => up7 (ne_of e e' (by intro z; cases z)) e
        refine ⟨cs1 ++ [⟨c.svc, c.vals, l2, c.rows⟩], ?_, ?_, fun c' hc' => ?_, fun b u e => ?_⟩
        · rw [List.take_add_one, hc]
          exact Paired.snoc m1 ⟨rfl, rfl, freeL _ (m4.free hl2)⟩
        · unfold chK at nd' ⊢
          rw [List.map_append]
          exact nd'
        · rcases List.mem_append.mp hc' with h | h
          · have n1' := (m3 c' h).same s7
            exact ⟨up7 (ne_of n1'.lst e' (by intro z; cases z)) n1'.lst, fun y hy => tup7 (n1'.rows y hy)⟩
          · rw [List.mem_singleton.mp h]
            exact ⟨up7 l2D e7, fun y hy => tup7 (s7 _ _ (hcc.rows y hy))⟩
        · rw [upd_ne (ne_of_none e hD')]
          exact s7 _ _ (m4 _ _ e)
    · obtain ⟨cs1, m1, m2, m3, m4⟩ := hp
      have ll : (chK cs).length = cs.length := by unfold chK; rw [List.length_map]
      rw [ll, List.take_length] at m1
      have up6 : ∀ {b o}, b ≠ D → H6 b = some o → upd H6 D u b = some o := fun {b o} n e => by rw [upd_ne n]; exact e
      have d6 := m4 _ _ lu
      have t6 : ∀ b ys, H6 b = some (.tup ys) → upd H6 D u b = some (.tup ys) := fun b ys e => up6 (ne_of e d6 (by intro z; cases z)) e
      refine ⟨d6, q D' _ cs1 hD0 (m2.keeps (upd_ne nD') t6) m1 (fun c hc => ⟨up6 (ne_of (m3 c hc).lst d6 (by intro z; cases z)) (m3 c hc).lst, fun y hy => t6 _ _ ((m3 c hc).rows y hy)⟩) fun b o e => ?_⟩
      by_cases n : b = D
      · rw [n, eD] at e
        cases e
        rw [n]
        exact upd_same
      · exact up6 n (m4 _ _ (s0 b o e n))
def spACall (w : World) (C CS CA CU CI : Addr) : Sp := fun vs H Q E => ∃ (z dz p dx x R Fi D g : Addr) (n : Str) (xs : List V) (ts : List (Str × Int)) (ks : List KeyE) (ss : List SvE) (mt ms : Nat) (es : List TabE) (cs : List ChE), vs = [.ref z, .str n, .ref g] ∧ AnO w C CS CA z dz p dx x R Fi D H ts ks ss mt ms es cs ∧
  H g = some (.tup xs) ∧ xs.length ≤ 100 ∧ (∀ y ∈ xs, Thg H y) ∧ (n ∉ ss.map (·.name) → Unk CU (.str n) H E) ∧
  (∀ b ∈ ss, b.name = n → (goodT xs (b.cols.length : Nat) = false → ∀ H', Same H H' → Er1 "service" CI (.str n) H' E) ∧
    (∀ r : RowK, xs = r.map kV → (∀ k ∈ r, KVal k) → r.length = b.cols.length → ∀ e ∈ es, e.1 = b.tab → ∀ (q : Addr) (H' : Hp) (L : List (Addr × RowK)), H q = none → H' q = some (.lst (L.map fun y => V.ref y.1)) → RowsAt H' L → L.map (·.2) = ansOf cs (n, r) b.cap (fitR b.cols r e.2.2) → Same H H' → Q (.ref q) H'))
theorem ok_acall (T : Txt K mg a d) : FnOk P w K mg base (L2.CX P w) 6 (a 3502) (d 3502) ["self", "service", "given"] (spACall w (a 42) (a 48) (a 25) (a 3) (a 8)) := by
  have G5808 : FnOk P w K mg base (L2.CX P w) 5 (a 5808) (d 5808) ["self", "service", "given"] (spFit (a 42) (a 48) (a 3) (a 8)) := ok_fitting T
  have G21 : FnOk P w K mg base (L2.CX P w) 5 (a 21) (d 21) ["store", "service", "rows"] (spASize (a 42) (a 48)) := ok_asize T
  refine T.F3502.okX sc_Answers___call__ (fun vs H Q E h => ?_) (fun cdv A outer s H vs Q E hr h => ?_)
  · obtain ⟨z, dz, p, dx, x, R, Fi, D, g, n, xs, ts, ks, ss, mt, ms, es, cs, rfl, _⟩ := h
    rfl
  · obtain ⟨z, dz, p, dx, x, R, Fi, D, g, n, xs, ts, ks, ss, mt, ms, es, cs, rfl, O, hg, hgl, hgt, q1, q2⟩ := h
    refine ⟨_, (pss_cons (ps_set (i := 3) sc_Answers___call__.nd rfl (.inl rfl) (pe_meth (pe_fld (pv 0) rfl) T.cl_48 T.m_5808 G5808 (hr.mono (by decide)) T.b5808 .nil (passes_call (takes_of rfl rfl rfl rfl) (fun _ _ _ _ h => h)) (pa_cons (pv 1) (pa_cons (pv 2) pa_nil))))
  (pss_cons (ps_if (pt_cmp (pc_nin (w := w) (by rfl) (by exact hu_of9 hr) (pe_tup (pa_cons (pv 1) (pa_cons (pv 2) pa_nil))) (pe_fld (pv 0) rfl)))
    (pss_one (ps_ret (pe_callTy (T := "list")  call_list_of (by rfl) T.z_list (by decide +kernel) (pa_cons (pe_nget (w := w) (by rfl) (by exact hu_of9 hr) (pe_fld (pv 0) rfl) (pe_tup (pa_cons (pv 1) (pa_cons (pv 2) pa_nil))) (fun _ _ => rfl)) pa_nil))))
    pss_nil)
  (pss_one (ps_ret (pe_slice sl_list (pv 3) po_none (po_some (pe_call G21 (hr.mono (by decide)) (by rfl) T.g21 T.F21.kp T.b21 .nil (passes_call (takes_of rfl rfl rfl rfl) (fun _ _ _ _ h => h)) (pa_cons (pe_fld (pv 0) rfl) (pa_cons (pv 1) (pa_cons (pv 3) pa_nil)))))))))), ?_⟩
    refine ⟨_, rfl, z, _, dz, _, _, rfl, O.ob, T.cl_25, T.no_25_store, flda_st _ _ _, p, dx, _, rfl, O.st.ob, fldt_no _ _ _ (by decide +kernel) (by decide +kernel) (by decide +kernel), _, rfl, _, rfl, p, dx, x, R, Fi, g, n, xs, ts, ks, ss, mt, ms, es, rfl, O.st, hg, hgl, hgt, q1, fun b hb eb => ⟨(q2 b hb eb).1, fun r hr1 hr2 hr3 e he ee l H1 L hl el rL mL s1 => ?_⟩⟩
    subst hr1
    have q3 := (q2 b hb eb).2 r rfl hr2 hr3 e he ee
    have O1 := O.same s1
    refine ⟨_, rfl, _, rfl, by show 2 ≤ sizeLine; decide, fun t ht => ?_⟩
    have st := same_upd (o := .tup [.str n, .ref g]) ht
    have ct : CkAt (upd H1 t (.tup [.str n, .ref g])) t (n, r) := ⟨g, upd_same, st _ _ (s1 _ _ hg)⟩
    generalize upd H1 t (.tup [.str n, .ref g]) = H2 at st ct ⊢
    have O2 := O1.same st
    refine ⟨_, rfl, z, _, dz, _, _, rfl, O2.ob, T.cl_25, T.no_25__chosen, flda_ch _ _ _, D, t, chK cs, (n, r), rfl, rfl, O2.dct.r, ct, _, rfl, ?_⟩
    rcases ansOf_val (cs := cs) (k := (n, r)) (cap := b.cap) (fit := fitR b.cols r e.2.2) with ⟨c, hc, ec, hv, ea⟩ | ⟨hv, hno, ea⟩
    · rw [hv]
      refine ifT ?_
      have hcc := O2.ls c hc
      refine ⟨_, rfl, z, _, dz, _, _, rfl, O2.ob, T.cl_25, T.no_25__chosen, flda_ch _ _ _, _, rfl, _, rfl, by show 2 ≤ sizeLine; decide, fun t3 ht3 => ?_⟩
      have st3 := same_upd (o := .tup [.str n, .ref g]) ht3
      refine ⟨D, t3, chK cs, (n, r), .ref c.at_, rfl, rfl, (O2.dct.same st3).r, ⟨g, upd_same, st3 _ _ (st _ _ (s1 _ _ hg))⟩, hv, c.at_, _, rfl, .inl (.of (st3 _ _ hcc.lst)), fun l3 hl3 => ?_⟩
      have sl := same_upd (o := .lst (c.rows.map fun y => V.ref y.1)) hl3
      have s := ((s1.trans st).trans st3)
      exact q3 l3 _ c.rows (s.free hl3) upd_same (fun y hy => sl _ _ (st3 _ _ (hcc.rows y hy))) ea.symm (s.trans sl)
    · rw [hv]
      refine ifF ?_
      have hl2 := st _ _ el
      refine ⟨_, rfl, _, rfl, z, _, dz, _, _, rfl, O2.ob, T.cl_25, T.no_25_store, flda_st _ _ _, _, rfl, _, rfl, p, dx, x, R, Fi, l, n, _, ts, ks, ss, mt, ms, es, b, rfl, O2.st, hb, eb, hl2, _, rfl, l, _, rfl, .of hl2, fun q hq => ?_⟩
      rw [cut_take, List.length_map, ← List.map_take]
      have sl := same_upd (o := .lst ((L.take (capN b.cap L.length)).map fun y => V.ref y.1)) hq
      have s := s1.trans st
      refine q3 q _ _ (s.free hq) upd_same (fun y hy => sl _ _ (st _ _ (rL y (List.mem_of_mem_take hy)))) ?_ (s.trans sl)
      rw [ea, List.map_take, mL, ← mL, List.length_map]
/-- Answers(store, choices): what it keeps -/
theorem mk_ans {w : World} {C CS CA p dx x R Fi : Addr} {H Gs : Hp} {ts : List (Str × Int)} {ks : List KeyE} {ss : List SvE} {mt ms : Nat} {es : List TabE} {cs : List ChE} {ch : V} {Q' : Hp → Prop} {E : XK} {z dz : Addr} (O : StO C CS p dx x R Fi Gs ts ks ss mt ms es) (sG : Same Gs H) (hch : (ch = .non ∧ cs = []) ∨ ∃ D, ch = .ref D ∧ NDict w H D (chK cs)) (nd : (cs.map ChE.key).Nodup)
    (hcs : ∀ c ∈ cs, ChAt H c ∧ ChR ss es c) (hlen : cs.length ≤ 1000) (fz : H z = none) (fdz : H dz = none) (ndz : dz ≠ z)
    (q : ∀ (G H' : Hp) (D : Addr) (cs' : List ChE), AnO w C CS CA z dz p dx x R Fi D G ts ks ss mt ms es cs' → ChSame cs cs' → Same G H' → Same Gs G → Same H H' → (∀ b o, H b = some o → (∀ xs, o ≠ .tup xs) → Gs b = none → G b = none) → Q' H') :
    spAInit w C CS CA [.ref z, .ref p, ch] (upd (upd H dz (.own z)) z (.ins CA dz [])) (fun u H2 => u = .non ∧ Q' H2) E := by
  have s1 := same_upd (o := .own z) fdz
  have f1 : upd H dz (.own z) z = none := by rw [upd_ne ndz.symm]; exact fz
  have s := s1.trans (same_upd (o := .ins CA dz []) f1)
  refine ⟨z, dz, p, dx, x, R, Fi, ch, Gs, ts, ks, ss, mt, ms, es, cs, rfl, upd_same, O, sG.trans s, sG.free fz, ?_, nd, fun c hc => ⟨(hcs c hc).1.same s, (hcs c hc).2⟩, hlen, fun G H' D cs' hO hS sGH sGs no keep => ⟨rfl, q G H' D cs' hO hS sGH sGs (fun b u e => keep b u (ne_of_none e fz) (s _ _ e)) fun b o h nt g => no b o (ne_of_none h fz) (s _ _ h) nt g⟩⟩
  rcases hch with h | ⟨D, e, h⟩
  · exact .inl h
  · exact .inr ⟨D, e, h.same s⟩
end
/-! ### the law's helpers: the first rows, mixed rows, copies -/
section
variable {P : Program} {w : World} {K : PySem.W.Frag} {mg : Str → Option Value} {base : Heap} {a : Nat → Addr} {d : Nat → FuncData}
def spLFst : Sp := fun vs H Q _ => ∃ (sA rA g : Addr) (n : Str) (r : RowK) (ts : List (Str × Int)) (ks : List KeyE) (ss : List SvE) (m : Nat) (es : List RwE) (b : SvE), vs = [.ref sA, .ref rA, .str n, .ref g] ∧ H sA = some (.dK (svK ss)) ∧ (ss.map (·.name)).Nodup ∧ b ∈ ss ∧ b.name = n ∧ SvOk H ts b ∧ Tabs ts m 4 ∧ RwsAt H rA ts ks es ∧
  RowAt H g r ∧ (∀ k ∈ r, KOk k) ∧ r.length ≤ 100 ∧ ∀ (us : List RowK) (q : Addr) (H' : Hp) (L : List (Addr × RowK)), Srt us (rowsOf es b.tab) → (∀ u ∈ us, ∀ k ∈ u, KOk k) → H' q = some (.lst (L.map fun y => V.ref y.1)) → RowsAt H' L → L.map (·.2) = (fitR b.cols r us).take (capN b.cap (fitR b.cols r us).length) → Same H H' → Q (.ref q) H'
theorem take_all {α : Type} {xs : List α} {n : Nat} (h : xs.length ≤ n) : xs.take n = xs := List.take_of_length_le h
theorem ok_lfst (T : Txt K mg a d) : FnOk P w K mg base CX0 6 (a 70) (d 70) ["_law_services_here", "_law_rows_here", "_law_service", "_law_values"] spLFst := by
  have G69 : FnOk P w K mg base CX0 5 (a 69) (d 69) ["_law_services_here", "_law_rows_here", "_law_service", "_law_values"] spLFit := ok_lfit T
  refine T.F70.ok sc__law_first (fun vs H Q E h => ?_) (fun cdv A outer s H vs Q E hr h => ?_)
  · obtain ⟨sA, rA, g, n, r, ts, ks, ss, m, es, b, rfl, _⟩ := h
    rfl
  · obtain ⟨sA, rA, g, n, r, ts, ks, ss, m, es, b, rfl, hs, snd, hb, rfl, sok, hT, hR, hg, hgk, hgl, q⟩ := h
    have hv : valV (svK ss) (Sum.inr b.name) = some (.ref b.at_) := val_nodup (by rw [keys_sv]; exact inr_nd snd) (Sum.inr b.name, V.ref b.at_) (List.mem_map.mpr ⟨b, hb, rfl⟩)
    refine ⟨_, (pss_cons (ps_set (i := 4) sc__law_first.nd rfl (.inl rfl) (pe_call G69 (hr.mono (by decide)) (by rfl) T.g69 T.F69.kp T.b69 .nil pass0 (pa_cons (pv 0) (pa_cons (pv 1) (pa_cons (pv 2) (pa_cons (pv 3) pa_nil))))))
  (pss_cons (ps_set (i := 5) sc__law_first.nd rfl (.inl rfl) (pe_ix ix_tup (pe_dget (hu_of hr) (pv 0) (pv 2) (fun _ _ => rfl)) pe_int (fun _ _ => rfl)))
  (pss_cons (ps_if (PW.pt (pw_or (pt_cmpR op_isN (pv 5) pe_non (nomark _)) (pw_or1 (pt_cmpR op_le (pe_callB (id := "len")  call_len_seq (by rfl) T.z_len (by decide +kernel) (pa_cons (pv 4) pa_nil)) (pv 5) (nomark _)))))
    (pss_one (ps_ret (pv 4)))
    pss_nil)
  (pss_one (ps_ret (pe_slice sl_list (pv 4) po_none (po_some (pv 5)))))))), ?_⟩
    refine ⟨_, rfl, _, rfl, _, rfl, _, rfl, sA, rA, g, b.name, r, ts, ks, ss, m, es, b, rfl, hs, snd, hb, rfl, sok, hT, hR, hg, hgk, hgl, fun us l H1 L hus husk hl hL eL s1 => ?_⟩
    have fin := fun q' H2 L2 => q us q' H2 L2 hus husk
    refine ⟨_, rfl, _, rfl, sA, _, rfl, (DctAt.of (s1 _ _ hs)).at_ (by rw [keys_sv]; exact inr_nd snd) hv, _, _, _, _, rfl, rfl, .of (s1 _ _ sok.told.tup), atI_nat (j := 2) rfl, ?_⟩
    refine ⟨_, rfl, rfl, _, rfl, ?_⟩
    rw [capV_none]
    have hcap := sok.cap
    have lL : L.length = (fitR b.cols r us).length := by rw [← eL, List.length_map]
    cases ec : b.cap with
    | none =>
      refine ⟨_, rfl, fin l H1 L hl hL ?_ s1⟩
      rw [ec]
      show _ = (fitR b.cols r us).take (fitR b.cols r us).length
      rw [List.take_length]
      exact eL
    | some c =>
      obtain ⟨c1, c4⟩ := hcap c ec
      refine ⟨_, rfl, l, _, rfl, .inl (.of hl), _, rfl, _, _, rfl, rfl, _, rfl, ite_d (fun le => ?_) (fun gt => ?_)⟩
      · refine ⟨_, rfl, fin l H1 L hl hL ?_ s1⟩
        rw [List.length_map] at le
        rw [ec]
        show _ = (fitR b.cols r us).take (min c.toNat (fitR b.cols r us).length)
        rw [take_all (by omega)]
        exact eL
      · refine ⟨_, rfl, _, rfl, c, rfl, l, _, rfl, .of hl, fun q' hq' => ?_⟩
        rw [List.length_map] at gt
        have ecn : c = ((c.toNat : Nat) : Int) := by omega
        have e2 : cutV (L.map fun y => V.ref y.1) none (some c) = (L.take c.toNat).map fun y => V.ref y.1 := by
          rw [ecn, cut_take, ← List.map_take]
          rfl
        rw [e2]
        have sq := same_upd (o := .lst ((L.take c.toNat).map fun y => V.ref y.1)) hq'
        refine fin q' _ (L.take c.toNat) upd_same (fun y hy => sq _ _ (hL y (List.mem_of_mem_take hy))) ?_ (s1.trans sq)
        rw [ec]
        show _ = (fitR b.cols r us).take (min c.toNat (fitR b.cols r us).length)
        rw [List.map_take, eL, Nat.min_eq_left (by omega)]
def spLMix : Sp := fun vs H Q _ => ∃ (pl l : Addr) (L : List (Addr × RowK)), vs = [.ref pl, .ref l] ∧ PoolAt H pl ∧ H l = some (.lst (L.map fun y => V.ref y.1)) ∧ l ≠ pl ∧ L.length ≤ 900 ∧
  ∀ (q : Addr) (H' : Hp) (L' : List (Addr × RowK)), H q = none → H' q = some (.lst (L'.map fun y => V.ref y.1)) → L'.Perm L → Chg pl H H' → Q (.ref q) H'
theorem erase_map {α β : Type} (f : α → β) : ∀ (l : List α) (i : Nat), (l.map f).eraseIdx i = (l.eraseIdx i).map f
  | [], _ => rfl
  | _ :: _, 0 => rfl
  | x :: l, i + 1 => by rw [List.map_cons, List.eraseIdx_cons_succ, List.eraseIdx_cons_succ, List.map_cons, erase_map f l i]
theorem erase_perm {α : Type} : ∀ {l : List α} {i : Nat} {x : α}, l[i]? = some x → (x :: l.eraseIdx i).Perm l
  | [], i, x, h => by simp at h
  | y :: l, 0, x, h => by
    have : y = x := by simpa using h
    rw [this]
    exact .refl _
  | y :: l, i + 1, x, h => by
    have h' : l[i]? = some x := by simpa using h
    rw [List.eraseIdx_cons_succ]
    exact (List.Perm.swap y x _).trans ((erase_perm h').cons y)
theorem ok_lmix (T : Txt K mg a d) : FnOk P w K mg base CX0 3 (a 71) (d 71) ["_law_pool_here", "_law_rows_here"] spLMix := by
  have G52 : FnOk P w K mg base CX0 2 (a 52) (d 52) ["_law_pool_here", "_law_many"] spDraw := ok_draw T
  refine T.F71.ok sc__law_mixed_rows (fun vs H Q E h => ?_) (fun cdv A outer s H vs Q E hr h => ?_)
  · obtain ⟨pl, l, L, rfl, _⟩ := h
    rfl
  · obtain ⟨pl, l, L, rfl, hP, hl, nl, hlen, q⟩ := h
    refine ⟨_, (pss_cons (ps_set (i := 2) sc__law_mixed_rows.nd rfl (.inl rfl) (pe_callTy (T := "list")  call_list_of (by rfl) T.z_list (by decide +kernel) (pa_cons (pv 1) pa_nil)))
  (pss_cons (ps_set (i := 3) sc__law_mixed_rows.nd rfl (.inl rfl) (pe_lst pa_nil))
  (pss_cons (ps_for PassesOwn.never rfl (pi_range1 (by rfl) T.z_range (pa_cons (pe_callB (id := "len")  call_len_seq (by rfl) T.z_len (by decide +kernel) (pa_cons (pv 1) pa_nil)) pa_nil)) (pg_name (i := 4) sc__law_mixed_rows.nd rfl (.inl rfl))
    (pss_one (ps_expr (pe_bm PySem.F.plainAttrs_list PySem.F.slot_list_append PySem.F.type_list_append mt_append (pv 3) (pa_cons (pe_bm PySem.F.plainAttrs_list PySem.F.slot_list_pop PySem.F.type_list_pop mt_popAt (pv 2) (pa_cons (pe_call G52 (hr.mono (by decide)) (by rfl) T.g52 T.F52.kp T.b52 .nil pass0 (pa_cons (pv 0) (pa_cons (pe_callB (id := "len")  call_len_seq (by rfl) T.z_len (by decide +kernel) (pa_cons (pv 2) pa_nil)) pa_nil))) pa_nil)) pa_nil)))))
  (pss_one (ps_ret (pv 3)))))), ?_⟩
    refine ⟨_, rfl, l, _, rfl, .inl (.of hl), fun lf hlf => ⟨Nat.zero_le _, fun F hF => ?_⟩⟩
    have c1 := (Chg.refl hP).new (o := .lst (L.map fun y => V.ref y.1)) hlf
    have c2 := c1.new (o := .lst []) hF
    have nF : F ≠ lf := fun n => by rw [n, upd_same] at hF; cases hF
    have hF0 : H F = none := by rw [upd_ne nF] at hF; exact hF
    have npF := Chg.ne hP hF0
    have npl := Chg.ne hP hlf
    have g1 : upd (upd H lf (.lst (L.map fun y => V.ref y.1))) F (.lst []) lf = some (.lst (L.map fun y => V.ref y.1)) := by rw [upd_ne nF.symm]; exact upd_same
    have g2 : upd (upd H lf (.lst (L.map fun y => V.ref y.1))) F (.lst []) F = some (.lst []) := upd_same
    generalize upd (upd H lf (.lst (L.map fun y => V.ref y.1))) F (.lst []) = H2 at c2 g1 g2 ⊢
    refine ⟨_, rfl, l, _, rfl, .inl (.of (c2.at nl hl)), L.length, by rw [List.length_map], by omega, by omega, for_range (lo := 0) (n := L.length) (fun i σ H' => ∃ (N M : List (Addr × RowK)) (y4 : Option V), σ = [some (.ref pl), some (.ref l), some (.ref lf), some (.ref F), y4] ∧ H' lf = some (.lst (M.map fun y => V.ref y.1)) ∧ H' F = some (.lst (N.map fun y => V.ref y.1)) ∧ (N ++ M).Perm L ∧ N.length = i ∧ Chg pl H H') ⟨[], L, none, rfl, g1, g2, .refl _, rfl, c2⟩ (fun i σ H' hi hp => ?_) (fun σ H' hp => ?_)⟩
    · obtain ⟨N, M, y4, rfl, hM, hN, pm, ln, C⟩ := hp
      have lM : M.length = L.length - i := by
        have := pm.length_eq
        rw [List.length_append] at this
        omega
      refine ⟨_, rfl, .inl ⟨rfl, _, .of hN⟩, _, rfl, .inl ⟨rfl, _, .of hM⟩, _, rfl, _, rfl, lf, _, rfl, .inl (.of hM), pl, _, rfl, C.1, by rw [List.length_map]; omega, Nat.lt_of_le_of_lt (by rw [List.length_map]; omega : _ ≤ 1000) (by decide), fun r H3 r0 r1 C3 => ?_⟩
      rw [List.length_map] at r1
      have ri : r.toNat < M.length := by omega
      have hM3 := C3.at npl hM
      have hN3 := C3.at npF hN
      refine ⟨lf, _, r, r.toNat, .ref M[r.toNat].1, rfl, rfl, hM3, by omega, by omega, ?_, by rw [List.getElem?_map, List.getElem?_eq_getElem ri]; rfl, ?_⟩
      · rw [List.length_map]
        unfold seqIndex?
        rw [if_neg (show ¬ r < 0 by omega)]
        simp only [show (0 : Int) ≤ r from r0, show r < (M.length : Int) by omega, decide_true, Bool.and_self, if_true]
      · rw [erase_map]
        have hN4 : upd H3 lf (.lst ((M.eraseIdx r.toNat).map fun y => V.ref y.1)) F = some (.lst (N.map fun y => V.ref y.1)) := by rw [upd_ne nF]; exact hN3
        refine ⟨F, _, _, rfl, rfl, hN4, ?_, N ++ [M[r.toNat]], M.eraseIdx r.toNat, _, rfl, ?_, ?_, ?_, ?_, ?_⟩
        · rw [List.length_map]
          exact small1000 (by omega)
        · rw [upd_ne nF.symm]
          exact upd_same
        · rw [List.map_append]
          exact upd_same
        · rw [List.append_assoc]
          exact ((erase_perm (List.getElem?_eq_getElem ri)).append_left N).trans pm
        · rw [List.length_append, ln]
          rfl
        · exact ((C.trans C3).mut hlf npl).mut hF0 npF
    · obtain ⟨N, M, y4, rfl, hM, hN, pm, ln, C⟩ := hp
      have lM : M = [] := by
        have := pm.length_eq
        rw [List.length_append] at this
        exact List.length_eq_zero_iff.mp (by omega)
      rw [lM, List.append_nil] at pm
      exact ⟨_, rfl, q F H' N hF0 hN pm C⟩
end
/-! ### the calls that the law makes -/
def tupC (k : CK) : PyData := .tuple [.str k.1, tupD k.2]
theorem dp_ck {K : PySem.W.Frag} {H : Hp} {b : Addr} {k : CK} (h : CkAt H b k) : Dp K H (.ref b) (tupC k) := by
  obtain ⟨c, h1, h2⟩ := h
  exact .tup (.of h1) (.cons (.str _) (.cons (dp_tup h2) .nil))
theorem eqv_ck (k l : CK) : PyData.eqv (tupC k) (tupC l) = decide (k = l) := by
  obtain ⟨k1, k2⟩ := k
  obtain ⟨l1, l2⟩ := l
  show PyData.eqv (.tuple [.str k1, tupD k2]) (.tuple [.str l1, tupD l2]) = _
  simp only [PyData.eqv, PyData.eqvAll, eqv_tup, Bool.and_true]
  by_cases e1 : k1 = l1 <;> by_cases e2 : k2 = l2 <;> simp [e1, e2]
theorem lay_ck {k : CK} (h : CkOk k) : (tupC k).canLay0 = true ∧ (tupC k).depth ≤ 2 := by
  obtain ⟨h1, h2⟩ := lay_keys h.2.1
  have e1 : (tupD k.2).canLay0 = true := by
    show PyData.canLay0 (.tuple (k.2.map keyD)) = true
    simp only [PyData.canLay0]
    exact h1
  have e2 : (tupD k.2).depth = 1 := by
    show PyData.depth (.tuple (k.2.map keyD)) = 1
    simp only [PyData.depth, h2]
  unfold tupC
  simp only [PyData.canLay0, PyData.canLayAll0, PyData.depth, PyData.depthAll, h.1, e1, e2, Bool.and_self, true_and]
  decide
theorem ck_shaped {k : CK} (h : CkOk k) : SeqAt.shaped (tupC k) = true := by
  obtain ⟨h1, h2⟩ := lay_ck h
  unfold SeqAt.shaped
  rw [h1, Bool.true_and]
  exact decide_eq_true (by omega)
theorem lay_cks : ∀ {ks : List CK}, (∀ k ∈ ks, CkOk k) → PyData.canLayAll0 (ks.map tupC) = true ∧ PyData.depthAll (ks.map tupC) ≤ 2
  | [], _ => by simp [PyData.canLayAll0, PyData.depthAll]
  | k :: ks, h => by
    obtain ⟨h1, h2⟩ := lay_cks (ks := ks) fun x hx => h x (List.mem_cons_of_mem _ hx)
    obtain ⟨h3, h4⟩ := lay_ck (h k List.mem_cons_self)
    simp only [List.map_cons, PyData.canLayAll0, PyData.depthAll, h1, h3, Bool.and_self, true_and]
    omega
theorem cks_shaped {ks : List CK} (h : ∀ k ∈ ks, CkOk k) : SeqAt.shaped (.list (ks.map tupC)) = true := by
  obtain ⟨h1, h2⟩ := lay_cks h
  unfold SeqAt.shaped
  simp only [PyData.canLay0, PyData.depth, h1, Bool.true_and]
  exact decide_eq_true (by omega)
def hasK (ks : List CK) (k : CK) : Bool := ks.any fun x => decide (x = k)
theorem hasK_iff {ks : List CK} {k : CK} : hasK ks k = true ↔ k ∈ ks := by
  unfold hasK
  rw [List.any_eq_true]
  exact ⟨fun ⟨x, hx, e⟩ => by rw [← of_decide_eq_true e]; exact hx, fun h => ⟨k, h, decide_eq_true rfl⟩⟩
theorem hasK_no {ks : List CK} {k : CK} (h : k ∉ ks) : hasK ks k = false := by
  cases e : hasK ks k with
  | false => rfl
  | true => exact absurd (hasK_iff.mp e) h
theorem any_ck (ks : List CK) (k : CK) : ((ks.map tupC).any fun z => PyData.eqv z (tupC k)) = hasK ks k := by
  rw [List.any_map]
  unfold hasK
  congr 1
  funext x
  exact eqv_ck x k
abbrev CksAt (H : Hp) (L : List (Addr × CK)) : Prop := ∀ b ∈ L, CkAt H b.1 b.2
theorem CksAt.same {H H' : Hp} {L : List (Addr × CK)} (h : CksAt H L) (s : Same H H') : CksAt H' L := fun b hb => L2.CkAt.same (h b hb) s
theorem dp_cks {K : PySem.W.Frag} {H : Hp} : ∀ {L : List (Addr × CK)}, CksAt H L → DpAll K H (L.map fun b => V.ref b.1) ((L.map (·.2)).map tupC)
  | [], _ => .nil
  | b :: L, h => .cons (dp_ck (h b List.mem_cons_self)) (dp_cks fun x hx => h x (List.mem_cons_of_mem _ hx))
/-- a call that fits its service -/
def CallR (ss : List SvE) (k : CK) : Prop := ∃ b ∈ ss, b.name = k.1 ∧ (∀ x ∈ k.2, KVal x) ∧ k.2.length = b.cols.length
theorem projR_val {cs : List Int} {r : RowK} {w : Int} (h : ∀ k ∈ r, KVal k) (hc : ∀ c ∈ cs, 0 ≤ c ∧ c < w) (hw : (r.length : Int) = w) : ∀ k ∈ projR cs r, KVal k := fun k hk => by
  obtain ⟨c, hc', rfl⟩ := List.mem_map.mp hk
  have := hc c hc'
  rw [List.getD_eq_getElem?_getD, List.getElem?_eq_getElem (by omega)]
  exact h _ (List.getElem_mem _)
section
variable {P : Program} {w : World} {K : PySem.W.Frag} {mg : Str → Option Value} {base : Heap} {a : Nat → Addr} {d : Nat → FuncData}
def spLCalls : Sp := fun vs H Q _ => ∃ (sA rA : Addr) (ts : List (Str × Int)) (ks : List KeyE) (ss : List SvE) (m : Nat) (es : List RwE), vs = [.ref sA, .ref rA] ∧ H sA = some (.dK (svK ss)) ∧ (ss.map (·.name)).Nodup ∧ (∀ b ∈ ss, SvOk H ts b ∧ b.tab ∈ es.map (·.name) ∧ PyData.strOk b.name = true) ∧ ss.length ≤ 8 ∧ Tabs ts m 4 ∧ RwsAt H rA ts ks es ∧ (∀ c ∈ es, c.rows.length ≤ 8) ∧
  ∀ (q : Addr) (H' : Hp) (L : List (Addr × CK)), H q = none → H' q = some (.lst (L.map fun b => V.ref b.1)) → CksAt H' L → (L.map (·.2)).Nodup → (∀ b ∈ L, CallR ss b.2) → L.length ≤ 64 → Same H H' → Q (.ref q) H'
theorem callR_ok {ts : List (Str × Int)} {H : Hp} {ss : List SvE} (h : ∀ b ∈ ss, SvOk H ts b ∧ PyData.strOk b.name = true) {k : CK} (hk : CallR ss k) : CkOk k := by
  obtain ⟨b, hb, e, h1, h2⟩ := hk
  obtain ⟨_, _, _, w3⟩ := (h b hb).1.ok
  exact ⟨by rw [← e]; exact (h b hb).2, fun x hx => (h1 x hx).ok, by omega⟩
theorem ok_lcalls (T : Txt K mg a d) : FnOk P w K mg base CX0 1 (a 72) (d 72) ["_law_services_here", "_law_rows_here"] spLCalls := by
  refine T.F72.ok sc__law_calls (fun vs H Q E h => ?_) (fun cdv A outer s H vs Q E hr h => ?_)
  · obtain ⟨sA, rA, ts, ks, ss, m, es, rfl, _⟩ := h
    rfl
  · obtain ⟨sA, rA, ts, ks, ss, m, es, rfl, hs, snd, hss, s8, hT, hR, h8, q⟩ := h
    refine ⟨_, (pss_cons (ps_set (i := 2) sc__law_calls.nd rfl (.inl rfl) (pe_lst pa_nil))
  (pss_cons (ps_for PassesOwn.never rfl (pi_list (pe_callTy (T := "list")  (call_listD rfl) (by rfl) T.z_list (by decide +kernel) (pa_cons (pv 0) pa_nil))) (pg_name (i := 3) sc__law_calls.nd rfl (.inl rfl))
    (pss_cons (ps_asg (pe_dget (hu_of hr) (pv 0) (pv 3) (fun _ _ => rfl)) (pg_tup rfl (pgs_cons (pg_name (i := 4) sc__law_calls.nd rfl (.inl rfl)) (pgs_cons (pg_name (i := 5) sc__law_calls.nd rfl (.inl rfl)) (pgs_cons (pg_name (i := 6) sc__law_calls.nd rfl (.inl rfl)) pgs_nil)))))
      (pss_one (ps_for PassesOwn.never rfl (pi_list (pe_dget (hu_of hr) (pv 1) (pv 4) (fun _ _ => rfl))) (pg_name (i := 7) sc__law_calls.nd rfl (.inr rfl))
        (pss_cons (ps_set (i := 8) sc__law_calls.nd rfl (.inl rfl) (pe_tup (pa_cons (pv 3) (pa_cons (pe_callTy (T := "tuple")  call_tuple_of (by rfl) T.z_tuple (by decide +kernel) (pa_cons (pe_lc (own := [("_law_at", 9)]) rfl sc__law_calls.nd (pi_tup (pv 5)) (blkOk_by (N := ["_law_services_here", "_law_rows_here", "_law_found", "_law_service", "_law_table", "_law_given", "_law_cap", "_law_row", "_law_call", "_law_at"]) (sc := defScope s__law_calls) (by decide +kernel)) (fun _ _ _ _ _ => pg_name (i := 9) sc__law_calls.nd rfl (.inl rfl)) (fun _ _ _ _ _ => pts_nil) (fun _ _ _ _ _ => (pe_ix (r := rIxT K) ix_tup (pv 7) (pv 9) (fun _ _ => rfl)))) pa_nil)) pa_nil))))
          (pss_one (ps_if (pt_cmpR (op_notInD (hu_of65 hr)) (pv 8) (pv 2) (by rfl))
            (pss_one (ps_expr (pe_bm PySem.F.plainAttrs_list PySem.F.slot_list_append PySem.F.type_list_append mt_append (pv 2) (pa_cons (pv 8) pa_nil))))
            pss_nil)))))))
  (pss_one (ps_ret (pv 2))))), ?_⟩
    refine ⟨Nat.zero_le _, fun F hF => ?_⟩
    have sF := same_upd (o := .lst []) hF
    refine ⟨_, rfl, sA, svK ss, rfl, .inl (sF _ _ hs), fun l2 hl2 => ⟨l2, rfl, ?_⟩⟩
    have e0 : (svK ss).map (fun kv => kV kv.1) = (ss.map (·.name)).map V.str := by
      unfold svK
      rw [List.map_map, List.map_map]
      rfl
    rw [e0]
    have sl := sF.trans (same_upd (o := .lst ((ss.map (·.name)).map V.str)) hl2)
    have nl : l2 ≠ F := fun n => by rw [n, upd_same] at hl2; cases hl2
    have hl0 := sF.free hl2
    have g1 : upd (upd H F (.lst [])) l2 (.lst ((ss.map (·.name)).map V.str)) l2 = some (.lst ((ss.map (·.name)).map V.str)) := upd_same
    have g2 : upd (upd H F (.lst [])) l2 (.lst ((ss.map (·.name)).map V.str)) F = some (.lst []) := by rw [upd_ne nl.symm]; exact upd_same
    generalize upd (upd H F (.lst [])) l2 (.lst ((ss.map (·.name)).map V.str)) = H2 at sl g1 g2 ⊢
    have cok : ∀ {k}, CallR ss k → CkOk k := fun hk => callR_ok (fun b hb => ⟨(hss b hb).1, (hss b hb).2.2⟩) hk
    refine ⟨⟨_, .of g1⟩, for_list (K := K) (a := l2) (xs := (ss.map (·.name)).map V.str) (fun i σ H' => ∃ (L : List (Addr × CK)) (y3 y4 y5 y6 y7 y8 y9 : Option V), σ = [some (.ref sA), some (.ref rA), some (.ref F), y3, y4, y5, y6, y7, y8, y9] ∧ H' l2 = some (.lst ((ss.map (·.name)).map V.str)) ∧ H' F = some (.lst (L.map fun b => V.ref b.1)) ∧ CksAt H' L ∧ (L.map (·.2)).Nodup ∧ (∀ b ∈ L, CallR ss b.2) ∧ L.length ≤ 8 * i ∧ Same H H') ⟨[], _, _, _, _, _, _, _, rfl, g1, g2, (fun b hb => nomatch hb), List.nodup_nil, (fun b hb => nomatch hb), Nat.zero_le _, sl⟩ (fun i σ H' _ hp => ?_) (fun i y σ H' hy hp => ?_) (fun σ H' hp => ?_)⟩
    · obtain ⟨L, _, _, _, _, _, _, _, rfl, h, _⟩ := hp
      exact .of h
    · obtain ⟨L, y3, y4, y5, y6, y7, y8, y9, rfl, hl', hF', hL, nL, rL, lL, s1⟩ := hp
      obtain ⟨nn, hnn, rfl⟩ := map_at hy
      obtain ⟨b, hb, rfl⟩ := map_at hnn
      have hbm := List.mem_of_getElem? hb
      have li : i < ss.length := (List.getElem?_eq_some_iff.mp hb).1
      obtain ⟨so, hbt, hbn⟩ := hss b hbm
      obtain ⟨wb, w1, w2, w3⟩ := so.ok
      have hv : valV (svK ss) (Sum.inr b.name) = some (.ref b.at_) := val_nodup (by rw [keys_sv]; exact inr_nd snd) (Sum.inr b.name, V.ref b.at_) (List.mem_map.mpr ⟨b, hbm, rfl⟩)
      refine ⟨_, rfl, _, rfl, sA, _, rfl, (DctAt.of (s1 _ _ hs)).at_ (by rw [keys_sv]; exact inr_nd snd) hv, b.at_, _, rfl, .of (s1 _ _ so.told.tup), rfl, _, _, rfl, _, _, rfl, _, _, rfl, rfl, ?_⟩
      obtain ⟨c, hc, ec⟩ := List.mem_map.mp hbt
      obtain ⟨cr, _, wc, wc1, wc2⟩ := hR.sub c hc
      have hvc : valV (rwK es) (Sum.inr b.tab) = some (.ref c.at_) := by rw [← ec]; exact rw_val hR.nm hc
      refine ⟨_, rfl, _, rfl, rA, _, rfl, (DctAt.of (s1 _ _ hR.dct)).at_ (rw_nd hR.nm) hvc, c.at_, rfl, ⟨_, .of (s1 _ _ cr.lst)⟩, ?_⟩
      refine for_list (K := K) (a := c.at_) (xs := c.rows.map fun y => V.ref y.1) (fun j σ H' => ∃ (L : List (Addr × CK)) (y7 y8 y9 : Option V), σ = [some (.ref sA), some (.ref rA), some (.ref F), some (.str b.name), some (.str b.tab), some (.ref b.ga), some (capV b.cap), y7, y8, y9] ∧ H' l2 = some (.lst ((ss.map (·.name)).map V.str)) ∧ H' F = some (.lst (L.map fun b => V.ref b.1)) ∧ CksAt H' L ∧ (L.map (·.2)).Nodup ∧ (∀ b ∈ L, CallR ss b.2) ∧ L.length ≤ 8 * i + j ∧ Same H H') ⟨L, _, _, _, rfl, hl', hF', hL, nL, rL, lL, s1⟩ (fun j σ H' _ hp => ?_) (fun j y σ H' hy hp => ?_) (fun σ H' hp => ?_)
      · obtain ⟨L, _, _, _, rfl, _, _, _, _, _, _, s⟩ := hp
        exact .of (s _ _ cr.lst)
      · obtain ⟨L, y7, y8, y9, rfl, hl', hF', hL, nL, rL, lL, s1⟩ := hp
        obtain ⟨z, hz, rfl⟩ := map_at hy
        have hzm := List.mem_of_getElem? hz
        have hz' := s1 _ _ (cr.rows z hzm)
        obtain ⟨z1, z2⟩ := wc2.wid z.2 (List.mem_map.mpr ⟨z, hzm, rfl⟩)
        have ew : wc = wb := by
          rw [ec] at wc1
          rw [← widthAt_mem hT.nm.nd wc1, ← widthAt_mem hT.nm.nd w1]
        rw [ew] at z1
        have lj : j < c.rows.length := (List.getElem?_eq_some_iff.mp hz).1
        have l8 := h8 c hc
        have hc' := s1 _ _ so.told.cols
        refine ⟨_, rfl, _, rfl, b.ga, rfl, ⟨_, .of hc'⟩, fun D hD => ?_⟩
        refine lc_tup (K := K) (a := b.ga) (xs := b.cols.map V.int) (fun k H2 => H2 D = some (.lst ((projR (b.cols.take k) z.2).map kV)) ∧ Same H' H2) ⟨upd_same, same_upd hD⟩ (fun k H2 _ hp => .of (hp.2 _ _ hc')) (fun k x H2 hx h => ?_) (fun H2 h => ?_)
        · obtain ⟨e, he, rfl⟩ := map_at hx
          have hem := w2.2 e (List.mem_of_getElem? he)
          have hk : k < b.cols.length := (List.getElem?_eq_some_iff.mp he).1
          refine ⟨rfl, _, rfl, _, rfl, z.1, _, e, _, rfl, rfl, .of (h.2 _ _ hz'), getD_at hem.1 (by omega), _, h.1, ?_, ?_, fun x o e => ?_⟩
          · unfold projR
            rw [List.length_map, List.length_map, List.length_take]
            exact small1000 (by omega)
          · rw [projR_snoc he, List.map_append]
            exact upd_same
          · rw [upd_ne (ne_of_none e hD)]
            exact h.2 x o e
        · obtain ⟨h1, h2⟩ := h
          rw [List.length_map, List.take_length] at h1
          refine ⟨D, _, rfl, .inl ⟨.of h1, fun t ht => ⟨by show 2 ≤ sizeLine; decide, fun cl hcl => ?_⟩⟩⟩
          have s4 := h2.trans (same_upd (o := .tup ((projR b.cols z.2).map kV)) ht)
          have s5 := same_upd (o := .tup [.str b.name, .ref t]) hcl
          have pk : ∀ k ∈ projR b.cols z.2, KVal k := projR_val z2 (fun c hc => w2.2 c hc) z1
          have ck : CkAt (upd (upd H2 t (.tup ((projR b.cols z.2).map kV))) cl (.tup [.str b.name, .ref t])) cl (b.name, projR b.cols z.2) := ⟨t, upd_same, s5 _ _ upd_same⟩
          have s6 := s4.trans s5
          have cR : CallR ss (b.name, projR b.cols z.2) := ⟨b, hbm, rfl, pk, by unfold projR; rw [List.length_map]⟩
          generalize upd (upd H2 t (.tup ((projR b.cols z.2).map kV))) cl (.tup [.str b.name, .ref t]) = H6 at s6 ck ⊢
          have hF6 := s6 _ _ hF'
          have hL6 := hL.same s6
          refine ⟨_, rfl, _, rfl, tupC (b.name, projR b.cols z.2), (L.map (·.2)).map tupC, dp_ck ck, .lst (.of hF6) (dp_cks hL6), ck_shaped (cok cR), cks_shaped (fun k hk => ?_), _, rfl, ?_⟩
          · obtain ⟨y, hy, rfl⟩ := List.mem_map.mp hk
            exact cok (rL y hy)
          · rw [any_ck]
            by_cases hm : (b.name, projR b.cols z.2) ∈ L.map (·.2)
            · rw [hasK_iff.mpr hm]
              exact ifF ⟨L, _, _, _, rfl, s6 _ _ hl', hF6, hL6, nL, rL, by omega, s1.trans s6⟩
            · rw [hasK_no hm]
              refine ifT ?_
              have nt : ∀ {b ys}, H6 b = some (.tup ys) → ∀ {o}, upd H6 F o b = some (.tup ys) := fun {b ys} e {o} => by rw [upd_ne (ne_of e hF6 (by intro z; cases z))]; exact e
              refine ⟨_, rfl, .inl ⟨rfl, _, .of hF6⟩, _, rfl, F, _, _, rfl, rfl, hF6, ?_, L ++ [(cl, (b.name, projR b.cols z.2))], _, _, _, rfl, ?_, ?_, fun y hy => ?_, ?_, fun y hy => ?_, ?_, fun c o e => ?_⟩
              · rw [List.length_map]
                exact small1000 (by omega)
              · rw [upd_ne nl]
                exact s6 _ _ hl'
              · rw [List.map_append]
                exact upd_same
              · rcases List.mem_append.mp hy with h | h
                · exact (hL6 y h).keeps fun _ _ e => nt e
                · rw [List.mem_singleton.mp h]
                  exact ck.keeps fun _ _ e => nt e
              · rw [List.map_append, List.nodup_append]
                refine ⟨nL, by simp, fun x hx y hy e => hm ?_⟩
                have e3 : x = (b.name, projR b.cols z.2) := e.trans (List.mem_singleton.mp hy)
                rw [← e3]
                exact hx
              · rcases List.mem_append.mp hy with h | h
                · exact rL y h
                · rw [List.mem_singleton.mp h]
                  exact cR
              · rw [List.length_append]
                show L.length + 1 ≤ _
                omega
              · rw [upd_ne (ne_of_none e hF)]
                exact s6 _ _ (s1 _ _ e)
      · obtain ⟨L, y7, y8, y9, rfl, hl', hF', hL, nL, rL, lL, s1⟩ := hp
        rw [List.length_map] at lL
        exact ⟨L, _, _, _, _, _, _, _, rfl, hl', hF', hL, nL, rL, by have := h8 c hc; omega, s1⟩
    · obtain ⟨L, y3, y4, y5, y6, y7, y8, y9, rfl, hl', hF', hL, nL, rL, lL, s1⟩ := hp
      rw [List.length_map, List.length_map] at lL
      exact ⟨_, rfl, q F H' L hF hF' hL nL rL (by omega) s1⟩
end
/-! ### copies of choices; chosen answers -/
/-- a right choice, as the law sees it -/
structure ChL (us : Str → List RowK) (ss : List SvE) (c : ChE) : Prop where
  ex : ∃ b ∈ ss, b.name = c.svc ∧ (∀ k ∈ c.vals, KVal k) ∧ c.vals.length = b.cols.length ∧ AnsR b (fitR b.cols c.vals (us b.tab)) (c.rows.map (·.2))
theorem ChL.chR {us : Str → List RowK} {ss : List SvE} {es : List TabE} {c : ChE} (h : ChL us ss c) (hu : ∀ e ∈ es, e.2.2 = us e.1) (ht : ∀ b ∈ ss, b.tab ∈ es.map (·.1)) : ChR ss es c := by
  obtain ⟨b, hb, e1, e2, e3, e4⟩ := h.ex
  obtain ⟨e, he, ee⟩ := List.mem_map.mp (ht b hb)
  exact ⟨b, e, hb, e1, he, ee, e2, e3, by rw [hu e he, ee]; exact e4⟩
theorem rows_ne_pool {H : Hp} {pl q : Addr} {L : List (Addr × RowK)} (hP : PoolAt H pl) (h : H q = some (.lst (L.map fun y => V.ref y.1))) : q ≠ pl := fun n => by
  obtain ⟨a0, a1, a2, a3, r, e, _⟩ := hP
  rw [n, e] at h
  cases L with
  | nil => simp at h
  | cons x L => simp at h
section
variable {P : Program} {w : World} {K : PySem.W.Frag} {mg : Str → Option Value} {base : Heap} {a : Nat → Addr} {d : Nat → FuncData}
def spCopN (w : World) : Sp := fun vs H Q _ => ∃ (t : Addr) (cs : List ChE), vs = [.ref t] ∧ NDictR w H t (chK cs) ∧ (cs.map ChE.key).Nodup ∧ (∀ c ∈ cs, ChAt H c) ∧ cs.length ≤ 900 ∧
  ∀ (F : Addr) (H' : Hp) (cs' : List ChE), H F = none → NDict w H' F (chK cs') → (cs'.map ChE.key = cs.map ChE.key) → (∀ c' ∈ cs', ChAt H' c' ∧ H c'.at_ = none ∧ ∃ c ∈ cs, c.key = c'.key ∧ c.rows = c'.rows) → Same H H' → Q (.ref F) H'
theorem ok_copN (T : Txt K mg a d) : FnOk P w K mg base CX0 1 (a 68) (d 68) ["_law_lists"] (spCopN w) := by
  refine T.F68.ok sc__law_copies (fun vs H Q E h => ?_) (fun cdv A outer s H vs Q E hr h => ?_)
  · obtain ⟨t, cs, rfl, _⟩ := h
    rfl
  · obtain ⟨t, cs, rfl, hn, nd, hcs, hlen, q⟩ := h
    refine ⟨_, (pss_cons (ps_set (i := 1) sc__law_copies.nd rfl (.inl rfl) (pe_nnew (w := w) (by rfl)))
  (pss_cons (ps_for PassesOwn.never rfl (pi_list (pe_callTy (T := "list")  (call_list_nd (w := w) (by rfl) rfl) (by rfl) T.z_list (by decide +kernel) (pa_cons (pv 0) pa_nil))) (pg_name (i := 2) sc__law_copies.nd rfl (.inl rfl))
    (pss_one (ps_nput (w := w) (by rfl) (by exact hu_of9 hr) (pv 1) (pv 2) (pe_callTy (T := "list")  call_list_of (by rfl) T.z_list (by decide +kernel) (pa_cons (pe_nget (w := w) (by rfl) (by exact hu_of9 hr) (pv 0) (pv 2) (fun _ _ => rfl)) pa_nil)) rfl)))
  (pss_one (ps_ret (pv 1))))), ?_⟩
    intro F φ0 hF nd0
    have sF := same_upd (o := .ext φ0) hF
    generalize upd H F (.ext φ0) = H1 at nd0 sF ⊢
    refine ⟨_, rfl, t, chK cs, rfl, hn.same sF, fun l bs hl hk => ⟨l, rfl, ?_⟩⟩
    obtain ⟨L, b1, b2, b3⟩ := nkeys_zip hk
    have sl := same_upd (o := .lst (bs.map V.ref)) hl
    have ebs : bs.map V.ref = L.map fun b => V.ref b.1 := by rw [← b1, List.map_map]; rfl
    have hl2 : upd H1 l (.lst (bs.map V.ref)) l = some (.lst (L.map fun b => V.ref b.1)) := by rw [← ebs]; exact upd_same
    have s2 := sF.trans sl
    have nd2 := nd0.same sl
    have b3' : CksAt (upd H1 l (.lst (bs.map V.ref))) L := fun b hb => L2.CkAt.same (b3 b hb) sl
    generalize upd H1 l (.lst (bs.map V.ref)) = H2 at hl2 s2 nd2 b3' ⊢
    clear b3 hk hl sl nd0 sF
    have ndL : (L.map (·.2)).Nodup := by rw [b2]; exact nd
    refine ⟨⟨_, .of hl2⟩, for_list (K := K) (a := l) (xs := L.map fun b => V.ref b.1) (fun i σ H' => ∃ (cs1 : List ChE) (y2 : Option V), σ = [some (.ref t), some (.ref F), y2] ∧ H' l = some (.lst (L.map fun b => V.ref b.1)) ∧ NDict w H' F (chK cs1) ∧ cs1.map ChE.key = (L.take i).map (·.2) ∧ (∀ c' ∈ cs1, ChAt H' c' ∧ H c'.at_ = none ∧ ∃ c ∈ cs, c.key = c'.key ∧ c.rows = c'.rows) ∧ CksAt H' L ∧ Same H H') ⟨[], none, rfl, hl2, nd2, rfl, (fun c hc => nomatch hc), b3', s2⟩ (fun i σ H' _ hp => ?_) (fun i y σ H' hy hp => ?_) (fun σ H' hp => ?_)⟩
    · obtain ⟨cs1, y2, rfl, h, _⟩ := hp
      exact .of h
    · obtain ⟨cs1, y2, rfl, hl', m2, m1, m3, hL, s⟩ := hp
      obtain ⟨b, hb, rfl⟩ := map_at hy
      have hbm := List.mem_of_getElem? hb
      have li : i < L.length := (List.getElem?_eq_some_iff.mp hb).1
      obtain ⟨c, hc, ec⟩ : ∃ c ∈ cs, c.key = b.2 := by
        have : b.2 ∈ cs.map ChE.key := by rw [← b2]; exact List.mem_map.mpr ⟨b, hbm, rfl⟩
        obtain ⟨c, hc, e⟩ := List.mem_map.mp this
        exact ⟨c, hc, e⟩
      have lL : L.length = cs.length := by
        have := congrArg List.length b2
        rw [List.length_map, List.length_map] at this
        exact this
      have hcc := (hcs c hc).same s
      refine ⟨_, rfl, _, rfl, t, b.1, chK cs, c.key, .ref c.at_, rfl, rfl, hn.same s, by rw [ec]; exact hL b hbm, ch_val nd hc, c.at_, _, rfl, .inl (.of hcc.lst), fun l2 hl2 => ?_⟩
      have s7 := same_upd (o := .lst (c.rows.map fun y => V.ref y.1)) hl2
      have e7 : upd H' l2 (.lst (c.rows.map fun y => V.ref y.1)) l2 = some (.lst (c.rows.map fun y => V.ref y.1)) := upd_same
      generalize upd H' l2 (.lst (c.rows.map fun y => V.ref y.1)) = H7 at s7 e7 ⊢
      have m2' := m2.same s7
      refine ⟨_, rfl, _, rfl, F, b.1, chK cs1, c.key, rfl, rfl, m2', by rw [ec]; exact L2.CkAt.same (hL b hbm) s7, ?_, fun φ nd' => ?_⟩
      · unfold chK
        rw [List.length_map, ← List.length_map (f := ChE.key), m1, List.length_map, List.length_take]
        exact small1000 (by omega)
      · have hno : valV (chK cs1) c.key = none := by
          refine nd_none ?_
          rw [ch_keys, m1, ec]
          intro hm
          have h1 : ((L.take (i + 1)).map (·.2)).Nodup := ndL.sublist ((List.take_sublist _ _).map _)
          rw [map_take hb, List.nodup_append] at h1
          exact h1.2.2 _ hm _ (List.mem_singleton.mpr rfl) rfl
        rw [putK_new _ hno] at nd'
        obtain ⟨φ', e'⟩ := m2'.at_
        have l2F : l2 ≠ F := fun n => by
          rw [n, e'] at e7
          cases e7
        have up7 : ∀ {o : HO} {b u}, b ≠ F → H7 b = some u → upd H7 F o b = some u := fun {o b u} n e => by rw [upd_ne n]; exact e
        have tup7 : ∀ {o : HO} {b ys}, H7 b = some (.tup ys) → upd H7 F o b = some (.tup ys) := fun {o b ys} e => up7 (ne_of e e' (by intro z; cases z)) e
        refine ⟨cs1 ++ [⟨c.svc, c.vals, l2, c.rows⟩], _, rfl, ?_, ?_, ?_, fun c' hc' => ?_, fun b hb => (L2.CkAt.same (hL b hb) s7).keeps fun _ _ e => tup7 e, fun b u e => ?_⟩
        · exact up7 (ne_of (s7 _ _ hl') e' (by intro z; cases z)) (s7 _ _ hl')
        · unfold chK at nd' ⊢
          rw [List.map_append]
          exact nd'
        · rw [List.map_append, m1, map_take hb, ← ec]
          rfl
        · rcases List.mem_append.mp hc' with h | h
          · obtain ⟨n1, n2, n3⟩ := m3 c' h
            have n1' := n1.same s7
            exact ⟨⟨up7 (ne_of n1'.lst e' (by intro z; cases z)) n1'.lst, fun y hy => tup7 (n1'.rows y hy)⟩, n2, n3⟩
          · rw [List.mem_singleton.mp h]
            exact ⟨⟨up7 l2F e7, fun y hy => tup7 (s7 _ _ (hcc.rows y hy))⟩, s.free hl2, c, hc, rfl, rfl⟩
        · rw [upd_ne (ne_of_none e hF)]
          exact s7 _ _ (s _ _ e)
    · obtain ⟨cs1, y2, rfl, hl', m2, m1, m3, hL, s⟩ := hp
      rw [List.length_map, List.take_length, b2] at m1
      exact ⟨_, rfl, q F H' cs1 hF m2 m1 m3 s⟩
def spLChs (w : World) : Sp := fun vs H Q _ => ∃ (pl sA rA cA : Addr) (ts : List (Str × Int)) (ks : List KeyE) (ss : List SvE) (m : Nat) (es : List RwE) (L : List (Addr × CK)) (us : Str → List RowK), vs = [.ref pl, .ref sA, .ref rA, .ref cA] ∧ PoolAt H pl ∧ H sA = some (.dK (svK ss)) ∧ (ss.map (·.name)).Nodup ∧ (∀ b ∈ ss, SvOk H ts b) ∧ Tabs ts m 4 ∧ RwsAt H rA ts ks es ∧ (∀ c ∈ es, c.at_ ≠ pl) ∧
  (∀ b ∈ ss, Srt (us b.tab) (rowsOf es b.tab) ∧ (us b.tab).length ≤ 500) ∧ H cA = some (.lst (L.map fun b => V.ref b.1)) ∧ cA ≠ pl ∧ CksAt H L ∧ (L.map (·.2)).Nodup ∧ (∀ b ∈ L, CallR ss b.2) ∧ L.length ≤ 900 ∧
  ∀ (F : Addr) (H' : Hp) (cs : List ChE), H F = none → NDict w H' F (chK cs) → (cs.map ChE.key).Nodup → (∀ c ∈ cs, ChAt H' c ∧ ChL us ss c ∧ H c.at_ = none) → cs.length ≤ L.length → Chg pl H H' → Q (.ref F) H'
theorem srt_nodup {us rs : List RowK} (h : Srt us rs) : us.Nodup := h.up.imp fun {a b} hab e => by
  rw [e, rowLt_irrefl] at hab
  cases hab
theorem ok_lchs (T : Txt K mg a d) : FnOk P w K mg base CX0 6 (a 73) (d 73) ["_law_pool_here", "_law_services_here", "_law_rows_here", "_law_calls_here"] (spLChs w) := by
  have G52 : FnOk P w K mg base CX0 2 (a 52) (d 52) ["_law_pool_here", "_law_many"] spDraw := ok_draw T
  have G69 : FnOk P w K mg base CX0 5 (a 69) (d 69) ["_law_services_here", "_law_rows_here", "_law_service", "_law_values"] spLFit := ok_lfit T
  have G71 : FnOk P w K mg base CX0 3 (a 71) (d 71) ["_law_pool_here", "_law_rows_here"] spLMix := ok_lmix T
  refine T.F73.ok sc__law_chosen (fun vs H Q E h => ?_) (fun cdv A outer s H vs Q E hr h => ?_)
  · obtain ⟨pl, sA, rA, cA, ts, ks, ss, m, es, L, us, rfl, _⟩ := h
    rfl
  · obtain ⟨pl, sA, rA, cA, ts, ks, ss, m, es, L, us, rfl, hP, hs, snd, hss, hT, hR, nes, hus, hcA, ncA, hL, ndL, rL, lL, q⟩ := h
    refine ⟨_, (pss_cons (ps_set (i := 4) sc__law_chosen.nd rfl (.inl rfl) (pe_nnew (w := w) (by rfl)))
  (pss_cons (ps_for PassesOwn.never rfl (pi_list (pv 3)) (pg_tup rfl (pgs_cons (pg_name (i := 5) sc__law_chosen.nd rfl (.inl rfl)) (pgs_cons (pg_name (i := 6) sc__law_chosen.nd rfl (.inl rfl)) pgs_nil)))
    (pss_one (ps_if (pt_cmpR op_eq (pe_call G52 (hr.mono (by decide)) (by rfl) T.g52 T.F52.kp T.b52 .nil pass0 (pa_cons (pv 0) (pa_cons pe_int pa_nil))) pe_int (nomark _))
        (pss_cons (ps_set (i := 7) sc__law_chosen.nd rfl (.inl rfl) (pe_call G71 (hr.mono (by decide)) (by rfl) T.g71 T.F71.kp T.b71 .nil pass0 (pa_cons (pv 0) (pa_cons (pe_call G69 (hr.mono (by decide)) (by rfl) T.g69 T.F69.kp T.b69 .nil pass0 (pa_cons (pv 1) (pa_cons (pv 2) (pa_cons (pv 5) (pa_cons (pv 6) pa_nil))))) pa_nil))))
          (pss_cons (ps_set (i := 8) sc__law_chosen.nd rfl (.inl rfl) (pe_ix ix_tup (pe_dget (hu_of hr) (pv 1) (pv 5) (fun _ _ => rfl)) pe_int (fun _ _ => rfl)))
          (Evl.pss_cut (ps_if (PW.pt (pw_and (pt_cmpR op_notN (pv 8) pe_non (nomark _)) (pw_and1 (pt_cmpR op_gt (pe_callB (id := "len")  call_len_seq (by rfl) T.z_len (by decide +kernel) (pa_cons (pv 7) pa_nil)) (pv 8) (nomark _)))))
            (pss_one (ps_set (i := 7) sc__law_chosen.nd rfl (.inl rfl) (pe_slice sl_list (pv 7) po_none (po_some (pv 8)))))
            pss_nil)
          (pss_one (ps_nput (w := w) (by rfl) (by exact hu_of9 hr) (pv 4) (pe_tup (pa_cons (pv 5) (pa_cons (pv 6) pa_nil))) (pv 7) rfl)))))
        pss_nil)))
  (pss_one (ps_ret (pv 4))))), ?_⟩
    intro F φ0 hF nd0
    have c1 := (Chg.refl hP).new (o := .ext φ0) hF
    have npF := Chg.ne hP hF
    generalize upd H F (.ext φ0) = H1 at nd0 c1 ⊢
    have hRw : ∀ {H'}, Chg pl H H' → RwsAt H' rA ts ks es := fun {H'} C => ⟨C.at (fun n => by
        obtain ⟨a0, a1, a2, a3, r, e, _⟩ := hP
        rw [← n, hR.dct] at e
        cases e) hR.dct, hR.nm, fun c hc => by
      obtain ⟨x1, x2, x3⟩ := hR.sub c hc
      exact ⟨⟨C.at (nes c hc) x1.lst, fun y hy => chg_tup hP C _ _ (x1.rows y hy)⟩, x2, x3⟩⟩
    have nsA : sA ≠ pl := fun n => by
      obtain ⟨a0, a1, a2, a3, r, e, _⟩ := hP
      rw [← n, hs] at e
      cases e
    refine ⟨_, rfl, cA, rfl, ⟨_, .of (c1.at ncA hcA)⟩, for_list (K := K) (a := cA) (xs := L.map fun b => V.ref b.1) (fun i σ H' => ∃ (cs : List ChE) (y5 y6 y7 y8 : Option V), σ = [some (.ref pl), some (.ref sA), some (.ref rA), some (.ref cA), some (.ref F), y5, y6, y7, y8] ∧ NDict w H' F (chK cs) ∧ (cs.map ChE.key).Sublist ((L.take i).map (·.2)) ∧ (∀ c ∈ cs, ChAt H' c ∧ ChL us ss c ∧ H c.at_ = none) ∧ Chg pl H H') ⟨[], _, _, _, _, rfl, nd0, List.nil_sublist _, (fun c hc => nomatch hc), c1⟩ (fun i σ H' _ hp => ?_) (fun i y σ H' hy hp => ?_) (fun σ H' hp => ?_)⟩
    · obtain ⟨cs, _, _, _, _, rfl, _, _, _, C⟩ := hp
      exact .of (C.at ncA hcA)
    · obtain ⟨cs, y5, y6, y7, y8, rfl, m2, m1, m3, C⟩ := hp
      obtain ⟨b0, hb, rfl⟩ := map_at hy
      have hbm := List.mem_of_getElem? hb
      have li : i < L.length := (List.getElem?_eq_some_iff.mp hb).1
      obtain ⟨g, k1, k2⟩ := (hL b0 hbm).keeps (chg_tup hP C)
      obtain ⟨b, hbs, eb, kv, kl⟩ := rL b0 hbm
      have lcs : cs.length ≤ i := by
        have := m1.length_le
        rw [List.length_map, List.length_map, List.length_take] at this
        omega
      have m1' : (cs.map ChE.key).Sublist ((L.take (i + 1)).map (·.2)) := m1.trans (by rw [map_take hb]; exact List.sublist_append_left _ _)
      -- all that stands after a change
      have nat : ∀ c ∈ cs, c.at_ ≠ pl := fun c hc n => by
        obtain ⟨a0, a1, a2, a3, r, e, _⟩ := hP
        have := (m3 c hc).2.2
        rw [n, e] at this
        cases this
      have keepC : ∀ {H2}, Chg pl H' H2 → NDict w H2 F (chK cs) ∧ ∀ c ∈ cs, ChAt H2 c ∧ ChL us ss c ∧ H c.at_ = none := fun {H2} C2 => by
        refine ⟨?_, fun c hc => ?_⟩
        · obtain ⟨φ, e⟩ := m2.at_
          exact m2.keeps (by rw [e]; exact C2.at npF e) (chg_tup C.1 C2)
        · obtain ⟨x1, x2, x3⟩ := m3 c hc
          exact ⟨⟨C2.at (nat c hc) x1.lst, fun y hy => chg_tup C.1 C2 _ _ (x1.rows y hy)⟩, x2, x3⟩
      refine ⟨b0.1, _, rfl, .of k1, rfl, _, _, rfl, _, _, rfl, rfl, ?_⟩
      refine ⟨_, rfl, pl, 2, rfl, C.1, by decide, by decide, fun r1 H1 r10 r11 C1 => ⟨rfl, _, rfl, ite_d (fun e0 => ?_) (fun _ => ?_)⟩⟩
      · have C01 := C.trans C1
        have so := (hss b hbs).mono (chg_tup hP C01)
        have gk := chg_tup C.1 C1 _ _ k2
        refine ⟨_, rfl, _, rfl, _, rfl, _, rfl, _, rfl, sA, rA, g, b0.2.1, b0.2.2, ts, ks, ss, m, es, b, rfl, C01.at nsA hs, snd, hbs, eb, so, hT, hRw C01, gk, fun k hk => (kv k hk).ok, by obtain ⟨_, _, _, w3⟩ := so.ok; omega, fun us' q2 H2 L2 hus' husk hq2 hL2 eL2 s2 => ?_⟩
        have eus : us' = us b.tab := hus'.eq (hus b hbs).1
        rw [eus] at eL2
        have C02 := C01.1.same s2
        have lf : (fitR b.cols b0.2.2 (us b.tab)).length ≤ 500 := Nat.le_trans (List.length_filter_le _ _) (hus b hbs).2
        have lL2 : L2.length = (fitR b.cols b0.2.2 (us b.tab)).length := by rw [← eL2, List.length_map]
        refine ⟨pl, q2, L2, rfl, C02, hq2, rows_ne_pool C02 hq2, by omega, fun q3 H3 L3 hq3 hl3 pm C3 => ?_⟩
        have C12 : Chg pl H1 H2 := ⟨C02, fun b o _ e => s2 b o e⟩
        have C13 := C12.trans C3
        have C'3 := C1.trans C13
        have C03 := C.trans C'3
        have hv : valV (svK ss) (Sum.inr b0.2.1) = some (.ref b.at_) := by
          rw [← eb]
          exact val_nodup (by rw [keys_sv]; exact inr_nd snd) (Sum.inr b.name, V.ref b.at_) (List.mem_map.mpr ⟨b, hbs, rfl⟩)
        have so3 := (hss b hbs).mono (chg_tup hP C03)
        have hR3 : RowsAt H3 L3 := fun y hy => chg_tup C02 C3 _ _ (hL2 y (pm.mem_iff.mp hy))
        have hq30 : H q3 = none := by
          cases e : H q3 with
          | none => rfl
          | some o =>
            have n : q3 ≠ pl := rows_ne_pool C03.1 hl3
            have h1 := C01.2 _ _ n e
            rw [s2 _ _ h1] at hq3
            cases hq3
        have pm2 : (L3.map (·.2)).Perm (fitR b.cols b0.2.2 (us b.tab)) := by rw [← eL2]; exact pm.map _
        have fnd : (fitR b.cols b0.2.2 (us b.tab)).Nodup := (srt_nodup (hus b hbs).1).sublist (List.filter_sublist)
        have l3 : L3.length = (fitR b.cols b0.2.2 (us b.tab)).length := by rw [← pm2.length_eq, List.length_map]
        have gk3 := chg_tup C.1 C'3 _ _ k2
        refine ⟨_, rfl, _, rfl, sA, _, rfl, (DctAt.of (C03.at nsA hs)).at_ (by rw [keys_sv]; exact inr_nd snd) hv, _, _, _, _, rfl, rfl, .of so3.told.tup, atI_nat (j := 2) rfl, ?_⟩
        refine ⟨fun σ H4 => ∃ (q4 : Addr) (L4 : List (Addr × RowK)), σ = [some (.ref pl), some (.ref sA), some (.ref rA), some (.ref cA), some (.ref F), some (.str b0.2.1), some (.ref g), some (.ref q4), some (capV b.cap)] ∧ H4 q4 = some (.lst (L4.map fun y => V.ref y.1)) ∧ RowsAt H4 L4 ∧ H q4 = none ∧ AnsR b (fitR b.cols b0.2.2 (us b.tab)) (L4.map (·.2)) ∧ Chg pl H' H4, ?_, fun σ H4 hw => ?_⟩
        · refine ⟨_, rfl, rfl, _, rfl, ?_⟩
          rw [capV_none]
          cases ec : b.cap with
          | none =>
            refine ifF ⟨q3, L3, rfl, hl3, hR3, hq30, ⟨pm2.nodup_iff.mpr fnd, fun r hr => pm2.mem_iff.mp hr, ?_⟩, C'3⟩
            rw [List.length_map, l3, ec]
            rfl
          | some c =>
            obtain ⟨c1, c4⟩ := so3.cap c ec
            refine ifT ⟨_, rfl, q3, _, rfl, .inl (.of hl3), _, rfl, _, _, rfl, rfl, _, rfl, ite_d (fun gt => ?_) (fun le => ?_)⟩
            · rw [List.length_map] at gt
              refine ⟨_, rfl, _, rfl, c, rfl, q3, _, rfl, .of hl3, fun q4 hq4 => ?_⟩
              have ecn : c = ((c.toNat : Nat) : Int) := by omega
              have e2 : cutV (L3.map fun y => V.ref y.1) none (some c) = (L3.take c.toNat).map fun y => V.ref y.1 := by
                rw [ecn, cut_take, ← List.map_take]
                rfl
              rw [e2]
              have c5 := C'3.new (o := .lst ((L3.take c.toNat).map fun y => V.ref y.1)) hq4
              have sq := same_upd (o := .lst ((L3.take c.toNat).map fun y => V.ref y.1)) hq4
              refine ⟨q4, L3.take c.toNat, rfl, upd_same, fun y hy => sq _ _ (hR3 y (List.mem_of_mem_take hy)), ?_, ⟨?_, fun r hr => ?_, ?_⟩, c5⟩
              · cases e : H q4 with
                | none => rfl
                | some o =>
                  have n : q4 ≠ pl := Chg.ne C03.1 hq4
                  rw [C03.2 _ _ n e] at hq4
                  cases hq4
              · rw [List.map_take]
                exact (pm2.nodup_iff.mpr fnd).sublist (List.take_sublist _ _)
              · rw [List.map_take] at hr
                exact pm2.mem_iff.mp (List.mem_of_mem_take hr)
              · rw [List.length_map, List.length_take, l3, ec]
                rfl
            · rw [List.length_map] at le
              refine ⟨q3, L3, rfl, hl3, hR3, hq30, ⟨pm2.nodup_iff.mpr fnd, fun r hr => pm2.mem_iff.mp hr, ?_⟩, C'3⟩
              rw [List.length_map, l3, ec]
              show _ = min c.toNat _
              omega
        · obtain ⟨q4, L4, rfl, hl4, hR4, hq40, hA4, C4⟩ := hw
          obtain ⟨x1, x2⟩ := keepC C4
          have C04 := C.trans C4
          have gk4 := chg_tup C.1 C4 _ _ k2
          refine ⟨_, rfl, _, rfl, _, rfl, _, rfl, by show 2 ≤ sizeLine; decide, fun t ht => ?_⟩
          have st := same_upd (o := .tup [.str b0.2.1, .ref g]) ht
          have ct : CkAt (upd H4 t (.tup [.str b0.2.1, .ref g])) t b0.2 := ⟨g, upd_same, st _ _ gk4⟩
          have c5 := C04.new (o := .tup [.str b0.2.1, .ref g]) ht
          generalize upd H4 t (.tup [.str b0.2.1, .ref g]) = H5 at st ct c5 ⊢
          have x1' := x1.same st
          refine ⟨F, t, chK cs, b0.2, rfl, rfl, x1', ct, ?_, fun φ nd' => ?_⟩
          · unfold chK
            rw [List.length_map]
            exact small1000 (by omega)
          · have hno : valV (chK cs) b0.2 = none := by
              refine nd_none ?_
              rw [ch_keys]
              intro hm
              have h1 : ((L.take (i + 1)).map (·.2)).Nodup := ndL.sublist ((List.take_sublist _ _).map _)
              rw [map_take hb, List.nodup_append] at h1
              exact h1.2.2 _ (m1.mem hm) _ (List.mem_singleton.mpr rfl) rfl
            rw [putK_new _ hno] at nd'
            obtain ⟨φ', e'⟩ := x1'.at_
            have up5 : ∀ {o : HO} {b u}, b ≠ F → H5 b = some u → upd H5 F o b = some u := fun {o b u} n e => by rw [upd_ne n]; exact e
            have tup5 : ∀ {o : HO} {b ys}, H5 b = some (.tup ys) → upd H5 F o b = some (.tup ys) := fun {o b ys} e => up5 (ne_of e e' (by intro z; cases z)) e
            have hl5 := st _ _ hl4
            refine ⟨cs ++ [⟨b0.2.1, b0.2.2, q4, L4⟩], _, _, _, _, rfl, ?_, ?_, fun c hc => ?_, c5.mut hF npF⟩
            · unfold chK at nd' ⊢
              rw [List.map_append]
              exact nd'
            · rw [List.map_append, map_take hb]
              exact m1.append (.refl _)
            · rcases List.mem_append.mp hc with h | h
              · obtain ⟨n1, n2, n3⟩ := x2 c h
                have n1' := n1.same st
                exact ⟨⟨up5 (ne_of n1'.lst e' (by intro z; cases z)) n1'.lst, fun y hy => tup5 (n1'.rows y hy)⟩, n2, n3⟩
              · rw [List.mem_singleton.mp h]
                exact ⟨⟨up5 (ne_of hl5 e' (by intro z; cases z)) hl5, fun y hy => tup5 (st _ _ (hR4 y hy))⟩, ⟨b, hbs, eb, kv, kl, hA4⟩, hq40⟩
      · obtain ⟨x1, x2⟩ := keepC C1
        exact ⟨cs, _, _, _, _, rfl, x1, m1', x2, C.trans C1⟩
    · obtain ⟨cs, _, _, _, _, rfl, m2, m1, m3, C⟩ := hp
      rw [List.length_map, List.take_length] at m1
      refine ⟨_, rfl, q F H' cs hF m2 (ndL.sublist m1) m3 ?_ C⟩
      have := m1.length_le
      rw [List.length_map, List.length_map] at this
      exact this
end
/-! ### what the law holds the answers against -/
theorem clr_same {H H' : Hp} {p : Addr} {o : HO} (s : Same H H') (f : H p = none) : Same H (upd H' p o) := fun b u e => by
  rw [upd_ne (ne_of_none e f)]
  exact s _ _ e
theorem perm_eqN {ks ls : List (CK × V)} (h : (ks.map (·.1)).Perm (ls.map (·.1))) (nd : (ls.map (·.1)).Nodup) : eqN ks ls (fun _ => true) = true := by
  unfold eqN
  have hl := h.length_eq
  rw [List.length_map, List.length_map] at hl
  rw [Bool.and_eq_true, List.all_eq_true]
  refine ⟨by simp [hl], fun z hz => ?_⟩
  have hm : z.1 ∈ ls.map (·.1) := h.mem_iff.mp (List.mem_map.mpr ⟨z, hz, rfl⟩)
  obtain ⟨y, hy, e⟩ := List.mem_map.mp hm
  rw [← e, nd_val nd hy]
  rfl
theorem ch_of {cs : List ChE} {k : CK} {y : V} (h : valV (chK cs) k = some y) : ∃ c ∈ cs, c.key = k ∧ y = .ref c.at_ := by
  unfold valV at h
  cases e : (chK cs).find? fun kv => decide (kv.1 = k) with
  | none => rw [e] at h; cases h
  | some p =>
    rw [e] at h
    have hm := List.mem_of_find?_eq_some e
    have hk : p.1 = k := by have := List.find?_some e; exact of_decide_eq_true this
    obtain ⟨c, hc, ec⟩ := List.mem_map.mp hm
    refine ⟨c, hc, ?_, ?_⟩
    · rw [← hk, ← ec]
    · rw [← Option.some.inj h, ← ec]
theorem key_one {cs : List ChE} (nd : (cs.map ChE.key).Nodup) {c c' : ChE} (h : c ∈ cs) (h' : c' ∈ cs) (e : c.key = c'.key) : c = c' := by
  induction cs with
  | nil => cases h
  | cons x xs ih =>
    rw [List.map_cons, List.nodup_cons] at nd
    rcases List.mem_cons.mp h with h1 | h1
    · rcases List.mem_cons.mp h' with h2 | h2
      · rw [h1, h2]
      · exact absurd (List.mem_map.mpr ⟨c', h2, by rw [← e, h1]⟩) nd.1
    · rcases List.mem_cons.mp h' with h2 | h2
      · exact absurd (List.mem_map.mpr ⟨c, h1, by rw [e, h2]⟩) nd.1
      · exact ih nd.2 h1 h2
theorem sr_eq {L L' : List (Addr × RowK)} {rs : List RowK} (h : SortedRows L rs) (h' : SortedRows L' rs) : L.map (·.2) = L'.map (·.2) := h.srt.eq h'.srt
/-- the law's things about a store, services and rows -/
structure LawS (sA rA : Addr) (H : Hp) (ts : List (Str × Int)) (ks : List KeyE) (ss : List SvE) (m : Nat) (es : List RwE) (us : Str → List RowK) (te : List TabE) : Prop where
  hs : H sA = some (.dK (svK ss))
  snd : (ss.map (·.name)).Nodup
  sok : ∀ b ∈ ss, SvOk H ts b
  hT : Tabs ts m 4
  hR : RwsAt H rA ts ks es
  srt : ∀ b ∈ ss, Srt (us b.tab) (rowsOf es b.tab) ∧ (us b.tab).length ≤ 500
  val : ∀ b ∈ ss, ∀ r ∈ us b.tab, (∀ k ∈ r, KVal k) ∧ r.length ≤ 100
  te1 : ∀ e ∈ te, e.2.2 = us e.1
  te2 : ∀ b ∈ ss, b.tab ∈ te.map (·.1)
theorem LawS.same {sA rA : Addr} {H H' : Hp} {ts : List (Str × Int)} {ks : List KeyE} {ss : List SvE} {m : Nat} {es : List RwE} {us : Str → List RowK} {te : List TabE} (h : LawS sA rA H ts ks ss m es us te) (s : Same H H') : LawS sA rA H' ts ks ss m es us te :=
  ⟨s _ _ h.hs, h.snd, fun b hb => (h.sok b hb).mono fun _ _ e => s _ _ e, h.hT, h.hR.same s, h.srt, h.val, h.te1, h.te2⟩
theorem fit_ok {us : Str → List RowK} {b : SvE} {r : RowK} (h : ∀ r ∈ us b.tab, (∀ k ∈ r, KVal k) ∧ r.length ≤ 100) : ∀ u ∈ fitR b.cols r (us b.tab), (∀ k ∈ u, KOk k) ∧ u.length ≤ 100 := fun u hu => by
  obtain ⟨h1, h2⟩ := h u (List.mem_filter.mp hu).1
  exact ⟨fun k hk => (h1 k hk).ok, h2⟩
theorem chl_ok {us : Str → List RowK} {ss : List SvE} {c : ChE} (hu : ∀ b ∈ ss, (us b.tab).length ≤ 500) (hv : ∀ b ∈ ss, ∀ r ∈ us b.tab, (∀ k ∈ r, KVal k) ∧ r.length ≤ 100) (h : ChL us ss c) : (∀ y ∈ c.rows, (∀ k ∈ y.2, KOk k) ∧ y.2.length ≤ 100) ∧ c.rows.length ≤ 500 := by
  obtain ⟨b, hb, e1, e2, e3, e4⟩ := h.ex
  refine ⟨fun y hy => fit_ok (hv b hb) y.2 (e4.sub _ (List.mem_map.mpr ⟨y, hy, rfl⟩)), ?_⟩
  have h1 := e4.len
  rw [List.length_map] at h1
  have h2 := capN_le b.cap (fitR b.cols c.vals (us b.tab)).length
  have h3 := List.length_filter_le (fun u => decide (projR b.cols u = c.vals)) (us b.tab)
  have h4 := hu b hb
  unfold fitR at h1 h2
  omega
section
variable {P : Program} {w : World} {K : PySem.W.Frag} {mg : Str → Option Value} {base : Heap} {a : Nat → Addr} {d : Nat → FuncData}
def spLHold (w : World) (C CS CA : Addr) : Sp := fun vs H Q _ => ∃ (z dz p dx x R Fi D sA rA hA cA : Addr) (ts : List (Str × Int)) (ks : List KeyE) (ss : List SvE) (m mt ms : Nat) (es : List RwE) (te : List TabE) (us : Str → List RowK) (chs cs : List ChE) (L : List (Addr × CK)), vs = [.ref z, .ref sA, .ref rA, .ref hA, .ref cA] ∧ AnO w C CS CA z dz p dx x R Fi D H ts ks ss mt ms te cs ∧
  LawS sA rA H ts ks ss m es us te ∧ NDictR w H hA (chK chs) ∧ (chs.map ChE.key).Nodup ∧ (∀ c ∈ chs, ChAt H c ∧ ChL us ss c) ∧ chs.length ≤ 900 ∧ ChSame chs cs ∧ H cA = some (.lst (L.map fun b => V.ref b.1)) ∧ CksAt H L ∧ (∀ b ∈ L, CallR ss b.2) ∧ ∀ H', Same H H' → Q (.bl true) H'
theorem ok_lhold (T : Txt K mg a d) : FnOk P w K mg base CX0 7 (a 74) (d 74) ["_law_answers", "_law_services_here", "_law_rows_here", "_law_chosen_here", "_law_calls_here"] (spLHold w (a 42) (a 48) (a 25)) := by
  have G70 : FnOk P w K mg base CX0 6 (a 70) (d 70) ["_law_services_here", "_law_rows_here", "_law_service", "_law_values"] spLFst := ok_lfst T
  have G67 : FnOk P w K mg base CX0 4 (a 67) (d 67) ["_law_rows_here"] spLSorted := ok_lsorted T
  have G3502 : FnOk P w K mg base (L2.CX P w) 6 (a 3502) (d 3502) ["self", "service", "given"] (spACall w (a 42) (a 48) (a 25) (a 3) (a 8)) := ok_acall T
  have G3501 : FnOk P w K mg base CX0 1 (a 3501) (d 3501) ["self"] (spAChs w (a 42) (a 48) (a 25)) := ok_achs T
  refine T.F74.ok sc__law_holds (fun vs H Q E h => ?_) (fun cdv A outer s H vs Q E hr h => ?_)
  · obtain ⟨z, dz, p, dx, x, R, Fi, D, sA, rA, hA, cA, ts, ks, ss, m, mt, ms, es, te, us, chs, cs, L, rfl, _⟩ := h
    rfl
  · obtain ⟨z, dz, p, dx, x, R, Fi, D, sA, rA, hA, cA, ts, ks, ss, m, mt, ms, es, te, us, chs, cs, L, rfl, O, S, hn, nd, hch, lch, hcs, hcA, hL, rL, q⟩ := h
    have rok : ∀ c ∈ chs, (∀ y ∈ c.rows, (∀ k ∈ y.2, KOk k) ∧ y.2.length ≤ 100) ∧ c.rows.length ≤ 500 := fun c hc => chl_ok (fun b hb => (S.srt b hb).2) S.val (hch c hc).2
    have lcs : cs.length = chs.length := by
      have := hcs.keys.length_eq
      rw [List.length_map, List.length_map] at this
      exact this
    refine ⟨_, (pss_cons (ps_for PassesOwn.never rfl (pi_list (pv 4)) (pg_tup rfl (pgs_cons (pg_name (i := 5) sc__law_holds.nd rfl (.inl rfl)) (pgs_cons (pg_name (i := 6) sc__law_holds.nd rfl (.inl rfl)) pgs_nil)))
    (pss_cons (ps_set (i := 7) sc__law_holds.nd rfl (.inl rfl) (pe_call G70 (hr.mono (by decide)) (by rfl) T.g70 T.F70.kp T.b70 .nil pass0 (pa_cons (pv 1) (pa_cons (pv 2) (pa_cons (pv 5) (pa_cons (pv 6) pa_nil))))))
      (Evl.pss_cut (ps_if (pt_cmp (pc_nin (w := w) (by rfl) (by exact hu_of9 hr) (pe_tup (pa_cons (pv 5) (pa_cons (pv 6) pa_nil))) (pv 3)))
        (pss_one (ps_set (i := 7) sc__law_holds.nd rfl (.inl rfl) (pe_call G67 (hr.mono (by decide)) (by rfl) T.g67 T.F67.kp T.b67 .nil pass0 (pa_cons (pe_nget (w := w) (by rfl) (by exact hu_of9 hr) (pv 3) (pe_tup (pa_cons (pv 5) (pa_cons (pv 6) pa_nil))) (fun _ _ => rfl)) pa_nil))))
        pss_nil)
      (pss_cons (ps_set (i := 8) sc__law_holds.nd rfl (.inl rfl) (pe_callO (pv 0) T.sp_3502 G3502 (hr.mono (by decide)) T.b3502 (pAt (passN rfl)) (pa_cons (pv 5) (pa_cons (pv 6) pa_nil))))
      (pss_cons (ps_if (PW.pt (pw_or (pt_not (pt_val (pe_callB (id := "isinstance")  call_isi (by rfl) T.z_isinstance (by decide +kernel) (pa_cons (pv 8) (pa_cons (pe_bltn (v := .ty "list") (by rfl) T.z_list (by decide +kernel) rfl) pa_nil))))) (pw_or1 (pt_cmpR (op_orR (op_neD (hu_of64 hr)) (op_neND (w := w) (by rfl) (hu_of80 hr))) (pv 8) (pv 7) (nomark _)))))
        (pss_one (ps_ret pe_bl))
        pss_nil)
      (pss_one (ps_expr (pe_bm PySem.F.plainAttrs_list PySem.F.slot_list_append PySem.F.type_list_append mt_append (pv 8) (pa_cons (pe_tup (pa_cons pe_int (pa_cons pe_int (pa_cons pe_int (pa_cons pe_int (pa_cons pe_int pa_nil)))))) pa_nil)))))))))
  (pss_cons (ps_set (i := 8) sc__law_holds.nd rfl (.inl rfl) (pe_prop (pv 0) T.cl_25 T.p_3501 G3501 (hr.mono (by decide)) T.b3501 .nil pass0 rfl))
  (pss_cons (ps_set (i := 7) sc__law_holds.nd rfl (.inl rfl) (pe_nnew (w := w) (by rfl)))
  (pss_cons (ps_for PassesOwn.never rfl (pi_list (pe_callTy (T := "list")  (call_list_nd (w := w) (by rfl) rfl) (by rfl) T.z_list (by decide +kernel) (pa_cons (pv 3) pa_nil))) (pg_name (i := 9) sc__law_holds.nd rfl (.inl rfl))
    (pss_one (ps_nput (w := w) (by rfl) (by exact hu_of9 hr) (pv 7) (pv 9) (pe_call G67 (hr.mono (by decide)) (by rfl) T.g67 T.F67.kp T.b67 .nil pass0 (pa_cons (pe_nget (w := w) (by rfl) (by exact hu_of9 hr) (pv 3) (pv 9) (fun _ _ => rfl)) pa_nil)) rfl)))
  (pss_cons (ps_if (pt_cmpR (op_orR (op_neD (hu_of64 hr)) (op_neND (w := w) (by rfl) (hu_of80 hr))) (pv 8) (pv 7) (nomark _))
    (pss_one (ps_ret pe_bl))
    pss_nil)
  (pss_cons (ps_for PassesOwn.never rfl (pi_list (pe_callTy (T := "list")  (call_list_nd (w := w) (by rfl) rfl) (by rfl) T.z_list (by decide +kernel) (pa_cons (pv 8) pa_nil))) (pg_name (i := 9) sc__law_holds.nd rfl (.inl rfl))
    (pss_one (ps_expr (pe_bm0 PySem.F.plainAttrs_list PySem.F.slot_list_clear PySem.F.type_list_clear mt_clear (pe_nget (w := w) (by rfl) (by exact hu_of9 hr) (pv 8) (pv 9) (fun _ _ => rfl))))))
  (pss_cons (ps_expr (pe_nclear (w := w) (by rfl) (pv 8)))
  (pss_one (ps_ret pe_bl))))))))), ?_⟩
    refine ⟨_, rfl, cA, rfl, ⟨_, .of hcA⟩, for_list (K := K) (a := cA) (xs := L.map fun b => V.ref b.1) (fun i σ H' => ∃ y5 y6 y7 y8 y9 : Option V, σ = [some (.ref z), some (.ref sA), some (.ref rA), some (.ref hA), some (.ref cA), y5, y6, y7, y8, y9] ∧ Same H H') ⟨_, _, _, _, _, rfl, Same.refl H⟩ (fun i σ H' _ hp => ?_) (fun i y σ H' hy hp => ?_) (fun σ H1 hp => ?_)⟩
    · obtain ⟨_, _, _, _, _, rfl, s⟩ := hp
      exact .of (s _ _ hcA)
    · obtain ⟨y5, y6, y7, y8, y9, rfl, s⟩ := hp
      obtain ⟨b0, hb, rfl⟩ := map_at hy
      have hbm := List.mem_of_getElem? hb
      obtain ⟨g, k1, k2⟩ := L2.CkAt.same (hL b0 hbm) s
      obtain ⟨b, hbs, eb, kv, kl⟩ := rL b0 hbm
      have S' := S.same s
      have O' := O.same s
      have hn' := hn.same s
      obtain ⟨e, he, ee⟩ := List.mem_map.mp (S.te2 b hbs)
      have hg100 : b0.2.2.length ≤ 100 := by obtain ⟨_, _, _, w3⟩ := (S.sok b hbs).ok; omega
      refine ⟨b0.1, _, rfl, .of k1, rfl, _, _, rfl, _, _, rfl, rfl, ?_⟩
      refine ⟨_, rfl, _, rfl, _, rfl, _, rfl, sA, rA, g, b0.2.1, b0.2.2, ts, ks, ss, m, es, b, rfl, S'.hs, S.snd, hbs, eb, S'.sok b hbs, S.hT, S'.hR, k2, fun k hk => (kv k hk).ok, hg100, fun us' l1 H1 L1 hus' husk hl1 hL1 eL1 s1 => ?_⟩
      have eus : us' = us b.tab := hus'.eq (S.srt b hbs).1
      rw [eus] at eL1
      have s01 := s.trans s1
      -- what is due
      refine ⟨fun σ H2 => ∃ (l2 : Addr) (L2 : List (Addr × RowK)), σ = [some (.ref z), some (.ref sA), some (.ref rA), some (.ref hA), some (.ref cA), some (.str b0.2.1), some (.ref g), some (.ref l2), y8, y9] ∧ H2 l2 = some (.lst (L2.map fun y => V.ref y.1)) ∧ RowsAt H2 L2 ∧ L2.map (·.2) = ansOf cs b0.2 b.cap (fitR b.cols b0.2.2 (us b.tab)) ∧ Same H1 H2, ?_, fun σ H2 hw => ?_⟩
      · have hn1 := hn'.same s1
        refine ⟨_, rfl, _, rfl, by show 2 ≤ sizeLine; decide, fun t ht => ?_⟩
        have st := same_upd (o := .tup [.str b0.2.1, .ref g]) ht
        have ct : CkAt (upd H1 t (.tup [.str b0.2.1, .ref g])) t b0.2 := ⟨g, upd_same, st _ _ (s1 _ _ k2)⟩
        generalize upd H1 t (.tup [.str b0.2.1, .ref g]) = H2 at st ct ⊢
        refine ⟨_, rfl, hA, t, chK chs, b0.2, rfl, rfl, hn1.same st, ct, _, rfl, ?_⟩
        rcases ansOf_val (cs := cs) (k := b0.2) (cap := b.cap) (fit := fitR b.cols b0.2.2 (us b.tab)) with ⟨c', hc', ec', hv', ea⟩ | ⟨hv', hno, ea⟩
        · obtain ⟨c, hc, ec, sr⟩ := hcs.rows c' hc'
          have hv : valV (chK chs) b0.2 = some (.ref c.at_) := by rw [← ec', ← ec]; exact ch_val nd hc
          rw [hv]
          refine ifT ?_
          refine ⟨_, rfl, _, rfl, _, rfl, by show 2 ≤ sizeLine; decide, fun t3 ht3 => ?_⟩
          have st3 := same_upd (o := .tup [.str b0.2.1, .ref g]) ht3
          have hcc := (((hch c hc).1.same s01).same st).same st3
          refine ⟨hA, t3, chK chs, b0.2, .ref c.at_, rfl, rfl, (hn1.same st).same st3, ⟨g, upd_same, st3 _ _ (st _ _ (s1 _ _ k2))⟩, hv, ?_⟩
          refine ⟨c.at_, c.rows, rfl, hcc.lst, hcc.rows, (rok c hc).1, Nat.le_trans (rok c hc).2 (by decide), fun q2 H5 L5 hq2 s5 hl5 hL5 sr5 => ?_⟩
          exact ⟨q2, L5, rfl, hl5, hL5, by rw [ea]; exact sr_eq sr5 sr, (st.trans st3).trans s5⟩
        · have hv : valV (chK chs) b0.2 = none := nd_none (by
            rw [ch_keys]
            exact fun hm => hno (hcs.keys.mem_iff.mpr hm))
          rw [hv]
          exact ifF ⟨l1, L1, rfl, st _ _ hl1, hL1.same st, by rw [ea]; exact eL1, st⟩
      · obtain ⟨l2, L2, rfl, hl2, hL2, eL2, s2⟩ := hw
        have s02 := s01.trans s2
        have O2 := O.same s02
        have hgood : goodT (b0.2.2.map kV) (b.cols.length : Nat) = true := good_row (by omega) kv
        refine ⟨_, rfl, z, rfl, _, rfl, _, rfl, dz, _, O2.ob, z, dz, p, dx, x, R, Fi, D, g, b0.2.1, b0.2.2.map kV, ts, ks, ss, mt, ms, te, cs, rfl, O2, (s1.trans s2) _ _ k2, by rw [List.length_map]; exact hg100, fun y hy => ?_, fun hno => absurd (List.mem_map.mpr ⟨b, hbs, eb⟩) hno, fun b' hb' eb' => ⟨fun hbad => ?_, fun r hr1 hr2 hr3 e' he' ee' q3 H3 L3 hq3 hl3 hL3 eL3 s3 => ?_⟩⟩
        · obtain ⟨k, hk, rfl⟩ := List.mem_map.mp hy
          exact (odd_key (kv k hk)).thg
        · obtain rfl := name_uniq S.snd hb' hbs (eb'.trans eb.symm)
          rw [hgood] at hbad
          cases hbad
        · obtain rfl := name_uniq S.snd hb' hbs (eb'.trans eb.symm)
          have er : r = b0.2.2 := (kVs_inj hr1).symm
          subst er
          rw [S.te1 e' he', ee'] at eL3
          have hl2' := s3 _ _ hl2
          have kk : ∀ u ∈ ansOf cs b0.2 b'.cap (fitR b'.cols b0.2.2 (us b'.tab)), ∀ k ∈ u, KOk k := fun u hu => by
            rcases ansOf_val (cs := cs) (k := b0.2) (cap := b'.cap) (fit := fitR b'.cols b0.2.2 (us b'.tab)) with ⟨c', hc', ec', hv', ea⟩ | ⟨hv', hno, ea⟩
            · rw [ea] at hu
              obtain ⟨c, hc, ec, sr⟩ := hcs.rows c' hc'
              obtain ⟨y, hy, rfl⟩ := List.mem_map.mp ((sr.all u).mp hu)
              exact ((rok c hc).1 y hy).1
            · rw [ea] at hu
              exact (fit_ok (S.val b' hb') u (List.mem_of_mem_take hu)).1
          have e2 : L3.map (·.2) = ansOf cs b0.2 b'.cap (fitR b'.cols b0.2.2 (us b'.tab)) := eL3
          refine ⟨_, rfl, _, _, _, _, _, rfl, .ty _, .base (.lst hl3), kit_ty (show kitB "list" "list" = some true by decide +kernel), true, rfl, ifF ?_⟩
          refine ⟨_, rfl, _, rfl, .inl ⟨.list ((L3.map (·.2)).map tupD), .list ((L2.map (·.2)).map tupD), .lst (.of hl3) (dp_rows hL3), .lst (.of hl2') (dp_rows (hL2.same s3)), tups_shaped (by rw [e2]; exact kk), tups_shaped (by rw [eL2]; exact kk), _, rfl, ?_⟩⟩
          rw [eqv_tups, e2, eL2, decide_eq_true rfl]
          refine ifF ?_
          have hq30 := s02.free hq3
          refine ⟨_, rfl, .inl ⟨rfl, _, .of hl3⟩, by show 5 ≤ sizeLine; decide, fun tp htp => ?_⟩
          have stp := same_upd (o := .tup [.int 0, .int 0, .int 0, .int 0, .int 0]) htp
          refine ⟨q3, _, _, rfl, rfl, stp _ _ hl3, ?_, _, _, _, _, _, rfl, clr_same ((s02.trans s3).trans stp) hq30⟩
          have h1 : L3.length ≤ 500 := by
            rw [← List.length_map (f := (·.2)), e2]
            rcases ansOf_val (cs := cs) (k := b0.2) (cap := b'.cap) (fit := fitR b'.cols b0.2.2 (us b'.tab)) with ⟨c', hc', ec', hv', ea⟩ | ⟨hv', hno, ea⟩
            · rw [ea]
              obtain ⟨c, hc, ec, sr⟩ := hcs.rows c' hc'
              have h2 := sr.len
              have h3 := (rok c hc).2
              rw [List.length_map] at h2 ⊢
              omega
            · rw [ea, List.length_take]
              have h3 := List.length_filter_le (fun u => decide (projR b'.cols u = b0.2.2)) (us b'.tab)
              have h4 := (S.srt b' hb').2
              unfold fitR
              omega
          rw [List.length_map]
          exact small1000 (by omega)
    · obtain ⟨y5, y6, y7, y8, y9, rfl, s⟩ := hp
      have O1 := O.same s
      have hn1 := hn.same s
      refine ⟨_, rfl, z, dz, _, rfl, O1.ob, z, dz, p, dx, x, R, Fi, D, ts, ks, ss, mt, ms, te, cs, rfl, O1, by omega, fun Tt H2 ct hTt ndT hnew hct s2 => ?_⟩
      intro F φ0 hF nd0
      have sF := same_upd (o := .ext φ0) hF
      have ndT3 := ndT.same sF
      generalize upd H2 F (.ext φ0) = H3 at nd0 sF ndT3 ⊢
      have s13 := s2.trans sF
      have ctK : ct.map ChE.key = cs.map ChE.key := hnew.keys
      have ctn : (ct.map ChE.key).Nodup := by rw [ctK]; exact O.nd
      have lct : ct.length = cs.length := by
        have := congrArg List.length ctK
        rw [List.length_map, List.length_map] at this
        exact this
      refine ⟨_, rfl, hA, chK chs, rfl, hn1.same s13, fun l bs hl hk => ⟨l, rfl, ?_⟩⟩
      obtain ⟨L0, b1, b2, b3⟩ := nkeys_zip hk
      have sl := same_upd (o := .lst (bs.map V.ref)) hl
      have ebs : bs.map V.ref = L0.map fun b => V.ref b.1 := by rw [← b1, List.map_map]; rfl
      have hl2 : upd H3 l (.lst (bs.map V.ref)) l = some (.lst (L0.map fun b => V.ref b.1)) := by rw [← ebs]; exact upd_same
      have s24 := sF.trans sl
      have nd2 := nd0.same sl
      have b3' : CksAt (upd H3 l (.lst (bs.map V.ref))) L0 := fun b hb => L2.CkAt.same (b3 b hb) sl
      generalize upd H3 l (.lst (bs.map V.ref)) = H4 at hl2 s24 nd2 b3' ⊢
      clear b3 hk hl sl nd0 sF ndT3 s13
      have ndL0 : (L0.map (·.2)).Nodup := by rw [b2]; exact nd
      have lL0 : L0.length = chs.length := by
        have := congrArg List.length b2
        rw [List.length_map, List.length_map] at this
        exact this
      refine ⟨⟨_, .of hl2⟩, for_list (K := K) (a := l) (xs := L0.map fun b => V.ref b.1) (fun i σ H' => ∃ (cs1 : List ChE) (y9 : Option V), σ = [some (.ref z), some (.ref sA), some (.ref rA), some (.ref hA), some (.ref cA), y5, y6, some (.ref F), some (.ref Tt), y9] ∧ H' l = some (.lst (L0.map fun b => V.ref b.1)) ∧ NDict w H' F (chK cs1) ∧ cs1.map ChE.key = (L0.take i).map (·.2) ∧ (∀ c' ∈ cs1, ChAt H' c' ∧ ∃ c ∈ chs, c.key = c'.key ∧ SortedRows c'.rows (c.rows.map (·.2))) ∧ CksAt H' L0 ∧ Same H2 H') ⟨[], _, rfl, hl2, nd2, rfl, (fun c hc => nomatch hc), b3', s24⟩ (fun i σ H' _ hp => ?_) (fun i y σ H' hy hp => ?_) (fun σ H5 hp => ?_)⟩
      · obtain ⟨cs1, _, rfl, h, _⟩ := hp
        exact .of h
      · obtain ⟨cs1, y9, rfl, hl', m2, m1, m3, hL0, s3⟩ := hp
        obtain ⟨b, hb, rfl⟩ := map_at hy
        have hbm := List.mem_of_getElem? hb
        have li : i < L0.length := (List.getElem?_eq_some_iff.mp hb).1
        obtain ⟨c, hc, ec⟩ : ∃ c ∈ chs, c.key = b.2 := by
          have : b.2 ∈ chs.map ChE.key := by rw [← b2]; exact List.mem_map.mpr ⟨b, hbm, rfl⟩
          obtain ⟨c, hc, e⟩ := List.mem_map.mp this
          exact ⟨c, hc, e⟩
        have s04 := (s.trans s2).trans s3
        have hcc := (hch c hc).1.same s04
        refine ⟨_, rfl, _, rfl, hA, b.1, chK chs, c.key, .ref c.at_, rfl, rfl, hn.same s04, by rw [ec]; exact hL0 b hbm, ch_val nd hc, ?_⟩
        refine ⟨c.at_, c.rows, rfl, hcc.lst, hcc.rows, (rok c hc).1, Nat.le_trans (rok c hc).2 (by decide), fun q2 H7 L7 hq2 s7 e7 r7 sr7 => ?_⟩
        have m2' := m2.same s7
        refine ⟨_, rfl, _, rfl, F, b.1, chK cs1, c.key, rfl, rfl, m2', by rw [ec]; exact L2.CkAt.same (hL0 b hbm) s7, ?_, fun φ nd' => ?_⟩
        · unfold chK
          rw [List.length_map, ← List.length_map (f := ChE.key), m1, List.length_map, List.length_take]
          exact small1000 (by omega)
        · have hno : valV (chK cs1) c.key = none := by
            refine nd_none ?_
            rw [ch_keys, m1, ec]
            intro hm
            have h1 : ((L0.take (i + 1)).map (·.2)).Nodup := ndL0.sublist ((List.take_sublist _ _).map _)
            rw [map_take hb, List.nodup_append] at h1
            exact h1.2.2 _ hm _ (List.mem_singleton.mpr rfl) rfl
          rw [putK_new _ hno] at nd'
          obtain ⟨φ', e'⟩ := m2'.at_
          have l2F : q2 ≠ F := fun n => by
            rw [n, e'] at e7
            cases e7
          have up7 : ∀ {o : HO} {b u}, b ≠ F → H7 b = some u → upd H7 F o b = some u := fun {o b u} n e => by rw [upd_ne n]; exact e
          have tup7 : ∀ {o : HO} {b ys}, H7 b = some (.tup ys) → upd H7 F o b = some (.tup ys) := fun {o b ys} e => up7 (ne_of e e' (by intro z; cases z)) e
          refine ⟨cs1 ++ [⟨c.svc, c.vals, q2, L7⟩], _, rfl, ?_, ?_, ?_, fun c' hc' => ?_, fun b hb => (L2.CkAt.same (hL0 b hb) s7).keeps fun _ _ e => tup7 e, clr_same (s3.trans s7) hF⟩
          · exact up7 (ne_of (s7 _ _ hl') e' (by intro z; cases z)) (s7 _ _ hl')
          · unfold chK at nd' ⊢
            rw [List.map_append]
            exact nd'
          · rw [List.map_append, m1, map_take hb, ← ec]
            rfl
          · rcases List.mem_append.mp hc' with h | h
            · obtain ⟨n1, n3⟩ := m3 c' h
              have n1' := n1.same s7
              exact ⟨⟨up7 (ne_of n1'.lst e' (by intro z; cases z)) n1'.lst, fun y hy => tup7 (n1'.rows y hy)⟩, n3⟩
            · rw [List.mem_singleton.mp h]
              exact ⟨⟨up7 l2F e7, fun y hy => tup7 (r7 y hy)⟩, c, hc, rfl, sr7⟩
      · obtain ⟨cs1, y9, rfl, hl', m2, m1, m3, hL0, s3⟩ := hp
        rw [List.length_map, List.take_length, b2] at m1
        have ndT5 := ndT.same s3
        have hct5 : ∀ c ∈ ct, ChAt H5 c := fun c hc => (hct c hc).same s3
        -- ct's rows are those of cs
        have ctr : ∀ c1 ∈ ct, ∃ c ∈ chs, c.key = c1.key ∧ SortedRows c1.rows (c.rows.map (·.2)) := fun c1 h1 => by
          obtain ⟨i, hi⟩ := List.mem_iff_getElem?.mp h1
          have li : i < cs.length := by have := (List.getElem?_eq_some_iff.mp hi).1; omega
          obtain ⟨c1', e1, e2, e3, _⟩ := paired_get hnew (List.getElem?_eq_getElem li)
          rw [hi] at e1
          cases e1
          obtain ⟨c, hc, ec, sr⟩ := hcs.rows _ (List.getElem_mem li)
          exact ⟨c, hc, by rw [ec, e2], by rw [e3]; exact sr⟩
        refine ⟨_, rfl, _, rfl, .inr ⟨Tt, F, chK ct, chK cs1, 0, fun _ => true, by omega, rfl, rfl, ndT5.r, m2.r, fun k u v hx hy => ?_, _, rfl, ?_⟩⟩
        · obtain ⟨c1, h1, e1⟩ := List.mem_map.mp hx
          obtain ⟨c2, h2, e2, e3⟩ := ch_of hy
          have k1 : c1.key = k := congrArg Prod.fst e1
          have x1 : u = V.ref c1.at_ := (congrArg Prod.snd e1).symm
          obtain ⟨d1, hd1, ed1, sr1⟩ := ctr c1 h1
          obtain ⟨n2, d2, hd2, ed2, sr2⟩ := m3 c2 h2
          have ed : d1 = d2 := key_one nd hd1 hd2 (by rw [ed1, k1, ed2, e2])
          subst ed
          have er : c1.rows.map (·.2) = c2.rows.map (·.2) := sr_eq sr1 sr2
          have kk : ∀ u ∈ c2.rows.map (·.2), ∀ k ∈ u, KOk k := fun u hu => by
            obtain ⟨y, hy, rfl⟩ := List.mem_map.mp ((sr2.all u).mp hu)
            exact ((rok d1 hd1).1 y hy).1
          have := NEq.dat (K := K) (H := H5) (n := 0) (x := .ref c1.at_) (y := .ref c2.at_) (d := .list ((c1.rows.map (·.2)).map tupD)) (e := .list ((c2.rows.map (·.2)).map tupD)) (.lst (.of (hct5 c1 h1).lst) (dp_rows (hct5 c1 h1).rows)) (.lst (.of n2.lst) (dp_rows n2.rows)) (tups_shaped (by rw [er]; exact kk)) (tups_shaped kk)
          rw [eqv_tups, er, decide_eq_true rfl] at this
          rw [x1, e3]
          exact this
        · have hp : ((chK ct).map (·.1)).Perm ((chK cs1).map (·.1)) := by
            rw [ch_keys, ch_keys, m1, ctK]
            exact hcs.keys
          rw [perm_eqN hp (by rw [ch_keys, m1]; exact nd)]
          refine ifF ?_
          have s05 := (s.trans s2).trans s3
          have ctf : ∀ c ∈ ct, H c.at_ = none := fun c1 h1 => by
            obtain ⟨i, hi⟩ := List.mem_iff_getElem?.mp h1
            have li : i < cs.length := by have := (List.getElem?_eq_some_iff.mp hi).1; omega
            obtain ⟨c1', e1, e2, e3, e4⟩ := paired_get hnew (List.getElem?_eq_getElem li)
            rw [hi] at e1
            cases e1
            exact s.free e4
          have hTt0 : H Tt = none := s.free hTt
          refine ⟨_, rfl, Tt, chK ct, rfl, ndT5.r, fun l3 bs3 hl3 hk3 => ⟨l3, rfl, ?_⟩⟩
          obtain ⟨L5, b1, b2', b3⟩ := nkeys_zip hk3
          have sl := same_upd (o := .lst (bs3.map V.ref)) hl3
          have ebs : bs3.map V.ref = L5.map fun b => V.ref b.1 := by rw [← b1, List.map_map]; rfl
          have hl6 : upd H5 l3 (.lst (bs3.map V.ref)) l3 = some (.lst (L5.map fun b => V.ref b.1)) := by rw [← ebs]; exact upd_same
          have nl3 : ∀ c ∈ ct, c.at_ ≠ l3 := fun c hc n => by
            have := (hct5 c hc).lst
            rw [n, hl3] at this
            cases this
          have nd6 := ndT5.same sl
          have b36 : CksAt (upd H5 l3 (.lst (bs3.map V.ref))) L5 := fun b hb => L2.CkAt.same (b3 b hb) sl
          have hct6 : ∀ c ∈ ct, ∃ xs, upd H5 l3 (.lst (bs3.map V.ref)) c.at_ = some (.lst xs) := fun c hc => ⟨_, sl _ _ (hct5 c hc).lst⟩
          have s06 := s05.trans sl
          generalize upd H5 l3 (.lst (bs3.map V.ref)) = H6 at hl6 nd6 b36 hct6 s06 ⊢
          clear b3 hk3 hl3 sl
          refine ⟨⟨_, .of hl6⟩, for_list (K := K) (a := l3) (xs := L5.map fun b => V.ref b.1) (fun i σ H' => ∃ (y9 : Option V), σ = [some (.ref z), some (.ref sA), some (.ref rA), some (.ref hA), some (.ref cA), y5, y6, some (.ref F), some (.ref Tt), y9] ∧ H' l3 = some (.lst (L5.map fun b => V.ref b.1)) ∧ NDict w H' Tt (chK ct) ∧ (∀ c ∈ ct, ∃ xs, H' c.at_ = some (.lst xs)) ∧ CksAt H' L5 ∧ Same H H') ⟨_, rfl, hl6, nd6, hct6, b36, s06⟩ (fun i σ H' _ hp => ?_) (fun i y σ H' hy hp => ?_) (fun σ H7 hp => ?_)⟩
          · obtain ⟨_, rfl, h, _⟩ := hp
            exact .of h
          · obtain ⟨y9, rfl, hl', nd', hx, hL5, s7⟩ := hp
            obtain ⟨b, hb, rfl⟩ := map_at hy
            have hbm := List.mem_of_getElem? hb
            obtain ⟨c, hc, ec⟩ : ∃ c ∈ ct, c.key = b.2 := by
              have : b.2 ∈ ct.map ChE.key := by rw [← b2']; exact List.mem_map.mpr ⟨b, hbm, rfl⟩
              obtain ⟨c, hc, e⟩ := List.mem_map.mp this
              exact ⟨c, hc, e⟩
            obtain ⟨xs, hxs⟩ := hx c hc
            refine ⟨_, rfl, _, rfl, Tt, b.1, chK ct, c.key, .ref c.at_, rfl, rfl, nd'.r, by rw [ec]; exact hL5 b hbm, ch_val ctn hc, .inl ⟨rfl, _, .of hxs⟩, c.at_, xs, rfl, rfl, hxs, ?_⟩
            have up : ∀ {b u}, b ≠ c.at_ → H' b = some u → upd H' c.at_ (.lst []) b = some u := fun {b u} n e => by rw [upd_ne n]; exact e
            have tup : ∀ {b ys}, H' b = some (.tup ys) → upd H' c.at_ (.lst []) b = some (.tup ys) := fun {b ys} e => up (ne_of e hxs (by intro z; cases z)) e
            refine ⟨_, rfl, up (nl3 c hc).symm hl', ?_, fun c' hc' => ?_, fun b hb => (hL5 b hb).keeps fun _ _ e => tup e, clr_same s7 (ctf c hc)⟩
            · obtain ⟨φ, e⟩ := nd'.at_
              exact nd'.keeps (by rw [e]; exact up (ne_of e hxs (by intro z; cases z)) e) fun _ _ e => tup e
            · by_cases n : c'.at_ = c.at_
              · rw [n]
                exact ⟨_, upd_same⟩
              · obtain ⟨ys, hys⟩ := hx c' hc'
                exact ⟨ys, up n hys⟩
          · obtain ⟨y9, rfl, hl', nd', hx, hL5, s7⟩ := hp
            exact ⟨_, rfl, Tt, chK ct, rfl, rfl, nd', fun φ _ => q _ (clr_same s7 hTt0)⟩
end
/-! ### calls that are refused -/
theorem chg_sub {pl : Addr} {G H H' : Hp} (s : Same G H) (g : G pl = none) (C : Chg pl H H') : Same G H' := fun b o e => C.2 b o (fun n => by rw [n, g] at e; cases e) (s b o e)
theorem odd_str {H : Hp} (s : Str) (h : s.length ≤ 1000) (hc : s.cps.toList.all (· < 128) = true) : Odd H (.str s) := .str s h fun c hx => of_decide_eq_true (List.all_eq_true.mp hc c hx)
theorem ref_shaped (A n : Str) (hA : PyData.strOk A = true) (hn : PyData.strOk n = true) : SeqAt.shaped (.tuple [.str A, .str n]) = true := by
  simp [SeqAt.shaped, PyData.canLay0, PyData.canLayAll0, PyData.depth, PyData.depthAll, hA, hn]
theorem dp_two {K : PySem.W.Frag} {H : Hp} {t : Addr} {A n : Str} (h : H t = some (.tup [.str A, .str n])) : Dp K H (.ref t) (.tuple [.str A, .str n]) := .tup (.of h) (.cons (.str _) (.cons (.str _) .nil))
section
variable {P : Program} {w : World} {K : PySem.W.Frag} {mg : Str → Option Value} {base : Heap} {a : Nat → Addr} {d : Nat → FuncData}
def spLRef (w : World) (C CS CA : Addr) : Sp := fun vs H Q _ => ∃ (z dz p dx x R Fi D g : Addr) (n : Str) (xs : List V) (ts : List (Str × Int)) (ks : List KeyE) (ss : List SvE) (mt ms : Nat) (te : List TabE) (cs : List ChE), vs = [.ref z, .str n, .ref g] ∧ AnO w C CS CA z dz p dx x R Fi D H ts ks ss mt ms te cs ∧
  H g = some (.tup xs) ∧ xs.length ≤ 100 ∧ (∀ y ∈ xs, Thg H y) ∧ (∀ b ∈ ss, b.name = n → goodT xs (b.cols.length : Nat) = false) ∧
  ∀ (A : Str) (t : Addr) (H' : Hp), ((n ∉ ss.map (·.name) ∧ A = "unknown") ∨ (n ∈ ss.map (·.name) ∧ A = "invalid")) → H' t = some (.tup [.str A, .str n]) → Same H H' → Q (.ref t) H'
theorem ok_lref (T : Txt K mg a d) : FnOk P w K mg base CX0 7 (a 75) (d 75) ["_law_answers", "_law_service", "_law_values"] (spLRef w (a 42) (a 48) (a 25)) := by
  have G3502 : FnOk P w K mg base (L2.CX P w) 6 (a 3502) (d 3502) ["self", "service", "given"] (spACall w (a 42) (a 48) (a 25) (a 3) (a 8)) := ok_acall T
  refine T.F75.ok sc__law_refused (fun vs H Q E h => ?_) (fun cdv A outer s H vs Q E hr h => ?_)
  · obtain ⟨z, dz, p, dx, x, R, Fi, D, g, n, xs, ts, ks, ss, mt, ms, te, cs, rfl, _⟩ := h
    rfl
  · obtain ⟨z, dz, p, dx, x, R, Fi, D, g, n, xs, ts, ks, ss, mt, ms, te, cs, rfl, O, hg, hgl, hgt, hbad, q⟩ := h
    refine ⟨_, (pss_cons (ps_set (i := 3) sc__law_refused.nd rfl (.inl rfl) pe_non)
  (pss_cons (TM.ps_try_clauses (Wout := fun _ _ _ _ => False) rfl rfl sc__law_refused.nd takes0
    (TM.Clauses.one (TM.Clauses.one TM.Clauses.nil (i := 4) rfl rfl ⟨rfl, by decide, Or.inl T.cg_8⟩ (fun ea oe cls ed pn hz hf => (pss_one (ps_set (i := 3) sc__law_refused.nd rfl (.inl rfl) (pe_tup (pa_cons pe_str (pa_cons (pe_xf T.xf_8 T.no_8_service hz hf (pv 4)) pa_nil))))))) (i := 4) rfl rfl ⟨rfl, by decide, Or.inl T.cg_3⟩ (fun ea oe cls ed pn hz hf => (pss_one (ps_set (i := 3) sc__law_refused.nd rfl (.inl rfl) (pe_tup (pa_cons pe_str (pa_cons (pe_xf T.xf_3 T.no_3_name hz hf (pv 4)) pa_nil)))))))
    (fun W pn xe tk po => (pss_one (ps_set (i := 3) sc__law_refused.nd rfl (.inl rfl) (pe_callO (pv 0) T.sp_3502 G3502 (hr.mono (by decide)) T.b3502 (fun σ => passAt tk σ) (pa_cons (pv 1) (pa_cons (pv 2) pa_nil)))))))
  (pss_one (ps_ret (pv 3))))), ?_⟩
    refine ⟨_, rfl, z, rfl, _, rfl, _, rfl, dz, _, O.ob, z, dz, p, dx, x, R, Fi, D, g, n, xs, ts, ks, ss, mt, ms, te, cs, rfl, O, hg, hgl, hgt, fun hno dd H' hdd hd s' => ⟨true, T.exm_3_3, fun _ ea hea => ?_, fun z => Bool.noConfusion z⟩, fun b hb eb => ⟨fun _ H1 s1 dd H' hdd hd s' => ⟨false, T.exf_8_3, (fun z => Bool.noConfusion z), fun _ => ⟨true, T.exm_8_8, fun _ ea hea => ?_, fun z => Bool.noConfusion z⟩⟩, fun r hr1 hr2 hr3 e he ee q1 H' L hq hl hL eL s' => ?_⟩⟩
    · refine ⟨_, rfl, rfl, rfl, dd, _, _, rfl, hd, rfl, by show 2 ≤ sizeLine; decide, fun r hr => ?_⟩
      exact ⟨_, rfl, q "unknown" r _ (.inl ⟨hno, rfl⟩) upd_same (s'.trans (same_upd hr))⟩
    · refine ⟨_, rfl, rfl, rfl, dd, _, _, rfl, hd, rfl, by show 2 ≤ sizeLine; decide, fun r hr => ?_⟩
      exact ⟨_, rfl, q "invalid" r _ (.inr ⟨List.mem_map.mpr ⟨b, hb, eb⟩, rfl⟩) upd_same ((s1.trans s').trans (same_upd hr))⟩
    · have h1 := hbad b hb eb
      subst hr1
      rw [good_row (by omega) hr2] at h1
      cases h1
def spLRefs (w : World) (C CS CA : Addr) : Sp := fun vs H Q _ => ∃ (pl z dz p dx x R Fi D sA : Addr) (G : Hp) (ts : List (Str × Int)) (ks : List KeyE) (ss : List SvE) (mt ms : Nat) (te : List TabE) (cs : List ChE), vs = [.ref pl, .ref z, .ref sA] ∧ PoolAt H pl ∧ AnO w C CS CA z dz p dx x R Fi D G ts ks ss mt ms te cs ∧ Same G H ∧ G pl = none ∧
  H sA = some (.dK (svK ss)) ∧ (ss.map (·.name)).Nodup ∧ (∀ b ∈ ss, SvOk H ts b ∧ PyData.strOk b.name = true ∧ b.name ≠ "") ∧ 1 ≤ ss.length ∧ ss.length ≤ 100 ∧ ∀ H', Chg pl H H' → Q (.bl true) H'
theorem ok_lrefs (T : Txt K mg a d) : FnOk P w K mg base CX0 8 (a 76) (d 76) ["_law_pool_here", "_law_answers", "_law_services_here"] (spLRefs w (a 42) (a 48) (a 25)) := by
  have G62 : FnOk P w K mg base CX0 3 (a 62) (d 62) ["_law_pool_here", "_law_row"] spPick := ok_pick T
  have G75 : FnOk P w K mg base CX0 7 (a 75) (d 75) ["_law_answers", "_law_service", "_law_values"] (spLRef w (a 42) (a 48) (a 25)) := ok_lref T
  refine T.F76.ok sc__law_refuses (fun vs H Q E h => ?_) (fun cdv A outer s H vs Q E hr h => ?_)
  · obtain ⟨pl, z, dz, p, dx, x, R, Fi, D, sA, G, ts, ks, ss, mt, ms, te, cs, rfl, _⟩ := h
    rfl
  · obtain ⟨pl, z, dz, p, dx, x, R, Fi, D, sA, G, ts, ks, ss, mt, ms, te, cs, rfl, hP, O, sG, gpl, hs, snd, hss, l1, l8, q⟩ := h
    have nsA : sA ≠ pl := pool_ne hP hs (by intro _ z; cases z)
    have ki : PyData.strOk ("invalid" : Str) = true := by decide +kernel
    have ku : PyData.strOk ("unknown" : Str) = true := by decide +kernel
    have ke : PyData.strOk ("" : Str) = true := by decide +kernel
    refine ⟨_, (pss_cons (ps_set (i := 3) sc__law_refuses.nd rfl (.inl rfl) (pe_call G62 (hr.mono (by decide)) (by rfl) T.g62 T.F62.kp T.b62 .nil pass0 (pa_cons (pv 0) (pa_cons (pe_callTy (T := "list")  (call_listD rfl) (by rfl) T.z_list (by decide +kernel) (pa_cons (pv 2) pa_nil)) pa_nil))))
  (pss_cons (ps_set (i := 4) sc__law_refuses.nd rfl (.inl rfl) (pe_ix ix_tup (pe_dget (hu_of hr) (pv 2) (pv 3) (fun _ _ => rfl)) pe_int (fun _ _ => rfl)))
  (pss_cons (ps_set (i := 5) sc__law_refuses.nd rfl (.inl rfl) (pe_callTy (T := "tuple")  call_tuple_of (by rfl) T.z_tuple (by decide +kernel) (pa_cons (pe_lc (own := [("_law_at", 6)]) rfl sc__law_refuses.nd (pi_tup (pv 4)) (blkOk_by (N := ["_law_pool_here", "_law_answers", "_law_services_here", "_law_service", "_law_given", "_law_wrong", "_law_at"]) (sc := defScope s__law_refuses) (by decide +kernel)) (fun _ _ _ _ _ => pg_name (i := 6) sc__law_refuses.nd rfl (.inl rfl)) (fun _ _ _ _ _ => pts_nil) (fun _ _ _ _ _ => (pe_call G62 (hr.mono (by decide)) (by rfl) T.g62 T.F62.kp T.b62 .nil pass0 (pa_cons (pv 0) (pa_cons (pe_lst (pa_cons pe_str (pa_cons pe_str (pa_cons pe_non (pa_cons pe_bl (pa_cons (pe_op op_pow pe_int pe_int) pa_nil)))))) pa_nil))))) pa_nil)))
  (Evl.pss_cut (ps_if (PW.pt (pw_and (pt_cmpR op_gt (pe_callB (id := "len")  call_len_seq (by rfl) T.z_len (by decide +kernel) (pa_cons (pv 4) pa_nil)) pe_int (nomark _)) (pw_and1 (pt_cmpR (op_neD (hu_of64 hr)) (pe_call G75 (hr.mono (by decide)) (by rfl) T.g75 T.F75.kp T.b75 .nil pass0 (pa_cons (pv 1) (pa_cons (pv 3) (pa_cons (pv 5) pa_nil)))) (pe_tup (pa_cons pe_str (pa_cons (pv 3) pa_nil))) (nomark _)))))
    (pss_one (ps_ret pe_bl))
    pss_nil)
  (pss_cons (ps_if (pt_cmpR (op_neD (hu_of64 hr)) (pe_call G75 (hr.mono (by decide)) (by rfl) T.g75 T.F75.kp T.b75 .nil pass0 (pa_cons (pv 1) (pa_cons (pv 3) (pa_cons (pe_callTy (T := "tuple")  call_tuple_of (by rfl) T.z_tuple (by decide +kernel) (pa_cons (pe_op op_cat (pe_lc (own := [("_law_at", 6)]) rfl sc__law_refuses.nd (pi_tup (pv 4)) (blkOk_by (N := ["_law_pool_here", "_law_answers", "_law_services_here", "_law_service", "_law_given", "_law_wrong", "_law_at"]) (sc := defScope s__law_refuses) (by decide +kernel)) (fun _ _ _ _ _ => pg_name (i := 6) sc__law_refuses.nd rfl (.inl rfl)) (fun _ _ _ _ _ => pts_nil) (fun _ _ _ _ _ => pe_int)) (pe_lst (pa_cons pe_int pa_nil))) pa_nil)) pa_nil)))) (pe_tup (pa_cons pe_str (pa_cons (pv 3) pa_nil))) (nomark _))
    (pss_one (ps_ret pe_bl))
    pss_nil)
  (pss_one (ps_ret (pe_cmpR (op_eqD (hu_of64 hr)) (pe_call G75 (hr.mono (by decide)) (by rfl) T.g75 T.F75.kp T.b75 .nil pass0 (pa_cons (pv 1) (pa_cons pe_str (pa_cons (pe_tup pa_nil) pa_nil)))) (pe_tup (pa_cons pe_str (pa_cons pe_str pa_nil))) (nomark _))))))))), ?_⟩
    refine ⟨_, rfl, _, rfl, sA, svK ss, rfl, .inl hs, fun l hl => ?_⟩
    have e0 : (svK ss).map (fun kv => kV kv.1) = (ss.map (·.name)).map V.str := by
      unfold svK
      rw [List.map_map, List.map_map]
      rfl
    rw [e0]
    have c1 := (Chg.refl hP).new (o := .lst ((ss.map (·.name)).map V.str)) hl
    refine ⟨pl, l, _, rfl, c1.1, upd_same, Chg.ne hP hl, by rw [List.length_map, List.length_map]; exact l1, by rw [List.length_map, List.length_map]; omega, fun v H1 hv C1' => ?_⟩
    have C1 := c1.trans C1'
    clear c1 C1' hl
    obtain ⟨nn, hnn, rfl⟩ := List.mem_map.mp hv
    obtain ⟨b, hb, rfl⟩ := List.mem_map.mp hnn
    obtain ⟨so, hbk, hbn⟩ := hss b hb
    have so1 := so.mono (chg_tup hP C1)
    obtain ⟨_, _, _, w3⟩ := so.ok
    have hvv : valV (svK ss) (Sum.inr b.name) = some (.ref b.at_) := val_nodup (by rw [keys_sv]; exact inr_nd snd) (Sum.inr b.name, V.ref b.at_) (List.mem_map.mpr ⟨b, hb, rfl⟩)
    have bin : b.name ∈ ss.map (·.name) := List.mem_map.mpr ⟨b, hb, rfl⟩
    refine ⟨_, rfl, _, rfl, sA, _, rfl, (DctAt.of (C1.at nsA hs)).at_ (by rw [keys_sv]; exact inr_nd snd) hvv, _, _, _, _, rfl, rfl, .of so1.told.tup, atI_nat (j := 1) rfl, ?_⟩
    -- wrong values
    refine ⟨_, rfl, b.ga, rfl, ⟨_, .of so1.told.cols⟩, fun D0 hD => ?_⟩
    have nD : D0 ≠ pl := Chg.ne C1.1 hD
    refine lc_tup (K := K) (a := b.ga) (xs := b.cols.map V.int) (fun j H2 => ∃ vs : List V, H2 D0 = some (.lst vs) ∧ vs.length = j ∧ (∀ x ∈ vs, valV' x = false ∧ ∀ H, Thg H x) ∧ Chg pl H1 H2) ⟨[], upd_same, rfl, (fun x hx => by cases hx), (Chg.refl C1.1).new hD⟩ (fun j H2 _ hp => ?_) (fun j x H2 hx hp => ?_) (fun H2 hp => ?_)
    · obtain ⟨_, _, _, _, c⟩ := hp
      exact .of (chg_tup C1.1 c _ _ so1.told.cols)
    · obtain ⟨vs, v1, v2, v3, cc⟩ := hp
      have lj : j < b.cols.length := by
        have := (List.getElem?_eq_some_iff.mp hx).1
        rw [List.length_map] at this
        exact this
      refine ⟨rfl, _, rfl, _, _, rfl, rfl, ⟨by decide, by decide, by decide⟩, by show 5 ≤ sizeLine; decide, fun l9 hl9 => ?_⟩
      have c9 := cc.new (o := .lst [.str "Ab", .str "", .non, .bl true, .int (10 ^ (30 : Int).toNat)]) hl9
      have v9 := same_upd (o := .lst [.str "Ab", .str "", .non, .bl true, .int (10 ^ (30 : Int).toNat)]) hl9 _ _ v1
      refine ⟨pl, l9, _, rfl, c9.1, upd_same, Chg.ne cc.1 hl9, by show 1 ≤ 5; decide, by show 5 ≤ 1000; decide, fun u H3 hu C3 => ?_⟩
      have h5 := C3.2 D0 _ nD v9
      refine ⟨_, h5, ?_, vs ++ [u], upd_same, ?_, fun y hy => ?_, (c9.trans C3).mut hD nD⟩
      · exact small1000 (by omega)
      · rw [List.length_append, v2]
        rfl
      · rcases List.mem_append.mp hy with h | h
        · exact v3 y h
        · rw [List.mem_singleton.mp h]
          simp only [List.mem_cons, List.not_mem_nil, or_false] at hu
          rcases hu with rfl | rfl | rfl | rfl | rfl
          · exact ⟨by decide +kernel, fun H => (odd_str (H := H) _ (by decide) (by decide +kernel)).thg⟩
          · exact ⟨by decide +kernel, fun H => (odd_str (H := H) _ (by decide) (by decide +kernel)).thg⟩
          · exact ⟨rfl, fun _ => .non⟩
          · exact ⟨rfl, fun _ => .bl _⟩
          · exact ⟨by decide +kernel, fun _ => .int _⟩
    · obtain ⟨vs, v1, v2, v3, cc⟩ := hp
      rw [List.length_map] at v2
      refine ⟨D0, _, rfl, .inl ⟨.of v1, fun tt htt => ?_⟩⟩
      have C2 := (C1.trans cc).new (o := .tup vs) htt
      have ht2 : upd H2 tt (.tup vs) tt = some (.tup vs) := upd_same
      generalize upd H2 tt (.tup vs) = H3 at C2 ht2 ⊢
      have badv : 1 ≤ vs.length → goodT vs (b.cols.length : Nat) = false := fun h => by
        unfold goodT
        cases vs with
        | nil => simp at h
        | cons y ys => rw [List.all_cons, (v3 y List.mem_cons_self).1, Bool.false_and, Bool.and_false]
      have one : ∀ {b' : SvE}, b' ∈ ss → b'.name = b.name → b' = b := fun h e => name_uniq snd h hb e
      refine ⟨fun σ H' => σ = [some (.ref pl), some (.ref z), some (.ref sA), some (.str b.name), some (.ref b.ga), some (.ref tt), none] ∧ Chg pl H H', ?_, ?_⟩
      · refine ⟨_, rfl, b.ga, _, rfl, .inr (.of (chg_tup hP C2 _ _ so.told.cols)), _, _, rfl, rfl, _, rfl, ite_d (fun hgt => ?_) (fun _ => ⟨rfl, C2⟩)⟩
        rw [List.length_map] at hgt
        refine ⟨_, rfl, _, rfl, _, rfl, z, dz, p, dx, x, R, Fi, D, tt, b.name, vs, ts, ks, ss, mt, ms, te, cs, rfl, O.same (chg_sub sG gpl C2), ht2, by omega, fun y hy => (v3 y hy).2 _, fun b' hb' eb' => by rw [one hb' eb']; exact badv (by omega), fun A t H4 hA ht4 s4 => ?_⟩
        rcases hA with ⟨hno, _⟩ | ⟨_, rfl⟩
        · exact absurd bin hno
        · refine ⟨_, rfl, by show 2 ≤ sizeLine; decide, fun t5 ht5 => ?_⟩
          have s5 := same_upd (o := .tup [.str "invalid", .str b.name]) ht5
          refine ⟨.tuple [.str "invalid", .str b.name], .tuple [.str "invalid", .str b.name], dp_two (s5 _ _ ht4), dp_two upd_same, ref_shaped _ _ ki hbk, ref_shaped _ _ ki hbk, _, rfl, ?_⟩
          rw [PySem.SeqAt.eqv_refl _ (PySem.SeqAt.canLay_of_shaped (ref_shaped _ _ ki hbk))]
          exact ifF ⟨rfl, C2.same4' (s4.trans s5)⟩
      · rintro σ H4 ⟨rfl, C4⟩
        have so4 := so.mono (chg_tup hP C4)
        refine ⟨_, rfl, _, rfl, _, rfl, b.ga, rfl, ⟨_, .of so4.told.cols⟩, fun D1 hD1 => ?_⟩
        have nD1 := Chg.ne C4.1 hD1
        refine lc_tup (K := K) (a := b.ga) (xs := b.cols.map V.int) (fun j H2 => H2 D1 = some (.lst (List.replicate j (V.int 1))) ∧ Same H4 H2) ⟨upd_same, same_upd hD1⟩ (fun j H2 _ hp => .of (hp.2 _ _ so4.told.cols)) (fun j x H2 hx hp => ?_) (fun H2 hp => ?_)
        · have lj : j < b.cols.length := by
            have := (List.getElem?_eq_some_iff.mp hx).1
            rw [List.length_map] at this
            exact this
          refine ⟨rfl, _, hp.1, ?_, ?_, fun c o e => ?_⟩
          · rw [List.length_replicate]
            exact small1000 (by omega)
          · rw [List.replicate_succ']
            exact upd_same
          · rw [upd_ne (ne_of_none e hD1)]
            exact hp.2 _ _ e
        · obtain ⟨h1, s42⟩ := hp
          rw [List.length_map] at h1
          refine ⟨by show 1 ≤ sizeLine; decide, fun l6 hl6 => ?_⟩
          have s6 := same_upd (o := .lst [.int 2]) hl6
          refine ⟨D1, l6, _, _, rfl, rfl, s6 _ _ h1, upd_same, by rw [List.length_replicate]; exact small1000' (by show b.cols.length + 1 ≤ 1000; omega), fun p6 hp6 => ?_⟩
          have s7 := same_upd (o := .lst (List.replicate b.cols.length (V.int 1) ++ [.int 2])) hp6
          refine ⟨p6, _, rfl, .inl ⟨.of upd_same, fun t7 ht7 => ?_⟩⟩
          have s8 := same_upd (o := .tup (List.replicate b.cols.length (V.int 1) ++ [.int 2])) ht7
          have C8 := C4.same4' (((s42.trans s6).trans s7).trans s8)
          have ht8 : upd (upd (upd H2 l6 (.lst [.int 2])) p6 (.lst (List.replicate b.cols.length (V.int 1) ++ [.int 2]))) t7 (.tup (List.replicate b.cols.length (V.int 1) ++ [.int 2])) t7 = some (.tup (List.replicate b.cols.length (V.int 1) ++ [.int 2])) := upd_same
          generalize upd (upd (upd H2 l6 (.lst [.int 2])) p6 (.lst (List.replicate b.cols.length (V.int 1) ++ [.int 2]))) t7 (.tup (List.replicate b.cols.length (V.int 1) ++ [.int 2])) = H8 at C8 ht8 ⊢
          have xl : (List.replicate b.cols.length (V.int 1) ++ [V.int 2]).length = b.cols.length + 1 := by rw [List.length_append, List.length_replicate]; rfl
          refine ⟨z, dz, p, dx, x, R, Fi, D, t7, b.name, _, ts, ks, ss, mt, ms, te, cs, rfl, O.same (chg_sub sG gpl C8), ht8, by omega, fun y hy => ?_, fun b' hb' eb' => ?_, fun A t H9 hA ht9 s9 => ?_⟩
          · rcases List.mem_append.mp hy with h | h
            · rw [(List.mem_replicate.mp h).2]
              exact .int _
            · rw [List.mem_singleton.mp h]
              exact .int _
          · rw [one hb' eb']
            unfold goodT
            rw [xl, decide_eq_false (by omega), Bool.false_and]
          · rcases hA with ⟨hno, _⟩ | ⟨_, rfl⟩
            · exact absurd bin hno
            · refine ⟨_, rfl, by show 2 ≤ sizeLine; decide, fun t5 ht5 => ?_⟩
              have s5 := same_upd (o := .tup [.str "invalid", .str b.name]) ht5
              refine ⟨.tuple [.str "invalid", .str b.name], .tuple [.str "invalid", .str b.name], dp_two (s5 _ _ ht9), dp_two upd_same, ref_shaped _ _ ki hbk, ref_shaped _ _ ki hbk, _, rfl, ?_⟩
              rw [PySem.SeqAt.eqv_refl _ (PySem.SeqAt.canLay_of_shaped (ref_shaped _ _ ki hbk))]
              have C9 := C8.same4' (s9.trans s5)
              generalize upd H9 t5 (.tup [.str "invalid", .str b.name]) = H10 at C9 ⊢
              refine ifF ⟨_, rfl, Nat.zero_le _, fun t0 ht0 => ?_⟩
              have C10 := C9.new (o := .tup []) ht0
              have h0 : upd H10 t0 (.tup []) t0 = some (.tup []) := upd_same
              generalize upd H10 t0 (.tup []) = H11 at C10 h0 ⊢
              refine ⟨z, dz, p, dx, x, R, Fi, D, t0, "", [], ts, ks, ss, mt, ms, te, cs, rfl, O.same (chg_sub sG gpl C10), h0, Nat.zero_le _, (fun y hy => nomatch hy), fun b' hb' eb' => absurd eb' (hss b' hb').2.2, fun A t H12 hA ht12 s12 => ?_⟩
              rcases hA with ⟨_, rfl⟩ | ⟨hin, _⟩
              · refine ⟨by show 2 ≤ sizeLine; decide, fun t6 ht6 => ?_⟩
                have s13 := same_upd (o := .tup [.str "unknown", .str ""]) ht6
                refine ⟨.tuple [.str "unknown", .str ""], .tuple [.str "unknown", .str ""], dp_two (s13 _ _ ht12), dp_two upd_same, ref_shaped _ _ ku ke, ref_shaped _ _ ku ke, ?_⟩
                rw [PySem.SeqAt.eqv_refl _ (PySem.SeqAt.canLay_of_shaped (ref_shaped _ _ ku ke))]
                exact q _ (C10.same4' (s12.trans s13))
              · obtain ⟨b', hb', eb'⟩ := List.mem_map.mp hin
                exact absurd eb' (hss b' hb').2.2
end
def spLaw (K : PySem.W.Frag) : Sp := fun vs H Q _ => ∃ (p : Addr) (ns : List Int), vs = [.ref p] ∧ SqL K H p (ns.map V.int) ∧ ns.length ≤ 63 ∧ ∀ H', Q (.bl true) H'
theorem sum12 : ∀ {es : List RwE}, (∀ b ∈ es, b.rows.length ≤ 12) → (es.map fun b => b.rows.length).sum ≤ 12 * es.length
  | [], _ => Nat.le_refl _
  | b :: es, h => by
    have h1 := sum12 fun c hc => h c (List.mem_cons_of_mem _ hc)
    have h2 := h b List.mem_cons_self
    rw [List.map_cons, List.sum_cons, List.length_cons]
    omega
theorem isWd_strOk {s : Str} {m : Nat} (h : IsWd s m) : PyData.strOk s = true := by
  unfold PyData.strOk
  rw [Array.all_eq_true']
  intro c hc
  have := (h.2 c (by simpa using hc)).2
  exact decide_eq_true (by omega)
def usOf (es : List TabE) (t : Str) : List RowK := ((es.find? fun b => decide (b.1 = t)).map (·.2.2)).getD []
theorem usOf_at {es : List TabE} (nd : (es.map (·.1)).Nodup) {e : TabE} (he : e ∈ es) : usOf es e.1 = e.2.2 := by
  unfold usOf
  cases h : es.find? fun b => decide (b.1 = e.1) with
  | none => exact absurd (List.find?_eq_none.mp h e he) (by simp)
  | some c =>
    have hc := List.mem_of_find?_eq_some h
    have h2 : decide (c.1 = e.1) = true := List.find?_some (p := fun b : TabE => decide (b.1 = e.1)) h
    rw [tab_one nd he hc (of_decide_eq_true h2)]
    rfl
/-- what stands from the store on -/
structure LS9 (pl pal v f : Addr) (ts : List (Str × Int)) (ks : List KeyE) (ss : List SvE) (vals : List Key) (es : List RwE) (G H : Hp) : Prop where
  pool : PoolAt H pl
  sG : Same G H
  hv : H v = some (.dK (svK ss))
  sok : ∀ b ∈ ss, SvOk H ts b
  hR : RwsAt H f ts ks es
  hpal : H pal = some (.lst (vals.map kV))
  npal : pal ≠ pl
  nes : ∀ b ∈ es, b.at_ ≠ pl
  gpl : G pl = none
theorem LS9.lk {pl pal v f : Addr} {ts : List (Str × Int)} {ks : List KeyE} {ss : List SvE} {vals : List Key} {es : List RwE} {G H H' : Hp} {S : List Addr} (h : LS9 pl pal v f ts ks ss vals es G H) (k : Lk S H H') (hp : PoolAt H' pl) (n2 : pal ∉ S) (n3 : ∀ b ∈ es, b.at_ ∉ S) (n4 : ∀ q ∈ S, G q = none) : LS9 pl pal v f ts ks ss vals es G H' :=
  ⟨hp, k.sub n4 h.sG, k.keep h.hv (by intro _ z; cases z), fun b hb => (h.sok b hb).mono fun _ _ e => k.keep e (by intro _ z; cases z), ⟨k.keep h.hR.dct (by intro _ z; cases z), h.hR.nm, fun b hb => ⟨k.rw (n3 b hb) (h.hR.sub b hb).1, (h.hR.sub b hb).2⟩⟩, k.2 _ _ n2 h.hpal, h.npal, h.nes, h.gpl⟩
theorem LS9.same {pl pal v f : Addr} {ts : List (Str × Int)} {ks : List KeyE} {ss : List SvE} {vals : List Key} {es : List RwE} {G H H' : Hp} (h : LS9 pl pal v f ts ks ss vals es G H) (s : Same H H') : LS9 pl pal v f ts ks ss vals es G H' :=
  h.lk (S := []) (.of_same (fun q hq => by cases hq) s) (h.pool.same s) (by simp) (fun _ _ => by simp) (fun q hq => by cases hq)
theorem LS9.chg {pl pal v f : Addr} {ts : List (Str × Int)} {ks : List KeyE} {ss : List SvE} {vals : List Key} {es : List RwE} {G H H' : Hp} (h : LS9 pl pal v f ts ks ss vals es G H) (c : Chg pl H H') : LS9 pl pal v f ts ks ss vals es G H' :=
  h.lk (Lk.of_chg h.pool c) c.1 (fun z => h.npal (List.mem_singleton.mp z)) (fun b hb z => h.nes b hb (List.mem_singleton.mp z)) fun q hq => by rw [List.mem_singleton.mp hq]; exact h.gpl
section
variable {P : Program} {w : World} {K : PySem.W.Frag} {mg : Str → Option Value} {base : Heap} {a : Nat → Addr} {d : Nat → FuncData}
theorem ok_law (T : Txt K mg a d) : FnOk P w K mg base CX0 10 (a 77) (d 77) ["_law_script"] (spLaw K) := by
  have G50 : FnOk P w K mg base CX0 1 (a 50) (d 50) ["_law_script"] (spPool K) := ok_pool T
  have G52 : FnOk P w K mg base CX0 2 (a 52) (d 52) ["_law_pool_here", "_law_many"] spDraw := ok_draw T
  have G60 : FnOk P w K mg base CX0 6 (a 60) (d 60) ["_law_pool_here", "_law_many", "_law_widest", "_law_caps", "_law_more"] spParts := ok_parts T
  have G63 : FnOk P w K mg base CX0 5 (a 63) (d 63) ["_law_pool_here", "_law_many"] spPalette := ok_palette T
  have G65 : FnOk P w K mg base CX0 4 (a 65) (d 65) ["_law_pool_here", "_law_tables_here", "_law_keys_here", "_law_palette_here", "_law_most"] spRows := ok_lrows T
  have G5200 : FnOk P w K mg base CX0 5 (a 5200) (d 5200) ["self", "tables", "keys", "services"] (spSInit (a 42)) := ok_sinit T
  have G5800 : FnOk P w K mg base CX0 6 (a 5800) (d 5800) ["self", "schema", "rows"] (spStInit (a 42) (a 48)) := ok_stinit T
  have G62 : FnOk P w K mg base CX0 3 (a 62) (d 62) ["_law_pool_here", "_law_row"] spPick := ok_pick T
  have G72 : FnOk P w K mg base CX0 1 (a 72) (d 72) ["_law_services_here", "_law_rows_here"] spLCalls := ok_lcalls T
  have G73 : FnOk P w K mg base CX0 6 (a 73) (d 73) ["_law_pool_here", "_law_services_here", "_law_rows_here", "_law_calls_here"] (spLChs w) := ok_lchs T
  have G68 : FnOk P w K mg base CX0 1 (a 68) (d 68) ["_law_lists"] (spCopN w) := ok_copN T
  have G3500 : FnOk P w K mg base CX0 8 (a 3500) (d 3500) ["self", "store", "choices"] (spAInit w (a 42) (a 48) (a 25)) := ok_ainit T
  have G3501 : FnOk P w K mg base CX0 1 (a 3501) (d 3501) ["self"] (spAChs w (a 42) (a 48) (a 25)) := ok_achs T
  have G74 : FnOk P w K mg base CX0 7 (a 74) (d 74) ["_law_answers", "_law_services_here", "_law_rows_here", "_law_chosen_here", "_law_calls_here"] (spLHold w (a 42) (a 48) (a 25)) := ok_lhold T
  have G76 : FnOk P w K mg base CX0 8 (a 76) (d 76) ["_law_pool_here", "_law_answers", "_law_services_here"] (spLRefs w (a 42) (a 48) (a 25)) := ok_lrefs T
  have G5805 : FnOk P w K mg base CX0 2 (a 5805) (d 5805) ["self", "other"] (spSEqT (a 42) (a 48)) := ok_seqT T
  have G5204 : FnOk P w K mg base CX0 1 (a 5204) (d 5204) ["self", "other"] (spSEq (a 42)) := ok_seq T
  refine T.F77.ok sc_law (fun vs H Q E h => ?_) (fun cdv A outer s H vs Q E hr h => ?_)
  · obtain ⟨p, ns, rfl, _⟩ := h
    rfl
  · obtain ⟨p0, ns, rfl, hS0, hl0, q⟩ := h
    refine ⟨_, (pss_cons (ps_set (i := 1) sc_law.nd rfl (.inr rfl) (pe_call G50 (hr.mono (by decide)) (by rfl) T.g50 T.F50.kp T.b50 .nil pass0 (pa_cons (pv 0) pa_nil)))
  (pss_cons (ps_asg (pe_call G60 (hr.mono (by decide)) (by rfl) T.g60 T.F60.kp T.b60 .nil pass0 (pa_cons (pv 1) (pa_cons (pe_op op_add pe_int (pe_call G52 (hr.mono (by decide)) (by rfl) T.g52 T.F52.kp T.b52 .nil pass0 (pa_cons (pv 1) (pa_cons pe_int pa_nil)))) (pa_cons pe_int (pa_cons (pe_lst (pa_cons pe_non (pa_cons pe_int (pa_cons pe_int (pa_cons pe_int (pa_cons pe_int pa_nil)))))) (pa_cons (pe_call G52 (hr.mono (by decide)) (by rfl) T.g52 T.F52.kp T.b52 .nil pass0 (pa_cons (pv 1) (pa_cons pe_int pa_nil))) pa_nil)))))) (pg_unl rfl (pgs_cons (pg_name (i := 2) sc_law.nd rfl (.inl rfl)) (pgs_cons (pg_name (i := 3) sc_law.nd rfl (.inl rfl)) (pgs_cons (pg_name (i := 4) sc_law.nd rfl (.inl rfl)) pgs_nil)))))
  (pss_cons (ps_set (i := 5) sc_law.nd rfl (.inr rfl) (pe_call G63 (hr.mono (by decide)) (by rfl) T.g63 T.F63.kp T.b63 .nil pass0 (pa_cons (pv 1) (pa_cons (pe_op op_add pe_int (pe_call G52 (hr.mono (by decide)) (by rfl) T.g52 T.F52.kp T.b52 .nil pass0 (pa_cons (pv 1) (pa_cons pe_int pa_nil)))) pa_nil))))
  (pss_cons (ps_set (i := 6) sc_law.nd rfl (.inl rfl) (pe_call G65 (hr.mono (by decide)) (by rfl) T.g65 T.F65.kp T.b65 .nil pass0 (pa_cons (pv 1) (pa_cons (pv 2) (pa_cons (pv 3) (pa_cons (pv 5) (pa_cons pe_int pa_nil)))))))
  (pss_cons (ps_set (i := 7) sc_law.nd rfl (.inl rfl) (pe_make T.M_42 G5200 (hr.mono (by decide)) (by rfl) T.cg_42 T.b5200 .nil pass0 (pa_cons (pv 2) (pa_cons (pv 3) (pa_cons (pv 4) pa_nil)))))
  (pss_cons (ps_set (i := 8) sc_law.nd rfl (.inl rfl) (pe_make T.M_48 G5800 (hr.mono (by decide)) (by rfl) T.cg_48 T.b5800 .nil pass0 (pa_cons (pv 7) (pa_cons (pv 6) pa_nil))))
  (pss_cons (ps_set (i := 9) sc_law.nd rfl (.inl rfl) (pe_call G72 (hr.mono (by decide)) (by rfl) T.g72 T.F72.kp T.b72 .nil pass0 (pa_cons (pv 4) (pa_cons (pv 6) pa_nil))))
  (pss_cons (ps_set (i := 10) sc_law.nd rfl (.inl rfl) (pe_call G73 (hr.mono (by decide)) (by rfl) T.g73 T.F73.kp T.b73 .nil pass0 (pa_cons (pv 1) (pa_cons (pv 4) (pa_cons (pv 6) (pa_cons (pv 9) pa_nil))))))
  (pss_cons (ps_for PassesOwn.never rfl (pi_list (pe_callTy (T := "list")  (call_listD rfl) (by rfl) T.z_list (by decide +kernel) (pa_cons (pv 4) pa_nil))) (pg_name (i := 11) sc_law.nd rfl (.inl rfl))
    (pss_one (ps_expr (pe_bm PySem.F.plainAttrs_list PySem.F.slot_list_append PySem.F.type_list_append mt_append (pv 9) (pa_cons (pe_tup (pa_cons (pv 11) (pa_cons (pe_callTy (T := "tuple")  call_tuple_of (by rfl) T.z_tuple (by decide +kernel) (pa_cons (pe_lc (own := [("_law_at", 17)]) rfl sc_law.nd (pi_tup (pe_ix ix_tup (pe_dget (hu_of hr) (pv 4) (pv 11) (fun _ _ => rfl)) pe_int (fun _ _ => rfl))) (blkOk_by (N := ["_law_script", "_law_pool_here", "_law_tables_here", "_law_keys_here", "_law_services_here", "_law_palette_here", "_law_rows_here", "_law_schema", "_law_store", "_law_calls_here", "_law_chosen_here", "_law_service", "_law_handed", "_law_answers", "_law_plain", "_law_call", "_law_k", "_law_at"]) (sc := defScope s_law) (by decide +kernel)) (fun _ _ _ _ _ => pg_name (i := 17) sc_law.nd rfl (.inl rfl)) (fun _ _ _ _ _ => pts_nil) (fun _ _ _ _ _ => (pe_call G62 (hr.mono (by decide)) (by rfl) T.g62 T.F62.kp T.b62 .nil pass0 (pa_cons (pv 1) (pa_cons (pv 5) pa_nil))))) pa_nil)) pa_nil))) pa_nil)))))
  (pss_cons (ps_set (i := 12) sc_law.nd rfl (.inl rfl) (pe_call G68 (hr.mono (by decide)) (by rfl) T.g68 T.F68.kp T.b68 .nil pass0 (pa_cons (pv 10) pa_nil)))
  (pss_cons (ps_set (i := 13) sc_law.nd rfl (.inl rfl) (pe_make T.M_25 G3500 (hr.mono (by decide)) (by rfl) T.cg_25 T.b3500 .nil pass0 (pa_cons (pv 8) (pa_cons (pv 12) pa_nil))))
  (pss_cons (ps_set (i := 14) sc_law.nd rfl (.inl rfl) (pe_make T.M_25 G3500 (hr.mono (by decide)) (by rfl) T.cg_25 T.e3500 vals_non pass0 (pa_cons (pv 8) pa_nil)))
  (pss_cons (ps_if (pt_cmpR (op_neND (w := w) (by rfl) (hu_of80 hr)) (pv 12) (pv 10) (nomark _))
    (pss_one (ps_ret pe_bl))
    pss_nil)
  (pss_cons (ps_for PassesOwn.never rfl (pi_list (pe_callTy (T := "list")  (call_list_nd (w := w) (by rfl) rfl) (by rfl) T.z_list (by decide +kernel) (pa_cons (pv 12) pa_nil))) (pg_name (i := 15) sc_law.nd rfl (.inl rfl))
    (pss_one (ps_expr (pe_bm0 PySem.F.plainAttrs_list PySem.F.slot_list_clear PySem.F.type_list_clear mt_clear (pe_nget (w := w) (by rfl) (by exact hu_of9 hr) (pv 12) (pv 15) (fun _ _ => rfl))))))
  (pss_cons (ps_expr (pe_nclear (w := w) (by rfl) (pv 12)))
  (pss_cons (ps_for PassesOwn.never rfl (pi_range1 (by rfl) T.z_range (pa_cons pe_int pa_nil)) (pg_name (i := 16) sc_law.nd rfl (.inl rfl))
    (pss_cons (ps_if (pt_not (pt_val (pe_call G74 (hr.mono (by decide)) (by rfl) T.g74 T.F74.kp T.b74 .nil pass0 (pa_cons (pv 13) (pa_cons (pv 4) (pa_cons (pv 6) (pa_cons (pv 10) (pa_cons (pv 9) pa_nil))))))))
        (pss_one (ps_ret pe_bl))
        pss_nil)
      (pss_one (ps_if (pt_not (pt_val (pe_call G74 (hr.mono (by decide)) (by rfl) T.g74 T.F74.kp T.b74 .nil pass0 (pa_cons (pv 14) (pa_cons (pv 4) (pa_cons (pv 6) (pa_cons (pe_nnew (w := w) (by rfl)) (pa_cons (pv 9) pa_nil))))))))
        (pss_one (ps_ret pe_bl))
        pss_nil))))
  (pss_cons (ps_if (pt_not (pt_val (pe_call G76 (hr.mono (by decide)) (by rfl) T.g76 T.F76.kp T.b76 .nil pass0 (pa_cons (pv 1) (pa_cons (pv 13) (pa_cons (pv 4) pa_nil))))))
    (pss_one (ps_ret pe_bl))
    pss_nil)
  (pss_one (ps_ret (pe_and (pe_cmpR (op_eqO (E := fun _ _ _ => False) G5805 (hr.mono (by decide)) T.m_5805.at_ T.m_5805.fn T.b5805 pass0) (pe_fld (pv 13) rfl) (pv 8) (nomark _)) (pe_and (pe_cmpR (op_eqO (E := fun _ _ _ => False) G5204 (hr.mono (by decide)) T.m_5204.at_ T.m_5204.fn T.b5204 pass0) (pe_fld (pv 13) rfl) (pv 7) (nomark _)) (pe_one (pe_cmpR (op_eqND (w := w) (by rfl) (hu_of80 hr)) (pe_prop (pe_make T.M_25 G3500 (hr.mono (by decide)) (by rfl) T.cg_25 T.b3500 .nil pass0 (pa_cons (pv 8) (pa_cons pe_non pa_nil))) T.cl_25 T.p_3501 G3501 (hr.mono (by decide)) T.b3501 .nil pass0 rfl) (pe_nnew (w := w) (by rfl)) (nomark _)))))))))))))))))))))))), ?_⟩
    refine ⟨_, rfl, p0, ns, rfl, hS0, hl0, fun pl H1 np hP s1 => ?_⟩
    -- the parts
    refine ⟨_, rfl, _, rfl, pl, 4, rfl, hP, by decide, by decide, fun m H4 m0 m1 C4 => ⟨_, _, rfl, rfl, by show 5 ≤ sizeLine; decide, fun ca hca => ?_⟩⟩
    have s5 := same_upd (o := .lst [.non, .int 1, .int 2, .int 3, .int 4]) hca
    have P5 := C4.1.same s5
    have nca : ca ≠ pl := pool_ne' C4.1 hca
    refine ⟨_, rfl, pl, 4, rfl, P5, by decide, by decide, fun mo H6 o0 o1 C6 => ?_⟩
    refine ⟨pl, ca, (1 + m).toNat, mo.toNat, 4, [none, some 1, some 2, some 3, some 4], by rw [Int.toNat_of_nonneg (by omega), Int.toNat_of_nonneg o0]; rfl, C6.1, C6.at nca upd_same, nca, by omega, by omega, by decide, by decide, by decide, by decide, fun c hc => ?_, fun l t k v ts ks ss H7 hl l0 t0 k0 v0 ntk ht hk hv hT hK hSv C7 => ?_⟩
    · simp only [List.mem_cons, List.not_mem_nil, or_false, reduceCtorEq, false_or, Option.some.injEq] at hc
      omega
    have hm5 : (1 + m).toNat ≤ 5 := by omega
    have hm1 : 1 ≤ (1 + m).toNat := by omega
    have hn8 : (1 + m).toNat + mo.toNat ≤ 8 := by omega
    have hn1 : 1 ≤ (1 + m).toNat + mo.toNat := by omega
    generalize (1 + m).toNat + mo.toNat = n at hSv hn8 hn1
    generalize (1 + m).toNat = mt at hT hm5 hm1
    have P7 := C7.1
    refine ⟨l, _, rfl, .of hl, rfl, _, _, rfl, _, _, rfl, _, _, rfl, rfl, ?_⟩
    have lts : ts.length = mt := hT.len
    clear hl l0 t0 k0 v0 hS0 hl0 s1 C4 C6 C7 s5 P5 nca hca
    -- palette
    refine ⟨_, rfl, _, rfl, pl, 4, rfl, P7, by decide, by decide, fun pm H8 pm0 pm1 C8 => ⟨_, _, rfl, rfl, ?_⟩⟩
    refine ⟨pl, (1 + pm).toNat, by rw [Int.toNat_of_nonneg (by omega)]; rfl, C8.1, by omega, fun pal vals H9 pal0 hpal lv vok C9 => ?_⟩
    have C79 := C8.trans C9
    have npal : pal ≠ pl := pool_ne' C8.1 pal0
    have nt : ∀ {b : Addr} {o : HO}, H7 b = some o → (∀ xs, o ≠ .lst xs) → b ≠ pl := fun {b o} e h => pool_ne P7 e h
    have ht9 := C79.at (nt ht (by intro _ z; cases z)) ht
    have hk9 := C79.at (nt hk (by intro _ z; cases z)) hk
    have hv9 := C79.at (nt hv (by intro _ z; cases z)) hv
    have hK9 := hK.mono (chg_tup P7 C79)
    have hS9 := hSv.mono (chg_tup P7 C79)
    -- rows
    refine ⟨_, rfl, _, rfl, _, rfl, _, rfl, pl, t, k, pal, 8, mt, 4, ts, ks, vals, rfl, C9.1, ht9, hk9, hT, by omega, by decide, hK9, hpal, npal, by omega, by omega, vok, by decide, fun f es H10 f0 hf hnm hes hat C10 => ?_⟩
    have les : es.length = ts.length := by
      have := congrArg List.length hnm
      rwa [List.length_map, List.length_map] at this
    have esn : (es.map (·.name)).Nodup := by rw [hnm]; exact hT.nm.nd
    have nt9 : ∀ {b : Addr} {o : HO}, H9 b = some o → (∀ xs, o ≠ .lst xs) → b ≠ pl := fun {b o} e h => pool_ne C9.1 e h
    have ht10 := C10.at (nt9 ht9 (by intro _ z; cases z)) ht9
    have hk10 := C10.at (nt9 hk9 (by intro _ z; cases z)) hk9
    have hv10 := C10.at (nt9 hv9 (by intro _ z; cases z)) hv9
    have hK10 := hK9.mono (chg_tup C9.1 C10)
    have hS10 := hS9.mono (chg_tup C9.1 C10)
    have hpal10 := C10.at npal hpal
    have npe : ∀ b ∈ es, b.at_ ≠ pal := fun b hb e => by
      have := (hes b hb).2.2.1
      rw [e, hpal] at this
      cases this
    -- the schema and the store
    refine ⟨_, rfl, _, rfl, _, rfl, fun x dx fx fdx ndx => mk_schemaG (.of ht10) (.of hk10) (.of hv10) hT hK10 hS10 hm1 hm5 hn1 hn8 fx fdx ndx fun Gs H12 hx sG s12 noG => ?_⟩
    refine ⟨_, rfl, _, rfl, fun p dxp fp fdp ndp => mk_storeG hx sG (.of (s12 _ _ hf)) esn (fun b hb => ⟨(hes b hb).1.same s12, (hes b hb).2.2.2.2⟩) (by have := sum12 fun b hb => Nat.le_trans (hes b hb).2.2.2.1 (by decide : 8 ≤ 12); omega) (by omega) fp fdp ndp fun G H14 R Fi us O hsrt sGz s14 noGG => ?_⟩
    have s1014 := s12.trans s14
    have gpl : G pl = none := by
      obtain ⟨a0, a1, a2, a3, r, e, _⟩ := C10.1
      exact noGG pl _ (s12 _ _ e) (by intro _ z; cases z) (noG pl _ e (by intro _ z; cases z))
    have S14 : LS9 pl pal v f ts ks ss vals es G H14 := ⟨C10.1.same s1014, sGz, s1014 _ _ hv10, fun b hb => (hS10.ok b hb).mono fun _ _ e => s1014 _ _ e, ⟨s1014 _ _ hf, esn, fun b hb => ⟨(hes b hb).1.same s1014, by have := (hes b hb).2.2.2.1; omega, (hes b hb).2.2.2.2⟩⟩, s1014 _ _ hpal10, npal, fun b hb => (hes b hb).2.1, gpl⟩
    have snd : (ss.map (·.name)).Nodup := hSv.nm.nd
    have h8 : ∀ c ∈ es, c.rows.length ≤ 8 := fun c hc => (hes c hc).2.2.2.1
    have nms : ∀ b ∈ ss, PyData.strOk b.name = true ∧ b.name ≠ "" := fun b hb => by
      have hw := hSv.nm.wd _ (List.mem_map.mpr ⟨b, hb, rfl⟩)
      exact ⟨wd_strOk hw, fun e => by rw [e] at hw; exact absurd hw.1 (by decide)⟩
    have ss8 : ss.length = n := by
      have := hSv.nm.len
      rw [List.length_map] at this
      exact this
    have hbt : ∀ b ∈ ss, b.tab ∈ ts.map (·.1) := fun b hb => by
      obtain ⟨w, hw, _⟩ := (hSv.ok b hb).ok
      exact List.mem_map.mpr ⟨_, hw, rfl⟩
    have husS : ∀ b ∈ ss, Srt (usOf us b.tab) (rowsOf es b.tab) := fun b hb => by
      obtain ⟨e, he, ee⟩ := List.mem_map.mp (O.names.mem_iff.mpr (hbt b hb))
      rw [← ee, usOf_at O.rows.nd he]
      exact hsrt e he
    clear ht hk hv hK hSv ht9 hk9 hv9 hK9 hS9 ht10 hk10 hv10 hK10 hS10 hpal10 hpal pal0 C8 C9 C10 C79 nt nt9 hf hes hat f0 s12 s14 s1014 noG noGG hx sG P7
    have hbe : ∀ b ∈ ss, b.tab ∈ es.map (·.name) := fun b hb => by rw [hnm]; exact hbt b hb
    -- the calls
    refine ⟨_, rfl, _, rfl, v, f, ts, ks, ss, mt, es, rfl, S14.hv, snd, fun b hb => ⟨S14.sok b hb, hbe b hb, (nms b hb).1⟩, by omega, hT, S14.hR, h8, fun cL H15 L hcL0 hcL hL ndL rL lL s15 => ?_⟩
    have hx14 := O.sch
    have S15 := S14.same s15
    have ncL : cL ≠ pl := pool_ne' S14.pool hcL0
    have len5 : ∀ b ∈ ss, (usOf us b.tab).length ≤ 500 := fun b hb => by
      obtain ⟨e, he, ee⟩ := List.mem_map.mp (O.names.mem_iff.mpr (hbt b hb))
      rw [← ee, usOf_at O.rows.nd he]
      exact O.lens e he
    have gcL : G cL = none := S14.sG.free hcL0
    have npl : pal ≠ cL := fun e => by
      have := S14.hpal
      rw [e, hcL0] at this
      cases this
    have nel : ∀ b ∈ es, b.at_ ≠ cL := fun b hb e => by
      have := (S14.hR.sub b hb).1.lst
      rw [e, hcL0] at this
      cases this
    -- chosen
    refine ⟨_, rfl, _, rfl, _, rfl, _, rfl, pl, v, f, cL, ts, ks, ss, mt, es, L, usOf us, rfl, S15.pool, S15.hv, snd, S15.sok, hT, S15.hR, S15.nes, fun b hb => ⟨husS b hb, len5 b hb⟩, hcL, ncL, hL, ndL, rL, by omega, fun hC H16 chs hC0 ndC ndk hch lch C16 => ?_⟩
    have S16 := S15.chg C16
    have nhC : hC ≠ pl := pool_ne' S15.pool hC0
    have nhL : hC ≠ cL := fun e => by rw [e, hcL] at hC0; cases hC0
    have nat : ∀ c ∈ chs, c.at_ ≠ pl := fun c hc => pool_ne' S15.pool (hch c hc).2.2
    have natL : ∀ c ∈ chs, c.at_ ≠ cL := fun c hc e => by
      have := (hch c hc).2.2
      rw [e, hcL] at this
      cases this
    have chL : ∀ c ∈ chs, ChL (usOf us) ss c := fun c hc => (hch c hc).2.1
    have lch9 : chs.length ≤ 64 := by omega
    have hcL16 := C16.at ncL hcL
    have hL16 : CksAt H16 L := fun b hb => (hL b hb).keeps (chg_tup S15.pool C16)
    have hat16 : ∀ c ∈ chs, ChAt H16 c := fun c hc => (hch c hc).1
    clear hch C16 hL hcL hC0 S15 s15 hcL0
    -- some calls more
    refine ⟨_, rfl, v, svK ss, rfl, .inl S16.hv, fun l2 hl2 => ⟨l2, rfl, ?_⟩⟩
    have e0 : (svK ss).map (fun kv => kV kv.1) = (ss.map (·.name)).map V.str := by
      unfold svK
      rw [List.map_map, List.map_map]
      rfl
    rw [e0]
    have sl2 := same_upd (o := .lst ((ss.map (·.name)).map V.str)) hl2
    have nl2 : l2 ≠ pl := pool_ne' S16.pool hl2
    have nlL : l2 ≠ cL := fun e => by rw [e, hcL16] at hl2; cases hl2
    have S17 := S16.same sl2
    have hcL17 := sl2 _ _ hcL16
    have hL17 := hL16.same sl2
    have ndC17 := ndC.same sl2
    have hat17 : ∀ c ∈ chs, ChAt (upd H16 l2 (.lst ((ss.map (·.name)).map V.str))) c := fun c hc => (hat16 c hc).same sl2
    have hl22 : upd H16 l2 (.lst ((ss.map (·.name)).map V.str)) l2 = some (.lst ((ss.map (·.name)).map V.str)) := upd_same
    generalize upd H16 l2 (.lst ((ss.map (·.name)).map V.str)) = H17 at S17 hcL17 hL17 ndC17 hat17 hl22 ⊢
    clear S16 hcL16 hL16 ndC hat16 sl2 hl2
    refine ⟨⟨_, .of hl22⟩, for_list (K := K) (a := l2) (xs := (ss.map (·.name)).map V.str) (fun i σ H' => ∃ (y11 : Option V) (L1 : List (Addr × CK)), σ = [some (.ref p0), some (.ref pl), some (.ref t), some (.ref k), some (.ref v), some (.ref pal), some (.ref f), some (.ref x), some (.ref p), some (.ref cL), some (.ref hC), y11, none, none, none, none, none, none] ∧ LS9 pl pal v f ts ks ss vals es G H' ∧ H' l2 = some (.lst ((ss.map (·.name)).map V.str)) ∧ H' cL = some (.lst (L1.map fun b => V.ref b.1)) ∧ CksAt H' L1 ∧ (∀ b ∈ L1, CallR ss b.2) ∧ L1.length ≤ 64 + i ∧ NDict w H' hC (chK chs) ∧ ∀ c ∈ chs, ChAt H' c) ⟨_, L, rfl, S17, hl22, hcL17, hL17, rL, by omega, ndC17, hat17⟩ (fun i σ H' _ hp => ?_) (fun i y σ H' hy hp => ?_) (fun σ H18 hp => ?_)⟩
    · obtain ⟨_, _, rfl, _, h, _⟩ := hp
      exact .of h
    · obtain ⟨y11, L1, rfl, S', hl', hcL', hL', rL', lL', ndC', hat'⟩ := hp
      obtain ⟨nn, hnn, rfl⟩ := map_at hy
      obtain ⟨b, hb, rfl⟩ := map_at hnn
      have hbm := List.mem_of_getElem? hb
      have li : i < ss.length := (List.getElem?_eq_some_iff.mp hb).1
      have so := S'.sok b hbm
      obtain ⟨_, _, w2, w3⟩ := so.ok
      have hvv : valV (svK ss) (Sum.inr b.name) = some (.ref b.at_) := val_nodup (by rw [keys_sv]; exact inr_nd snd) (Sum.inr b.name, V.ref b.at_) (List.mem_map.mpr ⟨b, hbm, rfl⟩)
      refine ⟨_, rfl, .inl ⟨rfl, _, .of hcL'⟩, _, rfl, _, rfl, _, rfl, v, _, rfl, (DctAt.of S'.hv).at_ (by rw [keys_sv]; exact inr_nd snd) hvv, _, _, _, _, rfl, rfl, .of so.told.tup, atI_nat (j := 1) rfl, b.ga, rfl, ⟨_, .of so.told.cols⟩, fun D hD => ?_⟩
      have nD : D ≠ pl := pool_ne' S'.pool hD
      refine lc_tup (K := K) (a := b.ga) (xs := b.cols.map V.int) (fun j H2 => ∃ vs : List Key, H2 D = some (.lst (vs.map kV)) ∧ vs.length = j ∧ (∀ x ∈ vs, KVal x) ∧ Chg pl H' H2) ⟨[], upd_same, rfl, (fun x hx => by cases hx), (Chg.refl S'.pool).new hD⟩ (fun j H2 _ hp => ?_) (fun j x H2 hx hp => ?_) (fun H2 hp => ?_)
      · obtain ⟨_, _, _, _, c⟩ := hp
        exact .of (chg_tup S'.pool c _ _ so.told.cols)
      · obtain ⟨vs, v1, v2, v3, cc⟩ := hp
        have lj : j < b.cols.length := by
          have := (List.getElem?_eq_some_iff.mp hx).1
          rw [List.length_map] at this
          exact this
        refine ⟨rfl, _, rfl, _, rfl, pl, pal, vals.map kV, rfl, cc.1, cc.at S'.npal S'.hpal, S'.npal, by rw [List.length_map]; omega, by rw [List.length_map]; omega, fun u H3 hu C3 => ?_⟩
        obtain ⟨xk, hxk, rfl⟩ := List.mem_map.mp hu
        have h5 := C3.2 D _ nD v1
        refine ⟨_, h5, ?_, vs ++ [xk], ?_, ?_, fun y hy => ?_, (cc.trans C3).mut hD nD⟩
        · rw [List.length_map]
          exact small1000 (by omega)
        · rw [List.map_append]
          exact upd_same
        · rw [List.length_append, v2]
          rfl
        · rcases List.mem_append.mp hy with h | h
          · exact v3 y h
          · rw [List.mem_singleton.mp h]
            exact vok xk hxk
      · obtain ⟨vs, v1, v2, v3, cc⟩ := hp
        rw [List.length_map] at v2
        refine ⟨D, _, rfl, .inl ⟨.of v1, fun tt htt => ⟨by show 2 ≤ sizeLine; decide, fun tp htp => ?_⟩⟩⟩
        have C2 := (cc.new (o := .tup (vs.map kV)) htt).new (o := .tup [.str b.name, .ref tt]) htp
        have ck : CkAt (upd (upd H2 tt (.tup (vs.map kV))) tp (.tup [.str b.name, .ref tt])) tp (b.name, vs) := ⟨tt, upd_same, same_upd htp _ _ upd_same⟩
        generalize upd (upd H2 tt (.tup (vs.map kV))) tp (.tup [.str b.name, .ref tt]) = H6 at C2 ck ⊢
        have S6 := S'.chg C2
        have hcL6 := C2.at ncL hcL'
        have k6 := chg_tup S'.pool C2
        have ndC6 : NDict w H6 hC (chK chs) := by
          obtain ⟨φ, e⟩ := ndC'.at_
          exact ndC'.keeps (by rw [e]; exact C2.at nhC e) k6
        have hat6 : ∀ c ∈ chs, ChAt H6 c := fun c hc => ⟨C2.at (nat c hc) (hat' c hc).lst, fun y hy => k6 _ _ ((hat' c hc).rows y hy)⟩
        have ka : Lk [cL] H6 (upd H6 cL (.lst ((L1.map fun b => V.ref b.1) ++ [.ref tp]))) := ⟨fun c hc => by rw [List.mem_singleton.mp hc]; exact .inr ⟨_, hcL6⟩, fun c o n e => by rw [upd_ne (fun z => n (List.mem_singleton.mpr z))]; exact e⟩
        have upL : ∀ {c o}, c ≠ cL → H6 c = some o → ∀ {u}, upd H6 cL u c = some o := fun {c o} n e {u} => by rw [upd_ne n]; exact e
        have kt : ∀ {c ys}, H6 c = some (.tup ys) → ∀ {u}, upd H6 cL u c = some (.tup ys) := fun {c ys} e {u} => upL (ne_of e hcL6 (by intro z; cases z)) e
        refine ⟨cL, _, _, rfl, rfl, hcL6, ?_, _, L1 ++ [(tp, (b.name, vs))], rfl, ?_, ?_, ?_, fun y hy => ?_, fun y hy => ?_, ?_, ?_, fun c hc => ?_⟩
        · rw [List.length_map]
          exact small1000 (by omega)
        · exact S6.lk ka (ka.pool (fun z => ncL (List.mem_singleton.mp z).symm) S6.pool) (fun z => npl (List.mem_singleton.mp z)) (fun c hc z => nel c hc (List.mem_singleton.mp z)) (fun c hc => by rw [List.mem_singleton.mp hc]; exact gcL)
        · exact upL nlL (C2.at nl2 hl')
        · rw [List.map_append]
          exact upd_same
        · rcases List.mem_append.mp hy with h | h
          · exact ((hL' y h).keeps k6).keeps fun _ _ e => kt e
          · rw [List.mem_singleton.mp h]
            exact ck.keeps fun _ _ e => kt e
        · rcases List.mem_append.mp hy with h | h
          · exact rL' y h
          · rw [List.mem_singleton.mp h]
            exact ⟨b, hbm, rfl, v3, v2⟩
        · rw [List.length_append]
          show L1.length + 1 ≤ _
          omega
        · obtain ⟨φ, e⟩ := ndC6.at_
          exact ndC6.keeps (by rw [e]; exact upL nhL e) fun _ _ e => kt e
        · exact ⟨upL (natL c hc) (hat6 c hc).lst, fun y hy => kt ((hat6 c hc).rows y hy)⟩
    · obtain ⟨y11, L1, rfl, S18, _, hcL18, hL18, rL18, lL18, ndC18, hat18⟩ := hp
      clear hl22 S17 hcL17 hL17 ndC17 hat17 e0 nlL nl2 rL ndL lL
      -- copies, and the answers
      refine ⟨_, rfl, hC, chs, rfl, ndC18.r, ndk, hat18, by omega, fun T12 H19 hds hT0 ndT hkey hds1 s19 => ?_⟩
      have S19 := S18.same s19
      have usE : ∀ e ∈ us, e.2.2 = usOf us e.1 := fun e he => (usOf_at O.rows.nd he).symm
      have te2 : ∀ b ∈ ss, b.tab ∈ us.map (·.1) := fun b hb => O.names.mem_iff.mpr (hbt b hb)
      have usV : ∀ b ∈ ss, ∀ r ∈ usOf us b.tab, (∀ k ∈ r, KVal k) ∧ r.length ≤ 100 := fun b hb r hr => by
        obtain ⟨e, he, ee⟩ := List.mem_map.mp (te2 b hb)
        rw [← ee, usOf_at O.rows.nd he] at hr
        obtain ⟨we, we1, we2⟩ := O.wid e he
        exact ⟨(we2 r hr).2, by have := hT.wd _ we1; have := (we2 r hr).1; omega⟩
      have lhds : hds.length = chs.length := by
        have := congrArg List.length hkey
        rw [List.length_map, List.length_map] at this
        exact this
      have ndh : (hds.map ChE.key).Nodup := by rw [hkey]; exact ndk
      have hdR : ∀ c' ∈ hds, ChR ss us c' := fun c' hc' => by
        obtain ⟨_, _, c, hc, ec, er⟩ := hds1 c' hc'
        obtain ⟨b, e, x1, x2, x3, x4, x5, x6, x7⟩ := ((chL c hc).chR usE te2).ex
        have e3 : c'.svc = c.svc := (congrArg Prod.fst ec).symm
        have e4 : c'.vals = c.vals := (congrArg Prod.snd ec).symm
        exact ⟨b, e, x1, by rw [e3]; exact x2, x3, x4, by rw [e4]; exact x5, by rw [e4]; exact x6, by rw [e4, ← er]; exact x7⟩
      refine ⟨_, rfl, _, rfl, fun z dz fz fdz ndz => mk_ans O S19.sG (.inr ⟨T12, rfl, ndT⟩) ndh (fun c hc => ⟨(hds1 c hc).1, hdR c hc⟩) (by omega) fz fdz ndz fun G1 H20 D1 cs1 O1 cm1 sG1 sGG1 s20 no1 => ?_⟩
      refine ⟨_, rfl, fun z2 dz2 fz2 fdz2 ndz2 => mk_ans (ch := .non) (cs := []) O (S19.same s20).sG (.inl ⟨rfl, rfl⟩) List.nodup_nil (fun c hc => nomatch hc) (Nat.zero_le _) fz2 fdz2 ndz2 fun G2 H21 D2 cs2 O2 cm2 sG2 sGG2 s21 no2 => ?_⟩
      have s1921 := s20.trans s21
      have ndT21 := ndT.same s1921
      have ndC21 := ((ndC18.same s19).same s1921)
      have hd21 : ∀ c ∈ hds, ChAt H21 c := fun c hc => (hds1 c hc).1.same s1921
      have hc21 : ∀ c ∈ chs, ChAt H21 c := fun c hc => ((hat18 c hc).same s19).same s1921
      have rok : ∀ c ∈ chs, (∀ y ∈ c.rows, (∀ k ∈ y.2, KOk k) ∧ y.2.length ≤ 100) ∧ c.rows.length ≤ 500 := fun c hc => chl_ok len5 usV (chL c hc)
      refine ⟨_, rfl, _, rfl, T12, hC, chK hds, chK chs, 0, fun _ => true, by omega, rfl, rfl, ndT21.r, ndC21.r, fun kk u vv hxx hyy => ?_, _, rfl, ?_⟩
      · obtain ⟨c1, h1, e1⟩ := List.mem_map.mp hxx
        obtain ⟨c2, h2, e2, e3⟩ := ch_of hyy
        have k1 : c1.key = kk := congrArg Prod.fst e1
        have x1 : u = V.ref c1.at_ := (congrArg Prod.snd e1).symm
        obtain ⟨_, _, d1, hd1, ed1, er1⟩ := hds1 c1 h1
        have ed : d1 = c2 := key_one ndk hd1 h2 (by rw [ed1, k1, e2])
        subst ed
        have kok : ∀ u ∈ d1.rows.map (·.2), ∀ k ∈ u, KOk k := fun u hu => by
          obtain ⟨y, hy, rfl⟩ := List.mem_map.mp hu
          exact ((rok d1 h2).1 y hy).1
        have := NEq.dat (K := K) (H := H21) (n := 0) (x := .ref c1.at_) (y := .ref d1.at_) (d := .list ((c1.rows.map (·.2)).map tupD)) (e := .list ((d1.rows.map (·.2)).map tupD)) (.lst (.of (hd21 c1 h1).lst) (dp_rows (hd21 c1 h1).rows)) (.lst (.of (hc21 d1 h2).lst) (dp_rows (hc21 d1 h2).rows)) (tups_shaped (by rw [← er1]; exact kok)) (tups_shaped kok)
        rw [eqv_tups, er1, decide_eq_true rfl] at this
        rw [x1, e3]
        exact this
      · rw [perm_eqN (ks := chK hds) (ls := chK chs) (by rw [ch_keys, ch_keys, hkey]) (by rw [ch_keys]; exact ndk)]
        refine ifF ?_
        -- the handed ones emptied
        have g0 : ∀ c ∈ hds, G c.at_ = none := fun c hc => S18.sG.free (hds1 c hc).2.1
        have nlst : ∀ {xs : List V}, ∀ ys, HO.lst xs ≠ .tup ys := fun ys z => by cases z
        have g1 : ∀ c ∈ hds, G1 c.at_ = none := fun c hc => no1 _ _ (hds1 c hc).1.lst nlst (g0 c hc)
        have g2 : ∀ c ∈ hds, G2 c.at_ = none := fun c hc => no2 _ _ (s20 _ _ (hds1 c hc).1.lst) nlst (g0 c hc)
        obtain ⟨φT, eT⟩ := ndT.at_
        have gT1 : G1 T12 = none := no1 _ _ eT (by intro _ z; cases z) (S18.sG.free hT0)
        have gT2 : G2 T12 = none := no2 _ _ (s20 _ _ eT) (by intro _ z; cases z) (S18.sG.free hT0)
        have s1821 := s19.trans s1921
        have sG121 := sG1.trans s21
        refine ⟨_, rfl, T12, chK hds, rfl, ndT21.r, fun l3 bs3 hl3 hk3 => ⟨l3, rfl, ?_⟩⟩
        obtain ⟨L5, b1, b2', b3⟩ := nkeys_zip hk3
        have sl := same_upd (o := .lst (bs3.map V.ref)) hl3
        have ebs : bs3.map V.ref = L5.map fun b => V.ref b.1 := by rw [← b1, List.map_map]; rfl
        have hl6 : upd H21 l3 (.lst (bs3.map V.ref)) l3 = some (.lst (L5.map fun b => V.ref b.1)) := by rw [← ebs]; exact upd_same
        have nl3 : ∀ c ∈ hds, c.at_ ≠ l3 := fun c hc n => by
          have := (hd21 c hc).lst
          rw [n, hl3] at this
          cases this
        have nd6 := ndT21.same sl
        have b36 : CksAt (upd H21 l3 (.lst (bs3.map V.ref))) L5 := fun b hb => L2.CkAt.same (b3 b hb) sl
        have hct6 : ∀ c ∈ hds, ∃ xs, upd H21 l3 (.lst (bs3.map V.ref)) c.at_ = some (.lst xs) := fun c hc => ⟨_, sl _ _ (hd21 c hc).lst⟩
        have s06 := s1821.trans sl
        have sg16 := sG121.trans sl
        have sg26 := sG2.trans sl
        generalize upd H21 l3 (.lst (bs3.map V.ref)) = H22 at hl6 nd6 b36 hct6 s06 sg16 sg26 ⊢
        clear b3 hk3 hl3 sl
        refine ⟨⟨_, .of hl6⟩, for_list (K := K) (a := l3) (xs := L5.map fun b => V.ref b.1) (fun i σ H' => ∃ (y15 : Option V), σ = [some (.ref p0), some (.ref pl), some (.ref t), some (.ref k), some (.ref v), some (.ref pal), some (.ref f), some (.ref x), some (.ref p), some (.ref cL), some (.ref hC), y11, some (.ref T12), some (.ref z), some (.ref z2), y15, none, none] ∧ H' l3 = some (.lst (L5.map fun b => V.ref b.1)) ∧ NDict w H' T12 (chK hds) ∧ (∀ c ∈ hds, ∃ xs, H' c.at_ = some (.lst xs)) ∧ CksAt H' L5 ∧ Same H18 H' ∧ Same G1 H' ∧ Same G2 H') ⟨_, rfl, hl6, nd6, hct6, b36, s06, sg16, sg26⟩ (fun i σ H' _ hp => ?_) (fun i y σ H' hy hp => ?_) (fun σ H23 hp => ?_)⟩
        · obtain ⟨_, rfl, h, _⟩ := hp
          exact .of h
        · obtain ⟨y15, rfl, hl', nd', hxl, hL5, s7, s71, s72⟩ := hp
          obtain ⟨b, hb, rfl⟩ := map_at hy
          have hbm := List.mem_of_getElem? hb
          obtain ⟨c, hc, ec⟩ : ∃ c ∈ hds, c.key = b.2 := by
            have : b.2 ∈ hds.map ChE.key := by rw [← b2']; exact List.mem_map.mpr ⟨b, hbm, rfl⟩
            obtain ⟨c, hc, e⟩ := List.mem_map.mp this
            exact ⟨c, hc, e⟩
          obtain ⟨xs, hxs⟩ := hxl c hc
          refine ⟨_, rfl, _, rfl, T12, b.1, chK hds, c.key, .ref c.at_, rfl, rfl, nd'.r, by rw [ec]; exact hL5 b hbm, ch_val ndh hc, .inl ⟨rfl, _, .of hxs⟩, c.at_, xs, rfl, rfl, hxs, ?_⟩
          have up : ∀ {b u}, b ≠ c.at_ → H' b = some u → upd H' c.at_ (.lst []) b = some u := fun {b u} n e => by rw [upd_ne n]; exact e
          have tup : ∀ {b ys}, H' b = some (.tup ys) → upd H' c.at_ (.lst []) b = some (.tup ys) := fun {b ys} e => up (ne_of e hxs (by intro z; cases z)) e
          refine ⟨_, rfl, up (nl3 c hc).symm hl', ?_, fun c' hc' => ?_, fun b hb => (hL5 b hb).keeps fun _ _ e => tup e, clr_same s7 (hds1 c hc).2.1, clr_same s71 (g1 c hc), clr_same s72 (g2 c hc)⟩
          · obtain ⟨φ, e⟩ := nd'.at_
            exact nd'.keeps (by rw [e]; exact up (ne_of e hxs (by intro z; cases z)) e) fun _ _ e => tup e
          · by_cases n : c'.at_ = c.at_
            · rw [n]
              exact ⟨_, upd_same⟩
            · obtain ⟨ys, hys⟩ := hxl c' hc'
              exact ⟨ys, up n hys⟩
        · obtain ⟨y15, rfl, _, nd', _, _, s7, s71, s72⟩ := hp
          clear hl6 nd6 b36 hct6 s06 sg16 sg26
          refine ⟨_, rfl, T12, chK hds, rfl, rfl, nd', fun φ _ => ?_⟩
          have t0 : Same H18 (upd H23 T12 (.ext φ)) := clr_same s7 hT0
          have t1 : Same G1 (upd H23 T12 (.ext φ)) := clr_same s71 gT1
          have t2 : Same G2 (upd H23 T12 (.ext φ)) := clr_same s72 gT2
          generalize upd H23 T12 (.ext φ) = H24 at t0 t1 t2 ⊢
          clear s7 s71 s72 nd'
          have csC : ChSame chs cs1 := ⟨by rw [← hkey]; exact cm1.keys, fun c' hc' => by
            obtain ⟨c, hc, ec, sr⟩ := cm1.rows c' hc'
            obtain ⟨_, _, d0, hd0, ed, er⟩ := hds1 c hc
            exact ⟨d0, hd0, ed.trans ec, by rw [er]; exact sr⟩⟩
          have LW : ∀ {H'}, Same H18 H' → LawS v f H' ts ks ss mt es (usOf us) us := fun {H'} s => by
            have S' := S18.same s
            exact ⟨S'.hv, snd, S'.sok, hT, S'.hR, fun b hb => ⟨husS b hb, len5 b hb⟩, usV, usE, te2⟩
          -- twice held against what is due
          refine ⟨2, rfl, by decide, by decide, for_range (lo := 0) (n := 2) (fun i σ H' => ∃ (y16 : Option V), σ = [some (.ref p0), some (.ref pl), some (.ref t), some (.ref k), some (.ref v), some (.ref pal), some (.ref f), some (.ref x), some (.ref p), some (.ref cL), some (.ref hC), y11, some (.ref T12), some (.ref z), some (.ref z2), y15, y16, none] ∧ Same H18 H' ∧ Same G1 H' ∧ Same G2 H') ⟨_, rfl, t0, t1, t2⟩ (fun i σ H' hi hp => ?_) (fun σ H25 hp => ?_)⟩
          · obtain ⟨y16, rfl, r0, r1, r2⟩ := hp
            refine ⟨_, rfl, _, rfl, _, rfl, _, rfl, _, rfl, z, dz, p, dxp, x, R, Fi, D1, v, f, hC, cL, ts, ks, ss, mt, mt, n, es, us, usOf us, chs, cs1, L1, rfl, O1.same r1, LW r0, (ndC18.same r0).r, ndk, fun c hc => ⟨(hat18 c hc).same r0, chL c hc⟩, by omega, csC, r0 _ _ hcL18, hL18.same r0, rL18, fun H' s' => ⟨true, rfl, ifF ?_⟩⟩
            have r0' := r0.trans s'
            refine ⟨_, rfl, _, rfl, _, rfl, fun pn φ hpn ndn => ⟨_, rfl, ?_⟩⟩
            have sn := same_upd (o := .ext φ) hpn
            refine ⟨z2, dz2, p, dxp, x, R, Fi, D2, v, f, pn, cL, ts, ks, ss, mt, mt, n, es, us, usOf us, [], cs2, L1, rfl, O2.same ((r2.trans s').trans sn), LW (r0'.trans sn), ndn.r, List.nodup_nil, (fun c hc => nomatch hc), Nat.zero_le _, cm2, (r0'.trans sn) _ _ hcL18, hL18.same (r0'.trans sn), rL18, fun H'' s'' => ⟨true, rfl, ifF ⟨_, rfl, (r0'.trans sn).trans s'', ((r1.trans s').trans sn).trans s'', ((r2.trans s').trans sn).trans s''⟩⟩⟩
          · obtain ⟨y16, rfl, r0, r1, r2⟩ := hp
            have S25 := S18.same r0
            have gp1 : G1 pl = none := by
              obtain ⟨a0, a1, a2, a3, r, e, _⟩ := S19.pool
              exact no1 _ _ e nlst S19.gpl
            refine ⟨_, rfl, _, rfl, _, rfl, pl, z, dz, p, dxp, x, R, Fi, D1, v, G1, ts, ks, ss, mt, n, us, cs1, rfl, S25.pool, O1, r1, gp1, S25.hv, snd, fun b hb => ⟨S25.sok b hb, nms b hb⟩, by omega, by omega, fun H26 C26 => ⟨true, rfl, ifF ?_⟩⟩
            have S26 := S25.chg C26
            have q1 := chg_sub r1 gp1 C26
            have O26 := O.same S26.sG
            have O126 := O1.same q1
            obtain ⟨sx, c1, c2, c3, so⟩ := id O26.sch
            refine ⟨_, rfl, z, _, dz, _, _, rfl, O126.ob, T.cl_25, T.no_25_store, flda_st _ _ _, _, rfl, p, p, dxp, dxp, _, _, rfl, rfl, O26.ob, O26.ob, p, p, dxp, dxp, x, x, R, R, Fi, Fi, ts, ks, ss, mt, n, ts, ks, ss, mt, n, us, us, rfl, O26, O26, _, rfl, _, rfl, ?_⟩
            have teq : tabEq us us = true := (tabEq_iff O.rows.nd O.rows.nd (.refl _)).mpr fun b hb c hc e => by rw [tab_one O.rows.nd hb hc e]; exact sameRows_self _
            rw [schB_refl so.hT so.hK so.hS, teq]
            refine ifT ?_
            refine ⟨_, rfl, z, _, dz, _, _, rfl, O126.ob, T.cl_25, T.no_25_schema, flda_sc _ _ _, _, rfl, x, x, sx, sx, _, _, rfl, rfl, so.ob, so.ob, x, x, ts, ks, ss, mt, n, ts, ks, ss, mt, n, rfl, O26.sch, O26.sch, _, rfl, _, rfl, ?_⟩
            rw [schB_refl so.hT so.hK so.hS]
            refine ifT ?_
            refine ⟨_, rfl, fun z3 dz3 fz3 fdz3 ndz3 => mk_ans (ch := .non) (cs := []) O S26.sG (.inl ⟨rfl, rfl⟩) List.nodup_nil (fun c hc => nomatch hc) (Nat.zero_le _) fz3 fdz3 ndz3 fun G3 H27 D3 cs3 O3 cm3 sG3 sGG3 s27 no3 => ?_⟩
            have O327 := O3.same sG3
            have l3 : cs3.length ≤ 1000 := by
              have := cm3.keys.length_eq
              rw [List.length_map] at this
              rw [this]
              exact Nat.zero_le _
            refine ⟨z3, dz3, _, rfl, O327.ob, z3, dz3, p, dxp, x, R, Fi, D3, ts, ks, ss, mt, n, us, cs3, rfl, O327, l3, fun Dn H28 ct hDn ndn hnew hct s28 => ?_⟩
            intro F φ hF nd0
            have sF := same_upd (o := .ext φ) hF
            refine ⟨Dn, F, chK ct, [], 0, fun _ => true, by omega, rfl, rfl, (ndn.same sF).r, nd0.r, (fun kk u vv hxx hyy => nomatch hyy), ?_⟩
            have hk0 : ((chK ct).map (·.1)).Perm (([] : List (CK × V)).map (·.1)) := by
              rw [ch_keys, hnew.keys]
              exact cm3.keys
            have e9 := perm_eqN hk0 List.nodup_nil
            show Q (.bl (eqN (chK ct) [] fun _ => true)) _
            rw [e9]
            exact q _
end
theorem all_mk {P : Program} {w : World} {K : PySem.W.Frag} {h : Heap} {mg : Str → Option Value} {fa : Addr} (X : K.In h) (G : h.Ns mainGlobals mg) (hfa : mg "law" = some (.ref fa))
    {f1300 : Addr} {od1300 an1300 : Option Addr} {sl1300 : Array (Option Value)} {oc1300 kV1300 dc1300 pm1300 cd1300 ct1300 : Value}
    {f1800 : Addr} {od1800 an1800 : Option Addr} {sl1800 : Array (Option Value)} {oc1800 kV1800 dc1800 pm1800 cd1800 ct1800 : Value}
    {f13 : Addr} {od13 an13 : Option Addr} {sl13 : Array (Option Value)} {oc13 kV13 dc13 pm13 cd13 ct13 : Value}
    {f14 : Addr} {od14 an14 : Option Addr} {sl14 : Array (Option Value)} {oc14 kV14 dc14 pm14 cd14 ct14 : Value}
    {f15 : Addr} {od15 an15 : Option Addr} {sl15 : Array (Option Value)} {oc15 kV15 dc15 pm15 cd15 ct15 : Value}
    {f16 : Addr} {od16 an16 : Option Addr} {sl16 : Array (Option Value)} {oc16 kV16 dc16 pm16 cd16 ct16 : Value}
    {f17 : Addr} {od17 an17 : Option Addr} {sl17 : Array (Option Value)} {oc17 kV17 dc17 pm17 cd17 ct17 : Value}
    {f18 : Addr} {od18 an18 : Option Addr} {sl18 : Array (Option Value)} {oc18 kV18 dc18 pm18 cd18 ct18 : Value}
    {f19 : Addr} {od19 an19 : Option Addr} {sl19 : Array (Option Value)} {oc19 kV19 dc19 pm19 cd19 ct19 : Value}
    {f31 : Addr} {od31 an31 : Option Addr} {sl31 : Array (Option Value)} {oc31 kV31 dc31 pm31 cd31 ct31 : Value}
    {f32 : Addr} {od32 an32 : Option Addr} {sl32 : Array (Option Value)} {oc32 kV32 dc32 pm32 cd32 ct32 : Value}
    {f33 : Addr} {od33 an33 : Option Addr} {sl33 : Array (Option Value)} {oc33 kV33 dc33 pm33 cd33 ct33 : Value}
    {f34 : Addr} {od34 an34 : Option Addr} {sl34 : Array (Option Value)} {oc34 kV34 dc34 pm34 cd34 ct34 : Value}
    {f35 : Addr} {od35 an35 : Option Addr} {sl35 : Array (Option Value)} {oc35 kV35 dc35 pm35 cd35 ct35 : Value}
    {f36 : Addr} {od36 an36 : Option Addr} {sl36 : Array (Option Value)} {oc36 kV36 dc36 pm36 cd36 ct36 : Value}
    {f37 : Addr} {od37 an37 : Option Addr} {sl37 : Array (Option Value)} {oc37 kV37 dc37 pm37 cd37 ct37 : Value}
    {f38 : Addr} {od38 an38 : Option Addr} {sl38 : Array (Option Value)} {oc38 kV38 dc38 pm38 cd38 ct38 : Value}
    {f39 : Addr} {od39 an39 : Option Addr} {sl39 : Array (Option Value)} {oc39 kV39 dc39 pm39 cd39 ct39 : Value}
    {f40 : Addr} {od40 an40 : Option Addr} {sl40 : Array (Option Value)} {oc40 kV40 dc40 pm40 cd40 ct40 : Value}
    {f41 : Addr} {od41 an41 : Option Addr} {sl41 : Array (Option Value)} {oc41 kV41 dc41 pm41 cd41 ct41 : Value}
    {f5200 : Addr} {od5200 an5200 : Option Addr} {sl5200 : Array (Option Value)} {oc5200 kV5200 dc5200 pm5200 cd5200 ct5200 : Value}
    {f5203 : Addr} {od5203 an5203 : Option Addr} {sl5203 : Array (Option Value)} {oc5203 kV5203 dc5203 pm5203 cd5203 ct5203 : Value}
    {f5204 : Addr} {od5204 an5204 : Option Addr} {sl5204 : Array (Option Value)} {oc5204 kV5204 dc5204 pm5204 cd5204 ct5204 : Value}
    {f5205 : Addr} {od5205 an5205 : Option Addr} {sl5205 : Array (Option Value)} {oc5205 kV5205 dc5205 pm5205 cd5205 ct5205 : Value}
    {f5208 : Addr} {od5208 an5208 : Option Addr} {sl5208 : Array (Option Value)} {oc5208 kV5208 dc5208 pm5208 cd5208 ct5208 : Value}
    {f5209 : Addr} {od5209 an5209 : Option Addr} {sl5209 : Array (Option Value)} {oc5209 kV5209 dc5209 pm5209 cd5209 ct5209 : Value}
    {f5210 : Addr} {od5210 an5210 : Option Addr} {sl5210 : Array (Option Value)} {oc5210 kV5210 dc5210 pm5210 cd5210 ct5210 : Value}
    {f46 : Addr} {od46 an46 : Option Addr} {sl46 : Array (Option Value)} {oc46 kV46 dc46 pm46 cd46 ct46 : Value}
    {f47 : Addr} {od47 an47 : Option Addr} {sl47 : Array (Option Value)} {oc47 kV47 dc47 pm47 cd47 ct47 : Value}
    {f5800 : Addr} {od5800 an5800 : Option Addr} {sl5800 : Array (Option Value)} {oc5800 kV5800 dc5800 pm5800 cd5800 ct5800 : Value}
    {f5805 : Addr} {od5805 an5805 : Option Addr} {sl5805 : Array (Option Value)} {oc5805 kV5805 dc5805 pm5805 cd5805 ct5805 : Value}
    {f5808 : Addr} {od5808 an5808 : Option Addr} {sl5808 : Array (Option Value)} {oc5808 kV5808 dc5808 pm5808 cd5808 ct5808 : Value}
    {f21 : Addr} {od21 an21 : Option Addr} {sl21 : Array (Option Value)} {oc21 kV21 dc21 pm21 cd21 ct21 : Value}
    {f22 : Addr} {od22 an22 : Option Addr} {sl22 : Array (Option Value)} {oc22 kV22 dc22 pm22 cd22 ct22 : Value}
    {f23 : Addr} {od23 an23 : Option Addr} {sl23 : Array (Option Value)} {oc23 kV23 dc23 pm23 cd23 ct23 : Value}
    {f24 : Addr} {od24 an24 : Option Addr} {sl24 : Array (Option Value)} {oc24 kV24 dc24 pm24 cd24 ct24 : Value}
    {f3500 : Addr} {od3500 an3500 : Option Addr} {sl3500 : Array (Option Value)} {oc3500 kV3500 dc3500 pm3500 cd3500 ct3500 : Value}
    {f3501 : Addr} {od3501 an3501 : Option Addr} {sl3501 : Array (Option Value)} {oc3501 kV3501 dc3501 pm3501 cd3501 ct3501 : Value}
    {f3502 : Addr} {od3502 an3502 : Option Addr} {sl3502 : Array (Option Value)} {oc3502 kV3502 dc3502 pm3502 cd3502 ct3502 : Value}
    {f50 : Addr} {od50 an50 : Option Addr} {sl50 : Array (Option Value)} {oc50 kV50 dc50 pm50 cd50 ct50 : Value}
    {f51 : Addr} {od51 an51 : Option Addr} {sl51 : Array (Option Value)} {oc51 kV51 dc51 pm51 cd51 ct51 : Value}
    {f52 : Addr} {od52 an52 : Option Addr} {sl52 : Array (Option Value)} {oc52 kV52 dc52 pm52 cd52 ct52 : Value}
    {f53 : Addr} {od53 an53 : Option Addr} {sl53 : Array (Option Value)} {oc53 kV53 dc53 pm53 cd53 ct53 : Value}
    {f61 : Addr} {od61 an61 : Option Addr} {sl61 : Array (Option Value)} {oc61 kV61 dc61 pm61 cd61 ct61 : Value}
    {f54 : Addr} {od54 an54 : Option Addr} {sl54 : Array (Option Value)} {oc54 kV54 dc54 pm54 cd54 ct54 : Value}
    {f55 : Addr} {od55 an55 : Option Addr} {sl55 : Array (Option Value)} {oc55 kV55 dc55 pm55 cd55 ct55 : Value}
    {f56 : Addr} {od56 an56 : Option Addr} {sl56 : Array (Option Value)} {oc56 kV56 dc56 pm56 cd56 ct56 : Value}
    {f57 : Addr} {od57 an57 : Option Addr} {sl57 : Array (Option Value)} {oc57 kV57 dc57 pm57 cd57 ct57 : Value}
    {f58 : Addr} {od58 an58 : Option Addr} {sl58 : Array (Option Value)} {oc58 kV58 dc58 pm58 cd58 ct58 : Value}
    {f59 : Addr} {od59 an59 : Option Addr} {sl59 : Array (Option Value)} {oc59 kV59 dc59 pm59 cd59 ct59 : Value}
    {f60 : Addr} {od60 an60 : Option Addr} {sl60 : Array (Option Value)} {oc60 kV60 dc60 pm60 cd60 ct60 : Value}
    {f63 : Addr} {od63 an63 : Option Addr} {sl63 : Array (Option Value)} {oc63 kV63 dc63 pm63 cd63 ct63 : Value}
    {f62 : Addr} {od62 an62 : Option Addr} {sl62 : Array (Option Value)} {oc62 kV62 dc62 pm62 cd62 ct62 : Value}
    {f64 : Addr} {od64 an64 : Option Addr} {sl64 : Array (Option Value)} {oc64 kV64 dc64 pm64 cd64 ct64 : Value}
    {f65 : Addr} {od65 an65 : Option Addr} {sl65 : Array (Option Value)} {oc65 kV65 dc65 pm65 cd65 ct65 : Value}
    {f66 : Addr} {od66 an66 : Option Addr} {sl66 : Array (Option Value)} {oc66 kV66 dc66 pm66 cd66 ct66 : Value}
    {f67 : Addr} {od67 an67 : Option Addr} {sl67 : Array (Option Value)} {oc67 kV67 dc67 pm67 cd67 ct67 : Value}
    {f68 : Addr} {od68 an68 : Option Addr} {sl68 : Array (Option Value)} {oc68 kV68 dc68 pm68 cd68 ct68 : Value}
    {f69 : Addr} {od69 an69 : Option Addr} {sl69 : Array (Option Value)} {oc69 kV69 dc69 pm69 cd69 ct69 : Value}
    {f70 : Addr} {od70 an70 : Option Addr} {sl70 : Array (Option Value)} {oc70 kV70 dc70 pm70 cd70 ct70 : Value}
    {f71 : Addr} {od71 an71 : Option Addr} {sl71 : Array (Option Value)} {oc71 kV71 dc71 pm71 cd71 ct71 : Value}
    {f72 : Addr} {od72 an72 : Option Addr} {sl72 : Array (Option Value)} {oc72 kV72 dc72 pm72 cd72 ct72 : Value}
    {f73 : Addr} {od73 an73 : Option Addr} {sl73 : Array (Option Value)} {oc73 kV73 dc73 pm73 cd73 ct73 : Value}
    {f74 : Addr} {od74 an74 : Option Addr} {sl74 : Array (Option Value)} {oc74 kV74 dc74 pm74 cd74 ct74 : Value}
    {f75 : Addr} {od75 an75 : Option Addr} {sl75 : Array (Option Value)} {oc75 kV75 dc75 pm75 cd75 ct75 : Value}
    {f76 : Addr} {od76 an76 : Option Addr} {sl76 : Array (Option Value)} {oc76 kV76 dc76 pm76 cd76 ct76 : Value}
    {f77 : Addr} {od77 an77 : Option Addr} {sl77 : Array (Option Value)} {oc77 kV77 dc77 pm77 cd77 ct77 : Value}
    {f2 : Addr}
    {nm_2 qn_2 : Str} {N_2 : Addr} {bs_2 : List Value} {sn_2 : List Str} {sub_2 : List Value} {ab_2 : Bool} {col_2 : Option Bool} {dd_2 : Option Addr} {m0_2 m1_2 m2_2 m3_2 m5_2 : Option Value}
    {f3 : Addr}
    {nm_3 qn_3 : Str} {N_3 : Addr} {bs_3 : List Value} {sn_3 : List Str} {sub_3 : List Value} {ab_3 : Bool} {col_3 : Option Bool} {dd_3 : Option Addr} {m0_3 m1_3 m2_3 m3_3 m5_3 : Option Value}
    {f8 : Addr}
    {nm_8 qn_8 : Str} {N_8 : Addr} {bs_8 : List Value} {sn_8 : List Str} {sub_8 : List Value} {ab_8 : Bool} {col_8 : Option Bool} {dd_8 : Option Addr} {m0_8 m1_8 m2_8 m3_8 m5_8 : Option Value}
    {f42 : Addr}
    {f48 : Addr}
    {f25 : Addr}
    {f55203 : Addr} {rest5203 : List Value}
    {f53501 : Addr} {rest3501 : List Value}
    (ac_2 : PySem.W.nsIn K mainGlobals "CappedError" = some (some (.ref f2)))
    (ac_3 : PySem.W.nsIn K mainGlobals "UnknownName" = some (some (.ref f3)))
    (ac_8 : PySem.W.nsIn K mainGlobals "InvalidCall" = some (some (.ref f8)))
    (ac_42 : PySem.W.nsIn K mainGlobals "Schema" = some (some (.ref f42)))
    (ac_48 : PySem.W.nsIn K mainGlobals "Store" = some (some (.ref f48)))
    (ac_25 : PySem.W.nsIn K mainGlobals "Answers" = some (some (.ref f25)))
    (fi_3 : PySem.W.findIn K (.ref f3) "__init__" = some (some (.ref f1300)))
    (fi_8 : PySem.W.findIn K (.ref f8) "__init__" = some (some (.ref f1800)))
    (fi_42 : PySem.W.findIn K (.ref f42) "__init__" = some (some (.ref f5200)))
    (fi_48 : PySem.W.findIn K (.ref f48) "__init__" = some (some (.ref f5800)))
    (fi_25 : PySem.W.findIn K (.ref f25) "__init__" = some (some (.ref f3500)))
    (ma_5204 : PySem.W.findIn K (.ref f42) "__eq__" = some (some (.ref f5204)))
    (ma_5205 : PySem.W.findIn K (.ref f42) "table_names" = some (some (.ref f5205)))
    (ma_5208 : PySem.W.findIn K (.ref f42) "width_of" = some (some (.ref f5208)))
    (ma_5209 : PySem.W.findIn K (.ref f42) "key_of" = some (some (.ref f5209)))
    (ma_5210 : PySem.W.findIn K (.ref f42) "service_of" = some (some (.ref f5210)))
    (ma_5805 : PySem.W.findIn K (.ref f48) "__eq__" = some (some (.ref f5805)))
    (ma_5808 : PySem.W.findIn K (.ref f48) "fitting" = some (some (.ref f5808)))
    (ma_3502 : PySem.W.findIn K (.ref f25) "__call__" = some (some (.ref f3502)))
    (pa_5203 : PySem.W.findIn K (.ref f42) "services" = some (some (.ref f55203)))
    (pa_3501 : PySem.W.findIn K (.ref f25) "choices" = some (some (.ref f53501)))
    (pd_5203 : PySem.W.recIn K f55203 "property" = some (.ref f5203 :: rest5203))
    (pd_3501 : PySem.W.recIn K f53501 "property" = some (.ref f3501 :: rest3501))
    (l1300 : K.lookup f1300 = some ⟨oc1300, od1300, .func (PySem.W.fnOf "__init__" "UnknownName.__init__" (defArgs s_UnknownName___init__) (defBody s_UnknownName___init__) (defScope s_UnknownName___init__) .none kV1300 dc1300 pm1300 an1300 cd1300 ct1300), sl1300⟩) (c1300 : PySem.W.codeIn K cd1300 "UnknownName.__init__" = true) (k1300 : PySem.W.keepIn K (.ref f1300) = true)
    (l1800 : K.lookup f1800 = some ⟨oc1800, od1800, .func (PySem.W.fnOf "__init__" "InvalidCall.__init__" (defArgs s_InvalidCall___init__) (defBody s_InvalidCall___init__) (defScope s_InvalidCall___init__) .none kV1800 dc1800 pm1800 an1800 cd1800 ct1800), sl1800⟩) (c1800 : PySem.W.codeIn K cd1800 "InvalidCall.__init__" = true) (k1800 : PySem.W.keepIn K (.ref f1800) = true)
    (a13 : PySem.W.nsIn K mainGlobals "is_plain_int" = some (some (.ref f13))) (l13 : K.lookup f13 = some ⟨oc13, od13, .func (PySem.W.fnOf "is_plain_int" "is_plain_int" (defArgs s_is_plain_int) (defBody s_is_plain_int) (defScope s_is_plain_int) .none kV13 dc13 pm13 an13 cd13 ct13), sl13⟩) (c13 : PySem.W.codeIn K cd13 "is_plain_int" = true) (k13 : PySem.W.keepIn K (.ref f13) = true)
    (a14 : PySem.W.nsIn K mainGlobals "is_word" = some (some (.ref f14))) (l14 : K.lookup f14 = some ⟨oc14, od14, .func (PySem.W.fnOf "is_word" "is_word" (defArgs s_is_word) (defBody s_is_word) (defScope s_is_word) .none kV14 dc14 pm14 an14 cd14 ct14), sl14⟩) (c14 : PySem.W.codeIn K cd14 "is_word" = true) (k14 : PySem.W.keepIn K (.ref f14) = true)
    (a15 : PySem.W.nsIn K mainGlobals "is_value" = some (some (.ref f15))) (l15 : K.lookup f15 = some ⟨oc15, od15, .func (PySem.W.fnOf "is_value" "is_value" (defArgs s_is_value) (defBody s_is_value) (defScope s_is_value) .none kV15 dc15 pm15 an15 cd15 ct15), sl15⟩) (c15 : PySem.W.codeIn K cd15 "is_value" = true) (k15 : PySem.W.keepIn K (.ref f15) = true)
    (a16 : PySem.W.nsIn K mainGlobals "are_values" = some (some (.ref f16))) (l16 : K.lookup f16 = some ⟨oc16, od16, .func (PySem.W.fnOf "are_values" "are_values" (defArgs s_are_values) (defBody s_are_values) (defScope s_are_values) .none kV16 dc16 pm16 an16 cd16 ct16), sl16⟩) (c16 : PySem.W.codeIn K cd16 "are_values" = true) (k16 : PySem.W.keepIn K (.ref f16) = true)
    (a17 : PySem.W.nsIn K mainGlobals "columns_of" = some (some (.ref f17))) (l17 : K.lookup f17 = some ⟨oc17, od17, .func (PySem.W.fnOf "columns_of" "columns_of" (defArgs s_columns_of) (defBody s_columns_of) (defScope s_columns_of) .none kV17 dc17 pm17 an17 cd17 ct17), sl17⟩) (c17 : PySem.W.codeIn K cd17 "columns_of" = true) (k17 : PySem.W.keepIn K (.ref f17) = true)
    (a18 : PySem.W.nsIn K mainGlobals "row_key" = some (some (.ref f18))) (l18 : K.lookup f18 = some ⟨oc18, od18, .func (PySem.W.fnOf "row_key" "row_key" (defArgs s_row_key) (defBody s_row_key) (defScope s_row_key) .none kV18 dc18 pm18 an18 cd18 ct18), sl18⟩) (c18 : PySem.W.codeIn K cd18 "row_key" = true) (k18 : PySem.W.keepIn K (.ref f18) = true)
    (a19 : PySem.W.nsIn K mainGlobals "sorted_rows" = some (some (.ref f19))) (l19 : K.lookup f19 = some ⟨oc19, od19, .func (PySem.W.fnOf "sorted_rows" "sorted_rows" (defArgs s_sorted_rows) (defBody s_sorted_rows) (defScope s_sorted_rows) .none kV19 dc19 pm19 an19 cd19 ct19), sl19⟩) (c19 : PySem.W.codeIn K cd19 "sorted_rows" = true) (k19 : PySem.W.keepIn K (.ref f19) = true)
    (a31 : PySem.W.nsIn K mainGlobals "_is_count" = some (some (.ref f31))) (l31 : K.lookup f31 = some ⟨oc31, od31, .func (PySem.W.fnOf "_is_count" "_is_count" (defArgs s__is_count) (defBody s__is_count) (defScope s__is_count) .none kV31 dc31 pm31 an31 cd31 ct31), sl31⟩) (c31 : PySem.W.codeIn K cd31 "_is_count" = true) (k31 : PySem.W.keepIn K (.ref f31) = true)
    (a32 : PySem.W.nsIn K mainGlobals "_is_name_in" = some (some (.ref f32))) (l32 : K.lookup f32 = some ⟨oc32, od32, .func (PySem.W.fnOf "_is_name_in" "_is_name_in" (defArgs s__is_name_in) (defBody s__is_name_in) (defScope s__is_name_in) .none kV32 dc32 pm32 an32 cd32 ct32), sl32⟩) (c32 : PySem.W.codeIn K cd32 "_is_name_in" = true) (k32 : PySem.W.keepIn K (.ref f32) = true)
    (a33 : PySem.W.nsIn K mainGlobals "_are_columns" = some (some (.ref f33))) (l33 : K.lookup f33 = some ⟨oc33, od33, .func (PySem.W.fnOf "_are_columns" "_are_columns" (defArgs s__are_columns) (defBody s__are_columns) (defScope s__are_columns) .none kV33 dc33 pm33 an33 cd33 ct33), sl33⟩) (c33 : PySem.W.codeIn K cd33 "_are_columns" = true) (k33 : PySem.W.keepIn K (.ref f33) = true)
    (a34 : PySem.W.nsIn K mainGlobals "_is_key" = some (some (.ref f34))) (l34 : K.lookup f34 = some ⟨oc34, od34, .func (PySem.W.fnOf "_is_key" "_is_key" (defArgs s__is_key) (defBody s__is_key) (defScope s__is_key) .none kV34 dc34 pm34 an34 cd34 ct34), sl34⟩) (c34 : PySem.W.codeIn K cd34 "_is_key" = true) (k34 : PySem.W.keepIn K (.ref f34) = true)
    (a35 : PySem.W.nsIn K mainGlobals "_is_service" = some (some (.ref f35))) (l35 : K.lookup f35 = some ⟨oc35, od35, .func (PySem.W.fnOf "_is_service" "_is_service" (defArgs s__is_service) (defBody s__is_service) (defScope s__is_service) .none kV35 dc35 pm35 an35 cd35 ct35), sl35⟩) (c35 : PySem.W.codeIn K cd35 "_is_service" = true) (k35 : PySem.W.keepIn K (.ref f35) = true)
    (a36 : PySem.W.nsIn K mainGlobals "_is_whole_service" = some (some (.ref f36))) (l36 : K.lookup f36 = some ⟨oc36, od36, .func (PySem.W.fnOf "_is_whole_service" "_is_whole_service" (defArgs s__is_whole_service) (defBody s__is_whole_service) (defScope s__is_whole_service) .none kV36 dc36 pm36 an36 cd36 ct36), sl36⟩) (c36 : PySem.W.codeIn K cd36 "_is_whole_service" = true) (k36 : PySem.W.keepIn K (.ref f36) = true)
    (a37 : PySem.W.nsIn K mainGlobals "_check_tables" = some (some (.ref f37))) (l37 : K.lookup f37 = some ⟨oc37, od37, .func (PySem.W.fnOf "_check_tables" "_check_tables" (defArgs s__check_tables) (defBody s__check_tables) (defScope s__check_tables) .none kV37 dc37 pm37 an37 cd37 ct37), sl37⟩) (c37 : PySem.W.codeIn K cd37 "_check_tables" = true) (k37 : PySem.W.keepIn K (.ref f37) = true)
    (a38 : PySem.W.nsIn K mainGlobals "_check_keys" = some (some (.ref f38))) (l38 : K.lookup f38 = some ⟨oc38, od38, .func (PySem.W.fnOf "_check_keys" "_check_keys" (defArgs s__check_keys) (defBody s__check_keys) (defScope s__check_keys) .none kV38 dc38 pm38 an38 cd38 ct38), sl38⟩) (c38 : PySem.W.codeIn K cd38 "_check_keys" = true) (k38 : PySem.W.keepIn K (.ref f38) = true)
    (a39 : PySem.W.nsIn K mainGlobals "_check_services" = some (some (.ref f39))) (l39 : K.lookup f39 = some ⟨oc39, od39, .func (PySem.W.fnOf "_check_services" "_check_services" (defArgs s__check_services) (defBody s__check_services) (defScope s__check_services) .none kV39 dc39 pm39 an39 cd39 ct39), sl39⟩) (c39 : PySem.W.codeIn K cd39 "_check_services" = true) (k39 : PySem.W.keepIn K (.ref f39) = true)
    (a40 : PySem.W.nsIn K mainGlobals "_check_capped" = some (some (.ref f40))) (l40 : K.lookup f40 = some ⟨oc40, od40, .func (PySem.W.fnOf "_check_capped" "_check_capped" (defArgs s__check_capped) (defBody s__check_capped) (defScope s__check_capped) .none kV40 dc40 pm40 an40 cd40 ct40), sl40⟩) (c40 : PySem.W.codeIn K cd40 "_check_capped" = true) (k40 : PySem.W.keepIn K (.ref f40) = true)
    (a41 : PySem.W.nsIn K mainGlobals "_copied" = some (some (.ref f41))) (l41 : K.lookup f41 = some ⟨oc41, od41, .func (PySem.W.fnOf "_copied" "_copied" (defArgs s__copied) (defBody s__copied) (defScope s__copied) .none kV41 dc41 pm41 an41 cd41 ct41), sl41⟩) (c41 : PySem.W.codeIn K cd41 "_copied" = true) (k41 : PySem.W.keepIn K (.ref f41) = true)
    (l5200 : K.lookup f5200 = some ⟨oc5200, od5200, .func (PySem.W.fnOf "__init__" "Schema.__init__" (defArgs s_Schema___init__) (defBody s_Schema___init__) (defScope s_Schema___init__) .none kV5200 dc5200 pm5200 an5200 cd5200 ct5200), sl5200⟩) (c5200 : PySem.W.codeIn K cd5200 "Schema.__init__" = true) (k5200 : PySem.W.keepIn K (.ref f5200) = true)
    (l5203 : K.lookup f5203 = some ⟨oc5203, od5203, .func (PySem.W.fnOf "services" "Schema.services" (defArgs s_Schema_services) (defBody s_Schema_services) (defScope s_Schema_services) .none kV5203 dc5203 pm5203 an5203 cd5203 ct5203), sl5203⟩) (c5203 : PySem.W.codeIn K cd5203 "Schema.services" = true) (k5203 : PySem.W.keepIn K (.ref f5203) = true)
    (l5204 : K.lookup f5204 = some ⟨oc5204, od5204, .func (PySem.W.fnOf "__eq__" "Schema.__eq__" (defArgs s_Schema___eq__) (defBody s_Schema___eq__) (defScope s_Schema___eq__) .none kV5204 dc5204 pm5204 an5204 cd5204 ct5204), sl5204⟩) (c5204 : PySem.W.codeIn K cd5204 "Schema.__eq__" = true) (k5204 : PySem.W.keepIn K (.ref f5204) = true)
    (l5205 : K.lookup f5205 = some ⟨oc5205, od5205, .func (PySem.W.fnOf "table_names" "Schema.table_names" (defArgs s_Schema_table_names) (defBody s_Schema_table_names) (defScope s_Schema_table_names) .none kV5205 dc5205 pm5205 an5205 cd5205 ct5205), sl5205⟩) (c5205 : PySem.W.codeIn K cd5205 "Schema.table_names" = true) (k5205 : PySem.W.keepIn K (.ref f5205) = true)
    (l5208 : K.lookup f5208 = some ⟨oc5208, od5208, .func (PySem.W.fnOf "width_of" "Schema.width_of" (defArgs s_Schema_width_of) (defBody s_Schema_width_of) (defScope s_Schema_width_of) .none kV5208 dc5208 pm5208 an5208 cd5208 ct5208), sl5208⟩) (c5208 : PySem.W.codeIn K cd5208 "Schema.width_of" = true) (k5208 : PySem.W.keepIn K (.ref f5208) = true)
    (l5209 : K.lookup f5209 = some ⟨oc5209, od5209, .func (PySem.W.fnOf "key_of" "Schema.key_of" (defArgs s_Schema_key_of) (defBody s_Schema_key_of) (defScope s_Schema_key_of) .none kV5209 dc5209 pm5209 an5209 cd5209 ct5209), sl5209⟩) (c5209 : PySem.W.codeIn K cd5209 "Schema.key_of" = true) (k5209 : PySem.W.keepIn K (.ref f5209) = true)
    (l5210 : K.lookup f5210 = some ⟨oc5210, od5210, .func (PySem.W.fnOf "service_of" "Schema.service_of" (defArgs s_Schema_service_of) (defBody s_Schema_service_of) (defScope s_Schema_service_of) .none kV5210 dc5210 pm5210 an5210 cd5210 ct5210), sl5210⟩) (c5210 : PySem.W.codeIn K cd5210 "Schema.service_of" = true) (k5210 : PySem.W.keepIn K (.ref f5210) = true)
    (a46 : PySem.W.nsIn K mainGlobals "_check_table" = some (some (.ref f46))) (l46 : K.lookup f46 = some ⟨oc46, od46, .func (PySem.W.fnOf "_check_table" "_check_table" (defArgs s__check_table) (defBody s__check_table) (defScope s__check_table) .none kV46 dc46 pm46 an46 cd46 ct46), sl46⟩) (c46 : PySem.W.codeIn K cd46 "_check_table" = true) (k46 : PySem.W.keepIn K (.ref f46) = true)
    (a47 : PySem.W.nsIn K mainGlobals "_by_given" = some (some (.ref f47))) (l47 : K.lookup f47 = some ⟨oc47, od47, .func (PySem.W.fnOf "_by_given" "_by_given" (defArgs s__by_given) (defBody s__by_given) (defScope s__by_given) .none kV47 dc47 pm47 an47 cd47 ct47), sl47⟩) (c47 : PySem.W.codeIn K cd47 "_by_given" = true) (k47 : PySem.W.keepIn K (.ref f47) = true)
    (l5800 : K.lookup f5800 = some ⟨oc5800, od5800, .func (PySem.W.fnOf "__init__" "Store.__init__" (defArgs s_Store___init__) (defBody s_Store___init__) (defScope s_Store___init__) .none kV5800 dc5800 pm5800 an5800 cd5800 ct5800), sl5800⟩) (c5800 : PySem.W.codeIn K cd5800 "Store.__init__" = true) (k5800 : PySem.W.keepIn K (.ref f5800) = true)
    (l5805 : K.lookup f5805 = some ⟨oc5805, od5805, .func (PySem.W.fnOf "__eq__" "Store.__eq__" (defArgs s_Store___eq__) (defBody s_Store___eq__) (defScope s_Store___eq__) .none kV5805 dc5805 pm5805 an5805 cd5805 ct5805), sl5805⟩) (c5805 : PySem.W.codeIn K cd5805 "Store.__eq__" = true) (k5805 : PySem.W.keepIn K (.ref f5805) = true)
    (l5808 : K.lookup f5808 = some ⟨oc5808, od5808, .func (PySem.W.fnOf "fitting" "Store.fitting" (defArgs s_Store_fitting) (defBody s_Store_fitting) (defScope s_Store_fitting) .none kV5808 dc5808 pm5808 an5808 cd5808 ct5808), sl5808⟩) (c5808 : PySem.W.codeIn K cd5808 "Store.fitting" = true) (k5808 : PySem.W.keepIn K (.ref f5808) = true)
    (a21 : PySem.W.nsIn K mainGlobals "_answer_size" = some (some (.ref f21))) (l21 : K.lookup f21 = some ⟨oc21, od21, .func (PySem.W.fnOf "_answer_size" "_answer_size" (defArgs s__answer_size) (defBody s__answer_size) (defScope s__answer_size) .none kV21 dc21 pm21 an21 cd21 ct21), sl21⟩) (c21 : PySem.W.codeIn K cd21 "_answer_size" = true) (k21 : PySem.W.keepIn K (.ref f21) = true)
    (a22 : PySem.W.nsIn K mainGlobals "_is_answer" = some (some (.ref f22))) (l22 : K.lookup f22 = some ⟨oc22, od22, .func (PySem.W.fnOf "_is_answer" "_is_answer" (defArgs s__is_answer) (defBody s__is_answer) (defScope s__is_answer) .none kV22 dc22 pm22 an22 cd22 ct22), sl22⟩) (c22 : PySem.W.codeIn K cd22 "_is_answer" = true) (k22 : PySem.W.keepIn K (.ref f22) = true)
    (a23 : PySem.W.nsIn K mainGlobals "_check_choice" = some (some (.ref f23))) (l23 : K.lookup f23 = some ⟨oc23, od23, .func (PySem.W.fnOf "_check_choice" "_check_choice" (defArgs s__check_choice) (defBody s__check_choice) (defScope s__check_choice) .none kV23 dc23 pm23 an23 cd23 ct23), sl23⟩) (c23 : PySem.W.codeIn K cd23 "_check_choice" = true) (k23 : PySem.W.keepIn K (.ref f23) = true)
    (a24 : PySem.W.nsIn K mainGlobals "_call_key" = some (some (.ref f24))) (l24 : K.lookup f24 = some ⟨oc24, od24, .func (PySem.W.fnOf "_call_key" "_call_key" (defArgs s__call_key) (defBody s__call_key) (defScope s__call_key) .none kV24 dc24 pm24 an24 cd24 ct24), sl24⟩) (c24 : PySem.W.codeIn K cd24 "_call_key" = true) (k24 : PySem.W.keepIn K (.ref f24) = true)
    {fT3500 : Addr} {cT3500 : Value} {dT3500 : Option Addr} {nT3500 : Nat} {sT3500 : Array (Option Value)}
    (l3500 : K.lookup f3500 = some ⟨oc3500, od3500, .func (PySem.W.fnOf "__init__" "Answers.__init__" (defArgs s_Answers___init__) (defBody s_Answers___init__) (defScope s_Answers___init__) (.ref fT3500) kV3500 dc3500 pm3500 an3500 cd3500 ct3500), sl3500⟩) (c3500 : PySem.W.codeIn K cd3500 "Answers.__init__" = true) (k3500 : PySem.W.keepIn K (.ref f3500) = true)
    (t3500 : K.lookup fT3500 = some ⟨cT3500, dT3500, .seq #[.none] nT3500, sT3500⟩)
    (l3501 : K.lookup f3501 = some ⟨oc3501, od3501, .func (PySem.W.fnOf "choices" "Answers.choices" (defArgs s_Answers_choices) (defBody s_Answers_choices) (defScope s_Answers_choices) .none kV3501 dc3501 pm3501 an3501 cd3501 ct3501), sl3501⟩) (c3501 : PySem.W.codeIn K cd3501 "Answers.choices" = true) (k3501 : PySem.W.keepIn K (.ref f3501) = true)
    (l3502 : K.lookup f3502 = some ⟨oc3502, od3502, .func (PySem.W.fnOf "__call__" "Answers.__call__" (defArgs s_Answers___call__) (defBody s_Answers___call__) (defScope s_Answers___call__) .none kV3502 dc3502 pm3502 an3502 cd3502 ct3502), sl3502⟩) (c3502 : PySem.W.codeIn K cd3502 "Answers.__call__" = true) (k3502 : PySem.W.keepIn K (.ref f3502) = true)
    (a50 : PySem.W.nsIn K mainGlobals "_law_pool" = some (some (.ref f50))) (l50 : K.lookup f50 = some ⟨oc50, od50, .func (PySem.W.fnOf "_law_pool" "_law_pool" (defArgs s__law_pool) (defBody s__law_pool) (defScope s__law_pool) .none kV50 dc50 pm50 an50 cd50 ct50), sl50⟩) (c50 : PySem.W.codeIn K cd50 "_law_pool" = true) (k50 : PySem.W.keepIn K (.ref f50) = true)
    (a51 : PySem.W.nsIn K mainGlobals "_law_mixed" = some (some (.ref f51))) (l51 : K.lookup f51 = some ⟨oc51, od51, .func (PySem.W.fnOf "_law_mixed" "_law_mixed" (defArgs s__law_mixed) (defBody s__law_mixed) (defScope s__law_mixed) .none kV51 dc51 pm51 an51 cd51 ct51), sl51⟩) (c51 : PySem.W.codeIn K cd51 "_law_mixed" = true) (k51 : PySem.W.keepIn K (.ref f51) = true)
    (a52 : PySem.W.nsIn K mainGlobals "_law_draw" = some (some (.ref f52))) (l52 : K.lookup f52 = some ⟨oc52, od52, .func (PySem.W.fnOf "_law_draw" "_law_draw" (defArgs s__law_draw) (defBody s__law_draw) (defScope s__law_draw) .none kV52 dc52 pm52 an52 cd52 ct52), sl52⟩) (c52 : PySem.W.codeIn K cd52 "_law_draw" = true) (k52 : PySem.W.keepIn K (.ref f52) = true)
    (a53 : PySem.W.nsIn K mainGlobals "_law_word" = some (some (.ref f53))) (l53 : K.lookup f53 = some ⟨oc53, od53, .func (PySem.W.fnOf "_law_word" "_law_word" (defArgs s__law_word) (defBody s__law_word) (defScope s__law_word) .none kV53 dc53 pm53 an53 cd53 ct53), sl53⟩) (c53 : PySem.W.codeIn K cd53 "_law_word" = true) (k53 : PySem.W.keepIn K (.ref f53) = true)
    (a61 : PySem.W.nsIn K mainGlobals "_law_value" = some (some (.ref f61))) (l61 : K.lookup f61 = some ⟨oc61, od61, .func (PySem.W.fnOf "_law_value" "_law_value" (defArgs s__law_value) (defBody s__law_value) (defScope s__law_value) .none kV61 dc61 pm61 an61 cd61 ct61), sl61⟩) (c61 : PySem.W.codeIn K cd61 "_law_value" = true) (k61 : PySem.W.keepIn K (.ref f61) = true)
    (a54 : PySem.W.nsIn K mainGlobals "_law_names" = some (some (.ref f54))) (l54 : K.lookup f54 = some ⟨oc54, od54, .func (PySem.W.fnOf "_law_names" "_law_names" (defArgs s__law_names) (defBody s__law_names) (defScope s__law_names) .none kV54 dc54 pm54 an54 cd54 ct54), sl54⟩) (c54 : PySem.W.codeIn K cd54 "_law_names" = true) (k54 : PySem.W.keepIn K (.ref f54) = true)
    (a55 : PySem.W.nsIn K mainGlobals "_law_columns" = some (some (.ref f55))) (l55 : K.lookup f55 = some ⟨oc55, od55, .func (PySem.W.fnOf "_law_columns" "_law_columns" (defArgs s__law_columns) (defBody s__law_columns) (defScope s__law_columns) .none kV55 dc55 pm55 an55 cd55 ct55), sl55⟩) (c55 : PySem.W.codeIn K cd55 "_law_columns" = true) (k55 : PySem.W.keepIn K (.ref f55) = true)
    (a56 : PySem.W.nsIn K mainGlobals "_law_tables" = some (some (.ref f56))) (l56 : K.lookup f56 = some ⟨oc56, od56, .func (PySem.W.fnOf "_law_tables" "_law_tables" (defArgs s__law_tables) (defBody s__law_tables) (defScope s__law_tables) .none kV56 dc56 pm56 an56 cd56 ct56), sl56⟩) (c56 : PySem.W.codeIn K cd56 "_law_tables" = true) (k56 : PySem.W.keepIn K (.ref f56) = true)
    (a57 : PySem.W.nsIn K mainGlobals "_law_keys" = some (some (.ref f57))) (l57 : K.lookup f57 = some ⟨oc57, od57, .func (PySem.W.fnOf "_law_keys" "_law_keys" (defArgs s__law_keys) (defBody s__law_keys) (defScope s__law_keys) .none kV57 dc57 pm57 an57 cd57 ct57), sl57⟩) (c57 : PySem.W.codeIn K cd57 "_law_keys" = true) (k57 : PySem.W.keepIn K (.ref f57) = true)
    (a58 : PySem.W.nsIn K mainGlobals "_law_is_whole" = some (some (.ref f58))) (l58 : K.lookup f58 = some ⟨oc58, od58, .func (PySem.W.fnOf "_law_is_whole" "_law_is_whole" (defArgs s__law_is_whole) (defBody s__law_is_whole) (defScope s__law_is_whole) .none kV58 dc58 pm58 an58 cd58 ct58), sl58⟩) (c58 : PySem.W.codeIn K cd58 "_law_is_whole" = true) (k58 : PySem.W.keepIn K (.ref f58) = true)
    (a59 : PySem.W.nsIn K mainGlobals "_law_services" = some (some (.ref f59))) (l59 : K.lookup f59 = some ⟨oc59, od59, .func (PySem.W.fnOf "_law_services" "_law_services" (defArgs s__law_services) (defBody s__law_services) (defScope s__law_services) .none kV59 dc59 pm59 an59 cd59 ct59), sl59⟩) (c59 : PySem.W.codeIn K cd59 "_law_services" = true) (k59 : PySem.W.keepIn K (.ref f59) = true)
    (a60 : PySem.W.nsIn K mainGlobals "_law_schema_parts" = some (some (.ref f60))) (l60 : K.lookup f60 = some ⟨oc60, od60, .func (PySem.W.fnOf "_law_schema_parts" "_law_schema_parts" (defArgs s__law_schema_parts) (defBody s__law_schema_parts) (defScope s__law_schema_parts) .none kV60 dc60 pm60 an60 cd60 ct60), sl60⟩) (c60 : PySem.W.codeIn K cd60 "_law_schema_parts" = true) (k60 : PySem.W.keepIn K (.ref f60) = true)
    (a63 : PySem.W.nsIn K mainGlobals "_law_palette" = some (some (.ref f63))) (l63 : K.lookup f63 = some ⟨oc63, od63, .func (PySem.W.fnOf "_law_palette" "_law_palette" (defArgs s__law_palette) (defBody s__law_palette) (defScope s__law_palette) .none kV63 dc63 pm63 an63 cd63 ct63), sl63⟩) (c63 : PySem.W.codeIn K cd63 "_law_palette" = true) (k63 : PySem.W.keepIn K (.ref f63) = true)
    (a62 : PySem.W.nsIn K mainGlobals "_law_pick" = some (some (.ref f62))) (l62 : K.lookup f62 = some ⟨oc62, od62, .func (PySem.W.fnOf "_law_pick" "_law_pick" (defArgs s__law_pick) (defBody s__law_pick) (defScope s__law_pick) .none kV62 dc62 pm62 an62 cd62 ct62), sl62⟩) (c62 : PySem.W.codeIn K cd62 "_law_pick" = true) (k62 : PySem.W.keepIn K (.ref f62) = true)
    (a64 : PySem.W.nsIn K mainGlobals "_law_lets" = some (some (.ref f64))) (l64 : K.lookup f64 = some ⟨oc64, od64, .func (PySem.W.fnOf "_law_lets" "_law_lets" (defArgs s__law_lets) (defBody s__law_lets) (defScope s__law_lets) .none kV64 dc64 pm64 an64 cd64 ct64), sl64⟩) (c64 : PySem.W.codeIn K cd64 "_law_lets" = true) (k64 : PySem.W.keepIn K (.ref f64) = true)
    (a65 : PySem.W.nsIn K mainGlobals "_law_rows" = some (some (.ref f65))) (l65 : K.lookup f65 = some ⟨oc65, od65, .func (PySem.W.fnOf "_law_rows" "_law_rows" (defArgs s__law_rows) (defBody s__law_rows) (defScope s__law_rows) .none kV65 dc65 pm65 an65 cd65 ct65), sl65⟩) (c65 : PySem.W.codeIn K cd65 "_law_rows" = true) (k65 : PySem.W.keepIn K (.ref f65) = true)
    (a66 : PySem.W.nsIn K mainGlobals "_law_rank" = some (some (.ref f66))) (l66 : K.lookup f66 = some ⟨oc66, od66, .func (PySem.W.fnOf "_law_rank" "_law_rank" (defArgs s__law_rank) (defBody s__law_rank) (defScope s__law_rank) .none kV66 dc66 pm66 an66 cd66 ct66), sl66⟩) (c66 : PySem.W.codeIn K cd66 "_law_rank" = true) (k66 : PySem.W.keepIn K (.ref f66) = true)
    (a67 : PySem.W.nsIn K mainGlobals "_law_sorted" = some (some (.ref f67))) (l67 : K.lookup f67 = some ⟨oc67, od67, .func (PySem.W.fnOf "_law_sorted" "_law_sorted" (defArgs s__law_sorted) (defBody s__law_sorted) (defScope s__law_sorted) .none kV67 dc67 pm67 an67 cd67 ct67), sl67⟩) (c67 : PySem.W.codeIn K cd67 "_law_sorted" = true) (k67 : PySem.W.keepIn K (.ref f67) = true)
    (a68 : PySem.W.nsIn K mainGlobals "_law_copies" = some (some (.ref f68))) (l68 : K.lookup f68 = some ⟨oc68, od68, .func (PySem.W.fnOf "_law_copies" "_law_copies" (defArgs s__law_copies) (defBody s__law_copies) (defScope s__law_copies) .none kV68 dc68 pm68 an68 cd68 ct68), sl68⟩) (c68 : PySem.W.codeIn K cd68 "_law_copies" = true) (k68 : PySem.W.keepIn K (.ref f68) = true)
    (a69 : PySem.W.nsIn K mainGlobals "_law_fitting" = some (some (.ref f69))) (l69 : K.lookup f69 = some ⟨oc69, od69, .func (PySem.W.fnOf "_law_fitting" "_law_fitting" (defArgs s__law_fitting) (defBody s__law_fitting) (defScope s__law_fitting) .none kV69 dc69 pm69 an69 cd69 ct69), sl69⟩) (c69 : PySem.W.codeIn K cd69 "_law_fitting" = true) (k69 : PySem.W.keepIn K (.ref f69) = true)
    (a70 : PySem.W.nsIn K mainGlobals "_law_first" = some (some (.ref f70))) (l70 : K.lookup f70 = some ⟨oc70, od70, .func (PySem.W.fnOf "_law_first" "_law_first" (defArgs s__law_first) (defBody s__law_first) (defScope s__law_first) .none kV70 dc70 pm70 an70 cd70 ct70), sl70⟩) (c70 : PySem.W.codeIn K cd70 "_law_first" = true) (k70 : PySem.W.keepIn K (.ref f70) = true)
    (a71 : PySem.W.nsIn K mainGlobals "_law_mixed_rows" = some (some (.ref f71))) (l71 : K.lookup f71 = some ⟨oc71, od71, .func (PySem.W.fnOf "_law_mixed_rows" "_law_mixed_rows" (defArgs s__law_mixed_rows) (defBody s__law_mixed_rows) (defScope s__law_mixed_rows) .none kV71 dc71 pm71 an71 cd71 ct71), sl71⟩) (c71 : PySem.W.codeIn K cd71 "_law_mixed_rows" = true) (k71 : PySem.W.keepIn K (.ref f71) = true)
    (a72 : PySem.W.nsIn K mainGlobals "_law_calls" = some (some (.ref f72))) (l72 : K.lookup f72 = some ⟨oc72, od72, .func (PySem.W.fnOf "_law_calls" "_law_calls" (defArgs s__law_calls) (defBody s__law_calls) (defScope s__law_calls) .none kV72 dc72 pm72 an72 cd72 ct72), sl72⟩) (c72 : PySem.W.codeIn K cd72 "_law_calls" = true) (k72 : PySem.W.keepIn K (.ref f72) = true)
    (a73 : PySem.W.nsIn K mainGlobals "_law_chosen" = some (some (.ref f73))) (l73 : K.lookup f73 = some ⟨oc73, od73, .func (PySem.W.fnOf "_law_chosen" "_law_chosen" (defArgs s__law_chosen) (defBody s__law_chosen) (defScope s__law_chosen) .none kV73 dc73 pm73 an73 cd73 ct73), sl73⟩) (c73 : PySem.W.codeIn K cd73 "_law_chosen" = true) (k73 : PySem.W.keepIn K (.ref f73) = true)
    (a74 : PySem.W.nsIn K mainGlobals "_law_holds" = some (some (.ref f74))) (l74 : K.lookup f74 = some ⟨oc74, od74, .func (PySem.W.fnOf "_law_holds" "_law_holds" (defArgs s__law_holds) (defBody s__law_holds) (defScope s__law_holds) .none kV74 dc74 pm74 an74 cd74 ct74), sl74⟩) (c74 : PySem.W.codeIn K cd74 "_law_holds" = true) (k74 : PySem.W.keepIn K (.ref f74) = true)
    (a75 : PySem.W.nsIn K mainGlobals "_law_refused" = some (some (.ref f75))) (l75 : K.lookup f75 = some ⟨oc75, od75, .func (PySem.W.fnOf "_law_refused" "_law_refused" (defArgs s__law_refused) (defBody s__law_refused) (defScope s__law_refused) .none kV75 dc75 pm75 an75 cd75 ct75), sl75⟩) (c75 : PySem.W.codeIn K cd75 "_law_refused" = true) (k75 : PySem.W.keepIn K (.ref f75) = true)
    (a76 : PySem.W.nsIn K mainGlobals "_law_refuses" = some (some (.ref f76))) (l76 : K.lookup f76 = some ⟨oc76, od76, .func (PySem.W.fnOf "_law_refuses" "_law_refuses" (defArgs s__law_refuses) (defBody s__law_refuses) (defScope s__law_refuses) .none kV76 dc76 pm76 an76 cd76 ct76), sl76⟩) (c76 : PySem.W.codeIn K cd76 "_law_refuses" = true) (k76 : PySem.W.keepIn K (.ref f76) = true)
    (a77 : PySem.W.nsIn K mainGlobals "law" = some (some (.ref f77))) (l77 : K.lookup f77 = some ⟨oc77, od77, .func (PySem.W.fnOf "law" "law" (defArgs s_law) (defBody s_law) (defScope s_law) .none kV77 dc77 pm77 an77 cd77 ct77), sl77⟩) (c77 : PySem.W.codeIn K cd77 "law" = true) (k77 : PySem.W.keepIn K (.ref f77) = true)
    (xl_2 : K.lookup f2 = some (excClassObj nm_2 qn_2 f2 N_2 bs_2 [.type "ValueError", .type "Exception", .type "BaseException", .type "object"] true sn_2 sub_2 ab_2 col_2 dd_2 m0_2 m1_2 m2_2 m3_2 m5_2 "ValueError.__new__"))
    (xs_2 : PySem.W.findIn K (.ref f2) "__setattr__" = some (some (.builtin "object.__setattr__")))
    (xe_2 : PySem.W.subIn K (.ref f2) (.type "BaseException") = some true)
    (xt_2 : PySem.W.typeIn K (.ref f2) = some (.type "type"))
    (xk_2 : PySem.W.keepIn K (.ref f2) = true)
    (ya_2 : PySem.W.findIn K (.ref f2) "__getattribute__" = some (some (.builtin "BaseException.__getattribute__")))
    (yg_2 : PySem.W.findIn K (.ref f2) "__getattr__" = some none)
    (yh_2 : PySem.W.hasDictIn K f2 = true)
    (za_2 : PySem.W.findIn K (.ref f2) "__class__" = some (some (.builtin "object.__class__")))
    (zn_2 : PySem.W.specialIn K (.builtin "object.__class__") "__get__" = some (some (.builtin "getset_descriptor.__get__")))
    (zt_2 : PySem.W.takesIn K (.builtin "object.__class__") = some true)
    (zm_2 : PySem.W.mroIn K f2 (.type "object") = some true)
    (xl_3 : K.lookup f3 = some (excClassObj nm_3 qn_3 f3 N_3 bs_3 [.ref f2, .type "ValueError", .type "Exception", .type "BaseException", .type "object"] true sn_3 sub_3 ab_3 col_3 dd_3 m0_3 m1_3 m2_3 m3_3 m5_3 "ValueError.__new__"))
    (xs_3 : PySem.W.findIn K (.ref f3) "__setattr__" = some (some (.builtin "object.__setattr__")))
    (xe_3 : PySem.W.subIn K (.ref f3) (.type "BaseException") = some true)
    (xt_3 : PySem.W.typeIn K (.ref f3) = some (.type "type"))
    (xk_3 : PySem.W.keepIn K (.ref f3) = true)
    (ya_3 : PySem.W.findIn K (.ref f3) "__getattribute__" = some (some (.builtin "BaseException.__getattribute__")))
    (yg_3 : PySem.W.findIn K (.ref f3) "__getattr__" = some none)
    (yh_3 : PySem.W.hasDictIn K f3 = true)
    (za_3 : PySem.W.findIn K (.ref f3) "__class__" = some (some (.builtin "object.__class__")))
    (zn_3 : PySem.W.specialIn K (.builtin "object.__class__") "__get__" = some (some (.builtin "getset_descriptor.__get__")))
    (zt_3 : PySem.W.takesIn K (.builtin "object.__class__") = some true)
    (zm_3 : PySem.W.mroIn K f3 (.type "object") = some true)
    (ty_3 : PySem.W.typeIn K (.ref f1300) = some (.type "function"))
    (na_3_name : PySem.W.findIn K (.ref f3) "name" = some none)
    (xl_8 : K.lookup f8 = some (excClassObj nm_8 qn_8 f8 N_8 bs_8 [.ref f2, .type "ValueError", .type "Exception", .type "BaseException", .type "object"] true sn_8 sub_8 ab_8 col_8 dd_8 m0_8 m1_8 m2_8 m3_8 m5_8 "ValueError.__new__"))
    (xs_8 : PySem.W.findIn K (.ref f8) "__setattr__" = some (some (.builtin "object.__setattr__")))
    (xe_8 : PySem.W.subIn K (.ref f8) (.type "BaseException") = some true)
    (xt_8 : PySem.W.typeIn K (.ref f8) = some (.type "type"))
    (xk_8 : PySem.W.keepIn K (.ref f8) = true)
    (ya_8 : PySem.W.findIn K (.ref f8) "__getattribute__" = some (some (.builtin "BaseException.__getattribute__")))
    (yg_8 : PySem.W.findIn K (.ref f8) "__getattr__" = some none)
    (yh_8 : PySem.W.hasDictIn K f8 = true)
    (za_8 : PySem.W.findIn K (.ref f8) "__class__" = some (some (.builtin "object.__class__")))
    (zn_8 : PySem.W.specialIn K (.builtin "object.__class__") "__get__" = some (some (.builtin "getset_descriptor.__get__")))
    (zt_8 : PySem.W.takesIn K (.builtin "object.__class__") = some true)
    (zm_8 : PySem.W.mroIn K f8 (.type "object") = some true)
    (ty_8 : PySem.W.typeIn K (.ref f1800) = some (.type "function"))
    (na_8_service : PySem.W.findIn K (.ref f8) "service" = some none)
    (pg_42 : PySem.W.plainGet K f42 Str.empty = true)
    (hd_42 : PySem.W.hasDictIn K f42 = true)
    (po_42 : PySem.W.plainOver K f42 = true)
    (sa_42 : PySem.W.findIn K (.ref f42) "__setattr__" = some (some (.builtin "object.__setattr__")))
    (mk_42 : PySem.W.makesIn K f42 = true)
    (is_5200 : PySem.W.isFn K (.ref f5200) = true)
    (kc_42 : PySem.W.keepIn K (.ref f42) = true)
    (na_42__tables : PySem.W.findIn K (.ref f42) "_tables" = some none)
    (na_42__keys : PySem.W.findIn K (.ref f42) "_keys" = some none)
    (na_42__services : PySem.W.findIn K (.ref f42) "_services" = some none)
    (pg_48 : PySem.W.plainGet K f48 Str.empty = true)
    (hd_48 : PySem.W.hasDictIn K f48 = true)
    (po_48 : PySem.W.plainOver K f48 = true)
    (sa_48 : PySem.W.findIn K (.ref f48) "__setattr__" = some (some (.builtin "object.__setattr__")))
    (mk_48 : PySem.W.makesIn K f48 = true)
    (is_5800 : PySem.W.isFn K (.ref f5800) = true)
    (kc_48 : PySem.W.keepIn K (.ref f48) = true)
    (na_48_schema : PySem.W.findIn K (.ref f48) "schema" = some none)
    (na_48__rows : PySem.W.findIn K (.ref f48) "_rows" = some none)
    (na_48__fitting : PySem.W.findIn K (.ref f48) "_fitting" = some none)
    (pg_25 : PySem.W.plainGet K f25 Str.empty = true)
    (hd_25 : PySem.W.hasDictIn K f25 = true)
    (po_25 : PySem.W.plainOver K f25 = true)
    (sa_25 : PySem.W.findIn K (.ref f25) "__setattr__" = some (some (.builtin "object.__setattr__")))
    (mk_25 : PySem.W.makesIn K f25 = true)
    (is_3500 : PySem.W.isFn K (.ref f3500) = true)
    (kc_25 : PySem.W.keepIn K (.ref f25) = true)
    (na_25_store : PySem.W.findIn K (.ref f25) "store" = some none)
    (na_25_schema : PySem.W.findIn K (.ref f25) "schema" = some none)
    (na_25__chosen : PySem.W.findIn K (.ref f25) "_chosen" = some none)
    (oa_42 : PySem.W.findIn K (.ref f42) "__class__" = some (some (.builtin "object.__class__")))
    (on_42 : PySem.W.specialIn K (.builtin "object.__class__") "__get__" = some (some (.builtin "getset_descriptor.__get__")))
    (ot_42 : PySem.W.takesIn K (.builtin "object.__class__") = some true)
    (om_42 : PySem.W.mroIn K f42 (.type "object") = some true)
    (oa_48 : PySem.W.findIn K (.ref f48) "__class__" = some (some (.builtin "object.__class__")))
    (on_48 : PySem.W.specialIn K (.builtin "object.__class__") "__get__" = some (some (.builtin "getset_descriptor.__get__")))
    (ot_48 : PySem.W.takesIn K (.builtin "object.__class__") = some true)
    (om_48 : PySem.W.mroIn K f48 (.type "object") = some true)
    (es_3_2 : PySem.W.subIn K (.ref f3) (.ref f2) = some true)
    (es_8_2 : PySem.W.subIn K (.ref f8) (.ref f2) = some true)
    (es_3_8 : PySem.W.kitOne K (.ref f3) (.ref f8) = some false)
    (es_8_3 : PySem.W.kitOne K (.ref f8) (.ref f3) = some false)
    (es_3_3 : PySem.W.subIn K (.ref f3) (.ref f3) = some true)
    (es_8_8 : PySem.W.subIn K (.ref f8) (.ref f8) = some true)
    (ef_8_3 : PySem.W.subIn K (.ref f8) (.ref f3) = some false)
    (pb_5203 : PySem.W.specialIn K (.ref f55203) "__get__" = some (some (.builtin "property.__get__")))
    (pc_5203 : PySem.W.takesIn K (.ref f55203) = some true)
    (mi_5204 : PySem.W.isFn K (.ref f5204) = true)
    (mi_5205 : PySem.W.isFn K (.ref f5205) = true)
    (mi_5208 : PySem.W.isFn K (.ref f5208) = true)
    (mi_5209 : PySem.W.isFn K (.ref f5209) = true)
    (mi_5210 : PySem.W.isFn K (.ref f5210) = true)
    (mi_5805 : PySem.W.isFn K (.ref f5805) = true)
    (mi_5808 : PySem.W.isFn K (.ref f5808) = true)
    (pb_3501 : PySem.W.specialIn K (.ref f53501) "__get__" = some (some (.builtin "property.__get__")))
    (pc_3501 : PySem.W.takesIn K (.ref f53501) = some true)
    (mi_3502 : PySem.W.isFn K (.ref f3502) = true)
    (z_abs : PySem.W.nsIn K mainGlobals "abs" = some none)
    (z_all : PySem.W.nsIn K mainGlobals "all" = some none)
    (z_bool : PySem.W.nsIn K mainGlobals "bool" = some none)
    (z_dict : PySem.W.nsIn K mainGlobals "dict" = some none)
    (z_enumerate : PySem.W.nsIn K mainGlobals "enumerate" = some none)
    (z_int : PySem.W.nsIn K mainGlobals "int" = some none)
    (z_isinstance : PySem.W.nsIn K mainGlobals "isinstance" = some none)
    (z_len : PySem.W.nsIn K mainGlobals "len" = some none)
    (z_list : PySem.W.nsIn K mainGlobals "list" = some none)
    (z_min : PySem.W.nsIn K mainGlobals "min" = some none)
    (z_range : PySem.W.nsIn K mainGlobals "range" = some none)
    (z_sorted : PySem.W.nsIn K mainGlobals "sorted" = some none)
    (z_str : PySem.W.nsIn K mainGlobals "str" = some none)
    (z_sum : PySem.W.nsIn K mainGlobals "sum" = some none)
    (z_tuple : PySem.W.nsIn K mainGlobals "tuple" = some none)
    {t_LONGEST_WORD : Tok} (v_LONGEST_WORD : PySem.W.nsIn K mainGlobals "LONGEST_WORD" = some (some (.int (8) t_LONGEST_WORD)))
    {t_GREATEST_VALUE : Tok} (v_GREATEST_VALUE : PySem.W.nsIn K mainGlobals "GREATEST_VALUE" = some (some (.int (999999999999999999999999999999) t_GREATEST_VALUE)))
    {t_MOST_TABLES : Tok} (v_MOST_TABLES : PySem.W.nsIn K mainGlobals "MOST_TABLES" = some (some (.int (5) t_MOST_TABLES)))
    {t_MOST_WIDTH : Tok} (v_MOST_WIDTH : PySem.W.nsIn K mainGlobals "MOST_WIDTH" = some (some (.int (4) t_MOST_WIDTH)))
    {t_MOST_SERVICES : Tok} (v_MOST_SERVICES : PySem.W.nsIn K mainGlobals "MOST_SERVICES" = some (some (.int (8) t_MOST_SERVICES)))
    {t_MOST_CAP : Tok} (v_MOST_CAP : PySem.W.nsIn K mainGlobals "MOST_CAP" = some (some (.int (4) t_MOST_CAP)))
    {t_MOST_ROWS : Tok} (v_MOST_ROWS : PySem.W.nsIn K mainGlobals "MOST_ROWS" = some (some (.int (400) t_MOST_ROWS)))
    : ∃ fd : FuncData, (∀ (s : Shared) (v : Value), BindsTo s fd ⟨[v], []⟩ [("_law_script", v)]) ∧ ∀ base : Heap, K.In base → base.Ns mainGlobals mg → FnOk P w K mg base CX0 10 fa fd ["_law_script"] (spLaw K) := by
  have e := hfa.symm.trans (PySem.W.mg_of X G a77)
  cases e
  have F1300 := fun_mk (st := s_UnknownName___init__) l1300 c1300 k1300
  have b1300 := F1300.binds (ps := ["self", "name"]) fun _ _ _ _ _ _ us hl => match us, hl with | [_, _], _ => rfl
  have F1800 := fun_mk (st := s_InvalidCall___init__) l1800 c1800 k1800
  have b1800 := F1800.binds (ps := ["self", "service"]) fun _ _ _ _ _ _ us hl => match us, hl with | [_, _], _ => rfl
  have F13 := fun_mk (st := s_is_plain_int) l13 c13 k13
  have b13 := F13.binds (ps := ["thing"]) fun _ _ _ _ _ _ us hl => match us, hl with | [_], _ => rfl
  have F14 := fun_mk (st := s_is_word) l14 c14 k14
  have b14 := F14.binds (ps := ["thing"]) fun _ _ _ _ _ _ us hl => match us, hl with | [_], _ => rfl
  have F15 := fun_mk (st := s_is_value) l15 c15 k15
  have b15 := F15.binds (ps := ["thing"]) fun _ _ _ _ _ _ us hl => match us, hl with | [_], _ => rfl
  have F16 := fun_mk (st := s_are_values) l16 c16 k16
  have b16 := F16.binds (ps := ["thing", "many"]) fun _ _ _ _ _ _ us hl => match us, hl with | [_, _], _ => rfl
  have F17 := fun_mk (st := s_columns_of) l17 c17 k17
  have b17 := F17.binds (ps := ["row", "columns"]) fun _ _ _ _ _ _ us hl => match us, hl with | [_, _], _ => rfl
  have F18 := fun_mk (st := s_row_key) l18 c18 k18
  have b18 := F18.binds (ps := ["row"]) fun _ _ _ _ _ _ us hl => match us, hl with | [_], _ => rfl
  have F19 := fun_mk (st := s_sorted_rows) l19 c19 k19
  have b19 := F19.binds (ps := ["rows"]) fun _ _ _ _ _ _ us hl => match us, hl with | [_], _ => rfl
  have F31 := fun_mk (st := s__is_count) l31 c31 k31
  have b31 := F31.binds (ps := ["thing", "most"]) fun _ _ _ _ _ _ us hl => match us, hl with | [_, _], _ => rfl
  have F32 := fun_mk (st := s__is_name_in) l32 c32 k32
  have b32 := F32.binds (ps := ["thing", "names"]) fun _ _ _ _ _ _ us hl => match us, hl with | [_, _], _ => rfl
  have F33 := fun_mk (st := s__are_columns) l33 c33 k33
  have b33 := F33.binds (ps := ["thing", "width"]) fun _ _ _ _ _ _ us hl => match us, hl with | [_, _], _ => rfl
  have F34 := fun_mk (st := s__is_key) l34 c34 k34
  have b34 := F34.binds (ps := ["thing", "width"]) fun _ _ _ _ _ _ us hl => match us, hl with | [_, _], _ => rfl
  have F35 := fun_mk (st := s__is_service) l35 c35 k35
  have b35 := F35.binds (ps := ["thing", "tables"]) fun _ _ _ _ _ _ us hl => match us, hl with | [_, _], _ => rfl
  have F36 := fun_mk (st := s__is_whole_service) l36 c36 k36
  have b36 := F36.binds (ps := ["service", "tables", "keys"]) fun _ _ _ _ _ _ us hl => match us, hl with | [_, _, _], _ => rfl
  have F37 := fun_mk (st := s__check_tables) l37 c37 k37
  have b37 := F37.binds (ps := ["tables"]) fun _ _ _ _ _ _ us hl => match us, hl with | [_], _ => rfl
  have F38 := fun_mk (st := s__check_keys) l38 c38 k38
  have b38 := F38.binds (ps := ["keys", "tables"]) fun _ _ _ _ _ _ us hl => match us, hl with | [_, _], _ => rfl
  have F39 := fun_mk (st := s__check_services) l39 c39 k39
  have b39 := F39.binds (ps := ["services", "tables"]) fun _ _ _ _ _ _ us hl => match us, hl with | [_, _], _ => rfl
  have F40 := fun_mk (st := s__check_capped) l40 c40 k40
  have b40 := F40.binds (ps := ["services", "tables", "keys"]) fun _ _ _ _ _ _ us hl => match us, hl with | [_, _, _], _ => rfl
  have F41 := fun_mk (st := s__copied) l41 c41 k41
  have b41 := F41.binds (ps := ["things"]) fun _ _ _ _ _ _ us hl => match us, hl with | [_], _ => rfl
  have F5200 := fun_mk (st := s_Schema___init__) l5200 c5200 k5200
  have b5200 := F5200.binds (ps := ["self", "tables", "keys", "services"]) fun _ _ _ _ _ _ us hl => match us, hl with | [_, _, _, _], _ => rfl
  have F5203 := fun_mk (st := s_Schema_services) l5203 c5203 k5203
  have b5203 := F5203.binds (ps := ["self"]) fun _ _ _ _ _ _ us hl => match us, hl with | [_], _ => rfl
  have F5204 := fun_mk (st := s_Schema___eq__) l5204 c5204 k5204
  have b5204 := F5204.binds (ps := ["self", "other"]) fun _ _ _ _ _ _ us hl => match us, hl with | [_, _], _ => rfl
  have F5205 := fun_mk (st := s_Schema_table_names) l5205 c5205 k5205
  have b5205 := F5205.binds (ps := ["self"]) fun _ _ _ _ _ _ us hl => match us, hl with | [_], _ => rfl
  have F5208 := fun_mk (st := s_Schema_width_of) l5208 c5208 k5208
  have b5208 := F5208.binds (ps := ["self", "table"]) fun _ _ _ _ _ _ us hl => match us, hl with | [_, _], _ => rfl
  have F5209 := fun_mk (st := s_Schema_key_of) l5209 c5209 k5209
  have b5209 := F5209.binds (ps := ["self", "table"]) fun _ _ _ _ _ _ us hl => match us, hl with | [_, _], _ => rfl
  have F5210 := fun_mk (st := s_Schema_service_of) l5210 c5210 k5210
  have b5210 := F5210.binds (ps := ["self", "name"]) fun _ _ _ _ _ _ us hl => match us, hl with | [_, _], _ => rfl
  have F46 := fun_mk (st := s__check_table) l46 c46 k46
  have b46 := F46.binds (ps := ["schema", "table", "rows"]) fun _ _ _ _ _ _ us hl => match us, hl with | [_, _, _], _ => rfl
  have F47 := fun_mk (st := s__by_given) l47 c47 k47
  have b47 := F47.binds (ps := ["rows", "given"]) fun _ _ _ _ _ _ us hl => match us, hl with | [_, _], _ => rfl
  have F5800 := fun_mk (st := s_Store___init__) l5800 c5800 k5800
  have b5800 := F5800.binds (ps := ["self", "schema", "rows"]) fun _ _ _ _ _ _ us hl => match us, hl with | [_, _, _], _ => rfl
  have F5805 := fun_mk (st := s_Store___eq__) l5805 c5805 k5805
  have b5805 := F5805.binds (ps := ["self", "other"]) fun _ _ _ _ _ _ us hl => match us, hl with | [_, _], _ => rfl
  have F5808 := fun_mk (st := s_Store_fitting) l5808 c5808 k5808
  have b5808 := F5808.binds (ps := ["self", "service", "given"]) fun _ _ _ _ _ _ us hl => match us, hl with | [_, _, _], _ => rfl
  have F21 := fun_mk (st := s__answer_size) l21 c21 k21
  have b21 := F21.binds (ps := ["store", "service", "rows"]) fun _ _ _ _ _ _ us hl => match us, hl with | [_, _, _], _ => rfl
  have F22 := fun_mk (st := s__is_answer) l22 c22 k22
  have b22 := F22.binds (ps := ["store", "service", "given", "rows"]) fun _ _ _ _ _ _ us hl => match us, hl with | [_, _, _, _], _ => rfl
  have F23 := fun_mk (st := s__check_choice) l23 c23 k23
  have b23 := F23.binds (ps := ["store", "service", "given", "rows"]) fun _ _ _ _ _ _ us hl => match us, hl with | [_, _, _, _], _ => rfl
  have F24 := fun_mk (st := s__call_key) l24 c24 k24
  have b24 := F24.binds (ps := ["call"]) fun _ _ _ _ _ _ us hl => match us, hl with | [_], _ => rfl
  have F3500 : FunD K "__init__" "Answers.__init__" (defArgs s_Answers___init__) (defBody s_Answers___init__) (defScope s_Answers___init__) [.non] [] f3500 _ := ⟨⟨_, _, _, _, _, _, _, _, _, _, rfl, l3500, c3500, .inr ⟨by simp, fT3500, _, [.none], _, rfl, t3500, rfl, .cons rfl .nil⟩, .inl rfl⟩, k3500⟩
  have b3500 := binds_all F3500 (ps := ["self", "store", "choices"]) (by decide) fun _ _ _ _ _ _ _ us its hl hi => match us, hl, its, hi with | [_, _, _], _, [_], _ => ⟨_, rfl, rfl⟩
  have e3500 := binds_one F3500 (ps := ["self", "store", "choices"]) (by decide) fun _ _ _ _ _ _ _ us its hl hi => match us, hl, its, hi with | [_, _], _, [_], _ => ⟨_, rfl, rfl⟩
  have F3501 := fun_mk (st := s_Answers_choices) l3501 c3501 k3501
  have b3501 := F3501.binds (ps := ["self"]) fun _ _ _ _ _ _ us hl => match us, hl with | [_], _ => rfl
  have F3502 := fun_mk (st := s_Answers___call__) l3502 c3502 k3502
  have b3502 := F3502.binds (ps := ["self", "service", "given"]) fun _ _ _ _ _ _ us hl => match us, hl with | [_, _, _], _ => rfl
  have F50 := fun_mk (st := s__law_pool) l50 c50 k50
  have b50 := F50.binds (ps := ["_law_script"]) fun _ _ _ _ _ _ us hl => match us, hl with | [_], _ => rfl
  have F51 := fun_mk (st := s__law_mixed) l51 c51 k51
  have b51 := F51.binds (ps := ["_law_seed", "_law_count"]) fun _ _ _ _ _ _ us hl => match us, hl with | [_, _], _ => rfl
  have F52 := fun_mk (st := s__law_draw) l52 c52 k52
  have b52 := F52.binds (ps := ["_law_pool_here", "_law_many"]) fun _ _ _ _ _ _ us hl => match us, hl with | [_, _], _ => rfl
  have F53 := fun_mk (st := s__law_word) l53 c53 k53
  have b53 := F53.binds (ps := ["_law_pool_here", "_law_many"]) fun _ _ _ _ _ _ us hl => match us, hl with | [_, _], _ => rfl
  have F61 := fun_mk (st := s__law_value) l61 c61 k61
  have b61 := F61.binds (ps := ["_law_pool_here"]) fun _ _ _ _ _ _ us hl => match us, hl with | [_], _ => rfl
  have F54 := fun_mk (st := s__law_names) l54 c54 k54
  have b54 := F54.binds (ps := ["_law_pool_here", "_law_many"]) fun _ _ _ _ _ _ us hl => match us, hl with | [_, _], _ => rfl
  have F55 := fun_mk (st := s__law_columns) l55 c55 k55
  have b55 := F55.binds (ps := ["_law_pool_here", "_law_width", "_law_low", "_law_high"]) fun _ _ _ _ _ _ us hl => match us, hl with | [_, _, _, _], _ => rfl
  have F56 := fun_mk (st := s__law_tables) l56 c56 k56
  have b56 := F56.binds (ps := ["_law_pool_here", "_law_many", "_law_widest"]) fun _ _ _ _ _ _ us hl => match us, hl with | [_, _, _], _ => rfl
  have F57 := fun_mk (st := s__law_keys) l57 c57 k57
  have b57 := F57.binds (ps := ["_law_pool_here", "_law_tables_here"]) fun _ _ _ _ _ _ us hl => match us, hl with | [_, _], _ => rfl
  have F58 := fun_mk (st := s__law_is_whole) l58 c58 k58
  have b58 := F58.binds (ps := ["_law_tables_here", "_law_keys_here", "_law_told"]) fun _ _ _ _ _ _ us hl => match us, hl with | [_, _, _], _ => rfl
  have F59 := fun_mk (st := s__law_services) l59 c59 k59
  have b59 := F59.binds (ps := ["_law_pool_here", "_law_tables_here", "_law_keys_here", "_law_caps", "_law_more"]) fun _ _ _ _ _ _ us hl => match us, hl with | [_, _, _, _, _], _ => rfl
  have F60 := fun_mk (st := s__law_schema_parts) l60 c60 k60
  have b60 := F60.binds (ps := ["_law_pool_here", "_law_many", "_law_widest", "_law_caps", "_law_more"]) fun _ _ _ _ _ _ us hl => match us, hl with | [_, _, _, _, _], _ => rfl
  have F63 := fun_mk (st := s__law_palette) l63 c63 k63
  have b63 := F63.binds (ps := ["_law_pool_here", "_law_many"]) fun _ _ _ _ _ _ us hl => match us, hl with | [_, _], _ => rfl
  have F62 := fun_mk (st := s__law_pick) l62 c62 k62
  have b62 := F62.binds (ps := ["_law_pool_here", "_law_row"]) fun _ _ _ _ _ _ us hl => match us, hl with | [_, _], _ => rfl
  have F64 := fun_mk (st := s__law_lets) l64 c64 k64
  have b64 := F64.binds (ps := ["_law_rows_here", "_law_mark", "_law_row"]) fun _ _ _ _ _ _ us hl => match us, hl with | [_, _, _], _ => rfl
  have F65 := fun_mk (st := s__law_rows) l65 c65 k65
  have b65 := F65.binds (ps := ["_law_pool_here", "_law_tables_here", "_law_keys_here", "_law_palette_here", "_law_most"]) fun _ _ _ _ _ _ us hl => match us, hl with | [_, _, _, _, _], _ => rfl
  have F66 := fun_mk (st := s__law_rank) l66 c66 k66
  have b66 := F66.binds (ps := ["_law_row"]) fun _ _ _ _ _ _ us hl => match us, hl with | [_], _ => rfl
  have F67 := fun_mk (st := s__law_sorted) l67 c67 k67
  have b67 := F67.binds (ps := ["_law_rows_here"]) fun _ _ _ _ _ _ us hl => match us, hl with | [_], _ => rfl
  have F68 := fun_mk (st := s__law_copies) l68 c68 k68
  have b68 := F68.binds (ps := ["_law_lists"]) fun _ _ _ _ _ _ us hl => match us, hl with | [_], _ => rfl
  have F69 := fun_mk (st := s__law_fitting) l69 c69 k69
  have b69 := F69.binds (ps := ["_law_services_here", "_law_rows_here", "_law_service", "_law_values"]) fun _ _ _ _ _ _ us hl => match us, hl with | [_, _, _, _], _ => rfl
  have F70 := fun_mk (st := s__law_first) l70 c70 k70
  have b70 := F70.binds (ps := ["_law_services_here", "_law_rows_here", "_law_service", "_law_values"]) fun _ _ _ _ _ _ us hl => match us, hl with | [_, _, _, _], _ => rfl
  have F71 := fun_mk (st := s__law_mixed_rows) l71 c71 k71
  have b71 := F71.binds (ps := ["_law_pool_here", "_law_rows_here"]) fun _ _ _ _ _ _ us hl => match us, hl with | [_, _], _ => rfl
  have F72 := fun_mk (st := s__law_calls) l72 c72 k72
  have b72 := F72.binds (ps := ["_law_services_here", "_law_rows_here"]) fun _ _ _ _ _ _ us hl => match us, hl with | [_, _], _ => rfl
  have F73 := fun_mk (st := s__law_chosen) l73 c73 k73
  have b73 := F73.binds (ps := ["_law_pool_here", "_law_services_here", "_law_rows_here", "_law_calls_here"]) fun _ _ _ _ _ _ us hl => match us, hl with | [_, _, _, _], _ => rfl
  have F74 := fun_mk (st := s__law_holds) l74 c74 k74
  have b74 := F74.binds (ps := ["_law_answers", "_law_services_here", "_law_rows_here", "_law_chosen_here", "_law_calls_here"]) fun _ _ _ _ _ _ us hl => match us, hl with | [_, _, _, _, _], _ => rfl
  have F75 := fun_mk (st := s__law_refused) l75 c75 k75
  have b75 := F75.binds (ps := ["_law_answers", "_law_service", "_law_values"]) fun _ _ _ _ _ _ us hl => match us, hl with | [_, _, _], _ => rfl
  have F76 := fun_mk (st := s__law_refuses) l76 c76 k76
  have b76 := F76.binds (ps := ["_law_pool_here", "_law_answers", "_law_services_here"]) fun _ _ _ _ _ _ us hl => match us, hl with | [_, _, _], _ => rfl
  have F77 := fun_mk (st := s_law) l77 c77 k77
  have b77 := F77.binds (ps := ["_law_script"]) fun _ _ _ _ _ _ us hl => match us, hl with | [_], _ => rfl
  let aa : Nat → Addr := fun i => match i with
    | 2 => f2
    | 3 => f3
    | 8 => f8
    | 13 => f13
    | 14 => f14
    | 15 => f15
    | 16 => f16
    | 17 => f17
    | 18 => f18
    | 19 => f19
    | 21 => f21
    | 22 => f22
    | 23 => f23
    | 24 => f24
    | 25 => f25
    | 31 => f31
    | 32 => f32
    | 33 => f33
    | 34 => f34
    | 35 => f35
    | 36 => f36
    | 37 => f37
    | 38 => f38
    | 39 => f39
    | 40 => f40
    | 41 => f41
    | 42 => f42
    | 46 => f46
    | 47 => f47
    | 48 => f48
    | 50 => f50
    | 51 => f51
    | 52 => f52
    | 53 => f53
    | 54 => f54
    | 55 => f55
    | 56 => f56
    | 57 => f57
    | 58 => f58
    | 59 => f59
    | 60 => f60
    | 61 => f61
    | 62 => f62
    | 63 => f63
    | 64 => f64
    | 65 => f65
    | 66 => f66
    | 67 => f67
    | 68 => f68
    | 69 => f69
    | 70 => f70
    | 71 => f71
    | 72 => f72
    | 73 => f73
    | 74 => f74
    | 75 => f75
    | 76 => f76
    | 77 => fa
    | 1300 => f1300
    | 1800 => f1800
    | 3500 => f3500
    | 3501 => f3501
    | 3502 => f3502
    | 5200 => f5200
    | 5203 => f5203
    | 5204 => f5204
    | 5205 => f5205
    | 5208 => f5208
    | 5209 => f5209
    | 5210 => f5210
    | 5800 => f5800
    | 5805 => f5805
    | 5808 => f5808
    | 53501 => f53501
    | 55203 => f55203
    | _ => 0
  let dd : Nat → FuncData := fun i => match i with
    | 13 => PySem.W.fnOf "is_plain_int" "is_plain_int" (defArgs s_is_plain_int) (defBody s_is_plain_int) (defScope s_is_plain_int) .none kV13 dc13 pm13 an13 cd13 ct13
    | 14 => PySem.W.fnOf "is_word" "is_word" (defArgs s_is_word) (defBody s_is_word) (defScope s_is_word) .none kV14 dc14 pm14 an14 cd14 ct14
    | 15 => PySem.W.fnOf "is_value" "is_value" (defArgs s_is_value) (defBody s_is_value) (defScope s_is_value) .none kV15 dc15 pm15 an15 cd15 ct15
    | 16 => PySem.W.fnOf "are_values" "are_values" (defArgs s_are_values) (defBody s_are_values) (defScope s_are_values) .none kV16 dc16 pm16 an16 cd16 ct16
    | 17 => PySem.W.fnOf "columns_of" "columns_of" (defArgs s_columns_of) (defBody s_columns_of) (defScope s_columns_of) .none kV17 dc17 pm17 an17 cd17 ct17
    | 18 => PySem.W.fnOf "row_key" "row_key" (defArgs s_row_key) (defBody s_row_key) (defScope s_row_key) .none kV18 dc18 pm18 an18 cd18 ct18
    | 19 => PySem.W.fnOf "sorted_rows" "sorted_rows" (defArgs s_sorted_rows) (defBody s_sorted_rows) (defScope s_sorted_rows) .none kV19 dc19 pm19 an19 cd19 ct19
    | 21 => PySem.W.fnOf "_answer_size" "_answer_size" (defArgs s__answer_size) (defBody s__answer_size) (defScope s__answer_size) .none kV21 dc21 pm21 an21 cd21 ct21
    | 22 => PySem.W.fnOf "_is_answer" "_is_answer" (defArgs s__is_answer) (defBody s__is_answer) (defScope s__is_answer) .none kV22 dc22 pm22 an22 cd22 ct22
    | 23 => PySem.W.fnOf "_check_choice" "_check_choice" (defArgs s__check_choice) (defBody s__check_choice) (defScope s__check_choice) .none kV23 dc23 pm23 an23 cd23 ct23
    | 24 => PySem.W.fnOf "_call_key" "_call_key" (defArgs s__call_key) (defBody s__call_key) (defScope s__call_key) .none kV24 dc24 pm24 an24 cd24 ct24
    | 31 => PySem.W.fnOf "_is_count" "_is_count" (defArgs s__is_count) (defBody s__is_count) (defScope s__is_count) .none kV31 dc31 pm31 an31 cd31 ct31
    | 32 => PySem.W.fnOf "_is_name_in" "_is_name_in" (defArgs s__is_name_in) (defBody s__is_name_in) (defScope s__is_name_in) .none kV32 dc32 pm32 an32 cd32 ct32
    | 33 => PySem.W.fnOf "_are_columns" "_are_columns" (defArgs s__are_columns) (defBody s__are_columns) (defScope s__are_columns) .none kV33 dc33 pm33 an33 cd33 ct33
    | 34 => PySem.W.fnOf "_is_key" "_is_key" (defArgs s__is_key) (defBody s__is_key) (defScope s__is_key) .none kV34 dc34 pm34 an34 cd34 ct34
    | 35 => PySem.W.fnOf "_is_service" "_is_service" (defArgs s__is_service) (defBody s__is_service) (defScope s__is_service) .none kV35 dc35 pm35 an35 cd35 ct35
    | 36 => PySem.W.fnOf "_is_whole_service" "_is_whole_service" (defArgs s__is_whole_service) (defBody s__is_whole_service) (defScope s__is_whole_service) .none kV36 dc36 pm36 an36 cd36 ct36
    | 37 => PySem.W.fnOf "_check_tables" "_check_tables" (defArgs s__check_tables) (defBody s__check_tables) (defScope s__check_tables) .none kV37 dc37 pm37 an37 cd37 ct37
    | 38 => PySem.W.fnOf "_check_keys" "_check_keys" (defArgs s__check_keys) (defBody s__check_keys) (defScope s__check_keys) .none kV38 dc38 pm38 an38 cd38 ct38
    | 39 => PySem.W.fnOf "_check_services" "_check_services" (defArgs s__check_services) (defBody s__check_services) (defScope s__check_services) .none kV39 dc39 pm39 an39 cd39 ct39
    | 40 => PySem.W.fnOf "_check_capped" "_check_capped" (defArgs s__check_capped) (defBody s__check_capped) (defScope s__check_capped) .none kV40 dc40 pm40 an40 cd40 ct40
    | 41 => PySem.W.fnOf "_copied" "_copied" (defArgs s__copied) (defBody s__copied) (defScope s__copied) .none kV41 dc41 pm41 an41 cd41 ct41
    | 46 => PySem.W.fnOf "_check_table" "_check_table" (defArgs s__check_table) (defBody s__check_table) (defScope s__check_table) .none kV46 dc46 pm46 an46 cd46 ct46
    | 47 => PySem.W.fnOf "_by_given" "_by_given" (defArgs s__by_given) (defBody s__by_given) (defScope s__by_given) .none kV47 dc47 pm47 an47 cd47 ct47
    | 50 => PySem.W.fnOf "_law_pool" "_law_pool" (defArgs s__law_pool) (defBody s__law_pool) (defScope s__law_pool) .none kV50 dc50 pm50 an50 cd50 ct50
    | 51 => PySem.W.fnOf "_law_mixed" "_law_mixed" (defArgs s__law_mixed) (defBody s__law_mixed) (defScope s__law_mixed) .none kV51 dc51 pm51 an51 cd51 ct51
    | 52 => PySem.W.fnOf "_law_draw" "_law_draw" (defArgs s__law_draw) (defBody s__law_draw) (defScope s__law_draw) .none kV52 dc52 pm52 an52 cd52 ct52
    | 53 => PySem.W.fnOf "_law_word" "_law_word" (defArgs s__law_word) (defBody s__law_word) (defScope s__law_word) .none kV53 dc53 pm53 an53 cd53 ct53
    | 54 => PySem.W.fnOf "_law_names" "_law_names" (defArgs s__law_names) (defBody s__law_names) (defScope s__law_names) .none kV54 dc54 pm54 an54 cd54 ct54
    | 55 => PySem.W.fnOf "_law_columns" "_law_columns" (defArgs s__law_columns) (defBody s__law_columns) (defScope s__law_columns) .none kV55 dc55 pm55 an55 cd55 ct55
    | 56 => PySem.W.fnOf "_law_tables" "_law_tables" (defArgs s__law_tables) (defBody s__law_tables) (defScope s__law_tables) .none kV56 dc56 pm56 an56 cd56 ct56
    | 57 => PySem.W.fnOf "_law_keys" "_law_keys" (defArgs s__law_keys) (defBody s__law_keys) (defScope s__law_keys) .none kV57 dc57 pm57 an57 cd57 ct57
    | 58 => PySem.W.fnOf "_law_is_whole" "_law_is_whole" (defArgs s__law_is_whole) (defBody s__law_is_whole) (defScope s__law_is_whole) .none kV58 dc58 pm58 an58 cd58 ct58
    | 59 => PySem.W.fnOf "_law_services" "_law_services" (defArgs s__law_services) (defBody s__law_services) (defScope s__law_services) .none kV59 dc59 pm59 an59 cd59 ct59
    | 60 => PySem.W.fnOf "_law_schema_parts" "_law_schema_parts" (defArgs s__law_schema_parts) (defBody s__law_schema_parts) (defScope s__law_schema_parts) .none kV60 dc60 pm60 an60 cd60 ct60
    | 61 => PySem.W.fnOf "_law_value" "_law_value" (defArgs s__law_value) (defBody s__law_value) (defScope s__law_value) .none kV61 dc61 pm61 an61 cd61 ct61
    | 62 => PySem.W.fnOf "_law_pick" "_law_pick" (defArgs s__law_pick) (defBody s__law_pick) (defScope s__law_pick) .none kV62 dc62 pm62 an62 cd62 ct62
    | 63 => PySem.W.fnOf "_law_palette" "_law_palette" (defArgs s__law_palette) (defBody s__law_palette) (defScope s__law_palette) .none kV63 dc63 pm63 an63 cd63 ct63
    | 64 => PySem.W.fnOf "_law_lets" "_law_lets" (defArgs s__law_lets) (defBody s__law_lets) (defScope s__law_lets) .none kV64 dc64 pm64 an64 cd64 ct64
    | 65 => PySem.W.fnOf "_law_rows" "_law_rows" (defArgs s__law_rows) (defBody s__law_rows) (defScope s__law_rows) .none kV65 dc65 pm65 an65 cd65 ct65
    | 66 => PySem.W.fnOf "_law_rank" "_law_rank" (defArgs s__law_rank) (defBody s__law_rank) (defScope s__law_rank) .none kV66 dc66 pm66 an66 cd66 ct66
    | 67 => PySem.W.fnOf "_law_sorted" "_law_sorted" (defArgs s__law_sorted) (defBody s__law_sorted) (defScope s__law_sorted) .none kV67 dc67 pm67 an67 cd67 ct67
    | 68 => PySem.W.fnOf "_law_copies" "_law_copies" (defArgs s__law_copies) (defBody s__law_copies) (defScope s__law_copies) .none kV68 dc68 pm68 an68 cd68 ct68
    | 69 => PySem.W.fnOf "_law_fitting" "_law_fitting" (defArgs s__law_fitting) (defBody s__law_fitting) (defScope s__law_fitting) .none kV69 dc69 pm69 an69 cd69 ct69
    | 70 => PySem.W.fnOf "_law_first" "_law_first" (defArgs s__law_first) (defBody s__law_first) (defScope s__law_first) .none kV70 dc70 pm70 an70 cd70 ct70
    | 71 => PySem.W.fnOf "_law_mixed_rows" "_law_mixed_rows" (defArgs s__law_mixed_rows) (defBody s__law_mixed_rows) (defScope s__law_mixed_rows) .none kV71 dc71 pm71 an71 cd71 ct71
    | 72 => PySem.W.fnOf "_law_calls" "_law_calls" (defArgs s__law_calls) (defBody s__law_calls) (defScope s__law_calls) .none kV72 dc72 pm72 an72 cd72 ct72
    | 73 => PySem.W.fnOf "_law_chosen" "_law_chosen" (defArgs s__law_chosen) (defBody s__law_chosen) (defScope s__law_chosen) .none kV73 dc73 pm73 an73 cd73 ct73
    | 74 => PySem.W.fnOf "_law_holds" "_law_holds" (defArgs s__law_holds) (defBody s__law_holds) (defScope s__law_holds) .none kV74 dc74 pm74 an74 cd74 ct74
    | 75 => PySem.W.fnOf "_law_refused" "_law_refused" (defArgs s__law_refused) (defBody s__law_refused) (defScope s__law_refused) .none kV75 dc75 pm75 an75 cd75 ct75
    | 76 => PySem.W.fnOf "_law_refuses" "_law_refuses" (defArgs s__law_refuses) (defBody s__law_refuses) (defScope s__law_refuses) .none kV76 dc76 pm76 an76 cd76 ct76
    | 77 => PySem.W.fnOf "law" "law" (defArgs s_law) (defBody s_law) (defScope s_law) .none kV77 dc77 pm77 an77 cd77 ct77
    | 1300 => PySem.W.fnOf "__init__" "UnknownName.__init__" (defArgs s_UnknownName___init__) (defBody s_UnknownName___init__) (defScope s_UnknownName___init__) .none kV1300 dc1300 pm1300 an1300 cd1300 ct1300
    | 1800 => PySem.W.fnOf "__init__" "InvalidCall.__init__" (defArgs s_InvalidCall___init__) (defBody s_InvalidCall___init__) (defScope s_InvalidCall___init__) .none kV1800 dc1800 pm1800 an1800 cd1800 ct1800
    | 3500 => PySem.W.fnOf "__init__" "Answers.__init__" (defArgs s_Answers___init__) (defBody s_Answers___init__) (defScope s_Answers___init__) (.ref fT3500) kV3500 dc3500 pm3500 an3500 cd3500 ct3500
    | 3501 => PySem.W.fnOf "choices" "Answers.choices" (defArgs s_Answers_choices) (defBody s_Answers_choices) (defScope s_Answers_choices) .none kV3501 dc3501 pm3501 an3501 cd3501 ct3501
    | 3502 => PySem.W.fnOf "__call__" "Answers.__call__" (defArgs s_Answers___call__) (defBody s_Answers___call__) (defScope s_Answers___call__) .none kV3502 dc3502 pm3502 an3502 cd3502 ct3502
    | 5200 => PySem.W.fnOf "__init__" "Schema.__init__" (defArgs s_Schema___init__) (defBody s_Schema___init__) (defScope s_Schema___init__) .none kV5200 dc5200 pm5200 an5200 cd5200 ct5200
    | 5203 => PySem.W.fnOf "services" "Schema.services" (defArgs s_Schema_services) (defBody s_Schema_services) (defScope s_Schema_services) .none kV5203 dc5203 pm5203 an5203 cd5203 ct5203
    | 5204 => PySem.W.fnOf "__eq__" "Schema.__eq__" (defArgs s_Schema___eq__) (defBody s_Schema___eq__) (defScope s_Schema___eq__) .none kV5204 dc5204 pm5204 an5204 cd5204 ct5204
    | 5205 => PySem.W.fnOf "table_names" "Schema.table_names" (defArgs s_Schema_table_names) (defBody s_Schema_table_names) (defScope s_Schema_table_names) .none kV5205 dc5205 pm5205 an5205 cd5205 ct5205
    | 5208 => PySem.W.fnOf "width_of" "Schema.width_of" (defArgs s_Schema_width_of) (defBody s_Schema_width_of) (defScope s_Schema_width_of) .none kV5208 dc5208 pm5208 an5208 cd5208 ct5208
    | 5209 => PySem.W.fnOf "key_of" "Schema.key_of" (defArgs s_Schema_key_of) (defBody s_Schema_key_of) (defScope s_Schema_key_of) .none kV5209 dc5209 pm5209 an5209 cd5209 ct5209
    | 5210 => PySem.W.fnOf "service_of" "Schema.service_of" (defArgs s_Schema_service_of) (defBody s_Schema_service_of) (defScope s_Schema_service_of) .none kV5210 dc5210 pm5210 an5210 cd5210 ct5210
    | 5800 => PySem.W.fnOf "__init__" "Store.__init__" (defArgs s_Store___init__) (defBody s_Store___init__) (defScope s_Store___init__) .none kV5800 dc5800 pm5800 an5800 cd5800 ct5800
    | 5805 => PySem.W.fnOf "__eq__" "Store.__eq__" (defArgs s_Store___eq__) (defBody s_Store___eq__) (defScope s_Store___eq__) .none kV5805 dc5805 pm5805 an5805 cd5805 ct5805
    | 5808 => PySem.W.fnOf "fitting" "Store.fitting" (defArgs s_Store_fitting) (defBody s_Store_fitting) (defScope s_Store_fitting) .none kV5808 dc5808 pm5808 an5808 cd5808 ct5808
    | _ => PySem.W.fnOf "law" "law" (defArgs s_law) (defBody s_law) (defScope s_law) .none kV77 dc77 pm77 an77 cd77 ct77
  have T : Txt K mg aa dd := { F1300 := F1300, b1300 := b1300, F1800 := F1800, b1800 := b1800, F13 := F13, b13 := b13, g13 := PySem.W.mg_of X G a13, F14 := F14, b14 := b14, g14 := PySem.W.mg_of X G a14, F15 := F15, b15 := b15, g15 := PySem.W.mg_of X G a15, F16 := F16, b16 := b16, g16 := PySem.W.mg_of X G a16, F17 := F17, b17 := b17, g17 := PySem.W.mg_of X G a17, F18 := F18, b18 := b18, g18 := PySem.W.mg_of X G a18, F19 := F19, b19 := b19, g19 := PySem.W.mg_of X G a19, F31 := F31, b31 := b31, g31 := PySem.W.mg_of X G a31, F32 := F32, b32 := b32, g32 := PySem.W.mg_of X G a32, F33 := F33, b33 := b33, g33 := PySem.W.mg_of X G a33, F34 := F34, b34 := b34, g34 := PySem.W.mg_of X G a34, F35 := F35, b35 := b35, g35 := PySem.W.mg_of X G a35, F36 := F36, b36 := b36, g36 := PySem.W.mg_of X G a36, F37 := F37, b37 := b37, g37 := PySem.W.mg_of X G a37, F38 := F38, b38 := b38, g38 := PySem.W.mg_of X G a38, F39 := F39, b39 := b39, g39 := PySem.W.mg_of X G a39, F40 := F40, b40 := b40, g40 := PySem.W.mg_of X G a40, F41 := F41, b41 := b41, g41 := PySem.W.mg_of X G a41, F5200 := F5200, b5200 := b5200, F5203 := F5203, b5203 := b5203, F5204 := F5204, b5204 := b5204, F5205 := F5205, b5205 := b5205, F5208 := F5208, b5208 := b5208, F5209 := F5209, b5209 := b5209, F5210 := F5210, b5210 := b5210, F46 := F46, b46 := b46, g46 := PySem.W.mg_of X G a46, F47 := F47, b47 := b47, g47 := PySem.W.mg_of X G a47, F5800 := F5800, b5800 := b5800, F5805 := F5805, b5805 := b5805, F5808 := F5808, b5808 := b5808, F21 := F21, b21 := b21, g21 := PySem.W.mg_of X G a21, F22 := F22, b22 := b22, g22 := PySem.W.mg_of X G a22, F23 := F23, b23 := b23, g23 := PySem.W.mg_of X G a23, F24 := F24, b24 := b24, g24 := PySem.W.mg_of X G a24, e3500 := e3500, F3500 := F3500, b3500 := b3500, F3501 := F3501, b3501 := b3501, F3502 := F3502, b3502 := b3502, F50 := F50, b50 := b50, g50 := PySem.W.mg_of X G a50, F51 := F51, b51 := b51, g51 := PySem.W.mg_of X G a51, F52 := F52, b52 := b52, g52 := PySem.W.mg_of X G a52, F53 := F53, b53 := b53, g53 := PySem.W.mg_of X G a53, F61 := F61, b61 := b61, g61 := PySem.W.mg_of X G a61, F54 := F54, b54 := b54, g54 := PySem.W.mg_of X G a54, F55 := F55, b55 := b55, g55 := PySem.W.mg_of X G a55, F56 := F56, b56 := b56, g56 := PySem.W.mg_of X G a56, F57 := F57, b57 := b57, g57 := PySem.W.mg_of X G a57, F58 := F58, b58 := b58, g58 := PySem.W.mg_of X G a58, F59 := F59, b59 := b59, g59 := PySem.W.mg_of X G a59, F60 := F60, b60 := b60, g60 := PySem.W.mg_of X G a60, F63 := F63, b63 := b63, g63 := PySem.W.mg_of X G a63, F62 := F62, b62 := b62, g62 := PySem.W.mg_of X G a62, F64 := F64, b64 := b64, g64 := PySem.W.mg_of X G a64, F65 := F65, b65 := b65, g65 := PySem.W.mg_of X G a65, F66 := F66, b66 := b66, g66 := PySem.W.mg_of X G a66, F67 := F67, b67 := b67, g67 := PySem.W.mg_of X G a67, F68 := F68, b68 := b68, g68 := PySem.W.mg_of X G a68, F69 := F69, b69 := b69, g69 := PySem.W.mg_of X G a69, F70 := F70, b70 := b70, g70 := PySem.W.mg_of X G a70, F71 := F71, b71 := b71, g71 := PySem.W.mg_of X G a71, F72 := F72, b72 := b72, g72 := PySem.W.mg_of X G a72, F73 := F73, b73 := b73, g73 := PySem.W.mg_of X G a73, F74 := F74, b74 := b74, g74 := PySem.W.mg_of X G a74, F75 := F75, b75 := b75, g75 := PySem.W.mg_of X G a75, F76 := F76, b76 := b76, g76 := PySem.W.mg_of X G a76, F77 := F77, b77 := b77, g77 := PySem.W.mg_of X G a77, cg_2 := PySem.W.mg_of X G ac_2, x_2 := ⟨⟨_, _, _, _, _, _, _, _, _, _, _, _, _, _, _, xl_2, rfl⟩, xs_2, xe_2, xt_2, xk_2⟩, xf_2 := ⟨ya_2, yg_2, xe_2, yh_2⟩, xi_2 := ⟨ya_2, yg_2, xe_2, yh_2, za_2, zn_2, zt_2, zm_2⟩, cg_3 := PySem.W.mg_of X G ac_3, x_3 := ⟨⟨_, _, _, _, _, _, _, _, _, _, _, _, _, _, _, xl_3, rfl⟩, xs_3, xe_3, xt_3, xk_3⟩, xf_3 := ⟨ya_3, yg_3, xe_3, yh_3⟩, xi_3 := ⟨ya_3, yg_3, xe_3, yh_3, za_3, zn_3, zt_3, zm_3⟩, in_3 := fi_3, ti_3 := ty_3, no_3_name := na_3_name, cg_8 := PySem.W.mg_of X G ac_8, x_8 := ⟨⟨_, _, _, _, _, _, _, _, _, _, _, _, _, _, _, xl_8, rfl⟩, xs_8, xe_8, xt_8, xk_8⟩, xf_8 := ⟨ya_8, yg_8, xe_8, yh_8⟩, xi_8 := ⟨ya_8, yg_8, xe_8, yh_8, za_8, zn_8, zt_8, zm_8⟩, in_8 := fi_8, ti_8 := ty_8, no_8_service := na_8_service, cg_42 := PySem.W.mg_of X G ac_42, cl_42 := ⟨pg_42, hd_42, po_42, sa_42⟩, M_42 := ⟨mk_42, fi_42, is_5200, kc_42⟩, no_42__tables := na_42__tables, no_42__keys := na_42__keys, no_42__services := na_42__services, cg_48 := PySem.W.mg_of X G ac_48, cl_48 := ⟨pg_48, hd_48, po_48, sa_48⟩, M_48 := ⟨mk_48, fi_48, is_5800, kc_48⟩, no_48_schema := na_48_schema, no_48__rows := na_48__rows, no_48__fitting := na_48__fitting, cg_25 := PySem.W.mg_of X G ac_25, cl_25 := ⟨pg_25, hd_25, po_25, sa_25⟩, M_25 := ⟨mk_25, fi_25, is_3500, kc_25⟩, no_25_store := na_25_store, no_25_schema := na_25_schema, no_25__chosen := na_25__chosen, ic_42 := ⟨⟨pg_42, hd_42, po_42, sa_42⟩, oa_42, on_42, ot_42, om_42, kit_self _⟩, ic_48 := ⟨⟨pg_48, hd_48, po_48, sa_48⟩, oa_48, on_48, ot_48, om_48, kit_self _⟩, kit_3_2 := kit_ref yh_2 xt_2 es_3_2, kit_8_2 := kit_ref yh_2 xt_2 es_8_2, kif_3_8 := es_3_8, kif_8_3 := es_8_3, exm_3_3 := PySem.W.exm_ref xe_3 yh_3 xt_3 es_3_3, exm_8_8 := PySem.W.exm_ref xe_8 yh_8 xt_8 es_8_8, exf_8_3 := PySem.W.exm_ref xe_3 yh_3 xt_3 ef_8_3, p_5203 := ⟨pa_5203, pb_5203, pc_5203, ⟨_, pd_5203⟩⟩, m_5204 := ⟨ma_5204, mi_5204, k5204⟩, m_5205 := ⟨ma_5205, mi_5205, k5205⟩, m_5208 := ⟨ma_5208, mi_5208, k5208⟩, m_5209 := ⟨ma_5209, mi_5209, k5209⟩, m_5210 := ⟨ma_5210, mi_5210, k5210⟩, m_5805 := ⟨ma_5805, mi_5805, k5805⟩, m_5808 := ⟨ma_5808, mi_5808, k5808⟩, p_3501 := ⟨pa_3501, pb_3501, pc_3501, ⟨_, pd_3501⟩⟩, m_3502 := ⟨ma_3502, mi_3502, k3502⟩, sp_3502 := ⟨ma_3502, mi_3502, (show PySem.W.fnIn K f3502 = true by unfold PySem.W.fnIn; rw [l3502])⟩, z_abs := PySem.W.mg_none_of X G z_abs, z_all := PySem.W.mg_none_of X G z_all, z_bool := PySem.W.mg_none_of X G z_bool, z_dict := PySem.W.mg_none_of X G z_dict, z_enumerate := PySem.W.mg_none_of X G z_enumerate, z_int := PySem.W.mg_none_of X G z_int, z_isinstance := PySem.W.mg_none_of X G z_isinstance, z_len := PySem.W.mg_none_of X G z_len, z_list := PySem.W.mg_none_of X G z_list, z_min := PySem.W.mg_none_of X G z_min, z_range := PySem.W.mg_none_of X G z_range, z_sorted := PySem.W.mg_none_of X G z_sorted, z_str := PySem.W.mg_none_of X G z_str, z_sum := PySem.W.mg_none_of X G z_sum, z_tuple := PySem.W.mg_none_of X G z_tuple, c_LONGEST_WORD := ⟨_, PySem.W.mg_of X G v_LONGEST_WORD⟩, c_GREATEST_VALUE := ⟨_, PySem.W.mg_of X G v_GREATEST_VALUE⟩, c_MOST_TABLES := ⟨_, PySem.W.mg_of X G v_MOST_TABLES⟩, c_MOST_WIDTH := ⟨_, PySem.W.mg_of X G v_MOST_WIDTH⟩, c_MOST_SERVICES := ⟨_, PySem.W.mg_of X G v_MOST_SERVICES⟩, c_MOST_CAP := ⟨_, PySem.W.mg_of X G v_MOST_CAP⟩, c_MOST_ROWS := ⟨_, PySem.W.mg_of X G v_MOST_ROWS⟩ }
  exact ⟨_, fun s v => .of_eq rfl, fun base _ _ => ok_law T⟩
end My
open PySem PySem.W PyProof.Rows
set_option maxRecDepth 100000 in
set_option maxHeartbeats 0 in
theorem PySem.Challenge.cw_cappedcalls_k10_answers_of_calls_holds : PySem.Challenge.rw_cappedcalls_k10_answers_of_calls.Holds := by
  w_on; o_law; k_head; (case hw => w_witness2)
  k_fill
  refine L2.walk_of (l := PySem.Challenge.rw_cappedcalls_k10_answers_of_calls) (n := 63) (k := 10) (x := "_law_script") (CX := fun _ => L2.CX0) (sp := fun w => My.spLaw _) rfl (by decide) rfl ⟨rfl, by decide, by decide⟩ (fun w h Y => PySem.W.kIn_of Y) ?F (fun _ _ a ns hl _ hS => ⟨a, ns, rfl, hS, hl, fun _ => rfl⟩) (fun _ _ _ _ _ h => h)
  case F =>
    intro w mg fa h KX G hmg
    refine' My.all_mk KX G hmg ?ac_2 ?ac_3 ?ac_8 ?ac_42 ?ac_48 ?ac_25 ?fi_3 ?fi_8 ?fi_42 ?fi_48 ?fi_25 ?ma_5204 ?ma_5205 ?ma_5208 ?ma_5209 ?ma_5210 ?ma_5805 ?ma_5808 ?ma_3502 ?pa_5203 ?pa_3501 ?pd_5203 ?pd_3501 ?l1300 ?c1300 ?k1300 ?l1800 ?c1800 ?k1800 ?a13 ?l13 ?c13 ?k13 ?a14 ?l14 ?c14 ?k14 ?a15 ?l15 ?c15 ?k15 ?a16 ?l16 ?c16 ?k16 ?a17 ?l17 ?c17 ?k17 ?a18 ?l18 ?c18 ?k18 ?a19 ?l19 ?c19 ?k19 ?a31 ?l31 ?c31 ?k31 ?a32 ?l32 ?c32 ?k32 ?a33 ?l33 ?c33 ?k33 ?a34 ?l34 ?c34 ?k34 ?a35 ?l35 ?c35 ?k35 ?a36 ?l36 ?c36 ?k36 ?a37 ?l37 ?c37 ?k37 ?a38 ?l38 ?c38 ?k38 ?a39 ?l39 ?c39 ?k39 ?a40 ?l40 ?c40 ?k40 ?a41 ?l41 ?c41 ?k41 ?l5200 ?c5200 ?k5200 ?l5203 ?c5203 ?k5203 ?l5204 ?c5204 ?k5204 ?l5205 ?c5205 ?k5205 ?l5208 ?c5208 ?k5208 ?l5209 ?c5209 ?k5209 ?l5210 ?c5210 ?k5210 ?a46 ?l46 ?c46 ?k46 ?a47 ?l47 ?c47 ?k47 ?l5800 ?c5800 ?k5800 ?l5805 ?c5805 ?k5805 ?l5808 ?c5808 ?k5808 ?a21 ?l21 ?c21 ?k21 ?a22 ?l22 ?c22 ?k22 ?a23 ?l23 ?c23 ?k23 ?a24 ?l24 ?c24 ?k24 ?l3500 ?c3500 ?k3500 ?t3500 ?l3501 ?c3501 ?k3501 ?l3502 ?c3502 ?k3502 ?a50 ?l50 ?c50 ?k50 ?a51 ?l51 ?c51 ?k51 ?a52 ?l52 ?c52 ?k52 ?a53 ?l53 ?c53 ?k53 ?a61 ?l61 ?c61 ?k61 ?a54 ?l54 ?c54 ?k54 ?a55 ?l55 ?c55 ?k55 ?a56 ?l56 ?c56 ?k56 ?a57 ?l57 ?c57 ?k57 ?a58 ?l58 ?c58 ?k58 ?a59 ?l59 ?c59 ?k59 ?a60 ?l60 ?c60 ?k60 ?a63 ?l63 ?c63 ?k63 ?a62 ?l62 ?c62 ?k62 ?a64 ?l64 ?c64 ?k64 ?a65 ?l65 ?c65 ?k65 ?a66 ?l66 ?c66 ?k66 ?a67 ?l67 ?c67 ?k67 ?a68 ?l68 ?c68 ?k68 ?a69 ?l69 ?c69 ?k69 ?a70 ?l70 ?c70 ?k70 ?a71 ?l71 ?c71 ?k71 ?a72 ?l72 ?c72 ?k72 ?a73 ?l73 ?c73 ?k73 ?a74 ?l74 ?c74 ?k74 ?a75 ?l75 ?c75 ?k75 ?a76 ?l76 ?c76 ?k76 ?a77 ?l77 ?c77 ?k77 ?xl_2 ?xs_2 ?xe_2 ?xt_2 ?xk_2 ?ya_2 ?yg_2 ?yh_2 ?za_2 ?zn_2 ?zt_2 ?zm_2 ?xl_3 ?xs_3 ?xe_3 ?xt_3 ?xk_3 ?ya_3 ?yg_3 ?yh_3 ?za_3 ?zn_3 ?zt_3 ?zm_3 ?ty_3 ?na_3_name ?xl_8 ?xs_8 ?xe_8 ?xt_8 ?xk_8 ?ya_8 ?yg_8 ?yh_8 ?za_8 ?zn_8 ?zt_8 ?zm_8 ?ty_8 ?na_8_service ?pg_42 ?hd_42 ?po_42 ?sa_42 ?mk_42 ?is_5200 ?kc_42 ?na_42__tables ?na_42__keys ?na_42__services ?pg_48 ?hd_48 ?po_48 ?sa_48 ?mk_48 ?is_5800 ?kc_48 ?na_48_schema ?na_48__rows ?na_48__fitting ?pg_25 ?hd_25 ?po_25 ?sa_25 ?mk_25 ?is_3500 ?kc_25 ?na_25_store ?na_25_schema ?na_25__chosen ?oa_42 ?on_42 ?ot_42 ?om_42 ?oa_48 ?on_48 ?ot_48 ?om_48 ?es_3_2 ?es_8_2 ?es_3_8 ?es_8_3 ?es_3_3 ?es_8_8 ?ef_8_3 ?pb_5203 ?pc_5203 ?mi_5204 ?mi_5205 ?mi_5208 ?mi_5209 ?mi_5210 ?mi_5805 ?mi_5808 ?pb_3501 ?pc_3501 ?mi_3502 ?z_abs ?z_all ?z_bool ?z_dict ?z_enumerate ?z_int ?z_isinstance ?z_len ?z_list ?z_min ?z_range ?z_sorted ?z_str ?z_sum ?z_tuple ?v_LONGEST_WORD ?v_GREATEST_VALUE ?v_MOST_TABLES ?v_MOST_WIDTH ?v_MOST_SERVICES ?v_MOST_CAP ?v_MOST_ROWS
    (case ac_2 => k_is)
    (case ac_3 => k_is)
    (case ac_8 => k_is)
    (case ac_42 => k_is)
    (case ac_48 => k_is)
    (case ac_25 => k_is)
    (case fi_3 => k_is)
    (case fi_8 => k_is)
    (case fi_42 => k_is)
    (case fi_48 => k_is)
    (case fi_25 => k_is)
    (case ma_5204 => k_is)
    (case ma_5205 => k_is)
    (case ma_5208 => k_is)
    (case ma_5209 => k_is)
    (case ma_5210 => k_is)
    (case ma_5805 => k_is)
    (case ma_5808 => k_is)
    (case ma_3502 => k_is)
    (case pa_5203 => k_is)
    (case pa_3501 => k_is)
    (case pd_5203 => k_is)
    (case pd_3501 => k_is)
    (case l1300 => k_is)
    (case c1300 => k_is)
    (case k1300 => k_is)
    (case l1800 => k_is)
    (case c1800 => k_is)
    (case k1800 => k_is)
    (case a13 => k_is)
    (case l13 => k_is)
    (case c13 => k_is)
    (case k13 => k_is)
    (case a14 => k_is)
    (case l14 => k_is)
    (case c14 => k_is)
    (case k14 => k_is)
    (case a15 => k_is)
    (case l15 => k_is)
    (case c15 => k_is)
    (case k15 => k_is)
    (case a16 => k_is)
    (case l16 => k_is)
    (case c16 => k_is)
    (case k16 => k_is)
    (case a17 => k_is)
    (case l17 => k_is)
    (case c17 => k_is)
    (case k17 => k_is)
    (case a18 => k_is)
    (case l18 => k_is)
    (case c18 => k_is)
    (case k18 => k_is)
    (case a19 => k_is)
    (case l19 => k_is)
    (case c19 => k_is)
    (case k19 => k_is)
    (case a31 => k_is)
    (case l31 => k_is)
    (case c31 => k_is)
    (case k31 => k_is)
    (case a32 => k_is)
    (case l32 => k_is)
    (case c32 => k_is)
    (case k32 => k_is)
    (case a33 => k_is)
    (case l33 => k_is)
    (case c33 => k_is)
    (case k33 => k_is)
    (case a34 => k_is)
    (case l34 => k_is)
    (case c34 => k_is)
    (case k34 => k_is)
    (case a35 => k_is)
    (case l35 => k_is)
    (case c35 => k_is)
    (case k35 => k_is)
    (case a36 => k_is)
    (case l36 => k_is)
    (case c36 => k_is)
    (case k36 => k_is)
    (case a37 => k_is)
    (case l37 => k_is)
    (case c37 => k_is)
    (case k37 => k_is)
    (case a38 => k_is)
    (case l38 => k_is)
    (case c38 => k_is)
    (case k38 => k_is)
    (case a39 => k_is)
    (case l39 => k_is)
    (case c39 => k_is)
    (case k39 => k_is)
    (case a40 => k_is)
    (case l40 => k_is)
    (case c40 => k_is)
    (case k40 => k_is)
    (case a41 => k_is)
    (case l41 => k_is)
    (case c41 => k_is)
    (case k41 => k_is)
    (case l5200 => k_is)
    (case c5200 => k_is)
    (case k5200 => k_is)
    (case l5203 => k_is)
    (case c5203 => k_is)
    (case k5203 => k_is)
    (case l5204 => k_is)
    (case c5204 => k_is)
    (case k5204 => k_is)
    (case l5205 => k_is)
    (case c5205 => k_is)
    (case k5205 => k_is)
    (case l5208 => k_is)
    (case c5208 => k_is)
    (case k5208 => k_is)
    (case l5209 => k_is)
    (case c5209 => k_is)
    (case k5209 => k_is)
    (case l5210 => k_is)
    (case c5210 => k_is)
    (case k5210 => k_is)
    (case a46 => k_is)
    (case l46 => k_is)
    (case c46 => k_is)
    (case k46 => k_is)
    (case a47 => k_is)
    (case l47 => k_is)
    (case c47 => k_is)
    (case k47 => k_is)
    (case l5800 => k_is)
    (case c5800 => k_is)
    (case k5800 => k_is)
    (case l5805 => k_is)
    (case c5805 => k_is)
    (case k5805 => k_is)
    (case l5808 => k_is)
    (case c5808 => k_is)
    (case k5808 => k_is)
    (case a21 => k_is)
    (case l21 => k_is)
    (case c21 => k_is)
    (case k21 => k_is)
    (case a22 => k_is)
    (case l22 => k_is)
    (case c22 => k_is)
    (case k22 => k_is)
    (case a23 => k_is)
    (case l23 => k_is)
    (case c23 => k_is)
    (case k23 => k_is)
    (case a24 => k_is)
    (case l24 => k_is)
    (case c24 => k_is)
    (case k24 => k_is)
    (case l3500 => k_is)
    (case c3500 => k_is)
    (case k3500 => k_is)
    (case t3500 => k_is)
    (case l3501 => k_is)
    (case c3501 => k_is)
    (case k3501 => k_is)
    (case l3502 => k_is)
    (case c3502 => k_is)
    (case k3502 => k_is)
    (case a50 => k_is)
    (case l50 => k_is)
    (case c50 => k_is)
    (case k50 => k_is)
    (case a51 => k_is)
    (case l51 => k_is)
    (case c51 => k_is)
    (case k51 => k_is)
    (case a52 => k_is)
    (case l52 => k_is)
    (case c52 => k_is)
    (case k52 => k_is)
    (case a53 => k_is)
    (case l53 => k_is)
    (case c53 => k_is)
    (case k53 => k_is)
    (case a61 => k_is)
    (case l61 => k_is)
    (case c61 => k_is)
    (case k61 => k_is)
    (case a54 => k_is)
    (case l54 => k_is)
    (case c54 => k_is)
    (case k54 => k_is)
    (case a55 => k_is)
    (case l55 => k_is)
    (case c55 => k_is)
    (case k55 => k_is)
    (case a56 => k_is)
    (case l56 => k_is)
    (case c56 => k_is)
    (case k56 => k_is)
    (case a57 => k_is)
    (case l57 => k_is)
    (case c57 => k_is)
    (case k57 => k_is)
    (case a58 => k_is)
    (case l58 => k_is)
    (case c58 => k_is)
    (case k58 => k_is)
    (case a59 => k_is)
    (case l59 => k_is)
    (case c59 => k_is)
    (case k59 => k_is)
    (case a60 => k_is)
    (case l60 => k_is)
    (case c60 => k_is)
    (case k60 => k_is)
    (case a63 => k_is)
    (case l63 => k_is)
    (case c63 => k_is)
    (case k63 => k_is)
    (case a62 => k_is)
    (case l62 => k_is)
    (case c62 => k_is)
    (case k62 => k_is)
    (case a64 => k_is)
    (case l64 => k_is)
    (case c64 => k_is)
    (case k64 => k_is)
    (case a65 => k_is)
    (case l65 => k_is)
    (case c65 => k_is)
    (case k65 => k_is)
    (case a66 => k_is)
    (case l66 => k_is)
    (case c66 => k_is)
    (case k66 => k_is)
    (case a67 => k_is)
    (case l67 => k_is)
    (case c67 => k_is)
    (case k67 => k_is)
    (case a68 => k_is)
    (case l68 => k_is)
    (case c68 => k_is)
    (case k68 => k_is)
    (case a69 => k_is)
    (case l69 => k_is)
    (case c69 => k_is)
    (case k69 => k_is)
    (case a70 => k_is)
    (case l70 => k_is)
    (case c70 => k_is)
    (case k70 => k_is)
    (case a71 => k_is)
    (case l71 => k_is)
    (case c71 => k_is)
    (case k71 => k_is)
    (case a72 => k_is)
    (case l72 => k_is)
    (case c72 => k_is)
    (case k72 => k_is)
    (case a73 => k_is)
    (case l73 => k_is)
    (case c73 => k_is)
    (case k73 => k_is)
    (case a74 => k_is)
    (case l74 => k_is)
    (case c74 => k_is)
    (case k74 => k_is)
    (case a75 => k_is)
    (case l75 => k_is)
    (case c75 => k_is)
    (case k75 => k_is)
    (case a76 => k_is)
    (case l76 => k_is)
    (case c76 => k_is)
    (case k76 => k_is)
    (case a77 => k_is)
    (case l77 => k_is)
    (case c77 => k_is)
    (case k77 => k_is)
    (case xl_2 => k_is)
    (case xs_2 => k_is)
    (case xe_2 => k_is)
    (case xt_2 => k_is)
    (case xk_2 => k_is)
    (case ya_2 => k_is)
    (case yg_2 => k_is)
    (case yh_2 => k_is)
    (case za_2 => k_is)
    (case zn_2 => k_is)
    (case zt_2 => k_is)
    (case zm_2 => k_is)
    (case xl_3 => k_is)
    (case xs_3 => k_is)
    (case xe_3 => k_is)
    (case xt_3 => k_is)
    (case xk_3 => k_is)
    (case ya_3 => k_is)
    (case yg_3 => k_is)
    (case yh_3 => k_is)
    (case za_3 => k_is)
    (case zn_3 => k_is)
    (case zt_3 => k_is)
    (case zm_3 => k_is)
    (case ty_3 => k_is)
    (case na_3_name => k_is)
    (case xl_8 => k_is)
    (case xs_8 => k_is)
    (case xe_8 => k_is)
    (case xt_8 => k_is)
    (case xk_8 => k_is)
    (case ya_8 => k_is)
    (case yg_8 => k_is)
    (case yh_8 => k_is)
    (case za_8 => k_is)
    (case zn_8 => k_is)
    (case zt_8 => k_is)
    (case zm_8 => k_is)
    (case ty_8 => k_is)
    (case na_8_service => k_is)
    (case pg_42 => k_is)
    (case hd_42 => k_is)
    (case po_42 => k_is)
    (case sa_42 => k_is)
    (case mk_42 => k_is)
    (case is_5200 => k_is)
    (case kc_42 => k_is)
    (case na_42__tables => k_is)
    (case na_42__keys => k_is)
    (case na_42__services => k_is)
    (case pg_48 => k_is)
    (case hd_48 => k_is)
    (case po_48 => k_is)
    (case sa_48 => k_is)
    (case mk_48 => k_is)
    (case is_5800 => k_is)
    (case kc_48 => k_is)
    (case na_48_schema => k_is)
    (case na_48__rows => k_is)
    (case na_48__fitting => k_is)
    (case pg_25 => k_is)
    (case hd_25 => k_is)
    (case po_25 => k_is)
    (case sa_25 => k_is)
    (case mk_25 => k_is)
    (case is_3500 => k_is)
    (case kc_25 => k_is)
    (case na_25_store => k_is)
    (case na_25_schema => k_is)
    (case na_25__chosen => k_is)
    (case oa_42 => k_is)
    (case on_42 => k_is)
    (case ot_42 => k_is)
    (case om_42 => k_is)
    (case oa_48 => k_is)
    (case on_48 => k_is)
    (case ot_48 => k_is)
    (case om_48 => k_is)
    (case es_3_2 => first | rfl | k_is)
    (case es_8_2 => first | rfl | k_is)
    (case es_3_8 => first | rfl | k_is)
    (case es_8_3 => first | rfl | k_is)
    (case es_3_3 => first | rfl | k_is)
    (case es_8_8 => first | rfl | k_is)
    (case ef_8_3 => k_is)
    (case pb_5203 => k_is)
    (case pc_5203 => k_is)
    (case mi_5204 => k_is)
    (case mi_5205 => k_is)
    (case mi_5208 => k_is)
    (case mi_5209 => k_is)
    (case mi_5210 => k_is)
    (case mi_5805 => k_is)
    (case mi_5808 => k_is)
    (case pb_3501 => k_is)
    (case pc_3501 => k_is)
    (case mi_3502 => k_is)
    (case z_abs => k_is)
    (case z_all => k_is)
    (case z_bool => k_is)
    (case z_dict => k_is)
    (case z_enumerate => k_is)
    (case z_int => k_is)
    (case z_isinstance => k_is)
    (case z_len => k_is)
    (case z_list => k_is)
    (case z_min => k_is)
    (case z_range => k_is)
    (case z_sorted => k_is)
    (case z_str => k_is)
    (case z_sum => k_is)
    (case z_tuple => k_is)
    (case v_LONGEST_WORD => k_is)
    (case v_GREATEST_VALUE => k_is)
    (case v_MOST_TABLES => k_is)
    (case v_MOST_WIDTH => k_is)
    (case v_MOST_SERVICES => k_is)
    (case v_MOST_CAP => k_is)
    (case v_MOST_ROWS => k_is)

