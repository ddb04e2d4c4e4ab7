import PyProof.Rows.All
import Wide.All
import OpenK.AllK
import Wide.FinOn
import HandS.ForMost
import HandS.IsInst
import HandS.Wide
import HandS.Evl
import HandS.DictComp
import HandS.Conv
import HandS.More
import HandS.Deep
import HandS.ForExc
import HandS.ExcInit
import HandS.ExcField
import HandS.ExcIs
import HandS.Property
import KE.KExcIs
import HandS.NoneIn
import HandS.DeepEq
import HandS.Finally
import HandS.CallSlots
import HandS.Walk
import HandS.DictTup
import HandS.Iter
import HandS.TupLen
import PyProof.DictMoreH
import HandS.Rev
import HandS.Codes
import KE.DataCmp
import KE.SortKeyHeap
import HandS.SortKw
import KE.KEqNest
import HandS.DictEq
import HandS.TupAny
import HandS.Conv
import KE.KeyNested
import KE.KDictKeyed
import KE.KCallOwn
import HandS.Defaults
import PySem.Challenge.RW_cappedcalls_k13_programs_refused
set_option Elab.async false
set_option linter.all false
set_option maxRecDepth 100000
set_option maxHeartbeats 4000000
namespace SK
open PySem PySem.SeqAt PySem.W PySem.Calls PyProof.Rows
/-! ### one tuple below another: only the first place that differs has to be asked -/
theorem tup_lt1 (l b : Addr) (us ws : Array Value) (n1 n2 : Nat) (d1 d2 : Option Addr) (t1 t2 : Array (Option Value)) (e r : Nat → Bool) :
    Meets (Builtin.«tuple.__lt__» ⟨[.ref l, .ref b], []⟩) (fun A R s =>
      (s.heap.get? l = some { cls := .type "tuple", dict := d1, data := .seq us n1, slots := t1 } ∧ s.heap.get? b = some { cls := .type "tuple", dict := d2, data := .seq ws n2, slots := t2 }) ∧
      (∀ j (x1 : j < us.size) (x2 : j < ws.size), EqAt A.in1 s us[j] ws[j] (e j)) ∧
      (∀ j (x1 : j < us.size) (x2 : j < ws.size), (∀ k, k < j → e k = true) → e j = false → RcLt A.in1 s us[j] ws[j] (r j)) ∧
      R (.ok (.ret (.bool (firstLt e r (decide (us.size < ws.size)) (List.range (min us.size ws.size)))))) s) := by
  refine .of_wp fun prog w A R s h => ?_
  obtain ⟨hp, g, d, tk, os⟩ := s
  obtain ⟨⟨hl, hb⟩, he, hr, h⟩ := h
  have sub := AutoSeq1.sub_tuple_tuple
  have len : (us.toList.zip ws.toList).length = min us.size ws.size := by simp
  wp_walk using wpAny_loadPart' hl, wpAny_loadPart' hb, wpAny_forIn_list _ (fun left b s' => (b.1 = none ∧ s' = ⟨hp, g, d, tk, os⟩) ∧ ∃ i, (left = (us.toList.zip ws.toList).drop i ∧ ∀ k, k < i → e k = true) ∧
    R (.ok (.ret (.bool (firstLt e r (decide (us.size < ws.size)) ((List.range (min us.size ws.size)).drop i))))) ⟨hp, g, d, tk, os⟩) _
  case turn =>
    rintro ⟨y, x⟩ left b s' ⟨⟨b0, rfl⟩, i, ⟨hz, hk⟩, hR⟩
    have lt : i < (us.toList.zip ws.toList).length := by
      refine Nat.lt_of_not_le fun q => ?_
      rw [List.drop_of_length_le q] at hz
      cases hz
    have lm : i < min us.size ws.size := by omega
    have x1 : i < us.size := by omega
    have x2 : i < ws.size := by omega
    rw [List.drop_eq_getElem_cons lt] at hz
    injection hz with z1 z2
    have ey : y = us[i] := by simpa using congrArg Prod.fst z1
    have ex : x = ws[i] := by simpa using congrArg Prod.snd z1
    subst ey ex
    rw [show (List.range (min us.size ws.size)).drop i = i :: (List.range (min us.size ws.size)).drop (i + 1) by simp [List.drop_eq_getElem_cons, lm]] at hR
    refine wpAny_bind (he i x1 x2 prog w _ _ ?_)
    cases q : e i with
    | true =>
      rw [firstLt_yes q] at hR
      wp_walk
      exact ⟨⟨rfl, rfl⟩, i + 1, ⟨z2, fun k hki => by
        rcases Nat.lt_succ_iff_lt_or_eq.mp hki with h | h
        · exact hk k h
        · rw [h]
          exact q⟩, hR⟩
    | false =>
      rw [firstLt_no q] at hR
      have hr' : ∀ (E Q : Value → Shared → Prop), Q (.bool (r i)) ⟨hp, g, d, tk, os⟩ → wpAny (model prog w) A.in1 (richCompare .Lt us[i] ws[i]) Q E ⟨hp, g, d, tk, os⟩ := fun E Q => hr i x1 x2 hk q prog w E Q
      generalize richCompare .Lt us[i] ws[i] = m at hr' ⊢
      wp_walk
      refine hr' _ _ ?_
      wp_walk
      exact ⟨_, rfl, hR⟩
  case fin =>
    rintro ⟨b1, b2⟩ s' ⟨⟨b0, rfl⟩, i, ⟨hz, _⟩, hR⟩
    simp only at b0
    subst b0
    have ge : min us.size ws.size ≤ i := by
      refine Nat.le_of_not_lt fun q => ?_
      rw [← len] at q
      rw [List.drop_eq_getElem_cons q] at hz
      cases hz
    rw [List.drop_of_length_le (by simpa using ge)] at hR
    wp_walk
    exact ⟨_, rfl, by simpa [Builtin.Tuple.tupleCompareSizes, firstLt] using hR⟩
  case h => exact ⟨⟨rfl, rfl⟩, 0, ⟨rfl, fun k hk => absurd hk (Nat.not_lt_zero k)⟩, by simpa using h⟩
section
variable {A : Around} {s : Shared}
theorem rc_tups {l b : Addr} {us ws : Array Value} {e r : Nat → Bool} (hl : s.heap.IsTuple l us) (hb : s.heap.IsTuple b ws) (hu : A.units < cLine)
    (he : ∀ j (x1 : j < us.size) (x2 : j < ws.size), EqAt A.in1 s us[j] ws[j] (e j)) (hr : ∀ j (x1 : j < us.size) (x2 : j < ws.size), (∀ k, k < j → e k = true) → e j = false → RcLt A.in1 s us[j] ws[j] (r j)) :
    RcLt A s (.ref l) (.ref b) (firstLt e r (decide (us.size < ws.size)) (List.range (min us.size ws.size))) := fun prog w E Q h => by
  obtain ⟨⟨c1, d1, x1, t1⟩, o1, h1, n1, k1⟩ := id hl
  obtain ⟨⟨c2, d2, x2, t2⟩, o2, h2, n2, k2⟩ := id hb
  simp only at h1 k1 h2 k2
  subst h1 k1 h2 k2
  exact richCompare_meets_room (op := .Lt) ⟨_, o1, rfl⟩ ⟨_, o2, rfl⟩ F.slot_tuple_lt F.entry_tuple_lt (F.args_tuple_lt_2 _ _) (tup_lt1 l b us ws n1 n2 d1 d2 t1 t2 e r) ⟨⟨o1, o2⟩, he, hr, (fun z => nomatch z), h⟩ hu
theorem call_tups {prog : Program} {w : World} {E Q : Value → Shared → Prop} {l b : Addr} {us ws : Array Value} {e r : Nat → Bool} (hl : s.heap.IsTuple l us) (hb : s.heap.IsTuple b ws)
    (he : ∀ j (x1 : j < us.size) (x2 : j < ws.size), EqAt A.in1 s us[j] ws[j] (e j)) (hr : ∀ j (x1 : j < us.size) (x2 : j < ws.size), (∀ k, k < j → e k = true) → e j = false → RcLt A.in1 s us[j] ws[j] (r j))
    (h : Q (.bool (firstLt e r (decide (us.size < ws.size)) (List.range (min us.size ws.size)))) s) : wpAny (model prog w) A (call (.builtin "tuple.__lt__") [.ref l, .ref b]) Q E s := by
  obtain ⟨⟨c1, d1, x1, t1⟩, o1, h1, n1, k1⟩ := id hl
  obtain ⟨⟨c2, d2, x2, t2⟩, o2, h2, n2, k2⟩ := id hb
  simp only at h1 k1 h2 k2
  subst h1 k1 h2 k2
  exact call_meets F.slot_tuple_lt ⟨_, o1, rfl⟩ F.entry_tuple_lt (F.args_tuple_lt_2 _ _) (tup_lt1 l b us ws n1 n2 d1 d2 t1 t2 e r) ⟨⟨o1, o2⟩, he, hr, h⟩
end
/-! ### data that can be asked for their order -/
mutual
def okLt : PyData → PyData → Bool
  | .bool _, .bool _ => true
  | .int _, .int _ => true
  | .str _, .str _ => true
  | .tuple xs, .tuple ys => okAll xs ys
  | _, _ => false
def okAll : List PyData → List PyData → Bool
  | x :: xs, y :: ys => if PyData.eqv x y = true then okAll xs ys else okLt x y
  | [], _ => true
  | _ :: _, [] => true
end
mutual
def ltD : PyData → PyData → Bool
  | .bool a, .bool b => decide (b2i a < b2i b)
  | .int a, .int b => decide (a < b)
  | .str x, .str y => decide (x.cps.toList < y.cps.toList)
  | .tuple xs, .tuple ys => ltAll xs ys
  | _, _ => false
def ltAll : List PyData → List PyData → Bool
  | x :: xs, y :: ys => if PyData.eqv x y = true then ltAll xs ys else ltD x y
  | [], _ :: _ => true
  | [], [] => false
  | _ :: _, [] => false
end
theorem okAll_at : ∀ (xs ys : List PyData) (j : Nat), okAll xs ys = true → (∀ k, k < j → pairEq xs ys k = true) → pairEq xs ys j = false → j < xs.length → j < ys.length → okLt (xs.getD j .none) (ys.getD j .none) = true
  | [], _, _, _, _, _, h, _ => absurd h (Nat.not_lt_zero _)
  | _ :: _, [], _, _, _, _, _, h => absurd h (Nat.not_lt_zero _)
  | x :: xs, y :: ys, 0, h, _, q, _, _ => by
    have q' : PyData.eqv x y = false := q
    simp only [okAll, q', Bool.false_eq_true, if_false] at h
    exact h
  | x :: xs, y :: ys, j + 1, h, hk, q, h1, h2 => by
    have q' : PyData.eqv x y = true := hk 0 (Nat.succ_pos j)
    simp only [okAll, q', if_true] at h
    exact okAll_at xs ys j h (fun k hkj => hk (k + 1) (Nat.succ_lt_succ hkj)) q (Nat.lt_of_succ_lt_succ h1) (Nat.lt_of_succ_lt_succ h2)
theorem first_all : ∀ (xs ys : List PyData), firstLt (pairEq xs ys) (fun j => ltD (xs.getD j .none) (ys.getD j .none)) (decide (xs.length < ys.length)) (List.range (min xs.length ys.length)) = ltAll xs ys
  | [], [] => rfl
  | [], _ :: _ => by simp [firstLt, ltAll]
  | _ :: _, [] => by simp [firstLt, ltAll]
  | x :: xs, y :: ys => by
    have ih := first_all xs ys
    rw [show min (x :: xs).length (y :: ys).length = min xs.length ys.length + 1 by rw [List.length_cons, List.length_cons]; omega,
      show decide ((x :: xs).length < (y :: ys).length) = decide (xs.length < ys.length) by rw [List.length_cons, List.length_cons]; exact decide_eq_decide.mpr (by omega), List.range_succ_eq_map]
    cases q : PyData.eqv x y with
    | true =>
      rw [firstLt_yes (show pairEq (x :: xs) (y :: ys) 0 = true from q), firstLt_map]
      simp only [ltAll, q, if_true]
      exact ih
    | false =>
      rw [firstLt_no (show pairEq (x :: xs) (y :: ys) 0 = false from q)]
      simp only [ltAll, q, Bool.false_eq_true, if_false]
      rfl
mutual
theorem rc_ok : ∀ (da db : PyData) (A : Around) (s : Shared) (a b : Value) (as bs : List Addr), Reads s.heap a da as → Reads s.heap b db bs → da.canLay0 = true → db.canLay0 = true → okLt da db = true → A.units + min da.depth db.depth < cLine → RcLt A s a b (ltD da db)
  | .bool x, .bool y, A, s, a, b, as, bs, ra, rb, _, _, _, _ => by
    cases ra
    cases rb
    exact fun prog w E Q hq => lt_bool hq
  | .int x, .int y, A, s, a, b, as, bs, ra, rb, _, _, _, _ => by
    cases ra
    cases rb
    exact fun prog w E Q hq => P.lt_int hq
  | .str x, .str y, A, s, a, b, as, bs, ra, rb, _, _, _, _ => by
    cases ra
    cases rb
    exact fun prog w E Q hq => P.lt_str hq
  | .tuple xs, .tuple ys, A, s, a, b, as, bs, ra, rb, la, lb, h, hu => by
    have hok : okAll xs ys = true := by simpa [okLt] using h
    have la' : PyData.canLayAll0 xs = true := by simpa [PyData.canLay0] using la
    have lb' : PyData.canLayAll0 ys = true := by simpa [PyData.canLay0] using lb
    cases ra with
    | @tuple l o us n _ as₁ h1 h2 h3 h4 =>
      cases rb with
      | @tuple l' o' ws n' _ bs₁ k1 k2 k3 k4 =>
        have n1 : us.size = xs.length := by simpa using ReadsAll.length _ _ _ h4
        have n2 : ws.size = ys.length := by simpa using ReadsAll.length _ _ _ k4
        show RcLt A s (.ref l) (.ref l') (ltAll xs ys)
        rw [← first_all xs ys, ← n1, ← n2]
        refine rc_tups ⟨_, h1, h2, _, h3⟩ ⟨_, k1, k2, _, k3⟩ (room_here hu) (fun j j1 j2 => ?_) fun j j1 j2 hk hj => ?_
        · have := eqAt_readsAll xs ys A.in1 s us.toList ws.toList _ _ h4 k4 la' lb' (room_in hu) j (by simpa using j1) (by simpa using j2)
          simpa using this
        · have := rc_okAll xs ys A.in1 s us.toList ws.toList _ _ h4 k4 la' lb' (room_in hu) j (by simpa using j1) (by simpa using j2) (okAll_at xs ys j hok hk hj (by omega) (by omega))
          simpa using this
  | .none, _, _, _, _, _, _, _, _, _, _, _, h, _ => absurd h (by simp [okLt])
  | .list _, _, _, _, _, _, _, _, _, _, _, _, h, _ => absurd h (by simp [okLt])
  | .dict _, _, _, _, _, _, _, _, _, _, _, _, h, _ => absurd h (by simp [okLt])
  | .bool _, .none, _, _, _, _, _, _, _, _, _, _, h, _ => absurd h (by simp [okLt])
  | .bool _, .int _, _, _, _, _, _, _, _, _, _, _, h, _ => absurd h (by simp [okLt])
  | .bool _, .str _, _, _, _, _, _, _, _, _, _, _, h, _ => absurd h (by simp [okLt])
  | .bool _, .list _, _, _, _, _, _, _, _, _, _, _, h, _ => absurd h (by simp [okLt])
  | .bool _, .tuple _, _, _, _, _, _, _, _, _, _, _, h, _ => absurd h (by simp [okLt])
  | .bool _, .dict _, _, _, _, _, _, _, _, _, _, _, h, _ => absurd h (by simp [okLt])
  | .int _, .none, _, _, _, _, _, _, _, _, _, _, h, _ => absurd h (by simp [okLt])
  | .int _, .bool _, _, _, _, _, _, _, _, _, _, _, h, _ => absurd h (by simp [okLt])
  | .int _, .str _, _, _, _, _, _, _, _, _, _, _, h, _ => absurd h (by simp [okLt])
  | .int _, .list _, _, _, _, _, _, _, _, _, _, _, h, _ => absurd h (by simp [okLt])
  | .int _, .tuple _, _, _, _, _, _, _, _, _, _, _, h, _ => absurd h (by simp [okLt])
  | .int _, .dict _, _, _, _, _, _, _, _, _, _, _, h, _ => absurd h (by simp [okLt])
  | .str _, .none, _, _, _, _, _, _, _, _, _, _, h, _ => absurd h (by simp [okLt])
  | .str _, .bool _, _, _, _, _, _, _, _, _, _, _, h, _ => absurd h (by simp [okLt])
  | .str _, .int _, _, _, _, _, _, _, _, _, _, _, h, _ => absurd h (by simp [okLt])
  | .str _, .list _, _, _, _, _, _, _, _, _, _, _, h, _ => absurd h (by simp [okLt])
  | .str _, .tuple _, _, _, _, _, _, _, _, _, _, _, h, _ => absurd h (by simp [okLt])
  | .str _, .dict _, _, _, _, _, _, _, _, _, _, _, h, _ => absurd h (by simp [okLt])
  | .tuple _, .none, _, _, _, _, _, _, _, _, _, _, h, _ => absurd h (by simp [okLt])
  | .tuple _, .bool _, _, _, _, _, _, _, _, _, _, _, h, _ => absurd h (by simp [okLt])
  | .tuple _, .int _, _, _, _, _, _, _, _, _, _, _, h, _ => absurd h (by simp [okLt])
  | .tuple _, .str _, _, _, _, _, _, _, _, _, _, _, h, _ => absurd h (by simp [okLt])
  | .tuple _, .list _, _, _, _, _, _, _, _, _, _, _, h, _ => absurd h (by simp [okLt])
  | .tuple _, .dict _, _, _, _, _, _, _, _, _, _, _, h, _ => absurd h (by simp [okLt])
theorem rc_okAll : ∀ (xs ys : List PyData) (A : Around) (s : Shared) (vs ws : List Value) (as bs : List Addr), ReadsAll s.heap vs xs as → ReadsAll s.heap ws ys bs → PyData.canLayAll0 xs = true → PyData.canLayAll0 ys = true → A.units + min (PyData.depthAll xs) (PyData.depthAll ys) < cLine →
    ∀ j (h1 : j < vs.length) (h2 : j < ws.length), okLt (xs.getD j .none) (ys.getD j .none) = true → RcLt A s vs[j] ws[j] (ltD (xs.getD j .none) (ys.getD j .none))
  | [], _, _, _, _, _, _, _, ra, _, _, _, _, j, h1, _, _ => by
    cases ra
    exact absurd h1 (Nat.not_lt_zero _)
  | _ :: _, [], _, _, _, _, _, _, _, rb, _, _, _, j, _, h2, _ => by
    cases rb
    exact absurd h2 (Nat.not_lt_zero _)
  | x :: xs, y :: ys, A, s, _, _, _, _, ra, rb, la, lb, hu, j, h1, h2, hok => by
    have la' : x.canLay0 = true ∧ PyData.canLayAll0 xs = true := by simpa [PyData.canLayAll0] using la
    have lb' : y.canLay0 = true ∧ PyData.canLayAll0 ys = true := by simpa [PyData.canLayAll0] using lb
    cases ra with
    | cons r rs =>
      cases rb with
      | cons r' rs' =>
        cases j with
        | zero => exact rc_ok x y A s _ _ _ _ r r' la'.1 lb'.1 hok (room_head hu)
        | succ j => exact rc_okAll xs ys A s _ _ _ _ rs rs' la'.2 lb'.2 (room_tail hu) j (Nat.lt_of_succ_lt_succ h1) (Nat.lt_of_succ_lt_succ h2) hok
end
end SK
namespace SK
open PySem PySem.SeqAt PySem.W PySem.Calls PyProof.Rows
mutual
theorem alike_self : ∀ d : PyData, d.canLay0 = true → alike d d = true
  | .none, _ => rfl
  | .bool _, _ => rfl
  | .int _, _ => rfl
  | .str _, _ => rfl
  | .list xs, h => by
    show alikeAll xs xs = true
    exact alike_selfs xs (by simpa [PyData.canLay0] using h)
  | .tuple xs, h => by
    show alikeAll xs xs = true
    exact alike_selfs xs (by simpa [PyData.canLay0] using h)
  | .dict _, h => absurd h (by simp [PyData.canLay0])
theorem alike_selfs : ∀ ds : List PyData, PyData.canLayAll0 ds = true → alikeAll ds ds = true
  | [], _ => rfl
  | d :: ds, h => by
    have h' : d.canLay0 = true ∧ PyData.canLayAll0 ds = true := by simpa [PyData.canLayAll0] using h
    show (alike d d && alikeAll ds ds) = true
    rw [alike_self d h'.1, alike_selfs ds h'.2]
    rfl
end
mutual
theorem reads_one {h : Heap} : ∀ (d d' : PyData) (v : Value) (as as' : List Addr), d.canLay0 = true → d'.canLay0 = true → Reads h v d as → Reads h v d' as' → d = d'
  | .none, _, _, _, _, _, _, r, r' => by
    cases r
    cases r'
    rfl
  | .bool _, _, _, _, _, _, _, r, r' => by
    cases r
    cases r'
    rfl
  | .int _, _, _, _, _, _, _, r, r' => by
    cases r
    cases r'
    rfl
  | .str _, _, _, _, _, _, _, r, r' => by
    cases r
    cases r'
    rfl
  | .list xs, d', _, _, _, l, l', r, r' => by
    cases r with
    | list h1 h2 h3 h4 =>
      cases r' with
      | list k1 k2 k3 k4 =>
        rw [h1] at k1
        cases k1
        rw [h3] at k3
        cases k3
        rw [reads_ones xs _ _ _ _ (by simpa [PyData.canLay0] using l) (by simpa [PyData.canLay0] using l') h4 k4]
      | tuple k1 k2 k3 k4 =>
        rw [h1] at k1
        cases k1
        rw [h2] at k2
        exact absurd k2 (by simp)
      | dict k1 => exact absurd l' (by simp [PyData.canLay0])
  | .tuple xs, d', _, _, _, l, l', r, r' => by
    cases r with
    | tuple h1 h2 h3 h4 =>
      cases r' with
      | tuple k1 k2 k3 k4 =>
        rw [h1] at k1
        cases k1
        rw [h3] at k3
        cases k3
        rw [reads_ones xs _ _ _ _ (by simpa [PyData.canLay0] using l) (by simpa [PyData.canLay0] using l') h4 k4]
      | list k1 k2 k3 k4 =>
        rw [h1] at k1
        cases k1
        rw [h2] at k2
        exact absurd k2 (by simp)
      | dict k1 => exact absurd l' (by simp [PyData.canLay0])
  | .dict _, _, _, _, _, l, _, _, _ => absurd l (by simp [PyData.canLay0])
theorem reads_ones {h : Heap} : ∀ (ds ds' : List PyData) (vs : List Value) (as as' : List Addr), PyData.canLayAll0 ds = true → PyData.canLayAll0 ds' = true → ReadsAll h vs ds as → ReadsAll h vs ds' as' → ds = ds'
  | [], _, _, _, _, _, _, r, r' => by
    cases r
    cases r'
    rfl
  | d :: ds, _, _, _, _, l, l', r, r' => by
    cases r with
    | cons h1 h2 =>
      cases r' with
      | cons k1 k2 =>
        have q : d.canLay0 = true ∧ PyData.canLayAll0 ds = true := by simpa [PyData.canLayAll0] using l
        have q' := l'
        simp only [PyData.canLayAll0, Bool.and_eq_true] at q'
        rw [reads_one d _ _ _ _ q.1 q'.1 h1 k1, reads_ones ds _ _ _ _ q.2 q'.2 h2 k2]
end
/-! ### keys that are tuples, ordered by tokens -/
abbrev Tok' := PyData → List (Int ⊕ List Nat)
noncomputable def kk (h : Heap) (ds : List PyData) (tok : Tok') : PyProof.Rows.KeyKind where
  toKeyOrd := listOrd itemOrd
  keyOf v := open Classical in if q : ∃ d, d ∈ ds ∧ ∃ as, Reads h v d as then some (tok q.choose) else none
  dflt := ([] : List (Int ⊕ List Nat))
/-- the keys are tuples that can be asked for their order, and the tokens tell it -/
structure Keys (ds : List PyData) (tok : Tok') : Prop where
  lay : ∀ d ∈ ds, d.canLay0 = true
  tup : ∀ d ∈ ds, ∃ xs, d = .tuple xs
  ok : ∀ d ∈ ds, ∀ d' ∈ ds, okLt d d' = true
  lt : ∀ d ∈ ds, ∀ d' ∈ ds, ltD d d' = PyProof.Rows.lexLt itemOrd (tok d) (tok d')
  ty : ∀ x r y t, PyData.tuple (x :: r) ∈ ds → PyData.tuple (y :: t) ∈ ds → dataType x = dataType y
theorem kk_some {h : Heap} {ds : List PyData} {tok : Tok'} (hl : ∀ d ∈ ds, d.canLay0 = true) {v : Value} {d : PyData} {as : List Addr} (hd : d ∈ ds) (r : Reads h v d as) : (kk h ds tok).keyOf v = some (tok d) := by
  have q : ∃ d, d ∈ ds ∧ ∃ as, Reads h v d as := ⟨d, hd, as, r⟩
  have e : (kk h ds tok).keyOf v = some (tok q.choose) := dif_pos q
  obtain ⟨h1, as', h2⟩ := q.choose_spec
  rw [e, reads_one _ _ _ _ _ (hl _ h1) (hl _ hd) h2 r]
theorem kk_inv {h : Heap} {ds : List PyData} {tok : Tok'} {v : Value} {k : List (Int ⊕ List Nat)} (e : (kk h ds tok).keyOf v = some k) : ∃ d as, d ∈ ds ∧ Reads h v d as ∧ k = tok d := by
  by_cases q : ∃ d, d ∈ ds ∧ ∃ as, Reads h v d as
  · have e' : (kk h ds tok).keyOf v = some (tok q.choose) := dif_pos q
    obtain ⟨h1, as', h2⟩ := q.choose_spec
    rw [e'] at e
    exact ⟨_, as', h1, h2, (Option.some.inj e).symm⟩
  · have e' : (kk h ds tok).keyOf v = none := dif_neg q
    rw [e'] at e
    cases e
section
variable {prog : Program} {w : World} {A : Around} {E : Value → Shared → Prop} {s : Shared}
theorem one_ok {f : Bool} {da db : PyData} {a b : Value} {as bs : List Addr} {Q : Bool → Shared → Prop} (ra : Reads s.heap a da as) (rb : Reads s.heap b db bs) (la : da.canLay0 = true) (lb : db.canLay0 = true) (h : okLt da db = true)
    (hu : A.units + min da.depth db.depth < cLine) (hq : Q (ltD da db) s) : wpAny (model prog w) A (oneLt' f a b) Q E s := by
  cases f with
  | false =>
    rw [oneLt'_eq]
    simp only [Bool.false_eq_true, if_false]
    exact wpAny_bind (rc_ok da db A s a b as bs ra rb la lb h hu prog w E _ (wpAny_truthy_bool hq))
  | true =>
    cases da <;> cases db <;> first | (simp [okLt] at h; done) | skip
    · cases ra
      cases rb
      exact oneLt_bool hq
    · cases ra
      cases rb
      exact oneLt_int hq
    · cases ra
      cases rb
      exact oneLt_str hq
    · rename_i xs ys
      have hok : okAll xs ys = true := by simpa [okLt] using h
      have la' : PyData.canLayAll0 xs = true := by simpa [PyData.canLay0] using la
      have lb' : PyData.canLayAll0 ys = true := by simpa [PyData.canLay0] using lb
      cases ra with
      | @tuple l o us n _ as₁ h1 h2 h3 h4 =>
        cases rb with
        | @tuple l' o' ws n' _ bs₁ k1 k2 k3 k4 =>
          have n1 : us.size = xs.length := by simpa using ReadsAll.length _ _ _ h4
          have n2 : ws.size = ys.length := by simpa using ReadsAll.length _ _ _ k4
          have hq : Q (ltAll xs ys) s := hq
          rw [← first_all xs ys, ← n1, ← n2] at hq
          rw [oneLt'_eq]
          simp only [if_true]
          refine wpAny_bind (wpAny_cRoomFor (room_here hu) ?_)
          refine wpAny_bind (wpAny_callSpecialIfBound?_slot (T := "tuple") ⟨_, h1, h2⟩ F.slot_tuple_lt (call_tups (e := pairEq xs ys) (r := fun j => ltD (xs.getD j .none) (ys.getD j .none)) ⟨_, h1, h2, _, h3⟩ ⟨_, k1, k2, _, k3⟩ (fun j j1 j2 => ?_) (fun j j1 j2 hk hj => ?_) ?_))
          · have := eqAt_readsAll xs ys A.in1 s us.toList ws.toList _ _ h4 k4 la' lb' (room_in hu) j (by simpa using j1) (by simpa using j2)
            simpa using this
          · have := rc_okAll xs ys A.in1 s us.toList ws.toList _ _ h4 k4 la' lb' (room_in hu) j (by simpa using j1) (by simpa using j2) (okAll_at xs ys j hok hk hj (by omega) (by omega))
            simpa using this
          · exact wpAny_truthy_bool hq
theorem katLex_ok {b fin : Bool} {Q : Bool → Shared → Prop} : ∀ (xs ys : List PyData) (i : Nat) (vs ws : List Value) (as bs : List Addr), ReadsAll s.heap vs xs as → ReadsAll s.heap ws ys bs → PyData.canLayAll0 xs = true → PyData.canLayAll0 ys = true → okAll xs ys = true →
    A.units + min (PyData.depthAll xs) (PyData.depthAll ys) < cLine → fin = decide (xs.length < ys.length) → Q (ltAll xs ys) s → KatLex prog w A b fin Q (vs.zip ws) i s
  | [], [], i, _, _, _, _, ra, rb, _, _, _, _, hf, hq => by
    cases ra
    cases rb
    have e : fin = false := by rw [hf]; rfl
    subst e
    exact kat_nil hq
  | [], y :: ys, i, _, _, _, _, ra, rb, _, _, _, _, hf, hq => by
    cases ra
    have e : fin = true := by rw [hf]; exact decide_eq_true (Nat.succ_pos _)
    subst e
    rw [List.zip_nil_left]
    exact kat_nil hq
  | x :: xs, [], i, _, _, _, _, ra, rb, _, _, _, _, hf, hq => by
    cases rb
    have e : fin = false := by rw [hf]; exact decide_eq_false (Nat.not_lt_zero _)
    subst e
    rw [List.zip_nil_right]
    exact kat_nil hq
  | x :: xs, y :: ys, i, _, _, _, _, ra, rb, la, lb, h, hu, hf, hq => by
    have la' : x.canLay0 = true ∧ PyData.canLayAll0 xs = true := by simpa [PyData.canLayAll0] using la
    have lb' : y.canLay0 = true ∧ PyData.canLayAll0 ys = true := by simpa [PyData.canLayAll0] using lb
    have hf' : fin = decide (xs.length < ys.length) := by
      rw [hf]
      simp only [List.length_cons, Nat.add_lt_add_iff_right]
    cases ra with
    | cons r rs =>
      cases rb with
      | cons r' rs' =>
        rw [List.zip_cons_cons]
        refine kat_cons (eqAt_reads x y A s _ _ _ _ r r' la'.1 lb'.1 (room_head hu) prog w _ _ ?_)
        cases hx : PyData.eqv x y with
        | true =>
          simp only [okAll, ltAll, hx, if_true] at h hq
          exact kat_yes (katLex_ok xs ys (i + 1) _ _ _ _ rs rs' la'.2 lb'.2 h (room_tail hu) hf' hq)
        | false =>
          simp only [okAll, ltAll, hx, Bool.false_eq_true, if_false] at h hq
          exact kat_no (one_ok r r' la'.1 lb'.1 h (room_head hu) hq)
end
end SK
namespace SK
open PySem PySem.SeqAt PySem.W PySem.Calls PyProof.Rows
section
variable {prog : Program} {w : World} {A : Around} {E : Value → Shared → Prop} {s : Shared}
/-- what firstOfTuple gives, key by key -/
theorem kFirsts : ∀ {vs : List Value} {ds : List PyData}, EachIs (fun v d => ∃ as, Reads s.heap v d as) vs ds → (∀ d ∈ ds, ∃ xs, d = PyData.tuple xs) → ∃ os : List (Option Value), os.length = vs.length ∧
    (∀ (M : Model) (A : Around) (E : Value → Shared → Prop) (Q : List (Option Value) → Shared → Prop), Q os s → wpAny M A (vs.mapM firstOfTuple') Q E s) ∧ ∀ (i : Nat) (o : Option Value), os[i]? = some o → ∃ xs, ds[i]? = some (PyData.tuple xs) ∧ (o = none ↔ xs = [])
  | _, _, .nil, _ => ⟨[], rfl, fun M A E Q h => by rw [List.mapM_nil]; exact wpAny_pure h, fun i o h => by cases h⟩
  | _, _, .cons (a := v) (b := d) (as := vs) (bs := ds) ⟨as, r⟩ t, ht => by
    obtain ⟨os, h1, h2, h3⟩ := kFirsts t fun d hd => ht d (List.mem_cons_of_mem _ hd)
    obtain ⟨xs, rfl⟩ := ht d List.mem_cons_self
    cases r with
    | @tuple a o us n _ _ ho hc hd hr =>
      refine ⟨us[0]? :: os, by rw [List.length_cons, List.length_cons, h1], fun M A E Q h => ?_, fun i o' e => ?_⟩
      · rw [List.mapM_cons]
        refine wpAny_bind ?_
        rw [kas_first_eq]
        refine wpAny_bind (Looks.here (show Looks M s.heap (typeOf (.ref a)) o.cls from (Looks.ld ho).andThen .now) ?_)
        rw [hc, if_neg (by first | decide | simp)]
        refine wpAny_bind (listItems_at ho hd (wpAny_pure ?_))
        exact wpAny_bind (h2 M A E (fun bs s' => wpAny M A (pure (us[0]? :: bs)) Q E s') (wpAny_pure h))
      · cases i with
        | zero =>
          have e' : o' = us[0]? := (Option.some.inj e).symm
          refine ⟨xs, rfl, ?_⟩
          rw [e', ← Array.getElem?_toList]
          cases q : us.toList with
          | nil =>
            rw [q] at hr
            cases hr
            simp
          | cons f fr =>
            rw [q] at hr
            cases hr
            simp
        | succ i => exact h3 i o' e
theorem kFulls : ∀ {vs : List Value} {ds : List PyData}, EachIs (fun v d => ∃ as, Reads s.heap v d as) vs ds → (∀ d ∈ ds, ∃ x r, d = .tuple (x :: r)) → ∃ fs, KatTups s.heap vs fs ∧ fs.length = vs.length ∧ ∀ f ∈ fs, ∃ x r as, PyData.tuple (x :: r) ∈ ds ∧ Reads s.heap f x as :=
  fun e h => each_katTups e h
theorem kKinds {vs : List Value} {ds : List PyData} (e : EachIs (fun v d => ∃ as, Reads s.heap v d as) vs ds) (ht : ∀ d ∈ ds, ∃ xs, d = PyData.tuple xs) (hn : PyData.tuple [] ∈ ds) (h2 : 2 ≤ vs.length) :
    ∃ kd : SortKind, (kd = general' ∨ kd = oneType') ∧ ∀ (E : Value → Shared → Prop) (Q : SortKind → Shared → Prop), Q kd s → wpAny (model prog w) A (keyKind' vs.toArray) Q E s := by
  obtain ⟨os, l1, l2, l3⟩ := kFirsts e ht
  have no : none ∈ os := by
    obtain ⟨i, hi⟩ := List.mem_iff_getElem?.mp hn
    have li : i < os.length := by
      have := (List.getElem?_eq_some_iff.mp hi).1
      rw [l1, e.length]
      exact this
    obtain ⟨xs, e1, e2⟩ := l3 i os[i] (List.getElem?_eq_getElem li)
    rw [hi] at e1
    cases e1
    rw [← e2.mpr rfl]
    exact List.getElem_mem li
  have nall : (os.toArray.all fun x => x.isSome) = false := by
    rw [List.all_toArray]
    exact List.all_eq_false.mpr ⟨none, no, by simp⟩
  refine ⟨if (os.toArray[0]?.bind id).isSome = true then general' else oneType', by split <;> simp, fun E Q hq => ?_⟩
  rw [kat_kind_eq, List.mapM_toArray, map_eq_pure_bind]
  refine wpAny_bind (wpAny_bind (l2 _ _ _ _ (wpAny_pure ?_)))
  rw [if_neg (by rw [nall]; decide)]
  by_cases hg : (os.toArray[0]?.bind id).isSome = true
  · rw [if_pos hg] at hq ⊢
    exact wpAny_pure hq
  · rw [if_neg hg] at hq ⊢
    rw [oneTypeOnly'_eq, List.mapM_toArray, map_eq_pure_bind]
    have hT : ∀ v ∈ vs, Looks (model prog w) s.heap (typeOf v) (Value.type "tuple") := fun v hv => by
      obtain ⟨d, hd, as, r⟩ := e.left v hv
      obtain ⟨xs, rfl⟩ := ht d hd
      exact looks_reads r
    refine wpAny_bind (wpAny_bind (wpAny_bind (kas_mapM (r := Value.type "tuple") _ (fun v hv Q' hq => (hT v hv).here hq) (wpAny_pure ?_))))
    obtain ⟨v₁, r, rfl⟩ : ∃ v₁ r, vs = v₁ :: r := by
      cases vs with
      | nil => exact absurd h2 (by simp)
      | cons a b => exact ⟨a, b, rfl⟩
    have hall : ((List.map (fun _ => Value.type "tuple") (v₁ :: r)).toArray.all fun x => x == Value.type "tuple") = true := by
      simp only [List.all_toArray, List.all_map, List.all_eq_true]
      intro _ _
      rfl
    rw [show (List.map (fun _ => Value.type "tuple") (v₁ :: r)).toArray[0]? = some (Value.type "tuple") by simp]
    simp only [hall, if_true]
    exact wpAny_pure (wpAny_pure hq)
/-- such keys can be sorted -/
theorem sorts_at {vs : List Value} {ds : List PyData} {tok : Tok'} (K : Keys ds tok) (e : EachIs (fun v d => ∃ as, Reads s.heap v d as) vs ds) (hu : ∀ d, d ∈ ds → A.units + d.depth < cLine) : SortsAt prog w A s (kk s.heap ds tok) vs := by
  have room : ∀ {d d' : PyData}, d ∈ ds → A.units + min d.depth d'.depth < cLine := fun {d d'} hd => Nat.lt_of_le_of_lt (Nat.add_le_add_left (Nat.min_le_left _ _) _) (hu d hd)
  refine ⟨fun v hv => ?_, ?_⟩
  · obtain ⟨d, hd, as, r⟩ := e.left v hv
    exact ⟨_, kk_some K.lay hd r⟩
  have asked : ∀ (kd : SortKind), (∀ {da db : PyData} {a b : Value} {as bs : List Addr} {E : Value → Shared → Prop} {Q : Bool → Shared → Prop}, da ∈ ds → db ∈ ds → Reads s.heap a da as → Reads s.heap b db bs → Q (ltD da db) s → wpAny (model prog w) A (keyLt' kd a b) Q E s) → H.LtAt prog w A s (kk s.heap ds tok) kd := fun kd h E x y a b Q ha hb hq => by
    obtain ⟨d, as, hd, ra, rfl⟩ := kk_inv ha
    obtain ⟨d', bs, hd', rb, rfl⟩ := kk_inv hb
    refine h hd hd' ra rb ?_
    rw [K.lt d hd d' hd']
    exact hq
  by_cases hn : PyData.tuple [] ∈ ds
  · by_cases h2 : 2 ≤ vs.length
    · obtain ⟨kd, hk, hr⟩ := kKinds (prog := prog) (w := w) (A := A) e K.tup hn h2
      refine ⟨kd, asked kd fun {da db a b as bs E Q} hd hd' ra rb hq => ?_, fun _ E Q hq => hr E Q hq⟩
      rcases hk with rfl | rfl
      · exact one_ok (f := false) ra rb (K.lay _ hd) (K.lay _ hd') (K.ok _ hd _ hd') (room hd) hq
      · exact one_ok (f := true) ra rb (K.lay _ hd) (K.lay _ hd') (K.ok _ hd _ hd') (room hd) hq
    · exact ⟨general', asked _ fun {da db a b as bs E Q} hd hd' ra rb hq => one_ok (f := false) ra rb (K.lay _ hd) (K.lay _ hd') (K.ok _ hd _ hd') (room hd) hq, fun h => absurd h h2⟩
  · have full : ∀ d ∈ ds, ∃ x r, d = .tuple (x :: r) := fun d hd => by
      obtain ⟨xs, rfl⟩ := K.tup d hd
      cases xs with
      | nil => exact absurd hd hn
      | cons x r => exact ⟨x, r, rfl⟩
    obtain ⟨fs, t1, t2, t3⟩ := kFulls e full
    by_cases h2 : 2 ≤ vs.length
    · obtain ⟨f0, fr, ef⟩ : ∃ f0 fr, fs = f0 :: fr := by
        cases fs with
        | nil =>
          rw [List.length_nil] at t2
          omega
        | cons a b => exact ⟨a, b, rfl⟩
      obtain ⟨x0, r0, as0, m0, q0⟩ := t3 f0 (by rw [ef]; exact List.mem_cons_self)
      refine ⟨tuples' (dataType x0 != Value.type "tuple"), asked _ fun {da db a b as bs E Q} hd hd' ra rb hq => ?_, fun _ E Q hq => ?_⟩
      · have hok := K.ok _ hd _ hd'
        have la := K.lay _ hd
        have lb := K.lay _ hd'
        have hr := room (d' := db) hd
        obtain ⟨xs, rfl⟩ := K.tup _ hd
        obtain ⟨ys, rfl⟩ := K.tup _ hd'
        cases ra with
        | @tuple l o us n _ _ h1 h2 h3 h4 =>
          cases rb with
          | @tuple l' o' ws n' _ _ k1 k2 k3 k4 =>
            have n1 : us.size = xs.length := by simpa using ReadsAll.length _ _ _ h4
            have n2 : ws.size = ys.length := by simpa using ReadsAll.length _ _ _ k4
            exact kat_lt h1 h3 k1 k3 (katLex_ok xs ys 0 _ _ _ _ h4 k4 (by simpa [PyData.canLay0] using la) (by simpa [PyData.canLay0] using lb) (by simpa [okLt] using hok) (by have q := room_in hr; omega) (by rw [n1, n2]) hq)
      · refine kat_kind (T := dataType x0) t1 (by omega) (fun f hf => ?_) (beq_self_eq_true _) hq
        obtain ⟨x, r, as, m1, m2⟩ := t3 f hf
        rw [K.ty x0 r0 x r m0 m1]
        exact looks_reads m2
    · exact ⟨general', asked _ fun {da db a b as bs E Q} hd hd' ra rb hq => one_ok (f := false) ra rb (K.lay _ hd) (K.lay _ hd') (K.ok _ hd _ hd') (room hd) hq, fun h => absurd h h2⟩
end
end SK
namespace SK
open PySem PySem.SeqAt PySem.W PySem.Calls PyProof.Rows
/-- keys that can be sorted, the tokens tell their order -/
structure KeysG (ds : List PyData) (tok : Tok') : Prop where
  lay : ∀ d ∈ ds, d.canLay0 = true
  sorts : ∀ {prog : Program} {w : World} {A : Around} {s : Shared} {vs : List Value}, EachIs (fun v d => ∃ as, Reads s.heap v d as) vs ds → (∀ d, d ∈ ds → A.units + d.depth < cLine) → SortsAt prog w A s (kk s.heap ds tok) vs
theorem Keys.g {ds : List PyData} {tok : Tok'} (K : Keys ds tok) : KeysG ds tok := ⟨K.lay, fun e hu => sorts_at K e hu⟩
/-- keys that are alike, place by place -/
theorem keysG_alike {ds : List PyData} (lay : ∀ d ∈ ds, d.canLay0 = true) (hal : AllAlike ds) (hk : Sortable ds) : KeysG ds keyToks := ⟨lay, fun e hu => SortsAt.data e hal hk hu⟩
end SK
namespace SK
open PySem PySem.SeqAt PySem.W PySem.Calls PyProof.Rows L2
/-! ### sorted(xs, key=f), f a def of the text -/
theorem dp_same {K : PySem.W.Frag} {H H' : Hp} (s : ∀ b o, H b = some o → H' b = some o) : ∀ (d : PyData) (v : V), Dp K H v d → Dp K H' v d
  | .none, _, h => by
    cases h
    exact .non
  | .bool _, _, h => by
    cases h
    exact .bl _
  | .int _, _, h => by
    cases h
    exact .int _
  | .str _, _, h => by
    cases h
    exact .str _
  | .list ds, _, h => by
    cases h with
    | lst h1 h2 =>
      refine .lst ?_ (dp_sames s ds _ h2)
      rcases h1 with (h | ⟨o, h⟩) | h
      · exact .inl (.inl (s _ _ h))
      · exact .inl (.inr ⟨o, s _ _ h⟩)
      · exact .inr h
  | .tuple ds, _, h => by
    cases h with
    | tup h1 h2 =>
      refine .tup ?_ (dp_sames s ds _ h2)
      rcases h1 with (h | ⟨o, h⟩) | h
      · exact .inl (.inl (s _ _ h))
      · exact .inl (.inr ⟨o, s _ _ h⟩)
      · exact .inr h
  | .dict _, _, h => by cases h
where dp_sames {K : PySem.W.Frag} {H H' : Hp} (s : ∀ b o, H b = some o → H' b = some o) : ∀ (ds : List PyData) (vs : List V), DpAll K H vs ds → DpAll K H' vs ds
  | [], _, h => by
    cases h
    exact .nil
  | d :: ds, _, h => by
    cases h with
    | cons h1 h2 => exact .cons (dp_same s d _ h1) (dp_sames s ds _ h2)
/-- the items in the order of their keys -/
def byKey (tok : Tok') (xs : List V) (kz : List PyData) : List V := ((xs.zip kz).mergeSort (sortLe (listOrd itemOrd) false fun b => tok b.2)).map (·.1)
theorem each_zip : ∀ {xs : List V} {vs : List Value} {kz : List PyData}, Vals xs vs → kz.length = xs.length → EachIs (fun v (b : V × PyData) => RelV b.1 v) vs (xs.zip kz)
  | [], _, kz, .nil, _ => by
    rw [List.zip_nil_left]
    exact .nil
  | x :: xs, _, [], _, h => absurd h (by simp)
  | x :: xs, _, k :: kz, .cons r t, h => by
    rw [List.zip_cons_cons]
    exact .cons r (each_zip t (Nat.succ.inj h))
theorem each_snd {R : Value → PyData → Prop} : ∀ {xs : List V} {ks : List Value} {kz : List PyData}, EachIs R ks kz → kz.length = xs.length → EachIs (fun v (b : V × PyData) => R v b.2) ks (xs.zip kz)
  | [], _, [], .nil, _ => .nil
  | _ :: _, _, [], .nil, h => absurd h (by simp)
  | [], _, _ :: _, _, h => absurd h (by simp)
  | x :: xs, _, k :: kz, .cons r t, h => by
    rw [List.zip_cons_cons]
    exact .cons r (each_snd t (Nat.succ.inj h))
theorem vals_each : ∀ {bs : List (V × PyData)} {vs : List Value}, EachIs (fun v (b : V × PyData) => RelV b.1 v) vs bs → Vals (bs.map (·.1)) vs
  | _, _, .nil => .nil
  | _, _, .cons r t => .cons r (vals_each t)
section
variable {X : Cx} {pins : List (Addr × Obj)} {σ : L2.St} {H : Hp} {s : Shared}
theorem each_reads (I : Inv X pins σ H s) : ∀ {kvs : List V} {ks : List Value} {kz : List PyData}, Vals kvs ks → DpAll X.K H kvs kz → EachIs (fun v k => ∃ as, Reads s.heap v k as) ks kz
  | _, _, _, .nil, .nil => .nil
  | _, _, _, .cons r t, .cons h1 h2 => .cons (Dp.reads I _ _ _ h1 r) (each_reads I t h2)
theorem dp_snoc {K : PySem.W.Frag} {v : V} {d : PyData} (h : Dp K H v d) : ∀ {vs : List V} {ds : List PyData}, DpAll K H vs ds → DpAll K H (vs ++ [v]) (ds ++ [d])
  | _, _, .nil => .cons h .nil
  | _, _, .cons a b => .cons a (dp_snoc h b)
theorem dpAll_len {K : PySem.W.Frag} {H : Hp} : ∀ {vs : List V} {ds : List PyData}, DpAll K H vs ds → vs.length = ds.length
  | _, _, .nil => rfl
  | _, _, .cons _ t => congrArg (· + 1) (dpAll_len t)
theorem v_rest {a kS f : Addr} {fd : FuncData} {n : Nat} {sp : Sp} {ps : List Str} {e1 : Nat} {P : PySem.Fin → Shared → Prop} {E : Value → Shared → Prop} {xs : List V} {vs : List Value} {kz : List PyData} {tok : Tok'} {ks0 : Unit}
    (F : FnOk X.prog X.w X.K X.mg X.base CX0 n f fd ps sp) (hr : Room n X.A.in1.in1) (hb : Binds X.K fd ps []) (h1 : ps.length = 1) (K : KeysG kz tok) (I : Inv X pins σ H s) (fa : FpOk X pins H a) (fk : FpOk X pins H kS)
    (nk : s.heap.get? kS = some (seqObj "list" #[] 0)) (na : s.heap.get? a = some (seqObj "list" #[] e1)) (ne : kS ≠ a) (rv : Vals xs vs) (len : kz.length = xs.length) (big : xs.length ≤ sizeLine) (hu : ∀ d, d ∈ kz → X.A.in1.in1.units + d.depth < cLine)
    (call : ∀ (i : Nat) (x : V) (k : PyData), xs[i]? = some x → kz[i]? = some k → ∀ H1, Same H H1 → sp [x] H1 (fun v H2 => Dp X.K H2 v k ∧ Same H1 H2) fun _ _ _ => False)
    (h : ∀ (Hn : Hp) (sn : Shared), Inv X pins σ (upd Hn a (.lst (byKey tok xs kz))) sn → Same H Hn → P (.done (.ret .none)) sn) :
    wpAny (model X.prog X.w) X.A.in1.in1 (ksk_rest a (.ref f) false vs.toArray e1 (.ref kS)) P E s := by
  have lv := rv.length
  let St : Nat → Shared → Prop := fun i s' => ∃ Hi kvs ks c, Inv X pins σ Hi s' ∧ Same H Hi ∧ Hi a = none ∧ Hi kS = none ∧ s'.heap.get? kS = some (seqObj "list" ks c) ∧ s'.heap.get? a = some (seqObj "list" #[] e1) ∧ Vals kvs ks.toList ∧ DpAll X.K Hi kvs (kz.take i)
  have nfs : ∀ b, FpOk X pins H b → b ∉ frs X.stack := fun b fb hb => by
    rcases List.mem_cons.mp (I.stkSub b hb) with z | z
    · exact fb.2.1 z
    · exact fb.2.2.1 z
  unfold ksk_rest
  refine wpAny_bind (wpAny_rule ?_)
  first
    | rw [List.forIn_toArray]
    | (rw [← Array.forIn_toList]; simp only [List.toList_toArray])
    | rw [← Array.forIn_toList]
  refine wpAny_bind (ksk_fold St vs 0 s ⟨H, [], #[], 0, I, fun _ _ e => e, fa.1, fk.1, nk, na, .nil, by rw [List.take_zero]; exact .nil⟩ ?each ?after)
  case each =>
    rintro j v s' hv ⟨Hi, kvs, ks, c, Ii, sm, ha, hk, nk', na', rk, rd⟩
    simp only [Nat.zero_add] at rd ⊢
    have lj : j < xs.length := by
      have := (List.getElem?_eq_some_iff.mp hv).1
      omega
    obtain ⟨u, hu1, rx⟩ := rv.get (i := j) (List.getElem?_eq_getElem lj)
    obtain rfl : u = v := Option.some.inj (hu1.symm.trans hv)
    have hkj : kz[j]? = some kz[j] := List.getElem?_eq_getElem (by omega)
    have run : wpAny (model X.prog X.w) X.A.in1.in1 (PySem.call (.ref f) [u]) (fun r s2 => CE X.stack X.prog X.w Hi s' (fun v H2 => Dp X.K H2 v kz[j] ∧ Same Hi H2) r s2) (fun _ _ => False) s' := by
      refine wpAny_call (codeAny_mono (F.run X.A.in1.in1 X.stack s' Hi ⟨[u], []⟩ ([u] ++ []) [xs[j]] _ _ hr Ii.env0.in1.in1 (hb s' [u] Ii.kIn h1.symm) (.cons rx .nil) (call j _ _ (List.getElem?_eq_getElem lj) hkj Hi sm)) fun r s2 hq => ?_)
      cases r with
      | error e => exact False.elim hq
      | ok fl =>
        cases fl with
        | ret u => exact hq
        | next => exact False.elim hq
        | brk => exact False.elim hq
        | cont => exact False.elim hq
    refine wpAny_bind (wpAny_attempt (wpAny_mono run (fun r s2 he => ?_) fun _ _ z => z.elim))
    obtain ⟨v', H2, os, bare, un, hok, rr, dp, sm2⟩ := he
    have I2 : Inv X pins σ H2 s2 := Ii.call' (ch := []) os un hok bare (by simp)
    have nk2 := un.keep kS _ nk' hk (nfs kS fk) (by simp)
    have na2 := un.keep a _ na' ha (nfs a fa) (by simp)
    have hk2 := un.free kS _ nk' hk (by simp)
    have ha2 := un.free a _ na' ha (by simp)
    try dsimp only
    have sz : ks.size ≤ sizeLine := by
      have q1 : ks.size = kvs.length := by
        rw [← Array.length_toList]
        exact (Vals.length rk).symm
      have q2 : kvs.length = (kz.take j).length := dpAll_len rd
      rw [List.length_take] at q2
      omega
    have szj : ks.size < sizeLine + 1 := Nat.lt_succ_of_le sz
    have same := Heap.SameBut.update s2.heap kS (Obj.mapSeq (·.push r))
    obtain ⟨c2, hc2⟩ : ∃ c2, (s2.heap.update kS (Obj.mapSeq (·.push r))).get? kS = some (seqObj "list" (ks.push r) c2) := ⟨_, get?_update_seq nk2 (·.push r)⟩
    refine wpAny_bind (listUpdate_at nk2 rfl ?_ sz (Nat.le_trans (Nat.le_of_eq (Array.size_push ..)) (Nat.succ_le_succ sz)))
    refine wpAny_pure ⟨rfl, H2, kvs ++ [v'], ks.push r, c2, I2.turned (t' := s2.toks) (fun b o hb e => (same.2 b hb).trans e) hk2 fk.2.1 fk.2.2.2.1 fk.2.2.2.2.1 fk.2.2.2.2.2, sm.trans sm2, ha2, hk2, hc2, (same.2 a ne.symm).trans na2, ?_, ?_⟩
    · rw [show (ks.push r).toList = ks.toList ++ [r] by simp]
      exact Vals.append rk (.cons rr .nil)
    · rw [show kz.take (j + 1) = kz.take j ++ [kz[j]] by rw [List.take_add_one, hkj]; simp]
      exact dp_snoc dp (dp_same.dp_sames sm2 _ _ rd)
  case after =>
    rintro s' ⟨Hn, kvs, ks, c, In, sm, ha, hk, nk', na', rk, rd⟩
    rw [show kz.take (0 + vs.length) = kz from List.take_of_length_le (by omega)] at rd
    have all := each_reads In rk rd
    have sz : ks.size = vs.length := by
      have q := all.length
      rw [Array.length_toList] at q
      omega
    try dsimp only
    refine wpAny_bind (listItems_at nk' rfl ?_)
    refine keyH_end (κ := kk s'.heap kz tok) (h₁ := hideAll s'.heap [kS]) (fun b o _ q => of_hideAll _ q) (hideAll_none _ (List.mem_singleton.mpr rfl)) nk' na' ne (K.sorts all hu) sz (by omega) fun g tk c3 keep hg => ?_
    have out : EachIs (fun v (b : V × PyData) => RelV b.1 v) (sortVals (kk s'.heap kz tok) false ks.toList vs) ((xs.zip kz).mergeSort (sortLe (listOrd itemOrd) false fun b => tok b.2)) :=
      sortVals_each (κ := kk s'.heap kz tok) (fun b : V × PyData => tok b.2) (each_zip rv len) (each_snd (R := fun v d => (kk s'.heap kz tok).keyOf v = some (tok d)) ((each_mem all).mono fun v d q => by
        obtain ⟨⟨as, r⟩, hd⟩ := q
        exact kk_some K.lay hd r) len)
    have ol : (byKey tok xs kz).length ≤ sizeLine := by
      unfold byKey
      rw [List.length_map, List.length_mergeSort, List.length_zip]
      omega
    have kp : ∀ b o, b ≠ a → b ≠ kS → s'.heap.get? b = some o → g.get? b = some o := fun b o x y e => keep b o x (hideAll_get _ e (by simpa using y))
    have tr : ∀ b u, Hn b = some u → b ≠ a ∧ b ≠ kS := fun b u e => ⟨(fun z => by
      rw [z, ha] at e
      cases e), (fun z => by
      rw [z, hk] at e
      cases e)⟩
    have over : ∀ b u, Hn b = some u → upd Hn a (.lst (byKey tok xs kz)) b = some u := fun b u e => by
      rw [upd_ne (tr b u e).1]
      exact e
    refine h Hn _ (In.call (ch := [a, kS]) (g' := s'.gens) (d' := s'.drawn) (t' := tk) (h' := g) ⟨fun b o e n _ x => kp b o (fun z => x (by simp [z])) (fun z => x (by simp [z])) e, fun b o e n _ x => ⟨o.slots, kp b o (fun z => x (by simp [z])) (fun z => x (by simp [z])) e⟩,
      fun b o e n x => by rw [upd_ne (fun z => x (by simp [z]))]; exact n, fun b o e x => ⟨o, kp b o (fun z => x (by simp [z])) (fun z => x (by simp [z])) e⟩, fun b xs e => over b _ e, fun b o u e => over b _ e, fun b ps e => ⟨#[], by rw [Array.append_empty]; exact over b _ e⟩⟩ (fun b u e => ?_) In.bare fun b hb' => ?_) sm
    · by_cases z : b = a
      · subst z
        rw [upd_same] at e
        cases e
        exact ⟨ol, _, c3, vals_each out, hg⟩
      · rw [upd_ne z] at e
        exact (In.hok b u e).stay (fun c v hc q => by
          rcases hc with rfl | hc
          · exact kp _ _ (tr _ _ e).1 (tr _ _ e).2 q
          · exact kp _ _ (tr _ _ hc).1 (tr _ _ hc).2 q) (fun c q => over c _ q) fun c ys q => over c _ q
    · rcases List.mem_cons.mp hb' with rfl | hb'
      · exact ⟨fa.2.2.2.1, fa.2.1, fa.2.2.2.2.1, fa.2.2.2.2.2⟩
      · obtain rfl := List.mem_singleton.mp hb'
        exact ⟨fk.2.2.2.1, fk.2.1, fk.2.2.2.2.1, fk.2.2.2.2.2⟩
/-- the reading of sorted(xs, key=f) -/
def rSortF (K : PySem.W.Frag) (f : Addr) (sp : Sp) : List V → List V → Hp → VK → Prop := fun vs zs H Q => ∃ (l : Addr) (xs : List V) (kz : List PyData) (tok : Tok'), vs = [.ref l] ∧ zs = [.ref f] ∧ SqL K H l xs ∧ kz.length = xs.length ∧ KeysG kz tok ∧ (∀ d ∈ kz, d.depth ≤ 60) ∧
  (∀ (i : Nat) (x : V) (k : PyData), xs[i]? = some x → kz[i]? = some k → ∀ H1, Same H H1 → sp [x] H1 (fun v H2 => Dp K H2 v k ∧ Same H1 H2) fun _ _ _ => False) ∧
  ∀ (p : Addr) (H1 : Hp), H p = none → Same H H1 → H1 p = some (.lst (byKey tok xs kz)) → Q (.ref p) H1
theorem cr_sortF {f : Addr} {fd : FuncData} {n : Nat} {sp : Sp} {ps : List Str} (F : FnOk X.prog X.w X.K X.mg X.base CX0 n f fd ps sp) (hr : Room (n + 2) X.A) (hb : Binds X.K fd ps []) (h1 : ps.length = 1) :
    CallRK X (.builtin "sorted") [Str.ofString "key"] (rSortF X.K f sp) := by
  intro pins s σ H vs zs us ws Q I r rz h
  obtain ⟨l, xs, kz, tok, rfl, rfl, hs, len, K, dep, call, q⟩ := h
  obtain rfl := Vals.ref1 r
  obtain rfl := Vals.ref1 rz
  obtain ⟨its, rv, hl, big⟩ := I.list hs
  have lv := rv.length
  refine sorted_of_sort hl.isList (by omega) (ksk_s1 _ _) (fun _ => ksk_l1 _ _) fun E' => ?_
  show wpAny _ _ (Builtin.«list.sort» ⟨[.ref _], [(Str.ofString "key", .ref f)]⟩) _ _ _
  rw [ksk_t1]
  have ho := copyHeap_at s.heap its
  have la : s.heap.objs.size + 1 < (copyHeap s.heap its).objs.size := Heap.lt_size ho
  obtain ⟨e1, ho1⟩ : ∃ e1, ((copyHeap s.heap its).update (s.heap.objs.size + 1) (Obj.mapSeq fun _ => (#[] : Array Value))).get? (s.heap.objs.size + 1) = some (seqObj "list" #[] e1) := ⟨_, get?_update_seq ho fun _ => #[]⟩
  unfold ksk_tree
  refine wpAny_bind (listItems_at ho rfl (wpAny_bind (listUpdate_at ho rfl ?_ (by rw [List.size_toArray]; omega) (Nat.zero_le _))))
  refine wpAny_bind (seqEpoch_at ho1 rfl (wpAny_bind (wpAny_newTuple ?_ (by show its.length ≤ _; omega))))
  refine wpAny_bind (wpAny_newList ?_ (Nat.zero_le _))
  refine wpAny_holding ?_
  have szS : (((copyHeap s.heap its).update (s.heap.objs.size + 1) (Obj.mapSeq fun _ => (#[] : Array Value))).push (seqObj "tuple" its.toArray 0)).objs.size = (copyHeap s.heap its).objs.size + 1 := by rw [size_push', Heap.size_update]
  have old : ∀ b o, s.heap.get? b = some o → (((((copyHeap s.heap its).update (s.heap.objs.size + 1) (Obj.mapSeq fun _ => (#[] : Array Value))).push (seqObj "tuple" its.toArray 0)).push (seqObj "list" #[] 0))).get? b = some o := fun b o e => sorting_copy_old e
  have fra : H (s.heap.objs.size + 1) = none := I.hok.fresh (Nat.le_succ _)
  have n3 := line63
  refine v_rest (ks0 := ()) (n := n) F hr.in1.in1 hb h1 K (I.kept (t' := s.toks) old) (I.fpOk (Nat.le_succ _) fra)
    (I.fpOk (b := (((copyHeap s.heap its).update (s.heap.objs.size + 1) (Obj.mapSeq fun _ => (#[] : Array Value))).push (seqObj "tuple" its.toArray 0)).objs.size) (by rw [szS]; omega) (I.hok.fresh (by rw [szS]; omega)))
    (Heap.get?_push_size _ rfl) (Heap.get?_push_of_some _ (Heap.get?_push_of_some _ ho1)) (by rw [szS]; exact Nat.ne_of_gt (Nat.lt_succ_of_lt la)) rv len big (fun d hd => ?_) call fun Hn sn In sm => ⟨rfl, ?_⟩
  · have h2 := hr.un
    have h3 := dep d hd
    show X.A.units + 1 + 1 + d.depth < cLine
    omega
  · refine ⟨.ref _, _, In, rfl, q _ _ fra (fun b o e => ?_) upd_same⟩
    rw [upd_ne (ne_of_none e fra)]
    exact sm b o e
end
end SK
namespace DcT
open PySem PySem.Spec PyProof.Rows L2
/-! ### {k: v for target in iter if ..} whose keys are tuples of ints and texts; also as x = {..} -/
section
variable {X : Cx}
theorem setT {pins : List (Addr × Obj)} {σ : L2.St} {H : Hp} {s : Shared} {E : Value → Shared → Prop} {D b : Addr} {kvs : List (List Key × V)} {k : List Key} {v : V} {r : Value} {Q : Unit → Shared → Prop} (hu : X.A.units + 1 < cLine) (I : Inv X pins σ H s) (hD : H D = some (.dT kvs)) (hz : kvs.length < sizeLine)
    (hk : H b = some (.tup (k.map kV))) (rv : RelV v r) (h : ∀ s', Inv X pins σ (upd H D (.dT (putK kvs k v))) s' → Q () s') : wpAny (model X.prog X.w) X.A (dictSet D (.ref b) r) Q E s := by
  obtain ⟨z, ns, xs, rel, dd⟩ := dt_of I.hok hD
  have le : (putK kvs k v).length ≤ sizeLine := by have := length_putK kvs k v; omega
  refine wpAny_dictSet_heap (hsz := by rw [← Paired.length rel]; exact z) (Nat.lt_of_succ_lt hu) (key_of I.hok hk) dd fun h' d2 same => h _ ?_
  obtain ⟨q, es, ep, e1, e2, e3, e4, _, e5⟩ := d2
  refine d_write I (by rw [hD]; exact True.intro) same ⟨q, e1⟩ ⟨le, ns, _, (rel.put k hk rv).keeps fun c ys ec => ?_, q, es, ep, e1, e2, e3, e4, e5⟩
  rw [upd_ne (ne_of ec hD (fun z => nomatch z))]
  exact ec
def tD (wi : TI) (g : TG) (tt : TT) (tk tv : TE) (vs : List Nat) : TE := fun σ H Q => wi σ H fun J H1 => ∀ D, H1 D = none → ∃ W : Nat → Nat → Hp → Prop, (∃ m, W 0 m (upd H1 D (.dT []))) ∧ ∀ i m H, W i m H →
  (J.stop i H ∧ Q (.ref D) H) ∨ (J.go i H ∧ ∃ Nx : Hp → Prop, (∀ H', Nx H' → ∃ m', m' < m ∧ W (i + 1) m' H') ∧ ∀ x H', J.yld i H x H' → g x (wipe σ vs) H' fun σ2 H2 => wipe σ2 vs = wipe σ vs ∧ tt σ2 H2 fun b H3 =>
    if b = true then tk σ2 H3 fun y H4 => tv σ2 H4 fun z H5 => ∃ kvs k c, y = .ref c ∧ H5 c = some (.tup (k.map kV)) ∧ H5 D = some (.dT kvs) ∧ kvs.length < sizeLine ∧ Nx (upd H5 D (.dT (putK kvs k z))) else Nx H3)
theorem core {pins : List (Addr × Obj)} {s : Shared} {σ : L2.St} {H : Hp} {Q : VK} {kx vx tg iter : Expr} {ifs : List Expr} {scope : Scope} {own : List (Str × Nat)} {pos pos' : Pos} {wi : TI} {g : TG} {tt : TT} {tk tv : TE} {use : Option (Value → Sem Unit)} {Qf : Value → Shared → Prop}
    (hu : X.A.units + 1 < cLine) (hc : X.calm = true) (hN : X.N.Nodup) (I : Inv X pins σ H s) (hi : PI X tg iter wi) (ok : BlkOk X.N X.env.scope scope own)
    (hg : ∀ s H C cl fp, PG (X.blk s H scope (compEnvC scope cl C X.env) fp) tg g) (ht : ∀ s H C cl fp, PTs (X.blk s H scope (compEnvC scope cl C X.env) fp) ifs tt)
    (hk : ∀ s H C cl fp, PE (X.blk s H scope (compEnvC scope cl C X.env) fp) kx tk) (he : ∀ s H C cl fp, PE (X.blk s H scope (compEnvC scope cl C X.env) fp) vx tv) (hs : ∀ x, foldedSetIterable iter X.env x = pure x)
    (h : tD wi g tt tk tv (own.map (·.2)) σ H Q)
    (end_ : ∀ D C s' m H', Inv X pins σ H' s' → Q (.ref D) H' → s'.heap.Ns C m → FpOk X pins H' C → compPost (model X.prog X.w) X.A X.xe use Qf (.ref D) C (.ok .next) s') :
    wpAny (model X.prog X.w) X.A (comprehension (.DictComp kx vx [⟨tg, iter, ifs, 0⟩] scope pos) scope X.env pos' newDict false (eval iter X.env) use) Qf X.xe s := by
  have clos : ∀ y ∈ scope.names, y.2 = .free → ∃ c, X.env.cells.lookup y.1 = some c := fun y hy e =>
    (ok.free y hy e).elim (fun k => I.ok.has _ (.inl k)) fun k => I.ok.has _ (.inr k)
  refine wpAny_comprehension_free (use := use) rfl hs (closure_ok clos) ok.kind (fun y hy e => by rw [ok.uniq y hy, e]) (thn (hi.run pins s σ H _ I h) fun xv s1 hx => thn hx fun itv s2 h2 => ?_)
  obtain ⟨it, fp, tn, J, H2, e, I2, T, st2, f2, q⟩ := h2
  subst e
  refine wpAny_newObj_type (newEnv_comp ?_)
  obtain ⟨W, ⟨m0, w0⟩, turn⟩ := q s2.heap.objs.size (I2.hok.fresh (Nat.le_refl _))
  generalize hH3 : upd H2 s2.heap.objs.size (.dT []) = H3 at w0
  have push : ∀ b o, s2.heap.get? b = some o → (s2.heap.push { cls := .type "dict", data := .dict #[] }).get? b = some o := fun b o e => Heap.get?_push_of_some _ e
  have I3 : Inv X pins σ H3 ({ s2 with heap := s2.heap.push { cls := .type "dict", data := .dict #[] } } : Shared) := by
    rw [← hH3]
    exact I2.laid (t' := s2.toks) push (Nat.le_refl _) (dt_empty s2.heap I2.big)
  have f3 : ∀ b ∈ fp, FpOk X pins H3 b ∧ b < (s2.heap.push ({ cls := .type "dict", data := .dict #[] } : Obj)).objs.size := fun b hb => by
    obtain ⟨o, e, _⟩ := T.obj _ _ st2 b hb
    have lt : b < s2.heap.objs.size := Heap.lt_size e
    refine ⟨⟨?_, (f2 b hb).2⟩, by rw [Heap.size_push]; exact Nat.lt_succ_of_lt lt⟩
    rw [← hH3, upd_ne (Nat.ne_of_lt lt)]
    exact (f2 b hb).1
  generalize hs3 : ({ s2 with heap := s2.heap.push { cls := .type "dict", data := .dict #[] } } : Shared) = s3 at I3
  have h3 : s3.heap = s2.heap.push { cls := .type "dict", data := .dict #[] } := by rw [← hs3]
  rw [← h3] at f3
  have st3 : tn 0 s3.heap := T.keep _ _ _ st2 fun b _ o e => by rw [h3]; exact push b o e
  have I4 := block_start I3 ok hN f3
  generalize hcl : cellsFrom (s3.heap.objs.size + 1) scope.names (cloFrom X.env.cells scope.names []) = cl at I4
  have pg := hg s3 H3 s3.heap.objs.size cl fp
  have pt := ht s3 H3 s3.heap.objs.size cl fp
  have pk := hk s3 H3 s3.heap.objs.size cl fp
  have pe := he s3 H3 s3.heap.objs.size cl fp
  show codeAny _ _ (.compStart (.DictComp kx vx [⟨tg, iter, ifs, 0⟩] scope pos) 0 (.ref it) (.ref s2.heap.objs.size) (compEnvC scope cl s3.heap.objs.size X.env)) (compPost (model X.prog X.w) X.A X.xe use Qf (.ref s2.heap.objs.size) s3.heap.objs.size) { s3 with heap := pushCells (s3.heap.push { cls := .type "dict", data := .dict #[] }) scope.names }
  generalize hD : s2.heap.objs.size = D at turn
  generalize hce : compEnvC scope cl s3.heap.objs.size X.env = ce at I4 pg pt pk pe ⊢
  have lo : ce.locals = s3.heap.objs.size := by rw [← hce]; rfl
  generalize hs4 : ({ s3 with heap := pushCells (s3.heap.push { cls := .type "dict", data := .dict #[] }) scope.names } : Shared) = s4 at I4 ⊢
  have st4 : tn 0 s4.heap := T.keep _ _ _ st3 fun b _ o e => by rw [← hs4]; exact pushCells_keeps _ _ _ _ (Heap.get?_push_of_some _ e)
  have fpo : ∀ {σ' : L2.St} {H' : Hp} {s' : Shared}, Inv (X.blk s3 H3 scope ce fp) [] σ' H' s' → (∀ b ∈ fp, H' b = none) → ∀ b ∈ fp, FpOk (X.blk s3 H3 scope ce fp) [] H' b := fun {σ' H' s'} I' hn b hb =>
    ⟨hn b hb, (I'.ok.exf b hb).1, I'.ok.exfs b hb, .inl hb, fun x c e => (I'.ok.exf b hb).2 x c e, fun p hp => absurd (show p ∈ ([] : List (Addr × Obj)) ++ [] from hp) (by simp)⟩
  refine codeAny_compStart_dict ?_ (T.self X.A 0 _ _ _ st4 ?_)
  all_goals
    refine compLoop_anyD (fun n s' => ∃ i H', Inv (X.blk s3 H3 scope ce fp) [] (wipe σ (own.map (·.2))) H' s' ∧ tn i s'.heap ∧ (∀ b ∈ fp, H' b = none) ∧ W i n H') ?_ m0 ⟨0, H3, I4, st4, fun b hb => (f3 b hb).1.1, w0⟩
    rintro n s5 ⟨i, H5, I5, st5, n5, w5⟩
    rcases turn i n H5 w5 with ⟨stop, qq⟩ | ⟨go, Nx, more, step⟩
    · refine thnF (T.done (X.blk s3 H3 scope ce fp) rfl rfl rfl hc i [] s5 _ H5 (fun _ _ => False) I5 (fpo I5 n5) st5 stop) fun r s6 ⟨hr, I6⟩ => ?_
      subst hr
      have I7 : Inv X pins σ H5 s6 := I3.call' (ch := fp) I6.os I6.base I6.hok I6.bare fun b hb => ⟨(f3 b hb).1.2.2.2.1, (f3 b hb).1.2.1, (f3 b hb).1.2.2.2.2.1, (f3 b hb).1.2.2.2.2.2⟩
      obtain ⟨m, hn, _⟩ := I6.loc
      have hn : s6.heap.Ns ce.locals m := hn
      have nC : H5 ce.locals = none := I6.free
      rw [lo] at hn nC
      exact end_ D s3.heap.objs.size s6 m H5 I7 qq hn (I3.fpOk (Nat.le_refl _) nC)
    · refine thnF (T.item (X.blk s3 H3 scope ce fp) rfl rfl rfl hc i [] s5 _ H5 (fun _ _ => False) I5 (fpo I5 n5) st5 go) fun r s6 ⟨u, hr, h6⟩ => ?_
      subst hr
      refine thnF h6 fun _ s7 ⟨x, H7, I7, r7, y7, st7, n7⟩ => ?_
      refine thnF (pg.run _ s7 _ H7 x u _ (I7.pinned (fpo I7 n7) (T.obj _ _ st7)) r7 (step x H7 y7)) fun _ s8 ⟨σ8, H8, I8, hw8, q8⟩ => ?_
      refine thnF (pt.run _ s8 σ8 H8 _ I8 q8) fun b s9 ⟨H9, I9, q9⟩ => ?_
      have back : ∀ {s' : Shared} {H' : Hp}, Inv (X.blk s3 H3 scope ce fp) ([] ++ pinsAt fp s7.heap) σ8 H' s' → Nx H' → ∃ m, m < n ∧ ∃ i H', Inv (X.blk s3 H3 scope ce fp) [] (wipe σ (own.map (·.2))) H' s' ∧ tn i s'.heap ∧ (∀ b ∈ fp, H' b = none) ∧ W i m H' := fun {s' H'} I' nx => by
        obtain ⟨m', lt, w'⟩ := more H' nx
        have held : ∀ b ∈ fp, ∀ o, s7.heap.get? b = some o → s'.heap.get? b = some o ∧ H' b = none := fun b hb o e =>
          let z := I'.pin (b, o) (List.mem_append_right _ (List.mem_append_right _ (mem_pinsAt hb e)))
          ⟨z.1, z.2.1⟩
        refine ⟨m', lt, i + 1, H', (I'.unpinned (pins := [])).weak (by rw [← hw8, wipe_length]) (fun j v e => ?_), T.keep _ _ _ st7 fun b hb o e => (held b hb o e).1, fun b hb => ?_, w'⟩
        · rw [← hw8] at e
          exact (wipe_some e).1
        · obtain ⟨o, e, _⟩ := T.obj _ _ st7 b hb
          exact (held b hb o e).2
      cases b with
      | false =>
        simp only [Bool.false_eq_true, if_false] at q9 ⊢
        exact back I9 q9
      | true =>
        simp only [if_true] at q9 ⊢
        refine thnF (pk.run _ s9 σ8 H9 _ I9 q9) fun z s10 ⟨yk, H10, I10, r10, q10⟩ => ?_
        refine thnF (pe.run _ s10 σ8 H10 _ I10 q10) fun z2 s11 ⟨yv, H11, I11, r11, kvs, k, c, ek, hc11, hD11, hz11, nx⟩ => ?_
        subst ek
        obtain rfl : z = Value.ref c := r10
        exact setT (X := X.blk s3 H3 scope ce fp) hu I11 hD11 hz11 hc11 r11 fun s12 I12 => back I12 nx
/-- as a value -/
theorem pe_dcT {kx vx tg iter : Expr} {ifs : List Expr} {scope : Scope} {own : List (Str × Nat)} {pos : Pos} {wi : TI} {g : TG} {tt : TT} {tk tv : TE} (hu : X.A.units + 1 < cLine) (hc : X.calm = true) (hN : X.N.Nodup) (hi : PI X tg iter wi) (ok : BlkOk X.N X.env.scope scope own)
    (hg : ∀ s H C cl fp, PG (X.blk s H scope (compEnvC scope cl C X.env) fp) tg g) (ht : ∀ s H C cl fp, PTs (X.blk s H scope (compEnvC scope cl C X.env) fp) ifs tt)
    (hk : ∀ s H C cl fp, PE (X.blk s H scope (compEnvC scope cl C X.env) fp) kx tk) (he : ∀ s H C cl fp, PE (X.blk s H scope (compEnvC scope cl C X.env) fp) vx tv) (hs : ∀ x, foldedSetIterable iter X.env x = pure x := by intro _; rfl) :
    PE X (.DictComp kx vx [⟨tg, iter, ifs, 0⟩] scope pos) (tD wi g tt tk tv (own.map (·.2))) := by
  refine ⟨fun pins s σ H Q I h => ?_⟩
  rw [arm_eval_DictComp]
  refine core hu hc hN I hi ok hg ht hk he hs h fun D C s' m H' I' q hn f => ⟨m, hn, fun h'' sb => ?_⟩
  obtain ⟨f0, f1, f2, f3, f4, f5⟩ := f
  exact ⟨.ref D, H', I'.turned (t' := s'.toks) (fun b o hb e => (sb.2 b hb).trans e) f0 f1 f3 f4 f5, rfl, q⟩
/-- x = {..} on one line, x a local -/
theorem ps_setDcT {i : Nat} {y : Str} {py : Pos} {kx vx tg iter : Expr} {ifs : List Expr} {scope : Scope} {own : List (Str × Nat)} {pos spos : Pos} {wi : TI} {g : TG} {tt : TT} {tk tv : TE} (hu : X.A.units + 1 < cLine) (hc : X.calm = true) (hN : X.N.Nodup) (hy : X.N[i]? = some y) (hyl : X.env.scope.names.lookup y = some .local)
    (hsw : swapsWith (.DictComp kx vx [⟨tg, iter, ifs, 0⟩] scope pos) (some (.Name y py)) spos.line X.env = pure true) (hi : PI X tg iter wi) (ok : BlkOk X.N X.env.scope scope own)
    (hg : ∀ s H C cl fp, PG (X.blk s H scope (compEnvC scope cl C X.env) fp) tg g) (ht : ∀ s H C cl fp, PTs (X.blk s H scope (compEnvC scope cl C X.env) fp) ifs tt)
    (hk : ∀ s H C cl fp, PE (X.blk s H scope (compEnvC scope cl C X.env) fp) kx tk) (he : ∀ s H C cl fp, PE (X.blk s H scope (compEnvC scope cl C X.env) fp) vx tv) (hs : ∀ x, foldedSetIterable iter X.env x = pure x := by intro _; rfl) :
    PS X (.Assign [.Name y py] (.DictComp kx vx [⟨tg, iter, ifs, 0⟩] scope pos) spos) (tAsg (tD wi g tt tk tv (own.map (·.2))) (gName i)) := by
  refine ⟨fun pins s σ H D I h => ?_⟩
  rw [exec_Assign_Name_used _ _ _ _ hsw]
  refine wpAny_bind (wpAny_standAt (wpAny_bind ?_))
  show wpAny _ X.A (do let _ ← comprehension (.DictComp kx vx [⟨tg, iter, ifs, 0⟩] scope pos) scope X.env (firstIterPos [⟨tg, iter, ifs, 0⟩] pos) newDict false (eval iter X.env) (some (assign (.Name y py) X.env))) _ _ s
  have h : tD wi g tt tk tv (own.map (·.2)) σ H (fun x H1 => gName i x σ H1 D.nx) := h
  refine wpAny_bind (thn (core (Qf := fun _ s' => SP X pins D .next s') hu hc hN I hi ok hg ht hk he hs h fun L C s' m H' I' q hn f => ?_) fun _ s' hq => wpAny_pure (wpAny_pure hq))
  show wpAny _ _ (assign (.Name y py) X.env (.ref L)) _ _ _
  refine wpAny_assign_Name (store_ok2 (v := V.ref L) I' hN hy (.inl hyl) rfl (fun s2 I2 ⟨a, sb, ha⟩ => ?_) (.inr hyl))
  obtain ⟨f0, f1, f2, f3, f4, f5⟩ := f
  refine ⟨m, hn.sameBut sb (fun e => ha.elim (fun z => f1 (e.trans z)) fun z => f4 y a z e.symm), fun h3 sb3 => ?_⟩
  exact ⟨_, H', I2.turned (t' := s2.toks) (fun b o hb e => (sb3.2 b hb).trans e) f0 f1 f3 f4 f5, q⟩
theorem sw_dict {kx vx : Expr} {gs : List Comprehension} {scope : Scope} {pos py : Pos} {y : Str} {l : Nat} {env : Env} (hk : env.scope.kind = .function) (hy : env.scope.names.lookup y = some .local) (hl : (py.line == pos.line) = true)
    (ha : (scope.names.any fun (n, k) => n == y && (k == .local || k == .cell)) = false) : swapsWith (.DictComp kx vx gs scope pos) (some (.Name y py)) l env = pure true := by
  have ky : env.kindOf y = some .local := hy
  have hb : env.blockKind = .function := by unfold Env.blockKind; rw [hk]; rfl
  unfold swapsWith
  simp only [hb, ky, ha, Expr.pos, hl]
  rfl
/-- over a list that stays -/
theorem dcT_list {K : PySem.W.Frag} {a : Addr} {xs : List V} {g : TG} {tt : TT} {tk tv : TE} {vs : List Nat} {σ : L2.St} {H1 : Hp} {D : Addr} {Qd : Hp → Prop} (Pv : Nat → Hp → Prop) (h0 : Pv 0 (upd H1 D (.dT []))) (hl : ∀ i H, i ≤ xs.length → Pv i H → SqL K H a xs)
    (hs : ∀ i x H, xs[i]? = some x → Pv i H → g x (wipe σ vs) H fun σ2 H2 => wipe σ2 vs = wipe σ vs ∧ tt σ2 H2 fun b H3 =>
      if b = true then tk σ2 H3 fun y H4 => tv σ2 H4 fun z H5 => ∃ kvs k c, y = .ref c ∧ H5 c = some (.tup (k.map kV)) ∧ H5 D = some (.dT kvs) ∧ kvs.length < sizeLine ∧ Pv (i + 1) (upd H5 D (.dT (putK kvs k z))) else Pv (i + 1) H3) (hd : ∀ H, Pv xs.length H → Qd H) :
    ∃ W : Nat → Nat → Hp → Prop, (∃ m, W 0 m (upd H1 D (.dT []))) ∧ ∀ i m H, W i m H →
      ((Itl K a).stop i H ∧ Qd H) ∨ ((Itl K a).go i H ∧ ∃ Nx : Hp → Prop, (∀ H', Nx H' → ∃ m', m' < m ∧ W (i + 1) m' H') ∧ ∀ x H', (Itl K a).yld i H x H' → g x (wipe σ vs) H' fun σ2 H2 => wipe σ2 vs = wipe σ vs ∧ tt σ2 H2 fun b H3 =>
        if b = true then tk σ2 H3 fun y H4 => tv σ2 H4 fun z H5 => ∃ kvs k c, y = .ref c ∧ H5 c = some (.tup (k.map kV)) ∧ H5 D = some (.dT kvs) ∧ kvs.length < sizeLine ∧ Nx (upd H5 D (.dT (putK kvs k z))) else Nx H3) := by
  refine ⟨fun i m H => m = xs.length - i ∧ i ≤ xs.length ∧ Pv i H, ⟨xs.length, by simp, Nat.zero_le _, h0⟩, ?_⟩
  rintro i m H ⟨rfl, hi, p⟩
  have q := hl i H hi p
  rcases Nat.lt_or_ge i xs.length with lt | ge
  · refine .inr ⟨⟨xs, xs[i], q, by simp [lt]⟩, Pv (i + 1), fun H' p' => ⟨xs.length - (i + 1), by omega, rfl, lt, p'⟩, fun x H' y => ?_⟩
    obtain ⟨e, y⟩ := y
    subst e
    exact hs i x _ (y xs q) p
  · obtain rfl : i = xs.length := by omega
    exact .inl ⟨⟨xs, q, Nat.le_refl _⟩, hd H p⟩
end
end DcT
namespace L2
open PySem PySem.Spec PyProof.Rows
/-- a callee that may raise, called where it doesn't -/
theorem passN {X : Cx} {C : CXT} (h : C = L2.CX X.prog X.w) : Passes C X (fun _ _ _ => False) := by
  subst h
  exact passes_call (W := fun _ _ _ _ => False) takes0 (fun _ _ _ _ h => h)
section
variable {X : Cx} {CX : CXT} {k : Nat} {f C : Addr} {fd : FuncData} {ps : List Str} {sp : Sp} {E : St → XK} {x m : Str} {p pos apos : Pos} {e o : Expr} {es : List Expr} {ta : TE} {t : TA}
/-- o.m(e, ..), what it may raise told at the slots -/
def tMethX (C : Addr) (m : Str) (sp : Sp) (E : St → XK) (ta : TE) (t : TA) : TE := fun σ H Q => ta σ H fun x H1 => ∃ a dx fs, x = .ref a ∧ H1 a = some (.ins C dx fs) ∧ fs.lookup m = none ∧ t σ H1 fun vs H2 => sp (.ref a :: vs) H2 Q (E σ)
theorem pe_methX {pl : Sem Bool} (he : PE X o ta) (c : Cls X.K C) (hm : Meth X.K C m f) (F : FnOk X.prog X.w X.K X.mg X.base CX k f fd ps sp) (hr : Room k X.A) (hb : Binds X.K fd ps []) (hx : ∀ σ, PassesAt CX X σ (E σ)) (ha : PA X (e :: es) t)
    (hst : starEach (e :: es) X.env = (false, eval e X.env) :: starEach es X.env := by rfl) (hpl : (backTo pos (starEach es X.env)).any (·.1) = false := by rfl)
    (ht : eval (.Call (.Attribute o m apos) (e :: es) [] pos) X.env = (do
      let ov ← eval o X.env
      standAt apos.atName
      let (f, first) ← holding [ov] (getMethod ov m pl)
      callWith pos f first (backTo pos (starEach (e :: es) X.env)) (backToKw pos (keywordEach [] X.env))) := by rfl) :
    PE X (.Call (.Attribute o m apos) (e :: es) [] pos) (tMethX C m sp E ta t) := by
  refine ⟨fun pins s σ H Q I h => ?_⟩
  refine PySem.W.methodCall_KW (pl := pl) (thn (he.run pins s σ H _ I h) fun u s1 ⟨x, H1, I1, rx, a, dx, fs, ex, ea, l, q⟩ => ?_) ht
  subst ex
  obtain rfl : u = Value.ref a := rx
  refine getmeth_ok I1 ea c hm l ?_
  refine PySem.W.callWith_K (first := [.ref a]) (h₀ := X.base) I.ok.mod.kin hm.kp (thn (ha.run pos pins s1 σ H1 _ I1 q) fun us s2 ⟨vs, H2, I2, r, q2⟩ => ⟨I2.kIn, ?_⟩) hst hpl
  exact run_fnS (us := .ref a :: us) (vs := .ref a :: vs) F hr hb (hx σ) I2 (.cons rfl r) q2
theorem pe_methX0 {pl : Sem Bool} (he : PE X o ta) (c : Cls X.K C) (hm : Meth X.K C m f) (F : FnOk X.prog X.w X.K X.mg X.base CX k f fd ps sp) (hr : Room k X.A) (hb : Binds X.K fd ps []) (hx : ∀ σ, PassesAt CX X σ (E σ))
    (ht : eval (.Call (.Attribute o m apos) [] [] pos) X.env = (do
      let ov ← eval o X.env
      standAt apos.atName
      let (f, first) ← holding [ov] (getMethod ov m pl)
      callWith pos f first (backTo pos (starEach [] X.env)) (backToKw pos (keywordEach [] X.env))) := by rfl) :
    PE X (.Call (.Attribute o m apos) [] [] pos) (tMethX C m sp E ta tNil) := by
  refine ⟨fun pins s σ H Q I h => ?_⟩
  refine PySem.W.methodCall_KW (pl := pl) (thn (he.run pins s σ H _ I h) fun u s1 ⟨x, H1, I1, rx, a, dx, fs, ex, ea, l, q⟩ => ?_) ht
  subst ex
  obtain rfl : u = Value.ref a := rx
  refine getmeth_ok I1 ea c hm l ?_
  exact PySem.W.callWith_K0 (first := [.ref a]) I1.kIn hm.kp (run_fnS (us := [.ref a]) (vs := [.ref a]) F hr hb (hx σ) I1 (.cons rfl .nil) q)
/-- C(e, ..), what its __init__ may raise told at the slots -/
def tMakeX (C : Addr) (sp : Sp) (E : St → XK) (t : TA) : TE := fun σ H Q => t σ H fun vs H1 => ∀ x dx, H1 x = none → H1 dx = none → dx ≠ x →
  sp (.ref x :: vs) (upd (upd H1 dx (.own x)) x (.ins C dx [])) (fun v H2 => v = .non ∧ Q (.ref x) H2) (E σ)
theorem pe_makeX (M : Mk X.K C f) (F : FnOk X.prog X.w X.K X.mg X.base CX k f fd ps sp) (hr : Room (k + 1) X.A) (hg : Gl X x) (hm : X.mg x = some (.ref C)) (hb : Binds X.K fd ps []) (hx : ∀ σ, PassesAt CX X σ (E σ))
    (ha : PA X (e :: es) t) (hdb : (x == ("__debug__" : Str)) = false := by decide) (he : starEach (e :: es) X.env = (false, eval e X.env) :: starEach es X.env := by rfl) (hpl : (backTo pos (starEach es X.env)).any (·.1) = false := by rfl) :
    PE X (.Call (.Name x p) (e :: es) [] pos) (tMakeX C sp E t) := by
  refine ⟨fun pins s σ H Q I h => ?_⟩
  refine wpAny_Call_Name_kw (ld_glob I hg hm ?_ hdb)
  refine PySem.W.callWith_K (h₀ := X.base) I.ok.mod.kin M.kp (thn (ha.run pos pins s σ H _ I h) fun us s1 ⟨vs, H1, I1, r, q⟩ => ⟨I1.kIn, ?_⟩) he hpl
  have hq := q (s1.heap.objs.size + 1) s1.heap.objs.size (I1.hok.fresh (Nat.le_succ _)) (I1.hok.fresh (Nat.le_refl _)) (Nat.ne_of_lt (Nat.lt_succ_self _))
  have I2 := Inv.made (C := C) I1
  have r2 : Vals (V.ref (s1.heap.objs.size + 1) :: vs) (Value.ref (s1.heap.objs.size + 1) :: us) := .cons rfl r
  have hl : (Value.ref (s1.heap.objs.size + 1) :: us).length = ps.length := by
    have e := r2.length
    rw [F.len _ _ _ _ hq] at e
    exact e.symm
  have b := hb _ (Value.ref (s1.heap.objs.size + 1) :: us) I2.kIn (by rw [List.append_nil]; exact hl)
  rw [List.append_nil] at b
  refine wpAny_call (make_map (f := f) I1.kIn M.makes M.init (beq_iff_eq.mp M.fn) (codeAny_mono (F.run _ X.stack _ _ ⟨Value.ref (s1.heap.objs.size + 1) :: us, []⟩ (Value.ref (s1.heap.objs.size + 1) :: us) _ _ (E σ) (hr.make C us [])
    (I2.env0.make C us []) b r2 hq) fun r s' hq' => ?_))
  cases r with
  | error e => exact hx σ pins _ _ e s' I2 hq'
  | ok fl =>
    cases fl with
    | ret u =>
      obtain ⟨v, H', I3, rv, ev, q3⟩ := I2.after hq'
      subst ev
      exact ⟨rv, ⟨V.ref (s1.heap.objs.size + 1), H', I3, rfl, q3⟩⟩
    | next => exact False.elim hq'
    | brk => exact False.elim hq'
    | cont => exact False.elim hq'
end
/-- isinstance(e, c), e the exception that the suite holds, with a dict of its own -/
theorem call_isX {X : Cx} {a D : Addr} {cls : Value} {oe : Obj} {d : Option Addr} {pn : List (Addr × Obj)} (C : ExcC X.K D) (hz : Zc cls d oe) (hf : ∃ vs, oe.data = .fields vs) :
    CallR (X.suite a ((a, oe) :: pn)) (.builtin "isinstance") (fun xs H Q => ∃ (dd : Addr) (fs : List (Str × V)) (c : V) (cv : Value) (b : Bool), cls = .ref D ∧ d = some dd ∧ H dd = some (.xd fs) ∧ xs = [.ref a, c] ∧ (∀ u, RelV c u → u = cv) ∧ PySem.W.kitOne X.K (.ref D) cv = some b ∧ Q (.bl b) H) := by
  intro pins s σ H xs us Q I r h
  obtain ⟨dd, fs, c, cv, b, rfl, rfl, ed, rfl, hcv, e, q⟩ := h
  cases r with
  | cons rx rr =>
    cases rr with
    | cons rt rr =>
      cases rr
      cases rx
      have ec := hcv _ rt
      subst ec
      obtain ⟨hget, _⟩ := I.pin (a, oe) (List.mem_append.mpr (.inl List.mem_cons_self))
      obtain ⟨vs, hv⟩ := hf
      have hx : ObjOk X.prog X.w H s.heap dd (.xd fs) := I.hok dd _ ed
      obtain ⟨mA, hns, hr⟩ := hx
      obtain ⟨od, ho, hl⟩ := lookIn_ns hns
      have J : PySem.W.InstAt s.heap a oe D (some od) := ⟨hget, hz.1, by unfold PySem.W.notCls; rw [hv] <;> rfl, by rw [hz.2]; exact ho⟩
      have hcl : (PySem.W.clsIn X.K D).isSome = true := by
        obtain ⟨cdD, hcD, _⟩ := PySem.W.any_some C.hd
        rw [hcD]
        rfl
      exact PySem.W.kia_one (PySem.W.kitx_exc hcl C.hg C.hk C.hs C.ha C.hn C.ht C.hm) I.kIn J e (fun z => nomatch z) fun tk => ⟨.bl b, H, I.kept (t' := tk) fun _ _ z => z, rfl, q⟩
/-! ### two dicts that hold the same, things at addresses too -/
def sameB : V → Bool
  | .ref _ => true
  | v => flatB v
theorem eqAt_sameB {A : Around} {s : Shared} {v : V} {u u' : Value} (r : RelV v u) (r' : RelV v u') (f : sameB v = true) : SeqAt.EqAt A s u u' true := by
  cases v with
  | ref a =>
    cases (show u = Value.ref a from r)
    cases (show u' = Value.ref a from r')
    exact SeqAt.EqAt.same _
  | non => exact eqAt_same r r' f
  | bl b => exact eqAt_same r r' f
  | int i => exact eqAt_same r r' f
  | str x => exact eqAt_same r r' f
  | byt b => exact eqAt_same r r' f
  | flt x => exact eqAt_same r r' f
  | ty n => exact eqAt_same r r' f
theorem hits_allS {κ : Type} [DecidableEq κ] {A : Around} {s : Shared} {kvs : List (κ × V)} {vb : List (κ × Value)} (rb : KV kvs vb) {ks : List (κ × V)} {va : List (κ × Value)} (ra : KV ks va) :
    (∀ p ∈ ks, valV kvs p.1 = some p.2 ∧ sameB p.2 = true) → PySem.W.KeqHits A s vb va true := by
  unfold KV at ra
  induction ra with
  | nil => intro _; exact .nil
  | @cons p q ps qs h t ih =>
    intro hp
    obtain ⟨h1, h2⟩ := h
    obtain ⟨e, f⟩ := hp p List.mem_cons_self
    have rr : RelO (some p.2) (valueAt vb p.1) := by rw [← e]; exact rb.val p.1
    obtain ⟨y, hy, ry⟩ := rr.some_of
    obtain ⟨k, v⟩ := q
    have h1' : p.1 = k := h1
    rw [h1'] at hy
    show PySem.W.KeqHits A s vb ((k, v) :: qs) (true && true)
    exact .hit hy (eqAt_sameB h2 ry f) (ih fun p' hm => hp p' (List.mem_cons_of_mem _ hm))
def rNeS : R2 := fun x y H Q => ∃ a b ks ls, x = .ref a ∧ y = .ref b ∧ H a = some (.dK ks) ∧ H b = some (.dK ls) ∧ ks.length = ls.length ∧ (∀ p ∈ ks, valV ls p.1 = some p.2 ∧ sameB p.2 = true) ∧ Q (.bl false) H
theorem op_neS {X : Cx} (hu : X.A.units + 1 < cLine) : OpR X (compareOp .NotEq) rNeS := by
  intro pins s σ H x y v u Q I rx ry h
  obtain ⟨a, b, ks, ls, rfl, rfl, ea, eb, hlen, hp, q⟩ := h
  obtain rfl : v = Value.ref a := rx
  obtain rfl : u = Value.ref b := ry
  obtain ⟨_, ya, va, ra, da⟩ := (show ObjOk X.prog X.w H s.heap a (.dK ks) from I.hok a _ ea)
  obtain ⟨_, yb, vb, rb, db⟩ := (show ObjOk X.prog X.w H s.heap b (.dK ls) from I.hok b _ eb)
  have hl : va.length = vb.length := by rw [← ra.length, ← rb.length]; exact hlen
  exact PySem.W.keq_ne (knd := mixKind X.prog X.w) (r := true) ya yb da db (by omega) (fun _ => hits_allS rb ra hp) (fin_bl I q (by simp [hl]))
def rEqS : R2 := fun x y H Q => ∃ a b ks ls, x = .ref a ∧ y = .ref b ∧ H a = some (.dK ks) ∧ H b = some (.dK ls) ∧ ks.length = ls.length ∧ (∀ p ∈ ks, valV ls p.1 = some p.2 ∧ sameB p.2 = true) ∧ Q (.bl true) H
theorem op_eqSX {X : Cx} (hu : X.A.units + 1 < cLine) : OpR X (compareOp .Eq) rEqS := by
  intro pins s σ H x y v u Q I rx ry h
  obtain ⟨a, b, ks, ls, rfl, rfl, ea, eb, hlen, hp, q⟩ := h
  obtain rfl : v = Value.ref a := rx
  obtain rfl : u = Value.ref b := ry
  obtain ⟨_, ya, va, ra, da⟩ := (show ObjOk X.prog X.w H s.heap a (.dK ks) from I.hok a _ ea)
  obtain ⟨_, yb, vb, rb, db⟩ := (show ObjOk X.prog X.w H s.heap b (.dK ls) from I.hok b _ eb)
  have hl : va.length = vb.length := by rw [← ra.length, ← rb.length]; exact hlen
  exact PySem.W.keq_eq (knd := mixKind X.prog X.w) (r := true) ya yb da db (by omega) (fun _ => hits_allS rb ra hp) (fin_bl I q (by simp [hl]))
theorem kit_self {K : PySem.W.Frag} (x : Addr) : PySem.W.kitOne K (.ref x) (.ref x) = some true := by
  show (if (Value.ref x == Value.ref x) = true then some true else _) = some true
  rw [if_pos (by simp)]
theorem kit_ref {K : PySem.W.Frag} {x y : Addr} (hdct : PySem.W.hasDictIn K y = true) (ht : PySem.W.typeIn K (.ref y) = some (.type "type")) (h4 : PySem.W.subIn K (.ref x) (.ref y) = some true) : PySem.W.kitOne K (.ref x) (.ref y) = some true := by
  obtain ⟨cd, hc, _⟩ := PySem.W.any_some hdct
  have e2 : ((PySem.W.clsIn K y).isSome && PySem.W.typeIn K (.ref y) == some (.type "type")) = true := by rw [hc, ht] <;> rfl
  show (if (Value.ref x == Value.ref y) = true then some true else if ((PySem.W.clsIn K y).isSome && PySem.W.typeIn K (.ref y) == some (.type "type")) = true then PySem.W.subIn K (.ref x) (.ref y) else none) = some true
  rw [if_pos e2, h4]
  split <;> rfl
/-! ### two dicts compared whose values are data: True or False -/
def eqT (D : V → PyData) (ks ls : List (Key × V)) : Bool := (ks.length == ls.length) && ks.all fun p => match valV ls p.1 with
  | none => false
  | some v => PyData.eqv (D p.2) (D v)
theorem hits_data {X : Cx} {pins : List (Addr × Obj)} {σ : St} {H : Hp} {s : Shared} {A : Around} (I : Inv X pins σ H s) (hu : A.units + 65 < cLine) (D : V → PyData) {ls : List (Key × V)} {vb : List (Key × Value)} (rb : KV ls vb) (hb : ∀ p ∈ ls, Dp X.K H p.2 (D p.2) ∧ SeqAt.shaped (D p.2) = true) {ks : List (Key × V)} {va : List (Key × Value)} (ra : KV ks va) :
    (∀ p ∈ ks, Dp X.K H p.2 (D p.2) ∧ SeqAt.shaped (D p.2) = true) → PySem.W.KeqHits A.in1 s vb va (ks.all fun p => match valV ls p.1 with
      | none => false
      | some v => PyData.eqv (D p.2) (D v)) := by
  unfold KV at ra
  induction ra with
  | nil => intro _; exact .nil
  | @cons p q ps qs h t ih =>
    intro hp
    obtain ⟨h1, h2⟩ := h
    obtain ⟨k, v⟩ := q
    have h1' : p.1 = k := h1
    have rr := rb.val p.1
    have ih' := ih fun p' hm => hp p' (List.mem_cons_of_mem _ hm)
    rw [List.all_cons]
    cases e : valV ls p.1 with
    | none =>
      rw [e] at rr
      have hn : valueAt vb p.1 = none := by
        cases e2 : valueAt vb p.1 with
        | none => rfl
        | some _ => rw [e2] at rr; exact (show False from rr).elim
      rw [h1'] at hn
      exact .miss hn
    | some y =>
      rw [e] at rr
      obtain ⟨u, hy, ry⟩ := rr.some_of
      rw [h1'] at hy
      have hy2 : ∃ q ∈ ls, q.2 = y := by
        unfold valV at e
        cases e3 : ls.find? fun kv => decide (kv.1 = p.1) with
        | none => rw [e3] at e; cases e
        | some q => rw [e3] at e; exact ⟨q, List.mem_of_find?_eq_some e3, Option.some.inj e⟩
      obtain ⟨q, hq, rfl⟩ := hy2
      obtain ⟨as, r1⟩ := Dp.reads I _ _ _ (hp p List.mem_cons_self).1 h2
      obtain ⟨bs, r2⟩ := Dp.reads I _ _ _ (hb q hq).1 ry
      exact .hit hy (PySem.W.keq_at r1 r2 (hp p List.mem_cons_self).2 (hb q hq).2 (by show A.units + 1 + 64 < cLine; omega)) ih'
def rEqT (K : PySem.W.Frag) (neg : Bool) : R2 := fun x y H Q => ∃ (a b : Addr) (ks ls : List (Key × V)) (D : V → PyData), x = .ref a ∧ y = .ref b ∧ H a = some (.dK ks) ∧ H b = some (.dK ls) ∧ (∀ p ∈ ks, Dp K H p.2 (D p.2) ∧ SeqAt.shaped (D p.2) = true) ∧ (∀ p ∈ ls, Dp K H p.2 (D p.2) ∧ SeqAt.shaped (D p.2) = true) ∧ Q (.bl (if neg then !eqT D ks ls else eqT D ks ls)) H
theorem op_eqT {X : Cx} (hu : X.A.units + 65 < cLine) : OpR X (compareOp .Eq) (rEqT X.K false) := by
  intro pins s σ H x y v u Q I rx ry h
  obtain ⟨a, b, ks, ls, D, rfl, rfl, ea, eb, ha, hb, q⟩ := h
  obtain rfl : v = Value.ref a := rx
  obtain rfl : u = Value.ref b := ry
  obtain ⟨_, ya, va, ra, da⟩ := (show ObjOk X.prog X.w H s.heap a (.dK ks) from I.hok a _ ea)
  obtain ⟨_, yb, vb, rb, db⟩ := (show ObjOk X.prog X.w H s.heap b (.dK ls) from I.hok b _ eb)
  refine PySem.W.keq_eq (knd := mixKind X.prog X.w) ya yb da db (by omega) (fun _ => hits_data I hu D rb hb ra ha) (fin_bl I q ?_)
  unfold eqT
  rw [ra.length, rb.length]
  rfl
theorem op_neT {X : Cx} (hu : X.A.units + 65 < cLine) : OpR X (compareOp .NotEq) (rEqT X.K true) := by
  intro pins s σ H x y v u Q I rx ry h
  obtain ⟨a, b, ks, ls, D, rfl, rfl, ea, eb, ha, hb, q⟩ := h
  obtain rfl : v = Value.ref a := rx
  obtain rfl : u = Value.ref b := ry
  obtain ⟨_, ya, va, ra, da⟩ := (show ObjOk X.prog X.w H s.heap a (.dK ks) from I.hok a _ ea)
  obtain ⟨_, yb, vb, rb, db⟩ := (show ObjOk X.prog X.w H s.heap b (.dK ls) from I.hok b _ eb)
  refine PySem.W.keq_ne (knd := mixKind X.prog X.w) ya yb da db (by omega) (fun _ => hits_data I hu D rb hb ra ha) (fin_bl I q ?_)
  unfold eqT
  rw [ra.length, rb.length]
  rfl
/-! ### == of two objects of an own class by the class's own def, whatever it tells -/
def rEqO (C : Addr) (sp : Sp) (E : XK) : R2 := fun x y H Q => ∃ (a b dx dy : Addr) (fs gs : List (Str × V)), x = .ref a ∧ y = .ref b ∧ H a = some (.ins C dx fs) ∧ H b = some (.ins C dy gs) ∧ sp [.ref a, .ref b] H (fun v H' => ∃ c, v = .bl c ∧ Q (.bl c) H') E
theorem op_eqO {X : Cx} {CX : CXT} {n : Nat} {C f : Addr} {fd : FuncData} {ps : List Str} {sp : Sp} {E : XK} (F : FnOk X.prog X.w X.K X.mg X.base CX n f fd ps sp) (hrm : Room n X.A)
    (hs : PySem.W.findIn X.K (.ref C) "__eq__" = some (some (.ref f))) (hf : PySem.W.isFn X.K (.ref f) = true) (hb : Binds X.K fd ps []) (hx : Passes CX X E) : OpR X (compareOp .Eq) (rEqO C sp E) := by
  intro pins s σ H x y v u Q I rx ry h
  obtain ⟨a, b, dx, dy, fs, gs, rfl, rfl, ha, hb', hsp⟩ := h
  cases (show v = Value.ref a from rx)
  cases (show u = Value.ref b from ry)
  obtain ⟨mA, J, _⟩ := ins_get I.hok ha
  obtain ⟨mB, J', _⟩ := ins_get I.hok hb'
  obtain ⟨od, J, _⟩ := J.look
  obtain ⟨od', J', _⟩ := J'.look
  obtain ⟨m, hF⟩ := I.fr
  refine PySem.W.cmp_K (op := .Eq) (tb := .ref C) hrm.units0 hF I.ok.mod.kin J J'.type (by simp [PySem.W.notFirst]) hs hf ?_
  refine wpAny_mono (run_fn (us := [.ref a, .ref b]) (vs := [.ref a, .ref b]) (dvs := []) (ds := []) F hrm hb .nil hx I (.cons rfl (.cons rfl .nil)) hsp) (fun r s' q => ?_) fun _ _ z => z
  obtain ⟨w, H', I', rw', c, ew, q⟩ := q
  subst ew
  cases rw'
  exact ⟨.bl c, H', I', rfl, q⟩
end L2
namespace LR
open PySem PySem.Spec PyProof.Rows L2 RT
section
variable {prog : Program} {w : World} {A : Around} {s : Shared} {R : Result → Shared → Prop}
theorem extend_rev {it l : Addr} {items : Array Value} (hh : A.handled = none) (hit : s.heap.IsRevIter it l ((items.size : Int) - 1)) (hl : s.heap.IsList l items) (hne : l ≠ it) (S : Addr) (hSi : S ≠ it) (hSl : S ≠ l) (res : Value) (c₀ : Nat)
    (hS : s.heap.get? S = some { cls := .type "list", data := .seq #[] c₀ }) (hn : items.size ≤ sizeLine)
    (hR : ∀ s' acc' c', Moved (S :: [it]) (fun a b => b = a) s s' → s'.heap.get? S = some { cls := .type "list", dict := none, data := .seq acc' c', slots := #[] } → ItemsOf (fun i v => items[items.size - 1 - i]? = some v) acc' items.size → R (.ok (.ret res)) s') :
    wpAny (model prog w) A.in1 (Builtin.List.listExtendWith (.ref S) (.ref it) res)
      (fun fin s' => match fin with | .done f => R (.ok f) s' | .again c' => c'.quiet = true ∧ codeAny (model prog w) A c' R s') (fun e s' => R (.error e) s') s := by
  have W := (Walks.listRev (prog := prog) (w := w) (A := A.in1) hh it l hne items).toS
  have hSf : S ∉ [it, l] := by simp only [List.mem_cons, List.not_mem_nil, or_false, not_or]; exact ⟨hSi, hSl⟩
  have hT : s.TypeIs (.ref it) "list_reverseiterator" := hit.typeIs
  have h1 : Builtin.List.listSameRef (.ref S) (.ref it) = false := by simp [Builtin.List.listSameRef, hSi]
  unfold Builtin.List.listExtendWith
  refine wpAny_bind (wpAny_typeOf hT ?_)
  rw [if_neg (by rw [h1]; decide)]
  refine wpAny_bind (wpAny_pyIter_revIter hit ?_)
  refine wpAny_bind (wpAny_holding ?_)
  unfold Builtin.List.listLengthHint
  refine wpAny_bind (wpAny_specialOf hT nolen_lri ?_)
  show wpAny _ A.in1 (specialOf (Value.ref it) (Str.ofString "__length_hint__") >>= _) _ _ _
  refine wpAny_bind (wpAny_specialOf hT hint_lri ?_)
  generalize hid : ("list_reverseiterator.__length_hint__" : String) = id0
  wp_delta
  rw [show splitId id0 = some ("list_reverseiterator", "__length_hint__") from by subst hid; decide +kernel]
  subst hid
  refine wpAny_bind (wpAny_isInstance (b := true) hT (by rw [isSubtype_type]; kernel_rfl) ?_)
  refine wpAny_pure ?_
  rw [if_neg (by decide)]
  have e0 : ((items.size : Nat) : Int) - 1 - ((0 : Nat) : Int) = (items.size : Int) - 1 := by omega
  refine wpAny_pure ⟨plainId_quiet F.plain_extend_loop _, codeAny_extend_loopS W hn _ hSf _ items.size 0 _ _ _ rfl (Nat.zero_le _) ⟨Nat.zero_le _, by rw [e0]; exact hit, hl⟩ hS (ItemsOf.nil _) fun s' acc' c' hm hS' hacc => ?_⟩
  exact hR s' acc' c' hm hS' hacc
theorem list_init_rev {it l : Addr} {items : Array Value} (hh : A.handled = none) (hit : s.heap.IsRevIter it l ((items.size : Int) - 1)) (hl : s.heap.IsList l items) (hne : l ≠ it) (S : Addr) (hSi : S ≠ it) (hSl : S ≠ l)
    (hS : s.heap.get? S = some { cls := .type "list", data := .seq #[] }) (hn : items.size ≤ sizeLine)
    (hR : ∀ s' acc' c', Moved (S :: [it]) (fun a b => b = a) s s' → s'.heap.get? S = some { cls := .type "list", dict := none, data := .seq acc' c', slots := #[] } → ItemsOf (fun i v => items[items.size - 1 - i]? = some v) acc' items.size → R (.ok (.ret .none)) s') :
    wpAny (model prog w) A.in1 (Builtin.«list.__init__» ⟨[.ref S, .ref it], []⟩)
      (fun fin s' => match fin with | .done f => R (.ok f) s' | .again c' => c'.quiet = true ∧ codeAny (model prog w) A c' R s') (fun e s' => R (.error e) s') s := by
  show wpAny _ A.in1 (do let old ← Builtin.List.listItems (.ref S); Builtin.List.listUpdate (.ref S) (fun _ => #[]); letGo old.toList.reverse; Builtin.List.listExtendWith (.ref S) (.ref it) .none) _ _ s
  refine wpAny_bind ?_
  unfold Builtin.List.listItems
  refine wpAny_bind (wpAny_seqItems hS rfl (wpAny_pure ?_))
  show wpAny _ A.in1 (updateSeq S (fun _ => #[]) >>= fun _ => letGo (#[] : Array Value).toList.reverse >>= fun _ => Builtin.List.listExtendWith (.ref S) (.ref it) .none) _ _ s
  refine wpAny_bind (wpAny_updateSeq hS rfl ?_)
  have hS₂ := Heap.get?_update_self (Obj.mapSeq (fun _ => (#[] : Array Value))) hS rfl
  have oth : ∀ b o, b ≠ S → s.heap.get? b = some o → (s.heap.update S (Obj.mapSeq (fun _ => (#[] : Array Value)))).get? b = some o :=
    fun b o hb e => (Heap.get?_update_other _ _ (Ne.symm hb)).trans e
  refine wpAny_bind (wpAny_letGo ?_)
  refine extend_rev (s := { s with heap := s.heap.update S (Obj.mapSeq (fun _ => (#[] : Array Value))) }) hh (hit.at fun o e => oth it o hSi.symm e) (let ⟨o, e, r⟩ := hl; ⟨o, oth l o hSl.symm e, r⟩) hne S hSi hSl .none _ hS₂ hn fun s' acc' c' hm hS' hacc => ?_
  refine hR s' acc' c' (Moved.trans (fun _ _ _ a b => b.trans a) (Moved.then_heap (wr := S :: [it]) (G := fun a b => b = a) (Moved.refl fun _ => rfl) (Nat.le_refl _) fun b o hb e => oth b o (fun h => hb ?_) e) hm) hS' hacc
  rw [h]
  exact List.mem_cons_self
end
section
variable {prog : Program} {w : World} {A : Around} {E : Value → Shared → Prop} {s : Shared}
theorem call_list_rev {it l : Addr} {items : Array Value} {Q : Value → Shared → Prop} (hh : A.handled = none) (hit : s.heap.IsRevIter it l ((items.size : Int) - 1)) (hl : s.heap.IsList l items) (hne : l ≠ it) (hn : items.size ≤ sizeLine)
    (hQ : ∀ (h' : Heap) (tk : Nat) (acc : Array Value) (c' : Nat), (∀ b o, b ≠ it → s.heap.get? b = some o → h'.get? b = some o) → h'.get? s.heap.objs.size = some { cls := .type "list", dict := none, data := .seq acc c', slots := #[] } →
      ItemsOf (fun i v => items[items.size - 1 - i]? = some v) acc items.size → Q (.ref s.heap.objs.size) { s with heap := h', toks := tk }) :
    wpAny (model prog w) A (call (.type "list") [.ref it]) Q E s := by
  obtain ⟨oi, hoi, _⟩ := id hit
  obtain ⟨ol, hol, _⟩ := id hl
  have hSi : s.heap.objs.size ≠ it := Nat.ne_of_gt (Heap.lt_size hoi)
  have hSl : s.heap.objs.size ≠ l := Nat.ne_of_gt (Heap.lt_size hol)
  refine callType_codes (Q₁ := fun obj s₁ => obj = .ref s.heap.objs.size ∧ s₁ = { s with heap := s.heap.push { cls := .type "list", data := .seq #[] } }) F.called_list (F.typeCall_list_1 _) F.entry_list_init
    (code_list_new _ ⟨rfl, rfl⟩) fun obj s₁ h₁ => ?_
  obtain ⟨rfl, rfl⟩ := h₁
  have hS : (s.heap.push { cls := .type "list", data := .seq #[] }).get? s.heap.objs.size = some { cls := .type "list", data := .seq #[] } := Heap.get?_push_size _ rfl
  refine ⟨⟨_, hS, rfl⟩, F.args_list_init_2 _ _, list_init_rev (s := { s with heap := s.heap.push { cls := .type "list", data := .seq #[] } }) (A := A.in1) hh (hit.at fun o e => Heap.get?_push_of_some _ e) (hl.push _) hne _ hSi hSl hS hn fun s' acc' c' hm hS' hacc => ?_⟩
  refine ⟨rfl, ?_⟩
  rw [Moved.eq_with hm]
  refine hQ s'.heap s'.toks acc' c' (fun b o hb e => hm.heap b o (fun hmem => ?_) (Heap.get?_push_of_some _ e)) hS' hacc
  rcases List.mem_cons.mp hmem with e' | hmem
  · exact absurd (Heap.lt_size e) (by rw [e']; exact Nat.lt_irrefl _)
  · exact hb (List.mem_singleton.mp hmem)
end
/-- list(reversed(x)), x a list: a new list -/
def tListRev (K : PySem.W.Frag) (te : TE) : TE := fun σ H Q => te σ H fun v H1 => ∃ (a : Addr) (xs : List V), v = .ref a ∧ SqL K H1 a xs ∧ ∀ q, H1 q = none → Q (.ref q) (upd H1 q (.lst xs.reverse))
section
variable {X : Cx}
theorem pe_listRev {e : Expr} {te : TE} {p p2 pos pos2 : Pos} (hc : X.calm = true) (hg : Gl X "list") (hm : X.mg "list" = none) (hg2 : Gl X "reversed") (hm2 : X.mg "reversed" = none) (he : PE X e te)
    (hs : starEach [e] X.env = (false, eval e X.env) :: starEach [] X.env := by rfl)
    (hs2 : starEach [.Call (.Name "reversed" p2) [e] [] pos2] X.env = (false, eval (.Call (.Name "reversed" p2) [e] [] pos2) X.env) :: starEach [] X.env := by rfl) :
    PE X (.Call (.Name "list" p) [.Call (.Name "reversed" p2) [e] [] pos2] [] pos) (tListRev X.K te) := by
  refine ⟨fun pins s σ H Q I h => ?_⟩
  refine Call_ (ld_blt I hg hm boot_list (PyProof.Rows.callWith_type1 (args_cons (Call_ (ld_blt I hg2 hm2 PyProof.Rows.boot_reversed (PyProof.Rows.callWith_type1 (args_cons (thn (he.run pins s σ H _ I h) fun u s1 ⟨v, H1, I1, r1, q1⟩ => args_nil ?_) hs) hs rfl))) hs2) hs2 rfl))
  obtain ⟨a, xs, ev, hq, q⟩ := q1
  subst ev
  obtain rfl : u = Value.ref a := r1
  obtain ⟨its, rv, p', hz⟩ := I1.list hq
  refine call_reversed_list p'.isList (args_nil ?_)
  have k0 : ∀ b o, s1.heap.get? b = some o → (s1.heap.push (revObj a ((its.toArray.size : Int) - 1))).get? b = some o := fun b o e => Heap.get?_push_of_some _ e
  have I2 : Inv X pins σ H1 { s1 with heap := s1.heap.push (revObj a ((its.toArray.size : Int) - 1)) } := I1.kept (t' := s1.toks) k0
  obtain ⟨f0, f1, f2, f3, f4, f5⟩ := I1.fpOk (H' := H1) (b := s1.heap.objs.size) (Nat.le_refl _) (I1.hok.fresh (Nat.le_refl _))
  have hl := p'.isList
  obtain ⟨ol, hol, _⟩ := id hl
  have hne : a ≠ s1.heap.objs.size := Nat.ne_of_lt (Heap.lt_size hol)
  have hn : its.toArray.size ≤ sizeLine := by rw [List.size_toArray, ← rv.length]; exact hz
  refine call_list_rev (s := { s1 with heap := s1.heap.push (revObj a ((its.toArray.size : Int) - 1)) }) (I1.ok.hd hc) ⟨_, Heap.get?_push_size _ rfl, rfl, rfl⟩ (hl.push _) hne hn fun h' tk acc c' hk hS' hi => ?_
  have hfp : ∀ b ∈ [s1.heap.objs.size], FpOk X pins H1 b := fun b hb => by
    rw [List.mem_singleton.mp hb]
    exact ⟨f0, f1, f2, f3, f4, f5⟩
  refine ⟨.ref (s1.heap.push (revObj a ((its.toArray.size : Int) - 1))).objs.size, upd H1 _ (.lst xs.reverse), I2.turnedNew (t' := tk) (ch := [s1.heap.objs.size]) (ob := .lst xs.reverse) (fun b o hb e => hk b o (fun z => hb (by rw [z]; exact List.mem_singleton.mpr rfl)) e) hfp (Nat.le_refl _)
    (show ObjOk X.prog X.w _ _ _ (.lst xs.reverse) from ⟨by rw [List.length_reverse]; exact hz, acc.toList, c', vals_rev rv hi, ?_⟩), rfl, q _ (I2.hok.fresh (Nat.le_refl _))⟩
  rw [Array.toArray_toList]
  exact hS'
end
end LR
namespace L2
open PySem PySem.Spec PyProof.Rows
section
variable {X : Cx} {CX : CXT} {k : Nat} {f C : Addr} {fd : FuncData} {ps : List Str} {sp : Sp} {E : St → XK}
theorem pAt {EX : XK} (h : Passes CX X EX) : ∀ σ, PassesAt CX X σ ((fun _ => EX) σ) := fun σ pins H s e s' I hq => h pins σ H s e s' I hq
/-- a call one level below -/
theorem run_fn1 {pins : List (Addr × Obj)} {σ : St} {H : Hp} {s : Shared} {Q : VK} {us : List Value} {vs : List V} (F : FnOk X.prog X.w X.K X.mg X.base CX k f fd ps sp) (hr : Room (k + 1) X.A) (hb : Binds X.K fd ps []) (hx : PassesAt CX X σ (E σ))
    (I : Inv X pins σ H s) (r : Vals vs us) (h : sp vs H Q (E σ)) : wpAny (model X.prog X.w) X.A.in1 (call (.ref f) us) (EP X pins σ Q) X.xe s := by
  have h' : sp (vs ++ []) H Q (E σ) := by rw [List.append_nil]; exact h
  have r2 : Vals (vs ++ []) (us ++ []) := r.append .nil
  have hl : (us ++ []).length = ps.length := by rw [← r2.length]; exact F.len _ _ _ _ h'
  refine wpAny_call (codeAny_mono (F.run X.A.in1 X.stack s H ⟨us, []⟩ (us ++ []) (vs ++ []) Q (E σ) hr.in1 I.env0.in1 (hb s us I.kIn hl) r2 h') fun r s' hq => ?_)
  cases r with
  | error e => exact hx pins H s e s' I hq
  | ok fl =>
    cases fl with
    | ret u => exact I.after hq
    | next => exact False.elim hq
    | brk => exact False.elim hq
    | cont => exact False.elim hq
theorem run_fn0 {pins : List (Addr × Obj)} {σ : St} {H : Hp} {s : Shared} {Q : VK} {us : List Value} {vs : List V} (F : FnOk X.prog X.w X.K X.mg X.base CX k f fd ps sp) (hr : Room k X.A) (hb : Binds X.K fd ps []) (hx : PassesAt CX X σ (E σ))
    (I : Inv X pins σ H s) (r : Vals vs us) (h : sp vs H Q (E σ)) : wpAny (model X.prog X.w) X.A (call (.ref f) us) (EP X pins σ Q) X.xe s :=
  run_fnSD (dvs := []) (ds := []) F hr hb .nil hx I r (by rw [List.append_nil]; exact h)
/-- an own special method: where it is found -/
structure Spec1 (K : PySem.W.Frag) (C : Addr) (m : String) (f : Addr) : Prop where
  at_ : PySem.W.findIn K (.ref C) m = some (some (.ref f))
  fn : PySem.W.isFn K (.ref f) = true
  isf : PySem.W.fnIn K f = true
/-! ### o[e] by the class's own def -/
def tSubO (C : Addr) (sp : Sp) (E : St → XK) (ta tb : TE) : TE := fun σ H Q => ta σ H fun x H1 => tb σ H1 fun y H2 => ∃ a dx fs, x = .ref a ∧ H2 a = some (.ins C dx fs) ∧ sp [.ref a, y] H2 Q (E σ)
theorem pe_subO {a b : Expr} {ta tb : TE} {pos : Pos} (ha : PE X a ta) (hb : PE X b tb) (hs : Spec1 X.K C "__getitem__" f) (F : FnOk X.prog X.w X.K X.mg X.base CX k f fd ps sp) (hr : Room (k + 1) X.A) (hbd : Binds X.K fd ps []) (hx : ∀ σ, PassesAt CX X σ (E σ))
    (hsl : ∀ x i, subscripted b true (.ref x) i = runValue (.builtin "lifetime.subscript" ⟨[.ref x, i], []⟩) := by intro _ _; rfl) : PE X (.Subscript a b pos) (tSubO C sp E ta tb) := by
  refine ⟨fun pins s σ H Q I h => ?_⟩
  refine Subscript_ (binT (R := fun x y H2 => ∃ a dx fs, x = .ref a ∧ H2 a = some (.ins C dx fs) ∧ sp [.ref a, y] H2 Q (E σ)) ha hb I h fun v u s2 x y H2 I2 rx ry q => ?_)
  obtain ⟨o, dx, fs, rfl, ho, hsp⟩ := q
  cases (show v = Value.ref o from rx)
  obtain ⟨mA, J, _⟩ := ins_get I2.hok ho
  obtain ⟨od, J, _⟩ := J.look
  obtain ⟨m, hF⟩ := I2.fr
  exact PySem.W.sub_K hF I2.ok.mod.kin J hs.at_ hs.isf hs.fn (run_fn1 (vs := [.ref o, y]) F hr hbd (hx σ) I2 (.cons rfl (.cons ry .nil)) hsp) (hsl _ _)
/-! ### e in o -/
def rInO (C : Addr) (sp : Sp) (EX : XK) : R2 := fun x y H Q => ∃ (b dx : Addr) (fs : List (Str × V)), y = .ref b ∧ H b = some (.ins C dx fs) ∧ sp [.ref b, x] H (fun v H' => ∃ c, v = .bl c ∧ Q (.bl c) H') EX
theorem op_inO {EX : XK} (hs : Spec1 X.K C "__contains__" f) (F : FnOk X.prog X.w X.K X.mg X.base CX k f fd ps sp) (hr : Room k X.A) (hbd : Binds X.K fd ps []) (hx : Passes CX X EX) : OpR X (compareOp .In) (rInO C sp EX) := by
  intro pins s σ H x y v u Q I rx ry h
  obtain ⟨b, dx, fs, rfl, hb, hsp⟩ := h
  cases (show u = Value.ref b from ry)
  obtain ⟨mA, J, _⟩ := ins_get I.hok hb
  obtain ⟨od, J, _⟩ := J.look
  obtain ⟨m, hF⟩ := I.fr
  refine PySem.W.in_K hF I.ok.mod.kin J hs.at_ hs.fn ?_
  refine wpAny_mono (run_fn0 (vs := [.ref b, x]) (E := fun _ => EX) F hr hbd (pAt hx σ) I (.cons rfl (.cons rx .nil)) hsp) (fun r s' q => ?_) fun _ _ z => z
  obtain ⟨z, H', I', rw', c, ew, q⟩ := q
  subst ew
  cases rw'
  exact wpAny_pure ⟨.bl c, H', I', rfl, q⟩
theorem op_notinO {EX : XK} (hs : Spec1 X.K C "__contains__" f) (F : FnOk X.prog X.w X.K X.mg X.base CX k f fd ps sp) (hr : Room k X.A) (hbd : Binds X.K fd ps []) (hx : Passes CX X EX) : OpR X (compareOp .NotIn) (fun x y H Q => rInO C sp EX x y H fun v H' => ∃ c, v = .bl c ∧ Q (.bl (!c)) H') := by
  intro pins s σ H x y v u Q I rx ry h
  obtain ⟨b, dx, fs, rfl, hb, hsp⟩ := h
  cases (show u = Value.ref b from ry)
  obtain ⟨mA, J, _⟩ := ins_get I.hok hb
  obtain ⟨od, J, _⟩ := J.look
  obtain ⟨m, hF⟩ := I.fr
  refine PySem.W.notIn_K hF I.ok.mod.kin J hs.at_ hs.fn ?_
  refine wpAny_mono (run_fn0 (vs := [.ref b, x]) (E := fun _ => EX) F hr hbd (pAt hx σ) I (.cons rfl (.cons rx .nil)) hsp) (fun r s' q => ?_) fun _ _ z => z
  obtain ⟨z, H', I', rw', c, ew, c', ec, q⟩ := q
  subst ew
  cases rw'
  cases ec
  exact wpAny_pure ⟨.bl (!c), H', I', rfl, q⟩
/-! ### len(o) -/
theorem call_lenO {EX : XK} (hs : Spec1 X.K C "__len__" f) (F : FnOk X.prog X.w X.K X.mg X.base CX k f fd ps sp) (hr : Room (k + 1) X.A) (hbd : Binds X.K fd ps []) (hx : Passes CX X EX) :
    CallR X (.builtin "len") (fun xs H Q => ∃ (a dx : Addr) (fs : List (Str × V)), xs = [.ref a] ∧ H a = some (.ins C dx fs) ∧ sp [.ref a] H (fun v H' => ∃ n : Int, v = .int n ∧ (0 ≤ n ∧ n < 2 ^ 63) ∧ Q (.int n) H') EX) := by
  intro pins s σ H xs us Q I r h
  obtain ⟨a, dx, fs, rfl, ha, hsp⟩ := h
  obtain ⟨u, rfl, rx⟩ := vals1 r
  cases (show u = Value.ref a from rx)
  obtain ⟨mA, J, _⟩ := ins_get I.hok ha
  obtain ⟨od, J, _⟩ := J.look
  obtain ⟨m, hF⟩ := I.fr
  refine PySem.W.len_K hF I.ok.mod.kin J hs.at_ hs.fn ?_
  refine wpAny_mono (run_fn1 (vs := [.ref a]) (E := fun _ => EX) F hr hbd (pAt hx σ) I (.cons rfl .nil) hsp) (fun r s' q => ?_) fun _ _ z => z
  obtain ⟨z, H', I', rw', n, ew, hn, q⟩ := q
  subst ew
  obtain ⟨t, rfl⟩ := (show ∃ t, r = Value.int n t from rw')
  exact ⟨hn, ⟨.int n, H', I'.tok _, ⟨_, rfl⟩, q⟩⟩
/-! ### o | p -/
def tOrO (C : Addr) (sp : Sp) (E : St → XK) (ta tb : TE) : TE := fun σ H Q => ta σ H fun x H1 => tb σ H1 fun y H2 => ∃ a b dx dy fs gs, x = .ref a ∧ y = .ref b ∧ H2 a = some (.ins C dx fs) ∧ H2 b = some (.ins C dy gs) ∧ sp [.ref a, .ref b] H2 (fun v H3 => (∃ c, v = .ref c) ∧ Q v H3) (E σ)
theorem pe_orO {a b : Expr} {ta tb : TE} {pos : Pos} (ha : PE X a ta) (hb : PE X b tb) (hs : Spec1 X.K C "__or__" f) (hc : PySem.W.selfFirst X.K C = true) (F : FnOk X.prog X.w X.K X.mg X.base CX k f fd ps sp) (hr : Room k X.A) (hbd : Binds X.K fd ps []) (hx : ∀ σ, PassesAt CX X σ (E σ)) : PE X (.BinOp a .BitOr b pos) (tOrO C sp E ta tb) := by
  refine ⟨fun pins s σ H Q I h => ?_⟩
  refine wpAny_BinOp (binT (R := fun x y H2 => ∃ a b dx dy fs gs, x = .ref a ∧ y = .ref b ∧ H2 a = some (.ins C dx fs) ∧ H2 b = some (.ins C dy gs) ∧ sp [.ref a, .ref b] H2 (fun v H3 => (∃ c, v = .ref c) ∧ Q v H3) (E σ)) ha hb I h fun v u s2 x y H2 I2 rx ry q => ?_)
  obtain ⟨o, p, dx, dy, fs, gs, rfl, rfl, ho, hp, hsp⟩ := q
  cases (show v = Value.ref o from rx)
  cases (show u = Value.ref p from ry)
  obtain ⟨mA, J, _⟩ := ins_get I2.hok ho
  obtain ⟨mB, J', _⟩ := ins_get I2.hok hp
  obtain ⟨od, J, _⟩ := J.look
  obtain ⟨od', J', _⟩ := J'.look
  obtain ⟨m, hF⟩ := I2.fr
  refine PySem.W.binop_K (op := .BitOr) hF I2.ok.mod.kin J J'.type hc hs.at_ hs.fn ?_
  refine wpAny_mono (run_fn0 (vs := [.ref o, .ref p]) F hr hbd (hx σ) I2 (.cons rfl (.cons rfl .nil)) hsp) (fun r s' q => ?_) fun _ _ z => z
  obtain ⟨z, H', I', rw', ⟨c, ew⟩, q⟩ := q
  subst ew
  cases (show r = Value.ref c from rw')
  exact ⟨.ref c, H', I', rfl, q⟩
end
end L2
namespace L2
open PySem PySem.Spec PyProof.Rows
/-! ### d.setdefault(t, x), t a tuple -/
def rSetDefT : V → List V → Hp → VK → Prop := fun x xs H Q => ∃ (a : Addr) (kvs : List (List L2.Key × V)) (k : List L2.Key) (b : Addr) (d : V), x = .ref a ∧ xs = [.ref b, d] ∧ H a = some (.dT kvs) ∧ H b = some (.tup (k.map kV)) ∧ kvs.length < sizeLine ∧
  (∀ v, valV kvs k = some v → Q v H) ∧ (valV kvs k = none → Q d (upd H a (.dT (putK kvs k d))))
theorem mt_setdefT {X : Cx} (hu : X.A.units + 1 < cLine) : MtR X "dict.setdefault" rSetDefT := by
  intro pins s σ H x xs v us Q I rx rxs h
  obtain ⟨a, kvs, k, b, d, rfl, rfl, ha, hb, hl, q1, q2⟩ := h
  cases rx
  obtain ⟨u1, u2, rfl, r1, r2⟩ := vals2 rxs
  cases r1
  obtain ⟨z, hd, xs', rel, dd⟩ := dt_of I.hok ha
  have hz : xs'.length ≤ sizeLine := by rw [← Paired.length rel]; exact z
  have le : (putK kvs k d).length ≤ sizeLine := by have := length_putK kvs k d; omega
  refine call_setdefault_heap (knd := tupleKind (mixKind X.prog X.w)) (k := k) (tupleKind_room_in1 hu) (key_of I.hok hb) hd dd (fun p hp => ?_) (fun hn h' dd' same => ?_) hz
  · have r := rel.val k
    rw [hp] at r
    cases ev : valV kvs k with
    | none =>
      rw [ev] at r
      exact (show False from r).elim
    | some v0 =>
      rw [ev] at r
      exact ⟨v0, H, I.tok _, r, q1 v0 ev⟩
  · have r := rel.val k
    rw [hn] at r
    have e : valV kvs k = none := by
      cases ev : valV kvs k with
      | none => rfl
      | some v0 =>
        rw [ev] at r
        exact (show False from r).elim
    obtain ⟨q, es, ep, e1, e2, e3, e4, _, e5⟩ := dd'
    refine ⟨d, upd H a (.dT (putK kvs k d)), d_write I (by rw [ha]; exact True.intro) same ⟨q, e1⟩ ⟨le, hd, _, (rel.put k hb r2).keeps fun c ys ec => ?_, q, es, ep, e1, e2, e3, e4, by first | exact e5 | assumption⟩, r2, q2 e⟩
    rw [upd_ne (ne_of ec ha (fun z => nomatch z))]
    exact ec
end L2
namespace L2
open PySem PySem.Spec PyProof.Rows
/-! ### several dicts locked at once -/
def tLockNE (t : TE) : Nat → TE
  | 0 => t
  | n + 1 => tLockE (tLockNE t n)
theorem pe_lockN {X : Cx} {e : Expr} {t : TE} (h : PE X e t) : ∀ n, PE X e (tLockNE t n)
  | 0 => h
  | n + 1 => pe_lock (pe_lockN h n)
def tLocksE (t : TE) : TE := fun σ H Q => ∃ n, tLockNE t n σ H Q
theorem pe_locks {X : Cx} {e : Expr} {t : TE} (h : PE X e t) : PE X e (tLocksE t) := ⟨fun pins s σ H Q I ⟨n, hn⟩ => (pe_lockN h n).run pins s σ H Q I hn⟩
def tLockN (t : TS) : Nat → TS
  | 0 => t
  | n + 1 => tLock (tLockN t n)
theorem ps_lockN {X : Cx} {st : Stmt} {t : TS} (h : PS X st t) : ∀ n, PS X st (tLockN t n)
  | 0 => h
  | n + 1 => ps_lock (ps_lockN h n)
def tLocks (t : TS) : TS := fun D σ H => ∃ n, tLockN t n D σ H
theorem ps_locks {X : Cx} {st : Stmt} {t : TS} (h : PS X st t) : PS X st (tLocks t) := ⟨fun pins s σ H D I ⟨n, hn⟩ => (ps_lockN h n).run pins s σ H D I hn⟩
end L2
namespace L2
open PySem PySem.Spec PyProof.Rows
/-- a statement's value; a comprehension's scope -/
def stVal : Stmt → Expr
  | .Assign _ v _ => v
  | .Return (some v) _ => v
  | _ => .Name "" ⟨0, 0, 0, 0⟩
def cmpSc (d : Scope) : Expr → Scope
  | .ListComp _ _ s _ => s
  | .DictComp _ _ _ s _ => s
  | _ => d
/-! ### a dict that nobody else writes is locked for good -/
def tFrz (t : TE) : TE := fun σ H Q => t σ H fun x H1 => ∃ d u, x = .ref d ∧ H1 d = some u ∧ Mut (some u) ∧ ∀ od, Q (.ref d) (upd H1 d (.frz od u))
theorem pe_frz {X : Cx} {e : Expr} {t : TE} (h : PE X e t) : PE X e (tFrz t) := by
  refine ⟨fun pins s σ H Q I hw => ?_⟩
  refine thn (h.run pins s σ H _ I hw) fun v s1 ⟨x, H1, I1, r, d, u, ex, hd, mu, q⟩ => ?_
  subst ex
  obtain ⟨od, I2⟩ := I1.lock hd mu
  exact ⟨.ref d, _, I2, r, q od⟩
end L2
namespace L2
open PySem PySem.Spec PyProof.Rows
/-- within a comprehension the reading must not speak of the block's own context -/
theorem pi_listK {X : Cx} {tg l : Expr} {tl : TE} {K : PySem.W.Frag} (e : X.K = K) (hl : PE X l tl) : PI X tg l (iList K tl) := by
  subst e
  exact pi_list hl
theorem pg_tupK {X : Cx} {es : List Expr} {k : Nat} {pos : Pos} {t : TGs} {K : PySem.W.Frag} (n : Nat) (hc : X.calm = true) (e : X.K = K) (h : PGs X es t)
    (hn : (assignEach es X.env).length = n := by rfl) (hst : (assignEach es X.env).findIdx? (·.1) = none := by rfl) : PG X (.Tuple es k pos) (gTup K n t) := by
  subst e
  exact pg_tup hc h hn hst
theorem pi_tupK {X : Cx} {tg l : Expr} {tl : TE} {K : PySem.W.Frag} (e : X.K = K) (hl : PE X l tl) : PI X tg l (iTup K tl) := by
  subst e
  exact pi_tup hl
/-- tuple(list), tuple(tuple), told without the block -/
def rTupS (K : PySem.W.Frag) : List V → Hp → VK → Prop := fun xs H Q => ∃ p ys, xs = [.ref p] ∧ ((SqL K H p ys ∧ ∀ l, H l = none → Q (.ref l) (upd H l (.tup ys))) ∨ (SqT K H p ys ∧ Q (.ref p) H))
end L2
namespace L2
open PySem PySem.Spec PyProof.Rows
/-! ### == of dicts whose keys are tuples, and of dicts that hold such dicts -/
section
open PySem.W PySem.SeqAt
variable {prog : Program} {w : World} {κ : Type} [DecidableEq κ] {knd : HeapKind prog w κ} {A : Around} {E : Value → Shared → Prop} {s : Shared}
def pairH (x : κ × Addr × Value) : κ × Value := (x.1, x.2.2)
theorem valH (xs : List (κ × Addr × Value)) (k : κ) : valueAt (xs.map pairH) k = (atKey xs k).map (·.2) := by
  unfold valueAt atKey
  rw [List.find?_map]
  show ((xs.find? fun x => decide (x.1 = k)).map pairH).map (·.2) = _
  cases xs.find? (fun x => decide (x.1 = k)) <;> rfl
/-- what is left of the first dict's pairs, from the j-th on -/
def RestH (kb : List (κ × Addr × Value)) (ka : List (κ × Addr × Value)) (many : Nat) (out : Bool) (A : Around) (s : Shared) (todo : List Nat) : Prop :=
  ∃ j, todo = List.range' j (many - j) ∧ j ≤ many ∧ KeqHitsIn prog w A s (kb.map pairH) ((ka.drop j).map pairH) out
theorem range_step {x j many : Nat} {todo : List Nat} (h : x :: todo = List.range' j (many - j)) : j < many ∧ x = j ∧ todo = List.range' (j + 1) (many - (j + 1)) := by
  cases d : many - j with
  | zero =>
    rw [d] at h
    exact nomatch h
  | succ z =>
    rw [d, List.range'_succ] at h
    obtain ⟨h1, h2⟩ := List.cons.inj h
    exact ⟨by omega, h1, by rw [h2]; congr 1; omega⟩
theorem range_done {j many : Nat} (h : ([] : List Nat) = List.range' j (many - j)) (hj : j ≤ many) : j = many := by
  cases d : many - j with
  | zero => omega
  | succ z =>
    rw [d, List.range'_succ] at h
    exact nomatch h
theorem samePairsH {nm : String} {a b : Addr} {ka kb : List (κ × Addr × Value)} {r : Bool} {Q : Bool → Shared → Prop} (ha : (a == sysModules) = false) (hb : (b == sysModules) = false)
    (da : s.heap.DictOfH knd a ka) (db : s.heap.DictOfH knd b kb) (hu : knd.room A) (hits : ka.length = kb.length → KeqHitsIn prog w A s (kb.map pairH) (ka.map pairH) r) (h : Q (ka.length == kb.length && r) s) :
    wpAny (model prog w) A (Builtin.Dict.samePairs nm a b) Q E s := by
  obtain ⟨o1, tab1, c1, look1, _, dat1, lay1, key1, _⟩ := da
  obtain ⟨o2, tab2, c2, look2, _, dat2, lay2, key2, dif2⟩ := db
  have z1 := size_of_entries lay1
  have z2 := size_of_entries lay2
  have n1 : ¬ (a == sysModules) = true := by simp [ha]
  have n2 : ¬ (b == sysModules) = true := by simp [hb]
  unfold Builtin.Dict.samePairs Builtin.Dict.showsAll
  rw [if_neg n1, if_neg n2]
  refine wpAny_bind <| wpAny_pure <| wpAny_bind <| wpAny_pure <| wpAny_bind <| wpAny_dictEntries look1 dat1 ?_
  dsimp only
  refine wpAny_bind <| wpAny_dictEntries look2 dat2 ?_
  by_cases same : tab1.size = tab2.size
  · have q0 : Q r s := by
      have e : (ka.length == kb.length) = true := by rw [beq_iff_eq]; omega
      rw [e, Bool.true_and] at h
      exact h
    rw [if_neg (by simp [same])]
    refine wpAny_bind <| wpAny_dictEpoch look1 dat1 <| wpAny_bind ?_
    rw [Std.Legacy.Range.forIn_eq_forIn_range']
    simp only [Std.Legacy.Range.size, Nat.sub_zero, Nat.add_sub_cancel, Nat.div_one]
    refine wpAny_forIn_list _ (fun todo st s' => s' = s ∧ st = (none, ()) ∧ RestH (prog := prog) (w := w) kb ka tab1.size r A s todo) _ (fun x todo st s' hp => ?_) (fun st s' hp => ?_) _ _ ⟨rfl, rfl, 0, by simp, Nat.zero_le _, hits (by omega)⟩
    · obtain ⟨rfl, rfl, j, hj, _, rest⟩ := hp
      obtain ⟨lt, rfl, hj2⟩ := range_step hj
      have lt' : x < ka.length := by omega
      refine wpAny_bind <| wpAny_dictEntries look1 dat1 ?_
      have at1 : tab1[x]? = some (entryOfKey knd ka[x]) := by rw [entry_at lay1 x, List.getElem?_eq_getElem lt']; rfl
      rw [at1]
      have kx := key1 _ (List.getElem_mem lt')
      rw [List.drop_eq_getElem_cons lt', List.map_cons] at rest
      show wpAny _ _ (holding [Value.ref ka[x].2.1, ka[x].2.2] _ >>= _) _ _ _
      refine wpAny_bind <| wpAny_holding <| wpAny_bind <| wpAny_dictFind_heap hu kx look2 dat2 lay2 key2 dif2 (fun miss => ?_) (fun i p hit => ?_)
      · have hv : valueAt (kb.map pairH) ka[x].1 = none := by rw [valH, atKey_none_of_get miss]; rfl
        obtain ⟨_, rfl⟩ | ⟨y, _, _, hy, _⟩ := rest.inv
        · exact wpAny_pure (by rw [if_pos (by decide)]; exact wpAny_pure (wpAny_pure q0))
        · exact nomatch hv.symm.trans hy
      · have hv : valueAt (kb.map pairH) ka[x].1 = some p.2 := by rw [valH, atKey_of_get dif2 hit]; rfl
        refine wpAny_bind <| wpAny_dictEntries look2 dat2 ?_
        rw [entry_at lay2 i, hit]
        obtain ⟨hn, _⟩ | ⟨y, t, u, hy, heq, more, rfl⟩ := rest.inv
        · exact nomatch hn.symm.trans hv
        · cases hv.symm.trans hy
          refine wpAny_holding (heq _ _ ?_)
          cases t with
          | false =>
            rw [if_pos (by decide)]
            exact wpAny_pure (wpAny_pure q0)
          | true =>
            rw [if_neg (by decide)]
            refine wpAny_bind <| wpAny_dictEpoch look1 dat1 ?_
            rw [if_neg (by simp)]
            exact wpAny_pure ⟨rfl, rfl, x + 1, hj2, lt, more⟩
    · obtain ⟨rfl, rfl, j, hj, le, rest⟩ := hp
      have := range_done hj le
      rw [this, z1, List.drop_length] at rest
      cases rest
      exact wpAny_pure q0
  · have e : (ka.length == kb.length) = false := by rw [beq_eq_false_iff_ne]; omega
    rw [e, Bool.false_and] at h
    rw [if_pos (by simp [same])]
    exact wpAny_bind (wpAny_rule (wpAny_pure h))
theorem rcH_dicts {a b : Addr} {ka kb : List (κ × Addr × Value)} {r : Bool} {Q : Value → Shared → Prop} (ha : (a == sysModules) = false) (hb : (b == sysModules) = false)
    (da : s.heap.DictOfH knd a ka) (db : s.heap.DictOfH knd b kb) (hr : knd.room A.in1) (hu : A.units < cLine) (hits : ka.length = kb.length → KeqHitsIn prog w A.in1 s (kb.map pairH) (ka.map pairH) r) (h : Q (.bool (ka.length == kb.length && r)) s) : wpAny (model prog w) A (richCompare .Eq (.ref a) (.ref b)) Q E s := by
  have told : wpAny (model prog w) A.in1 (Builtin.Dict.samePairs "dict.__eq__" a b) (fun c s' => c = (ka.length == kb.length && r) ∧ s' = s) E s := samePairsH ha hb da db hr hits ⟨rfl, rfl⟩
  have ta := da.typeIs
  have tb := db.typeIs
  refine wpAny_richCompare_same_room (op := .Eq) ta tb PySem.F.slot_dict_eq (wpAny_call_entry PySem.F.slot_dict_eq ta PySem.F.entry_dict_eq (s := s) ?_ (PySem.F.args_dict_eq_2 _ _)) hu
  show wpAny _ _ (Builtin.Dict.dictSlotArgs "__eq__" ⟨[.ref a, .ref b], []⟩ >>= _) _ _ s
  unfold Builtin.Dict.dictSlotArgs
  refine wpAny_bind <| wpAny_bind <| wpAny_notOrdered_dict ta <| wpAny_pure <| wpAny_bind <| wpAny_isInstance (T := "dict") tb PySem.F.sub_dict_dict ?_
  simp only [Bool.not_true, Bool.false_eq_true, if_false]
  refine wpAny_bind <| wpAny_pure <| wpAny_bind <| wpAny_pure <| wpAny_bind <| wpAny_mono told (fun c s' e => ?_) fun _ _ z => z
  obtain ⟨rfl, rfl⟩ := e
  exact wpAny_pure ⟨_, rfl, (fun x => nomatch x), by simpa using h⟩
end
abbrev KRow := List Key
def rowsV (us : List KRow) : List (KRow × V) := us.map fun k => (k, V.bl true)
def hasR (ls : List KRow) (u : KRow) : Bool := ls.any fun k => decide (k = u)
theorem hasR_iff {ls : List KRow} {u : KRow} : hasR ls u = true ↔ u ∈ ls := by
  unfold hasR
  rw [List.any_eq_true]
  constructor
  · rintro ⟨x, hx, e⟩
    rw [← of_decide_eq_true e]
    exact hx
  · exact fun h => ⟨u, h, decide_eq_true rfl⟩
theorem hasR_no {ls : List KRow} {u : KRow} (h : u ∉ ls) : hasR ls u = false := by
  cases e : hasR ls u with
  | false => rfl
  | true => exact absurd (hasR_iff.mp e) h
def sameRows (us ls : List KRow) : Bool := us.length == ls.length && us.all fun k => hasR ls k
def rowsIn (H : Hp) (v : V) (us : List KRow) : Prop := ∃ q, v = .ref q ∧ H q = some (.dT (rowsV us))
theorem rowsV_inj {us ls : List KRow} (h : rowsV us = rowsV ls) : us = ls := by
  have := congrArg (List.map Prod.fst) h
  unfold rowsV at this
  rw [List.map_map, List.map_map] at this
  have e : ∀ l : List KRow, l.map ((fun x => x.1) ∘ fun k => (k, V.bl true)) = l := fun l => List.map_id l
  exact (e us).symm.trans (this.trans (e ls))
theorem sameRows_self (us : List KRow) : sameRows us us = true := by
  unfold sameRows
  rw [Bool.and_eq_true, List.all_eq_true]
  exact ⟨by simp, fun k hk => hasR_iff.mpr hk⟩
section
variable {X : Cx}
theorem hitsR {pw : Program} {w : World} {H : Hp} {A : Around} {s : Shared} {ls : List KRow} {kb : List (KRow × Addr × Value)} (rb : KT H (rowsV ls) kb) : ∀ {us : List KRow} {ka : List (KRow × Addr × Value)}, KT H (rowsV us) ka → PySem.W.KeqHitsIn pw w A s (kb.map pairH) (ka.map pairH) (us.all fun k => hasR ls k)
  | [], _, r => by cases r; exact .nil
  | u :: us, _, r => by
    cases r with
    | @cons _ q _ qs h t =>
      obtain ⟨h1, h2, h3⟩ := h
      have ih := hitsR (s := s) (A := A) (pw := pw) (w := w) rb t
      rw [List.all_cons, List.map_cons]
      have hv := rb.val u
      by_cases hm : u ∈ ls
      · rw [hasR_iff.mpr hm]
        have e1 : valV (rowsV ls) u = some (.bl true) := by
          clear hv ih rb
          unfold rowsV
          induction ls with
          | nil => cases hm
          | cons x xs ih =>
            rw [List.map_cons]
            by_cases e : x = u
            · unfold valV
              simp [e]
            · rcases List.mem_cons.mp hm with z | z
              · exact absurd z.symm e
              · have := ih z
                unfold valV at this ⊢
                rw [List.find?_cons_of_neg (by simp [e])]
                exact this
        rw [e1] at hv
        obtain ⟨y, hy, ry⟩ := hv.some_of
        refine .hit (v := q.2.2) (k := q.1) (y := y) (by rw [valH, ← h1]; exact hy) ?_ ih
        exact (eqAt_sameB h3 ry rfl).inModel _ _
      · rw [hasR_no hm, Bool.false_and]
        have e1 : valV (rowsV ls) u = none := by
          unfold valV
          rw [Option.map_eq_none_iff, List.find?_eq_none]
          intro x hx e
          obtain ⟨z, hz, rfl⟩ := List.mem_map.mp hx
          exact hm (by rw [← (show z = u from of_decide_eq_true e)]; exact hz)
        rw [e1] at hv
        have hn : (atKey kb u).map (·.2) = none := by
          cases e2 : (atKey kb u).map (·.2) with
          | none => rfl
          | some _ => rw [e2] at hv; exact (show False from hv).elim
        exact .miss (v := q.2.2) (k := q.1) (by rw [valH, ← h1]; exact hn)
theorem eqIn_rows {pins : List (Addr × Obj)} {σ : L2.St} {H : Hp} {s : Shared} {A : Around} (I : Inv X pins σ H s) (hu : A.units + 2 < cLine) {q q' : Addr} {us ls : List KRow} (h1 : H q = some (.dT (rowsV us))) (h2 : H q' = some (.dT (rowsV ls))) : PySem.SeqAt.EqIn X.prog X.w A s (.ref q) (.ref q') (sameRows us ls) := by
  by_cases e : q = q'
  · subst e
    rw [h1] at h2
    have : us = ls := rowsV_inj (HO.dT.inj (Option.some.inj h2))
    subst this
    rw [sameRows_self]
    exact (SeqAt.EqAt.same _).inModel _ _
  · obtain ⟨_, ya, va, ra, da⟩ := dt_of I.hok h1
    obtain ⟨_, yb, vb, rb, db⟩ := dt_of I.hok h2
    have la : va.length = us.length := by rw [← Paired.length ra]; unfold rowsV; rw [List.length_map]
    have lb : vb.length = ls.length := by rw [← Paired.length rb]; unfold rowsV; rw [List.length_map]
    refine PySem.SeqAt.EqIn.of_refs e fun E Q hq => rcH_dicts ya yb da db (show A.units + 1 < cLine by omega) (by omega) (fun _ => hitsR rb ra) ?_
    rw [la, lb]
    exact hq
def eqRR (D : V → List KRow) (ks ls : List (Key × V)) : Bool := (ks.length == ls.length) && ks.all fun p => match valV ls p.1 with
  | none => false
  | some v => sameRows (D p.2) (D v)
theorem hitsRR {pins : List (Addr × Obj)} {σ : L2.St} {H : Hp} {s : Shared} {A : Around} (I : Inv X pins σ H s) (hu : A.units + 2 < cLine) (D : V → List KRow) {ls : List (Key × V)} {vb : List (Key × Value)} (rb : KV ls vb) (hb : ∀ p ∈ ls, rowsIn H p.2 (D p.2)) {ks : List (Key × V)} {va : List (Key × Value)} (ra : KV ks va) :
    (∀ p ∈ ks, rowsIn H p.2 (D p.2)) → PySem.W.KeqHitsIn X.prog X.w A s vb va (ks.all fun p => match valV ls p.1 with
      | none => false
      | some v => sameRows (D p.2) (D v)) := by
  unfold KV at ra
  induction ra with
  | nil => intro _; exact .nil
  | @cons p q ps qs h t ih =>
    intro hp
    obtain ⟨h1, h2⟩ := h
    obtain ⟨k, v⟩ := q
    have h1' : p.1 = k := h1
    have rr := rb.val p.1
    have ih' := ih fun p' hm => hp p' (List.mem_cons_of_mem _ hm)
    rw [List.all_cons]
    cases e : valV ls p.1 with
    | none =>
      rw [e] at rr
      have hn : valueAt vb p.1 = none := by
        cases e2 : valueAt vb p.1 with
        | none => rfl
        | some _ => rw [e2] at rr; exact (show False from rr).elim
      rw [h1'] at hn
      exact .miss hn
    | some y =>
      rw [e] at rr
      obtain ⟨u, hy, ry⟩ := rr.some_of
      rw [h1'] at hy
      have hy2 : ∃ q ∈ ls, q.2 = y := by
        unfold valV at e
        cases e3 : ls.find? fun kv => decide (kv.1 = p.1) with
        | none => rw [e3] at e; cases e
        | some q => rw [e3] at e; exact ⟨q, List.mem_of_find?_eq_some e3, Option.some.inj e⟩
      obtain ⟨z, hz, rfl⟩ := hy2
      obtain ⟨q1, e1, g1⟩ := hp p List.mem_cons_self
      obtain ⟨q2, e2, g2⟩ := hb z hz
      have r1 : v = Value.ref q1 := by
        have : RelV p.2 v := h2
        rw [e1] at this
        exact this
      have r2 : u = Value.ref q2 := by
        rw [e2] at ry
        exact ry
      rw [r2] at hy
      have hh := eqIn_rows I hu g1 g2
      rw [← r1] at hh
      exact .hit hy hh ih'
def rEqRR : R2 := fun x y H Q => ∃ (a b : Addr) (ks ls : List (Key × V)) (D : V → List KRow), x = .ref a ∧ y = .ref b ∧ H a = some (.dK ks) ∧ H b = some (.dK ls) ∧ (∀ p ∈ ks, rowsIn H p.2 (D p.2)) ∧ (∀ p ∈ ls, rowsIn H p.2 (D p.2)) ∧ Q (.bl (eqRR D ks ls)) H
theorem op_eqRR {X : Cx} (hu : X.A.units + 65 < cLine) : OpR X (compareOp .Eq) rEqRR := by
  intro pins s σ H x y v u Q I rx ry h
  obtain ⟨a, b, ks, ls, D, rfl, rfl, ea, eb, ha, hb, q⟩ := h
  obtain rfl : v = Value.ref a := rx
  obtain rfl : u = Value.ref b := ry
  obtain ⟨_, ya, va, ra, da⟩ := (show ObjOk X.prog X.w H s.heap a (.dK ks) from I.hok a _ ea)
  obtain ⟨_, yb, vb, rb, db⟩ := (show ObjOk X.prog X.w H s.heap b (.dK ls) from I.hok b _ eb)
  refine PySem.W.keq_eqIn (knd := mixKind X.prog X.w) ya yb da db (by omega) (fun _ => hitsRR I (by show X.A.units + 1 + 2 < cLine; omega) D rb hb ra ha) (fin_bl I q ?_)
  unfold eqRR
  rw [ra.length, rb.length]
end
end L2
namespace TM
open PySem PySem.Spec PyProof.Rows L2
/-! ### try with several clauses 'except C as n' -/
/-- behind a clause the slot of its name is bare again -/
def gone (D : Ends) (i : Nat) : Ends := ⟨fun σ H => D.nx (σ.set i none) H, D.rt, fun σ H => D.bk (σ.set i none) H, fun σ H => D.ct (σ.set i none) H⟩
abbrev Clause := Value × Nat × (Addr → Value → Option Addr → TS)
/-- what the clauses wish of an exception, one after the other -/
def wish (K : PySem.W.Frag) (Wout : WX) (D : Ends) : List Clause → WX
  | [] => Wout
  | q :: rest => fun cls d σ H => ∃ b, PySem.W.exmOne K cls q.1 = some b ∧ (b = true → ∀ a, H a = none → q.2.2 a cls d (gone D q.2.1) (σ.set q.2.1 (some (.ref a))) H) ∧ (b = false → wish K Wout D rest cls d σ H)
inductive Clauses (X : Cx) : List ExceptHandler → List Clause → Prop
  | nil : Clauses X [] []
  | cons {x n : Str} {c : Value} {i : Nat} {ts : Addr → Value → Option Addr → TS} {b₀ : Stmt} {suite : List Stmt} {np cpos : Pos} {more : List ExceptHandler} {l : List Clause} (at_ : X.N[i]? = some n) (loc : X.env.kindOf n = some .local) (hc : Names X x c)
      (body : ∀ (a : Addr) (oe : Obj) (cls : Value) (d : Option Addr) (pn : List (Addr × Obj)), Zc cls d oe → (∃ vs, oe.data = .fields vs) → PSs (X.suite a ((a, oe) :: pn)) (b₀ :: suite) (ts a cls d)) (rest : Clauses X more l) :
      Clauses X (.ExceptHandler (some (.Name x np)) (some n) (b₀ :: suite) cpos :: more) ((c, i, ts) :: l)
theorem Clauses.one {X : Cx} {x n : Str} {c : Value} {i : Nat} {ts : Addr → Value → Option Addr → TS} {b₀ : Stmt} {suite : List Stmt} {np cpos : Pos} {more : List ExceptHandler} {l : List Clause} (rest : Clauses X more l) (at_ : X.N[i]? = some n) (loc : X.env.kindOf n = some .local) (hc : Names X x c)
    (body : ∀ (a : Addr) (oe : Obj) (cls : Value) (d : Option Addr) (pn : List (Addr × Obj)), Zc cls d oe → (∃ vs, oe.data = .fields vs) → PSs (X.suite a ((a, oe) :: pn)) (b₀ :: suite) (ts a cls d)) : Clauses X (.ExceptHandler (some (.Name x np)) (some n) (b₀ :: suite) cpos :: more) ((c, i, ts) :: l) := .cons at_ loc hc body rest
section
variable {X : Cx}
theorem ps_try_clauses {body : List Stmt} {h₀ : ExceptHandler} {hds : List ExceptHandler} {l : List Clause} {pos : Pos} {tb : WX → TS} {Wout : WX} (hs : X.stack = X.env :: X.outer) (hf : X.env.frame = some X.env.locals) (hN : X.N.Nodup) (tk : Takes X Wout)
    (hh : Clauses X (h₀ :: hds) l)
    (hb : ∀ (W : WX) (pn : List (Addr × Obj)) (xe : Value → Shared → Prop), Takes (X.tr pn xe) W → PassesOwn (model X.prog X.w) X.A X.env xe → PSs (X.tr pn xe) body (tb W)) :
    PS X (.Try body (h₀ :: hds) [] [] pos) (fun D σ H => tb (wish X.K Wout D l) D σ H) := by
  refine ⟨fun pins s σ H D I want => ?_⟩
  have iok := I.ok
  have frames : X.A.frames = some (X.env :: X.outer) := iok.frames.trans (by rw [hs])
  refine wpAny_Try_except (wpAny_mono ((hb (wish X.K Wout D l) (X.pn ++ pins) (fun e z₁ => wpAny (model X.prog X.w) X.A (noteFrame e X.env) (fun _ z₂ => wpAny (model X.prog X.w) X.A (setFlight e none) (fun _ z₃ =>
    wpAny (model X.prog X.w) X.A (handleBy e X.env (h₀ :: hds)) (SP X pins D) X.xe z₃) X.xe z₂) X.xe z₁) (fun thrown t caught => ?_) PassesOwn.looking).run [] s σ H D (I.toTry _) want) (fun out t fine => ?_) fun _ _ z => z)
  · obtain ⟨a, B, t0, pins', σ', H', cls, d, rfl, inv0, nb, up0, air, na, os, ag, wished⟩ := caught
    have inv : Inv X pins σ' H' t0 := inv0.ofTry iok
    rw [hs] at air
    show wpAny (model X.prog X.w) X.A (noteFrame (.ref a) X.env) _ _ _
    refine Sky.land Zc.steady frames hf air fun g fl upg => ?_
    have invg : Inv X pins σ' H' { t with heap := g } := inv.landed nb fl.1 (up0.trans upg) os ag
    obtain ⟨oe, us, oeg, zc, dat⟩ := fl.there
    have apart : a ∉ frs (X.env :: X.outer) := fun hm => by
      obtain ⟨_, o2, o2g, no⟩ := fl.2.2.1.mem hm
      cases oeg.symm.trans o2g
      exact no _ dat
    have out : ∀ e ∈ X.env :: X.outer, ∀ q, e.frame = some q → a ≠ q := fun e he q hq z => apart (List.mem_filterMap.mpr ⟨e, he, by rw [hq, z]⟩)
    have nloc : a ≠ X.env.locals := out _ List.mem_cons_self _ hf
    have nfs : a ∉ X.fs := fun hm => by
      obtain ⟨e, he, q⟩ := List.mem_filterMap.mp hm
      exact out e (List.mem_cons_of_mem _ he) a q rfl
    have su := invg.suite oeg dat na nloc nfs
    suffices go : ∀ {hd : List ExceptHandler} {cl : List Clause}, Clauses X hd cl → wish X.K Wout D cl cls d σ' H' → wpAny (model X.prog X.w) X.A (handleBy (.ref a) X.env hd) (SP X pins D) X.xe { t with heap := g } from go hh wished
    intro hd cl ok
    induction ok with
    | nil =>
      intro want
      refine wpAny_handleBy_nil ?_
      obtain ⟨_, _, _, oe', us', T, _, _, oeg', _, dat', first', _⟩ := id fl
      unfold PySem.passOn
      refine wpAny_bind (wpAny_field oeg' dat' first' ?_)
      have isT : ¬ ((Value.ref T == Value.none) = true) := by simp
      rw [if_neg isT]
      have thrown : wpAny (model X.prog X.w) X.A (setFlight (.ref a) X.env.frame) (fun _ z => wpAny (model X.prog X.w) X.A (throw (.ref a) : Sem Flow) (SP X pins D) X.xe z) X.xe { t with heap := g } := by
        rw [hf]
        exact HandSPX.setFlight_upZ fl fun g4 air4 up4 => wpAny_throw (tk _ _ ⟨a, B, t0, pins, σ', H', cls, d, rfl, inv, nb, (up0.trans upg).trans up4, .inr (.inr (by rw [hs]; exact air4)), na, os, ag, want⟩)
      first
        | exact wpAny_bind (wpAny_pure (wpAny_bind thrown))
        | exact wpAny_bind thrown
    | @cons x n c i ts b₀ suite np cpos more rest' at_ loc hc bodyOk rest ih =>
      intro want
      obtain ⟨b, told, yes, no⟩ := want
      refine wpAny_handleBy_cons (codeAny_handlers_test ?_) (by intro q; cases q)
      have look : PySem.W.Looks (model X.prog X.w) g (typeOf (.ref a)) cls := fun A Q E s k q => wpAny_typeOf_ref (k _ _ oeg) (by rw [zc.1]; exact q)
      have asked := PySem.W.exm_one (M := model X.prog X.w) invg.kIn look told
      have named : ∀ {Q : Value → Shared → Prop} {E : Value → Shared → Prop}, Q c { t with heap := g } → wpAny (model X.prog X.w) (X.A.mark (some (.ref a))) (eval (.Name x np) X.env) Q E { t with heap := g } := fun {Q E} q => by
        obtain ⟨hg, dbg, hm | ⟨hm, hv, nn⟩⟩ := hc
        · exact ld_glob (X := X.suite a ((a, oe) :: (X.pn ++ pins))) su hg hm q dbg
        · exact ld_blt (X := X.suite a ((a, oe) :: (X.pn ++ pins))) su hg hm hv q nn dbg
      refine named (asked.here ?_)
      cases b with
      | false => exact ih (no rfl)
      | true =>
        refine codeAny_handlers_suite_as (HandSPX.lands_againZ fl fun g4 fl4 up4 => ?_)
        have inv4 : Inv X pins σ' H' { t with heap := g4 } := inv.landed nb fl4.1 ((up0.trans upg).trans up4) os ag
        obtain ⟨oe4, us4, oeg4, zc4, dat4⟩ := fl4.there
        have su4 := inv4.suite oeg4 dat4 na nloc nfs
        refine store_ok (X := X.suite a ((a, oe4) :: (X.pn ++ pins))) (v := .ref a) su4 hN at_ (.inl loc) rfl (fun t5 su5 => ?_) (.inr loc)
        have bare : ∀ {σ6 : L2.St} {H6 : Hp} {t6 : Shared} {Q : Shared → Prop}, Inv (X.suite a ((a, oe4) :: (X.pn ++ pins))) [] σ6 H6 t6 → (∀ t7, Inv X pins (σ6.set i none) H6 t7 → Q t7) →
            wpAny (model X.prog X.w) X.A (do bindName X.env n .none; unbindBehindTheSuite X.env n cpos) (fun _ t7 => Q t7) X.xe t6 := fun {σ6 H6 t6 Q} su6 hq => gone_ok (su6.unsuite iok) hN at_ loc hq
        refine wpAny_mono ((bodyOk a oe4 cls d (X.pn ++ pins) zc4 ⟨_, dat4⟩).run [] t5 _ H' _ su5 (yes rfl a na)) (fun out t6 end6 => ?_) fun _ _ z => z.elim
        cases out with
        | next => obtain ⟨_, _, su6, q6⟩ := end6; exact bare su6 fun _ inv7 => ⟨_, _, inv7, q6⟩
        | brk => obtain ⟨_, _, su6, q6⟩ := end6; exact bare su6 fun _ inv7 => ⟨_, _, inv7, q6⟩
        | cont => obtain ⟨_, _, su6, q6⟩ := end6; exact bare su6 fun _ inv7 => ⟨_, _, inv7, q6⟩
        | ret u => obtain ⟨_, _, _, su6, r6, q6⟩ := end6; exact bare su6 fun _ inv7 => ⟨_, _, _, inv7, r6, q6⟩
  · cases out with
    | next => obtain ⟨_, _, inv, q⟩ := fine; exact wpAny_execs_nil ⟨_, _, inv.ofTry iok, q⟩
    | brk => obtain ⟨_, _, inv, q⟩ := fine; exact ⟨_, _, inv.ofTry iok, q⟩
    | cont => obtain ⟨_, _, inv, q⟩ := fine; exact ⟨_, _, inv.ofTry iok, q⟩
    | ret u => obtain ⟨_, _, _, inv, r, q⟩ := fine; exact ⟨_, _, _, inv.ofTry iok, r, q⟩
end
end TM
namespace L2
open PySem PySem.Spec PyProof.Rows
/-! ### == of nested things: tuples, lists, dicts with names as keys, data at the leaves -/
inductive NEq (K : PySem.W.Frag) (H : Hp) : Nat → V → V → Bool → Prop
  | dat {n : Nat} {x y : V} {d e : PyData} : Dp K H x d → Dp K H y e → SeqAt.shaped d = true → SeqAt.shaped e = true → NEq K H n x y (PyData.eqv d e)
  | same {n : Nat} {p : Addr} : NEq K H n (.ref p) (.ref p) true
  | tup {n : Nat} {p q : Addr} {xs ys : List V} {e : Nat → Bool} : p ≠ q → H p = some (.tup xs) → H q = some (.tup ys) → (∀ (j : Nat) (x y : V), xs[j]? = some x → ys[j]? = some y → NEq K H n x y (e j)) →
      NEq K H (n + 1) (.ref p) (.ref q) ((List.range (min xs.length ys.length)).all e && xs.length == ys.length)
  | lst {n : Nat} {p q : Addr} {xs ys : List V} {e : Nat → Bool} : p ≠ q → H p = some (.lst xs) → H q = some (.lst ys) → xs.length = ys.length → (∀ (j : Nat) (x y : V), xs[j]? = some x → ys[j]? = some y → NEq K H n x y (e j)) →
      NEq K H (n + 1) (.ref p) (.ref q) ((List.range xs.length).all e)
  | lstL {n : Nat} {p q : Addr} {xs ys : List V} : p ≠ q → H p = some (.lst xs) → H q = some (.lst ys) → xs.length ≠ ys.length → NEq K H (n + 1) (.ref p) (.ref q) false
  | dct {n : Nat} {p q : Addr} {ks ls : List (Key × V)} {e : Key → Bool} : p ≠ q → H p = some (.dK ks) → H q = some (.dK ls) → (∀ (k : Key) (x y : V), (k, x) ∈ ks → valV ls k = some y → NEq K H n x y (e k)) →
      NEq K H (n + 1) (.ref p) (.ref q) (ks.length == ls.length && ks.all fun z => (valV ls z.1).isSome && e z.1)
theorem kv_all {ks ls : List (Key × V)} {va vb : List (Key × Value)} (rb : KV ls vb) (e : Key → Bool) (ra : KV ks va) : (va.all fun z => (valueAt vb z.1).isSome && e z.1) = ks.all fun z => (valV ls z.1).isSome && e z.1 := by
  unfold KV at ra
  induction ra with
  | nil => rfl
  | @cons p q ps qs h t ih =>
    rw [List.all_cons, List.all_cons, ih]
    have h1 : p.1 = q.1 := h.1
    have r := rb.val p.1
    rw [← h1]
    congr 1
    congr 1
    cases e1 : valV ls p.1 with
    | none =>
      rw [e1] at r
      cases e2 : valueAt vb p.1 with
      | none => rfl
      | some _ => rw [e2] at r; exact (show False from r).elim
    | some y =>
      rw [e1] at r
      obtain ⟨u, hu, _⟩ := r.some_of
      rw [hu]
      rfl
theorem kv_mem {ks : List (Key × V)} {va : List (Key × Value)} (ra : KV ks va) {k : Key} {u : Value} (h : (k, u) ∈ va) : ∃ x, (k, x) ∈ ks ∧ RelV x u := by
  unfold KV at ra
  induction ra with
  | nil => cases h
  | @cons p q ps qs hh t ih =>
    rcases List.mem_cons.mp h with e | hm
    · subst e
      obtain ⟨h1, h2⟩ := hh
      obtain ⟨pk, pv⟩ := p
      have h1 : pk = k := h1
      subst h1
      exact ⟨pv, List.mem_cons_self, h2⟩
    · obtain ⟨x, hx, r⟩ := ih hm
      exact ⟨x, List.mem_cons_of_mem _ hx, r⟩
section
variable {X : Cx} {pins : List (Addr × Obj)} {σ : L2.St} {H : Hp} {s : Shared}
theorem at_vals {xs : List V} {its : List Value} (r : Vals xs its) {j : Nat} (h : j < its.toArray.size) : ∃ x, xs[j]? = some x ∧ RelV x (its.toArray[j]'h) := by
  have hl : j < its.length := by simpa using h
  have hx : j < xs.length := by rw [Vals.length r]; exact hl
  obtain ⟨u, hu, ru⟩ := Vals.get r (List.getElem?_eq_getElem hx)
  rw [List.getElem?_eq_getElem hl] at hu
  cases hu
  exact ⟨_, List.getElem?_eq_getElem hx, by simpa using ru⟩
theorem dct_items (I : Inv X pins σ H s) {ks ls : List (Key × V)} {va vb : List (Key × Value)} {n : Nat} {e : Key → Bool} (ra : KV ks va) (rb : KV ls vb) (ih : ∀ (k : Key) (x y : V), (k, x) ∈ ks → valV ls k = some y → ∀ v u, RelV x v → RelV y u → PySem.W.EqTree X.prog X.w s n v u (e k)) :
    ∀ k v u, (k, v) ∈ va → valueAt vb k = some u → PySem.W.EqTree X.prog X.w s n v u (e k) := fun k v u hm hu => by
  obtain ⟨x, hx, rx⟩ := kv_mem ra hm
  have r := rb.val k
  rw [hu] at r
  cases e1 : valV ls k with
  | none => rw [e1] at r; exact (show False from r).elim
  | some y =>
    rw [e1] at r
    exact ih k x y hx e1 v u rx r
theorem NEq.tree (I : Inv X pins σ H s) {n : Nat} {x y : V} {b : Bool} (h : NEq X.K H n x y b) : ∀ v u, RelV x v → RelV y u → PySem.W.EqTree X.prog X.w s (n + 64) v u b := by
  induction h with
  | dat hd he sd se =>
    intro v u rx ry
    obtain ⟨as, r1⟩ := Dp.reads I _ _ _ hd rx
    obtain ⟨bs, r2⟩ := Dp.reads I _ _ _ he ry
    exact .leaf fun A hu => SeqAt.eqAt_reads _ _ A s v u as bs r1 r2 (SeqAt.canLay_of_shaped sd) (SeqAt.canLay_of_shaped se) (SeqAt.room_of_shaped sd (by omega))
  | same =>
    intro v u rx ry
    cases rx
    cases ry
    exact .same
  | tup hne hp hq _ ih =>
    intro v u rx ry
    cases rx
    cases ry
    obtain ⟨_, its, rv, ht⟩ := (show ObjOk X.prog X.w H s.heap _ (.tup _) from I.hok _ _ hp)
    obtain ⟨_, its', rv', ht'⟩ := (show ObjOk X.prog X.w H s.heap _ (.tup _) from I.hok _ _ hq)
    have t := PySem.W.EqTree.tuples (prog := X.prog) (w := X.w) (s := s) hne (show s.heap.IsTuple _ its.toArray from ht) (show s.heap.IsTuple _ its'.toArray from ht') (fun j h1 h2 => by
      obtain ⟨x, hx, r1⟩ := at_vals rv h1
      obtain ⟨y, hy, r2⟩ := at_vals rv' h2
      exact ih j x y hx hy _ _ r1 r2)
    rw [List.size_toArray, List.size_toArray, ← Vals.length rv, ← Vals.length rv'] at t
    rw [Nat.add_right_comm]
    exact t
  | lst hne hp hq hl _ ih =>
    intro v u rx ry
    cases rx
    cases ry
    obtain ⟨_, its, n1, rv, ht⟩ := (show ObjOk X.prog X.w H s.heap _ (.lst _) from I.hok _ _ hp)
    obtain ⟨_, its', n2, rv', ht'⟩ := (show ObjOk X.prog X.w H s.heap _ (.lst _) from I.hok _ _ hq)
    have t := PySem.W.EqTree.lists (prog := X.prog) (w := X.w) (s := s) hne (show s.heap.IsList _ its.toArray from ⟨_, ht, rfl, n1, rfl⟩) (show s.heap.IsList _ its'.toArray from ⟨_, ht', rfl, n2, rfl⟩) (by rw [List.size_toArray, List.size_toArray, ← Vals.length rv, ← Vals.length rv']; exact hl) (fun j h1 h2 => by
      obtain ⟨x, hx, r1⟩ := at_vals rv h1
      obtain ⟨y, hy, r2⟩ := at_vals rv' h2
      exact ih j x y hx hy _ _ r1 r2)
    rw [List.size_toArray, ← Vals.length rv] at t
    rw [Nat.add_right_comm]
    exact t
  | lstL hne hp hq hl =>
    intro v u rx ry
    cases rx
    cases ry
    obtain ⟨_, its, n1, rv, ht⟩ := (show ObjOk X.prog X.w H s.heap _ (.lst _) from I.hok _ _ hp)
    obtain ⟨_, its', n2, rv', ht'⟩ := (show ObjOk X.prog X.w H s.heap _ (.lst _) from I.hok _ _ hq)
    rw [Nat.add_right_comm]
    exact PySem.W.EqTree.listsLen hne (show s.heap.IsList _ its.toArray from ⟨_, ht, rfl, n1, rfl⟩) (show s.heap.IsList _ its'.toArray from ⟨_, ht', rfl, n2, rfl⟩) (by rw [List.size_toArray, List.size_toArray, ← Vals.length rv, ← Vals.length rv']; simpa using hl)
  | dct hne hp hq _ ih =>
    intro v u rx ry
    cases rx
    cases ry
    obtain ⟨_, ya, va, ra, da⟩ := (show ObjOk X.prog X.w H s.heap _ (.dK _) from I.hok _ _ hp)
    obtain ⟨_, yb, vb, rb, db⟩ := (show ObjOk X.prog X.w H s.heap _ (.dK _) from I.hok _ _ hq)
    have t := PySem.W.EqTree.dicts hne ya yb da db (dct_items I ra rb ih)
    rw [← ra.length, ← rb.length, kv_all rb _ ra] at t
    rw [Nat.add_right_comm]
    exact t
/-- at the top: data, tuples, lists or dicts -/
def rEqN (K : PySem.W.Frag) : R2 := fun x y H Q => ∃ (n : Nat) (b : Bool), n ≤ 8 ∧ (∀ p, x = .ref p → y ≠ .ref p) ∧ NEq K H n x y b ∧ Q (.bl b) H
theorem op_eqN (hu : X.A.units + 80 < cLine) : OpR X (compareOp .Eq) (rEqN X.K) := by
  intro pins s σ H x y v u Q I rx ry h
  obtain ⟨n, b, hn, hne, h, q⟩ := h
  cases h with
  | dat hd he sd se =>
    obtain ⟨as, r1⟩ := Dp.reads I _ x v hd rx
    obtain ⟨bs, r2⟩ := Dp.reads I _ y u he ry
    exact SeqAt.compareEq_shaped r1 r2 sd se (by omega) ⟨.bl _, H, I, rfl, q⟩
  | same => exact absurd rfl (hne _ rfl)
  | @tup n p p' xs ys e _ hp hq hh =>
    cases rx
    cases ry
    obtain ⟨_, its, rv, ht⟩ := (show ObjOk X.prog X.w H s.heap _ (.tup _) from I.hok _ _ hp)
    obtain ⟨_, its', rv', ht'⟩ := (show ObjOk X.prog X.w H s.heap _ (.tup _) from I.hok _ _ hq)
    refine PySem.W.eq_tuplesT (n := n + 64) (e := e) (show s.heap.IsTuple p its.toArray from ht) (show s.heap.IsTuple p' its'.toArray from ht') (fun j h1 h2 => ?_) (by omega) (fin_bl I q ?_)
    · obtain ⟨x, hx, r1⟩ := at_vals rv h1
      obtain ⟨y, hy, r2⟩ := at_vals rv' h2
      exact (hh j x y hx hy).tree I _ _ r1 r2
    · rw [List.size_toArray, List.size_toArray, ← Vals.length rv, ← Vals.length rv']
  | @lst n p p' xs ys e _ hp hq hl hh =>
    cases rx
    cases ry
    obtain ⟨_, its, n1, rv, ht⟩ := (show ObjOk X.prog X.w H s.heap _ (.lst _) from I.hok _ _ hp)
    obtain ⟨_, its', n2, rv', ht'⟩ := (show ObjOk X.prog X.w H s.heap _ (.lst _) from I.hok _ _ hq)
    refine PySem.W.eq_listsT (n := n + 64) (e := e) (show s.heap.IsList p its.toArray from ⟨_, ht, rfl, n1, rfl⟩) (show s.heap.IsList p' its'.toArray from ⟨_, ht', rfl, n2, rfl⟩) (by rw [List.size_toArray, List.size_toArray, ← Vals.length rv, ← Vals.length rv']; exact hl) (fun j h1 h2 => ?_) (by omega) (fin_bl I q ?_)
    · obtain ⟨x, hx, r1⟩ := at_vals rv h1
      obtain ⟨y, hy, r2⟩ := at_vals rv' h2
      exact (hh j x y hx hy).tree I _ _ r1 r2
    · rw [List.size_toArray, ← Vals.length rv]
  | lstL _ hp hq hl =>
    cases rx
    cases ry
    obtain ⟨_, its, n1, rv, ht⟩ := (show ObjOk X.prog X.w H s.heap _ (.lst _) from I.hok _ _ hp)
    obtain ⟨_, its', n2, rv', ht'⟩ := (show ObjOk X.prog X.w H s.heap _ (.lst _) from I.hok _ _ hq)
    exact (SeqAt.RcAt.lists_lengths (A := X.A) (show s.heap.IsList _ its.toArray from ⟨_, ht, rfl, n1, rfl⟩) (show s.heap.IsList _ its'.toArray from ⟨_, ht', rfl, n2, rfl⟩) (by rw [List.size_toArray, List.size_toArray, ← Vals.length rv, ← Vals.length rv']; simpa using hl) (by omega)) X.prog X.w _ _ (fin_bl I q rfl)
  | @dct n p p' ks ls e _ hp hq hh =>
    cases rx
    cases ry
    obtain ⟨_, ya, va, ra, da⟩ := (show ObjOk X.prog X.w H s.heap _ (.dK _) from I.hok _ _ hp)
    obtain ⟨_, yb, vb, rb, db⟩ := (show ObjOk X.prog X.w H s.heap _ (.dK _) from I.hok _ _ hq)
    refine PySem.W.eq_dictsT (n := n + 64) (e := e) ya yb da db (dct_items I ra rb fun k x y h1 h2 => (hh k x y h1 h2).tree I) (by omega) (fin_bl I q ?_)
    rw [← ra.length, ← rb.length, kv_all rb _ ra]
end
end L2
namespace L2
open PySem PySem.Spec PyProof.Rows
/-- isinstance(e, c), e the exception that the suite holds, made with no dict -/
theorem call_isX0 {X : Cx} {a D : Addr} {cls : Value} {oe : Obj} {d : Option Addr} {pn : List (Addr × Obj)} (C : ExcC X.K D) (hz : Zc cls d oe) (hf : ∃ vs, oe.data = .fields vs) :
    CallR (X.suite a ((a, oe) :: pn)) (.builtin "isinstance") (fun xs H Q => ∃ (c : V) (cv : Value) (b : Bool), cls = .ref D ∧ d = none ∧ xs = [.ref a, c] ∧ (∀ u, RelV c u → u = cv) ∧ PySem.W.kitOne X.K (.ref D) cv = some b ∧ Q (.bl b) H) := by
  intro pins s σ H xs us Q I r h
  obtain ⟨c, cv, b, rfl, rfl, rfl, hcv, e, q⟩ := h
  cases r with
  | cons rx rr =>
    cases rr with
    | cons rt rr =>
      cases rr
      cases rx
      have ec := hcv _ rt
      subst ec
      obtain ⟨hget, _⟩ := I.pin (a, oe) (List.mem_append.mpr (.inl List.mem_cons_self))
      obtain ⟨vs, hv⟩ := hf
      have J : PySem.W.InstAt s.heap a oe D none := ⟨hget, hz.1, by unfold PySem.W.notCls; rw [hv] <;> rfl, by rw [hz.2]; trivial⟩
      have hcl : (PySem.W.clsIn X.K D).isSome = true := by
        obtain ⟨cdD, hcD, _⟩ := PySem.W.any_some C.hd
        rw [hcD]
        rfl
      exact PySem.W.kia_one (PySem.W.kitx_exc hcl C.hg C.hk C.hs C.ha C.hn C.ht C.hm) I.kIn J e (fun z => nomatch z) fun tk => ⟨.bl b, H, I.kept (t' := tk) fun _ _ z => z, rfl, q⟩
end L2
namespace L2
open PySem PySem.Spec PyProof.Rows
/-! ### o(e, ..) by the class's own `__call__` -/
section
variable {M : Model} {A : Around} {E : Value → Shared → Prop} {s : Shared} {pos : Pos} {x : Addr} {first : List Value} {Q : Value → Shared → Prop}
theorem callWithO {args : List (Bool × Sem Value)} {keywords : List (Option Str × Sem Value)} (hplain : (args.any (·.1) || keywords.any (·.1.isNone)) = false)
    (h : wpAny M A (evalArgs (.ref x) true args keywords) (fun a s₁ => (∃ (ox : Obj) (C : Addr) (od : Option Obj), PySem.W.InstAt s₁.heap x ox C od ∧ ox.data = .plain) ∧ wpAny M A (call (.ref x) (first ++ a.pos) a.kw) Q E s₁) E s) : wpAny M A (callWith pos (.ref x) first args keywords) Q E s := by
  unfold callWith
  refine wpAny_bind (wpAny_holding (wpAny_mono h (fun a s₁ h₁ => wpAny_bind (wpAny_standAt ?_)) fun _ _ y => y))
  obtain ⟨⟨ox, C, od, I, hd⟩, h₁⟩ := h₁
  have L := PySem.W.kco_keeper (M := M) I hd
  simp only [hplain]
  refine wpAny_bind (L.here ?_)
  have tail : ∀ {t : Sem Value}, wpAny M A t Q E s₁ → wpAny M A (t >>= fun r => holding [r] point >>= fun _ => pure r) Q E s₁ :=
    fun ht => wpAny_bind (wpAny_mono ht (fun r s₂ hr => wpAny_bind (wpAny_holding (wpAny_point (wpAny_pure hr)))) fun _ _ y => y)
  exact tail (wpAny_operateT h₁)
end
def tCallO (C : Addr) (sp : Sp) (E : St → XK) (tf : TE) (t : TA) : TE := fun σ H Q => tf σ H fun x H1 => ∃ a, x = .ref a ∧ t σ H1 fun vs H2 => ∃ (dx : Addr) (fs : List (Str × V)), H2 a = some (.ins C dx fs) ∧ sp (.ref a :: vs) H2 Q (E σ)
section
variable {X : Cx} {CX : CXT} {k : Nat} {g C : Addr} {fd : FuncData} {ps : List Str} {sp : Sp} {E : St → XK} {f e : Expr} {es : List Expr} {pos : Pos} {tf : TE} {t : TA}
theorem run_callO {pins : List (Addr × Obj)} {σ : St} {H : Hp} {s : Shared} {Q : VK} {us : List Value} {vs : List V} {a dx : Addr} {fs : List (Str × V)} (hs : Spec1 X.K C "__call__" g) (F : FnOk X.prog X.w X.K X.mg X.base CX k g fd ps sp) (hr : Room k X.A) (hb : Binds X.K fd ps []) (hx : PassesAt CX X σ (E σ))
    (I : Inv X pins σ H s) (ha : H a = some (.ins C dx fs)) (r : Vals vs us) (h : sp (.ref a :: vs) H Q (E σ)) : wpAny (model X.prog X.w) X.A (call (.ref a) us) (EP X pins σ Q) X.xe s := by
  obtain ⟨mA, J, _⟩ := ins_get I.hok ha
  obtain ⟨od, J, _⟩ := J.look
  have r2 : Vals (.ref a :: vs) (.ref a :: us) := .cons rfl r
  have hl : (Value.ref a :: us).length = ps.length := by rw [← r2.length]; exact F.len _ _ _ _ h
  have b := hb s (.ref a :: us) I.kIn (by rw [List.append_nil]; exact hl)
  rw [List.append_nil] at b
  refine wpAny_call (PySem.W.kco_code I.kIn J rfl hs.at_ hs.fn hs.isf (codeAny_mono (F.run X.A X.stack s H ⟨.ref a :: us, []⟩ (.ref a :: us) (.ref a :: vs) Q (E σ) hr I.env0 b r2 h) fun r s' hq => ?_))
  cases r with
  | error e => exact hx pins H s e s' I hq
  | ok fl =>
    cases fl with
    | ret u => exact I.after hq
    | next => exact False.elim hq
    | brk => exact False.elim hq
    | cont => exact False.elim hq
theorem pe_callO (hf : PE X f tf) (hs : Spec1 X.K C "__call__" g) (F : FnOk X.prog X.w X.K X.mg X.base CX k g fd ps sp) (hr : Room k X.A) (hb : Binds X.K fd ps []) (hx : ∀ σ, PassesAt CX X σ (E σ)) (ha : PA X (e :: es) t)
    (hst : starEach (e :: es) X.env = (false, eval e X.env) :: starEach es X.env := by rfl) (hpl : (backTo pos (starEach es X.env)).any (·.1) = false := by rfl)
    (het : eval (.Call f (e :: es) [] pos) X.env = (do callWith pos (← eval f X.env) [] (backTo pos (starEach (e :: es) X.env)) (backToKw pos (keywordEach [] X.env))) := by rfl) : PE X (.Call f (e :: es) [] pos) (tCallO C sp E tf t) := by
  refine ⟨fun pins s σ H Q I h => Call_ (thn (hf.run pins s σ H _ I h) fun u s1 ⟨x, H1, I1, rx, a, ex, q⟩ => ?_) het⟩
  subst ex
  obtain rfl : u = Value.ref a := rx
  have h0 : wpAny (model X.prog X.w) X.A (spliced (backTo pos (starEach (e :: es) X.env))) (fun us s2 => (∃ (ox : Obj) (C : Addr) (od : Option Obj), PySem.W.InstAt s2.heap a ox C od ∧ ox.data = .plain) ∧ wpAny (model X.prog X.w) X.A (call (.ref a) us) (EP X pins σ Q) X.xe s2) X.xe s1 :=
    thn (ha.run pos pins s1 σ H1 _ I1 q) fun us s2 ⟨vs, H2, I2, r, dx, fs, h2, q2⟩ => by
      obtain ⟨mA, J, _⟩ := ins_get I2.hok h2
      obtain ⟨od, J, _⟩ := J.look
      exact ⟨⟨_, C, _, J, rfl⟩, run_callO hs F hr hb (hx σ) I2 h2 r q2⟩
  rw [hst] at h0 ⊢
  exact callWithO (by show ((false || (backTo pos (starEach es X.env)).any (·.1)) || false) = false; rw [hpl]; rfl) (Calls.evalArgs_plain h0)
end
end L2
namespace L2
open PySem PySem.Spec PyProof.Rows
/-! ### a def with one default, None -/
section
variable {P : Program} {w : World} {K : PySem.W.Frag} {mg : Str → Option Value} {base : Heap} {x qual : Str} {params : Arguments} {body : List Stmt} {scope : Scope} {f : Addr} {fd : FuncData} {ps : List Str}
theorem FunD.okN {dvs : List V} {kws : List (Str × V)} {N : List Str} {k : Nat} {sp : Sp} (F : FunD K x qual params body scope dvs kws f fd) (S : FnScope N ps scope) (len : ∀ vs H Q E, sp vs H Q E → vs.length = ps.length)
    (hbody : ∀ (cdv : Value) (A : Around) (outer : List Env) (s : Shared) (H : Hp) (vs : List V) (Q : VK) (E : XK), Room k (A.deeper (envOfC qual scope s.heap.objs.size f cdv)) → sp vs H Q E →
      ∃ t, PSs (cxOf CX0 P w K mg base N qual scope f cdv A outer s H E).nox body t ∧ t { nx := fun _ H' => Q .non H', rt := Q } (start N vs) H) : FnOk P w K mg base CX0 (k + 1) f fd ps sp :=
  F.ok S len fun cdv A outer s H vs Q E hr h => let ⟨t, h1, q⟩ := hbody cdv A outer s H vs Q E hr h; ⟨t, h1.nox, q⟩
theorem binds_all (F : FunD K x qual params body scope [.non] [] f fd) (hp : 1 ≤ ps.length)
    (h : ∀ (T : Addr) (kV doc pm : Value) (an : Option Addr) (cdv ct : Value) (us its : List Value), us.length = ps.length → its.length = 1 →
      ∃ k, bindArgs (PySem.W.fnOf x qual params body scope (.ref T) kV doc pm an cdv ct) ⟨us, []⟩ = seqItems? (.ref T) >>= k ∧ k (some its.toArray) = pure (ps.zip (us ++ its.drop 1))) : Binds K fd ps [] := by
  obtain ⟨ds, hv, hb⟩ := F.binds1 ps.length 1 (by simp) (by simp) h
  cases hv
  exact hb
theorem binds_one (F : FunD K x qual params body scope [.non] [] f fd) (hp : 1 ≤ ps.length)
    (h : ∀ (T : Addr) (kV doc pm : Value) (an : Option Addr) (cdv ct : Value) (us its : List Value), us.length = ps.length - 1 → its.length = 1 →
      ∃ k, bindArgs (PySem.W.fnOf x qual params body scope (.ref T) kV doc pm an cdv ct) ⟨us, []⟩ = seqItems? (.ref T) >>= k ∧ k (some its.toArray) = pure (ps.zip (us ++ its.drop 0))) : Binds K fd ps [.none] := by
  obtain ⟨ds, hv, hb⟩ := F.binds1 (ps.length - 1) 0 (by simp) (by simp only [List.length_cons, List.length_nil]; omega) h
  cases hv with
  | cons a b =>
    cases b
    cases a
    exact hb
end
end L2
namespace L2
open PySem PySem.Spec PyProof.Rows
theorem vals_non : Vals [.non] [.none] := .cons rfl .nil
theorem op_orR {X : Cx} {f : Value → Value → Sem Value} {r1 r2 : R2} (h1 : OpR X f r1) (h2 : OpR X f r2) : OpR X f (fun x y H Q => r1 x y H Q ∨ r2 x y H Q) := fun pins s σ H x y v u Q I rx ry h => h.elim (h1 pins s σ H x y v u Q I rx ry) (h2 pins s σ H x y v u Q I rx ry)
end L2
namespace L2
open PySem PySem.Spec PyProof.Rows
/-! ### o.f as one of several targets; d.get(k) of a dict that the module wrote -/
def gFld (K : PySem.W.Frag) (to : TE) (f : Str) : TG := fun v σ H Q => to σ H fun x H1 => ∃ (a C dx : Addr) (fs : List (Str × V)), x = .ref a ∧ H1 a = some (.ins C dx fs) ∧ Cls K C ∧ NoAttr K C f ∧ fs.length < 1000 ∧ Q σ (upd H1 a (.ins C dx (putF f v fs)))
theorem pg_fld {X : Cx} {o : Expr} {to : TE} {f : Str} {pos : Pos} (ho : PE X o to) : PG X (.Attribute o f pos) (gFld X.K to f) := by
  refine ⟨fun pins s σ H v u Q I r h => ?_⟩
  rw [arm_assign_Attribute]
  refine wpAny_bind (wpAny_holding (thn (ho.run pins s σ H _ I h) fun ov s1 ⟨x, H1, I1, r1, a, C, dx, fs, ex, ea, c, n, l, q1⟩ => ?_))
  subst ex
  obtain rfl : ov = Value.ref a := r1
  refine wpAny_bind (wpAny_standAt (wpAny_bind (wpAny_holding (setattr_ok I1 ea c n l r fun s3 I3 => ?_))))
  exact wpAny_release ⟨σ, _, I3, q1⟩
/-- a dict of the module, its keys texts -/
def WDct (K : PySem.W.Frag) (w : World) (a : Addr) : Prop := ∃ es n, K.lookup a = some ⟨.type "dict", none, .dict es n, #[]⟩ ∧ PySem.W.KeysLit w.params es.toList ∧ (a == sysModules) = false
def tWGet (K : PySem.W.Frag) (w : World) (to te : TE) : TE := fun σ H Q => to σ H fun x H1 => ∃ p, x = .ref p ∧ WDct K w p ∧ te σ H1 fun y H2 => ∃ (z : Str), y = .str z ∧
  ((∃ v u, PySem.W.nsIn K p z = some (some u) ∧ RelV v u ∧ Q v H2) ∨ (PySem.W.nsIn K p z = some none ∧ Q .non H2))
theorem pe_wget1 {X : Cx} {o e : Expr} {to te : TE} {apos cpos : Pos} (ho : PE X o to) (he : PE X e te) (m : M1 X o "get" apos e cpos) : PE X (.Call (.Attribute o "get" apos) [e] [] cpos) (tWGet X.K X.w to te) := by
  refine ⟨fun pins s σ H Q I h => ?_⟩
  refine wpAny_Call_method m.base m.few m.line PySem.F.plainAttrs_dict PySem.F.slot_dict_get PySem.F.type_dict_get (thn (ho.run pins s σ H _ I h) fun u s1 ⟨x, H1, I1, rx, p, ex, ⟨es, n, hl, hk, hd⟩, q1⟩ => ?_)
  subst ex
  obtain rfl : u = Value.ref p := rx
  have hm := PySem.W.mapOf_K (prog := X.prog) (w := X.w) I1.kIn hl hk
  refine ⟨hm.typeIs, hm.noDict, ?_⟩
  rw [m.trees]
  refine Calls.callWith_builtin rfl (Calls.evalArgs_plain (Calls.spliced_cons (thn (he.run pins s1 σ H1 _ I1 q1) fun iv s2 ⟨y, H2, I2, ry, z, ey, q2⟩ => Calls.spliced_nil ?_)))
  subst ey
  obtain ⟨t, rfl⟩ := (show ∃ t, iv = Value.str z t from ry)
  have hm2 := PySem.W.mapOf_K (prog := X.prog) (w := X.w) I2.kIn hl hk
  refine call_meetsIn PySem.F.slot_dict_get hm2.typeIs PySem.F.entry_dict_get (PySem.F.args_dict_get_2 _ _) (meets_dict_get (strKind X.prog X.w) p (strKind_is X.prog X.w z t) hd) ⟨_, hm2, ?_⟩
  rcases q2 with ⟨v, u0, e, ru, q⟩ | ⟨e, q⟩
  · have := PySem.W.find_K hl e
    refine ⟨v, H2, I2.tok _, ?_, q⟩
    show RelV v ((findBy Value.isStrOf es z).getD .none)
    rw [this]
    exact ru
  · have := PySem.W.find_K hl e
    refine ⟨.non, H2, I2.tok _, ?_, q⟩
    show RelV .non ((findBy Value.isStrOf es z).getD .none)
    rw [this]
    rfl
end L2
namespace L2
open PySem PySem.Spec PyProof.Rows
/-! ### xs != [], whatever stands in xs -/
def rNeE : R2 := fun x y H Q => ∃ (p q : Addr) (xs : List V), x = .ref p ∧ y = .ref q ∧ H p = some (.lst xs) ∧ H q = some (.lst []) ∧ Q (.bl (!xs.isEmpty)) H
theorem op_neE {X : Cx} (hu : X.A.units < cLine) : OpR X (compareOp .NotEq) rNeE := by
  intro pins s σ H x y v u Q I rx ry h
  obtain ⟨p, p', xs, rfl, rfl, hp, hq, q⟩ := h
  cases rx
  cases ry
  obtain ⟨_, its, n1, rv, ht⟩ := (show ObjOk X.prog X.w H s.heap p (.lst xs) from I.hok _ _ hp)
  obtain ⟨_, its', n2, rv', ht'⟩ := (show ObjOk X.prog X.w H s.heap p' (.lst []) from I.hok _ _ hq)
  have e1 : s.heap.IsList p its.toArray := ⟨_, ht, rfl, n1, rfl⟩
  have e2 : s.heap.IsList p' its'.toArray := ⟨_, ht', rfl, n2, rfl⟩
  have l1 : its.toArray.size = xs.length := by rw [List.size_toArray, ← Vals.length rv]
  have l2 : its'.toArray.size = 0 := by rw [List.size_toArray, ← Vals.length rv']; rfl
  cases xs with
  | nil => 
    have l1 : its.toArray.size = 0 := l1
    refine (SeqAt.RcNeAt.lists (A := X.A) (e := fun _ => true) e1 e2 (by rw [l1, l2]) hu (fun j h1 h2 => by omega)) X.prog X.w _ _ (fin_bl I q ?_)
    rw [l1]
    rfl
  | cons z zs =>
    refine (SeqAt.RcNeAt.lists_lengths (A := X.A) e1 e2 ?_ hu) X.prog X.w _ _ (fin_bl I q rfl)
    rw [l1, l2]
    rfl
end L2
namespace My
open PySem PySem.Spec PyProof.Rows L2
def topS (i : Nat) : Stmt := PySem.Challenge.pw_cappedcalls_k13_programs_refused.main.body.getD i (.Pass ⟨0, 0, 0, 0⟩)
abbrev s_UnknownName___init__ : Stmt := inClass (topS 3) 0
theorem sc_UnknownName___init__ : FnScope ["self", "name"] ["self", "name"] (defScope s_UnknownName___init__) := ⟨rfl, rfl, rfl, by decide +kernel, rfl, by decide +kernel, by decide +kernel⟩
abbrev s_InvalidProgram___init__ : Stmt := inClass (topS 5) 0
theorem sc_InvalidProgram___init__ : FnScope ["self", "part", "at"] ["self", "part", "at"] (defScope s_InvalidProgram___init__) := ⟨rfl, rfl, rfl, by decide +kernel, rfl, by decide +kernel, by decide +kernel⟩
abbrev s_is_plain_int : Stmt := topS 9
theorem sc_is_plain_int : FnScope ["thing"] ["thing"] (defScope s_is_plain_int) := ⟨rfl, rfl, rfl, by decide +kernel, rfl, by decide +kernel, by decide +kernel⟩
abbrev s_is_word : Stmt := topS 10
theorem sc_is_word : FnScope ["thing", "letter"] ["thing"] (defScope s_is_word) := ⟨rfl, rfl, rfl, by decide +kernel, rfl, by decide +kernel, by decide +kernel⟩
abbrev s_is_value : Stmt := topS 11
theorem sc_is_value : FnScope ["thing"] ["thing"] (defScope s_is_value) := ⟨rfl, rfl, rfl, by decide +kernel, rfl, by decide +kernel, by decide +kernel⟩
abbrev s__is_count : Stmt := topS 36
theorem sc__is_count : FnScope ["thing", "most"] ["thing", "most"] (defScope s__is_count) := ⟨rfl, rfl, rfl, by decide +kernel, rfl, by decide +kernel, by decide +kernel⟩
abbrev s__is_name_in : Stmt := topS 37
theorem sc__is_name_in : FnScope ["thing", "names"] ["thing", "names"] (defScope s__is_name_in) := ⟨rfl, rfl, rfl, by decide +kernel, rfl, by decide +kernel, by decide +kernel⟩
abbrev s__are_columns : Stmt := topS 38
theorem sc__are_columns : FnScope ["thing", "width", "least", "column"] ["thing", "width"] (defScope s__are_columns) := ⟨rfl, rfl, rfl, by decide +kernel, rfl, by decide +kernel, by decide +kernel⟩
abbrev s__is_key : Stmt := topS 39
theorem sc__is_key : FnScope ["thing", "width"] ["thing", "width"] (defScope s__is_key) := ⟨rfl, rfl, rfl, by decide +kernel, rfl, by decide +kernel, by decide +kernel⟩
abbrev s__is_service : Stmt := topS 40
theorem sc__is_service : FnScope ["thing", "tables", "table", "given", "cap"] ["thing", "tables"] (defScope s__is_service) := ⟨rfl, rfl, rfl, by decide +kernel, rfl, by decide +kernel, by decide +kernel⟩
abbrev s__is_whole_service : Stmt := topS 41
theorem sc__is_whole_service : FnScope ["service", "tables", "keys", "table", "given", "cap", "column"] ["service", "tables", "keys"] (defScope s__is_whole_service) := ⟨rfl, rfl, rfl, by decide +kernel, rfl, by decide +kernel, by decide +kernel⟩
abbrev s__check_tables : Stmt := topS 42
theorem sc__check_tables : FnScope ["tables", "name"] ["tables"] (defScope s__check_tables) := ⟨rfl, rfl, rfl, by decide +kernel, rfl, by decide +kernel, by decide +kernel⟩
abbrev s__check_keys : Stmt := topS 43
theorem sc__check_keys : FnScope ["keys", "tables", "name"] ["keys", "tables"] (defScope s__check_keys) := ⟨rfl, rfl, rfl, by decide +kernel, rfl, by decide +kernel, by decide +kernel⟩
abbrev s__check_services : Stmt := topS 44
theorem sc__check_services : FnScope ["services", "tables", "name"] ["services", "tables"] (defScope s__check_services) := ⟨rfl, rfl, rfl, by decide +kernel, rfl, by decide +kernel, by decide +kernel⟩
abbrev s__check_capped : Stmt := topS 45
theorem sc__check_capped : FnScope ["services", "tables", "keys", "capped_tables", "name", "service"] ["services", "tables", "keys"] (defScope s__check_capped) := ⟨rfl, rfl, rfl, by decide +kernel, rfl, by decide +kernel, by decide +kernel⟩
abbrev s__copied : Stmt := topS 46
theorem sc__copied : FnScope ["things", "name"] ["things"] (defScope s__copied) := ⟨rfl, rfl, rfl, by decide +kernel, rfl, by decide +kernel, by decide +kernel⟩
abbrev s_Schema___init__ : Stmt := inClass (topS 47) 0
theorem sc_Schema___init__ : FnScope ["self", "tables", "keys", "services"] ["self", "tables", "keys", "services"] (defScope s_Schema___init__) := ⟨rfl, rfl, rfl, by decide +kernel, rfl, by decide +kernel, by decide +kernel⟩
abbrev s_Schema_service_names : Stmt := inClass (topS 47) 6
theorem sc_Schema_service_names : FnScope ["self"] ["self"] (defScope s_Schema_service_names) := ⟨rfl, rfl, rfl, by decide +kernel, rfl, by decide +kernel, by decide +kernel⟩
abbrev s_Schema_width_of : Stmt := inClass (topS 47) 8
theorem sc_Schema_width_of : FnScope ["self", "table"] ["self", "table"] (defScope s_Schema_width_of) := ⟨rfl, rfl, rfl, by decide +kernel, rfl, by decide +kernel, by decide +kernel⟩
abbrev s_Schema_service_of : Stmt := inClass (topS 47) 10
theorem sc_Schema_service_of : FnScope ["self", "name"] ["self", "name"] (defScope s_Schema_service_of) := ⟨rfl, rfl, rfl, by decide +kernel, rfl, by decide +kernel, by decide +kernel⟩
abbrev s_items_of : Stmt := topS 19
theorem sc_items_of : FnScope ["step"] ["step"] (defScope s_items_of) := ⟨rfl, rfl, rfl, by decide +kernel, rfl, by decide +kernel, by decide +kernel⟩
abbrev s__is_index : Stmt := topS 20
theorem sc__is_index : FnScope ["thing"] ["thing"] (defScope s__is_index) := ⟨rfl, rfl, rfl, by decide +kernel, rfl, by decide +kernel, by decide +kernel⟩
abbrev s__is_item : Stmt := topS 21
theorem sc__is_item : FnScope ["thing"] ["thing"] (defScope s__is_item) := ⟨rfl, rfl, rfl, by decide +kernel, rfl, by decide +kernel, by decide +kernel⟩
abbrev s__has_length_and_names : Stmt := topS 22
theorem sc__has_length_and_names : FnScope ["step", "name"] ["step"] (defScope s__has_length_and_names) := ⟨rfl, rfl, rfl, by decide +kernel, rfl, by decide +kernel, by decide +kernel⟩
abbrev s__has_form : Stmt := topS 23
theorem sc__has_form : FnScope ["step", "items", "item"] ["step"] (defScope s__has_form) := ⟨rfl, rfl, rfl, by decide +kernel, rfl, by decide +kernel, by decide +kernel⟩
abbrev s__used : Stmt := topS 24
theorem sc__used : FnScope ["step"] ["step"] (defScope s__used) := ⟨rfl, rfl, rfl, by decide +kernel, rfl, by decide +kernel, by decide +kernel⟩
abbrev s__has_names : Stmt := topS 25
theorem sc__has_names : FnScope ["schema", "step", "sizes", "name"] ["schema", "step", "sizes"] (defScope s__has_names) := ⟨rfl, rfl, rfl, by decide +kernel, rfl, by decide +kernel, by decide +kernel⟩
abbrev s__has_items : Stmt := topS 26
theorem sc__has_items : FnScope ["schema", "step", "sizes", "items", "item"] ["schema", "step", "sizes"] (defScope s__has_items) := ⟨rfl, rfl, rfl, by decide +kernel, rfl, by decide +kernel, by decide +kernel⟩
abbrev s__size : Stmt := topS 27
theorem sc__size : FnScope ["schema", "step", "sizes", "used", "width", "parts", "calls", "name"] ["schema", "step", "sizes"] (defScope s__size) := ⟨rfl, rfl, rfl, by decide +kernel, rfl, by decide +kernel, by decide +kernel⟩
abbrev s__joins_equal_widths : Stmt := topS 28
theorem sc__joins_equal_widths : FnScope ["step", "sizes"] ["step", "sizes"] (defScope s__joins_equal_widths) := ⟨rfl, rfl, rfl, by decide +kernel, rfl, by decide +kernel, by decide +kernel⟩
abbrev s__wrong_part : Stmt := topS 29
theorem sc__wrong_part : FnScope ["schema", "step", "sizes", "width", "parts", "calls"] ["schema", "step", "sizes"] (defScope s__wrong_part) := ⟨rfl, rfl, rfl, by decide +kernel, rfl, by decide +kernel, by decide +kernel⟩
abbrev s_Program___init__ : Stmt := inClass (topS 30) 0
theorem sc_Program___init__ : FnScope ["self", "schema", "steps", "sizes", "at", "step", "wrong"] ["self", "schema", "steps"] (defScope s_Program___init__) := ⟨rfl, rfl, rfl, by decide +kernel, rfl, by decide +kernel, by decide +kernel⟩
abbrev s__law_pool : Stmt := topS 49
theorem sc__law_pool : FnScope ["_law_script", "_law_cell"] ["_law_script"] (defScope s__law_pool) := ⟨rfl, rfl, rfl, by decide +kernel, rfl, by decide +kernel, by decide +kernel⟩
abbrev s__law_mixed : Stmt := topS 50
theorem sc__law_mixed : FnScope ["_law_seed", "_law_count", "_law_number"] ["_law_seed", "_law_count"] (defScope s__law_mixed) := ⟨rfl, rfl, rfl, by decide +kernel, rfl, by decide +kernel, by decide +kernel⟩
abbrev s__law_draw : Stmt := topS 51
theorem sc__law_draw : FnScope ["_law_pool_here", "_law_many", "_law_cell", "_law_found"] ["_law_pool_here", "_law_many"] (defScope s__law_draw) := ⟨rfl, rfl, rfl, by decide +kernel, rfl, by decide +kernel, by decide +kernel⟩
abbrev s__law_word : Stmt := topS 52
theorem sc__law_word : FnScope ["_law_pool_here", "_law_many", "_law_letters", "_law_word_here", "_law_k"] ["_law_pool_here", "_law_many"] (defScope s__law_word) := ⟨rfl, rfl, rfl, by decide +kernel, rfl, by decide +kernel, by decide +kernel⟩
abbrev s__law_names : Stmt := topS 53
theorem sc__law_names : FnScope ["_law_pool_here", "_law_many", "_law_letters", "_law_stem", "_law_first", "_law_step", "_law_front", "_law_found", "_law_k", "_law_sign"] ["_law_pool_here", "_law_many"] (defScope s__law_names) := ⟨rfl, rfl, rfl, by decide +kernel, rfl, by decide +kernel, by decide +kernel⟩
abbrev s__law_columns : Stmt := topS 54
theorem sc__law_columns : FnScope ["_law_pool_here", "_law_width", "_law_low", "_law_high", "_law_chosen", "_law_column"] ["_law_pool_here", "_law_width", "_law_low", "_law_high"] (defScope s__law_columns) := ⟨rfl, rfl, rfl, by decide +kernel, rfl, by decide +kernel, by decide +kernel⟩
abbrev s__law_tables : Stmt := topS 55
theorem sc__law_tables : FnScope ["_law_pool_here", "_law_many", "_law_widest", "_law_names_here", "_law_tables_here", "_law_name"] ["_law_pool_here", "_law_many", "_law_widest"] (defScope s__law_tables) := ⟨rfl, rfl, rfl, by decide +kernel, rfl, by decide +kernel, by decide +kernel⟩
abbrev s__law_keys : Stmt := topS 56
theorem sc__law_keys : FnScope ["_law_pool_here", "_law_tables_here", "_law_keys_here", "_law_name"] ["_law_pool_here", "_law_tables_here"] (defScope s__law_keys) := ⟨rfl, rfl, rfl, by decide +kernel, rfl, by decide +kernel, by decide +kernel⟩
abbrev s__law_is_whole : Stmt := topS 57
theorem sc__law_is_whole : FnScope ["_law_tables_here", "_law_keys_here", "_law_told", "_law_table", "_law_given", "_law_cap", "_law_column"] ["_law_tables_here", "_law_keys_here", "_law_told"] (defScope s__law_is_whole) := ⟨rfl, rfl, rfl, by decide +kernel, rfl, by decide +kernel, by decide +kernel⟩
abbrev s__law_services : Stmt := topS 58
theorem sc__law_services : FnScope ["_law_pool_here", "_law_tables_here", "_law_keys_here", "_law_caps", "_law_more_here", "_law_order", "_law_names_here", "_law_services_here", "_law_filled", "_law_k", "_law_table", "_law_cap", "_law_told"] ["_law_pool_here", "_law_tables_here", "_law_keys_here", "_law_caps", "_law_more_here"] (defScope s__law_services) := ⟨rfl, rfl, rfl, by decide +kernel, rfl, by decide +kernel, by decide +kernel⟩
abbrev s__law_schema_parts : Stmt := topS 59
theorem sc__law_schema_parts : FnScope ["_law_pool_here", "_law_many", "_law_widest", "_law_caps", "_law_more_here", "_law_tables_here", "_law_keys_here"] ["_law_pool_here", "_law_many", "_law_widest", "_law_caps", "_law_more_here"] (defScope s__law_schema_parts) := ⟨rfl, rfl, rfl, by decide +kernel, rfl, by decide +kernel, by decide +kernel⟩
abbrev s__law_pick : Stmt := topS 60
theorem sc__law_pick : FnScope ["_law_pool_here", "_law_row"] ["_law_pool_here", "_law_row"] (defScope s__law_pick) := ⟨rfl, rfl, rfl, by decide +kernel, rfl, by decide +kernel, by decide +kernel⟩
abbrev s__law_late : Stmt := topS 61
theorem sc__law_late : FnScope ["_law_pool_here", "_law_row"] ["_law_pool_here", "_law_row"] (defScope s__law_late) := ⟨rfl, rfl, rfl, by decide +kernel, rfl, by decide +kernel, by decide +kernel⟩
abbrev s__law_item : Stmt := topS 62
theorem sc__law_item : FnScope ["_law_pool_here", "_law_width", "_law_palette"] ["_law_pool_here", "_law_width", "_law_palette"] (defScope s__law_item) := ⟨rfl, rfl, rfl, by decide +kernel, rfl, by decide +kernel, by decide +kernel⟩
abbrev s__law_call_step : Stmt := topS 63
theorem sc__law_call_step : FnScope ["_law_pool_here", "_law_tables_here", "_law_services_here", "_law_shapes", "_law_name", "_law_palette", "_law_limits", "_law_origin", "_law_service", "_law_table", "_law_given", "_law_cap", "_law_width", "_law_items", "_law_at"] ["_law_pool_here", "_law_tables_here", "_law_services_here", "_law_shapes", "_law_name", "_law_palette", "_law_limits"] (defScope s__law_call_step) := ⟨rfl, rfl, rfl, by decide +kernel, rfl, by decide +kernel, by decide +kernel⟩
abbrev s__law_join_step : Stmt := topS 64
theorem sc__law_join_step : FnScope ["_law_pool_here", "_law_shapes", "_law_name", "_law_kind", "_law_limits", "_law_one", "_law_fit", "_law_other", "_law_shape_here"] ["_law_pool_here", "_law_shapes", "_law_name", "_law_kind", "_law_limits"] (defScope s__law_join_step) := ⟨rfl, rfl, rfl, by decide +kernel, rfl, by decide +kernel, by decide +kernel⟩
abbrev s__law_cut_step : Stmt := topS 65
theorem sc__law_cut_step : FnScope ["_law_pool_here", "_law_shapes", "_law_name", "_law_palette", "_law_origin", "_law_index", "_law_item_here", "_law_items", "_law_at"] ["_law_pool_here", "_law_shapes", "_law_name", "_law_palette"] (defScope s__law_cut_step) := ⟨rfl, rfl, rfl, by decide +kernel, rfl, by decide +kernel, by decide +kernel⟩
abbrev s__law_steps : Stmt := topS 66
theorem sc__law_steps : FnScope ["_law_pool_here", "_law_tables_here", "_law_services_here", "_law_palette", "_law_many", "_law_limits", "_law_names_here", "_law_steps_here", "_law_shapes", "_law_k", "_law_kind", "_law_found"] ["_law_pool_here", "_law_tables_here", "_law_services_here", "_law_palette", "_law_many", "_law_limits"] (defScope s__law_steps) := ⟨rfl, rfl, rfl, by decide +kernel, rfl, by decide +kernel, by decide +kernel⟩
abbrev s__law_wrong : Stmt := topS 67
theorem sc__law_wrong : FnScope ["_law_pool_here", "_law_step", "_law_names_here", "_law_odd", "_law_item_here", "_law_kind", "_law_name"] ["_law_pool_here", "_law_step", "_law_names_here"] (defScope s__law_wrong) := ⟨rfl, rfl, rfl, by decide +kernel, rfl, by decide +kernel, by decide +kernel⟩
abbrev s__law_more : Stmt := topS 68
theorem sc__law_more : FnScope ["_law_pool_here", "_law_steps_here", "_law_services_here", "_law_last", "_law_kind", "_law_service", "_law_names_here", "_law_k", "_law_step", "_law_at"] ["_law_pool_here", "_law_steps_here", "_law_services_here"] (defScope s__law_more) := ⟨rfl, rfl, rfl, by decide +kernel, rfl, by decide +kernel, by decide +kernel⟩
abbrev s__law_spoil : Stmt := topS 69
theorem sc__law_spoil : FnScope ["_law_pool_here", "_law_steps_here", "_law_services_here", "_law_kind", "_law_at", "_law_names_here", "_law_step"] ["_law_pool_here", "_law_steps_here", "_law_services_here"] (defScope s__law_spoil) := ⟨rfl, rfl, rfl, by decide +kernel, rfl, by decide +kernel, by decide +kernel⟩
abbrev s__law_is_integer : Stmt := topS 70
theorem sc__law_is_integer : FnScope ["_law_thing"] ["_law_thing"] (defScope s__law_is_integer) := ⟨rfl, rfl, rfl, by decide +kernel, rfl, by decide +kernel, by decide +kernel⟩
abbrev s__law_is_word : Stmt := topS 71
theorem sc__law_is_word : FnScope ["_law_thing", "_law_sign"] ["_law_thing"] (defScope s__law_is_word) := ⟨rfl, rfl, rfl, by decide +kernel, rfl, by decide +kernel, by decide +kernel⟩
abbrev s__law_is_item : Stmt := topS 72
theorem sc__law_is_item : FnScope ["_law_thing"] ["_law_thing"] (defScope s__law_is_item) := ⟨rfl, rfl, rfl, by decide +kernel, rfl, by decide +kernel, by decide +kernel⟩
abbrev s__law_are_items : Stmt := topS 73
theorem sc__law_are_items : FnScope ["_law_thing", "_law_item_here"] ["_law_thing"] (defScope s__law_are_items) := ⟨rfl, rfl, rfl, by decide +kernel, rfl, by decide +kernel, by decide +kernel⟩
abbrev s__law_form : Stmt := topS 74
theorem sc__law_form : FnScope ["_law_step", "_law_sizes"] ["_law_step"] (defScope s__law_form) := ⟨rfl, rfl, rfl, by decide +kernel, rfl, by decide +kernel, by decide +kernel⟩
abbrev s__law_name_fault : Stmt := topS 75
theorem sc__law_name_fault : FnScope ["_law_services_here", "_law_step", "_law_shapes"] ["_law_services_here", "_law_step", "_law_shapes"] (defScope s__law_name_fault) := ⟨rfl, rfl, rfl, by decide +kernel, rfl, by decide +kernel, by decide +kernel⟩
abbrev s__law_items_fault : Stmt := topS 76
theorem sc__law_items_fault : FnScope ["_law_services_here", "_law_step", "_law_shapes", "_law_items", "_law_item_here"] ["_law_services_here", "_law_step", "_law_shapes"] (defScope s__law_items_fault) := ⟨rfl, rfl, rfl, by decide +kernel, rfl, by decide +kernel, by decide +kernel⟩
abbrev s__law_shape : Stmt := topS 77
theorem sc__law_shape : FnScope ["_law_tables_here", "_law_services_here", "_law_step", "_law_shapes", "_law_one", "_law_other"] ["_law_tables_here", "_law_services_here", "_law_step", "_law_shapes"] (defScope s__law_shape) := ⟨rfl, rfl, rfl, by decide +kernel, rfl, by decide +kernel, by decide +kernel⟩
abbrev s__law_due : Stmt := topS 78
theorem sc__law_due : FnScope ["_law_tables_here", "_law_services_here", "_law_steps_here", "_law_shapes", "_law_shape_here", "_law_at", "_law_step"] ["_law_tables_here", "_law_services_here", "_law_steps_here"] (defScope s__law_due) := ⟨rfl, rfl, rfl, by decide +kernel, rfl, by decide +kernel, by decide +kernel⟩
abbrev s_law : Stmt := topS 79
theorem sc_law : FnScope ["_law_script", "_law_pool_here", "_law_spoils", "_law_tables_here", "_law_keys_here", "_law_services_here", "_law_palette", "_law_many", "_law_steps_here", "_law_shapes", "_law_k", "_law_told", "_law_plain", "_law_handed", "_law_program", "e"] ["_law_script"] (defScope s_law) := ⟨rfl, rfl, rfl, by decide +kernel, rfl, by decide +kernel, by decide +kernel⟩
/-- what the top has written, as the walks ask for it -/
structure Txt (K : PySem.W.Frag) (mg : Str → Option Value) (a : Nat → Addr) (d : Nat → FuncData) : Prop where
  F1300 : Fun K "__init__" "UnknownName.__init__" s_UnknownName___init__ (a 1300) (d 1300)
  b1300 : Binds K (d 1300) ["self", "name"] []
  F1500 : Fun K "__init__" "InvalidProgram.__init__" s_InvalidProgram___init__ (a 1500) (d 1500)
  b1500 : Binds K (d 1500) ["self", "part", "at"] []
  F9 : Fun K "is_plain_int" "is_plain_int" s_is_plain_int (a 9) (d 9)
  b9 : Binds K (d 9) ["thing"] []
  g9 : mg "is_plain_int" = some (.ref (a 9))
  F10 : Fun K "is_word" "is_word" s_is_word (a 10) (d 10)
  b10 : Binds K (d 10) ["thing"] []
  g10 : mg "is_word" = some (.ref (a 10))
  F11 : Fun K "is_value" "is_value" s_is_value (a 11) (d 11)
  b11 : Binds K (d 11) ["thing"] []
  g11 : mg "is_value" = some (.ref (a 11))
  F36 : Fun K "_is_count" "_is_count" s__is_count (a 36) (d 36)
  b36 : Binds K (d 36) ["thing", "most"] []
  g36 : mg "_is_count" = some (.ref (a 36))
  F37 : Fun K "_is_name_in" "_is_name_in" s__is_name_in (a 37) (d 37)
  b37 : Binds K (d 37) ["thing", "names"] []
  g37 : mg "_is_name_in" = some (.ref (a 37))
  F38 : Fun K "_are_columns" "_are_columns" s__are_columns (a 38) (d 38)
  b38 : Binds K (d 38) ["thing", "width"] []
  g38 : mg "_are_columns" = some (.ref (a 38))
  F39 : Fun K "_is_key" "_is_key" s__is_key (a 39) (d 39)
  b39 : Binds K (d 39) ["thing", "width"] []
  g39 : mg "_is_key" = some (.ref (a 39))
  F40 : Fun K "_is_service" "_is_service" s__is_service (a 40) (d 40)
  b40 : Binds K (d 40) ["thing", "tables"] []
  g40 : mg "_is_service" = some (.ref (a 40))
  F41 : Fun K "_is_whole_service" "_is_whole_service" s__is_whole_service (a 41) (d 41)
  b41 : Binds K (d 41) ["service", "tables", "keys"] []
  g41 : mg "_is_whole_service" = some (.ref (a 41))
  F42 : Fun K "_check_tables" "_check_tables" s__check_tables (a 42) (d 42)
  b42 : Binds K (d 42) ["tables"] []
  g42 : mg "_check_tables" = some (.ref (a 42))
  F43 : Fun K "_check_keys" "_check_keys" s__check_keys (a 43) (d 43)
  b43 : Binds K (d 43) ["keys", "tables"] []
  g43 : mg "_check_keys" = some (.ref (a 43))
  F44 : Fun K "_check_services" "_check_services" s__check_services (a 44) (d 44)
  b44 : Binds K (d 44) ["services", "tables"] []
  g44 : mg "_check_services" = some (.ref (a 44))
  F45 : Fun K "_check_capped" "_check_capped" s__check_capped (a 45) (d 45)
  b45 : Binds K (d 45) ["services", "tables", "keys"] []
  g45 : mg "_check_capped" = some (.ref (a 45))
  F46 : Fun K "_copied" "_copied" s__copied (a 46) (d 46)
  b46 : Binds K (d 46) ["things"] []
  g46 : mg "_copied" = some (.ref (a 46))
  F5700 : Fun K "__init__" "Schema.__init__" s_Schema___init__ (a 5700) (d 5700)
  b5700 : Binds K (d 5700) ["self", "tables", "keys", "services"] []
  F5706 : Fun K "service_names" "Schema.service_names" s_Schema_service_names (a 5706) (d 5706)
  b5706 : Binds K (d 5706) ["self"] []
  F5708 : Fun K "width_of" "Schema.width_of" s_Schema_width_of (a 5708) (d 5708)
  b5708 : Binds K (d 5708) ["self", "table"] []
  F5710 : Fun K "service_of" "Schema.service_of" s_Schema_service_of (a 5710) (d 5710)
  b5710 : Binds K (d 5710) ["self", "name"] []
  F19 : Fun K "items_of" "items_of" s_items_of (a 19) (d 19)
  b19 : Binds K (d 19) ["step"] []
  g19 : mg "items_of" = some (.ref (a 19))
  F20 : Fun K "_is_index" "_is_index" s__is_index (a 20) (d 20)
  b20 : Binds K (d 20) ["thing"] []
  g20 : mg "_is_index" = some (.ref (a 20))
  F21 : Fun K "_is_item" "_is_item" s__is_item (a 21) (d 21)
  b21 : Binds K (d 21) ["thing"] []
  g21 : mg "_is_item" = some (.ref (a 21))
  F22 : Fun K "_has_length_and_names" "_has_length_and_names" s__has_length_and_names (a 22) (d 22)
  b22 : Binds K (d 22) ["step"] []
  g22 : mg "_has_length_and_names" = some (.ref (a 22))
  F23 : Fun K "_has_form" "_has_form" s__has_form (a 23) (d 23)
  b23 : Binds K (d 23) ["step"] []
  g23 : mg "_has_form" = some (.ref (a 23))
  F24 : Fun K "_used" "_used" s__used (a 24) (d 24)
  b24 : Binds K (d 24) ["step"] []
  g24 : mg "_used" = some (.ref (a 24))
  F25 : Fun K "_has_names" "_has_names" s__has_names (a 25) (d 25)
  b25 : Binds K (d 25) ["schema", "step", "sizes"] []
  g25 : mg "_has_names" = some (.ref (a 25))
  F26 : Fun K "_has_items" "_has_items" s__has_items (a 26) (d 26)
  b26 : Binds K (d 26) ["schema", "step", "sizes"] []
  g26 : mg "_has_items" = some (.ref (a 26))
  F27 : Fun K "_size" "_size" s__size (a 27) (d 27)
  b27 : Binds K (d 27) ["schema", "step", "sizes"] []
  g27 : mg "_size" = some (.ref (a 27))
  F28 : Fun K "_joins_equal_widths" "_joins_equal_widths" s__joins_equal_widths (a 28) (d 28)
  b28 : Binds K (d 28) ["step", "sizes"] []
  g28 : mg "_joins_equal_widths" = some (.ref (a 28))
  F29 : Fun K "_wrong_part" "_wrong_part" s__wrong_part (a 29) (d 29)
  b29 : Binds K (d 29) ["schema", "step", "sizes"] []
  g29 : mg "_wrong_part" = some (.ref (a 29))
  F4000 : Fun K "__init__" "Program.__init__" s_Program___init__ (a 4000) (d 4000)
  b4000 : Binds K (d 4000) ["self", "schema", "steps"] []
  F49 : Fun K "_law_pool" "_law_pool" s__law_pool (a 49) (d 49)
  b49 : Binds K (d 49) ["_law_script"] []
  g49 : mg "_law_pool" = some (.ref (a 49))
  F50 : Fun K "_law_mixed" "_law_mixed" s__law_mixed (a 50) (d 50)
  b50 : Binds K (d 50) ["_law_seed", "_law_count"] []
  g50 : mg "_law_mixed" = some (.ref (a 50))
  F51 : Fun K "_law_draw" "_law_draw" s__law_draw (a 51) (d 51)
  b51 : Binds K (d 51) ["_law_pool_here", "_law_many"] []
  g51 : mg "_law_draw" = some (.ref (a 51))
  F52 : Fun K "_law_word" "_law_word" s__law_word (a 52) (d 52)
  b52 : Binds K (d 52) ["_law_pool_here", "_law_many"] []
  g52 : mg "_law_word" = some (.ref (a 52))
  F53 : Fun K "_law_names" "_law_names" s__law_names (a 53) (d 53)
  b53 : Binds K (d 53) ["_law_pool_here", "_law_many"] []
  g53 : mg "_law_names" = some (.ref (a 53))
  F54 : Fun K "_law_columns" "_law_columns" s__law_columns (a 54) (d 54)
  b54 : Binds K (d 54) ["_law_pool_here", "_law_width", "_law_low", "_law_high"] []
  g54 : mg "_law_columns" = some (.ref (a 54))
  F55 : Fun K "_law_tables" "_law_tables" s__law_tables (a 55) (d 55)
  b55 : Binds K (d 55) ["_law_pool_here", "_law_many", "_law_widest"] []
  g55 : mg "_law_tables" = some (.ref (a 55))
  F56 : Fun K "_law_keys" "_law_keys" s__law_keys (a 56) (d 56)
  b56 : Binds K (d 56) ["_law_pool_here", "_law_tables_here"] []
  g56 : mg "_law_keys" = some (.ref (a 56))
  F57 : Fun K "_law_is_whole" "_law_is_whole" s__law_is_whole (a 57) (d 57)
  b57 : Binds K (d 57) ["_law_tables_here", "_law_keys_here", "_law_told"] []
  g57 : mg "_law_is_whole" = some (.ref (a 57))
  F58 : Fun K "_law_services" "_law_services" s__law_services (a 58) (d 58)
  b58 : Binds K (d 58) ["_law_pool_here", "_law_tables_here", "_law_keys_here", "_law_caps", "_law_more_here"] []
  g58 : mg "_law_services" = some (.ref (a 58))
  F59 : Fun K "_law_schema_parts" "_law_schema_parts" s__law_schema_parts (a 59) (d 59)
  b59 : Binds K (d 59) ["_law_pool_here", "_law_many", "_law_widest", "_law_caps", "_law_more_here"] []
  g59 : mg "_law_schema_parts" = some (.ref (a 59))
  F60 : Fun K "_law_pick" "_law_pick" s__law_pick (a 60) (d 60)
  b60 : Binds K (d 60) ["_law_pool_here", "_law_row"] []
  g60 : mg "_law_pick" = some (.ref (a 60))
  F61 : Fun K "_law_late" "_law_late" s__law_late (a 61) (d 61)
  b61 : Binds K (d 61) ["_law_pool_here", "_law_row"] []
  g61 : mg "_law_late" = some (.ref (a 61))
  F62 : Fun K "_law_item" "_law_item" s__law_item (a 62) (d 62)
  b62 : Binds K (d 62) ["_law_pool_here", "_law_width", "_law_palette"] []
  g62 : mg "_law_item" = some (.ref (a 62))
  F63 : Fun K "_law_call_step" "_law_call_step" s__law_call_step (a 63) (d 63)
  b63 : Binds K (d 63) ["_law_pool_here", "_law_tables_here", "_law_services_here", "_law_shapes", "_law_name", "_law_palette", "_law_limits"] []
  g63 : mg "_law_call_step" = some (.ref (a 63))
  F64 : Fun K "_law_join_step" "_law_join_step" s__law_join_step (a 64) (d 64)
  b64 : Binds K (d 64) ["_law_pool_here", "_law_shapes", "_law_name", "_law_kind", "_law_limits"] []
  g64 : mg "_law_join_step" = some (.ref (a 64))
  F65 : Fun K "_law_cut_step" "_law_cut_step" s__law_cut_step (a 65) (d 65)
  b65 : Binds K (d 65) ["_law_pool_here", "_law_shapes", "_law_name", "_law_palette"] []
  g65 : mg "_law_cut_step" = some (.ref (a 65))
  F66 : Fun K "_law_steps" "_law_steps" s__law_steps (a 66) (d 66)
  b66 : Binds K (d 66) ["_law_pool_here", "_law_tables_here", "_law_services_here", "_law_palette", "_law_many", "_law_limits"] []
  g66 : mg "_law_steps" = some (.ref (a 66))
  F67 : Fun K "_law_wrong" "_law_wrong" s__law_wrong (a 67) (d 67)
  b67 : Binds K (d 67) ["_law_pool_here", "_law_step", "_law_names_here"] []
  g67 : mg "_law_wrong" = some (.ref (a 67))
  F68 : Fun K "_law_more" "_law_more" s__law_more (a 68) (d 68)
  b68 : Binds K (d 68) ["_law_pool_here", "_law_steps_here", "_law_services_here"] []
  g68 : mg "_law_more" = some (.ref (a 68))
  F69 : Fun K "_law_spoil" "_law_spoil" s__law_spoil (a 69) (d 69)
  b69 : Binds K (d 69) ["_law_pool_here", "_law_steps_here", "_law_services_here"] []
  g69 : mg "_law_spoil" = some (.ref (a 69))
  F70 : Fun K "_law_is_integer" "_law_is_integer" s__law_is_integer (a 70) (d 70)
  b70 : Binds K (d 70) ["_law_thing"] []
  g70 : mg "_law_is_integer" = some (.ref (a 70))
  F71 : Fun K "_law_is_word" "_law_is_word" s__law_is_word (a 71) (d 71)
  b71 : Binds K (d 71) ["_law_thing"] []
  g71 : mg "_law_is_word" = some (.ref (a 71))
  F72 : Fun K "_law_is_item" "_law_is_item" s__law_is_item (a 72) (d 72)
  b72 : Binds K (d 72) ["_law_thing"] []
  g72 : mg "_law_is_item" = some (.ref (a 72))
  F73 : Fun K "_law_are_items" "_law_are_items" s__law_are_items (a 73) (d 73)
  b73 : Binds K (d 73) ["_law_thing"] []
  g73 : mg "_law_are_items" = some (.ref (a 73))
  F74 : Fun K "_law_form" "_law_form" s__law_form (a 74) (d 74)
  b74 : Binds K (d 74) ["_law_step"] []
  g74 : mg "_law_form" = some (.ref (a 74))
  F75 : Fun K "_law_name_fault" "_law_name_fault" s__law_name_fault (a 75) (d 75)
  b75 : Binds K (d 75) ["_law_services_here", "_law_step", "_law_shapes"] []
  g75 : mg "_law_name_fault" = some (.ref (a 75))
  F76 : Fun K "_law_items_fault" "_law_items_fault" s__law_items_fault (a 76) (d 76)
  b76 : Binds K (d 76) ["_law_services_here", "_law_step", "_law_shapes"] []
  g76 : mg "_law_items_fault" = some (.ref (a 76))
  F77 : Fun K "_law_shape" "_law_shape" s__law_shape (a 77) (d 77)
  b77 : Binds K (d 77) ["_law_tables_here", "_law_services_here", "_law_step", "_law_shapes"] []
  g77 : mg "_law_shape" = some (.ref (a 77))
  F78 : Fun K "_law_due" "_law_due" s__law_due (a 78) (d 78)
  b78 : Binds K (d 78) ["_law_tables_here", "_law_services_here", "_law_steps_here"] []
  g78 : mg "_law_due" = some (.ref (a 78))
  F79 : Fun K "law" "law" s_law (a 79) (d 79)
  b79 : Binds K (d 79) ["_law_script"] []
  g79 : mg "law" = some (.ref (a 79))
  cg_2 : mg "CappedError" = some (.ref (a 2))
  x_2 : OexC K (a 2)
  xf_2 : XfC K (a 2)
  xi_2 : ExcC K (a 2)
  cg_3 : mg "UnknownName" = some (.ref (a 3))
  x_3 : OexC K (a 3)
  xf_3 : XfC K (a 3)
  xi_3 : ExcC K (a 3)
  in_3 : PySem.W.findIn K (.ref (a 3)) "__init__" = some (some (.ref (a 1300)))
  ti_3 : PySem.W.typeIn K (.ref (a 1300)) = some (.type "function")
  no_3_name : PySem.W.findIn K (.ref (a 3)) "name" = some none
  cg_4 : mg "InvalidSchema" = some (.ref (a 4))
  x_4 : OexC K (a 4)
  xf_4 : XfC K (a 4)
  xi_4 : ExcC K (a 4)
  no_4_part : PySem.W.findIn K (.ref (a 4)) "part" = some none
  no_4_name : PySem.W.findIn K (.ref (a 4)) "name" = some none
  cg_5 : mg "InvalidProgram" = some (.ref (a 5))
  x_5 : OexC K (a 5)
  xf_5 : XfC K (a 5)
  xi_5 : ExcC K (a 5)
  in_5 : PySem.W.findIn K (.ref (a 5)) "__init__" = some (some (.ref (a 1500)))
  ti_5 : PySem.W.typeIn K (.ref (a 1500)) = some (.type "function")
  no_5_part : PySem.W.findIn K (.ref (a 5)) "part" = some none
  no_5_at : PySem.W.findIn K (.ref (a 5)) "at" = some none
  cg_47 : mg "Schema" = some (.ref (a 47))
  cl_47 : Cls K (a 47)
  M_47 : Mk K (a 47) (a 5700)
  no_47__tables : NoAttr K (a 47) "_tables"
  no_47__keys : NoAttr K (a 47) "_keys"
  no_47__services : NoAttr K (a 47) "_services"
  cg_30 : mg "Program" = some (.ref (a 30))
  cl_30 : Cls K (a 30)
  M_30 : Mk K (a 30) (a 4000)
  no_30_schema : NoAttr K (a 30) "schema"
  no_30_width : NoAttr K (a 30) "width"
  no_30_part_count : NoAttr K (a 30) "part_count"
  no_30_call_count : NoAttr K (a 30) "call_count"
  no_30__steps : NoAttr K (a 30) "_steps"
  wg__LENGTHS : mg "_LENGTHS" = some (.ref (a 90017))
  wg__NAMES : mg "_NAMES" = some (.ref (a 90018))
  ic_47 : C8.InsC K (a 47)
  ic_30 : C8.InsC K (a 30)
  kit_5_2 : PySem.W.kitOne K (.ref (a 5)) (.ref (a 2)) = some true
  kif_5_4 : PySem.W.kitOne K (.ref (a 5)) (.ref (a 4)) = some false
  kit_5_ValueError : PySem.W.kitOne K (.ref (a 5)) (.type "ValueError") = some true
  exm_5_5 : PySem.W.exmOne K (.ref (a 5)) (.ref (a 5)) = some true
  m_5706 : Meth K (a 47) "service_names" (a 5706)
  m_5708 : Meth K (a 47) "width_of" (a 5708)
  m_5710 : Meth K (a 47) "service_of" (a 5710)
  z_ValueError : mg "ValueError" = none
  z_abs : mg "abs" = none
  z_all : mg "all" = none
  z_bool : mg "bool" = none
  z_enumerate : mg "enumerate" = none
  z_int : mg "int" = none
  z_isinstance : mg "isinstance" = none
  z_len : mg "len" = none
  z_list : mg "list" = none
  z_max : mg "max" = none
  z_range : mg "range" = none
  z_sorted : mg "sorted" = none
  z_str : mg "str" = none
  z_tuple : mg "tuple" = none
  c_LONGEST_WORD : ∃ t, mg "LONGEST_WORD" = some (.int (8) t)
  c_GREATEST_VALUE : ∃ t, mg "GREATEST_VALUE" = some (.int (999999999999999999999999999999) t)
  c_MOST_STEPS : ∃ t, mg "MOST_STEPS" = some (.int (12) t)
  c_MOST_WIDTH_programs : ∃ t, mg "MOST_WIDTH_programs" = some (.int (12) t)
  c_MOST_PARTS : ∃ t, mg "MOST_PARTS" = some (.int (16) t)
  c_MOST_CALLS : ∃ t, mg "MOST_CALLS" = some (.int (4) t)
  c_MOST_TABLES : ∃ t, mg "MOST_TABLES" = some (.int (5) t)
  c_MOST_WIDTH_schemas : ∃ t, mg "MOST_WIDTH_schemas" = some (.int (4) t)
  c_MOST_SERVICES : ∃ t, mg "MOST_SERVICES" = some (.int (8) t)
  c_MOST_CAP : ∃ t, mg "MOST_CAP" = some (.int (4) t)
end My
namespace My
open PySem PySem.Spec PyProof.Rows L2
local macro_rules | `(tactic| walk_at "g") => `(tactic| first
  | refine ⟨_, rfl, ?_⟩
  | refine ⟨_, _, rfl, rfl, .inl ⟨by decide, by decide⟩, ?_⟩
  | refine ⟨_, _, rfl, rfl, .inr ⟨by decide, by decide⟩, ?_⟩
  | refine ⟨_, _, rfl, rfl, .inl ⟨by omega, by omega⟩, ?_⟩
  | refine ⟨_, _, rfl, rfl, ⟨by decide, by decide +kernel⟩, ?_⟩
  | refine ⟨_, _, rfl, rfl, ⟨by decide, by decide, by decide⟩, ?_⟩
  | refine ⟨_, _, rfl, rfl, (by show (0 : Int) < _; decide), ?_⟩
  | refine ⟨_, _, rfl, rfl, ?_⟩
  | refine .inl ⟨_, rfl, ?_⟩
  | refine ⟨rfl, _, rfl, ?_⟩)
local macro_rules | `(tactic| walk_at "gg") => `(tactic| repeat walk_at "g")
/-! ### the pool of draws: a list of ints at an address that every draw changes -/
def PoolAt (H : Hp) (a : Addr) : Prop := ∃ (p0 p1 p2 p3 : Int) (r : List Int), H a = some (.lst (.int p0 :: .int p1 :: .int p2 :: .int p3 :: r.map V.int)) ∧ 0 ≤ p0 ∧ 0 ≤ p1 ∧ 0 ≤ p2 ∧ p2 < 2147483647 ∧ 0 ≤ p3 ∧ r.length ≤ 63
/-- the pool at a may have changed; all else that was tracked stands -/
def Chg (a : Addr) (H H' : Hp) : Prop := PoolAt H' a ∧ ∀ b o, b ≠ a → H b = some o → H' b = some o
theorem Chg.refl {a : Addr} {H : Hp} (h : PoolAt H a) : Chg a H H := ⟨h, fun _ _ _ e => e⟩
theorem Chg.trans {a : Addr} {H H1 H2 : Hp} (x : Chg a H H1) (y : Chg a H1 H2) : Chg a H H2 := ⟨y.1, fun b o n e => y.2 b o n (x.2 b o n e)⟩
theorem Chg.new {a p : Addr} {o : HO} {H H1 : Hp} (x : Chg a H H1) (h : H1 p = none) : Chg a H (upd H1 p o) := by
  obtain ⟨⟨p0, p1, p2, p3, r, e, c⟩, k⟩ := x
  have n : a ≠ p := ne_of_none e h
  exact ⟨⟨p0, p1, p2, p3, r, by rw [upd_ne n]; exact e, c⟩, fun b u nb q => by
    have q' := k b u nb q
    rw [upd_ne (ne_of_none q' h)]
    exact q'⟩
theorem Chg.mut {a p : Addr} {o : HO} {H H1 : Hp} (x : Chg a H H1) (h : H p = none) (n : p ≠ a) : Chg a H (upd H1 p o) := by
  obtain ⟨⟨p0, p1, p2, p3, r, e, c⟩, k⟩ := x
  exact ⟨⟨p0, p1, p2, p3, r, by rw [upd_ne n.symm]; exact e, c⟩, fun b u nb q => by
    rw [upd_ne (ne_of_none q h)]
    exact k b u nb q⟩
theorem Chg.ne {a p : Addr} {H : Hp} (x : PoolAt H a) (h : H p = none) : p ≠ a := by
  obtain ⟨p0, p1, p2, p3, r, e, c⟩ := x
  exact (ne_of_none e h).symm
theorem PoolAt.same {a : Addr} {H H' : Hp} (x : PoolAt H a) (s : Same H H') : PoolAt H' a := by
  obtain ⟨p0, p1, p2, p3, r, e, c⟩ := x
  exact ⟨p0, p1, p2, p3, r, s _ _ e, c⟩
theorem same_upd {H : Hp} {p : Addr} {o : HO} (h : H p = none) : Same H (upd H p o) := fun b x e => by
  rw [upd_ne (ne_of_none e h)]
  exact e
theorem Same.on {H H' : Hp} {b : Addr} {o : HO} (s : Same H H') (e : H b = some o) : H' b = some o := s _ _ e
theorem upd_old {H : Hp} {p b : Addr} {o u : HO} (h : H p = none) (e : H b = some u) : upd H p o b = some u := by
  rw [upd_ne (ne_of_none e h)]
  exact e
theorem upd_oldN {H : Hp} {p b : Addr} {o u : HO} (n : b ≠ p) (e : H b = some u) : upd H p o b = some u := by
  rw [upd_ne n]
  exact e
theorem free_of {a p : Addr} {H H1 : Hp} (x : Chg a H H1) (h0 : PoolAt H a) (h : H1 p = none) : H p = none := by
  cases e : H p with
  | none => rfl
  | some o =>
    by_cases n : p = a
    · subst n
      obtain ⟨⟨p0, p1, p2, p3, r, e, c⟩, _⟩ := x
      rw [e] at h
      cases h
    · rw [x.2 p o n e] at h
      cases h
theorem ixN_at {n j : Nat} (h : j < n) : ixN n (j : Int) = some j := by
  unfold ixN
  rw [if_pos (by omega), if_pos (by omega)]
  simp
theorem ite_d {p A B : Prop} [Decidable p] (h1 : p → A) (h2 : ¬ p → B) : if decide p = true then A else B := by
  by_cases h : p
  · rw [if_pos (decide_eq_true h)]
    exact h1 h
  · rw [if_neg (by rw [decide_eq_false h]; decide)]
    exact h2 h
theorem ite_nd {p A B : Prop} [Decidable p] (h1 : ¬ p → A) (h2 : p → B) : if (!decide p) = true then A else B := by
  by_cases h : p
  · rw [if_neg (by rw [decide_eq_true h]; decide)]
    exact h2 h
  · rw [if_pos (by rw [decide_eq_false h]; decide)]
    exact h1 h
theorem ite_eqI {i j : Int} {A B : Prop} (h1 : i = j → A) (h2 : i ≠ j → B) : if decide (V.int i = V.int j) = true then A else B := ite_d (fun h => h1 (V.int.inj h)) (fun h => h2 fun e => h (congrArg V.int e))
theorem int_at {q0 q1 q2 q3 : Int} {r : List Int} {i : Nat} (h : i < (V.int q0 :: .int q1 :: .int q2 :: .int q3 :: r.map V.int).length) : ∃ c, (V.int q0 :: .int q1 :: .int q2 :: .int q3 :: r.map V.int)[i]? = some (.int c) := by
  have e : (V.int q0 :: .int q1 :: .int q2 :: .int q3 :: r.map V.int) = (q0 :: q1 :: q2 :: q3 :: r).map V.int := rfl
  rw [e] at h ⊢
  rw [List.length_map] at h
  exact ⟨_, by rw [List.getElem?_map, List.getElem?_eq_getElem h]; rfl⟩
theorem map_at {α β : Type} {f : α → β} {xs : List α} {i : Nat} {y : β} (h : (xs.map f)[i]? = some y) : ∃ x, xs[i]? = some x ∧ f x = y := by
  rw [List.getElem?_map] at h
  cases e : xs[i]? with
  | none =>
    rw [e] at h
    cases h
  | some x =>
    rw [e] at h
    exact ⟨x, rfl, Option.some.inj h⟩
theorem map_take {α β : Type} {f : α → β} {xs : List α} {i : Nat} {x : α} (h : xs[i]? = some x) : (xs.take (i + 1)).map f = (xs.take i).map f ++ [f x] := by
  rw [List.take_add_one, h, List.map_append]
  rfl
theorem small1000' {n : Nat} (h : n ≤ 1000) : n ≤ sizeLine := Nat.le_of_lt (small1000 h)
theorem hu_of64 {A : Around} {k : Nat} (hr : Room k A) : A.units + 64 < cLine := Nat.lt_of_le_of_lt (Nat.add_le_add_left (by omega : 64 ≤ 16 * k + 200) _) (by have := hr.un; omega)
theorem hu_of65 {A : Around} {k : Nat} (hr : Room k A) : A.units + 65 < cLine := Nat.lt_of_le_of_lt (Nat.add_le_add_left (by omega : 65 ≤ 16 * k + 200) _) (by have := hr.un; omega)
theorem hu_of80 {A : Around} {k : Nat} (hr : Room k A) : A.units + 80 < cLine := Nat.lt_of_le_of_lt (Nat.add_le_add_left (by omega : 80 ≤ 16 * k + 200) _) (by have := hr.un; omega)
theorem at_g {α : Type} {xs : List α} {z : Int} {j : Nat} {v : α} (e : z = (j : Int)) (h : xs[j]? = some v) : atI xs z = some v := by
  rw [e]
  exact atI_nat h
theorem at_some {α : Type} {xs : List α} {z : Int} (h0 : 0 ≤ z) (h1 : z < xs.length) : ∃ v, atI xs z = some v := by
  have h2 : z.toNat < xs.length := by omega
  exact ⟨_, at_g (show z = ((z.toNat : Nat) : Int) by omega) (List.getElem?_eq_getElem h2)⟩
theorem atI_mem {α : Type} {xs : List α} {z : Int} {v : α} (h : atI xs z = some v) : v ∈ xs := by
  unfold atI at h
  cases e : ixN xs.length z with
  | none =>
    rw [e] at h
    cases h
  | some j =>
    rw [e] at h
    exact List.mem_of_getElem? h
theorem cutS_mem {z : Str} {lo hi : Option Int} {c : Nat} (h : c ∈ (cutS z lo hi).cps.toList) : c ∈ z.cps.toList := by
  unfold cutS at h
  exact List.mem_of_mem_drop (List.mem_of_mem_take h)
theorem letter_at : ∀ j : Nat, j < 26 → ("abcdefghijklmnopqrstuvwxyz" : Str).cps.toList[j]? = some (97 + j) := by decide +kernel
section
variable {P : Program} {w : World} {K : PySem.W.Frag} {mg : Str → Option Value} {base : Heap} {a : Nat → Addr} {d : Nat → FuncData}
/-! ### _law_mixed: some int -/
def spMixed : Sp := fun vs H Q _ => ∃ (s c : Int), vs = [.int s, .int c] ∧ ∀ r : Int, Q (.int r) H
theorem ok_mixed (T : Txt K mg a d) : FnOk P w K mg base CX0 1 (a 50) (d 50) ["_law_seed", "_law_count"] spMixed := by
  refine T.F50.ok sc__law_mixed (fun vs H Q E h => ?_) (fun cdv A outer s H vs Q E hr h => ?_)
  · obtain ⟨s, c, rfl, _⟩ := h
    rfl
  · obtain ⟨s, c, rfl, q⟩ := h
    refine ⟨_, (pss_cons (ps_set (i := 2) sc__law_mixed.nd rfl (.inl rfl) (pe_op op_mod (pe_callTy (T := "int")  call_int1 (by rfl) T.z_int (by decide +kernel) (pa_cons (pe_op op_mul (pe_op op_add (pe_op op_add (pv 0) (pe_op op_mul pe_int (pv 1))) pe_int) pe_int) pa_nil)) pe_int))
  (pss_cons (ps_set (i := 2) sc__law_mixed.nd rfl (.inl rfl) (pe_op op_mod (pe_callTy (T := "int")  call_int1 (by rfl) T.z_int (by decide +kernel) (pa_cons (pe_op op_mul (pv 2) (pe_op op_add (pe_op op_fdivW (pv 2) pe_int) pe_int)) pa_nil)) pe_int))
  (pss_one (ps_ret (pe_op op_mod (pe_callTy (T := "int")  call_int1 (by rfl) T.z_int (by decide +kernel) (pa_cons (pe_op op_mul (pv 2) (pe_op op_add (pe_op op_fdivW (pv 2) pe_int) pe_int)) pa_nil)) pe_int))))), ?_⟩
    walk_at "gg"
    exact q _
/-! ### _law_draw: an int from 0 below many -/
def spDraw : Sp := fun vs H Q _ => ∃ (p : Addr) (m : Int), vs = [.ref p, .int m] ∧ PoolAt H p ∧ 0 < m ∧ m.natAbs < 2 ^ 200 ∧ ∀ (r : Int) (H' : Hp), 0 ≤ r → r < m → Chg p H H' → Q (.int r) H'
def Oth (a : Addr) (H H' : Hp) : Prop := ∀ b o, b ≠ a → H b = some o → H' b = some o
theorem Oth.refl (a : Addr) (H : Hp) : Oth a H H := fun _ _ _ e => e
theorem Oth.upd {a : Addr} {H H' : Hp} {o : HO} (x : Oth a H H') : Oth a H (upd H' a o) := fun b u n e => by
  rw [upd_ne n]
  exact x b u n e
theorem chg_of {p : Addr} {H H' : Hp} {p0 p1 p2 p3 : Int} {r : List Int} (e : H' p = some (.lst (.int p0 :: .int p1 :: .int p2 :: .int p3 :: r.map V.int))) (o : Oth p H H')
    (h0 : 0 ≤ p0) (h1 : 0 ≤ p1) (h2 : 0 ≤ p2) (h3 : p2 < 2147483647) (h4 : 0 ≤ p3) (h5 : r.length ≤ 63) : Chg p H H' := ⟨⟨p0, p1, p2, p3, r, e, h0, h1, h2, h3, h4, h5⟩, o⟩
theorem ok_draw (T : Txt K mg a d) : FnOk P w K mg base CX0 2 (a 51) (d 51) ["_law_pool_here", "_law_many"] spDraw := by
  have G50 : FnOk P w K mg base CX0 1 (a 50) (d 50) ["_law_seed", "_law_count"] spMixed := ok_mixed T
  refine T.F51.ok sc__law_draw (fun vs H Q E h => ?_) (fun cdv A outer s H vs Q E hr h => ?_)
  · obtain ⟨p, m, rfl, _⟩ := h
    rfl
  · obtain ⟨p, m, rfl, ⟨p0, p1, p2, p3, r, e, c0, c1, c2, c3, c4, c5⟩, hm, hm2, q⟩ := h
    refine ⟨_, (pss_cons (ps_asg (pe_op op_add (pe_ix ix_list (pv 0) pe_int (fun _ _ => rfl)) pe_int) (pg_sub (pv 0) pe_int set_list))
  (Evl.pss_cut (ps_if (PW.pt (pw_and (pt_cmpR op_eq (pe_ix ix_list (pv 0) pe_int (fun _ _ => rfl)) pe_int (nomark _)) (pw_and1 (pt_cmpR op_lt (pe_ix ix_list (pv 0) pe_int (fun _ _ => rfl)) (pe_callB (id := "len")  call_len_seq (by rfl) T.z_len (by decide +kernel) (pa_cons (pv 0) pa_nil)) (nomark _)))))
    (pss_cons (ps_set (i := 2) sc__law_draw.nd rfl (.inl rfl) (pe_callB (id := "abs")  call_abs (by rfl) T.z_abs (by decide +kernel) (pa_cons (pe_ix ix_list (pv 0) (pe_ix ix_list (pv 0) pe_int (fun _ _ => rfl)) (fun _ _ => rfl)) pa_nil)))
      (pss_cons (ps_asg (pe_op op_add (pe_ix ix_list (pv 0) pe_int (fun _ _ => rfl)) pe_int) (pg_sub (pv 0) pe_int set_list))
      (pss_one (ps_if (pt_cmpR op_lt (pv 2) (pe_op op_pow pe_int pe_int) (nomark _))
        (pss_one (ps_asg (pe_op op_mod (pe_callTy (T := "int")  call_int1 (by rfl) T.z_int (by decide +kernel) (pa_cons (pe_op op_add (pe_op op_add (pe_op op_mul (pe_ix ix_list (pv 0) pe_int (fun _ _ => rfl)) pe_int) (pv 2)) pe_int) pa_nil)) pe_int) (pg_sub (pv 0) pe_int set_list)))
        (pss_one (ps_asg (pv 2) (pg_sub (pv 0) pe_int set_list)))))))
    pss_nil)
  (pss_cons (ps_if (pt_cmpR op_gt (pe_ix ix_list (pv 0) pe_int (fun _ _ => rfl)) pe_int (nomark _))
    (pss_cons (ps_set (i := 3) sc__law_draw.nd rfl (.inl rfl) (pe_op op_mod (pe_callTy (T := "int")  call_int1 (by rfl) T.z_int (by decide +kernel) (pa_cons (pe_ix ix_list (pv 0) pe_int (fun _ _ => rfl)) pa_nil)) (pv 1)))
      (pss_cons (ps_asg (pe_op op_fdivW (pe_ix ix_list (pv 0) pe_int (fun _ _ => rfl)) (pv 1)) (pg_sub (pv 0) pe_int set_list))
      (pss_one (ps_ret (pv 3)))))
    pss_nil)
  (pss_one (ps_ret (pe_op op_mod (pe_callTy (T := "int")  call_int1 (by rfl) T.z_int (by decide +kernel) (pa_cons (pe_call G50 (hr.mono (by decide)) (by rfl) T.g50 T.F50.kp T.b50 .nil pass0 (pa_cons (pe_ix ix_list (pv 0) pe_int (fun _ _ => rfl)) (pa_cons (pe_ix ix_list (pv 0) pe_int (fun _ _ => rfl)) pa_nil))) pa_nil)) (pv 1))))))), ?_⟩
    -- pool[3] = pool[3] + 1
    refine ⟨_, rfl, _, _, _, _, rfl, rfl, .of e, atI_nat (j := 3) rfl, _, _, rfl, rfl, _, rfl, _, _, _, 3, rfl, rfl, e, ixN_at (j := 3) (by simp only [List.length_cons]; omega), ?_⟩
    generalize hH : upd H p (HO.lst (List.set _ _ _)) = H1
    have e1 : H1 p = some (.lst (.int p0 :: .int p1 :: .int p2 :: .int (p3 + 1) :: r.map V.int)) := by
      rw [← hH]
      exact upd_same
    have o1 : Oth p H H1 := by
      rw [← hH]
      exact (Oth.refl p H).upd
    -- if pool[0] == 0 and pool[1] < len(pool): ..
    refine ⟨fun σ H2 => ∃ (q0 q1 q2 : Int) (y : Option V), σ = [some (.ref p), some (.int m), y, none] ∧ H2 p = some (.lst (.int q0 :: .int q1 :: .int q2 :: .int (p3 + 1) :: r.map V.int)) ∧ Oth p H H2 ∧ 0 ≤ q0 ∧ 0 ≤ q1 ∧ 0 ≤ q2 ∧ q2 < 2147483647, ?_, ?_⟩
    · refine ⟨_, rfl, _, _, _, _, rfl, rfl, .of e1, atI_nat (j := 0) rfl, rfl, _, rfl, ite_eqI (fun h0 => ?_) (fun h0 => iteF ⟨p0, p1, p2, none, rfl, e1, o1, c0, c1, c2, c3⟩)⟩
      refine ⟨_, rfl, _, _, _, _, rfl, rfl, .of e1, atI_nat (j := 1) rfl, _, rfl, _, _, rfl, .inl (.of e1), _, _, rfl, rfl, _, rfl, ite_d (fun h1 => ?_) (fun h1 => ⟨p0, p1, p2, none, rfl, e1, o1, c0, c1, c2, c3⟩)⟩
      -- cell = abs(pool[pool[1]]); pool[1] = pool[1] + 1
      obtain ⟨c, hc⟩ := int_at (q0 := p0) (q1 := p1) (q2 := p2) (q3 := p3 + 1) (r := r) (i := p1.toNat) (by omega)
      refine ⟨_, rfl, _, rfl, _, _, _, _, rfl, rfl, .of e1, atI_nat (j := 1) rfl, _, _, _, _, rfl, rfl, .of e1, at_of (j := p1.toNat) (by omega) hc, _, rfl, ?_⟩
      refine ⟨_, rfl, _, _, _, _, rfl, rfl, .of e1, atI_nat (j := 1) rfl, _, _, rfl, rfl, _, rfl, _, _, _, 1, rfl, rfl, e1, ixN_at (j := 1) (by simp only [List.length_cons]; omega), ?_⟩
      generalize hH2 : upd H1 p (HO.lst (List.set _ _ _)) = H2
      have e2 : H2 p = some (.lst (.int p0 :: .int (p1 + 1) :: .int p2 :: .int (p3 + 1) :: r.map V.int)) := by
        rw [← hH2]
        exact upd_same
      have o2 : Oth p H H2 := by
        rw [← hH2]
        exact o1.upd
      refine ⟨_, rfl, _, _, rfl, rfl, ⟨by decide, by decide, by decide⟩, _, _, rfl, rfl, _, rfl, ite_d (fun h2 => ?_) (fun h2 => ?_)⟩
      · refine ⟨_, rfl, _, _, _, _, rfl, rfl, .of e2, atI_nat (j := 2) rfl, _, _, rfl, rfl, .inr ⟨by decide, by decide⟩, _, rfl, _, _, rfl, rfl, _, _, rfl, rfl, .inl ⟨_, rfl, _, _, rfl, rfl, (by show (0 : Int) < _; decide), _, rfl, _, _, _, 2, rfl, rfl, e2, ixN_at (j := 2) (by simp only [List.length_cons]; omega), ?_⟩⟩
        exact ⟨p0, p1 + 1, _, _, rfl, upd_same, o2.upd, c0, by omega, Int.emod_nonneg _ (by decide), Int.emod_lt_of_pos _ (by decide)⟩
      · refine ⟨_, rfl, _, rfl, _, _, _, 0, rfl, rfl, e2, ixN_at (j := 0) (by simp only [List.length_cons]; omega), ?_⟩
        exact ⟨_, p1 + 1, p2, _, rfl, upd_same, o2.upd, by split <;> omega, by omega, c2, c3⟩
    · rintro σ H2 ⟨q0, q1, q2, y, rfl, e2, o2, d0, d1, d2, d3⟩
      refine ⟨_, rfl, _, _, _, _, rfl, rfl, .of e2, atI_nat (j := 0) rfl, _, _, rfl, rfl, _, rfl, ite_d (fun h0 => ?_) (fun h0 => ?_)⟩
      · refine ⟨_, rfl, _, _, _, _, rfl, rfl, .of e2, atI_nat (j := 0) rfl, .inl ⟨_, rfl, _, rfl, _, _, rfl, rfl, hm, ?_⟩⟩
        refine ⟨_, rfl, _, _, _, _, rfl, rfl, .of e2, atI_nat (j := 0) rfl, _, rfl, _, _, rfl, rfl, wide_div hm hm2 (by decide) (by decide), _, rfl, _, _, _, 0, rfl, rfl, e2, ixN_at (j := 0) (by simp only [List.length_cons]; omega), ?_⟩
        exact ⟨_, rfl, q _ _ (Int.emod_nonneg _ (by omega)) (Int.emod_lt_of_pos _ hm) (chg_of upd_same o2.upd (Int.ediv_nonneg d0 (by omega)) d1 d2 d3 (by omega) c5)⟩
      · refine ⟨_, rfl, _, _, _, _, rfl, rfl, .of e2, atI_nat (j := 2) rfl, _, rfl, _, _, _, _, rfl, rfl, .of e2, atI_nat (j := 3) rfl, _, _, rfl, fun x => .inl ⟨_, rfl, _, rfl, _, _, rfl, rfl, hm, ?_⟩⟩
        exact q _ _ (Int.emod_nonneg _ (by omega)) (Int.emod_lt_of_pos _ hm) (chg_of e2 o2 d0 d1 d2 d3 (by omega) c5)
/-! ### _law_pool: a pool made of the script -/
def spPool (K : PySem.W.Frag) : Sp := fun vs H Q _ => ∃ (p : Addr) (ns : List Int), vs = [.ref p] ∧ SqL K H p (ns.map V.int) ∧ ns.length ≤ 63 ∧ ∀ q H', H q = none → PoolAt H' q → Same H H' → Q (.ref q) H'
theorem ok_pool (T : Txt K mg a d) : FnOk P w K mg base CX0 1 (a 49) (d 49) ["_law_script"] (spPool K) := by
  refine T.F49.ok sc__law_pool (fun vs H Q E h => ?_) (fun cdv A outer s H vs Q E hr h => ?_)
  · obtain ⟨p, ns, rfl, _⟩ := h
    rfl
  · obtain ⟨p, ns, rfl, hS, hl, q⟩ := h
    refine ⟨_, (pss_one (ps_ret (pe_op op_cat (pe_lst (pa_cons pe_int (pa_cons pe_int (pa_cons pe_int (pa_cons pe_int pa_nil))))) (pe_lc (own := [("_law_cell", 1)]) rfl sc__law_pool.nd (pi_list (pv 0)) (blkOk_by (N := ["_law_script", "_law_cell"]) (sc := defScope s__law_pool) (by decide +kernel)) (fun _ _ _ _ _ => pg_name (i := 1) sc__law_pool.nd rfl (.inl rfl)) (fun _ _ _ _ _ => pts_nil) (fun _ _ _ _ _ => (pe_callTy (T := "int")  call_int1 (by rfl) T.z_int (by decide +kernel) (pa_cons (pv 1) pa_nil))))))), ?_⟩
    refine ⟨by show 4 ≤ sizeLine; decide, fun l nl => ?_⟩
    have s1 : Same H (upd H l (.lst [.int 0, .int 4, .int 5, .int 0])) := same_upd nl
    refine ⟨_, rfl, p, rfl, ⟨_, s1.seq hS⟩, fun D hD => ?_⟩
    refine lc_list (K := K) (a := p) (xs := ns.map V.int) (fun i H' => H' D = some (.lst ((ns.take i).map V.int)) ∧ Same (upd H l (.lst [.int 0, .int 4, .int 5, .int 0])) H') ⟨upd_same, same_upd hD⟩ (fun i H' _ hp => (s1.trans hp.2).seq hS) (fun i x H' hx hp => ?_) (fun H' hp => ?_)
    · obtain ⟨z, hz, rfl⟩ := map_at hx
      have hi : i < ns.length := (List.getElem?_eq_some_iff.mp hz).1
      refine ⟨rfl, ?_⟩
      refine ⟨_, rfl, .inl ⟨_, rfl, _, hp.1, ?_, ?_, ?_⟩⟩
      · rw [List.length_map, List.length_take]
        exact small1000 (by omega)
      · rw [map_take hz]
        exact upd_same
      · exact fun b o e => by
          rw [upd_ne (ne_of_none e hD)]
          exact hp.2 b o e
    · obtain ⟨h1, h2⟩ := hp
      rw [List.length_map, List.take_length] at h1
      refine ⟨l, D, _, _, rfl, rfl, h2 _ _ upd_same, h1, ?_, fun r hr => ?_⟩
      · show 4 + (ns.map V.int).length ≤ sizeLine
        rw [List.length_map]
        exact Nat.le_trans (by omega : 4 + ns.length ≤ 67) (by decide)
      · exact q r _ (s1.free (h2.free hr)) ⟨0, 4, 5, 0, ns, upd_same, by decide, by decide, by decide, by decide, by decide, hl⟩ ((s1.trans h2).trans (same_upd hr))
/-! ### _law_word: a word of so many letters -/
def IsWd (s : Str) (m : Nat) : Prop := s.length = m ∧ ∀ c ∈ s.cps.toList, 97 ≤ c ∧ c ≤ 122
def spWord : Sp := fun vs H Q _ => ∃ (p : Addr) (m : Nat), vs = [.ref p, .int (m : Int)] ∧ PoolAt H p ∧ m ≤ 100 ∧ ∀ (s : Str) (H' : Hp), IsWd s m → Chg p H H' → Q (.str s) H'
theorem ok_word (T : Txt K mg a d) : FnOk P w K mg base CX0 3 (a 52) (d 52) ["_law_pool_here", "_law_many"] spWord := by
  have G51 : FnOk P w K mg base CX0 2 (a 51) (d 51) ["_law_pool_here", "_law_many"] spDraw := ok_draw T
  refine T.F52.ok sc__law_word (fun vs H Q E h => ?_) (fun cdv A outer s H vs Q E hr h => ?_)
  · obtain ⟨p, m, rfl, _⟩ := h
    rfl
  · obtain ⟨p, m, rfl, hP, hm, q⟩ := h
    refine ⟨_, (pss_cons (ps_set (i := 2) sc__law_word.nd rfl (.inl rfl) pe_str)
  (pss_cons (ps_set (i := 3) sc__law_word.nd rfl (.inl rfl) pe_str)
  (pss_cons (ps_for PassesOwn.never rfl (pi_range1 (by rfl) T.z_range (pa_cons (pv 1) pa_nil)) (pg_name (i := 4) sc__law_word.nd rfl (.inl rfl))
    (pss_one (ps_set (i := 3) sc__law_word.nd rfl (.inl rfl) (pe_op op_add_str (pv 3) (pe_ix ix_str (pv 2) (pe_call G51 (hr.mono (by decide)) (by rfl) T.g51 T.F51.kp T.b51 .nil pass0 (pa_cons (pv 0) (pa_cons pe_int pa_nil))) (fun _ _ => rfl))))))
  (pss_one (ps_ret (pv 3)))))), ?_⟩
    refine ⟨_, rfl, _, rfl, by omega, by omega, ?_⟩
    refine for_range (lo := 0) (n := (m : Int).toNat) (fun i σ H' => ∃ (s : Str) (y : Option V), σ = [some (.ref p), some (.int m), some (.str "abcdefghijklmnopqrstuvwxyz"), some (.str s), y] ∧ IsWd s i ∧ Chg p H H') ⟨"", none, rfl, ⟨rfl, fun c hc => by cases hc⟩, Chg.refl hP⟩ (fun i σ H' hi hp => ?_) (fun σ H' hp => ?_)
    · obtain ⟨s, y, rfl, hs, hc⟩ := hp
      refine ⟨_, rfl, _, rfl, _, rfl, p, 26, rfl, hc.1, by decide, by decide, fun r H'' h0 h1 hC => ?_⟩
      refine ⟨_, r, 97 + r.toNat, rfl, rfl, by decide +kernel, at_g (show r = ((r.toNat : Nat) : Int) by omega) (letter_at r.toNat (by omega)), _, _, rfl, rfl, ?_, ?_⟩
      · show s.length + 1 ≤ sizeLine
        rw [hs.1]
        exact small1000 (by omega)
      · refine ⟨_, _, rfl, ⟨?_, fun c hcc => ?_⟩, hc.trans hC⟩
        · show (s.cps ++ #[97 + r.toNat]).size = i + 1
          rw [Array.size_append]
          have := hs.1
          show s.cps.size + 1 = i + 1
          exact congrArg (· + 1) this
        · have e : (s ++ (⟨#[97 + r.toNat]⟩ : Str)).cps.toList = s.cps.toList ++ [97 + r.toNat] := by
            show (s.cps ++ #[97 + r.toNat]).toList = _
            rw [Array.toList_append]
          rw [e] at hcc
          rcases List.mem_append.mp hcc with h | h
          · exact hs.2 c h
          · have := List.mem_singleton.mp h
            omega
    · obtain ⟨s, y, rfl, hs, hc⟩ := hp
      exact ⟨_, rfl, q s H' (by rw [Int.toNat_natCast] at hs; exact hs) hc⟩
end
/-! ### words, names -/
def Wd (s : Str) : Prop := 1 ≤ s.length ∧ s.length ≤ 8 ∧ ∀ c ∈ s.cps.toList, 97 ≤ c ∧ c ≤ 122
def sgn (c : Nat) : Str := ⟨#[c]⟩
theorem cps_app (s t : Str) : (s ++ t).cps.toList = s.cps.toList ++ t.cps.toList := by
  show (s.cps ++ t.cps).toList = _
  rw [Array.toList_append]
theorem len_cps (s : Str) : s.length = s.cps.toList.length := by
  show s.cps.size = _
  rw [Array.length_toList]
theorem len_app (s t : Str) : (s ++ t).length = s.length + t.length := by
  rw [len_cps, cps_app, List.length_append, ← len_cps, ← len_cps]
def nmOf (fr : Bool) (stem : Str) (c : Nat) : Str := if fr = true then sgn c ++ stem else stem ++ sgn c
theorem nmOf_inj {fr : Bool} {stem : Str} {c e : Nat} (h : nmOf fr stem c = nmOf fr stem e) : c = e := by
  have h' := congrArg (fun s : Str => s.cps.toList) h
  cases fr with
  | true =>
    have h2 : (sgn c ++ stem).cps.toList = (sgn e ++ stem).cps.toList := h'
    rw [cps_app, cps_app] at h2
    exact (List.cons.inj h2).1
  | false =>
    have h2 : (stem ++ sgn c).cps.toList = (stem ++ sgn e).cps.toList := h'
    rw [cps_app, cps_app] at h2
    exact (List.cons.inj (List.append_cancel_left h2)).1
theorem nmOf_wd {fr : Bool} {stem : Str} {n c : Nat} (h : IsWd stem n) (hn : n ≤ 7) (h1 : 97 ≤ c) (h2 : c ≤ 122) : Wd (nmOf fr stem c) := by
  have l1 : (sgn c).length = 1 := rfl
  have hl := h.1
  have hs : ∀ x ∈ (sgn c).cps.toList, 97 ≤ x ∧ x ≤ 122 := fun x hx => by
    rw [List.mem_singleton.mp hx]
    exact ⟨h1, h2⟩
  cases fr with
  | true =>
    refine ⟨?_, ?_, fun x hx => ?_⟩
    · show 1 ≤ (sgn c ++ stem).length
      rw [len_app]
      omega
    · show (sgn c ++ stem).length ≤ 8
      rw [len_app]
      omega
    · have hx' : x ∈ (sgn c ++ stem).cps.toList := hx
      rw [cps_app] at hx'
      exact (List.mem_append.mp hx').elim (hs x) (h.2 x)
  | false =>
    refine ⟨?_, ?_, fun x hx => ?_⟩
    · show 1 ≤ (stem ++ sgn c).length
      rw [len_app]
      omega
    · show (stem ++ sgn c).length ≤ 8
      rw [len_app]
      omega
    · have hx' : x ∈ (stem ++ sgn c).cps.toList := hx
      rw [cps_app] at hx'
      exact (List.mem_append.mp hx').elim (h.2 x) (hs x)
/-- names of m things: words, no two alike -/
structure Nms (ns : List Str) (m : Nat) : Prop where
  len : ns.length = m
  nd : ns.Nodup
  wd : ∀ s ∈ ns, Wd s
def signAt (f s : Int) (k : Nat) : Nat := 97 + ((f + s * (k : Int)) % 26).toNat
theorem signAt_le (f s : Int) (k : Nat) : 97 ≤ signAt f s k ∧ signAt f s k ≤ 122 := by
  unfold signAt
  have h1 := Int.emod_nonneg (f + s * (k : Int)) (by decide : (26 : Int) ≠ 0)
  have h2 := Int.emod_lt_of_pos (f + s * (k : Int)) (by decide : (0 : Int) < 26)
  omega
theorem signAt_inj {f s : Int} (hs : s ∈ ([1, 3, 5, 7, 9, 11] : List Int)) {i j : Nat} (hi : i < 26) (hj : j < 26) (h : signAt f s i = signAt f s j) : i = j := by
  unfold signAt at h
  have h1 := Int.emod_nonneg (f + s * (i : Int)) (by decide : (26 : Int) ≠ 0)
  have h2 := Int.emod_nonneg (f + s * (j : Int)) (by decide : (26 : Int) ≠ 0)
  have e : (f + s * (i : Int)) % 26 = (f + s * (j : Int)) % 26 := by omega
  simp only [List.mem_cons, List.not_mem_nil, or_false] at hs
  rcases hs with rfl | rfl | rfl | rfl | rfl | rfl <;> omega
def namesOf (fr : Bool) (stem : Str) (f s : Int) (m : Nat) : List Str := (List.range m).map fun k => nmOf fr stem (signAt f s k)
theorem namesOf_succ (fr : Bool) (stem : Str) (f s : Int) (m : Nat) : namesOf fr stem f s (m + 1) = namesOf fr stem f s m ++ [nmOf fr stem (signAt f s m)] := by
  unfold namesOf
  rw [List.range_succ, List.map_append]
  rfl
theorem nodup_map {α β : Type} {f : α → β} : ∀ {xs : List α}, xs.Nodup → (∀ x ∈ xs, ∀ y ∈ xs, f x = f y → x = y) → (xs.map f).Nodup
  | [], _, _ => List.nodup_nil
  | x :: xs, hd, hi => by
    have hd' := List.nodup_cons.mp hd
    rw [List.map_cons]
    refine List.nodup_cons.mpr ⟨fun hm => ?_, nodup_map hd'.2 fun y hy z hz => hi y (List.mem_cons_of_mem _ hy) z (List.mem_cons_of_mem _ hz)⟩
    obtain ⟨y, hy, e⟩ := List.mem_map.mp hm
    have := hi y (List.mem_cons_of_mem _ hy) x (List.mem_cons_self ..) e
    rw [this] at hy
    exact hd'.1 hy
theorem namesOf_ok {fr : Bool} {stem : Str} {n : Nat} {f s : Int} {m : Nat} (h : IsWd stem n) (hn : n ≤ 7) (hs : s ∈ ([1, 3, 5, 7, 9, 11] : List Int)) (hm : m ≤ 26) : Nms (namesOf fr stem f s m) m := by
  refine ⟨by unfold namesOf; rw [List.length_map, List.length_range], nodup_map List.nodup_range fun x hx y hy e => ?_, fun z hz => ?_⟩
  · exact signAt_inj hs (Nat.lt_of_lt_of_le (List.mem_range.mp hx) hm) (Nat.lt_of_lt_of_le (List.mem_range.mp hy) hm) (nmOf_inj e)
  · obtain ⟨k, hk, rfl⟩ := List.mem_map.mp hz
    exact nmOf_wd h hn (signAt_le f s k).1 (signAt_le f s k).2
section
variable {P : Program} {w : World} {K : PySem.W.Frag} {mg : Str → Option Value} {base : Heap} {a : Nat → Addr} {d : Nat → FuncData}
/-! ### _law_names -/
def spNames : Sp := fun vs H Q _ => ∃ (p : Addr) (m : Nat), vs = [.ref p, .int (m : Int)] ∧ PoolAt H p ∧ m ≤ 26 ∧
  ∀ (l : Addr) (ns : List Str) (H' : Hp), H l = none → H' l = some (.lst (ns.map V.str)) → Nms ns m → Chg p H H' → Q (.ref l) H'
theorem ok_names (T : Txt K mg a d) : FnOk P w K mg base CX0 4 (a 53) (d 53) ["_law_pool_here", "_law_many"] spNames := by
  have G51 : FnOk P w K mg base CX0 2 (a 51) (d 51) ["_law_pool_here", "_law_many"] spDraw := ok_draw T
  have G52 : FnOk P w K mg base CX0 3 (a 52) (d 52) ["_law_pool_here", "_law_many"] spWord := ok_word T
  refine T.F53.ok sc__law_names (fun vs H Q E h => ?_) (fun cdv A outer s H vs Q E hr h => ?_)
  · obtain ⟨p, m, rfl, _⟩ := h
    rfl
  · obtain ⟨p, m, rfl, hP, hm, q⟩ := h
    refine ⟨_, (pss_cons (ps_set (i := 2) sc__law_names.nd rfl (.inl rfl) pe_str)
  (pss_cons (ps_set (i := 3) sc__law_names.nd rfl (.inl rfl) (pe_call G52 (hr.mono (by decide)) (by rfl) T.g52 T.F52.kp T.b52 .nil pass0 (pa_cons (pv 0) (pa_cons (pe_call G51 (hr.mono (by decide)) (by rfl) T.g51 T.F51.kp T.b51 .nil pass0 (pa_cons (pv 0) (pa_cons pe_int pa_nil))) pa_nil))))
  (pss_cons (ps_set (i := 4) sc__law_names.nd rfl (.inl rfl) (pe_call G51 (hr.mono (by decide)) (by rfl) T.g51 T.F51.kp T.b51 .nil pass0 (pa_cons (pv 0) (pa_cons pe_int pa_nil))))
  (pss_cons (ps_set (i := 5) sc__law_names.nd rfl (.inl rfl) (pe_ix ix_list (pe_lst (pa_cons pe_int (pa_cons pe_int (pa_cons pe_int (pa_cons pe_int (pa_cons pe_int (pa_cons pe_int pa_nil))))))) (pe_call G51 (hr.mono (by decide)) (by rfl) T.g51 T.F51.kp T.b51 .nil pass0 (pa_cons (pv 0) (pa_cons pe_int pa_nil))) (fun _ _ => rfl)))
  (pss_cons (ps_set (i := 6) sc__law_names.nd rfl (.inl rfl) (pe_call G51 (hr.mono (by decide)) (by rfl) T.g51 T.F51.kp T.b51 .nil pass0 (pa_cons (pv 0) (pa_cons pe_int pa_nil))))
  (pss_cons (ps_set (i := 7) sc__law_names.nd rfl (.inl rfl) (pe_lst pa_nil))
  (pss_cons (ps_for PassesOwn.never rfl (pi_range1 (by rfl) T.z_range (pa_cons (pv 1) pa_nil)) (pg_name (i := 8) sc__law_names.nd rfl (.inl rfl))
    (pss_cons (ps_set (i := 9) sc__law_names.nd rfl (.inl rfl) (pe_ix ix_str (pv 2) (pe_op op_mod (pe_callTy (T := "int")  call_int1 (by rfl) T.z_int (by decide +kernel) (pa_cons (pe_op op_add (pv 4) (pe_op op_mul (pv 5) (pv 8))) pa_nil)) pe_int) (fun _ _ => rfl)))
      (pss_one (ps_if (pt_cmpR op_eq (pv 6) pe_int (nomark _))
        (pss_one (ps_expr (pe_bm PySem.F.plainAttrs_list PySem.F.slot_list_append PySem.F.type_list_append mt_append (pv 7) (pa_cons (pe_op op_add_str (pv 9) (pv 3)) pa_nil))))
        (pss_one (ps_expr (pe_bm PySem.F.plainAttrs_list PySem.F.slot_list_append PySem.F.type_list_append mt_append (pv 7) (pa_cons (pe_op op_add_str (pv 3) (pv 9)) pa_nil))))))))
  (pss_one (ps_ret (pv 7)))))))))), ?_⟩
    -- the stem
    refine ⟨_, rfl, _, rfl, p, 8, rfl, hP, by decide, by decide, fun n H1 a0 a1 C1 => ?_⟩
    refine ⟨p, n.toNat, (by rw [Int.toNat_of_nonneg a0]; rfl), C1.1, by omega, fun stem H2 hst C2 => ?_⟩
    have C02 := C1.trans C2
    -- first, step, front
    refine ⟨_, rfl, p, 26, rfl, C2.1, by decide, by decide, fun f H3 f0 f1 C3 => ?_⟩
    have C03 := C02.trans C3
    refine ⟨by show 6 ≤ sizeLine; decide, fun l1 nl1 => ?_⟩
    have C04 : Chg p H (upd H3 l1 (.lst [.int 1, .int 3, .int 5, .int 7, .int 9, .int 11])) := C03.new nl1
    have n1 : l1 ≠ p := Chg.ne C3.1 nl1
    refine ⟨_, rfl, p, 6, rfl, C04.1, by decide, by decide, fun x H5 x0 x1 C5 => ?_⟩
    have C05 := C04.trans C5
    obtain ⟨v, hv⟩ := at_some (xs := ([.int 1, .int 3, .int 5, .int 7, .int 9, .int 11] : List V)) x0 x1
    obtain ⟨st, hst2, rfl⟩ : ∃ s : Int, s ∈ ([1, 3, 5, 7, 9, 11] : List Int) ∧ V.int s = v := List.mem_map.mp (show v ∈ ([1, 3, 5, 7, 9, 11] : List Int).map V.int from atI_mem hv)
    have hsb : 0 ≤ st ∧ st ≤ 11 := by
      simp only [List.mem_cons, List.not_mem_nil, or_false] at hst2
      omega
    refine ⟨_, _, _, _, rfl, rfl, .of (C5.2 l1 _ n1 upd_same), hv, ?_⟩
    refine ⟨_, rfl, p, 2, rfl, C5.1, by decide, by decide, fun fr H6 r0 r1 C6 => ?_⟩
    have C06 := C05.trans C6
    -- found
    refine ⟨Nat.zero_le _, fun l nl => ?_⟩
    have nlp : l ≠ p := Chg.ne C6.1 nl
    have l0 : H l = none := free_of C06 hP nl
    refine ⟨_, rfl, _, rfl, by omega, by omega, ?_⟩
    refine for_range (lo := 0) (n := (m : Int).toNat) (fun i σ H' => ∃ y8 y9, σ = [some (.ref p), some (.int m), some (.str "abcdefghijklmnopqrstuvwxyz"), some (.str stem), some (.int f), some (.int st), some (.int fr), some (.ref l), y8, y9] ∧ H' l = some (.lst ((namesOf (decide (fr = 1)) stem f st i).map V.str)) ∧ Chg p H H') ⟨none, none, rfl, upd_same, C06.new nl⟩ (fun i σ H' hi hp => ?_) (fun σ H' hp => ?_)
    · obtain ⟨y8, y9, rfl, hl, hc⟩ := hp
      have hin : i < m := by omega
      have hs1 := signAt_le f st i
      have hlen : ((namesOf (decide (fr = 1)) stem f st i).map V.str).length < sizeLine := by
        rw [List.length_map]
        unfold namesOf
        rw [List.length_map, List.length_range]
        exact Nat.lt_of_le_of_lt (by omega : i ≤ 26) (by decide)
      have b1 := Int.emod_nonneg (f + st * (i : Int)) (by decide : (26 : Int) ≠ 0)
      have b2 := Int.emod_lt_of_pos (f + st * (i : Int)) (by decide : (0 : Int) < 26)
      refine ⟨_, rfl, _, rfl, _, rfl, _, rfl, _, _, rfl, rfl, .inl ⟨by omega, by omega⟩, _, _, rfl, rfl, .inl ⟨_, rfl, _, _, rfl, rfl, (by show (0 : Int) < 26; decide), ?_⟩⟩
      refine ⟨_, _, signAt f st i, rfl, rfl, by decide +kernel, at_g (j := ((f + st * (i : Int)) % 26).toNat) (by rw [Int.zero_add]; omega) (letter_at _ (by omega)), ?_⟩
      refine ⟨_, rfl, rfl, _, rfl, ite_eqI (fun h => ?_) (fun h => ?_)⟩
      · refine ⟨_, rfl, .inl ⟨rfl, _, .of hl⟩, _, rfl, _, rfl, _, _, rfl, rfl, ?_, l, _, _, rfl, rfl, hl, hlen, _, _, rfl, ?_, hc.mut l0 nlp⟩
        · show 1 + stem.length ≤ sizeLine
          rw [hst.1]
          exact small1000' (by omega)
        · rw [namesOf_succ, List.map_append, decide_eq_true h]
          exact upd_same
      · refine ⟨_, rfl, .inl ⟨rfl, _, .of hl⟩, _, rfl, _, rfl, _, _, rfl, rfl, ?_, l, _, _, rfl, rfl, hl, hlen, _, _, rfl, ?_, hc.mut l0 nlp⟩
        · show stem.length + 1 ≤ sizeLine
          rw [hst.1]
          exact small1000' (by omega)
        · rw [namesOf_succ, List.map_append, decide_eq_false h]
          exact upd_same
    · obtain ⟨y8, y9, rfl, hl, hc⟩ := hp
      rw [Int.toNat_natCast] at hl
      exact ⟨_, rfl, q l _ H' l0 hl (namesOf_ok hst (by omega) hst2 hm) hc⟩
/-! ### _law_columns -/
def Cols (cs : List Int) (w : Int) : Prop := cs.Pairwise (· < ·) ∧ ∀ c ∈ cs, 0 ≤ c ∧ c < w
theorem Cols.take {cs : List Int} {w : Int} (h : Cols cs w) (n : Nat) : Cols (cs.take n) w := ⟨h.1.sublist (List.take_sublist n cs), fun c hc => h.2 c (List.mem_of_mem_take hc)⟩
theorem Cols.snoc {cs : List Int} {i : Nat} (h : Cols cs (i : Int)) : Cols (cs ++ [(i : Int)]) ((i + 1 : Nat) : Int) := by
  refine ⟨List.pairwise_append.mpr ⟨h.1, List.pairwise_singleton _ _, fun x hx y hy => ?_⟩, fun c hc => ?_⟩
  · rw [List.mem_singleton.mp hy]
    exact (h.2 x hx).2
  · rcases List.mem_append.mp hc with h' | h'
    · have := h.2 c h'
      omega
    · rw [List.mem_singleton.mp h']
      omega
theorem Cols.up {cs : List Int} {v w : Int} (h : Cols cs v) (hw : v ≤ w) : Cols cs w := ⟨h.1, fun c hc => ⟨(h.2 c hc).1, Int.lt_of_lt_of_le (h.2 c hc).2 hw⟩⟩
theorem cut_take (xs : List V) (n : Nat) : cutV xs none (some (n : Int)) = xs.take n := by
  unfold cutV
  show (xs.drop 0).take (HT.sIx xs.length xs.length (some (n : Int)) - 0) = _
  rw [List.drop_zero, Nat.sub_zero]
  rw [HT.sIx_nat]
  by_cases h : n ≤ xs.length
  · rw [Nat.min_eq_left h]
  · rw [Nat.min_eq_right (by omega), List.take_length, List.take_of_length_le (by omega)]
def spCols : Sp := fun vs H Q _ => ∃ (p : Addr) (w lo : Int) (hi : Nat), vs = [.ref p, .int w, .int lo, .int (hi : Int)] ∧ PoolAt H p ∧ 1 ≤ w ∧ w ≤ 100 ∧ lo ≤ 1 ∧
  ∀ (t : Addr) (cs : List Int) (H' : Hp), H t = none → H' t = some (.tup (cs.map V.int)) → Cols cs w → cs.length ≤ hi → (lo = 1 → 1 ≤ hi → 1 ≤ cs.length) → Chg p H H' → Q (.ref t) H'
theorem ok_columns (T : Txt K mg a d) : FnOk P w K mg base CX0 3 (a 54) (d 54) ["_law_pool_here", "_law_width", "_law_low", "_law_high"] spCols := by
  have G51 : FnOk P w K mg base CX0 2 (a 51) (d 51) ["_law_pool_here", "_law_many"] spDraw := ok_draw T
  refine T.F54.ok sc__law_columns (fun vs H Q E h => ?_) (fun cdv A outer s H vs Q E hr h => ?_)
  · obtain ⟨p, w, lo, hi, rfl, _⟩ := h
    rfl
  · obtain ⟨p, wd, lo, hi, rfl, hP, hw1, hw2, hlo, q⟩ := h
    refine ⟨_, (pss_cons (ps_setLc (i := 4) (own := [("_law_column", 5)]) rfl sc__law_columns.nd rfl rfl (sw_true rfl rfl rfl (by decide +kernel)) (pi_range1 (by rfl) T.z_range (pa_cons (pv 1) pa_nil)) (blkOk_by (N := ["_law_pool_here", "_law_width", "_law_low", "_law_high", "_law_chosen", "_law_column"]) (sc := defScope s__law_columns) (by decide +kernel)) (fun _ _ _ _ _ => pg_name (i := 5) sc__law_columns.nd rfl (.inl rfl)) (fun _ _ _ _ _ => (pts_one (pt_cmpR op_eq (pe_call G51 (hr.mono (by decide)) (by rfl) T.g51 T.F51.kp T.b51 .nil pass0 (pa_cons (pv 0) (pa_cons pe_int pa_nil))) pe_int (nomark _)))) (fun _ _ _ _ _ => (pv 5)))
  (Evl.pss_cut (ps_if (pt_cmpR op_lt (pe_callB (id := "len")  call_len_seq (by rfl) T.z_len (by decide +kernel) (pa_cons (pv 4) pa_nil)) (pv 2) (nomark _))
    (pss_one (ps_set (i := 4) sc__law_columns.nd rfl (.inl rfl) (pe_lst (pa_cons (pe_call G51 (hr.mono (by decide)) (by rfl) T.g51 T.F51.kp T.b51 .nil pass0 (pa_cons (pv 0) (pa_cons (pv 1) pa_nil))) pa_nil))))
    pss_nil)
  (pss_one (ps_ret (pe_callTy (T := "tuple")  call_tuple_of (by rfl) T.z_tuple (by decide +kernel) (pa_cons (pe_slice sl_list (pv 4) po_none (po_some (pv 3))) pa_nil)))))), ?_⟩
    refine ⟨_, rfl, _, rfl, by omega, by omega, fun D hD => ?_⟩
    have nD : D ≠ p := Chg.ne hP hD
    refine lc_range (lo := 0) (n := wd.toNat) (fun i H' => ∃ cs : List Int, H' D = some (.lst (cs.map V.int)) ∧ cs.length ≤ i ∧ Cols cs (i : Int) ∧ Chg p H H') ⟨[], upd_same, Nat.le_refl _, ⟨.nil, fun c hc => by cases hc⟩, (Chg.refl hP).new hD⟩ (fun i H' hi' hp => ?_) (fun H' hp => ?_)
    · obtain ⟨cs, c1, c2, c3, c4⟩ := hp
      refine ⟨rfl, ?_⟩
      refine ⟨_, rfl, p, 2, rfl, c4.1, by decide, by decide, fun r H'' r0 r1 C => ⟨rfl, _, rfl, ite_eqI (fun h => ?_) (fun h => ?_)⟩⟩
      · refine ⟨_, rfl, _, C.2 D _ nD c1, ?_, cs ++ [(i : Int)], ?_, ?_, c3.snoc, (c4.trans C).mut hD nD⟩
        · rw [List.length_map]
          exact small1000 (by omega)
        · rw [List.map_append, Int.zero_add]
          exact upd_same
        · rw [List.length_append]
          exact Nat.succ_le_succ c2
      · exact ⟨cs, C.2 D _ nD c1, Nat.le_succ_of_le c2, c3.up (by omega), c4.trans C⟩
    obtain ⟨cs, c1, c2, c3, c4⟩ := hp
    rw [Int.toNat_of_nonneg (by omega)] at c3
    -- at low so many
    refine ⟨fun σ H2 => ∃ l cs y5, σ = [some (.ref p), some (.int wd), some (.int lo), some (.int hi), some (.ref l), y5] ∧ H2 l = some (.lst (cs.map V.int)) ∧ cs.length ≤ 100 ∧ Cols cs wd ∧ (lo = 1 → 1 ≤ cs.length) ∧ Chg p H H2, ?_, ?_⟩
    · refine ⟨_, rfl, _, _, rfl, .inl (.of c1), _, rfl, _, _, rfl, rfl, _, rfl, ite_d (fun h1 => ?_) (fun h1 => ⟨D, cs, _, rfl, c1, by omega, c3, fun e => ?_, c4⟩)⟩
      · refine ⟨_, rfl, _, rfl, p, wd, rfl, c4.1, by omega, Nat.lt_of_le_of_lt (by omega : _ ≤ 100) (by decide), fun r H3 r0 r1 C3 => ⟨by show 1 ≤ sizeLine; decide, fun l2 nl2 => ⟨l2, [r], _, rfl, upd_same, by show 1 ≤ 100; decide, ⟨List.pairwise_singleton _ _, fun c hc => ?_⟩, fun _ => Nat.le_refl _, (c4.trans C3).new nl2⟩⟩⟩
        rw [List.mem_singleton.mp hc]
        exact ⟨r0, r1⟩
      · rw [List.length_map] at h1
        omega
    · rintro σ H2 ⟨l, cs, y5, rfl, e1, e2, e3, e4, e5⟩
      refine ⟨_, rfl, _, rfl, _, rfl, _, _, rfl, .of e1, fun m hm => ?_⟩
      refine ⟨m, _, rfl, .inl ⟨.of upd_same, fun t ht => ?_⟩⟩
      rw [cut_take, ← List.map_take] at ht ⊢
      have C := (e5.new (o := .lst ((cs.take hi).map V.int)) hm).new (o := .tup ((cs.take hi).map V.int)) ht
      refine q t (cs.take hi) _ (free_of (e5.new (o := .lst ((cs.take hi).map V.int)) hm) hP ht) upd_same (e3.take hi) ?_ (fun h1 h2 => ?_) C
      · rw [List.length_take]
        omega
      · have := e4 h1
        rw [List.length_take]
        omega
/-! ### _law_tables -/
def tabK (ts : List (Str × Int)) : List (Key × V) := ts.map fun p => (Sum.inr p.1, V.int p.2)
structure Tabs (ts : List (Str × Int)) (m : Nat) (wm : Int) : Prop where
  nm : Nms (ts.map (·.1)) m
  wd : ∀ p ∈ ts, 1 ≤ p.2 ∧ p.2 ≤ wm
theorem Tabs.len {ts : List (Str × Int)} {m : Nat} {wm : Int} (h : Tabs ts m wm) : ts.length = m := by
  rw [← h.nm.len, List.length_map]
theorem valV_no {κ : Type} [DecidableEq κ] {k : κ} : ∀ {kvs : List (κ × V)}, k ∉ kvs.map (·.1) → valV kvs k = none
  | [], _ => rfl
  | p :: r, h => by
    rw [List.map_cons] at h
    rw [valV_neg (fun e => h (by rw [e]; exact List.mem_cons_self ..))]
    exact valV_no fun hm => h (List.mem_cons_of_mem _ hm)
theorem nd_take {α : Type} {xs : List α} {i : Nat} {x : α} (h : xs.Nodup) (hx : xs[i]? = some x) : x ∉ xs.take i := fun hm => by
  have e : (xs.take (i + 1)).Nodup := h.sublist (List.take_sublist _ _)
  rw [List.take_add_one, hx] at e
  exact (List.nodup_append.mp e).2.2 x hm x (by simp) rfl
theorem keys_tab (ts : List (Str × Int)) : (tabK ts).map (·.1) = (ts.map (·.1)).map Sum.inr := by
  unfold tabK
  rw [List.map_map, List.map_map]
  rfl
theorem inr_nd {ns : List Str} (h : ns.Nodup) : (ns.map (Sum.inr : Str → Key)).Nodup := nodup_map h fun _ _ _ _ e => Sum.inr.inj e
theorem inr_no {ns : List Str} {n : Str} (h : n ∉ ns) : (Sum.inr n : Key) ∉ ns.map Sum.inr := fun hm => by
  obtain ⟨x, hx, e⟩ := List.mem_map.mp hm
  rw [← Sum.inr.inj e] at h
  exact h hx
theorem tab_at {H : Hp} {t : Addr} {ts : List (Str × Int)} {n : Str} {w : Int} (e : H t = some (.dK (tabK ts))) (nd : (ts.map (·.1)).Nodup) (h : (n, w) ∈ ts) : DGet H t (.str n) (some (.int w)) := by
  have g := DGet.k (k := Sum.inr n) e
  have v : valV (tabK ts) (Sum.inr n) = some (.int w) := val_nodup (kvs := tabK ts) (by rw [keys_tab]; exact inr_nd nd) (Sum.inr n, V.int w) (List.mem_map.mpr ⟨(n, w), h, rfl⟩)
  rw [v] at g
  exact g
theorem snoc_map {α β : Type} (f : α → β) (xs : List α) (x : α) : (xs ++ [x]).map f = xs.map f ++ [f x] := by
  rw [List.map_append]
  rfl
theorem Chg.at {p b : Addr} {H H' : Hp} {o : HO} (c : Chg p H H') (n : b ≠ p) (e : H b = some o) : H' b = some o := c.2 b o n e
theorem pool_ne {H : Hp} {p b : Addr} {o : HO} (h : PoolAt H p) (e : H b = some o) (x : ∀ xs, o ≠ .lst xs) : b ≠ p := by
  obtain ⟨p0, p1, p2, p3, r, e', c⟩ := h
  exact ne_of e e' (x _)
def spTables : Sp := fun vs H Q _ => ∃ (p : Addr) (m : Nat) (wm : Int), vs = [.ref p, .int (m : Int), .int wm] ∧ PoolAt H p ∧ m ≤ 26 ∧ 1 ≤ wm ∧ wm ≤ 100 ∧
  ∀ (t : Addr) (ts : List (Str × Int)) (H' : Hp), H t = none → H' t = some (.dK (tabK ts)) → Tabs ts m wm → Chg p H H' → Q (.ref t) H'
theorem ok_tables (T : Txt K mg a d) : FnOk P w K mg base CX0 5 (a 55) (d 55) ["_law_pool_here", "_law_many", "_law_widest"] spTables := by
  have G51 : FnOk P w K mg base CX0 2 (a 51) (d 51) ["_law_pool_here", "_law_many"] spDraw := ok_draw T
  have G53 : FnOk P w K mg base CX0 4 (a 53) (d 53) ["_law_pool_here", "_law_many"] spNames := ok_names T
  refine T.F55.ok sc__law_tables (fun vs H Q E h => ?_) (fun cdv A outer s H vs Q E hr h => ?_)
  · obtain ⟨p, m, wm, rfl, _⟩ := h
    rfl
  · obtain ⟨p, m, wm, rfl, hP, hm, hw1, hw2, q⟩ := h
    have hu := hu_of hr
    refine ⟨_, (pss_cons (ps_set (i := 3) sc__law_tables.nd rfl (.inl rfl) (pe_call G53 (hr.mono (by decide)) (by rfl) T.g53 T.F53.kp T.b53 .nil pass0 (pa_cons (pv 0) (pa_cons (pv 1) pa_nil))))
  (pss_cons (ps_set (i := 4) sc__law_tables.nd rfl (.inl rfl) pe_dnewK)
  (pss_cons (ps_for PassesOwn.never rfl (pi_list (pv 3)) (pg_name (i := 5) sc__law_tables.nd rfl (.inl rfl))
    (pss_one (ps_dput (hu_of hr) (pv 4) (pv 5) (pe_op op_add pe_int (pe_call G51 (hr.mono (by decide)) (by rfl) T.g51 T.F51.kp T.b51 .nil pass0 (pa_cons (pv 0) (pa_cons (pv 2) pa_nil)))) rfl)))
  (pss_one (ps_ret (pv 4)))))), ?_⟩
    refine ⟨_, rfl, _, rfl, p, m, rfl, hP, hm, fun l ns H1 l0 hl hn C1 => ?_⟩
    have nl : l ≠ p := fun e => by
      obtain ⟨p0, p1, p2, p3, r, e', c⟩ := hP
      rw [e, e'] at l0
      cases l0
    intro t ht
    have nt : t ≠ p := Chg.ne C1.1 ht
    have nlt : l ≠ t := ne_of_none hl ht
    have t0 : H t = none := free_of C1 hP ht
    have lens : (ns.map V.str).length = m := by rw [List.length_map, hn.len]
    refine ⟨_, rfl, l, rfl, ⟨_, .of (by rw [upd_ne nlt]; exact hl)⟩, for_list (K := K) (a := l) (xs := ns.map V.str) (fun i σ H' => ∃ (ts : List (Str × Int)) (y5 : Option V), σ = [some (.ref p), some (.int m), some (.int wm), some (.ref l), some (.ref t), y5] ∧ H' t = some (.dK (tabK ts)) ∧ H' l = some (.lst (ns.map V.str)) ∧ ts.map (·.1) = ns.take i ∧ (∀ b ∈ ts, 1 ≤ b.2 ∧ b.2 ≤ wm) ∧ Chg p H H')
      ⟨[], none, rfl, upd_same, by rw [upd_ne nlt]; exact hl, rfl, (fun b hb => by cases hb), C1.new ht⟩ (fun i σ H' _ hp => ?_) (fun i y σ H' hy hp => ?_) (fun σ H' hp => ?_)⟩
    · obtain ⟨ts, y5, rfl, _, hl', _⟩ := hp
      exact .of hl'
    · obtain ⟨ts, y5, rfl, ht', hl', hk, hw, hc⟩ := hp
      obtain ⟨n, hn', rfl⟩ := map_at hy
      have hlen : ts.length ≤ 26 := by
        have e := congrArg List.length hk
        rw [List.length_map, List.length_take] at e
        have := hn.len
        omega
      refine ⟨_, rfl, _, rfl, p, wm, rfl, hc.1, by omega, Nat.lt_of_le_of_lt (by omega : _ ≤ 100) (by decide), fun r H'' r0 r1 C => ⟨_, _, rfl, rfl, _, rfl, _, rfl, t, _, rfl, DPut.k (k := Sum.inr n) (C.at nt ht') ?_, ts ++ [(n, 1 + r)], _, rfl, ?_, ?_, ?_, fun b hb => ?_, (hc.trans C).mut t0 nt⟩⟩
      · unfold tabK
        rw [List.length_map]
        exact Nat.lt_of_le_of_lt hlen (by decide)
      · unfold tabK
        rw [snoc_map]
        refine Eq.trans upd_same (congrArg (fun x => some (HO.dK x)) (putK_new _ (valV_no ?_)))
        have e := keys_tab ts
        unfold tabK at e
        rw [e, hk]
        exact inr_no (nd_take hn.nd hn')
      · rw [upd_ne nlt]
        exact C.at nl hl'
      · rw [snoc_map, hk, List.take_add_one, hn']
        rfl
      · rcases List.mem_append.mp hb with h | h
        · exact hw b h
        · rw [List.mem_singleton.mp h]
          exact ⟨by show 1 ≤ 1 + r; omega, by show 1 + r ≤ wm; omega⟩
    · obtain ⟨ts, y5, rfl, ht', hl', hk, hw, hc⟩ := hp
      rw [List.length_map, List.take_length] at hk
      exact ⟨_, rfl, q t ts H' t0 ht' ⟨by rw [hk]; exact hn, hw⟩ hc⟩
/-! ### _law_keys -/
abbrev KeyE := Str × Addr × List Int
def keyK (ks : List KeyE) : List (Key × V) := ks.map fun b => (Sum.inr b.1, V.ref b.2.1)
theorem keys_key (ks : List KeyE) : (keyK ks).map (·.1) = (ks.map (·.1)).map Sum.inr := by
  unfold keyK
  rw [List.map_map, List.map_map]
  rfl
structure Keys (H : Hp) (ts : List (Str × Int)) (ks : List KeyE) : Prop where
  nd : (ks.map (·.1)).Nodup
  le : ks.length ≤ ts.length
  at_ : ∀ b ∈ ks, H b.2.1 = some (.tup (b.2.2.map V.int))
  ok : ∀ b ∈ ks, ∃ w, (b.1, w) ∈ ts ∧ Cols b.2.2 w ∧ 1 ≤ b.2.2.length ∧ (b.2.2.length : Int) < w
theorem Keys.mono {H H' : Hp} {ts : List (Str × Int)} {ks : List KeyE} (h : Keys H ts ks) (m : ∀ b xs, H b = some (.tup xs) → H' b = some (.tup xs)) : Keys H' ts ks := ⟨h.nd, h.le, fun b hb => m _ _ (h.at_ b hb), h.ok⟩
theorem chg_tup {p : Addr} {H H' : Hp} (h : PoolAt H p) (c : Chg p H H') : ∀ b xs, H b = some (.tup xs) → H' b = some (.tup xs) := fun b xs e => c.at (pool_ne h e (by intro _ z; cases z)) e
theorem upd_tup {H : Hp} {t : Addr} {o u : HO} (h : H t = some u) (n : ∀ xs, u ≠ .tup xs) : ∀ b xs, H b = some (.tup xs) → upd H t o b = some (.tup xs) := fun b xs e => by
  rw [upd_ne (ne_of e h (fun z => n xs z.symm))]
  exact e
def spKeys : Sp := fun vs H Q _ => ∃ (p t : Addr) (m : Nat) (ts : List (Str × Int)), vs = [.ref p, .ref t] ∧ PoolAt H p ∧ H t = some (.dK (tabK ts)) ∧ Tabs ts m 100 ∧ m ≤ 26 ∧
  ∀ (k : Addr) (ks : List KeyE) (H' : Hp), H k = none → H' k = some (.dK (keyK ks)) → Keys H' ts ks → Chg p H H' → Q (.ref k) H'
theorem ok_keys (T : Txt K mg a d) : FnOk P w K mg base CX0 4 (a 56) (d 56) ["_law_pool_here", "_law_tables_here"] spKeys := by
  have G51 : FnOk P w K mg base CX0 2 (a 51) (d 51) ["_law_pool_here", "_law_many"] spDraw := ok_draw T
  have G54 : FnOk P w K mg base CX0 3 (a 54) (d 54) ["_law_pool_here", "_law_width", "_law_low", "_law_high"] spCols := ok_columns T
  refine T.F56.ok sc__law_keys (fun vs H Q E h => ?_) (fun cdv A outer s H vs Q E hr h => ?_)
  · obtain ⟨p, t, m, ts, rfl, _⟩ := h
    rfl
  · obtain ⟨p, t, m, ts, rfl, hP, ht, hT, hm, q⟩ := h
    have hu := hu_of hr
    refine ⟨_, (pss_cons (ps_set (i := 2) sc__law_keys.nd rfl (.inl rfl) pe_dnewK)
  (pss_cons (ps_for PassesOwn.never rfl (pi_list (pe_callTy (T := "list")  (call_listD rfl) (by rfl) T.z_list (by decide +kernel) (pa_cons (pv 1) pa_nil))) (pg_name (i := 3) sc__law_keys.nd rfl (.inl rfl))
    (pss_one (ps_if (PW.pt (pw_and (pt_cmpR op_gt (pe_dget (hu_of hr) (pv 1) (pv 3) (fun _ _ => rfl)) pe_int (nomark _)) (pw_and1 (pt_cmpR op_eq (pe_call G51 (hr.mono (by decide)) (by rfl) T.g51 T.F51.kp T.b51 .nil pass0 (pa_cons (pv 0) (pa_cons pe_int pa_nil))) pe_int (nomark _)))))
        (pss_one (ps_dput (hu_of hr) (pv 2) (pv 3) (pe_call G54 (hr.mono (by decide)) (by rfl) T.g54 T.F54.kp T.b54 .nil pass0 (pa_cons (pv 0) (pa_cons (pe_dget (hu_of hr) (pv 1) (pv 3) (fun _ _ => rfl)) (pa_cons pe_int (pa_cons (pe_op op_sub (pe_dget (hu_of hr) (pv 1) (pv 3) (fun _ _ => rfl)) pe_int) pa_nil))))) rfl))
        pss_nil)))
  (pss_one (ps_ret (pv 2))))), ?_⟩
    intro k hk
    have nt : t ≠ p := pool_ne hP ht (by intro _ z; cases z)
    have nk : k ≠ p := Chg.ne hP hk
    have ntk : t ≠ k := ne_of_none ht hk
    have C0 : Chg p H (upd H k (.dK [])) := (Chg.refl hP).new hk
    have e0 : (tabK ts).map (fun kv => kV kv.1) = (ts.map (·.1)).map V.str := by
      unfold tabK
      rw [List.map_map, List.map_map]
      rfl
    refine ⟨_, rfl, t, tabK ts, rfl, .inl (C0.at nt ht), fun l hl => ⟨l, rfl, ?_⟩⟩
    rw [e0]
    have nl : l ≠ p := Chg.ne C0.1 hl
    have nkl : k ≠ l := ne_of_none upd_same hl
    have C1 := C0.new (o := .lst ((ts.map (·.1)).map V.str)) hl
    refine ⟨⟨_, .of upd_same⟩, for_list (K := K) (a := l) (xs := (ts.map (·.1)).map V.str) (fun i σ H' => ∃ (ks : List KeyE) (y3 : Option V), σ = [some (.ref p), some (.ref t), some (.ref k), y3] ∧ H' k = some (.dK (keyK ks)) ∧ H' l = some (.lst ((ts.map (·.1)).map V.str)) ∧ (ks.map (·.1)).Sublist ((ts.map (·.1)).take i) ∧ (∀ b ∈ ks, H' b.2.1 = some (.tup (b.2.2.map V.int))) ∧
        (∀ b ∈ ks, ∃ w, (b.1, w) ∈ ts ∧ Cols b.2.2 w ∧ 1 ≤ b.2.2.length ∧ (b.2.2.length : Int) < w) ∧ Chg p H H')
      ⟨[], none, rfl, ?_, upd_same, List.nil_sublist _, (fun b hb => by cases hb), (fun b hb => by cases hb), C1⟩ (fun i σ H' _ hp => ?_) (fun i y σ H' hy hp => ?_) (fun σ H' hp => ?_)⟩
    · rw [upd_ne nkl]
      exact upd_same
    · obtain ⟨ks, y3, rfl, _, hl', _⟩ := hp
      exact .of hl'
    · obtain ⟨ks, y3, rfl, hk', hl', hsub, hat, hok, hc⟩ := hp
      obtain ⟨n, hn, rfl⟩ := map_at hy
      obtain ⟨b, hb, rfl⟩ := map_at hn
      obtain ⟨n, w⟩ := b
      have hmem : (n, w) ∈ ts := List.mem_of_getElem? hb
      have hw := hT.wd _ hmem
      have tk : (ts.map (·.1)).take (i + 1) = (ts.map (·.1)).take i ++ [n] := by
        rw [List.take_add_one, hn]
        rfl
      have hsub' : (ks.map (·.1)).Sublist ((ts.map (·.1)).take (i + 1)) := by
        rw [tk]
        exact hsub.trans (List.sublist_append_left _ _)
      have hlen : ks.length ≤ 26 := by
        have e1 := hsub.length_le
        rw [List.length_map, List.length_take] at e1
        have e2 := hT.nm.len
        omega
      have g : ∀ H2 : Hp, H2 t = some (.dK (tabK ts)) → DGet H2 t (.str n) (some (.int w)) := fun H2 e => tab_at e hT.nm.nd hmem
      have ht' := hc.at nt ht
      refine ⟨_, rfl, _, rfl, t, _, rfl, g _ ht', _, _, rfl, rfl, _, rfl, ite_d (fun h1 => ?_) (fun h1 => ⟨ks, _, rfl, hk', hl', hsub', hat, hok, hc⟩)⟩
      refine ⟨_, rfl, p, 3, rfl, hc.1, by decide, by decide, fun r H2 r0 r1 C2 => ⟨rfl, _, rfl, ite_eqI (fun h2 => ?_) (fun h2 => ?_)⟩⟩
      · refine ⟨_, rfl, _, rfl, _, rfl, t, _, rfl, g _ (C2.at nt ht'), _, rfl, _, rfl, t, _, rfl, g _ (C2.at nt ht'), _, _, rfl, rfl, p, w, 1, (w - 1).toNat, ?_, C2.1, by omega, by omega, by decide, fun c cs H3 c0 c1 c2 c3 c4 C3 => ?_⟩
        · rw [Int.toNat_of_nonneg (by omega)]
          rfl
        have C23 := C2.trans C3
        have hk3 := C23.at nk hk'
        have nc : ∀ o, H3 k = some o → c ≠ k := fun o e => ne_of c1 hk3 (by intro z; cases z)
        refine ⟨_, rfl, _, rfl, k, _, rfl, DPut.k (k := Sum.inr n) hk3 ?_, ks ++ [(n, c, cs)], _, rfl, ?_, ?_, ?_, fun b hb => ?_, fun b hb => ?_, (hc.trans C23).mut hk nk⟩
        · unfold keyK
          rw [List.length_map]
          exact Nat.lt_of_le_of_lt hlen (by decide)
        · unfold keyK
          rw [snoc_map]
          refine Eq.trans upd_same (congrArg (fun x => some (HO.dK x)) (putK_new _ (valV_no ?_)))
          have e := keys_key ks
          unfold keyK at e
          rw [e]
          exact inr_no fun hm => nd_take hT.nm.nd hn (hsub.subset hm)
        · rw [upd_ne nkl.symm]
          exact C23.at nl hl'
        · rw [snoc_map, tk]
          exact hsub.append (List.Sublist.refl _)
        · rcases List.mem_append.mp hb with h | h
          · exact upd_tup hk3 (by intro _ z; cases z) _ _ (chg_tup hc.1 C23 _ _ (hat b h))
          · rw [List.mem_singleton.mp h]
            exact upd_tup hk3 (by intro _ z; cases z) _ _ c1
        · rcases List.mem_append.mp hb with h | h
          · exact hok b h
          · rw [List.mem_singleton.mp h]
            have h5 := c4 rfl (by omega)
            exact ⟨w, hmem, c2, h5, by show (cs.length : Int) < w; omega⟩
      · exact ⟨ks, _, rfl, C2.at nk hk', C2.at nl hl', hsub', fun b hb => chg_tup hc.1 C2 _ _ (hat b hb), hok, hc.trans C2⟩
    · obtain ⟨ks, y3, rfl, hk', hl', hsub, hat, hok, hc⟩ := hp
      rw [List.length_map, List.take_length] at hsub
      exact ⟨_, rfl, q k ks H' hk hk' ⟨hT.nm.nd.sublist hsub, by have := hsub.length_le; rw [List.length_map, List.length_map] at this; exact this, hat, hok⟩ hc⟩
/-! ### _law_is_whole -/
theorem valV_mem {κ : Type} [DecidableEq κ] {k : κ} {v : V} : ∀ {kvs : List (κ × V)}, valV kvs k = some v → (k, v) ∈ kvs
  | [], h => by cases h
  | p :: r, h => by
    by_cases e : p.1 = k
    · rw [valV_pos e] at h
      have : p = (k, v) := by rw [← e, ← Option.some.inj h]
      rw [this]
      exact List.mem_cons_self ..
    · rw [valV_neg e] at h
      exact List.mem_cons_of_mem _ (valV_mem h)
theorem perm_nd {κ : Type} {a b : List (κ × V)} (p : a.Perm b) (nd : (b.map (·.1)).Nodup) : (a.map (·.1)).Nodup := (p.map (·.1)).nodup_iff.mpr nd
theorem valV_perm {κ : Type} [DecidableEq κ] {a b : List (κ × V)} (p : a.Perm b) (nd : (b.map (·.1)).Nodup) (k : κ) : valV a k = valV b k := by
  cases h : valV b k with
  | some v => exact val_nodup (perm_nd p nd) (k, v) (p.mem_iff.mpr (valV_mem h))
  | none =>
    cases h' : valV a k with
    | none => rfl
    | some v =>
      rw [val_nodup nd (k, v) (p.mem_iff.mp (valV_mem h'))] at h
      cases h
/-- a dict at t with these pairs, in any order -/
def DctAt (H : Hp) (t : Addr) (kvs : List (Key × V)) : Prop := ∃ ks, H t = some (.dK ks) ∧ ks.Perm kvs
theorem DctAt.of {H : Hp} {t : Addr} {kvs : List (Key × V)} (h : H t = some (.dK kvs)) : DctAt H t kvs := ⟨kvs, h, .refl _⟩
theorem DctAt.same {H H' : Hp} {t : Addr} {kvs : List (Key × V)} (h : DctAt H t kvs) (s : Same H H') : DctAt H' t kvs := by
  obtain ⟨ks, e, p⟩ := h
  exact ⟨ks, s _ _ e, p⟩
theorem DctAt.get {H : Hp} {t : Addr} {kvs : List (Key × V)} (h : DctAt H t kvs) (nd : (kvs.map (·.1)).Nodup) (k : Key) : DGet H t (kV k) (valV kvs k) := by
  obtain ⟨ks, e, p⟩ := h
  have g := DGet.k (k := k) e
  rw [valV_perm p nd] at g
  exact g
theorem tab_nd {ts : List (Str × Int)} {m : Nat} {wm : Int} (h : Tabs ts m wm) : ((tabK ts).map (·.1)).Nodup := by
  rw [keys_tab]
  exact inr_nd h.nm.nd
theorem tab_val {ts : List (Str × Int)} {m : Nat} {wm : Int} {n : Str} {w : Int} (h : Tabs ts m wm) (hm : (n, w) ∈ ts) : valV (tabK ts) (Sum.inr n) = some (.int w) :=
  val_nodup (kvs := tabK ts) (tab_nd h) (Sum.inr n, V.int w) (List.mem_map.mpr ⟨(n, w), hm, rfl⟩)
theorem key_nd {H : Hp} {ts : List (Str × Int)} {ks : List KeyE} {m : Nat} {wm : Int} (hT : Tabs ts m wm) (h : Keys H ts ks) : ((keyK ks).map (·.1)).Nodup := by
  rw [keys_key]
  exact inr_nd h.nd
theorem DctAt.at_ {H : Hp} {t : Addr} {kvs : List (Key × V)} {n : Str} {v : V} (h : DctAt H t kvs) (nd : (kvs.map (·.1)).Nodup) (e : valV kvs (Sum.inr n) = some v) : DGet H t (.str n) (some v) := by
  have g := h.get nd (Sum.inr n)
  rw [e] at g
  exact g
def capV : Option Int → V
  | none => .non
  | some i => .int i
theorem capV_none (c : Option Int) : decide (capV c = .non) = c.isNone := by
  cases c <;> rfl
def keyAt (ks : List KeyE) (n : Str) : Option KeyE := ks.find? fun b => decide (b.1 = n)
theorem keyAt_val (n : Str) : ∀ ks : List KeyE, valV (keyK ks) (Sum.inr n) = (keyAt ks n).map fun b => V.ref b.2.1
  | [] => rfl
  | b :: ks => by
    have ih := keyAt_val n ks
    unfold keyAt keyK at ih ⊢
    rw [List.map_cons]
    by_cases e : b.1 = n
    · rw [valV_pos (by rw [e])]
      simp [e]
    · rw [valV_neg (fun z => e (Sum.inr.inj z)), ih]
      simp [e]
theorem keyAt_mem {ks : List KeyE} {n : Str} {b : KeyE} (h : keyAt ks n = some b) : b ∈ ks ∧ b.1 = n := by
  unfold keyAt at h
  exact ⟨List.mem_of_find?_eq_some h, by simpa using List.find?_some h⟩
def isWh (w : Int) (ks : List KeyE) (n : Str) (cols : List Int) (cap : Option Int) : Bool :=
  cap.isNone || (decide ((cols.length : Int) = w) || match keyAt ks n with
    | none => false
    | some b => b.2.2.all fun x => decide (x ∈ cols))
theorem inV_ints (c : Int) (xs : List Int) : inV (.int c) (xs.map V.int) = decide (c ∈ xs) := by
  unfold inV
  rw [List.any_map]
  apply Bool.eq_iff_iff.mpr
  rw [List.any_eq_true, decide_eq_true_iff]
  constructor
  · rintro ⟨x, hx, e⟩
    have e' : decide (x = c) = true := e
    rw [← of_decide_eq_true e']
    exact hx
  · intro h
    exact ⟨c, h, decide_eq_true rfl⟩
theorem flat_ints (xs : List Int) : (xs.map V.int).all flatV = true := by
  rw [List.all_map, List.all_eq_true]
  intro _ _
  rfl
theorem dp_ints {K : PySem.W.Frag} {H : Hp} : ∀ ns : List Int, DpAll K H (ns.map V.int) (ns.map PyData.int)
  | [] => .nil
  | n :: ns => .cons (.int n) (dp_ints ns)
theorem lay_ints : ∀ ns : List Int, PyData.canLayAll0 (ns.map PyData.int) = true ∧ PyData.depthAll (ns.map PyData.int) = 0
  | [] => by simp [PyData.canLayAll0, PyData.depthAll]
  | n :: ns => by
    obtain ⟨h1, h2⟩ := lay_ints ns
    simp only [List.map_cons, PyData.canLayAll0, PyData.depthAll, PyData.canLay0, PyData.depth, h1, h2, Bool.and_self, true_and]
    rfl
theorem ints_shaped (ns : List Int) : SeqAt.shaped (.list (ns.map PyData.int)) = true := by
  obtain ⟨h1, h2⟩ := lay_ints ns
  show ((PyData.list (ns.map PyData.int)).canLay0 && decide ((PyData.list (ns.map PyData.int)).depth ≤ 64)) = true
  simp only [PyData.canLay0, PyData.depth, h1, h2]
  decide
theorem eqv_nilL (ds : List PyData) : PyData.eqv (.list ds) (.list []) = ds.isEmpty := by
  cases ds <;> simp [PyData.eqv, PyData.eqvAll]
theorem filter_empty (cs xs : List Int) : ((cs.filter fun c => !decide (c ∈ xs)).map PyData.int).isEmpty = cs.all fun c => decide (c ∈ xs) := by
  induction cs with
  | nil => rfl
  | cons c cs ih =>
    by_cases h : c ∈ xs
    · rw [List.filter_cons_of_neg (by simp [h]), ih, List.all_cons, decide_eq_true h, Bool.true_and]
    · rw [List.filter_cons_of_pos (by simp [h]), List.all_cons, decide_eq_false h, Bool.false_and]
      rfl
structure Told (H : Hp) (v : Addr) (n : Str) (ga : Addr) (cols : List Int) (cap : Option Int) : Prop where
  tup : H v = some (.tup [.str n, .ref ga, capV cap])
  cols : H ga = some (.tup (cols.map V.int))
theorem Told.mono {H H' : Hp} {v : Addr} {n : Str} {ga : Addr} {cols : List Int} {cap : Option Int} (h : Told H v n ga cols cap) (m : ∀ b xs, H b = some (.tup xs) → H' b = some (.tup xs)) : Told H' v n ga cols cap := ⟨m _ _ h.tup, m _ _ h.cols⟩
def spWhole : Sp := fun vs H Q _ => ∃ (t k v ga : Addr) (m : Nat) (ts : List (Str × Int)) (ks : List KeyE) (n : Str) (w : Int) (cols : List Int) (cap : Option Int), vs = [.ref t, .ref k, .ref v] ∧ DctAt H t (tabK ts) ∧ DctAt H k (keyK ks) ∧ Tabs ts m 100 ∧ Keys H ts ks ∧
  Told H v n ga cols cap ∧ (n, w) ∈ ts ∧ cols.length ≤ 100 ∧ ∀ H', Same H H' → Q (.bl (isWh w ks n cols cap)) H'
theorem ok_is_whole (T : Txt K mg a d) : FnOk P w K mg base CX0 3 (a 57) (d 57) ["_law_tables_here", "_law_keys_here", "_law_told"] spWhole := by
  refine T.F57.ok sc__law_is_whole (fun vs H Q E h => ?_) (fun cdv A outer s H vs Q E hr h => ?_)
  · obtain ⟨t, k, v, ga, m, ts, ks, n, w, cols, cap, rfl, _⟩ := h
    rfl
  · obtain ⟨t, k, v, ga, m, ts, ks, n, w, cols, cap, rfl, ht, hk, hT, hK, hv, hm, hc, q⟩ := h
    refine ⟨_, (pss_cons (ps_asg (pv 2) (pg_tup rfl (pgs_cons (pg_name (i := 3) sc__law_is_whole.nd rfl (.inl rfl)) (pgs_cons (pg_name (i := 4) sc__law_is_whole.nd rfl (.inr rfl)) (pgs_cons (pg_name (i := 5) sc__law_is_whole.nd rfl (.inl rfl)) pgs_nil)))))
  (pss_cons (ps_if (PW.pt (pw_or (pt_cmpR op_isN (pv 5) pe_non (nomark _)) (pw_or1 (pt_cmpR op_eq (pe_callB (id := "len")  call_len_seq (by rfl) T.z_len (by decide +kernel) (pa_cons (pv 4) pa_nil)) (pe_dget (hu_of hr) (pv 0) (pv 3) (fun _ _ => rfl)) (nomark _)))))
    (pss_one (ps_ret pe_bl))
    pss_nil)
  (pss_cons (ps_if (pt_cmp (pc_dnotin (hu_of hr) (pv 3) (pv 1)))
    (pss_one (ps_ret pe_bl))
    pss_nil)
  (pss_one (ps_ret (pe_cmpR (op_eqD (hu_of64 hr)) (pe_lc (own := [("_law_column", 6)]) rfl sc__law_is_whole.nd (pi_tup (pe_dget (hu_of hr) (pv 1) (pv 3) (fun _ _ => rfl))) (blkOk_by (N := ["_law_tables_here", "_law_keys_here", "_law_told", "_law_table", "_law_given", "_law_cap", "_law_column"]) (sc := defScope s__law_is_whole) (by decide +kernel)) (fun _ _ _ _ _ => pg_name (i := 6) sc__law_is_whole.nd rfl (.inl rfl)) (fun _ _ _ _ _ => (pts_one (pt_cmpR (r := rIn K true) op_notIn_seq (pv 6) (pv 4) (by rfl)))) (fun _ _ _ _ _ => (pv 6))) (pe_lst pa_nil) (nomark _))))))), ?_⟩
    refine ⟨_, rfl, v, _, rfl, .of hv.tup, rfl, _, _, rfl, _, _, rfl, _, _, rfl, rfl, ?_⟩
    have fin : ∀ b : Bool, b = isWh w ks n cols cap → ∀ H', Same H H' → Q (.bl b) H' := fun b e H' s => by
      rw [e]
      exact q H' s
    refine ⟨_, rfl, rfl, _, rfl, ?_⟩
    rw [capV_none]
    cases e1 : cap.isNone with
    | true => exact fin true (by unfold isWh; rw [e1]; rfl) H (fun _ _ e => e)
    | false =>
      refine ⟨_, rfl, _, _, rfl, .inr (.of hv.cols), _, rfl, _, rfl, t, _, rfl, ht.at_ (tab_nd hT) (tab_val hT hm), rfl, _, rfl, ?_⟩
      rw [List.length_map]
      refine ite_eqI (fun e2 => ?_) (fun e2 => ?_)
      · exact fin true (by unfold isWh; rw [e1, decide_eq_true e2]; rfl) H (fun _ _ e => e)
      · refine ⟨_, rfl, _, rfl, k, _, rfl, hk.get (key_nd hT hK) (Sum.inr n), _, rfl, ?_⟩
        rw [keyAt_val]
        cases e3 : keyAt ks n with
        | none => exact fin false (by unfold isWh; rw [e1, decide_eq_false e2, e3]; rfl) H (fun _ _ e => e)
        | some b =>
          obtain ⟨bm, bn⟩ := keyAt_mem e3
          have hb := hK.at_ b bm
          obtain ⟨w', hw', hcols', hl1, hl2⟩ := hK.ok b bm
          have hw2 := (hT.wd _ hw').2
          have dg := hk.get (key_nd hT hK) (Sum.inr n)
          rw [keyAt_val, e3] at dg
          refine ⟨_, rfl, _, rfl, k, _, rfl, dg, b.2.1, rfl, ⟨_, .of hb⟩, fun D hD => ?_⟩
          refine lc_tup (K := K) (a := b.2.1) (xs := b.2.2.map V.int) (fun i H' => H' D = some (.lst (((b.2.2.take i).filter fun c => !decide (c ∈ cols)).map V.int)) ∧ Same H H') ⟨upd_same, same_upd hD⟩ (fun i H' _ hp => .of (hp.2 _ _ hb)) (fun i x H' hx hp => ?_) (fun H' hp => ?_)
          · obtain ⟨h1, h2⟩ := hp
            obtain ⟨c, hcx, rfl⟩ := map_at hx
            have hi : i < b.2.2.length := (List.getElem?_eq_some_iff.mp hcx).1
            refine ⟨rfl, _, rfl, _, rfl, ga, _, rfl, .inr (.of (h2 _ _ hv.cols)), rfl, flat_ints _, _, rfl, ?_⟩
            show if (!inV (.int c) (cols.map V.int)) = true then _ else _
            rw [inV_ints]
            have tk : (b.2.2.take (i + 1)).filter (fun c => !decide (c ∈ cols)) = (b.2.2.take i).filter (fun c => !decide (c ∈ cols)) ++ ([c].filter fun c => !decide (c ∈ cols)) := by
              rw [List.take_add_one, hcx, List.filter_append]
              rfl
            refine ite_nd (fun e => ?_) (fun e => ?_)
            · refine ⟨_, rfl, _, h1, ?_, ?_, ?_⟩
              · rw [List.length_map]
                have l1 := List.length_filter_le (fun c => !decide (c ∈ cols)) (b.2.2.take i)
                rw [List.length_take] at l1
                exact Nat.lt_of_le_of_lt (by omega : _ ≤ 100) (by decide)
              · rw [tk, List.map_append, List.filter_cons_of_pos (by simp [e])]
                exact upd_same
              · intro x o ex
                rw [upd_ne (ne_of_none ex hD)]
                exact h2 x o ex
            · refine ⟨?_, h2⟩
              rw [tk, List.filter_cons_of_neg (by simp [e])]
              simpa using h1
          · obtain ⟨h1, h2⟩ := hp
            rw [List.length_map, List.take_length] at h1
            refine ⟨Nat.zero_le _, fun p hp => ⟨_, .list [], .lst (.of (same_upd hp _ _ h1)) (dp_ints _), .lst (.of upd_same) .nil, ints_shaped _, by decide, ?_⟩⟩
            rw [eqv_nilL, filter_empty]
            exact fin _ (by unfold isWh; rw [e1, decide_eq_false e2, e3]; rfl) _ (h2.trans (same_upd hp))
/-! ### _law_services -/
structure SvE where
  name : Str
  at_ : Addr
  tab : Str
  ga : Addr
  cols : List Int
  cap : Option Int
def svK (ss : List SvE) : List (Key × V) := ss.map fun b => (Sum.inr b.name, V.ref b.at_)
theorem keys_sv (ss : List SvE) : (svK ss).map (·.1) = (ss.map (·.name)).map Sum.inr := by
  unfold svK
  rw [List.map_map, List.map_map]
  rfl
def widthAt (ts : List (Str × Int)) (n : Str) : Int := ((ts.find? fun b => decide (b.1 = n)).map (·.2)).getD 0
theorem widthAt_mem {n : Str} {w : Int} : ∀ {ts : List (Str × Int)}, (ts.map (·.1)).Nodup → (n, w) ∈ ts → widthAt ts n = w
  | b :: ts, nd, h => by
    rw [List.map_cons] at nd
    have nd' := List.nodup_cons.mp nd
    unfold widthAt
    by_cases e : b.1 = n
    · rcases List.mem_cons.mp h with h' | h'
      · rw [← h']
        simp
      · exact absurd (by rw [e]; exact List.mem_map.mpr ⟨_, h', rfl⟩) nd'.1
    · rcases List.mem_cons.mp h with h' | h'
      · exact absurd (by rw [← h']) e
      · have ih := widthAt_mem nd'.2 h'
        unfold widthAt at ih
        simpa [e] using ih
/-- is the service whole -/
def whE (ts : List (Str × Int)) (ks : List KeyE) (b : SvE) : Bool := isWh (widthAt ts b.tab) ks b.tab b.cols b.cap
def fillE (ts : List (Str × Int)) (ks : List KeyE) (ss : List SvE) : List Str := (ss.filter fun b => !whE ts ks b).map (·.tab)
theorem fillE_snoc (ts : List (Str × Int)) (ks : List KeyE) (ss : List SvE) (b : SvE) : fillE ts ks (ss ++ [b]) = fillE ts ks ss ++ (if whE ts ks b = true then [] else [b.tab]) := by
  unfold fillE
  rw [List.filter_append, List.map_append]
  cases e : whE ts ks b <;> simp [e]
structure SvOk (H : Hp) (ts : List (Str × Int)) (b : SvE) : Prop where
  told : Told H b.at_ b.tab b.ga b.cols b.cap
  ok : ∃ w, (b.tab, w) ∈ ts ∧ Cols b.cols w ∧ b.cols.length ≤ 4
  cap : ∀ c, b.cap = some c → 1 ≤ c ∧ c ≤ 4
theorem SvOk.mono {H H' : Hp} {ts : List (Str × Int)} {b : SvE} (h : SvOk H ts b) (m : ∀ b xs, H b = some (.tup xs) → H' b = some (.tup xs)) : SvOk H' ts b := ⟨h.told.mono m, h.ok, h.cap⟩
structure Svcs (H : Hp) (ts : List (Str × Int)) (ks : List KeyE) (ss : List SvE) (n : Nat) : Prop where
  nm : Nms (ss.map (·.name)) n
  ok : ∀ b ∈ ss, SvOk H ts b
  one : (fillE ts ks ss).Nodup
theorem Svcs.mono {H H' : Hp} {ts : List (Str × Int)} {ks : List KeyE} {ss : List SvE} {n : Nat} (h : Svcs H ts ks ss n) (m : ∀ b xs, H b = some (.tup xs) → H' b = some (.tup xs)) : Svcs H' ts ks ss n := ⟨h.nm, fun b hb => (h.ok b hb).mono m, h.one⟩
theorem inV_strs (n : Str) (xs : List Str) : inV (.str n) (xs.map V.str) = decide (n ∈ xs) := by
  unfold inV
  rw [List.any_map]
  apply Bool.eq_iff_iff.mpr
  rw [List.any_eq_true, decide_eq_true_iff]
  constructor
  · rintro ⟨x, hx, e⟩
    have e' : decide (x = n) = true := e
    rw [← of_decide_eq_true e']
    exact hx
  · intro h
    exact ⟨n, h, decide_eq_true rfl⟩
theorem flat_strs (xs : List Str) : (xs.map V.str).all flatV = true := by
  rw [List.all_map, List.all_eq_true]
  intro _ _
  rfl
/-- while the services are made -/
structure SvMade (p t k ca l1 l2 s f : Addr) (ts : List (Str × Int)) (ks : List KeyE) (cps : List (Option Int)) (ns : List Str) (H0 H : Hp) (ss : List SvE) (fl : List Str) : Prop where
  chg : Chg p H0 H
  sv : H s = some (.dK (svK ss))
  fil : H f = some (.lst (fl.map V.str))
  ord : H l1 = some (.lst ((ts.map (·.1)).map V.str))
  nam : H l2 = some (.lst (ns.map V.str))
  tabs : H t = some (.dK (tabK ts))
  keys : H k = some (.dK (keyK ks))
  caps : H ca = some (.lst (cps.map capV))
  kok : Keys H ts ks
  ok : ∀ b ∈ ss, SvOk H ts b
structure SvNe (p t k ca l1 l2 s f : Addr) (H0 : Hp) : Prop where
  s0 : H0 s = none
  f0 : H0 f = none
  sp : s ≠ p
  fp : f ≠ p
  cp : ca ≠ p
  p1 : l1 ≠ p
  p2 : l2 ≠ p
  f1 : l1 ≠ f
  f2 : l2 ≠ f
  fc : ca ≠ f
theorem SvMade.go {p t k ca l1 l2 s f : Addr} {ts : List (Str × Int)} {ks : List KeyE} {cps : List (Option Int)} {ns : List Str} {H0 H H' : Hp} {ss : List SvE} {fl : List Str} (h : SvMade p t k ca l1 l2 s f ts ks cps ns H0 H ss fl) (n : SvNe p t k ca l1 l2 s f H0) (c : Chg p H H') : SvMade p t k ca l1 l2 s f ts ks cps ns H0 H' ss fl := by
  have m := chg_tup h.chg.1 c
  have d : ∀ {b : Addr} {kvs : List (Key × V)}, H b = some (.dK kvs) → H' b = some (.dK kvs) := fun e => c.at (pool_ne h.chg.1 e (by intro _ z; cases z)) e
  exact ⟨h.chg.trans c, d h.sv, c.at n.fp h.fil, c.at n.p1 h.ord, c.at n.p2 h.nam, d h.tabs, d h.keys, c.at n.cp h.caps, h.kok.mono m, fun b hb => (h.ok b hb).mono m⟩
theorem SvMade.same {p t k ca l1 l2 s f : Addr} {ts : List (Str × Int)} {ks : List KeyE} {cps : List (Option Int)} {ns : List Str} {H0 H H' : Hp} {ss : List SvE} {fl : List Str} (h : SvMade p t k ca l1 l2 s f ts ks cps ns H0 H ss fl) (n : SvNe p t k ca l1 l2 s f H0) (c : Same H H') : SvMade p t k ca l1 l2 s f ts ks cps ns H0 H' ss fl :=
  h.go n ⟨h.chg.1.same c, fun b o _ e => c b o e⟩
theorem SvMade.fill {p t k ca l1 l2 s f : Addr} {ts : List (Str × Int)} {ks : List KeyE} {cps : List (Option Int)} {ns : List Str} {H0 H : Hp} {ss : List SvE} {fl gl : List Str} (h : SvMade p t k ca l1 l2 s f ts ks cps ns H0 H ss fl) (n : SvNe p t k ca l1 l2 s f H0) : SvMade p t k ca l1 l2 s f ts ks cps ns H0 (upd H f (.lst (gl.map V.str))) ss gl := by
  have m : ∀ b xs, H b = some (.tup xs) → upd H f (.lst (gl.map V.str)) b = some (.tup xs) := upd_tup h.fil (by intro _ z; cases z)
  have d : ∀ {b : Addr} {kvs : List (Key × V)}, H b = some (.dK kvs) → upd H f (.lst (gl.map V.str)) b = some (.dK kvs) := fun e => by
    rw [upd_ne (ne_of e h.fil (by intro z; cases z))]
    exact e
  exact ⟨h.chg.mut n.f0 n.fp, d h.sv, upd_same, by rw [upd_ne n.f1]; exact h.ord, by rw [upd_ne n.f2]; exact h.nam, d h.tabs, d h.keys, by rw [upd_ne n.fc]; exact h.caps, h.kok.mono m, fun b hb => (h.ok b hb).mono m⟩
theorem SvMade.put {p t k ca l1 l2 s f : Addr} {ts : List (Str × Int)} {ks : List KeyE} {cps : List (Option Int)} {ns : List Str} {H0 H : Hp} {ss : List SvE} {fl : List Str} {b : SvE} (h : SvMade p t k ca l1 l2 s f ts ks cps ns H0 H ss fl) (n : SvNe p t k ca l1 l2 s f H0) (ht : H0 t ≠ none) (hk : H0 k ≠ none) (hb : SvOk H ts b) :
    SvMade p t k ca l1 l2 s f ts ks cps ns H0 (upd H s (.dK (svK (ss ++ [b])))) (ss ++ [b]) fl := by
  have m : ∀ c xs, H c = some (.tup xs) → upd H s (.dK (svK (ss ++ [b]))) c = some (.tup xs) := upd_tup h.sv (by intro _ z; cases z)
  have l : ∀ {c : Addr} {xs : List V}, H c = some (.lst xs) → upd H s (.dK (svK (ss ++ [b]))) c = some (.lst xs) := fun e => by
    rw [upd_ne (ne_of e h.sv (by intro z; cases z))]
    exact e
  have nts : t ≠ s := fun e => ht (by rw [e]; exact n.s0)
  have nks : k ≠ s := fun e => hk (by rw [e]; exact n.s0)
  refine ⟨h.chg.mut n.s0 n.sp, upd_same, l h.fil, l h.ord, l h.nam, by rw [upd_ne nts]; exact h.tabs, by rw [upd_ne nks]; exact h.keys, l h.caps, h.kok.mono m, fun c hc => ?_⟩
  rcases List.mem_append.mp hc with e | e
  · exact (h.ok c e).mono m
  · rw [List.mem_singleton.mp e]
    exact hb.mono m
def spServices : Sp := fun vs H Q _ => ∃ (p t k ca : Addr) (m more : Nat) (ts : List (Str × Int)) (ks : List KeyE) (cps : List (Option Int)), vs = [.ref p, .ref t, .ref k, .ref ca, .int (more : Int)] ∧ PoolAt H p ∧ H t = some (.dK (tabK ts)) ∧ H k = some (.dK (keyK ks)) ∧ Tabs ts m 100 ∧ 1 ≤ m ∧ m + more ≤ 26 ∧ Keys H ts ks ∧
  H ca = some (.lst (cps.map capV)) ∧ ca ≠ p ∧ 1 ≤ cps.length ∧ cps.length ≤ 100 ∧ (∀ c, some c ∈ cps → 1 ≤ c ∧ c ≤ 4) ∧
  ∀ (s : Addr) (ss : List SvE) (H' : Hp), H s = none → H' s = some (.dK (svK ss)) → Svcs H' ts ks ss (m + more) → Chg p H H' → Q (.ref s) H'
theorem ok_services (T : Txt K mg a d) : FnOk P w K mg base CX0 5 (a 58) (d 58) ["_law_pool_here", "_law_tables_here", "_law_keys_here", "_law_caps", "_law_more_here"] spServices := by
  have G51 : FnOk P w K mg base CX0 2 (a 51) (d 51) ["_law_pool_here", "_law_many"] spDraw := ok_draw T
  have G53 : FnOk P w K mg base CX0 4 (a 53) (d 53) ["_law_pool_here", "_law_many"] spNames := ok_names T
  have G54 : FnOk P w K mg base CX0 3 (a 54) (d 54) ["_law_pool_here", "_law_width", "_law_low", "_law_high"] spCols := ok_columns T
  have G57 : FnOk P w K mg base CX0 3 (a 57) (d 57) ["_law_tables_here", "_law_keys_here", "_law_told"] spWhole := ok_is_whole T
  refine T.F58.ok sc__law_services (fun vs H Q E h => ?_) (fun cdv A outer s H vs Q E hr h => ?_)
  · obtain ⟨p, t, k, ca, m, more, ts, ks, cps, rfl, _⟩ := h
    rfl
  · obtain ⟨p, t, k, ca, m, more, ts, ks, cps, rfl, hP, ht, hk, hT, hm1, hm2, hK, hca, ncp, hc1, hc2, hcap, q⟩ := h
    refine ⟨_, (pss_cons (ps_set (i := 5) sc__law_services.nd rfl (.inl rfl) (pe_callTy (T := "list")  (call_listD rfl) (by rfl) T.z_list (by decide +kernel) (pa_cons (pv 1) pa_nil)))
  (pss_cons (ps_set (i := 6) sc__law_services.nd rfl (.inl rfl) (pe_call G53 (hr.mono (by decide)) (by rfl) T.g53 T.F53.kp T.b53 .nil pass0 (pa_cons (pv 0) (pa_cons (pe_op op_add (pe_callB (id := "len")  call_len_seq (by rfl) T.z_len (by decide +kernel) (pa_cons (pv 5) pa_nil)) (pv 4)) pa_nil))))
  (pss_cons (ps_set (i := 7) sc__law_services.nd rfl (.inl rfl) pe_dnewK)
  (pss_cons (ps_set (i := 8) sc__law_services.nd rfl (.inl rfl) (pe_lst pa_nil))
  (pss_cons (ps_for PassesOwn.never rfl (pi_range1 (by rfl) T.z_range (pa_cons (pe_callB (id := "len")  call_len_seq (by rfl) T.z_len (by decide +kernel) (pa_cons (pv 6) pa_nil)) pa_nil)) (pg_name (i := 9) sc__law_services.nd rfl (.inl rfl))
    (pss_cons (ps_set (i := 10) sc__law_services.nd rfl (.inl rfl) (pe_ix ix_list (pv 5) (pe_op op_mod (pv 9) (pe_callB (id := "len")  call_len_seq (by rfl) T.z_len (by decide +kernel) (pa_cons (pv 5) pa_nil))) (fun _ _ => rfl)))
      (pss_cons (ps_set (i := 11) sc__law_services.nd rfl (.inl rfl) (pe_ix ix_list (pv 3) (pe_call G51 (hr.mono (by decide)) (by rfl) T.g51 T.F51.kp T.b51 .nil pass0 (pa_cons (pv 0) (pa_cons (pe_callB (id := "len")  call_len_seq (by rfl) T.z_len (by decide +kernel) (pa_cons (pv 3) pa_nil)) pa_nil))) (fun _ _ => rfl)))
      (pss_cons (ps_set (i := 12) sc__law_services.nd rfl (.inl rfl) (pe_tup (pa_cons (pv 10) (pa_cons (pe_call G54 (hr.mono (by decide)) (by rfl) T.g54 T.F54.kp T.b54 .nil pass0 (pa_cons (pv 0) (pa_cons (pe_dget (hu_of hr) (pv 1) (pv 10) (fun _ _ => rfl)) (pa_cons pe_int (pa_cons pe_int pa_nil))))) (pa_cons (pv 11) pa_nil)))))
      (Evl.pss_cut (ps_if (pt_not (pt_val (pe_call G57 (hr.mono (by decide)) (by rfl) T.g57 T.F57.kp T.b57 .nil pass0 (pa_cons (pv 1) (pa_cons (pv 2) (pa_cons (pv 12) pa_nil))))))
        (pss_one (ps_if (pt_cmpR op_in_seq (pv 10) (pv 8) (by rfl))
            (pss_one (ps_set (i := 12) sc__law_services.nd rfl (.inl rfl) (pe_tup (pa_cons (pv 10) (pa_cons (pe_ix ix_tup (pv 12) pe_int (fun _ _ => rfl)) (pa_cons pe_non pa_nil))))))
            (pss_one (ps_expr (pe_bm PySem.F.plainAttrs_list PySem.F.slot_list_append PySem.F.type_list_append mt_append (pv 8) (pa_cons (pv 10) pa_nil))))))
        pss_nil)
      (pss_one (ps_dput (hu_of hr) (pv 7) (pe_ix ix_list (pv 6) (pv 9) (fun _ _ => rfl)) (pv 12) rfl)))))))
  (pss_one (ps_ret (pv 7)))))))), ?_⟩
    have e0 : (tabK ts).map (fun kv => kV kv.1) = (ts.map (·.1)).map V.str := by
      unfold tabK
      rw [List.map_map, List.map_map]
      rfl
    have lts : ((ts.map (·.1)).map V.str).length = m := by rw [List.length_map, hT.nm.len]
    refine ⟨_, rfl, t, tabK ts, rfl, .inl ht, fun l1 hl1 => ?_⟩
    rw [e0]
    have n1 : l1 ≠ p := Chg.ne hP hl1
    have C1 : Chg p H (upd H l1 (.lst ((ts.map (·.1)).map V.str))) := (Chg.refl hP).new hl1
    -- the names
    refine ⟨_, rfl, _, rfl, _, _, rfl, .inl (.of upd_same), _, rfl, _, _, rfl, rfl, p, m + more, ?_, C1.1, hm2, fun l2 ns H2 hl2 h2 hn C2 => ?_⟩
    · rw [lts]
      rfl
    have C02 := C1.trans C2
    have h1 := C2.at n1 upd_same
    have n2 : l2 ≠ p := fun e => by
      obtain ⟨p0, p1, p2, p3, r, e', c⟩ := C1.1
      rw [e, e'] at hl2
      cases hl2
    have nca : ca ≠ l1 := ne_of_none hca hl1
    have hca1 : upd H l1 (.lst ((ts.map (·.1)).map V.str)) ca = some (.lst (cps.map capV)) := C1.at ncp hca
    intro sv hsv
    have nsv : sv ≠ p := Chg.ne C2.1 hsv
    have C3 := C02.new (o := .dK []) hsv
    refine ⟨Nat.zero_le _, fun f hf => ?_⟩
    have nf : f ≠ p := Chg.ne C3.1 hf
    have C4 := C3.new (o := .lst []) hf
    have h14 : ∀ {b : Addr} {o : HO}, H2 b = some o → upd (upd H2 sv (.dK [])) f (.lst []) b = some o := fun e => (same_upd hf) _ _ ((same_upd hsv) _ _ e)
    have d4 : ∀ {b : Addr} {kvs : List (Key × V)}, H b = some (.dK kvs) → upd (upd H2 sv (.dK [])) f (.lst []) b = some (.dK kvs) := fun e => C4.at (pool_ne hP e (by intro _ z; cases z)) e
    have N : SvNe p t k ca l1 l2 sv f H := ⟨free_of C02 hP hsv, free_of C3 hP hf, nsv, nf, ncp, n1, n2, ne_of_none ((same_upd hsv) _ _ h1) hf, ne_of_none ((same_upd hsv) _ _ h2) hf, ne_of_none (C3.at ncp hca) hf⟩
    have M0 : SvMade p t k ca l1 l2 sv f ts ks cps ns H (upd (upd H2 sv (.dK [])) f (.lst [])) [] [] :=
      ⟨C4, (by rw [upd_ne (ne_of_none upd_same hf)]; exact upd_same), upd_same, h14 h1, h14 h2, d4 ht, d4 hk, C4.at ncp hca, hK.mono (chg_tup hP C4), fun b hb => by cases hb⟩
    have lns : ((ns.map V.str).length : Int) = ((m + more : Nat) : Int) := by rw [List.length_map, hn.len]
    refine ⟨_, rfl, _, _, rfl, .inl (.of M0.nam), _, rfl, by omega, by omega, ?_⟩
    rw [lns, Int.toNat_natCast]
    refine for_range (lo := 0) (n := m + more) (fun i σ H' => ∃ (ss : List SvE) (y9 y10 y11 y12 : Option V), σ = [some (.ref p), some (.ref t), some (.ref k), some (.ref ca), some (.int more), some (.ref l1), some (.ref l2), some (.ref sv), some (.ref f), y9, y10, y11, y12] ∧ SvMade p t k ca l1 l2 sv f ts ks cps ns H H' ss (fillE ts ks ss) ∧ ss.map (·.name) = ns.take i ∧ (fillE ts ks ss).Nodup)
      ⟨[], none, none, none, none, rfl, M0, rfl, List.nodup_nil⟩ (fun i σ H' hi hp => ?_) (fun σ H' hp => ?_)
    · obtain ⟨ss, y9, y10, y11, y12, rfl, M, hnm, hone⟩ := hp
      have hss : ss.length ≤ 26 := by
        have e := congrArg List.length hnm
        rw [List.length_map, List.length_take] at e
        have := hn.len
        omega
      have hfl : (fillE ts ks ss).length ≤ 26 := by
        unfold fillE
        rw [List.length_map]
        exact Nat.le_trans (List.length_filter_le _ _) hss
      -- table
      have hj : i % m < ts.length := by
        rw [hT.len]
        exact Nat.mod_lt _ (by omega)
      have hat : (ts.map (·.1))[i % m]? = some ts[i % m].1 := by rw [List.getElem?_map, List.getElem?_eq_getElem hj]; rfl
      generalize hb : ts[i % m] = b at hat
      obtain ⟨n, w⟩ := b
      have hmem : (n, w) ∈ ts := by
        rw [← hb]
        exact List.getElem_mem hj
      have hw := hT.wd _ hmem
      have hwa := widthAt_mem hT.nm.nd hmem
      refine ⟨_, rfl, _, rfl, _, rfl, _, _, rfl, .inl (.of M.ord), _, _, rfl, rfl, ?_, _, _, _, .str n, rfl, rfl, .of M.ord, at_g (j := i % m) ?_ (by rw [List.getElem?_map, hat]; rfl), ?_⟩
      · rw [lts]
        omega
      · rw [lts, Int.zero_add]
        exact (Int.natCast_emod i m).symm
      -- cap
      refine ⟨_, rfl, _, rfl, _, rfl, _, _, rfl, .inl (.of M.caps), p, _, rfl, M.chg.1, ?_, ?_, fun r H5 r0 r1 C5 => ?_⟩
      · rw [List.length_map]
        omega
      · rw [List.length_map]
        exact Nat.lt_of_le_of_lt (by omega : _ ≤ 100) (by decide)
      have M5 := M.go N C5
      obtain ⟨v, hv⟩ := at_some (xs := cps.map capV) r0 r1
      obtain ⟨cap, hcp, rfl⟩ := List.mem_map.mp (atI_mem hv)
      refine ⟨_, _, r, _, rfl, rfl, .of M5.caps, hv, ?_⟩
      -- told
      refine ⟨_, rfl, _, rfl, _, rfl, _, rfl, t, _, rfl, tab_at M5.tabs hT.nm.nd hmem, p, w, 0, 4, rfl, M5.chg.1, hw.1, hw.2, by decide, fun c cs H6 c0 c1 c2 c3 c4 C6 => ⟨_, rfl, by show 3 ≤ sizeLine; decide, fun v hv => ?_⟩⟩
      have M6 := (M5.go N C6).same N (same_upd (o := .tup [.str n, .ref c, capV cap]) hv)
      have told : Told (upd H6 v (.tup [.str n, .ref c, capV cap])) v n c cs cap := ⟨upd_same, same_upd hv _ _ c1⟩
      have hcapok : ∀ z, cap = some z → 1 ≤ z ∧ z ≤ 4 := fun z e => hcap z (e ▸ hcp)
      refine ⟨fun σ H' => ∃ (v : Addr) (cap capY : Option Int) (fl : List Str), σ = [some (.ref p), some (.ref t), some (.ref k), some (.ref ca), some (.int more), some (.ref l1), some (.ref l2), some (.ref sv), some (.ref f), some (.int ((0 : Int) + (i : Int))), some (.str n), some (capV capY), some (.ref v)] ∧ SvMade p t k ca l1 l2 sv f ts ks cps ns H H' ss fl ∧ Told H' v n c cs cap ∧ (∀ z, cap = some z → 1 ≤ z ∧ z ≤ 4) ∧ fl = fillE ts ks ss ++ (if isWh w ks n cs cap = true then [] else [n]) ∧ fl.Nodup, ?_, ?_⟩
      · refine ⟨_, rfl, _, rfl, _, rfl, t, k, v, c, m, ts, ks, n, w, cs, cap, rfl, .of M6.tabs, .of M6.keys, hT, M6.kok, told, hmem, by omega, fun H7 s7 => ⟨_, rfl, ?_⟩⟩
        have M7 := M6.same N s7
        have told7 := told.mono fun _ _ e => s7 _ _ e
        cases e : isWh w ks n cs cap with
        | true => exact ⟨v, cap, _, _, rfl, M7, told7, hcapok, by rw [e, if_pos rfl, List.append_nil], hone⟩
        | false =>
          refine ⟨_, rfl, _, rfl, f, _, rfl, .inl (.of M7.fil), rfl, flat_strs _, _, rfl, ?_⟩
          show if inV (.str n) ((fillE ts ks ss).map V.str) = true then _ else _
          rw [inV_strs]
          refine ite_d (fun h => ?_) (fun h => ?_)
          · refine ⟨_, rfl, _, rfl, _, _, _, _, rfl, rfl, .of told7.tup, atI_nat (j := 1) rfl, by show 3 ≤ sizeLine; decide, fun v2 hv2 => ?_⟩
            have s8 := same_upd (o := .tup [.str n, .ref c, .non]) hv2
            exact ⟨v2, none, _, _, rfl, M7.same N s8, ⟨upd_same, s8 _ _ told7.cols⟩, (fun z e => by cases e), by rw [show isWh w ks n cs none = true from rfl, if_pos rfl, List.append_nil], hone⟩
          · refine ⟨_, rfl, .inl ⟨rfl, _, .of M7.fil⟩, _, rfl, f, _, _, rfl, rfl, M7.fil, ?_, ?_⟩
            · rw [List.length_map]
              exact Nat.lt_of_le_of_lt hfl (by decide)
            · have M8 := M7.fill N (gl := fillE ts ks ss ++ [n])
              rw [List.map_append] at M8
              exact ⟨v, cap, _, _, rfl, M8, told7.mono (upd_tup M7.fil (by intro _ z; cases z)), hcapok, by rw [e, if_neg (by decide)], List.nodup_append.mpr ⟨hone, List.nodup_cons.mpr ⟨(fun z => by cases z), List.nodup_nil⟩, fun x hx y hy => fun z => h (by rw [← List.mem_singleton.mp hy, ← z]; exact hx)⟩⟩
      · rintro σ H8 ⟨v, cap, capY, fl, rfl, M8, told, hcapok, hfe, hnd⟩
        have hin : i < ns.length := by rw [hn.len]; exact hi
        refine ⟨_, rfl, _, rfl, _, rfl, _, rfl, _, _, _, .str ns[i], rfl, rfl, .of M8.nam, at_g (j := i) (by omega) (by rw [List.getElem?_map, List.getElem?_eq_getElem hin]; rfl), sv, _, rfl, DPut.k (k := Sum.inr ns[i]) M8.sv ?_, ss ++ [⟨ns[i], v, n, c, cs, cap⟩], _, _, _, _, rfl, ?_, ?_, ?_⟩
        · unfold svK
          rw [List.length_map]
          exact Nat.lt_of_le_of_lt hss (by decide)
        · have e : putK (svK ss) (Sum.inr ns[i]) (V.ref v) = svK (ss ++ [⟨ns[i], v, n, c, cs, cap⟩]) := by
            rw [putK_new _ (valV_no ?_)]
            · unfold svK
              rw [snoc_map]
            · rw [keys_sv, hnm]
              exact inr_no (nd_take hn.nd (List.getElem?_eq_getElem hin))
          rw [e]
          have hf2 : fillE ts ks (ss ++ [⟨ns[i], v, n, c, cs, cap⟩]) = fl := by
            rw [fillE_snoc, hfe]
            unfold whE
            rw [hwa]
          rw [hf2]
          exact M8.put N (by rw [ht]; intro z; cases z) (by rw [hk]; intro z; cases z) ⟨told, ⟨w, hmem, c2, c3⟩, hcapok⟩
        · rw [snoc_map, hnm, List.take_add_one, List.getElem?_eq_getElem hin]
          rfl
        · have hf2 : fillE ts ks (ss ++ [⟨ns[i], v, n, c, cs, cap⟩]) = fl := by
            rw [fillE_snoc, hfe]
            unfold whE
            rw [hwa]
          rw [hf2]
          exact hnd
    · obtain ⟨ss, y9, y10, y11, y12, rfl, M, hnm, hone⟩ := hp
      rw [← hn.len, List.take_length] at hnm
      exact ⟨_, rfl, q sv ss H' N.s0 M.sv ⟨by rw [hnm]; exact hn, M.ok, hone⟩ M.chg⟩
end
theorem lc_str {x : Str} {g : TG} {tt : TT} {te : TE} {vs : List Nat} {σ : L2.St} {H1 : Hp} {D : Addr} {Qd : Hp → Prop} (Pv : Nat → Hp → Prop) (h0 : Pv 0 (upd H1 D (.lst [])))
    (hs : ∀ i c H, x.cps[i]? = some c → Pv i H → g (.str ⟨#[c]⟩) (wipe σ vs) H fun σ2 H2 => wipe σ2 vs = wipe σ vs ∧ tt σ2 H2 fun b H3 =>
      if b = true then te σ2 H3 fun y H4 => ∃ acc, H4 D = some (.lst acc) ∧ acc.length < sizeLine ∧ Pv (i + 1) (upd H4 D (.lst (acc ++ [y]))) else Pv (i + 1) H3) (hd : ∀ H, Pv x.cps.size H → Qd H) :
    ∃ W : Nat → Nat → Hp → Prop, (∃ m, W 0 m (upd H1 D (.lst []))) ∧ ∀ i m H, W i m H →
      ((Its x).stop i H ∧ Qd H) ∨ ((Its x).go i H ∧ ∃ Nx : Hp → Prop, (∀ H', Nx H' → ∃ m', m' < m ∧ W (i + 1) m' H') ∧ ∀ v H', (Its x).yld i H v H' → g v (wipe σ vs) H' fun σ2 H2 => wipe σ2 vs = wipe σ vs ∧ tt σ2 H2 fun b H3 =>
        if b = true then te σ2 H3 fun y H4 => ∃ acc, H4 D = some (.lst acc) ∧ acc.length < sizeLine ∧ Nx (upd H4 D (.lst (acc ++ [y]))) else Nx H3) := by
  refine ⟨fun i m H => m = x.cps.size - i ∧ i ≤ x.cps.size ∧ Pv i H, ⟨x.cps.size, by simp, Nat.zero_le _, h0⟩, ?_⟩
  rintro i m H ⟨rfl, hi, p⟩
  by_cases hlt : i < x.cps.size
  · refine .inr ⟨hlt, Pv (i + 1), fun H' p' => ⟨x.cps.size - (i + 1), by omega, rfl, hlt, p'⟩, fun v H' y => ?_⟩
    obtain ⟨e, c, hc, ev⟩ := y
    subst e
    subst ev
    exact hs i c _ hc p
  · have e : i = x.cps.size := by omega
    subst e
    exact .inl ⟨Nat.le_refl _, hd H p⟩
/-! ### words and values -/
def okC (c : Nat) : Bool := decide (97 ≤ c ∧ c ≤ 122)
def wordB (s : Str) : Bool := decide (1 ≤ s.length ∧ s.length ≤ 8) && s.cps.toList.all okC
def wordV : V → Bool
  | .str s => wordB s
  | _ => false
def valV' : V → Bool
  | .int i => decide (-999999999999999999999999999999 ≤ i ∧ i ≤ 999999999999999999999999999999)
  | .str s => wordB s
  | _ => false
inductive Thg (H : Hp) : V → Prop
  | int (i : Int) : Thg H (.int i)
  | bl (b : Bool) : Thg H (.bl b)
  | non : Thg H .non
  | str (s : Str) (h : s.length ≤ 1000) (hc : ∀ c ∈ s.cps.toList, c < 128) : Thg H (.str s)
  | lst {a : Addr} {xs : List V} (e : H a = some (.lst xs)) : Thg H (.ref a)
  | tup {a : Addr} {xs : List V} (e : H a = some (.tup xs)) : Thg H (.ref a)
theorem Thg.same {H H' : Hp} {v : V} (h : Thg H v) (s : Same H H') : Thg H' v := by
  cases h with
  | int i => exact .int i
  | bl b => exact .bl b
  | non => exact .non
  | str s h hc => exact .str s h hc
  | lst e => exact .lst (s _ _ e)
  | tup e => exact .tup (s _ _ e)
def tyInt : V → Bool
  | .int _ => true
  | .bl _ => true
  | _ => false
def tyBool : V → Bool
  | .bl _ => true
  | _ => false
def plainV (v : V) : Bool := tyInt v && !tyBool v
def tyStr : V → Bool
  | .str _ => true
  | _ => false
section
variable {K : PySem.W.Frag} {H : Hp} {v : V} {Q : VK}
theorem Thg.ty (h : Thg H v) : ∃ n, TyX K H v (.type n) ∧ kitB n "int" = some (tyInt v) ∧ kitB n "bool" = some (tyBool v) ∧ kitB n "str" = some (tyStr v) := by
  cases h with
  | int i => exact ⟨_, .base (.int _), show kitB "int" "int" = some true by decide +kernel, show kitB "int" "bool" = some false by decide +kernel, show kitB "int" "str" = some false by decide +kernel⟩
  | bl b => exact ⟨_, .base (.bl _), show kitB "bool" "int" = some true by decide +kernel, show kitB "bool" "bool" = some true by decide +kernel, show kitB "bool" "str" = some false by decide +kernel⟩
  | non => exact ⟨_, .base .non, show kitB "NoneType" "int" = some false by decide +kernel, show kitB "NoneType" "bool" = some false by decide +kernel, show kitB "NoneType" "str" = some false by decide +kernel⟩
  | str s => exact ⟨_, .base (.str _), show kitB "str" "int" = some false by decide +kernel, show kitB "str" "bool" = some false by decide +kernel, show kitB "str" "str" = some true by decide +kernel⟩
  | lst e => exact ⟨_, .base (.lst e), show kitB "list" "int" = some false by decide +kernel, show kitB "list" "bool" = some false by decide +kernel, show kitB "list" "str" = some false by decide +kernel⟩
  | tup e => exact ⟨_, .base (.tup e), show kitB "tuple" "int" = some false by decide +kernel, show kitB "tuple" "bool" = some false by decide +kernel, show kitB "tuple" "str" = some false by decide +kernel⟩
end
def spB (f : V → Bool) : Sp := fun vs H Q _ => ∃ v : V, vs = [v] ∧ Thg H v ∧ ∀ H', Same H H' → Q (.bl (f v)) H'
theorem sgn_le {c : Nat} : ((!decide (([c] : List Nat) < [97])) && (!decide (([122] : List Nat) < [c]))) = okC c := by
  have h1 : (([c] : List Nat) < [97]) ↔ c < 97 := by rw [List.cons_lt_cons_iff]; simp
  have h2 : (([122] : List Nat) < [c]) ↔ 122 < c := by rw [List.cons_lt_cons_iff]; simp
  unfold okC
  simp only [h1, h2]
  by_cases a : c < 97 <;> by_cases b : 122 < c <;> simp [a, b] <;> omega
theorem sgn_in : ∀ {c : Nat}, decide (c ∈ ("abcdefghijklmnopqrstuvwxyz" : Str).cps.toList) = okC c := by
  intro c
  by_cases h : c < 128
  · exact (show ∀ c : Nat, c < 128 → decide (c ∈ ("abcdefghijklmnopqrstuvwxyz" : Str).cps.toList) = okC c by decide +kernel) c h
  · have e1 : okC c = false := by
      unfold okC
      exact decide_eq_false (by omega)
    rw [e1]
    refine decide_eq_false fun hm => ?_
    have := (show ∀ c ∈ ("abcdefghijklmnopqrstuvwxyz" : Str).cps.toList, c < 128 by decide +kernel) c hm
    omega
section
variable {P : Program} {w : World} {K : PySem.W.Frag} {mg : Str → Option Value} {base : Heap} {a : Nat → Addr} {d : Nat → FuncData}
theorem ok_plain (T : Txt K mg a d) : FnOk P w K mg base CX0 1 (a 9) (d 9) ["thing"] (spB plainV) := by
  refine T.F9.ok sc_is_plain_int (fun vs H Q E h => ?_) (fun cdv A outer s H vs Q E hr h => ?_)
  · obtain ⟨v, rfl, _⟩ := h
    rfl
  · obtain ⟨v, rfl, hv, q⟩ := h
    refine ⟨_, (pss_one (ps_ret (pe_and (pe_callB (id := "isinstance")  call_isi (by rfl) T.z_isinstance (by decide +kernel) (pa_cons (pv 0) (pa_cons (pe_bltn (v := .ty "int") (by rfl) T.z_int (by decide +kernel) rfl) pa_nil))) (pe_one (pe_not (pe_callB (id := "isinstance")  call_isi (by rfl) T.z_isinstance (by decide +kernel) (pa_cons (pv 0) (pa_cons (pe_bltn (v := .ty "bool") (by rfl) T.z_bool (by decide +kernel) rfl) pa_nil)))))))), ?_⟩
    obtain ⟨n, ht, k1, k2, k3⟩ := hv.ty (K := K)
    refine ⟨_, rfl, _, _, _, _, _, rfl, .ty _, ht, kit_ty k1, _, rfl, ?_⟩
    have q : Q (.bl (tyInt v && !tyBool v)) H := q H (Same.refl H)
    refine ite2 (fun e => ?_) (fun e => ?_)
    · rw [e] at q
      exact ⟨_, rfl, _, _, _, _, _, rfl, .ty _, ht, kit_ty k2, _, rfl, q⟩
    · rw [Bool.eq_false_iff.mpr e] at q
      exact q
theorem ok_is_word (T : Txt K mg a d) : FnOk P w K mg base CX0 1 (a 10) (d 10) ["thing"] (spB wordV) := by
  refine T.F10.ok sc_is_word (fun vs H Q E h => ?_) (fun cdv A outer s H vs Q E hr h => ?_)
  · obtain ⟨v, rfl, _⟩ := h
    rfl
  · obtain ⟨v, rfl, hv, q⟩ := h
    obtain ⟨t8, h_LONGEST_WORD⟩ := T.c_LONGEST_WORD
    refine ⟨_, (pss_cons (ps_if (PW.pt (pw_or (pt_not (pt_val (pe_callB (id := "isinstance")  call_isi (by rfl) T.z_isinstance (by decide +kernel) (pa_cons (pv 0) (pa_cons (pe_bltn (v := .ty "str") (by rfl) T.z_str (by decide +kernel) rfl) pa_nil))))) (pw_or1 (pt_not (pt_chain op_le op_le pe_int (pe_callB (id := "len")  call_len_str (by rfl) T.z_len (by decide +kernel) (pa_cons (pv 0) pa_nil)) (pe_glob (v := .int (8)) rfl h_LONGEST_WORD ⟨_, rfl⟩))))))
    (pss_one (ps_ret pe_bl))
    pss_nil)
  (pss_one (ps_ret (pe_callB (id := "all")  (cr_all rfl) (by rfl) T.z_all (by decide +kernel) (pa_cons (pe_lc (own := [("letter", 1)]) rfl sc_is_word.nd (pi_str (pv 0)) (blkOk_by (N := ["thing", "letter"]) (sc := defScope s_is_word) (by decide +kernel)) (fun _ _ _ _ _ => pg_name (i := 1) sc_is_word.nd rfl (.inl rfl)) (fun _ _ _ _ _ => pts_nil) (fun _ _ _ _ _ => (pe_chain op_le_str op_le_str pe_str (pv 1) pe_str))) pa_nil))))), ?_⟩
    obtain ⟨n, ht, k1, k2, k3⟩ := hv.ty (K := K)
    refine ⟨_, rfl, _, _, _, _, _, rfl, .ty _, ht, kit_ty k3, _, rfl, ?_⟩
    cases hv with
    | int i => exact q H (Same.refl H)
    | bl i => exact q H (Same.refl H)
    | non => exact q H (Same.refl H)
    | lst e => exact q H (Same.refl H)
    | tup e => exact q H (Same.refl H)
    | str s hl hc =>
      have q : ∀ H', Same H H' → Q (.bl (decide (1 ≤ s.length ∧ s.length ≤ 8) && s.cps.toList.all okC)) H' := q
      refine ⟨_, rfl, _, rfl, small1000' hl, _, _, rfl, rfl, _, rfl, ?_⟩
      refine ite_d (fun h1 => ?_) (fun h1 => ?_)
      · refine ⟨_, _, rfl, rfl, _, rfl, ?_⟩
        refine ite_nd (fun h2 => ?_) (fun h2 => ?_)
        · have e : decide (1 ≤ s.length ∧ s.length ≤ 8) = false := decide_eq_false (by omega)
          rw [e] at q
          exact q H (Same.refl H)
        · have e : decide (1 ≤ s.length ∧ s.length ≤ 8) = true := decide_eq_true (by omega)
          rw [e] at q
          refine ⟨_, rfl, _, rfl, fun D hD => ?_⟩
          refine lc_str (fun i H' => H' D = some (.lst (((s.cps.toList.take i).map okC).map V.bl)) ∧ Same H H') ⟨upd_same, same_upd hD⟩ (fun i c H' hx hp => ?_) (fun H' hp => ?_)
          · have hx' : s.cps.toList[i]? = some c := by rw [Array.getElem?_toList]; exact hx
            have hsz : (((s.cps.toList.take i).map okC).map V.bl).length < sizeLine := by
              rw [List.length_map, List.length_map, List.length_take]
              have : s.cps.toList.length = s.length := Array.length_toList
              exact small1000 (by omega)
            have step : ∀ b, b = okC c → ∀ H3, H3 = H' → (upd H3 D (.lst (((s.cps.toList.take i).map okC).map V.bl ++ [.bl b]))) D = some (.lst (((s.cps.toList.take (i + 1)).map okC).map V.bl)) ∧ Same H (upd H3 D (.lst (((s.cps.toList.take i).map okC).map V.bl ++ [.bl b]))) := fun b eb H3 e3 => by
              subst e3
              refine ⟨?_, fun x o ex => ?_⟩
              · rw [map_take hx', List.map_append, ← eb]
                exact upd_same
              · rw [upd_ne (ne_of_none ex hD)]
                exact hp.2 x o ex
            have e0 : ("a" : Str).cps.toList = [97] := by decide +kernel
            have e9 : ("z" : Str).cps.toList = [122] := by decide +kernel
            have eo := sgn_le (c := c)
            refine ⟨rfl, ?_⟩
            refine ⟨_, rfl, _, _, rfl, rfl, _, rfl, ?_⟩
            refine ite_nd (fun h3 => ?_) (fun h3 => ?_)
            · rw [e0] at h3
              have h3' : ¬ ([c] : List Nat) < [97] := h3
              rw [decide_eq_false h3'] at eo
              refine ⟨_, _, rfl, rfl, _, hp.1, hsz, step _ ?_ _ rfl⟩
              rw [e9]
              exact eo
            · rw [e0] at h3
              have h3' : ([c] : List Nat) < [97] := h3
              rw [decide_eq_true h3'] at eo
              exact ⟨_, hp.1, hsz, step _ eo _ rfl⟩
          · obtain ⟨h3, h4⟩ := hp
            have et : s.cps.toList.take s.cps.size = s.cps.toList := List.take_of_length_le (Nat.le_of_eq Array.length_toList)
            rw [et] at h3
            refine ⟨D, _, rfl, .of h3, ?_⟩
            have ea : ((s.cps.toList.map okC).all id) = s.cps.toList.all okC := by rw [List.all_map]; rfl
            rw [ea]
            exact q H' h4
      · have e : decide (1 ≤ s.length ∧ s.length ≤ 8) = false := decide_eq_false (by omega)
        rw [e] at q
        exact ⟨_, rfl, q H (Same.refl H)⟩
end
section
variable {P : Program} {w : World} {K : PySem.W.Frag} {mg : Str → Option Value} {base : Heap} {a : Nat → Addr} {d : Nat → FuncData}
theorem ok_is_value (T : Txt K mg a d) : FnOk P w K mg base CX0 2 (a 11) (d 11) ["thing"] (spB valV') := by
  have G9 : FnOk P w K mg base CX0 1 (a 9) (d 9) ["thing"] (spB plainV) := ok_plain T
  have G10 : FnOk P w K mg base CX0 1 (a 10) (d 10) ["thing"] (spB wordV) := ok_is_word T
  refine T.F11.ok sc_is_value (fun vs H Q E h => ?_) (fun cdv A outer s H vs Q E hr h => ?_)
  · obtain ⟨v, rfl, _⟩ := h
    rfl
  · obtain ⟨v, rfl, hv, q⟩ := h
    obtain ⟨t9, h_GREATEST_VALUE⟩ := T.c_GREATEST_VALUE
    refine ⟨_, (pss_cons (ps_if (pt_val (pe_call G9 (hr.mono (by decide)) (by rfl) T.g9 T.F9.kp T.b9 .nil pass0 (pa_cons (pv 0) pa_nil)))
    (pss_one (ps_ret (pe_chain op_le op_le (pe_un un_neg (pe_glob (v := .int (999999999999999999999999999999)) rfl h_GREATEST_VALUE ⟨_, rfl⟩)) (pv 0) (pe_glob (v := .int (999999999999999999999999999999)) rfl h_GREATEST_VALUE ⟨_, rfl⟩))))
    pss_nil)
  (pss_one (ps_ret (pe_call G10 (hr.mono (by decide)) (by rfl) T.g10 T.F10.kp T.b10 .nil pass0 (pa_cons (pv 0) pa_nil))))), ?_⟩
    refine ⟨_, rfl, v, rfl, hv, fun H1 s1 => ⟨_, rfl, ?_⟩⟩
    have word : ∀ H1, Same H H1 → valV' v = wordV v → tRet (tCall (spB wordV) [] (fun _ _ _ => False) (tCons (tVar 0) tNil)) { nx := fun _ H' => Q .non H', rt := Q } [some v] H1 := fun H1 s1 ev => ⟨_, rfl, v, rfl, hv.same s1, fun H2 s2 => by
      rw [← ev]
      exact q H2 (s1.trans s2)⟩
    cases hv with
    | int i =>
      refine ⟨_, rfl, _, rfl, _, _, rfl, rfl, _, rfl, ?_⟩
      have q1 := q H1 s1
      refine ite_d (fun h2 => ?_) (fun h2 => ?_)
      · refine ⟨_, _, rfl, rfl, ?_⟩
        have e : decide (i ≤ 999999999999999999999999999999) = decide (-999999999999999999999999999999 ≤ i ∧ i ≤ 999999999999999999999999999999) := by
          by_cases h3 : i ≤ 999999999999999999999999999999
          · rw [decide_eq_true h3, decide_eq_true ⟨h2, h3⟩]
          · rw [decide_eq_false h3, decide_eq_false (fun x => h3 x.2)]
        show Q (.bl (decide (i ≤ 999999999999999999999999999999))) H1
        rw [e]
        exact q1
      · have e : decide (-999999999999999999999999999999 ≤ i ∧ i ≤ 999999999999999999999999999999) = false := decide_eq_false (fun x => h2 x.1)
        have q1 : Q (.bl (decide (-999999999999999999999999999999 ≤ i ∧ i ≤ 999999999999999999999999999999))) H1 := q1
        rw [e] at q1
        exact q1
    | bl b => exact word H1 s1 rfl
    | non => exact word H1 s1 rfl
    | str s h hc => exact word H1 s1 rfl
    | lst e => exact word H1 s1 rfl
    | tup e => exact word H1 s1 rfl
end
theorem paired_snoc {α β : Type} {R : α → β → Prop} {x : α} {y : β} : ∀ {xs : List α} {ys : List β}, Paired R xs ys → R x y → Paired R (xs ++ [x]) (ys ++ [y])
  | _, _, .nil, h => .cons h .nil
  | _, _, .cons r t, h => .cons r (paired_snoc t h)
/-! ### rows of values: their order -/
abbrev RowK := List Key
def item : Key → Int ⊕ List Nat
  | .inl i => .inl i
  | .inr s => .inr s.cps.toList
theorem item_inj {a b : Key} (h : item a = item b) : a = b := by
  cases a <;> cases b
  · exact congrArg Sum.inl (Sum.inl.inj h)
  · cases h
  · cases h
  · rename_i x y
    have e : x.cps.toList = y.cps.toList := Sum.inr.inj h
    have e2 : x = y := by
      cases x
      cases y
      exact congrArg Str.mk (Array.toList_inj.mp e)
    rw [e2]
def toks (r : RowK) : List (Int ⊕ List Nat) := r.map item
def rowLt (a b : RowK) : Bool := PyProof.Rows.lexLt PyProof.Rows.itemOrd (toks a) (toks b)
def isStrK : Key → Bool
  | .inl _ => false
  | .inr _ => true
def keyD : Key → PyData
  | .inl i => .int i
  | .inr s => .str s
def pairD (k : Key) : PyData := .tuple [.bool (isStrK k), keyD k]
def rowD (r : RowK) : PyData := .tuple (r.map pairD)
def tokP : PyData → Int ⊕ List Nat
  | .tuple [_, .int i] => .inl i
  | .tuple [_, .str s] => .inr s.cps.toList
  | _ => .inl 0
def tokD : PyData → List (Int ⊕ List Nat)
  | .tuple ps => ps.map tokP
  | _ => []
theorem tokP_pair (k : Key) : tokP (pairD k) = item k := by cases k <;> rfl
theorem tokD_row (r : RowK) : tokD (rowD r) = toks r := by
  show (r.map pairD).map tokP = r.map item
  rw [List.map_map]
  exact List.map_congr_left fun k _ => tokP_pair k
theorem eqv_key (x y : Key) : PyData.eqv (keyD x) (keyD y) = decide (x = y) := by
  cases x <;> cases y <;> simp [keyD, PyData.eqv]
  · rename_i a b
    exact Bool.eq_iff_iff.mpr (by simp)
  · rename_i a b
    exact Bool.eq_iff_iff.mpr (by simp)
theorem eqv_pair (x y : Key) : PyData.eqv (pairD x) (pairD y) = decide (x = y) := by
  have h := eqv_key x y
  unfold pairD
  simp only [PyData.eqv, PyData.eqvAll, h, Bool.and_true]
  cases x <;> cases y <;> simp [isStrK]
theorem ok_pair {x y : Key} (h : x ≠ y) : SK.okLt (pairD x) (pairD y) = true := by
  have hk := eqv_key x y
  rw [decide_eq_false h] at hk
  cases x <;> cases y <;> simp [pairD, SK.okLt, SK.okAll, isStrK, PyData.eqv] <;> first | trivial | (rw [hk]; simp [keyD, SK.okLt])
theorem lt_pair {x y : Key} (h : x ≠ y) : SK.ltD (pairD x) (pairD y) = PyProof.Rows.itemLt (item x) (item y) := by
  have hk := eqv_key x y
  rw [decide_eq_false h] at hk
  cases x <;> cases y <;> simp [pairD, SK.ltD, SK.ltAll, isStrK, PyData.eqv]
  · rw [hk]
    simp [keyD, SK.ltD, item, PyProof.Rows.itemLt]
  · simp only [item, PyProof.Rows.itemLt]
    decide
  · simp only [item, PyProof.Rows.itemLt]
    decide
  · rw [hk]
    simp [keyD, SK.ltD, item, PyProof.Rows.itemLt, PyProof.Rows.strKind]
theorem item_total {x y : Key} (h : x ≠ y) : PyProof.Rows.itemLt (item y) (item x) = !PyProof.Rows.itemLt (item x) (item y) := by
  have a : PyProof.Rows.itemLt (item x) (item y) = false → PyProof.Rows.itemLt (item y) (item x) = false → item x = item y := PyProof.Rows.itemOrd.total _ _
  have b : PyProof.Rows.itemLt (item x) (item y) = true → PyProof.Rows.itemLt (item y) (item x) = true → False := fun h1 h2 => by
    have h3 := PyProof.Rows.itemOrd.trans _ _ _ h1 h2
    rw [PyProof.Rows.itemOrd.irrefl] at h3
    cases h3
  cases h1 : PyProof.Rows.itemLt (item x) (item y) <;> cases h2 : PyProof.Rows.itemLt (item y) (item x)
  · exact absurd (item_inj (a h1 h2)) h
  · rfl
  · rfl
  · exact (b h1 h2).elim
theorem rowLt_cons (x y : Key) (r t : RowK) : rowLt (x :: r) (y :: t) = if x = y then rowLt r t else PyProof.Rows.itemLt (item x) (item y) := by
  show (PyProof.Rows.itemLt (item x) (item y) || (!PyProof.Rows.itemLt (item y) (item x) && rowLt r t)) = _
  by_cases h : x = y
  · subst h
    rw [if_pos rfl, show PyProof.Rows.itemLt (item x) (item x) = false from PyProof.Rows.itemOrd.irrefl _]
    simp
  · rw [if_neg h, item_total h]
    cases PyProof.Rows.itemLt (item x) (item y) <;> simp
theorem ok_rows : ∀ a b : RowK, SK.okAll (a.map pairD) (b.map pairD) = true
  | [], _ => by cases ‹RowK› <;> simp [SK.okAll]
  | _ :: _, [] => by simp [SK.okAll]
  | x :: r, y :: t => by
    simp only [List.map_cons, SK.okAll, eqv_pair]
    by_cases h : x = y
    · rw [decide_eq_true h, if_pos rfl]
      exact ok_rows r t
    · rw [decide_eq_false h, if_neg (by decide)]
      exact ok_pair h
theorem lt_rows : ∀ a b : RowK, SK.ltAll (a.map pairD) (b.map pairD) = rowLt a b
  | [], [] => by simp [SK.ltAll, rowLt, toks, PyProof.Rows.lexLt]
  | [], _ :: _ => by simp [SK.ltAll, rowLt, toks, PyProof.Rows.lexLt]
  | _ :: _, [] => by simp [SK.ltAll, rowLt, toks, PyProof.Rows.lexLt]
  | x :: r, y :: t => by
    rw [rowLt_cons]
    simp only [List.map_cons, SK.ltAll, eqv_pair]
    by_cases h : x = y
    · rw [decide_eq_true h, if_pos rfl, if_pos h]
      exact lt_rows r t
    · rw [decide_eq_false h, if_neg (by decide), if_neg h]
      exact lt_pair h
theorem toks_inj : ∀ {a b : RowK}, toks a = toks b → a = b
  | [], [], _ => rfl
  | [], _ :: _, h => by cases h
  | _ :: _, [], h => by cases h
  | x :: r, y :: t, h => by
    have h1 : item x = item y := (List.cons.inj h).1
    have h2 : toks r = toks t := (List.cons.inj h).2
    rw [item_inj h1, toks_inj h2]
theorem rowLt_total {a b : RowK} (h1 : rowLt a b = false) (h2 : rowLt b a = false) : a = b := toks_inj ((PyProof.Rows.listOrd PyProof.Rows.itemOrd).total _ _ h1 h2)
theorem rowLt_trans {a b c : RowK} (h1 : rowLt a b = true) (h2 : rowLt b c = true) : rowLt a c = true := (PyProof.Rows.listOrd PyProof.Rows.itemOrd).trans _ _ _ h1 h2
theorem rowLt_irrefl (a : RowK) : rowLt a a = false := (PyProof.Rows.listOrd PyProof.Rows.itemOrd).irrefl _
theorem rowLt_neg {a b c : RowK} (h : rowLt a c = true) : rowLt a b = true ∨ rowLt b c = true := (PyProof.Rows.listOrd PyProof.Rows.itemOrd).negTrans _ _ _ h
/-- what may stand in a row: an int, a text of true code points -/
def KOk : Key → Prop
  | .inl _ => True
  | .inr s => PyData.strOk s = true
theorem lay_pair {k : Key} (h : KOk k) : (pairD k).canLay0 = true := by
  cases k with
  | inl i => simp [pairD, keyD, PyData.canLay0, PyData.canLayAll0]
  | inr s =>
    have h' : PyData.strOk s = true := h
    simp [pairD, keyD, PyData.canLay0, PyData.canLayAll0, h']
theorem lay_pairs : ∀ {r : RowK}, (∀ k ∈ r, KOk k) → PyData.canLayAll0 (r.map pairD) = true
  | [], _ => by simp [PyData.canLayAll0]
  | k :: r, h => by
    simp only [List.map_cons, PyData.canLayAll0, lay_pair (h k List.mem_cons_self), lay_pairs fun x hx => h x (List.mem_cons_of_mem _ hx), Bool.and_self]
theorem depth_pair (k : Key) : (pairD k).depth = 1 := by cases k <;> simp [pairD, keyD, PyData.depth, PyData.depthAll]
theorem depth_pairs : ∀ r : RowK, PyData.depthAll (r.map pairD) ≤ 1
  | [] => by simp [PyData.depthAll]
  | k :: r => by
    simp only [List.map_cons, PyData.depthAll, depth_pair]
    have := depth_pairs r
    omega
theorem rowD_depth (r : RowK) : (rowD r).depth ≤ 2 := by
  show PyData.depthAll (r.map pairD) + 1 ≤ 2
  have := depth_pairs r
  omega
theorem keys_rows (rs : List RowK) (h : ∀ r ∈ rs, ∀ k ∈ r, KOk k) : SK.Keys (rs.map rowD) tokD where
  lay d hd := by
    obtain ⟨r, hr, rfl⟩ := List.mem_map.mp hd
    show PyData.canLay0 (.tuple (r.map pairD)) = true
    simp only [PyData.canLay0]
    exact lay_pairs (h r hr)
  tup d hd := by
    obtain ⟨r, hr, rfl⟩ := List.mem_map.mp hd
    exact ⟨_, rfl⟩
  ok d hd d' hd' := by
    obtain ⟨r, hr, rfl⟩ := List.mem_map.mp hd
    obtain ⟨t, ht, rfl⟩ := List.mem_map.mp hd'
    show SK.okLt (.tuple (r.map pairD)) (.tuple (t.map pairD)) = true
    simp only [SK.okLt]
    exact ok_rows r t
  lt d hd d' hd' := by
    obtain ⟨r, hr, rfl⟩ := List.mem_map.mp hd
    obtain ⟨t, ht, rfl⟩ := List.mem_map.mp hd'
    rw [tokD_row, tokD_row]
    show SK.ltD (.tuple (r.map pairD)) (.tuple (t.map pairD)) = rowLt r t
    simp only [SK.ltD]
    exact lt_rows r t
  ty x r y t hx hy := by
    obtain ⟨a, ha, ea⟩ := List.mem_map.mp hx
    obtain ⟨b, hb, eb⟩ := List.mem_map.mp hy
    have first : ∀ (a : RowK) x r, rowD a = .tuple (x :: r) → ∃ ps, x = .tuple ps := fun a x r e => by
      cases a with
      | nil => cases e
      | cons k a =>
        have e' : PyData.tuple (pairD k :: a.map pairD) = .tuple (x :: r) := e
        injection e' with e'
        exact ⟨_, (List.cons.inj e').1.symm⟩
    obtain ⟨p1, rfl⟩ := first a x r ea
    obtain ⟨p2, rfl⟩ := first b y t eb
    rfl
/-! ### rows in the heap -/
/-- p is the tuple r -/
abbrev RowAt (H : Hp) (p : Addr) (r : RowK) : Prop := H p = some (.tup (r.map kV))
abbrev RowsAt (H : Hp) (L : List (Addr × RowK)) : Prop := ∀ b ∈ L, RowAt H b.1 b.2
theorem RowsAt.same {H H' : Hp} {L : List (Addr × RowK)} (h : RowsAt H L) (s : ∀ b o, H b = some o → H' b = some o) : RowsAt H' L := fun b hb => s _ _ (h b hb)
theorem snoc_ind {α : Type} {P : List α → Prop} (h0 : P []) (h1 : ∀ l a, P l → P (l ++ [a])) : ∀ l, P l := by
  intro l
  rw [← List.reverse_reverse l]
  induction l.reverse with
  | nil => exact h0
  | cons a t ih =>
    rw [List.reverse_cons]
    exact h1 _ _ ih
/-- the different rows, in the order of their first places -/
def add1 (acc : List RowK) (r : RowK) : List RowK := if (acc.any fun k => decide (k = r)) = true then acc else acc ++ [r]
def uniq (rs : List RowK) : List RowK := rs.foldl add1 []
theorem any_mem {acc : List RowK} {r : RowK} : (acc.any fun k => decide (k = r)) = true ↔ r ∈ acc := by
  rw [List.any_eq_true]
  constructor
  · rintro ⟨x, hx, e⟩
    rw [← of_decide_eq_true e]
    exact hx
  · exact fun h => ⟨r, h, decide_eq_true rfl⟩
theorem putK_uniq (ks : List RowK) (r : RowK) : (putK (ks.map fun k => (k, V.bl true)) r (.bl true)) = (add1 ks r).map fun k => (k, V.bl true) := by
  unfold putK add1
  have e : ((ks.map fun k => (k, V.bl true)).any fun kv => decide (kv.1 = r)) = (ks.any fun k => decide (k = r)) := by rw [List.any_map]; rfl
  rw [e]
  split
  · rw [List.map_map]
    exact List.map_congr_left fun k _ => by
      by_cases q : k = r
      · simp [q]
      · simp [q]
  · rw [List.map_append]
    rfl
theorem uniq_snoc (rs : List RowK) (r : RowK) : uniq (rs ++ [r]) = add1 (uniq rs) r := by
  unfold uniq
  rw [List.foldl_append]
  rfl
theorem uniq_all : ∀ rs : List RowK, (uniq rs).Nodup ∧ ∀ r, r ∈ uniq rs ↔ r ∈ rs := snoc_ind ⟨List.nodup_nil, fun r => Iff.rfl⟩ fun l a ih => by
  obtain ⟨h1, h2⟩ := ih
  rw [uniq_snoc]
  unfold add1
  by_cases h : ((uniq l).any fun k => decide (k = a)) = true
  · rw [if_pos h]
    refine ⟨h1, fun r => ?_⟩
    rw [h2, List.mem_append, List.mem_singleton]
    exact ⟨.inl, fun q => q.elim id fun e => by rw [e, ← h2]; exact any_mem.mp h⟩
  · rw [if_neg h]
    have h' : ¬ a ∈ uniq l := fun q => h (any_mem.mpr q)
    refine ⟨List.nodup_append.mpr ⟨h1, List.nodup_cons.mpr ⟨by simp, List.nodup_nil⟩, fun x hx y hy e => ?_⟩, fun r => ?_⟩
    · rw [List.mem_singleton.mp hy] at e
      exact h' (e ▸ hx)
    · rw [List.mem_append, List.mem_append, h2]
theorem uniq_len : ∀ rs : List RowK, (uniq rs).length ≤ rs.length := snoc_ind (Nat.le_refl _) fun l a ih => by
  rw [uniq_snoc, List.length_append]
  unfold add1
  split
  · exact Nat.le_succ_of_le ih
  · rw [List.length_append]
    exact Nat.add_le_add_right ih 1
/-- the rows sorted: each once, each before the next -/
structure SortedRows (L : List (Addr × RowK)) (rs : List RowK) : Prop where
  all : ∀ r, r ∈ L.map (·.2) ↔ r ∈ rs
  up : L.Pairwise fun a b => rowLt a.2 b.2 = true
  len : L.length ≤ rs.length
section
variable {P : Program} {w : World} {K : PySem.W.Frag} {mg : Str → Option Value} {base : Heap} {a : Nat → Addr} {d : Nat → FuncData}
/-! ### row_key, sorted_rows -/
def spRK : Sp := fun vs H Q _ => ∃ (p : Addr) (r : RowK), vs = [.ref p] ∧ RowAt H p r ∧ r.length ≤ 100 ∧ ∀ (K : PySem.W.Frag) (v : V) (H' : Hp), (∀ K : PySem.W.Frag, Dp K H' v (rowD r)) → Same H H' → Q v H'
theorem kb_int_str : kitB "int" "str" = some false := by decide +kernel
theorem kb_str_str : kitB "str" "str" = some true := by decide +kernel
theorem dp_pairs {K : PySem.W.Frag} {H : Hp} : ∀ {ps : List Addr} {r : RowK}, Paired (fun p k => H p = some (.tup [V.bl (isStrK k), kV k])) ps r → DpAll K H (ps.map V.ref) (r.map pairD)
  | _, _, .nil => .nil
  | _, _, .cons (b := k) h t => .cons (.tup (.of h) (.cons (.bl _) (.cons (by cases k <;> first | exact .int _ | exact .str _) .nil))) (dp_pairs t)
def spSR (K : PySem.W.Frag) : Sp := fun vs H Q _ => ∃ (l : Addr) (L : List (Addr × RowK)), vs = [.ref l] ∧ SqL K H l (L.map fun b => V.ref b.1) ∧ RowsAt H L ∧ (∀ b ∈ L, (∀ k ∈ b.2, KOk k) ∧ b.2.length ≤ 100) ∧ L.length ≤ 10000 ∧
  ∀ (q : Addr) (H' : Hp) (L' : List (Addr × RowK)), H q = none → Same H H' → H' q = some (.lst (L'.map fun b => V.ref b.1)) → RowsAt H' L' → SortedRows L' (L.map (·.2)) → Q (.ref q) H'
theorem keys_zip {H : Hp} : ∀ {us : List RowK} {bs : List Addr}, Paired (fun (p : RowK × V) b => H b = some (.tup (p.1.map kV))) (us.map fun k => (k, V.bl true)) bs → ∃ L : List (Addr × RowK), L.map (·.1) = bs ∧ L.map (·.2) = us ∧ RowsAt H L
  | [], _, .nil => ⟨[], rfl, rfl, fun b hb => by cases hb⟩
  | u :: us, _, .cons (b := b) h t => by
    obtain ⟨L, e1, e2, e3⟩ := keys_zip t
    refine ⟨(b, u) :: L, by rw [List.map_cons, e1], by rw [List.map_cons, e2], fun x hx => ?_⟩
    rcases List.mem_cons.mp hx with rfl | hx
    · exact h
    · exact e3 x hx
theorem byKey_rows (L : List (Addr × RowK)) (hn : (L.map (·.2)).Nodup) : ∃ L' : List (Addr × RowK), SK.byKey tokD (L.map fun b => V.ref b.1) (L.map fun b => rowD b.2) = L'.map (fun b => V.ref b.1) ∧ L'.Perm L ∧ L'.Pairwise fun a b => rowLt a.2 b.2 = true := by
  refine ⟨L.mergeSort fun a b => !rowLt b.2 a.2, ?_, List.mergeSort_perm _ _, ?_⟩
  · unfold SK.byKey
    rw [List.zip_map', ← List.map_mergeSort (r := fun a b : Addr × RowK => !rowLt b.2 a.2) (f := fun b : Addr × RowK => ((V.ref b.1, rowD b.2) : V × PyData)), List.map_map]
    · rfl
    · intro a _ b _
      show _ = (!(PyProof.Rows.listOrd PyProof.Rows.itemOrd).blt (tokD (rowD b.2)) (tokD (rowD a.2)))
      rw [tokD_row, tokD_row]
      rfl
  · have h1 := List.pairwise_mergeSort (le := fun a b : Addr × RowK => !rowLt b.2 a.2) (fun a b c x y => ?_) (fun a b => ?_) L
    · have h2 : ((L.mergeSort fun a b => !rowLt b.2 a.2).map (·.2)).Nodup := ((List.mergeSort_perm L _).map _).nodup_iff.mpr hn
      refine (h1.and (List.pairwise_map.mp h2)).imp fun {a b} hab => ?_
      cases h3 : rowLt a.2 b.2 with
      | true => rfl
      | false => exact absurd (rowLt_total h3 (by simpa using hab.1)) hab.2
    · simp only [Bool.not_eq_true'] at x y ⊢
      cases h3 : rowLt c.2 a.2 with
      | false => rfl
      | true => rcases rowLt_neg (b := b.2) h3 with h | h
                · rw [y] at h
                  cases h
                · rw [x] at h
                  cases h
    · cases h3 : rowLt b.2 a.2 with
      | false => rfl
      | true =>
        have h4 : rowLt a.2 b.2 = false := by
          cases h5 : rowLt a.2 b.2 with
          | false => rfl
          | true =>
            have := rowLt_trans h3 h5
            rw [rowLt_irrefl] at this
            cases this
        rw [h4]
        rfl
end
/-! ### rows as data -/
theorem item_kinds {x y : Key} (h : isStrK x ≠ isStrK y) : PyProof.Rows.itemLt (item x) (item y) = isStrK y := by
  cases x <;> cases y <;> first | exact absurd rfl h | rfl
theorem lay_key {k : Key} (h : KOk k) : (keyD k).canLay0 = true := by
  cases k with
  | inl i => simp [keyD, PyData.canLay0]
  | inr s =>
    have h' : PyData.strOk s = true := h
    simp [keyD, PyData.canLay0, h']
theorem key_shaped {k : Key} (h : KOk k) : SeqAt.shaped (keyD k) = true := by
  unfold SeqAt.shaped
  rw [lay_key h]
  cases k <;> simp [keyD, PyData.depth]
theorem dp_key {K : PySem.W.Frag} {H : Hp} (k : Key) : Dp K H (kV k) (keyD k) := by
  cases k
  · exact .int _
  · exact .str _
theorem eqv_nil (ds : List PyData) : PyData.eqv (.list ds) (.list []) = ds.isEmpty := by
  cases ds <;> simp [PyData.eqv, PyData.eqvAll]
/-- a row as data -/
def tupD (r : RowK) : PyData := .tuple (r.map keyD)
theorem eqvAll_keys : ∀ a b : RowK, PyData.eqvAll (a.map keyD) (b.map keyD) = decide (a = b)
  | [], [] => by simp [PyData.eqvAll]
  | [], _ :: _ => by simp [PyData.eqvAll]
  | _ :: _, [] => by simp [PyData.eqvAll]
  | x :: a, y :: b => by
    simp only [List.map_cons, PyData.eqvAll, eqv_key, eqvAll_keys a b]
    by_cases h1 : x = y <;> by_cases h2 : a = b <;> simp [h1, h2]
theorem eqv_tup (a b : RowK) : PyData.eqv (tupD a) (tupD b) = decide (a = b) := by
  show PyData.eqv (.tuple (a.map keyD)) (.tuple (b.map keyD)) = _
  simp only [PyData.eqv]
  exact eqvAll_keys a b
theorem dp_keys {K : PySem.W.Frag} {H : Hp} : ∀ r : RowK, DpAll K H (r.map kV) (r.map keyD)
  | [] => .nil
  | k :: r => .cons (dp_key k) (dp_keys r)
theorem dp_tup {K : PySem.W.Frag} {H : Hp} {p : Addr} {r : RowK} (h : RowAt H p r) : Dp K H (.ref p) (tupD r) := .tup (.of h) (dp_keys r)
theorem lay_keys : ∀ {r : RowK}, (∀ k ∈ r, KOk k) → PyData.canLayAll0 (r.map keyD) = true ∧ PyData.depthAll (r.map keyD) = 0
  | [], _ => by simp [PyData.canLayAll0, PyData.depthAll]
  | k :: r, h => by
    obtain ⟨h1, h2⟩ := lay_keys (r := r) fun x hx => h x (List.mem_cons_of_mem _ hx)
    simp only [List.map_cons, PyData.canLayAll0, PyData.depthAll, lay_key (h k List.mem_cons_self), h1, h2, Bool.and_self, true_and]
    cases k <;> simp [keyD, PyData.depth]
theorem tup_shaped {r : RowK} (h : ∀ k ∈ r, KOk k) : SeqAt.shaped (tupD r) = true := by
  obtain ⟨h1, h2⟩ := lay_keys h
  show ((PyData.tuple (r.map keyD)).canLay0 && decide ((PyData.tuple (r.map keyD)).depth ≤ 64)) = true
  simp only [PyData.canLay0, PyData.depth, h1, h2]
  decide
theorem lay_tups : ∀ {rs : List RowK}, (∀ r ∈ rs, ∀ k ∈ r, KOk k) → PyData.canLayAll0 (rs.map tupD) = true ∧ PyData.depthAll (rs.map tupD) ≤ 1
  | [], _ => by simp [PyData.canLayAll0, PyData.depthAll]
  | r :: rs, h => by
    obtain ⟨h1, h2⟩ := lay_tups (rs := rs) fun x hx => h x (List.mem_cons_of_mem _ hx)
    obtain ⟨h3, h4⟩ := lay_keys (h r List.mem_cons_self)
    simp only [List.map_cons, PyData.canLayAll0, PyData.depthAll, h1, Bool.and_true]
    refine ⟨?_, ?_⟩
    · show (PyData.tuple (r.map keyD)).canLay0 = true
      simp only [PyData.canLay0, h3]
    · have : (tupD r).depth = 1 := by
        show (PyData.tuple (r.map keyD)).depth = 1
        simp only [PyData.depth, h4]
      omega
theorem tups_shaped {rs : List RowK} (h : ∀ r ∈ rs, ∀ k ∈ r, KOk k) : SeqAt.shaped (.list (rs.map tupD)) = true := by
  obtain ⟨h1, h2⟩ := lay_tups h
  unfold SeqAt.shaped
  simp only [PyData.canLay0, PyData.depth, h1, Bool.true_and]
  exact decide_eq_true (by omega)
theorem dp_rows {K : PySem.W.Frag} {H : Hp} : ∀ {L : List (Addr × RowK)}, RowsAt H L → DpAll K H (L.map fun b => V.ref b.1) ((L.map (·.2)).map tupD)
  | [], _ => .nil
  | b :: L, h => .cons (dp_tup (h b List.mem_cons_self)) (dp_rows fun x hx => h x (List.mem_cons_of_mem _ hx))
theorem any_tup (rs : List RowK) (r : RowK) : ((rs.map tupD).any fun z => PyData.eqv z (tupD r)) = rs.any fun k => decide (k = r) := by
  rw [List.any_map]
  have e : ((fun z => PyData.eqv z (tupD r)) ∘ tupD) = fun k => decide (k = r) := funext fun k => eqv_tup k r
  rw [e]
theorem nd_sub {α : Type} [DecidableEq α] : ∀ {xs ys : List α}, xs.Nodup → (∀ x ∈ xs, x ∈ ys) → xs.length ≤ ys.length ∧ (ys.length ≤ xs.length → ∀ y ∈ ys, y ∈ xs)
  | [], ys, _, _ => ⟨Nat.zero_le _, fun h y hy => by
    have : ys = [] := List.length_eq_zero_iff.mp (Nat.le_zero.mp h)
    rw [this] at hy
    exact hy⟩
  | x :: xs, ys, nd, sub => by
    obtain ⟨n1, n2⟩ := List.nodup_cons.mp nd
    have hx := sub x List.mem_cons_self
    have hl := List.length_erase_of_mem hx
    have hpos : 0 < ys.length := List.length_pos_of_mem hx
    have ih := nd_sub (ys := ys.erase x) n2 fun z hz => (List.mem_erase_of_ne (fun e => n1 (by rw [← e]; exact hz))).mpr (sub z (List.mem_cons_of_mem _ hz))
    refine ⟨by rw [List.length_cons]; omega, fun h y hy => ?_⟩
    rw [List.length_cons] at h
    by_cases e : y = x
    · rw [e]
      exact List.mem_cons_self
    · exact List.mem_cons_of_mem _ (ih.2 (by omega) y ((List.mem_erase_of_ne e).mpr hy))
theorem same_mut {H H1 : Hp} {D : Addr} {o : HO} (s : Same H H1) (h : H D = none) : Same H (upd H1 D o) := fun b u e => by
  rw [upd_ne (ne_of_none e h)]
  exact s b u e
theorem sv_nd {H : Hp} {ts : List (Str × Int)} {ks : List KeyE} {ss : List SvE} {n : Nat} (h : Svcs H ts ks ss n) : ((svK ss).map (·.1)).Nodup := by
  rw [keys_sv]
  exact inr_nd h.nm.nd
theorem Tabs.up {ts : List (Str × Int)} {m : Nat} {w v : Int} (h : Tabs ts m w) (hv : w ≤ v) : Tabs ts m v := ⟨h.nm, fun p hp => ⟨(h.wd p hp).1, Int.le_trans (h.wd p hp).2 hv⟩⟩
theorem wd_b {s : Str} (h : Wd s) : wordB s = true := by
  unfold wordB
  rw [decide_eq_true (show 1 ≤ s.length ∧ s.length ≤ 8 from ⟨h.1, h.2.1⟩), Bool.true_and, List.all_eq_true]
  intro c hc
  unfold okC
  exact decide_eq_true (h.2.2 c hc)
theorem wd_thg {H : Hp} {s : Str} (h : Wd s) : Thg H (.str s) := .str s (by have := h.2.1; omega) fun c hc => by have := (h.2.2 c hc).2; omega
theorem capV_none' {cap : Option Int} (h : cap.isNone = true) : capV cap = .non := by
  cases cap with
  | none => rfl
  | some c => cases h
theorem all_bls (bs : List Bool) : (bs.all id) = bs.all fun b => b := rfl
def spIsWh : Sp := fun vs H Q _ => ∃ (v t k ga : Addr) (n : Str) (cs : List Int) (cap : Option Int) (w : Int) (ts : List (Str × Int)) (ks : List KeyE) (m : Nat), vs = [.ref v, .ref t, .ref k] ∧ Told H v n ga cs cap ∧ DctAt H t (tabK ts) ∧ DctAt H k (keyK ks) ∧ Tabs ts m 4 ∧ Keys H ts ks ∧ (n, w) ∈ ts ∧ cs.length ≤ 100 ∧
  ∀ H', Same H H' → Q (.bl (isWh w ks n cs cap)) H'
section
variable {P : Program} {w : World} {K : PySem.W.Frag} {mg : Str → Option Value} {base : Heap} {a : Nat → Addr} {d : Nat → FuncData}
theorem ok_is_wh (T : Txt K mg a d) : FnOk P w K mg base CX0 1 (a 41) (d 41) ["service", "tables", "keys"] spIsWh := by
  refine T.F41.ok sc__is_whole_service (fun vs H Q E h => ?_) (fun cdv A outer s H vs Q E hr h => ?_)
  · obtain ⟨v, t, k, ga, n, cs, cap, w, ts, ks, m, rfl, _⟩ := h
    rfl
  · obtain ⟨v, t, k, ga, n, cs, cap, w, ts, ks, m, rfl, hv, ht, hk, hT, hK, hm, hl, q⟩ := h
    have fin : ∀ b : Bool, b = isWh w ks n cs cap → ∀ H', Same H H' → Q (.bl b) H' := fun b e H' s => by
      rw [e]
      exact q H' s
    have g := ht.get (tab_nd hT) (Sum.inr n)
    rw [tab_val hT hm] at g
    have gk := fun (H' : Hp) (s : Same H H') => (hk.same s).get (key_nd hT hK) (Sum.inr n)
    rw [keyAt_val] at gk
    refine ⟨_, (pss_cons (ps_asg (pv 0) (pg_tup rfl (pgs_cons (pg_name (i := 3) sc__is_whole_service.nd rfl (.inl rfl)) (pgs_cons (pg_name (i := 4) sc__is_whole_service.nd rfl (.inr rfl)) (pgs_cons (pg_name (i := 5) sc__is_whole_service.nd rfl (.inl rfl)) pgs_nil)))))
  (pss_cons (ps_if (PW.pt (pw_or (pt_cmpR op_isN (pv 5) pe_non (nomark _)) (pw_or1 (pt_cmpR op_eq (pe_callB (id := "len")  call_len_seq (by rfl) T.z_len (by decide +kernel) (pa_cons (pv 4) pa_nil)) (pe_dget (hu_of hr) (pv 1) (pv 3) (fun _ _ => rfl)) (nomark _)))))
    (pss_one (ps_ret pe_bl))
    pss_nil)
  (pss_one (ps_ret (pe_and (pe_cmp (pc_din (hu_of hr) (pv 3) (pv 2)) rfl) (pe_one (pe_callB (id := "all")  (cr_all rfl) (by rfl) T.z_all (by decide +kernel) (pa_cons (pe_lc (own := [("column", 6)]) rfl sc__is_whole_service.nd (pi_tup (pe_dget (hu_of hr) (pv 2) (pv 3) (fun _ _ => rfl))) (blkOk_by (N := ["service", "tables", "keys", "table", "given", "cap", "column"]) (sc := defScope s__is_whole_service) (by decide +kernel)) (fun _ _ _ _ _ => pg_name (i := 6) sc__is_whole_service.nd rfl (.inl rfl)) (fun _ _ _ _ _ => pts_nil) (fun _ _ _ _ _ => (pe_cmpR (r := rIn K false) op_in_seq (pv 6) (pv 4) (by rfl)))) pa_nil)))))))), ?_⟩
    refine ⟨_, rfl, v, _, rfl, .of hv.tup, rfl, _, _, rfl, _, _, rfl, _, _, rfl, rfl, ?_⟩
    refine ⟨_, rfl, rfl, _, rfl, ?_⟩
    rw [capV_none]
    cases e1 : cap.isNone with
    | true => exact fin true (by unfold isWh; rw [e1]; rfl) H (fun _ _ e => e)
    | false =>
      refine ⟨_, rfl, _, _, rfl, .inr (.of hv.cols), _, rfl, _, rfl, t, _, rfl, g, rfl, _, rfl, ?_⟩
      rw [List.length_map]
      refine ite_eqI (fun e2 => ?_) (fun e2 => ?_)
      · exact fin true (by unfold isWh; rw [e1, decide_eq_true e2]; rfl) H (fun _ _ e => e)
      · refine ⟨_, rfl, _, rfl, k, _, rfl, gk H (Same.refl H), _, rfl, ?_⟩
        cases e3 : keyAt ks n with
        | none => exact fin false (by unfold isWh; rw [e1, decide_eq_false e2, e3]; rfl) H (fun _ _ e => e)
        | some b =>
          rw [e3] at gk
          obtain ⟨bm, bn⟩ := keyAt_mem e3
          have hb := hK.at_ b bm
          obtain ⟨w', hw', hcols', hl1, hl2⟩ := hK.ok b bm
          have hw2 := (hT.wd _ hw').2
          refine ⟨_, rfl, _, rfl, k, _, rfl, gk H (Same.refl H), b.2.1, rfl, ⟨_, .of hb⟩, fun D hD => ?_⟩
          refine lc_tup (K := K) (a := b.2.1) (xs := b.2.2.map V.int) (fun i H' => H' D = some (.lst (((b.2.2.take i).map fun c => decide (c ∈ cs)).map V.bl)) ∧ Same H H') ⟨upd_same, same_upd hD⟩ (fun i H' _ hp => .of (hp.2 _ _ hb)) (fun i x H' hx hp => ?_) (fun H' hp => ?_)
          · obtain ⟨h1, h2⟩ := hp
            obtain ⟨c, hcx, rfl⟩ := map_at hx
            have hi : i < b.2.2.length := (List.getElem?_eq_some_iff.mp hcx).1
            refine ⟨rfl, ?_⟩
            refine ⟨_, rfl, _, rfl, ga, _, rfl, .inr (.of (h2 _ _ hv.cols)), rfl, flat_ints _, _, h1, ?_, ?_, ?_⟩
            · rw [List.length_map, List.length_map, List.length_take]
              exact Nat.lt_of_le_of_lt (by omega : _ ≤ 100) (by decide)
            · rw [map_take hcx, List.map_append]
              refine Eq.trans upd_same ?_
              show some (HO.lst (_ ++ [V.bl (inV (.int c) (cs.map V.int))])) = _
              rw [inV_ints]
              rfl
            · intro x o ex
              rw [upd_ne (ne_of_none ex hD)]
              exact h2 x o ex
          · obtain ⟨h1, h2⟩ := hp
            rw [List.length_map, List.take_length] at h1
            refine ⟨D, _, rfl, .of h1, ?_⟩
            refine fin _ ?_ _ h2
            unfold isWh
            rw [e1, decide_eq_false e2, e3, List.all_map]
            rfl
end
theorem perm_map_ex {α β : Type} {f : α → β} {ys zs : List β} (h : ys.Perm zs) : ∀ xs : List α, zs = xs.map f → ∃ L : List α, L.Perm xs ∧ L.map f = ys := by
  induction h with
  | nil =>
    intro xs e
    cases xs with
    | nil => exact ⟨[], .refl _, rfl⟩
    | cons x xs => cases e
  | cons y p ih =>
    intro xs e
    cases xs with
    | nil => cases e
    | cons x xs =>
      rw [List.map_cons] at e
      injection e with e1 e2
      obtain ⟨L, h1, h2⟩ := ih xs e2
      exact ⟨x :: L, h1.cons x, by rw [List.map_cons, h2, e1]⟩
  | swap y z l =>
    intro xs e
    cases xs with
    | nil => cases e
    | cons x xs =>
      cases xs with
      | nil => cases e
      | cons x' xs =>
        rw [List.map_cons, List.map_cons] at e
        injection e with e1 e2
        injection e2 with e2 e3
        exact ⟨x' :: x :: xs, .swap _ _ _, by rw [List.map_cons, List.map_cons, e1, e2, e3]⟩
  | trans p q ih1 ih2 =>
    intro xs e
    obtain ⟨L, h1, h2⟩ := ih2 xs e
    obtain ⟨M, h3, h4⟩ := ih1 L h2.symm
    exact ⟨M, h3.trans h1, h4⟩
/-- what sorted(d) is asked and gives -/
theorem DctAt.names {α : Type} {H : Hp} {t : Addr} {xs : List α} {g : α → Key × V} {f : α → Str} (h : DctAt H t (xs.map g)) (hg : ∀ x, (g x).1 = Sum.inr (f x)) (hl : xs.length < 64) :
    ∃ ks zs, H t = some (.dK ks) ∧ ks.length = xs.length ∧ ks.map (·.1) = zs.map Sum.inr ∧ zs.length < 64 ∧ zs.Perm (xs.map f) ∧ ∀ ys : List Str, ys.Perm zs → ∃ L : List α, L.Perm xs ∧ L.map f = ys := by
  obtain ⟨ks, e, p⟩ := h
  obtain ⟨L, h1, h2⟩ := perm_map_ex p xs rfl
  refine ⟨ks, L.map f, e, ?_, ?_, ?_, h1.map f, fun ys hy => ?_⟩
  · rw [← h2, List.length_map, h1.length_eq]
  · rw [← h2, List.map_map, List.map_map]
    exact List.map_congr_left fun x _ => hg x
  · rw [List.length_map, h1.length_eq]
    exact hl
  · obtain ⟨M, h3, h4⟩ := perm_map_ex hy L rfl
    exact ⟨M, h3.trans h1, h4⟩
theorem key_val {H : Hp} {ts : List (Str × Int)} {ks : List KeyE} {m : Nat} {wm : Int} (hT : Tabs ts m wm) (h : Keys H ts ks) {b : KeyE} (hb : b ∈ ks) : valV (keyK ks) (Sum.inr b.1) = some (.ref b.2.1) :=
  val_nodup (kvs := keyK ks) (key_nd hT h) (Sum.inr b.1, V.ref b.2.1) (List.mem_map.mpr ⟨b, hb, rfl⟩)
theorem sv_val {H : Hp} {ts : List (Str × Int)} {ks : List KeyE} {ss : List SvE} {n : Nat} (h : Svcs H ts ks ss n) {b : SvE} (hb : b ∈ ss) : valV (svK ss) (Sum.inr b.name) = some (.ref b.at_) :=
  val_nodup (kvs := svK ss) (sv_nd h) (Sum.inr b.name, V.ref b.at_) (List.mem_map.mpr ⟨b, hb, rfl⟩)
theorem fillE_perm {ts : List (Str × Int)} {ks : List KeyE} {a b : List SvE} (p : a.Perm b) : (fillE ts ks a).Perm (fillE ts ks b) := (p.filter _).map _
theorem fillE_take {ts : List (Str × Int)} {ks : List KeyE} (L : List SvE) (i : Nat) : (fillE ts ks (L.take i)).Sublist (fillE ts ks L) := ((List.take_sublist i L).filter _).map _
theorem rising_pw : ∀ (l : List Str) (p : Str), PyProof.Rows.risingS p l = true → (p :: l).Pairwise fun a b => a.cps.toList ≤ b.cps.toList
  | [], p, _ => List.pairwise_singleton _ _
  | x :: r, p, h => by
    have h' : (!PySem.Spec.ltCps x.cps.toList p.cps.toList && PyProof.Rows.risingS x r) = true := h
    rw [Bool.and_eq_true] at h'
    obtain ⟨h1, h2⟩ := h'
    have ih := rising_pw r x h2
    have hpx : p.cps.toList ≤ x.cps.toList := by
      rw [PyProof.Rows.ltCps_eq] at h1
      have h3 : ¬ x.cps.toList < p.cps.toList := by simpa using h1
      exact h3
    refine List.pairwise_cons.mpr ⟨fun y hy => ?_, ih⟩
    rcases List.mem_cons.mp hy with rfl | hy
    · exact hpx
    · exact List.le_trans hpx ((List.pairwise_cons.mp ih).1 y hy)
theorem sorted_pw {l : List Str} (h : PyProof.Rows.sortedS l = true) : l.Pairwise fun a b => a.cps.toList ≤ b.cps.toList := by
  cases l with
  | nil => exact .nil
  | cons x r => exact rising_pw r x h
theorem sorted_uniq {a b : List Str} (p : a.Perm b) (ha : PyProof.Rows.sortedS a = true) (hb : PyProof.Rows.sortedS b = true) : a = b := by
  refine List.Perm.eq_of_pairwise (le := fun a b : Str => a.cps.toList ≤ b.cps.toList) (fun x y _ _ h1 h2 => ?_) (sorted_pw ha) (sorted_pw hb) p
  have e := List.le_antisymm h1 h2
  cases x
  cases y
  congr
  exact Array.toList_inj.mp e
theorem dc_list {K : PySem.W.Frag} {a : Addr} {xs : List V} {g : TG} {tt : TT} {tk tv : TE} {vs : List Nat} {σ : L2.St} {H1 : Hp} {D : Addr} {Qd : Hp → Prop} (Pv : Nat → Hp → Prop) (h0 : Pv 0 (upd H1 D (.dK []))) (hl : ∀ i H, i ≤ xs.length → Pv i H → SqL K H a xs)
    (hs : ∀ i x H, xs[i]? = some x → Pv i H → g x (wipe σ vs) H fun σ2 H2 => wipe σ2 vs = wipe σ vs ∧ tt σ2 H2 fun b H3 =>
      if b = true then tk σ2 H3 fun y H4 => tv σ2 H4 fun z H5 => ∃ kvs k, y = kV k ∧ H5 D = some (.dK kvs) ∧ kvs.length < sizeLine ∧ Pv (i + 1) (upd H5 D (.dK (putK kvs k z))) else Pv (i + 1) H3) (hd : ∀ H, Pv xs.length H → Qd H) :
    ∃ W : Nat → Nat → Hp → Prop, (∃ m, W 0 m (upd H1 D (.dK []))) ∧ ∀ i m H, W i m H →
      ((Itl K a).stop i H ∧ Qd H) ∨ ((Itl K a).go i H ∧ ∃ Nx : Hp → Prop, (∀ H', Nx H' → ∃ m', m' < m ∧ W (i + 1) m' H') ∧ ∀ x H', (Itl K a).yld i H x H' → g x (wipe σ vs) H' fun σ2 H2 => wipe σ2 vs = wipe σ vs ∧ tt σ2 H2 fun b H3 =>
        if b = true then tk σ2 H3 fun y H4 => tv σ2 H4 fun z H5 => ∃ kvs k, y = kV k ∧ H5 D = some (.dK kvs) ∧ kvs.length < sizeLine ∧ Nx (upd H5 D (.dK (putK kvs k z))) else Nx H3) := by
  refine ⟨fun i m H => m = xs.length - i ∧ i ≤ xs.length ∧ Pv i H, ⟨xs.length, by simp, Nat.zero_le _, h0⟩, ?_⟩
  rintro i m H ⟨rfl, hi, p⟩
  have q := hl i H hi p
  rcases Nat.lt_or_ge i xs.length with lt | ge
  · refine .inr ⟨⟨xs, xs[i], q, by simp [lt]⟩, Pv (i + 1), fun H' p' => ⟨xs.length - (i + 1), by omega, rfl, lt, p'⟩, fun x H' y => ?_⟩
    obtain ⟨e, y⟩ := y
    subst e
    exact hs i x _ (y xs q) p
  · obtain rfl : i = xs.length := by omega
    exact .inl ⟨⟨xs, q, Nat.le_refl _⟩, hd H p⟩
def spCopied : Sp := fun vs H Q _ => ∃ (t : Addr) (kvs : List (Key × V)) (names : List Str), vs = [.ref t] ∧ DctAt H t kvs ∧ kvs.map (·.1) = names.map Sum.inr ∧ names.Nodup ∧ names.length < 64 ∧ ∀ D H', H D = none → DctAt H' D kvs → Same H H' → Q (.ref D) H'
section
variable {P : Program} {w : World} {K : PySem.W.Frag} {mg : Str → Option Value} {base : Heap} {a : Nat → Addr} {d : Nat → FuncData}
theorem ok_copied (T : Txt K mg a d) : FnOk P w K mg base CX0 1 (a 46) (d 46) ["things"] spCopied := by
  refine T.F46.ok sc__copied (fun vs H Q E h => ?_) (fun cdv A outer s H vs Q E hr h => ?_)
  · obtain ⟨t, kvs, names, rfl, _⟩ := h
    rfl
  · obtain ⟨t, kvs, names, rfl, ht, hk, hnd, h64, q⟩ := h
    have nd : (kvs.map (·.1)).Nodup := by
      rw [hk]
      exact inr_nd hnd
    obtain ⟨kd, e, pk⟩ := id ht
    have pk' := pk.map (·.1)
    rw [hk] at pk'
    obtain ⟨zs, z1, z2⟩ := perm_map_ex pk' names rfl
    refine ⟨_, (pss_one (ps_ret (pe_dc (own := [("name", 1)]) rfl sc__copied.nd (pi_list (pe_callB (id := "sorted")  (call_sortedD rfl) (by rfl) T.z_sorted (by decide +kernel) (pa_cons (pv 0) pa_nil))) (blkOk_by (N := ["things", "name"]) (sc := defScope s__copied) (by decide +kernel)) (fun _ _ _ _ _ => pg_name (i := 1) sc__copied.nd rfl (.inl rfl)) (fun _ _ _ _ _ => pts_nil) (fun _ _ _ _ _ => (pv 1)) (fun _ _ _ _ _ => (pe_dget (hu_of hr) (pv 0) (pv 1) (fun _ _ => rfl)))))), ?_⟩
    refine ⟨_, rfl, t, kd, zs, rfl, .inl e, z2.symm, by rw [z1.length_eq]; exact h64, fun ys p yp _ hp => ⟨p, rfl, ?_⟩⟩
    have s0 := same_upd (o := .lst (ys.map V.str)) hp
    have yn : ys.Perm names := yp.trans z1
    have ynd : ys.Nodup := yn.nodup_iff.mpr hnd
    have yl : ys.length < 64 := by rw [yn.length_eq]; exact h64
    refine ⟨⟨_, .of upd_same⟩, fun D hD => ?_⟩
    have hD0 : H D = none := s0.free hD
    have npD : p ≠ D := ne_of_none upd_same hD
    have pairs : ∀ zs : List Str, zs.Perm names → (zs.map fun n => ((Sum.inr n : Key), (valV kvs (Sum.inr n)).getD .non)).Perm kvs := fun zs hz => by
      refine (hz.map _).trans (List.Perm.of_eq ?_)
      have e1 : (names.map fun n => ((Sum.inr n : Key), (valV kvs (Sum.inr n)).getD .non)) = (kvs.map (·.1)).map fun k => (k, (valV kvs k).getD .non) := by
        rw [hk, List.map_map]
        rfl
      rw [e1, List.map_map]
      refine Eq.trans (List.map_congr_left (g := id) fun x hx => ?_) (List.map_id _)
      show (x.1, (valV kvs x.1).getD .non) = x
      rw [val_nodup nd x hx]
      rfl
    refine dc_list (K := K) (a := p) (xs := ys.map V.str) (fun i H' => H' D = some (.dK ((ys.take i).map fun n => ((Sum.inr n : Key), (valV kvs (Sum.inr n)).getD .non))) ∧ Same (upd H p (.lst (ys.map V.str))) H') ⟨upd_same, same_upd hD⟩ (fun i H' _ hp => .of (hp.2 _ _ upd_same)) (fun i x H' hx hp => ?_) (fun H' hp => ?_)
    · obtain ⟨h1, h2⟩ := hp
      obtain ⟨n, hn, rfl⟩ := map_at hx
      have hmem : n ∈ names := yn.mem_iff.mp (List.mem_of_getElem? hn)
      have hv : ∃ v, valV kvs (Sum.inr n) = some v := by
        have : (Sum.inr n : Key) ∈ kvs.map (·.1) := by
          rw [hk]
          exact List.mem_map.mpr ⟨n, hmem, rfl⟩
        obtain ⟨x, hx, e⟩ := List.mem_map.mp this
        exact ⟨x.2, by rw [← e]; exact val_nodup nd x hx⟩
      obtain ⟨v, hv⟩ := hv
      refine ⟨rfl, _, rfl, _, rfl, _, rfl, t, v, rfl, (ht.same (s0.trans h2)).at_ nd hv, _, Sum.inr n, rfl, h1, ?_, ?_, ?_⟩
      · rw [List.length_map, List.length_take]
        exact small1000 (by omega)
      · rw [map_take hn, hv]
        refine Eq.trans upd_same (congrArg (fun x => some (HO.dK x)) ?_)
        rw [putK_new _ (valV_no ?_)]
        · rfl
        · rw [List.map_map]
          exact inr_no (nd_take ynd hn)
      · intro x o ex
        rw [upd_ne (ne_of_none ex hD)]
        exact h2 x o ex
    · obtain ⟨h1, h2⟩ := hp
      rw [List.length_map, List.take_length] at h1
      exact q D H' hD0 ⟨_, h1, pairs ys yn⟩ (s0.trans h2)
end
def fldsS (d1 d2 d3 : Addr) : List (Str × V) := putF "_services" (.ref d3) (putF "_keys" (.ref d2) (putF "_tables" (.ref d1) []))
theorem flds_t (d1 d2 d3 : Addr) : (fldsS d1 d2 d3).lookup ("_tables" : Str) = some (V.ref d1) := by
  unfold fldsS
  rw [lookup_putF, if_neg (by decide +kernel), lookup_putF, if_neg (by decide +kernel), lookup_putF, if_pos rfl]
theorem flds_k (d1 d2 d3 : Addr) : (fldsS d1 d2 d3).lookup ("_keys" : Str) = some (V.ref d2) := by
  unfold fldsS
  rw [lookup_putF, if_neg (by decide +kernel), lookup_putF, if_pos rfl]
theorem flds_s (d1 d2 d3 : Addr) : (fldsS d1 d2 d3).lookup ("_services" : Str) = some (V.ref d3) := by
  unfold fldsS
  rw [lookup_putF, if_pos rfl]
theorem flds_no (d1 d2 d3 : Addr) {m : Str} (h1 : ¬ m = "_services") (h2 : ¬ m = "_keys") (h3 : ¬ m = "_tables") : (fldsS d1 d2 d3).lookup m = none := by
  unfold fldsS
  rw [lookup_putF, if_neg h1, lookup_putF, if_neg h2, lookup_putF, if_neg h3]
  rfl
theorem DctAt.but {H H' : Hp} {t p : Addr} {kvs : List (Key × V)} {C dx : Addr} {fs : List (Str × V)} (h : DctAt H t kvs) (hp : H p = some (.ins C dx fs)) (s : ∀ b o, b ≠ p → H b = some o → H' b = some o) : DctAt H' t kvs := by
  obtain ⟨ks, e, q⟩ := h
  exact ⟨ks, s _ _ (ne_of e hp (by intro z; cases z)) e, q⟩
/-! ### dicts with the same pairs in any order -/
section
variable {P : Program} {w : World} {K : PySem.W.Frag} {mg : Str → Option Value} {base : Heap} {a : Nat → Addr} {d : Nat → FuncData}
/-! ### the small ones -/
def spCount : Sp := fun vs H Q _ => ∃ (i m : Int), vs = [.int i, .int m] ∧ ∀ H', Same H H' → Q (.bl (decide (1 ≤ i ∧ i ≤ m))) H'
theorem ok_count (T : Txt K mg a d) : FnOk P w K mg base CX0 2 (a 36) (d 36) ["thing", "most"] spCount := by
  have G9 : FnOk P w K mg base CX0 1 (a 9) (d 9) ["thing"] (spB plainV) := ok_plain T
  refine T.F36.ok sc__is_count (fun vs H Q E h => ?_) (fun cdv A outer s H vs Q E hr h => ?_)
  · obtain ⟨i, m, rfl, _⟩ := h
    rfl
  · obtain ⟨i, m, rfl, q⟩ := h
    refine ⟨_, (pss_one (ps_ret (pe_and (pe_call G9 (hr.mono (by decide)) (by rfl) T.g9 T.F9.kp T.b9 .nil pass0 (pa_cons (pv 0) pa_nil)) (pe_one (pe_chain op_le op_le pe_int (pv 0) (pv 1)))))), ?_⟩
    refine ⟨_, rfl, _, rfl, .int i, fun H1 s1 => ⟨_, rfl, ?_⟩⟩
    refine ⟨_, rfl, _, _, rfl, rfl, _, rfl, ite_d (fun h1 => ?_) (fun h1 => ?_)⟩
    · refine ⟨_, rfl, _, _, rfl, rfl, ?_⟩
      have := q H1 s1
      show Q (.bl (decide (i ≤ m))) H1
      by_cases h2 : i ≤ m
      · rw [decide_eq_true (show 1 ≤ i ∧ i ≤ m from ⟨h1, h2⟩)] at this
        rw [decide_eq_true h2]
        exact this
      · rw [decide_eq_false (fun z : 1 ≤ i ∧ i ≤ m => h2 z.2)] at this
        rw [decide_eq_false h2]
        exact this
    · have := q H1 s1
      rw [decide_eq_false (fun z : 1 ≤ i ∧ i ≤ m => h1 z.1)] at this
      exact this
def spNameIn : Sp := fun vs H Q _ => ∃ (n : Str) (t : Addr) (kvs : List (Key × V)), vs = [.str n, .ref t] ∧ DctAt H t kvs ∧ (kvs.map (·.1)).Nodup ∧ Q (.bl (valV kvs (Sum.inr n)).isSome) H
theorem ok_name_in (T : Txt K mg a d) : FnOk P w K mg base CX0 1 (a 37) (d 37) ["thing", "names"] spNameIn := by
  refine T.F37.ok sc__is_name_in (fun vs H Q E h => ?_) (fun cdv A outer s H vs Q E hr h => ?_)
  · obtain ⟨n, t, kvs, rfl, _⟩ := h
    rfl
  · obtain ⟨n, t, kvs, rfl, ht, nd, q⟩ := h
    refine ⟨_, (pss_one (ps_ret (pe_and (pe_callB (id := "isinstance")  call_isi (by rfl) T.z_isinstance (by decide +kernel) (pa_cons (pv 0) (pa_cons (pe_bltn (v := .ty "str") (by rfl) T.z_str (by decide +kernel) rfl) pa_nil))) (pe_one (pe_cmp (pc_din (hu_of hr) (pv 0) (pv 1)) rfl))))), ?_⟩
    refine ⟨_, rfl, _, _, _, _, _, rfl, .ty _, .base (.str n), kit_ty (show kitB "str" "str" = some true by decide +kernel), _, rfl, ?_⟩
    exact ⟨_, rfl, _, rfl, t, _, rfl, ht.get nd (Sum.inr n), q⟩
def spAreCols : Sp := fun vs H Q _ => ∃ (c : Addr) (cs : List Int) (w : Int), vs = [.ref c, .int w] ∧ H c = some (.tup (cs.map V.int)) ∧ Cols cs w ∧ cs.length ≤ 100 ∧ ∀ H', Same H H' → Q (.bl true) H'
theorem ok_are_columns (T : Txt K mg a d) : FnOk P w K mg base CX0 2 (a 38) (d 38) ["thing", "width"] spAreCols := by
  have G9 : FnOk P w K mg base CX0 1 (a 9) (d 9) ["thing"] (spB plainV) := ok_plain T
  refine T.F38.ok sc__are_columns (fun vs H Q E h => ?_) (fun cdv A outer s H vs Q E hr h => ?_)
  · obtain ⟨c, cs, w, rfl, _⟩ := h
    rfl
  · obtain ⟨c, cs, w, rfl, hc, hcs, hl, q⟩ := h
    refine ⟨_, (pss_cons (ps_if (pt_not (pt_val (pe_callB (id := "isinstance")  call_isi (by rfl) T.z_isinstance (by decide +kernel) (pa_cons (pv 0) (pa_cons (pe_bltn (v := .ty "tuple") (by rfl) T.z_tuple (by decide +kernel) rfl) pa_nil)))))
    (pss_one (ps_ret pe_bl))
    pss_nil)
  (pss_cons (ps_set (i := 2) sc__are_columns.nd rfl (.inl rfl) pe_int)
  (pss_cons (ps_for PassesOwn.never rfl (pi_tup (pv 0)) (pg_name (i := 3) sc__are_columns.nd rfl (.inl rfl))
    (pss_cons (ps_if (PW.pt (pw_or (pt_not (pt_val (pe_call G9 (hr.mono (by decide)) (by rfl) T.g9 T.F9.kp T.b9 .nil pass0 (pa_cons (pv 3) pa_nil)))) (pw_or1 (pt_not (pt_chain op_le op_lt (pv 2) (pv 3) (pv 1))))))
        (pss_one (ps_ret pe_bl))
        pss_nil)
      (pss_one (ps_set (i := 2) sc__are_columns.nd rfl (.inl rfl) (pe_op op_add (pv 3) pe_int)))))
  (pss_one (ps_ret pe_bl))))), ?_⟩
    refine ⟨_, rfl, _, _, _, _, _, rfl, .ty _, .base (.tup hc), kit_ty (show kitB "tuple" "tuple" = some true by decide +kernel), _, rfl, ?_⟩
    refine ⟨_, rfl, c, rfl, ⟨_, .of hc⟩, for_tup (K := K) (a := c) (xs := cs.map V.int) (fun i σ H' => ∃ (l : Int) (y3 : Option V), σ = [some (.ref c), some (.int w), some (.int l), y3] ∧ Same H H' ∧ (∀ j x, i ≤ j → cs[j]? = some x → l ≤ x)) ⟨0, none, rfl, Same.refl H, fun j x _ e => (hcs.2 x (List.mem_of_getElem? e)).1⟩ (fun i σ H' _ hp => ?_) (fun i y σ H' hy hp => ?_) (fun σ H' hp => ?_)⟩
    · obtain ⟨l, y3, rfl, s1, _⟩ := hp
      exact .of (s1 _ _ hc)
    · obtain ⟨l, y3, rfl, s1, hlow⟩ := hp
      obtain ⟨x, hx, rfl⟩ := map_at hy
      have hb := hcs.2 x (List.mem_of_getElem? hx)
      have h1 := hlow i x (Nat.le_refl _) hx
      refine ⟨_, rfl, _, rfl, .int x, fun H1 s2 => ⟨_, rfl, ?_⟩⟩
      refine ⟨_, rfl, _, rfl, _, _, rfl, rfl, _, rfl, ite_d (fun _ => ?_) (fun z => absurd h1 z)⟩
      refine ⟨_, rfl, _, _, rfl, rfl, _, rfl, ?_⟩
      rw [decide_eq_true hb.2]
      refine ⟨_, rfl, _, _, rfl, rfl, _, _, rfl, s1.trans s2, fun j z hj e => ?_⟩
      have hij : i < j := hj
      obtain ⟨hi', ei⟩ := List.getElem?_eq_some_iff.mp hx
      obtain ⟨hj', ej⟩ := List.getElem?_eq_some_iff.mp e
      have := List.pairwise_iff_getElem.mp hcs.1 i j hi' hj' hij
      rw [ei, ej] at this
      omega
    · obtain ⟨l, y3, rfl, s1, _⟩ := hp
      exact q H' s1
/-! ### keys and services that are right -/
def spIsKey : Sp := fun vs H Q _ => ∃ (c : Addr) (cs : List Int) (w : Int), vs = [.ref c, .int w] ∧ H c = some (.tup (cs.map V.int)) ∧ Cols cs w ∧ cs.length ≤ 100 ∧ 1 ≤ cs.length ∧ (cs.length : Int) < w ∧ ∀ H', Same H H' → Q (.bl true) H'
theorem ok_is_key (T : Txt K mg a d) : FnOk P w K mg base CX0 3 (a 39) (d 39) ["thing", "width"] spIsKey := by
  have G38 : FnOk P w K mg base CX0 2 (a 38) (d 38) ["thing", "width"] spAreCols := ok_are_columns T
  refine T.F39.ok sc__is_key (fun vs H Q E h => ?_) (fun cdv A outer s H vs Q E hr h => ?_)
  · obtain ⟨c, cs, w, rfl, _⟩ := h
    rfl
  · obtain ⟨c, cs, w, rfl, hc, hcs, hl, h1, h2, q⟩ := h
    refine ⟨_, (pss_one (ps_ret (pe_and (pe_call G38 (hr.mono (by decide)) (by rfl) T.g38 T.F38.kp T.b38 .nil pass0 (pa_cons (pv 0) (pa_cons (pv 1) pa_nil))) (pe_one (pe_chain op_lt op_lt pe_int (pe_callB (id := "len")  call_len_seq (by rfl) T.z_len (by decide +kernel) (pa_cons (pv 0) pa_nil)) (pv 1)))))), ?_⟩
    refine ⟨_, rfl, _, rfl, c, cs, w, rfl, hc, hcs, hl, fun H1 s1 => ⟨_, rfl, ?_⟩⟩
    have lc : ((cs.map V.int).length : Int) = cs.length := by rw [List.length_map]
    refine ⟨_, rfl, _, _, rfl, .inr (.of (s1 _ _ hc)), _, _, rfl, rfl, _, rfl, ite_d (fun _ => ?_) (fun z => absurd (by omega) z)⟩
    refine ⟨_, rfl, _, _, rfl, rfl, ?_⟩
    show Q (.bl (decide (((cs.map V.int).length : Int) < w))) H1
    rw [lc, decide_eq_true h2]
    exact q H1 s1
def spIsSvc : Sp := fun vs H Q _ => ∃ (v t ga : Addr) (n : Str) (cs : List Int) (cap : Option Int) (w : Int) (ts : List (Str × Int)) (m : Nat), vs = [.ref v, .ref t] ∧ Told H v n ga cs cap ∧ DctAt H t (tabK ts) ∧ Tabs ts m 4 ∧ (n, w) ∈ ts ∧ Cols cs w ∧ cs.length ≤ 4 ∧ (∀ z, cap = some z → 1 ≤ z ∧ z ≤ 4) ∧ ∀ H', Same H H' → Q (.bl true) H'
theorem ok_is_service (T : Txt K mg a d) : FnOk P w K mg base CX0 3 (a 40) (d 40) ["thing", "tables"] spIsSvc := by
  have G38 : FnOk P w K mg base CX0 2 (a 38) (d 38) ["thing", "width"] spAreCols := ok_are_columns T
  have G37 : FnOk P w K mg base CX0 1 (a 37) (d 37) ["thing", "names"] spNameIn := ok_name_in T
  have G36 : FnOk P w K mg base CX0 2 (a 36) (d 36) ["thing", "most"] spCount := ok_count T
  refine T.F40.ok sc__is_service (fun vs H Q E h => ?_) (fun cdv A outer s H vs Q E hr h => ?_)
  · obtain ⟨v, t, ga, n, cs, cap, w, ts, m, rfl, _⟩ := h
    rfl
  · obtain ⟨v, t, ga, n, cs, cap, w, ts, m, rfl, hv, ht, hT, hm, hcs, hl, hcap, q⟩ := h
    obtain ⟨t9, h_MOST_CAP⟩ := T.c_MOST_CAP
    have tv := tab_val hT hm
    have g := fun (H' : Hp) (s : Same H H') => (ht.same s).get (tab_nd hT) (Sum.inr n)
    rw [tv] at g
    refine ⟨_, (pss_cons (ps_if (PW.pt (pw_or (pt_not (pt_val (pe_callB (id := "isinstance")  call_isi (by rfl) T.z_isinstance (by decide +kernel) (pa_cons (pv 0) (pa_cons (pe_bltn (v := .ty "tuple") (by rfl) T.z_tuple (by decide +kernel) rfl) pa_nil))))) (pw_or1 (pt_cmpR op_ne (pe_callB (id := "len")  call_len_seq (by rfl) T.z_len (by decide +kernel) (pa_cons (pv 0) pa_nil)) pe_int (nomark _)))))
    (pss_one (ps_ret pe_bl))
    pss_nil)
  (pss_cons (ps_asg (pv 0) (pg_tup rfl (pgs_cons (pg_name (i := 2) sc__is_service.nd rfl (.inl rfl)) (pgs_cons (pg_name (i := 3) sc__is_service.nd rfl (.inl rfl)) (pgs_cons (pg_name (i := 4) sc__is_service.nd rfl (.inl rfl)) pgs_nil)))))
  (pss_cons (ps_if (PW.pt (pw_or (pt_not (pt_val (pe_call G37 (hr.mono (by decide)) (by rfl) T.g37 T.F37.kp T.b37 .nil pass0 (pa_cons (pv 2) (pa_cons (pv 1) pa_nil))))) (pw_or1 (pt_not (pt_val (pe_call G38 (hr.mono (by decide)) (by rfl) T.g38 T.F38.kp T.b38 .nil pass0 (pa_cons (pv 3) (pa_cons (pe_dget (hu_of hr) (pv 1) (pv 2) (fun _ _ => rfl)) pa_nil))))))))
    (pss_one (ps_ret pe_bl))
    pss_nil)
  (pss_one (ps_ret (pe_or (pe_cmpR op_isN (pv 4) pe_non (nomark _)) (pe_one (pe_call G36 (hr.mono (by decide)) (by rfl) T.g36 T.F36.kp T.b36 .nil pass0 (pa_cons (pv 4) (pa_cons (pe_glob (v := .int (4)) rfl h_MOST_CAP ⟨_, rfl⟩) pa_nil)))))))))), ?_⟩
    refine ⟨_, rfl, _, _, _, _, _, rfl, .ty _, .base (.tup hv.tup), kit_ty (show kitB "tuple" "tuple" = some true by decide +kernel), _, rfl, ?_⟩
    refine ⟨_, rfl, _, _, rfl, .inr (.of hv.tup), rfl, _, rfl, ?_⟩
    refine ⟨_, rfl, v, _, rfl, .of hv.tup, rfl, _, _, rfl, _, _, rfl, _, _, rfl, rfl, ?_⟩
    refine ⟨_, rfl, _, rfl, n, t, tabK ts, rfl, ht, tab_nd hT, ?_⟩
    rw [tv]
    refine ⟨_, rfl, _, rfl, _, rfl, _, rfl, t, _, rfl, g H (Same.refl H), ga, cs, w, rfl, hv.cols, hcs, by omega, fun H1 s1 => ⟨_, rfl, ?_⟩⟩
    refine ⟨_, rfl, rfl, _, rfl, ?_⟩
    rw [capV_none]
    cases e : cap.isNone with
    | true => exact q H1 s1
    | false =>
      cases cap with
      | none => cases e
      | some z =>
        have hz := hcap z rfl
        refine ⟨_, rfl, z, 4, rfl, fun H2 s2 => ?_⟩
        rw [decide_eq_true hz]
        exact q H2 (s1.trans s2)
end
/-! ### a dict whose names are sorted -/
section
variable {P : Program} {w : World} {K : PySem.W.Frag} {mg : Str → Option Value} {base : Heap} {a : Nat → Addr} {d : Nat → FuncData}
def spChkT : Sp := fun vs H Q _ => ∃ (t : Addr) (ts : List (Str × Int)) (m : Nat), vs = [.ref t] ∧ DctAt H t (tabK ts) ∧ Tabs ts m 4 ∧ 1 ≤ m ∧ m ≤ 5 ∧ ∀ H', Same H H' → Q .non H'
theorem ok_check_tables (T : Txt K mg a d) : FnOk P w K mg base CX0 3 (a 42) (d 42) ["tables"] spChkT := by
  have G10 : FnOk P w K mg base CX0 1 (a 10) (d 10) ["thing"] (spB wordV) := ok_is_word T
  have G36 : FnOk P w K mg base CX0 2 (a 36) (d 36) ["thing", "most"] spCount := ok_count T
  refine T.F42.ok sc__check_tables (fun vs H Q E h => ?_) (fun cdv A outer s H vs Q E hr h => ?_)
  · obtain ⟨t, ts, m, rfl, _⟩ := h
    rfl
  · obtain ⟨t, ts, m, rfl, ht, hT, hm1, hm2, q⟩ := h
    obtain ⟨t8, h_MOST_TABLES⟩ := T.c_MOST_TABLES
    obtain ⟨t9, h_MOST_WIDTH_schemas⟩ := T.c_MOST_WIDTH_schemas
    have hlen := hT.len
    obtain ⟨ks, zs, e, kl, ek, z64, _, hL⟩ := DctAt.names (f := (·.1)) ht (fun _ => rfl) (by omega)
    refine ⟨_, (pss_cons (ps_if (pt_not (pt_chain op_le op_le pe_int (pe_callB (id := "len")  call_lenD (by rfl) T.z_len (by decide +kernel) (pa_cons (pv 0) pa_nil)) (pe_glob (v := .int (5)) rfl h_MOST_TABLES ⟨_, rfl⟩)))
    (pss_one ps_never)
    pss_nil)
  (pss_one (ps_for PassesOwn.never rfl (pi_list (pe_callB (id := "sorted")  (call_sortedD rfl) (by rfl) T.z_sorted (by decide +kernel) (pa_cons (pv 0) pa_nil))) (pg_name (i := 1) sc__check_tables.nd rfl (.inl rfl))
    (pss_one (ps_if (PW.pt (pw_or (pt_not (pt_val (pe_call G10 (hr.mono (by decide)) (by rfl) T.g10 T.F10.kp T.b10 .nil pass0 (pa_cons (pv 1) pa_nil)))) (pw_or1 (pt_not (pt_val (pe_call G36 (hr.mono (by decide)) (by rfl) T.g36 T.F36.kp T.b36 .nil pass0 (pa_cons (pe_dget (hu_of hr) (pv 0) (pv 1) (fun _ _ => rfl)) (pa_cons (pe_glob (v := .int (4)) rfl h_MOST_WIDTH_schemas ⟨_, rfl⟩) pa_nil))))))))
        (pss_one ps_never)
        pss_nil))))), ?_⟩
    refine ⟨_, rfl, t, ks, rfl, e, _, _, rfl, rfl, _, rfl, ite_d (fun _ => ?_) (fun z => absurd (by omega) z)⟩
    refine ⟨_, _, rfl, rfl, _, rfl, ?_⟩
    show if (!decide ((ks.length : Int) ≤ 5)) = true then _ else _
    rw [decide_eq_true (by omega)]
    refine ⟨_, rfl, t, ks, zs, rfl, .inl e, ek, z64, fun ys p yp _ hp => ⟨p, rfl, ?_⟩⟩
    obtain ⟨L, hLp, rfl⟩ := hL ys yp
    have s0 := same_upd (o := .lst ((L.map (·.1)).map V.str)) hp
    refine ⟨⟨_, .of upd_same⟩, for_list (K := K) (a := p) (xs := (L.map (·.1)).map V.str) (fun i σ H' => ∃ y1 : Option V, σ = [some (.ref t), y1] ∧ Same (upd H p (.lst ((L.map (·.1)).map V.str))) H') ⟨none, rfl, Same.refl _⟩ (fun i σ H' _ hp => ?_) (fun i y σ H' hy hp => ?_) (fun σ H' hp => ?_)⟩
    · obtain ⟨y1, rfl, s1⟩ := hp
      exact .of (s1 _ _ upd_same)
    · obtain ⟨y1, rfl, s1⟩ := hp
      obtain ⟨n, hn, rfl⟩ := map_at hy
      obtain ⟨b, hb, rfl⟩ := map_at hn
      have hm : (b.1, b.2) ∈ ts := hLp.mem_iff.mp (List.mem_of_getElem? hb)
      have hw := hT.wd _ hm
      have hwd := hT.nm.wd b.1 (List.mem_map.mpr ⟨_, hm, rfl⟩)
      refine ⟨_, rfl, .str b.1, rfl, wd_thg hwd, fun H1 s2 => ⟨_, rfl, ?_⟩⟩
      show if (!wordB b.1) = true then _ else _
      rw [wd_b hwd]
      refine ⟨_, rfl, _, rfl, t, _, rfl, (ht.same ((s0.trans s1).trans s2)).at_ (tab_nd hT) (tab_val hT hm), b.2, 4, rfl, fun H2 s3 => ⟨_, rfl, ?_⟩⟩
      rw [decide_eq_true hw]
      exact ⟨_, rfl, (s1.trans s2).trans s3⟩
    · obtain ⟨y1, rfl, s1⟩ := hp
      exact q H' (s0.trans s1)
def spChkK : Sp := fun vs H Q _ => ∃ (k t : Addr) (ts : List (Str × Int)) (ks : List KeyE) (m : Nat), vs = [.ref k, .ref t] ∧ DctAt H k (keyK ks) ∧ DctAt H t (tabK ts) ∧ Tabs ts m 4 ∧ Keys H ts ks ∧ m ≤ 5 ∧ ∀ H', Same H H' → Q .non H'
theorem ok_check_keys (T : Txt K mg a d) : FnOk P w K mg base CX0 4 (a 43) (d 43) ["keys", "tables"] spChkK := by
  have G39 : FnOk P w K mg base CX0 3 (a 39) (d 39) ["thing", "width"] spIsKey := ok_is_key T
  refine T.F43.ok sc__check_keys (fun vs H Q E h => ?_) (fun cdv A outer s H vs Q E hr h => ?_)
  · obtain ⟨k, t, ts, ks, m, rfl, _⟩ := h
    rfl
  · obtain ⟨k, t, ts, ks, m, rfl, hk, ht, hT, hK, hm2, q⟩ := h
    have hlen := hT.len
    have hkl : ks.length ≤ 5 := by
      have := hK.le
      omega
    obtain ⟨kd, zs, e, kl, ek, z64, _, hL⟩ := DctAt.names (f := (·.1)) hk (fun _ => rfl) (by omega)
    refine ⟨_, (pss_one (ps_for PassesOwn.never rfl (pi_list (pe_callB (id := "sorted")  (call_sortedD rfl) (by rfl) T.z_sorted (by decide +kernel) (pa_cons (pv 0) pa_nil))) (pg_name (i := 2) sc__check_keys.nd rfl (.inl rfl))
    (pss_one (ps_if (PW.pt (pw_or (pt_cmp (pc_dnotin (hu_of hr) (pv 2) (pv 1))) (pw_or1 (pt_not (pt_val (pe_call G39 (hr.mono (by decide)) (by rfl) T.g39 T.F39.kp T.b39 .nil pass0 (pa_cons (pe_dget (hu_of hr) (pv 0) (pv 2) (fun _ _ => rfl)) (pa_cons (pe_dget (hu_of hr) (pv 1) (pv 2) (fun _ _ => rfl)) pa_nil))))))))
        (pss_one ps_never)
        pss_nil)))), ?_⟩
    refine ⟨_, rfl, k, kd, zs, rfl, .inl e, ek, z64, fun ys p yp _ hp => ⟨p, rfl, ?_⟩⟩
    obtain ⟨L, hLp, rfl⟩ := hL ys yp
    have s0 := same_upd (o := .lst ((L.map (·.1)).map V.str)) hp
    refine ⟨⟨_, .of upd_same⟩, for_list (K := K) (a := p) (xs := (L.map (·.1)).map V.str) (fun i σ H' => ∃ y1 : Option V, σ = [some (.ref k), some (.ref t), y1] ∧ Same (upd H p (.lst ((L.map (·.1)).map V.str))) H') ⟨none, rfl, Same.refl _⟩ (fun i σ H' _ hp => ?_) (fun i y σ H' hy hp => ?_) (fun σ H' hp => ?_)⟩
    · obtain ⟨y1, rfl, s1⟩ := hp
      exact .of (s1 _ _ upd_same)
    · obtain ⟨y1, rfl, s1⟩ := hp
      obtain ⟨n, hn, rfl⟩ := map_at hy
      obtain ⟨b, hb, rfl⟩ := map_at hn
      have hm : b ∈ ks := hLp.mem_iff.mp (List.mem_of_getElem? hb)
      obtain ⟨w', hw', hcols, hl1, hl2⟩ := hK.ok b hm
      have hwd := hT.wd _ hw'
      have s2 := s0.trans s1
      have gt := (ht.same s2).at_ (tab_nd hT) (tab_val hT hw')
      refine ⟨_, rfl, _, rfl, t, _, rfl, gt, _, rfl, ?_⟩
      refine ⟨_, rfl, _, rfl, k, _, rfl, (hk.same s2).at_ (key_nd hT hK) (key_val hT hK hm), _, rfl, _, rfl, t, _, rfl, gt, b.2.1, b.2.2, w', rfl, s2 _ _ (hK.at_ b hm), hcols, by omega, hl1, hl2, fun H1 s3 => ⟨_, rfl, ?_⟩⟩
      exact ⟨_, rfl, s1.trans s3⟩
    · obtain ⟨y1, rfl, s1⟩ := hp
      exact q H' (s0.trans s1)
def spChkS : Sp := fun vs H Q _ => ∃ (v t : Addr) (ts : List (Str × Int)) (ks : List KeyE) (ss : List SvE) (m n : Nat), vs = [.ref v, .ref t] ∧ DctAt H v (svK ss) ∧ DctAt H t (tabK ts) ∧ Tabs ts m 4 ∧ Svcs H ts ks ss n ∧ 1 ≤ n ∧ n ≤ 8 ∧ ∀ H', Same H H' → Q .non H'
theorem ok_check_services (T : Txt K mg a d) : FnOk P w K mg base CX0 4 (a 44) (d 44) ["services", "tables"] spChkS := by
  have G10 : FnOk P w K mg base CX0 1 (a 10) (d 10) ["thing"] (spB wordV) := ok_is_word T
  have G40 : FnOk P w K mg base CX0 3 (a 40) (d 40) ["thing", "tables"] spIsSvc := ok_is_service T
  refine T.F44.ok sc__check_services (fun vs H Q E h => ?_) (fun cdv A outer s H vs Q E hr h => ?_)
  · obtain ⟨v, t, ts, ks, ss, m, n, rfl, _⟩ := h
    rfl
  · obtain ⟨v, t, ts, ks, ss, m, n, rfl, hv, ht, hT, hS, hm1, hm2, q⟩ := h
    obtain ⟨t8, h_MOST_SERVICES⟩ := T.c_MOST_SERVICES
    have hlen : ss.length = n := by rw [← hS.nm.len, List.length_map]
    obtain ⟨kd, zs, e, kl, ek, z64, _, hL⟩ := DctAt.names (f := (·.name)) hv (fun _ => rfl) (by omega)
    refine ⟨_, (pss_cons (ps_if (pt_not (pt_chain op_le op_le pe_int (pe_callB (id := "len")  call_lenD (by rfl) T.z_len (by decide +kernel) (pa_cons (pv 0) pa_nil)) (pe_glob (v := .int (8)) rfl h_MOST_SERVICES ⟨_, rfl⟩)))
    (pss_one ps_never)
    pss_nil)
  (pss_one (ps_for PassesOwn.never rfl (pi_list (pe_callB (id := "sorted")  (call_sortedD rfl) (by rfl) T.z_sorted (by decide +kernel) (pa_cons (pv 0) pa_nil))) (pg_name (i := 2) sc__check_services.nd rfl (.inl rfl))
    (pss_one (ps_if (PW.pt (pw_or (pt_not (pt_val (pe_call G10 (hr.mono (by decide)) (by rfl) T.g10 T.F10.kp T.b10 .nil pass0 (pa_cons (pv 2) pa_nil)))) (pw_or1 (pt_not (pt_val (pe_call G40 (hr.mono (by decide)) (by rfl) T.g40 T.F40.kp T.b40 .nil pass0 (pa_cons (pe_dget (hu_of hr) (pv 0) (pv 2) (fun _ _ => rfl)) (pa_cons (pv 1) pa_nil))))))))
        (pss_one ps_never)
        pss_nil))))), ?_⟩
    refine ⟨_, rfl, v, kd, rfl, e, _, _, rfl, rfl, _, rfl, ite_d (fun _ => ?_) (fun z => absurd (by omega) z)⟩
    refine ⟨_, _, rfl, rfl, _, rfl, ?_⟩
    show if (!decide ((kd.length : Int) ≤ 8)) = true then _ else _
    rw [decide_eq_true (by omega)]
    refine ⟨_, rfl, v, kd, zs, rfl, .inl e, ek, z64, fun ys p yp _ hp => ⟨p, rfl, ?_⟩⟩
    obtain ⟨L, hLp, rfl⟩ := hL ys yp
    have s0 := same_upd (o := .lst ((L.map (·.name)).map V.str)) hp
    refine ⟨⟨_, .of upd_same⟩, for_list (K := K) (a := p) (xs := (L.map (·.name)).map V.str) (fun i σ H' => ∃ y1 : Option V, σ = [some (.ref v), some (.ref t), y1] ∧ Same (upd H p (.lst ((L.map (·.name)).map V.str))) H') ⟨none, rfl, Same.refl _⟩ (fun i σ H' _ hp => ?_) (fun i y σ H' hy hp => ?_) (fun σ H' hp => ?_)⟩
    · obtain ⟨y1, rfl, s1⟩ := hp
      exact .of (s1 _ _ upd_same)
    · obtain ⟨y1, rfl, s1⟩ := hp
      obtain ⟨nm, hn, rfl⟩ := map_at hy
      obtain ⟨b, hb, rfl⟩ := map_at hn
      have hm : b ∈ ss := hLp.mem_iff.mp (List.mem_of_getElem? hb)
      have hwd := hS.nm.wd b.name (List.mem_map.mpr ⟨_, hm, rfl⟩)
      obtain ⟨htold, ⟨w', hw', hcols, hcl⟩, hcap⟩ := hS.ok b hm
      refine ⟨_, rfl, .str b.name, rfl, wd_thg hwd, fun H1 s2 => ⟨_, rfl, ?_⟩⟩
      have s3 := (s0.trans s1).trans s2
      show if (!wordB b.name) = true then _ else _
      rw [wd_b hwd]
      refine ⟨_, rfl, _, rfl, v, _, rfl, (hv.same s3).at_ (sv_nd hS) (sv_val hS hm), _, rfl, b.at_, t, b.ga, b.tab, b.cols, b.cap, w', ts, m, rfl, htold.mono fun _ _ e => s3 _ _ e, ht.same s3, hT, hw', hcols, hcl, hcap, fun H2 s4 => ⟨_, rfl, ?_⟩⟩
      exact ⟨_, rfl, (s1.trans s2).trans s4⟩
    · obtain ⟨y1, rfl, s1⟩ := hp
      exact q H' (s0.trans s1)
end
/-! ### the order of names -/
section
variable {P : Program} {w : World} {K : PySem.W.Frag} {mg : Str → Option Value} {base : Heap} {a : Nat → Addr} {d : Nat → FuncData}
def spChkC : Sp := fun vs H Q _ => ∃ (v t k : Addr) (ts : List (Str × Int)) (ks : List KeyE) (ss : List SvE) (m n : Nat), vs = [.ref v, .ref t, .ref k] ∧ DctAt H v (svK ss) ∧ DctAt H t (tabK ts) ∧ DctAt H k (keyK ks) ∧ Tabs ts m 4 ∧ Keys H ts ks ∧ Svcs H ts ks ss n ∧ n ≤ 8 ∧ ∀ H', Same H H' → Q .non H'
theorem ok_check_capped (T : Txt K mg a d) : FnOk P w K mg base CX0 2 (a 45) (d 45) ["services", "tables", "keys"] spChkC := by
  have G41 : FnOk P w K mg base CX0 1 (a 41) (d 41) ["service", "tables", "keys"] spIsWh := ok_is_wh T
  refine T.F45.ok sc__check_capped (fun vs H Q E h => ?_) (fun cdv A outer s H vs Q E hr h => ?_)
  · obtain ⟨v, t, k, ts, ks, ss, m, n, rfl, _⟩ := h
    rfl
  · obtain ⟨v, t, k, ts, ks, ss, m, n, rfl, hv, ht, hk, hT, hK, hS, hn, q⟩ := h
    have hlen : ss.length = n := by rw [← hS.nm.len, List.length_map]
    obtain ⟨kd, zs, e, kl, ek, z64, _, hL⟩ := DctAt.names (f := (·.name)) hv (fun _ => rfl) (by omega)
    refine ⟨_, (pss_cons (ps_set (i := 3) sc__check_capped.nd rfl (.inl rfl) (pe_lst pa_nil))
  (pss_one (ps_for PassesOwn.never rfl (pi_list (pe_callB (id := "sorted")  (call_sortedD rfl) (by rfl) T.z_sorted (by decide +kernel) (pa_cons (pv 0) pa_nil))) (pg_name (i := 4) sc__check_capped.nd rfl (.inl rfl))
    (pss_cons (ps_set (i := 5) sc__check_capped.nd rfl (.inl rfl) (pe_dget (hu_of hr) (pv 0) (pv 4) (fun _ _ => rfl)))
      (pss_one (ps_if (pt_not (pt_val (pe_call G41 (hr.mono (by decide)) (by rfl) T.g41 T.F41.kp T.b41 .nil pass0 (pa_cons (pv 5) (pa_cons (pv 1) (pa_cons (pv 2) pa_nil))))))
        (pss_cons (ps_if (pt_cmpR op_in_seq (pe_ix ix_tup (pv 5) pe_int (fun _ _ => rfl)) (pv 3) (by rfl))
            (pss_one ps_never)
            pss_nil)
          (pss_one (ps_expr (pe_bm PySem.F.plainAttrs_list PySem.F.slot_list_append PySem.F.type_list_append mt_append (pv 3) (pa_cons (pe_ix ix_tup (pv 5) pe_int (fun _ _ => rfl)) pa_nil)))))
        pss_nil)))))), ?_⟩
    refine ⟨Nat.zero_le _, fun f hf => ?_⟩
    have s0 := same_upd (o := .lst []) hf
    refine ⟨_, rfl, v, kd, zs, rfl, .inl (s0 _ _ e), ek, z64, fun ys p yp _ hp => ⟨p, rfl, ?_⟩⟩
    obtain ⟨L, hLp, rfl⟩ := hL ys yp
    have s1 := same_upd (o := .lst ((L.map (·.name)).map V.str)) hp
    have nfp : f ≠ p := ne_of_none upd_same hp
    have nd : (fillE ts ks L).Nodup := (fillE_perm hLp).nodup_iff.mpr hS.one
    have lL : L.length ≤ 8 := by rw [hLp.length_eq]; omega
    refine ⟨⟨_, .of upd_same⟩, for_list (K := K) (a := p) (xs := (L.map (·.name)).map V.str) (fun i σ H' => ∃ y4 y5 : Option V, σ = [some (.ref v), some (.ref t), some (.ref k), some (.ref f), y4, y5] ∧ H' p = some (.lst ((L.map (·.name)).map V.str)) ∧ H' f = some (.lst ((fillE ts ks (L.take i)).map V.str)) ∧ Same H H')
      ⟨none, none, rfl, upd_same, s1 _ _ upd_same, s0.trans s1⟩ (fun i σ H' _ hp => ?_) (fun i y σ H' hy hp => ?_) (fun σ H' hp => ?_)⟩
    · obtain ⟨y4, y5, rfl, hp', _⟩ := hp
      exact .of hp'
    · obtain ⟨y4, y5, rfl, hp', hf', sm⟩ := hp
      obtain ⟨nm, hn', rfl⟩ := map_at hy
      obtain ⟨b, hb, rfl⟩ := map_at hn'
      have hm : b ∈ ss := hLp.mem_iff.mp (List.mem_of_getElem? hb)
      obtain ⟨htold, ⟨w', hw', hcols, hcl⟩, hcap⟩ := hS.ok b hm
      have hw2 := widthAt_mem hT.nm.nd hw'
      have tk : L.take (i + 1) = L.take i ++ [b] := by
        rw [List.take_add_one, hb]
        rfl
      have fs := fillE_snoc ts ks (L.take i) b
      rw [← tk] at fs
      have we : whE ts ks b = isWh w' ks b.tab b.cols b.cap := by
        unfold whE
        rw [hw2]
      refine ⟨_, rfl, _, rfl, v, _, rfl, (hv.same sm).at_ (sv_nd hS) (sv_val hS hm), ?_⟩
      refine ⟨_, rfl, _, rfl, _, rfl, b.at_, t, k, b.ga, b.tab, b.cols, b.cap, w', ts, ks, m, rfl, htold.mono fun _ _ e => sm _ _ e, ht.same sm, hk.same sm, hT, hK.mono fun _ _ e => sm _ _ e, hw', by omega, fun H2 s2 => ⟨_, rfl, ?_⟩⟩
      have sm2 := sm.trans s2
      cases ew : isWh w' ks b.tab b.cols b.cap with
      | true =>
        rw [we, ew, if_pos rfl, List.append_nil] at fs
        refine ⟨_, _, rfl, s2 _ _ hp', ?_, sm2⟩
        rw [fs]
        exact s2 _ _ hf'
      | false =>
        rw [we, ew, if_neg (by decide)] at fs
        have hno : b.tab ∉ fillE ts ks (L.take i) := fun hx => by
          have nd2 : (fillE ts ks (L.take (i + 1))).Nodup := nd.sublist (fillE_take L (i + 1))
          rw [fs] at nd2
          exact (List.nodup_append.mp nd2).2.2 b.tab hx b.tab (by simp) rfl
        have hat := htold.tup
        refine ⟨_, rfl, _, _, _, _, rfl, rfl, .of (sm2 _ _ hat), atI_nat (j := 0) rfl, _, rfl, f, _, rfl, .inl (.of (s2 _ _ hf')), rfl, flat_strs _, _, rfl, ?_⟩
        show if inV (.str b.tab) ((fillE ts ks (L.take i)).map V.str) = true then _ else _
        rw [inV_strs, decide_eq_false hno]
        refine ⟨_, rfl, .inl ⟨rfl, _, .of (s2 _ _ hf')⟩, _, rfl, _, _, _, _, rfl, rfl, .of (sm2 _ _ hat), atI_nat (j := 0) rfl, f, _, _, rfl, rfl, s2 _ _ hf', ?_, _, _, rfl, ?_, ?_, ?_⟩
        · rw [List.length_map]
          unfold fillE
          rw [List.length_map]
          have l1 := List.length_filter_le (fun b => !whE ts ks b) (L.take i)
          rw [List.length_take] at l1
          exact Nat.lt_of_le_of_lt (by omega : _ ≤ 8) (by decide)
        · rw [upd_ne nfp.symm]
          exact s2 _ _ hp'
        · rw [fs, List.map_append]
          exact upd_same
        · intro x o ex
          rw [upd_ne (ne_of_none ex hf)]
          exact sm2 x o ex
    · obtain ⟨y4, y5, rfl, hp', hf', sm⟩ := hp
      exact q H' sm
end
/-! ### the class -/
/-- a Schema at p -/
structure SchO (C p dx d1 d2 d3 : Addr) (H : Hp) (ts : List (Str × Int)) (ks : List KeyE) (ss : List SvE) (m n : Nat) : Prop where
  ob : H p = some (.ins C dx (fldsS d1 d2 d3))
  tb : DctAt H d1 (tabK ts)
  ky : DctAt H d2 (keyK ks)
  sv : DctAt H d3 (svK ss)
  hT : Tabs ts m 4
  hK : Keys H ts ks
  hS : Svcs H ts ks ss n
  m5 : m ≤ 5
  n8 : n ≤ 8
def SchAt (C p : Addr) (H : Hp) (ts : List (Str × Int)) (ks : List KeyE) (ss : List SvE) (m n : Nat) : Prop := ∃ dx d1 d2 d3, SchO C p dx d1 d2 d3 H ts ks ss m n
theorem SchO.same {C p dx d1 d2 d3 : Addr} {H H' : Hp} {ts : List (Str × Int)} {ks : List KeyE} {ss : List SvE} {m n : Nat} (h : SchO C p dx d1 d2 d3 H ts ks ss m n) (s : Same H H') : SchO C p dx d1 d2 d3 H' ts ks ss m n :=
  ⟨s _ _ h.ob, h.tb.same s, h.ky.same s, h.sv.same s, h.hT, h.hK.mono fun _ _ e => s _ _ e, h.hS.mono fun _ _ e => s _ _ e, h.m5, h.n8⟩
theorem SchAt.same {C p : Addr} {H H' : Hp} {ts : List (Str × Int)} {ks : List KeyE} {ss : List SvE} {m n : Nat} (h : SchAt C p H ts ks ss m n) (s : Same H H') : SchAt C p H' ts ks ss m n := by
  obtain ⟨dx, d1, d2, d3, o⟩ := h
  exact ⟨dx, d1, d2, d3, o.same s⟩
section
variable {P : Program} {w : World} {K : PySem.W.Frag} {mg : Str → Option Value} {base : Heap} {a : Nat → Addr} {d : Nat → FuncData}
def spSInit (C : Addr) : Sp := fun vs H Q _ => ∃ (p dx t k v : Addr) (ts : List (Str × Int)) (ks : List KeyE) (ss : List SvE) (m n : Nat), vs = [.ref p, .ref t, .ref k, .ref v] ∧ H p = some (.ins C dx []) ∧ DctAt H t (tabK ts) ∧ DctAt H k (keyK ks) ∧ DctAt H v (svK ss) ∧ Tabs ts m 4 ∧ Keys H ts ks ∧ Svcs H ts ks ss n ∧ 1 ≤ m ∧ m ≤ 5 ∧ 1 ≤ n ∧ n ≤ 8 ∧
  ∀ H' d1 d2 d3, SchO C p dx d1 d2 d3 H' ts ks ss m n → H d1 = none → H d2 = none → H d3 = none → (∀ b o, b ≠ p → H b = some o → H' b = some o) → Q .non H'
theorem ok_sinit (T : Txt K mg a d) : FnOk P w K mg base CX0 5 (a 5700) (d 5700) ["self", "tables", "keys", "services"] (spSInit (a 47)) := by
  have G42 : FnOk P w K mg base CX0 3 (a 42) (d 42) ["tables"] spChkT := ok_check_tables T
  have G43 : FnOk P w K mg base CX0 4 (a 43) (d 43) ["keys", "tables"] spChkK := ok_check_keys T
  have G44 : FnOk P w K mg base CX0 4 (a 44) (d 44) ["services", "tables"] spChkS := ok_check_services T
  have G45 : FnOk P w K mg base CX0 2 (a 45) (d 45) ["services", "tables", "keys"] spChkC := ok_check_capped T
  have G46 : FnOk P w K mg base CX0 1 (a 46) (d 46) ["things"] spCopied := ok_copied T
  refine T.F5700.ok sc_Schema___init__ (fun vs H Q E h => ?_) (fun cdv A outer s H vs Q E hr h => ?_)
  · obtain ⟨p, dx, t, k, v, ts, ks, ss, m, n, rfl, _⟩ := h
    rfl
  · obtain ⟨p, dx, t, k, v, ts, ks, ss, m, n, rfl, hp, ht, hk, hv, hT, hK, hS, hm1, hm2, hn1, hn2, q⟩ := h
    have lt : ts.length = m := hT.len
    have lk : ks.length ≤ 5 := by
      have := hK.le
      omega
    have ls : ss.length = n := by rw [← hS.nm.len, List.length_map]
    refine ⟨_, (pss_cons (ps_expr (pe_call G42 (hr.mono (by decide)) (by rfl) T.g42 T.F42.kp T.b42 .nil pass0 (pa_cons (pv 1) pa_nil)))
  (pss_cons (ps_expr (pe_call G43 (hr.mono (by decide)) (by rfl) T.g43 T.F43.kp T.b43 .nil pass0 (pa_cons (pv 2) (pa_cons (pv 1) pa_nil))))
  (pss_cons (ps_expr (pe_call G44 (hr.mono (by decide)) (by rfl) T.g44 T.F44.kp T.b44 .nil pass0 (pa_cons (pv 3) (pa_cons (pv 1) pa_nil))))
  (pss_cons (ps_expr (pe_call G45 (hr.mono (by decide)) (by rfl) T.g45 T.F45.kp T.b45 .nil pass0 (pa_cons (pv 3) (pa_cons (pv 1) (pa_cons (pv 2) pa_nil)))))
  (pss_cons (ps_fld (pv 0) (pe_call G46 (hr.mono (by decide)) (by rfl) T.g46 T.F46.kp T.b46 .nil pass0 (pa_cons (pv 1) pa_nil)) rfl)
  (pss_cons (ps_fld (pv 0) (pe_call G46 (hr.mono (by decide)) (by rfl) T.g46 T.F46.kp T.b46 .nil pass0 (pa_cons (pv 2) pa_nil)) rfl)
  (pss_one (ps_fld (pv 0) (pe_call G46 (hr.mono (by decide)) (by rfl) T.g46 T.F46.kp T.b46 .nil pass0 (pa_cons (pv 3) pa_nil)) rfl)))))))), ?_⟩
    refine ⟨_, rfl, t, ts, m, rfl, ht, hT, hm1, hm2, fun H1 s1 => ?_⟩
    refine ⟨_, rfl, _, rfl, k, t, ts, ks, m, rfl, hk.same s1, ht.same s1, hT, hK.mono fun _ _ e => s1 _ _ e, hm2, fun H2 s2 => ?_⟩
    have s12 := s1.trans s2
    refine ⟨_, rfl, _, rfl, v, t, ts, ks, ss, m, n, rfl, hv.same s12, ht.same s12, hT, hS.mono fun _ _ e => s12 _ _ e, hn1, hn2, fun H3 s3 => ?_⟩
    have s13 := s12.trans s3
    refine ⟨_, rfl, _, rfl, _, rfl, v, t, k, ts, ks, ss, m, n, rfl, hv.same s13, ht.same s13, hk.same s13, hT, hK.mono fun _ _ e => s13 _ _ e, hS.mono fun _ _ e => s13 _ _ e, hn2, fun H4 s4 => ?_⟩
    have s14 := s13.trans s4
    -- the three copies
    refine ⟨_, rfl, t, tabK ts, ts.map (·.1), rfl, ht.same s14, keys_tab ts, hT.nm.nd, by rw [List.length_map]; omega, fun d1 H5 f1 D1 s5 => ?_⟩
    have hp5 := (s14.trans s5) _ _ hp
    refine ⟨_, rfl, p, _, dx, _, rfl, hp5, T.cl_47, T.no_47__tables, by show 0 < 1000; decide, ?_⟩
    generalize hH6 : upd H5 p _ = H6
    have hp6 : H6 p = some (.ins (a 47) dx (putF "_tables" (.ref d1) [])) := by rw [← hH6]; exact upd_same
    have o6 : ∀ b o, b ≠ p → H5 b = some o → H6 b = some o := fun b o n e => by rw [← hH6, upd_ne n]; exact e
    have o06 : ∀ b o, b ≠ p → H b = some o → H6 b = some o := fun b o n e => o6 b o n ((s14.trans s5) _ _ e)
    have kn : ((keyK ks).map (·.1)) = (ks.map (·.1)).map Sum.inr := keys_key ks
    refine ⟨_, rfl, k, keyK ks, ks.map (·.1), rfl, hk.but hp o06, kn, hK.nd, by rw [List.length_map]; omega, fun d2 H7 f2 D2 s7 => ?_⟩
    have hp7 := s7 _ _ hp6
    refine ⟨_, rfl, p, _, dx, _, rfl, hp7, T.cl_47, T.no_47__keys, by show 1 < 1000; decide, ?_⟩
    generalize hH8 : upd H7 p _ = H8
    have hp8 : H8 p = some (.ins (a 47) dx (putF "_keys" (.ref d2) (putF "_tables" (.ref d1) []))) := by rw [← hH8]; exact upd_same
    have o8 : ∀ b o, b ≠ p → H7 b = some o → H8 b = some o := fun b o n e => by rw [← hH8, upd_ne n]; exact e
    have o68 : ∀ b o, b ≠ p → H6 b = some o → H8 b = some o := fun b o n e => o8 b o n (s7 _ _ e)
    have o08 : ∀ b o, b ≠ p → H b = some o → H8 b = some o := fun b o n e => o68 b o n (o06 b o n e)
    refine ⟨_, rfl, v, svK ss, ss.map (·.name), rfl, hv.but hp o08, keys_sv ss, hS.nm.nd, by rw [List.length_map]; omega, fun d3 H9 f3 D3 s9 => ?_⟩
    have hp9 := s9 _ _ hp8
    have l2 : ∀ d1 d2 : Addr, (putF "_keys" (.ref d2) (putF "_tables" (.ref d1) ([] : List (Str × V)))).length < 1000 := fun d1 d2 => by
      have e : putF "_keys" (.ref d2) (putF "_tables" (.ref d1) ([] : List (Str × V))) = [(("_tables" : Str), V.ref d1), (("_keys" : Str), V.ref d2)] := by
        show (if ("_tables" : Str) = "_keys" then _ else (("_tables" : Str), V.ref d1) :: putF "_keys" (.ref d2) []) = _
        rw [if_neg (by decide +kernel)]
        rfl
      rw [e]
      show 2 < 1000
      decide
    refine ⟨_, rfl, p, _, dx, _, rfl, hp9, T.cl_47, T.no_47__services, l2 _ _, ?_⟩
    generalize hH : upd H9 p _ = Hz
    have hpz : Hz p = some (.ins (a 47) dx (fldsS d1 d2 d3)) := by rw [← hH]; exact upd_same
    have oz : ∀ b o, b ≠ p → H9 b = some o → Hz b = some o := fun b o n e => by rw [← hH, upd_ne n]; exact e
    have o0z : ∀ b o, b ≠ p → H b = some o → Hz b = some o := fun b o n e => oz b o n (s9 _ _ (o08 b o n e))
    have tz : ∀ b xs, H b = some (.tup xs) → Hz b = some (.tup xs) := fun b xs e => o0z b _ (ne_of e hp (by intro z; cases z)) e
    have free : ∀ {x : Addr} {G : Hp} {o : HO}, G p = some o → (∀ b o, b ≠ p → H b = some o → G b = some o) → G x = none → H x = none := fun {x G o} hG k e => by
      cases e' : H x with
      | none => rfl
      | some u =>
        by_cases n : x = p
        · rw [n, hG] at e
          cases e
        · rw [k x u n e'] at e
          cases e
    refine q Hz d1 d2 d3 ⟨hpz, (((D1.but hp5 o6).same s7).but hp7 o8 |>.same s9).but hp9 oz, ((D2.but hp7 o8).same s9).but hp9 oz, D3.but hp9 oz, hT, hK.mono tz, hS.mono tz, hm2, hn2⟩ (s14.free f1) (free hp6 o06 f2) (free hp8 o08 f3) o0z
/-! ### its properties and lists of names -/
def spProp (C : Addr) (f : List (Str × Int) → List KeyE → List SvE → List (Key × V)) : Sp := fun vs H Q _ => ∃ (p : Addr) (ts : List (Str × Int)) (ks : List KeyE) (ss : List SvE) (m n : Nat), vs = [.ref p] ∧ SchAt C p H ts ks ss m n ∧ ∀ D H', H D = none → DctAt H' D (f ts ks ss) → Same H H' → Q (.ref D) H'
def spNms (C : Addr) (f : List (Str × Int) → List SvE → List Str) : Sp := fun vs H Q _ => ∃ (p : Addr) (ts : List (Str × Int)) (ks : List KeyE) (ss : List SvE) (m n : Nat), vs = [.ref p] ∧ SchAt C p H ts ks ss m n ∧ ∀ l ys H', H l = none → H' l = some (.lst (ys.map V.str)) → ys.Perm (f ts ss) → PyProof.Rows.sortedS ys = true → Same H H' → Q (.ref l) H'
theorem ok_service_names (T : Txt K mg a d) : FnOk P w K mg base CX0 1 (a 5706) (d 5706) ["self"] (spNms (a 47) fun _ ss => ss.map (·.name)) := by
  refine T.F5706.ok sc_Schema_service_names (fun vs H Q E h => ?_) (fun cdv A outer s H vs Q E hr h => ?_)
  · obtain ⟨p, ts, ks, ss, m, n, rfl, _⟩ := h
    rfl
  · obtain ⟨p, ts, ks, ss, m, n, rfl, ⟨dx, d1, d2, d3, o⟩, q⟩ := h
    have ls : ss.length = n := by rw [← o.hS.nm.len, List.length_map]
    obtain ⟨kd, zs, e, kl, ek, z64, zp, _⟩ := DctAt.names (f := (·.name)) o.sv (fun _ => rfl) (by have := o.n8; omega)
    exact ⟨_, (pss_one (ps_ret (pe_callB (id := "sorted")  (call_sortedD rfl) (by rfl) T.z_sorted (by decide +kernel) (pa_cons (pe_fld (pv 0) rfl) pa_nil)))), _, rfl, p, _, dx, _, _, rfl, o.ob, T.cl_47, T.no_47__services, flds_s _ _ _, d3, kd, zs, rfl, .inl e, ek, z64, fun ys l yp so hl => q l ys _ hl upd_same (yp.trans zp) so (same_upd hl)⟩
end
section
variable {P : Program} {w : World} {K : PySem.W.Frag} {mg : Str → Option Value} {base : Heap} {a : Nat → Addr} {d : Nat → FuncData}
/-! ### an unknown name -/
def spUInit (C : Addr) : Sp := fun vs H Q _ => ∃ (x : Addr) (v : V), vs = [.ref x, v] ∧ H x = some (exo x C none) ∧ ∀ dx, H dx = none → dx ≠ x → Q .non (upd (upd H dx (exd dx [(("name" : Str), v)])) x (exo x C (some dx)))
theorem ok_uinit (T : Txt K mg a d) : FnOk P w K mg base CX0 1 (a 1300) (d 1300) ["self", "name"] (spUInit (a 3)) := by
  refine T.F1300.ok sc_UnknownName___init__ (fun vs H Q E h => ?_) (fun cdv A outer s H vs Q E hr h => ?_)
  · obtain ⟨x, v, rfl, _⟩ := h
    rfl
  · obtain ⟨x, v, rfl, hx, q⟩ := h
    exact ⟨_, (pss_one (ps_ost (pv 0) (pv 1))), _, rfl, _, rfl, x, _, rfl, T.x_3, T.no_3_name, .inl ⟨hx, fun dx hdx ne => q dx hdx ne⟩⟩
/-- how an UnknownName(v) goes out: its dict dx, new -/
def Unk (C : Addr) (v : V) (H : Hp) (E : XK) : Prop := ∀ dx H', H dx = none → H' dx = some (.xd [(("name" : Str), v)]) → Same H H' → E (.ref C) (some dx) H'
theorem unk_raise {C : Addr} {v : V} {H : Hp} {E : XK} (k : Unk C v H E) : ([v] : List V).length ≤ 1000 ∧ ∀ x, H x = none → spUInit C (.ref x :: ([v] ++ [])) (upd H x (exo x C none))
    (fun u H2 => u = .non ∧ ∃ (dd : Addr) (fs : List (Str × V)), H2 x = some (exo x C (some dd)) ∧ H2 dd = some (exd dd fs) ∧ H dd = none ∧ E (.ref C) (some dd) (upd (del H2 x) dd (.xd fs))) (fun _ _ _ => False) := by
  refine ⟨by show 1 ≤ 1000; decide, fun x hx => ⟨x, v, rfl, upd_same, fun dx hdx ne => ⟨rfl, dx, _, upd_same, by rw [upd_ne ne]; exact upd_same, ?_, ?_⟩⟩⟩
  · rw [upd_ne ne] at hdx
    exact hdx
  · rw [upd_ne ne] at hdx
    refine k dx _ hdx upd_same fun b o e => ?_
    have nb : b ≠ x := ne_of_none e hx
    have nd : b ≠ dx := ne_of_none e hdx
    rw [upd_ne nd, del_ne nb, upd_ne nb, upd_ne nd, upd_ne nb]
    exact e
/-- what is asked of a name: told, or unknown -/
def spAsk (C CU : Addr) (f g : List (Str × Int) → List KeyE → List SvE → Str → Option V) : Sp := fun vs H Q E => ∃ (p : Addr) (n : Str) (ts : List (Str × Int)) (ks : List KeyE) (ss : List SvE) (mt ms : Nat), vs = [.ref p, .str n] ∧ SchAt C p H ts ks ss mt ms ∧
  (∀ v, f ts ks ss n = some v → ∃ u, g ts ks ss n = some u ∧ Q u H) ∧ (f ts ks ss n = none → Unk CU (.str n) H E)
theorem ok_width_of (T : Txt K mg a d) : FnOk P w K mg base (L2.CX P w) 4 (a 5708) (d 5708) ["self", "table"] (spAsk (a 47) (a 3) (fun ts _ _ n => valV (tabK ts) (Sum.inr n)) (fun ts _ _ n => valV (tabK ts) (Sum.inr n))) := by
  have G37 : FnOk P w K mg base CX0 1 (a 37) (d 37) ["thing", "names"] spNameIn := ok_name_in T
  have G1300 : FnOk P w K mg base CX0 1 (a 1300) (d 1300) ["self", "name"] (spUInit (a 3)) := ok_uinit T
  refine T.F5708.okX sc_Schema_width_of (fun vs H Q E h => ?_) (fun cdv A outer s H vs Q E hr h => ?_)
  · obtain ⟨p, n, ts, ks, ss, mt, ms, rfl, _⟩ := h
    rfl
  · obtain ⟨p, n, ts, ks, ss, mt, ms, rfl, ⟨dx, d1, d2, d3, o⟩, q1, q2⟩ := h
    refine ⟨_, (pss_cons (ps_if (pt_not (pt_val (pe_call G37 (hr.mono (by decide)) (by rfl) T.g37 T.F37.kp T.b37 .nil pass0 (pa_cons (pv 1) (pa_cons (pe_fld (pv 0) rfl) pa_nil)))))
    (pss_one (ps_raise rfl (takes_of rfl rfl rfl rfl) (pmk_oex T.x_3 T.in_3 T.ti_3 G1300 (hr.mono (by decide)) T.b1300 .nil pass0 (by rfl) T.cg_3 (pa_cons (pv 1) pa_nil))))
    pss_nil)
  (pss_one (ps_ret (pe_dget (hu_of hr) (pe_fld (pv 0) rfl) (pv 1) (fun _ _ => rfl))))), ?_⟩
    refine ⟨_, rfl, _, rfl, p, _, dx, _, _, rfl, o.ob, T.cl_47, T.no_47__tables, flds_t _ _ _, n, d1, tabK ts, rfl, o.tb, tab_nd o.hT, ?_⟩
    cases e : valV (tabK ts) (Sum.inr n) with
    | none => exact ⟨_, rfl, _, rfl, unk_raise (q2 e)⟩
    | some v =>
      obtain ⟨u, hu, q⟩ := q1 v e
      exact ⟨_, rfl, _, rfl, p, _, dx, _, _, rfl, o.ob, T.cl_47, T.no_47__tables, flds_t _ _ _, _, rfl, d1, u, rfl, o.tb.at_ (tab_nd o.hT) hu, q⟩
theorem ok_service_of (T : Txt K mg a d) : FnOk P w K mg base (L2.CX P w) 4 (a 5710) (d 5710) ["self", "name"] (spAsk (a 47) (a 3) (fun _ _ ss n => valV (svK ss) (Sum.inr n)) (fun _ _ ss n => valV (svK ss) (Sum.inr n))) := by
  have G37 : FnOk P w K mg base CX0 1 (a 37) (d 37) ["thing", "names"] spNameIn := ok_name_in T
  have G1300 : FnOk P w K mg base CX0 1 (a 1300) (d 1300) ["self", "name"] (spUInit (a 3)) := ok_uinit T
  refine T.F5710.okX sc_Schema_service_of (fun vs H Q E h => ?_) (fun cdv A outer s H vs Q E hr h => ?_)
  · obtain ⟨p, n, ts, ks, ss, mt, ms, rfl, _⟩ := h
    rfl
  · obtain ⟨p, n, ts, ks, ss, mt, ms, rfl, ⟨dx, d1, d2, d3, o⟩, q1, q2⟩ := h
    refine ⟨_, (pss_cons (ps_if (pt_not (pt_val (pe_call G37 (hr.mono (by decide)) (by rfl) T.g37 T.F37.kp T.b37 .nil pass0 (pa_cons (pv 1) (pa_cons (pe_fld (pv 0) rfl) pa_nil)))))
    (pss_one (ps_raise rfl (takes_of rfl rfl rfl rfl) (pmk_oex T.x_3 T.in_3 T.ti_3 G1300 (hr.mono (by decide)) T.b1300 .nil pass0 (by rfl) T.cg_3 (pa_cons (pv 1) pa_nil))))
    pss_nil)
  (pss_one (ps_ret (pe_dget (hu_of hr) (pe_fld (pv 0) rfl) (pv 1) (fun _ _ => rfl))))), ?_⟩
    refine ⟨_, rfl, _, rfl, p, _, dx, _, _, rfl, o.ob, T.cl_47, T.no_47__services, flds_s _ _ _, n, d3, svK ss, rfl, o.sv, sv_nd o.hS, ?_⟩
    cases e : valV (svK ss) (Sum.inr n) with
    | none => exact ⟨_, rfl, _, rfl, unk_raise (q2 e)⟩
    | some v =>
      obtain ⟨u, hu, q⟩ := q1 v e
      exact ⟨_, rfl, _, rfl, p, _, dx, _, _, rfl, o.ob, T.cl_47, T.no_47__services, flds_s _ _ _, _, rfl, d3, u, rfl, o.sv.at_ (sv_nd o.hS) hu, q⟩
/-! ### is_whole, capped_names -/
def svAt (ss : List SvE) (n : Str) : Option SvE := ss.find? fun b => decide (b.name = n)
theorem svAt_val (n : Str) : ∀ ss : List SvE, valV (svK ss) (Sum.inr n) = (svAt ss n).map fun b => V.ref b.at_
  | [] => rfl
  | b :: ks => by
    have ih := svAt_val n ks
    unfold svAt svK at ih ⊢
    rw [List.map_cons]
    by_cases e : b.name = n
    · rw [valV_pos (by rw [e])]
      simp [e]
    · rw [valV_neg (fun z => e (Sum.inr.inj z)), ih]
      simp [e]
theorem svAt_mem {ss : List SvE} {n : Str} {b : SvE} (h : svAt ss n = some b) : b ∈ ss ∧ b.name = n := by
  unfold svAt at h
  exact ⟨List.mem_of_find?_eq_some h, by simpa using List.find?_some h⟩
def spAskW (C CU : Addr) : Sp := fun vs H Q E => ∃ (p : Addr) (n : Str) (ts : List (Str × Int)) (ks : List KeyE) (ss : List SvE) (mt ms : Nat), vs = [.ref p, .str n] ∧ SchAt C p H ts ks ss mt ms ∧
  (∀ b, svAt ss n = some b → ∀ H', Same H H' → Q (.bl (whE ts ks b)) H') ∧ (svAt ss n = none → Unk CU (.str n) H E)
end
def Low (s : Str) : Prop := ∀ c ∈ s.cps.toList, c < 128
theorem low_ok {s : Str} (h : Low s) : PyData.strOk s = true := by
  unfold PyData.strOk
  rw [Array.all_eq_true']
  intro c hc
  have := h c (by simpa using hc)
  exact decide_eq_true (by omega)
theorem dp_strs {K : PySem.W.Frag} {H : Hp} : ∀ ns : List Str, DpAll K H (ns.map V.str) (ns.map PyData.str)
  | [] => .nil
  | n :: ns => .cons (.str n) (dp_strs ns)
theorem lay_strs : ∀ ns : List Str, (∀ s ∈ ns, Low s) → PyData.canLayAll0 (ns.map PyData.str) = true ∧ PyData.depthAll (ns.map PyData.str) = 0
  | [], _ => by simp [PyData.canLayAll0, PyData.depthAll]
  | n :: ns, h => by
    obtain ⟨h1, h2⟩ := lay_strs ns fun x hx => h x (List.mem_cons_of_mem _ hx)
    simp only [List.map_cons, PyData.canLayAll0, PyData.depthAll, PyData.canLay0, PyData.depth, low_ok (h n List.mem_cons_self), h1, h2, Bool.and_self, true_and]
    rfl
theorem strs_data {K : PySem.W.Frag} {H : Hp} {ns : List Str} (h : ∀ s ∈ ns, Low s) : ∃ dd, (∀ r, H r = some (.lst (ns.map V.str)) → Dp K H (.ref r) dd) ∧ SeqAt.shaped dd = true ∧ PyData.eqv dd dd = true := by
  obtain ⟨h1, h2⟩ := lay_strs ns h
  have hc : (PyData.list (ns.map PyData.str)).canLay0 = true := by simp only [PyData.canLay0, h1]
  refine ⟨.list (ns.map PyData.str), fun r hr => .lst (.of hr) (dp_strs ns), ?_, PySem.SeqAt.eqv_refl _ hc⟩
  unfold SeqAt.shaped
  rw [hc, Bool.true_and]
  exact decide_eq_true (by simp only [PyData.depth, h2]; omega)
theorem wd_low {s : Str} (h : Wd s) : Low s := fun c hc => by
  have := (h.2.2 c hc).2
  omega
theorem str_shaped {x : Str} (h : Low x) : SeqAt.shaped (.str x) = true := by
  unfold SeqAt.shaped
  simp only [PyData.canLay0, PyData.depth, low_ok h]
  rfl
theorem strs_shapedL {ns : List Str} (h : ∀ s ∈ ns, Low s) : SeqAt.shaped (.list (ns.map PyData.str)) = true := by
  obtain ⟨h1, h2⟩ := lay_strs ns h
  unfold SeqAt.shaped
  simp only [PyData.canLay0, PyData.depth, h1, h2]
  decide
/-! ### things of any kind -/
def tupOf (H : Hp) : V → Option (List V)
  | .ref a => match H a with
    | some (.tup xs) => some xs
    | _ => none
  | _ => none
theorem tupOf_tup {H : Hp} {a : Addr} {xs : List V} (e : H a = some (.tup xs)) : tupOf H (.ref a) = some xs := by
  show (match H a with | some (.tup xs) => some xs | _ => none) = _
  rw [e]
theorem tupOf_lst {H : Hp} {a : Addr} {xs : List V} (e : H a = some (.lst xs)) : tupOf H (.ref a) = none := by
  show (match H a with | some (.tup xs) => some xs | _ => none) = _
  rw [e]
def goCols (w : Int) : Int → List V → Bool
  | _, [] => true
  | l, .int i :: xs => decide (l ≤ i ∧ i < w) && goCols w (i + 1) xs
  | _, _ :: _ => false
def colsB (H : Hp) (v : V) (w : Int) : Bool := match tupOf H v with
  | some xs => goCols w 0 xs
  | none => false
def countB (m : Int) : V → Bool
  | .int i => decide (1 ≤ i ∧ i ≤ m)
  | _ => false
def keyB (H : Hp) (v : V) (w : Int) : Bool := match tupOf H v with
  | some xs => goCols w 0 xs && decide (0 < (xs.length : Int) ∧ (xs.length : Int) < w)
  | none => false
def widthOf (kvs : List (Key × V)) (n : Str) : Option Int := match valV kvs (Sum.inr n) with
  | some (.int w) => some w
  | _ => none
def svcL (H : Hp) (kvs : List (Key × V)) : List V → Bool
  | [x, g, c] => (match x with
    | .str n => (match widthOf kvs n with
      | some w => colsB H g w
      | none => false)
    | _ => false) && (decide (c = .non) || countB 4 c)
  | _ => false
def svcB (H : Hp) (kvs : List (Key × V)) (v : V) : Bool := match tupOf H v with
  | some xs => svcL H kvs xs
  | none => false
theorem svcL_len {H : Hp} {kvs : List (Key × V)} : ∀ {xs : List V}, xs.length ≠ 3 → svcL H kvs xs = false
  | [], _ => rfl
  | [_], _ => rfl
  | [_, _], _ => rfl
  | [_, _, _], h => absurd rfl h
  | _ :: _ :: _ :: _ :: _, _ => rfl
/-- what was a tuple or a list is one still -/
structure Kp (H H' : Hp) : Prop where
  tup : ∀ a xs, H a = some (.tup xs) → H' a = some (.tup xs)
  lst : ∀ a xs, H a = some (.lst xs) → ∃ ys, H' a = some (.lst ys)
theorem Kp.refl (H : Hp) : Kp H H := ⟨fun _ _ e => e, fun _ xs e => ⟨xs, e⟩⟩
theorem Kp.trans {H H1 H2 : Hp} (a : Kp H H1) (b : Kp H1 H2) : Kp H H2 := ⟨fun x xs e => b.tup _ _ (a.tup x xs e), fun x xs e => by
  obtain ⟨ys, e1⟩ := a.lst x xs e
  exact b.lst x ys e1⟩
theorem Kp.same {H H' : Hp} (s : Same H H') : Kp H H' := ⟨fun _ _ e => s _ _ e, fun _ xs e => ⟨xs, s _ _ e⟩⟩
theorem Kp.chg {H H' : Hp} {p : Addr} (hP : PoolAt H p) (c : Chg p H H') : Kp H H' := ⟨chg_tup hP c, fun a xs e => by
  by_cases n : a = p
  · subst n
    obtain ⟨p0, p1, p2, p3, r, e', _⟩ := c.1
    exact ⟨_, e'⟩
  · exact ⟨xs, c.at n e⟩⟩
theorem Kp.dict {H : Hp} {t : Addr} {kvs : List (Key × V)} {o : HO} (e : H t = some (.dK kvs)) : Kp H (upd H t o) := ⟨upd_tup e (by intro _ z; cases z), fun a xs e' => ⟨xs, by
  rw [upd_ne (ne_of e' e (by intro z; cases z))]
  exact e'⟩⟩
theorem Thg.kp {H H' : Hp} {v : V} (h : Thg H v) (k : Kp H H') : Thg H' v := by
  cases h with
  | int i => exact .int i
  | bl b => exact .bl b
  | non => exact .non
  | str s h hc => exact .str s h hc
  | lst e =>
    obtain ⟨ys, e'⟩ := k.lst _ _ e
    exact .lst e'
  | tup e => exact .tup (k.tup _ _ e)
theorem tupOf_kp {H H' : Hp} {v : V} (h : Thg H v) (k : Kp H H') : tupOf H' v = tupOf H v := by
  cases h with
  | int i => rfl
  | bl b => rfl
  | non => rfl
  | str s h hc => rfl
  | lst e =>
    obtain ⟨ys, e'⟩ := k.lst _ _ e
    rw [tupOf_lst e, tupOf_lst e']
  | tup e => rw [tupOf_tup e, tupOf_tup (k.tup _ _ e)]
/-- a thing; if it is a tuple, its parts are things -/
structure Th1 (H : Hp) (v : V) : Prop where
  th : Thg H v
  it : ∀ xs, tupOf H v = some xs → xs.length ≤ 100 ∧ ∀ x ∈ xs, Thg H x
structure Th2 (H : Hp) (v : V) : Prop where
  th : Thg H v
  it : ∀ xs, tupOf H v = some xs → xs.length ≤ 100 ∧ ∀ x ∈ xs, Th1 H x
theorem Th1.kp {H H' : Hp} {v : V} (h : Th1 H v) (k : Kp H H') : Th1 H' v := ⟨h.th.kp k, fun xs e => by
  rw [tupOf_kp h.th k] at e
  exact ⟨(h.it xs e).1, fun x hx => ((h.it xs e).2 x hx).kp k⟩⟩
theorem Th2.kp {H H' : Hp} {v : V} (h : Th2 H v) (k : Kp H H') : Th2 H' v := ⟨h.th.kp k, fun xs e => by
  rw [tupOf_kp h.th k] at e
  exact ⟨(h.it xs e).1, fun x hx => ((h.it xs e).2 x hx).kp k⟩⟩
theorem Th1.flat {H : Hp} {v : V} (h : Thg H v) (n : tupOf H v = none) : Th1 H v := ⟨h, fun xs e => by rw [n] at e; cases e⟩
theorem Th2.flat {H : Hp} {v : V} (h : Thg H v) (n : tupOf H v = none) : Th2 H v := ⟨h, fun xs e => by rw [n] at e; cases e⟩
theorem Th1.tup {H : Hp} {a : Addr} {xs : List V} (e : H a = some (.tup xs)) (l : xs.length ≤ 100) (h : ∀ x ∈ xs, Thg H x) : Th1 H (.ref a) := ⟨.tup e, fun ys e' => by
  rw [tupOf_tup e] at e'
  cases e'
  exact ⟨l, h⟩⟩
theorem Th2.tup {H : Hp} {a : Addr} {xs : List V} (e : H a = some (.tup xs)) (l : xs.length ≤ 100) (h : ∀ x ∈ xs, Th1 H x) : Th2 H (.ref a) := ⟨.tup e, fun ys e' => by
  rw [tupOf_tup e] at e'
  cases e'
  exact ⟨l, h⟩⟩
theorem Th1.up {H : Hp} {v : V} (h : Th1 H v) (hx : ∀ xs, tupOf H v = some xs → ∀ x ∈ xs, tupOf H x = none) : Th2 H v := ⟨h.th, fun xs e => ⟨(h.it xs e).1, fun x hm => .flat ((h.it xs e).2 x hm) (hx xs e x hm)⟩⟩
theorem colsB_kp {H H' : Hp} {v : V} {w : Int} (h : Thg H v) (k : Kp H H') : colsB H' v w = colsB H v w := by
  unfold colsB
  rw [tupOf_kp h k]
theorem keyB_kp {H H' : Hp} {v : V} {w : Int} (h : Thg H v) (k : Kp H H') : keyB H' v w = keyB H v w := by
  unfold keyB
  rw [tupOf_kp h k]
/-! ### a dict of names -/
def kvK (kv : List (Str × V)) : List (Key × V) := kv.map fun p => (Sum.inr p.1, p.2)
theorem keys_kv (kv : List (Str × V)) : (kvK kv).map (·.1) = (kv.map (·.1)).map Sum.inr := by
  unfold kvK
  rw [List.map_map, List.map_map]
  rfl
theorem kv_nd {kv : List (Str × V)} (h : (kv.map (·.1)).Nodup) : ((kvK kv).map (·.1)).Nodup := by
  rw [keys_kv]
  exact inr_nd h
def valN (kv : List (Str × V)) (n : Str) : V := (valV (kvK kv) (Sum.inr n)).getD .non
theorem valN_mem {kv : List (Str × V)} {n : Str} (h : n ∈ kv.map (·.1)) (nd : (kv.map (·.1)).Nodup) : valV (kvK kv) (Sum.inr n) = some (valN kv n) ∧ (n, valN kv n) ∈ kv := by
  obtain ⟨p, hp, rfl⟩ := List.mem_map.mp h
  have e : valV (kvK kv) (Sum.inr p.1) = some p.2 := val_nodup (kvs := kvK kv) (kv_nd nd) (Sum.inr p.1, p.2) (List.mem_map.mpr ⟨p, hp, rfl⟩)
  have e2 : valN kv p.1 = p.2 := by
    unfold valN
    rw [e]
    rfl
  rw [e2]
  exact ⟨e, hp⟩
/-- names that are texts of small signs -/
def NmOk (s : Str) : Prop := s.length ≤ 100 ∧ Low s
theorem NmOk.thg {H : Hp} {s : Str} (h : NmOk s) : Thg H (.str s) := .str s (by have := h.1; omega) fun c hc => h.2 c hc
structure Dn (H : Hp) (t : Addr) (kv : List (Str × V)) : Prop where
  at_ : H t = some (.dK (kvK kv))
  nd : (kv.map (·.1)).Nodup
  nm : ∀ p ∈ kv, NmOk p.1
  len : kv.length < 64
theorem Dn.get {H : Hp} {t : Addr} {kv : List (Str × V)} (h : Dn H t kv) {n : Str} (hn : n ∈ kv.map (·.1)) : DGet H t (.str n) (some (valN kv n)) := by
  have g := DGet.k (k := Sum.inr n) h.at_
  rw [(valN_mem hn h.nd).1] at g
  exact g
noncomputable def sortN (ns : List Str) : List Str := Classical.epsilon fun ys => ys.Perm ns ∧ PyProof.Rows.sortedS ys = true
theorem sortN_eq {ns ys : List Str} (p : ys.Perm ns) (s : PyProof.Rows.sortedS ys = true) : sortN ns = ys := by
  have h := Classical.epsilon_spec (p := fun ys : List Str => ys.Perm ns ∧ PyProof.Rows.sortedS ys = true) ⟨ys, p, s⟩
  exact sorted_uniq (h.1.trans p.symm) h.2 s
theorem find_at {α : Type} {p : α → Bool} {x : α} : ∀ {ys : List α} {i : Nat}, (∀ y ∈ ys.take i, p y = false) → ys[i]? = some x → p x = true → ys.find? p = some x
  | [], _, _, h, _ => by simp at h
  | y :: ys, 0, _, h, e => by
    cases h
    exact List.find?_cons_of_pos e
  | y :: ys, i + 1, h, hx, e => by
    rw [List.find?_cons_of_neg (by rw [h y (by simp)]; decide)]
    exact find_at (i := i) (fun z hz => h z (by simp [hz])) (by simpa using hx) e
theorem find_no {α : Type} {p : α → Bool} {ys : List α} (h : ∀ y ∈ ys, p y = false) : ys.find? p = none := List.find?_eq_none.mpr fun y hy => by rw [h y hy]; decide
theorem take_snoc {α : Type} {ys : List α} {i : Nat} {x : α} (h : ys[i]? = some x) : ys.take (i + 1) = ys.take i ++ [x] := by
  rw [List.take_add_one, h]
  rfl
/-- how an error of two fields goes out -/
def Er2 (C : Addr) (f g : Str) (u v : V) (H : Hp) (E : XK) : Prop := ∀ dx H', H dx = none → H' dx = some (.xd [(g, v), (f, u)]) → Same H H' → E (.ref C) (some dx) H'
def spI2 (C : Addr) (f g : Str) : Sp := fun vs H Q _ => ∃ (x : Addr) (u v : V), vs = [.ref x, u, v] ∧ H x = some (exo x C none) ∧ ∀ dx H', H dx = none → dx ≠ x → H' x = some (exo x C (some dx)) → H' dx = some (exd dx [(g, v), (f, u)]) → (∀ b o, b ≠ x → b ≠ dx → H b = some o → H' b = some o) → Q .non H'
theorem er2_raise {C : Addr} {f g : Str} {u v : V} {H : Hp} {E : XK} (k : Er2 C f g u v H E) : ([u, v] : List V).length ≤ 1000 ∧ ∀ x, H x = none → spI2 C f g (.ref x :: ([u, v] ++ [])) (upd H x (exo x C none))
    (fun z H2 => z = .non ∧ ∃ (dd : Addr) (fs : List (Str × V)), H2 x = some (exo x C (some dd)) ∧ H2 dd = some (exd dd fs) ∧ H dd = none ∧ E (.ref C) (some dd) (upd (del H2 x) dd (.xd fs))) (fun _ _ _ => False) := by
  refine ⟨by show 2 ≤ 1000; decide, fun x hx => ⟨x, u, v, rfl, upd_same, fun dx H' hdx ne e1 e2 keep => ⟨rfl, dx, _, e1, e2, ?_, ?_⟩⟩⟩
  · rw [upd_ne ne] at hdx
    exact hdx
  · rw [upd_ne ne] at hdx
    refine k dx _ hdx upd_same fun b o e => ?_
    have nb : b ≠ x := ne_of_none e hx
    have nd : b ≠ dx := ne_of_none e hdx
    rw [upd_ne nd, del_ne nb]
    exact keep b o nb nd (by rw [upd_ne nb]; exact e)
theorem Thg.tyT {K : PySem.W.Frag} {H : Hp} {v : V} (h : Thg H v) : ∃ n, TyX K H v (.type n) ∧ kitB n "tuple" = some (tupOf H v).isSome := by
  cases h with
  | int i => exact ⟨_, .base (.int _), show kitB "int" "tuple" = some false by decide +kernel⟩
  | bl b => exact ⟨_, .base (.bl _), show kitB "bool" "tuple" = some false by decide +kernel⟩
  | non => exact ⟨_, .base .non, show kitB "NoneType" "tuple" = some false by decide +kernel⟩
  | str s => exact ⟨_, .base (.str _), show kitB "str" "tuple" = some false by decide +kernel⟩
  | lst e => exact ⟨_, .base (.lst e), by rw [tupOf_lst e]; exact show kitB "list" "tuple" = some false by decide +kernel⟩
  | tup e => exact ⟨_, .base (.tup e), by rw [tupOf_tup e]; exact show kitB "tuple" "tuple" = some true by decide +kernel⟩
theorem tupOf_some {H : Hp} {v : V} {xs : List V} (h : tupOf H v = some xs) : ∃ a, v = .ref a ∧ H a = some (.tup xs) := by
  cases v with
  | ref a =>
    refine ⟨a, rfl, ?_⟩
    have h' : (match H a with | some (.tup xs) => some xs | _ => none) = some xs := h
    cases e : H a with
    | none => rw [e] at h'; cases h'
    | some o =>
      rw [e] at h'
      cases o <;> first | (cases h'; rfl) | cases h'
  | _ => cases h
/-! ### two dicts by what they hold -/
def valP (f : List (Key × PyData)) (k : Key) : Option PyData := (f.find? fun p => decide (p.1 = k)).map (·.2)
def optE : Option PyData → Option PyData → Bool
  | none, none => true
  | some a, some b => PyData.eqv a b
  | _, _ => false
def eqP (f g : List (Key × PyData)) : Bool := (f.length == g.length) && f.all fun p => match valP g p.1 with
  | none => false
  | some v => PyData.eqv p.2 v
theorem valP_mem {k : Key} {v : PyData} {f : List (Key × PyData)} (h : valP f k = some v) : (k, v) ∈ f := by
  unfold valP at h
  cases e : f.find? fun p => decide (p.1 = k) with
  | none => rw [e] at h; cases h
  | some p =>
    rw [e] at h
    have h1 := List.mem_of_find?_eq_some e
    have h2 : p.1 = k := by simpa using List.find?_some e
    have h3 : p = (k, v) := by rw [← h2, ← Option.some.inj h]
    rw [← h3]
    exact h1
theorem valP_nd {f : List (Key × PyData)} (nd : (f.map (·.1)).Nodup) {k : Key} {v : PyData} (h : (k, v) ∈ f) : valP f k = some v := by
  induction f with
  | nil => cases h
  | cons p f ih =>
    rw [List.map_cons] at nd
    obtain ⟨n1, n2⟩ := List.nodup_cons.mp nd
    unfold valP at ih ⊢
    rcases List.mem_cons.mp h with rfl | h
    · rw [List.find?_cons_of_pos (by simp)]
      rfl
    · rw [List.find?_cons_of_neg ?_]
      · exact ih n2 h
      · intro z
        have z' : p.1 = k := by simpa using z
        exact n1 (by rw [z']; exact List.mem_map.mpr ⟨_, h, rfl⟩)
theorem valP_none {f : List (Key × PyData)} {k : Key} (h : valP f k = none) : k ∉ f.map (·.1) := fun hm => by
  obtain ⟨p, hp, e⟩ := List.mem_map.mp hm
  unfold valP at h
  cases e2 : f.find? fun p => decide (p.1 = k) with
  | some q => rw [e2] at h; cases h
  | none =>
    have := List.find?_eq_none.mp e2 p hp
    simp [e] at this
theorem eqP_iff {f g : List (Key × PyData)} (nf : (f.map (·.1)).Nodup) (ng : (g.map (·.1)).Nodup) : eqP f g = true ↔ ∀ k, optE (valP f k) (valP g k) = true := by
  unfold eqP
  rw [Bool.and_eq_true, List.all_eq_true, beq_iff_eq]
  constructor
  · rintro ⟨h1, h2⟩ k
    have sub : ∀ x ∈ f.map (·.1), x ∈ g.map (·.1) := fun x hx => by
      obtain ⟨p, hp, rfl⟩ := List.mem_map.mp hx
      have := h2 p hp
      cases e : valP g p.1 with
      | none => rw [e] at this; cases this
      | some v => exact List.mem_map.mpr ⟨_, valP_mem e, rfl⟩
    have back := (nd_sub nf sub).2 (by rw [List.length_map, List.length_map, h1]; exact Nat.le_refl _)
    cases e1 : valP f k with
    | none =>
      cases e2 : valP g k with
      | none => rfl
      | some v => exact absurd (back k (List.mem_map.mpr ⟨_, valP_mem e2, rfl⟩)) (valP_none e1)
    | some u =>
      have := h2 _ (valP_mem e1)
      cases e2 : valP g k with
      | none =>
        have e2' : valP g (k, u).1 = none := e2
        rw [e2'] at this
        cases this
      | some v =>
        have e2' : valP g (k, u).1 = some v := e2
        rw [e2'] at this
        exact this
  · intro h
    have key : ∀ f g : List (Key × PyData), (∀ k, optE (valP f k) (valP g k) = true) → (f.map (·.1)).Nodup → ∀ x ∈ f.map (·.1), x ∈ g.map (·.1) := fun f g h nf x hx => by
      obtain ⟨p, hp, rfl⟩ := List.mem_map.mp hx
      have := h p.1
      rw [valP_nd nf (k := p.1) (v := p.2) hp] at this
      cases e : valP g p.1 with
      | none => rw [e] at this; cases this
      | some v => exact List.mem_map.mpr ⟨_, valP_mem e, rfl⟩
    have h' : ∀ k, optE (valP g k) (valP f k) = true := fun k => by
      have := h k
      cases e1 : valP f k <;> cases e2 : valP g k <;> rw [e1, e2] at this <;> try (first | rfl | cases this)
      show PyData.eqv _ _ = true
      rw [PySem.W.eqv_comm]
      exact this
    have l1 := (nd_sub nf (key f g h nf)).1
    have l2 := (nd_sub ng (key g f h' ng)).1
    rw [List.length_map, List.length_map] at l1 l2
    refine ⟨by omega, fun p hp => ?_⟩
    have := h p.1
    rw [valP_nd nf (k := p.1) (v := p.2) hp] at this
    cases e : valP g p.1 with
    | none => rw [e] at this; cases this
    | some v => rw [e] at this; exact this
theorem optE_comm (a b : Option PyData) : optE a b = optE b a := by
  cases a <;> cases b <;> try rfl
  exact PySem.W.eqv_comm _ _
theorem eqP_comm {f g : List (Key × PyData)} (nf : (f.map (·.1)).Nodup) (ng : (g.map (·.1)).Nodup) : eqP f g = eqP g f := by
  apply Bool.eq_iff_iff.mpr
  rw [eqP_iff nf ng, eqP_iff ng nf]
  exact ⟨fun h k => by rw [optE_comm]; exact h k, fun h k => by rw [optE_comm]; exact h k⟩
theorem permP_nd {f g : List (Key × PyData)} (p : f.Perm g) (ng : (g.map (·.1)).Nodup) : (f.map (·.1)).Nodup := (p.map (·.1)).nodup_iff.mpr ng
theorem valP_perm {f g : List (Key × PyData)} (p : f.Perm g) (ng : (g.map (·.1)).Nodup) (k : Key) : valP f k = valP g k := by
  cases h : valP g k with
  | some v => exact valP_nd (permP_nd p ng) (p.mem_iff.mpr (valP_mem h))
  | none =>
    cases h' : valP f k with
    | none => rfl
    | some v => rw [valP_nd ng (p.mem_iff.mp (valP_mem h'))] at h; cases h
theorem eqP_perm {f f' g g' : List (Key × PyData)} (p : f.Perm f') (q : g.Perm g') (nf : (f'.map (·.1)).Nodup) (ng : (g'.map (·.1)).Nodup) : eqP f g = eqP f' g' := by
  apply Bool.eq_iff_iff.mpr
  rw [eqP_iff (permP_nd p nf) (permP_nd q ng), eqP_iff nf ng]
  exact ⟨fun h k => by have := h k; rw [valP_perm p nf, valP_perm q ng] at this; exact this, fun h k => by rw [valP_perm p nf, valP_perm q ng]; exact h k⟩
theorem eqP_refl {f : List (Key × PyData)} (nf : (f.map (·.1)).Nodup) (hd : ∀ p ∈ f, SeqAt.shaped p.2 = true) : eqP f f = true := by
  rw [eqP_iff nf nf]
  intro k
  cases e : valP f k with
  | none => rfl
  | some v => exact PySem.SeqAt.eqv_refl v (PySem.SeqAt.canLay_of_shaped (hd _ (valP_mem e)))
/-! data at an address, two levels deep -/
def dt0 : V → PyData
  | .int i => .int i
  | .str s => .str s
  | .bl b => .bool b
  | _ => .none
def dt1 (H : Hp) : V → PyData
  | .ref a => match H a with
    | some (.tup xs) => .tuple (xs.map dt0)
    | _ => .none
  | v => dt0 v
def dt2 (H : Hp) : V → PyData
  | .ref a => match H a with
    | some (.tup xs) => .tuple (xs.map (dt1 H))
    | _ => .none
  | v => dt0 v
/-- a dict at t that holds this data, in any order -/
def DDat (K : PySem.W.Frag) (H : Hp) (t : Addr) (f : List (Key × PyData)) : Prop := ∃ ks, H t = some (.dK ks) ∧ (ks.map fun p => (p.1, dt2 H p.2)).Perm f ∧ ∀ p ∈ ks, Dp K H p.2 (dt2 H p.2) ∧ SeqAt.shaped (dt2 H p.2) = true
theorem valP_map (D : V → PyData) (k : Key) : ∀ ls : List (Key × V), valP (ls.map fun p => (p.1, D p.2)) k = (valV ls k).map D
  | [] => rfl
  | p :: ls => by
    have ih := valP_map D k ls
    unfold valP at ih ⊢
    rw [List.map_cons]
    by_cases e : p.1 = k
    · rw [valV_pos e, List.find?_cons_of_pos (by simp [e])]
      rfl
    · rw [valV_neg e, List.find?_cons_of_neg (by simp [e])]
      exact ih
theorem eqT_P (D : V → PyData) (ks ls : List (Key × V)) : L2.eqT D ks ls = eqP (ks.map fun p => (p.1, D p.2)) (ls.map fun p => (p.1, D p.2)) := by
  unfold L2.eqT eqP
  rw [List.length_map, List.length_map, List.all_map]
  congr 1
  congr 1
  funext p
  show (match valV ls p.1 with | none => false | some v => PyData.eqv (D p.2) (D v)) = match valP (ls.map fun p => (p.1, D p.2)) p.1 with | none => false | some v => PyData.eqv (D p.2) v
  rw [valP_map]
  cases valV ls p.1 <;> rfl
theorem rEqT_of {K : PySem.W.Frag} {H : Hp} {a b : Addr} {f g : List (Key × PyData)} {neg : Bool} {Q : VK} (h1 : DDat K H a f) (h2 : DDat K H b g) (nf : (f.map (·.1)).Nodup) (ng : (g.map (·.1)).Nodup) (q : Q (.bl (if neg then !eqP f g else eqP f g)) H) : rEqT K neg (.ref a) (.ref b) H Q := by
  obtain ⟨ks, e1, p1, d1⟩ := h1
  obtain ⟨ls, e2, p2, d2⟩ := h2
  refine ⟨a, b, ks, ls, dt2 H, rfl, rfl, e1, e2, d1, d2, ?_⟩
  rw [eqT_P, eqP_perm p1 p2 nf ng]
  exact q
theorem DDat.of {K : PySem.W.Frag} {H : Hp} {t : Addr} {kvs : List (Key × V)} {f : List (Key × PyData)} (h : DctAt H t kvs) (e : (kvs.map fun p => (p.1, dt2 H p.2)) = f) (hd : ∀ p ∈ kvs, Dp K H p.2 (dt2 H p.2) ∧ SeqAt.shaped (dt2 H p.2) = true) : DDat K H t f := by
  obtain ⟨ks, e1, p⟩ := h
  exact ⟨ks, e1, by rw [← e]; exact p.map _, fun x hx => hd x (p.mem_iff.mp hx)⟩
/-! the data of tables, keys and services -/
def tabP (ts : List (Str × Int)) : List (Key × PyData) := ts.map fun p => (Sum.inr p.1, .int p.2)
def keyP (ks : List KeyE) : List (Key × PyData) := ks.map fun b => (Sum.inr b.1, .tuple (b.2.2.map PyData.int))
def capP : Option Int → PyData
  | none => .none
  | some c => .int c
def svP (ss : List SvE) : List (Key × PyData) := ss.map fun b => (Sum.inr b.name, .tuple [.str b.tab, .tuple (b.cols.map PyData.int), capP b.cap])
theorem tabP_nd {ts : List (Str × Int)} {m : Nat} {wm : Int} (h : Tabs ts m wm) : ((tabP ts).map (·.1)).Nodup := by
  have := tab_nd h
  unfold tabK at this
  unfold tabP
  rw [List.map_map] at this ⊢
  exact this
theorem keyP_nd {H : Hp} {ts : List (Str × Int)} {ks : List KeyE} (h : Keys H ts ks) : ((keyP ks).map (·.1)).Nodup := by
  have := inr_nd h.nd
  unfold keyP
  rw [List.map_map] at this ⊢
  exact this
theorem svP_nd {ss : List SvE} {n : Nat} (h : Nms (ss.map (·.name)) n) : ((svP ss).map (·.1)).Nodup := by
  have := inr_nd h.nd
  unfold svP
  rw [List.map_map] at this ⊢
  exact this
theorem wd_strOk {s : Str} (h : Wd s) : PyData.strOk s = true := by
  unfold PyData.strOk
  rw [Array.all_eq_true_iff_forall_mem]
  intro c hc
  have := (h.2.2 c (Array.mem_toList_iff.mpr hc)).2
  exact decide_eq_true (by omega)
theorem ints_tup_shaped (ns : List Int) : SeqAt.shaped (.tuple (ns.map PyData.int)) = true := by
  obtain ⟨h1, h2⟩ := lay_ints ns
  show ((PyData.tuple (ns.map PyData.int)).canLay0 && decide ((PyData.tuple (ns.map PyData.int)).depth ≤ 64)) = true
  simp only [PyData.canLay0, PyData.depth, h1, h2]
  decide
theorem sv_shaped {n : Str} (hn : PyData.strOk n = true) (ns : List Int) (c : Option Int) : SeqAt.shaped (.tuple [.str n, .tuple (ns.map PyData.int), capP c]) = true := by
  obtain ⟨h1, h2⟩ := lay_ints ns
  show ((PyData.tuple [.str n, .tuple (ns.map PyData.int), capP c]).canLay0 && decide ((PyData.tuple [.str n, .tuple (ns.map PyData.int), capP c]).depth ≤ 64)) = true
  cases c <;> simp only [PyData.canLay0, PyData.depth, PyData.canLayAll0, PyData.depthAll, capP, h1, h2, hn] <;> decide
theorem dt1_ints {H : Hp} {a : Addr} {ns : List Int} (h : H a = some (.tup (ns.map V.int))) : dt1 H (.ref a) = .tuple (ns.map PyData.int) := by
  show (match H a with | some (.tup xs) => PyData.tuple (xs.map dt0) | _ => .none) = _
  rw [h]
  show PyData.tuple ((ns.map V.int).map dt0) = _
  rw [List.map_map]
  rfl
theorem dt2_ints {H : Hp} {a : Addr} {ns : List Int} (h : H a = some (.tup (ns.map V.int))) : dt2 H (.ref a) = .tuple (ns.map PyData.int) := by
  show (match H a with | some (.tup xs) => PyData.tuple (xs.map (dt1 H)) | _ => .none) = _
  rw [h]
  show PyData.tuple ((ns.map V.int).map (dt1 H)) = _
  rw [List.map_map]
  rfl
theorem dt_cap (H : Hp) (c : Option Int) : dt1 H (capV c) = capP c := by cases c <;> rfl
theorem dp_cap {K : PySem.W.Frag} {H : Hp} (c : Option Int) : Dp K H (capV c) (capP c) := by
  cases c with
  | none => exact .non
  | some i => exact .int i
theorem dt2_told {H : Hp} {v ga : Addr} {n : Str} {cs : List Int} {c : Option Int} (h : Told H v n ga cs c) : dt2 H (.ref v) = .tuple [.str n, .tuple (cs.map PyData.int), capP c] := by
  show (match H v with | some (.tup xs) => PyData.tuple (xs.map (dt1 H)) | _ => .none) = _
  rw [h.tup]
  show PyData.tuple [dt1 H (.str n), dt1 H (.ref ga), dt1 H (capV c)] = _
  rw [dt1_ints h.cols, dt_cap]
  rfl
theorem ddat_tab {K : PySem.W.Frag} {H : Hp} {t : Addr} {ts : List (Str × Int)} (h : DctAt H t (tabK ts)) : DDat K H t (tabP ts) := by
  refine .of h ?_ fun p hp => ?_
  · unfold tabK tabP
    rw [List.map_map]
    rfl
  · obtain ⟨b, _, rfl⟩ := List.mem_map.mp hp
    exact ⟨.int _, rfl⟩
theorem ddat_key {K : PySem.W.Frag} {H : Hp} {t : Addr} {ts : List (Str × Int)} {ks : List KeyE} (h : DctAt H t (keyK ks)) (hK : Keys H ts ks) : DDat K H t (keyP ks) := by
  refine .of h ?_ fun p hp => ?_
  · unfold keyK keyP
    rw [List.map_map]
    refine List.map_congr_left fun b hb => ?_
    show (Sum.inr b.1, dt2 H (.ref b.2.1)) = _
    rw [dt2_ints (hK.at_ b hb)]
  · obtain ⟨b, hb, rfl⟩ := List.mem_map.mp hp
    show Dp K H (.ref b.2.1) (dt2 H (.ref b.2.1)) ∧ SeqAt.shaped (dt2 H (.ref b.2.1)) = true
    rw [dt2_ints (hK.at_ b hb)]
    exact ⟨.tup (.of (hK.at_ b hb)) (dp_ints _), ints_tup_shaped _⟩
theorem ddat_sv {K : PySem.W.Frag} {H : Hp} {t : Addr} {ss : List SvE} (h : DctAt H t (svK ss)) (hS : ∀ b ∈ ss, Told H b.at_ b.tab b.ga b.cols b.cap ∧ Wd b.tab) : DDat K H t (svP ss) := by
  refine .of h ?_ fun p hp => ?_
  · unfold svK svP
    rw [List.map_map]
    refine List.map_congr_left fun b hb => ?_
    show (Sum.inr b.name, dt2 H (.ref b.at_)) = _
    rw [dt2_told (hS b hb).1]
  · obtain ⟨b, hb, rfl⟩ := List.mem_map.mp hp
    show Dp K H (.ref b.at_) (dt2 H (.ref b.at_)) ∧ SeqAt.shaped (dt2 H (.ref b.at_)) = true
    rw [dt2_told (hS b hb).1]
    exact ⟨.tup (.of (hS b hb).1.tup) (.cons (.str _) (.cons (.tup (.of (hS b hb).1.cols) (dp_ints _)) (.cons (dp_cap _) .nil))), sv_shaped (wd_strOk (hS b hb).2) _ _⟩
/-! ### uncapped -/
def uncE (ss : List SvE) (n : Str) (p : Addr) : List SvE := ss.map fun c => if c.name = n then { c with at_ := p, cap := none } else c
theorem uncE_names (ss : List SvE) (n : Str) (p : Addr) : (uncE ss n p).map (·.name) = ss.map (·.name) := by
  unfold uncE
  rw [List.map_map]
  refine List.map_congr_left fun c _ => ?_
  show (if c.name = n then _ else c).name = c.name
  split <;> rfl
theorem fillE_unc (ts : List (Str × Int)) (ks : List KeyE) (n : Str) (p : Addr) : ∀ ss : List SvE, (fillE ts ks (uncE ss n p)).Sublist (fillE ts ks ss)
  | [] => List.Sublist.refl _
  | c :: ss => by
    have ih := fillE_unc ts ks n p ss
    unfold fillE uncE at ih ⊢
    rw [List.map_cons]
    by_cases e : c.name = n
    · rw [if_pos e]
      have hw : whE ts ks { c with at_ := p, cap := none } = true := rfl
      rw [List.filter_cons_of_neg (by rw [hw]; decide)]
      by_cases h : whE ts ks c = true
      · rw [List.filter_cons_of_neg (by rw [h]; decide)]
        exact ih
      · rw [List.filter_cons_of_pos (by simp [h]), List.map_cons]
        exact ih.cons _
    · rw [if_neg e]
      by_cases h : whE ts ks c = true
      · rw [List.filter_cons_of_neg (by rw [h]; decide), List.filter_cons_of_neg (by rw [h]; decide)]
        exact ih
      · rw [List.filter_cons_of_pos (by simp [h]), List.filter_cons_of_pos (by simp [h]), List.map_cons, List.map_cons]
        exact ih.cons₂ _
theorem putK_map {ss : List SvE} {n : Str} (p : Addr) (h : n ∈ ss.map (·.name)) : putK (svK ss) (Sum.inr n) (V.ref p) = svK (uncE ss n p) := by
  unfold putK
  have ha : ((svK ss).any fun kv => decide (kv.1 = Sum.inr n)) = true := by
    obtain ⟨b, hb, e⟩ := List.mem_map.mp h
    exact List.any_eq_true.mpr ⟨_, List.mem_map.mpr ⟨b, hb, rfl⟩, decide_eq_true (by rw [e])⟩
  rw [if_pos ha]
  unfold svK uncE
  rw [List.map_map, List.map_map]
  refine List.map_congr_left fun c _ => ?_
  show (if (Sum.inr c.name : Key) = Sum.inr n then _ else _) = (fun b : SvE => ((Sum.inr b.name : Key), V.ref b.at_)) (if c.name = n then _ else c)
  by_cases e : c.name = n
  · rw [if_pos e, if_pos (by rw [e])]
  · rw [if_neg e, if_neg (fun z => e (Sum.inr.inj z))]
theorem putK_perm {κ : Type} [DecidableEq κ] {a b : List (κ × V)} (p : a.Perm b) (k : κ) (v : V) : (putK a k v).Perm (putK b k v) := by
  unfold putK
  have e : (a.any fun kv => decide (kv.1 = k)) = b.any fun kv => decide (kv.1 = k) := by
    apply Bool.eq_iff_iff.mpr
    rw [List.any_eq_true, List.any_eq_true]
    exact ⟨fun ⟨x, hx, h⟩ => ⟨x, p.mem_iff.mp hx, h⟩, fun ⟨x, hx, h⟩ => ⟨x, p.mem_iff.mpr hx, h⟩⟩
  rw [e]
  split
  · exact p.map _
  · exact p.append_right _
theorem name_uniq : ∀ {ss : List SvE} {b c : SvE}, (ss.map (·.name)).Nodup → b ∈ ss → c ∈ ss → b.name = c.name → b = c
  | x :: ss, b, c, nd, hb, hc, e => by
    rw [List.map_cons] at nd
    obtain ⟨n1, n2⟩ := List.nodup_cons.mp nd
    rcases List.mem_cons.mp hb with rfl | hb
    · rcases List.mem_cons.mp hc with rfl | hc
      · rfl
      · exact absurd (by rw [e]; exact List.mem_map.mpr ⟨_, hc, rfl⟩) n1
    · rcases List.mem_cons.mp hc with rfl | hc
      · exact absurd (by rw [← e]; exact List.mem_map.mpr ⟨_, ‹b ∈ ss›, rfl⟩) n1
      · exact name_uniq n2 ‹b ∈ ss› ‹c ∈ ss› e
section
/-! ### a schema's parts changed -/
theorem kd_names {kd : List (Key × V)} {zs : List Str} (h : kd.map (·.1) = zs.map Sum.inr) : kd.map (fun kv => kV kv.1) = zs.map V.str := by
  have : kd.map (fun kv => kV kv.1) = (kd.map (·.1)).map kV := by rw [List.map_map]; rfl
  rw [this, h, List.map_map]
  rfl
def upTs (ts : List (Str × Int)) (n : Str) (w : Int) : List (Str × Int) := ts.map fun b => if b.1 = n then (b.1, w) else b
theorem upTs_names (ts : List (Str × Int)) (n : Str) (w : Int) : (upTs ts n w).map (·.1) = ts.map (·.1) := by
  unfold upTs
  rw [List.map_map]
  refine List.map_congr_left fun b _ => ?_
  show (if b.1 = n then (b.1, w) else b).1 = b.1
  split <;> rfl
theorem upTs_put {ts : List (Str × Int)} {n : Str} {w : Int} (h : n ∈ ts.map (·.1)) : putK (tabK ts) (Sum.inr n) (.int w) = tabK (upTs ts n w) := by
  unfold putK
  have ha : ((tabK ts).any fun kv => decide (kv.1 = Sum.inr n)) = true := by
    obtain ⟨b, hb, e⟩ := List.mem_map.mp h
    exact List.any_eq_true.mpr ⟨_, List.mem_map.mpr ⟨b, hb, rfl⟩, decide_eq_true (by rw [e])⟩
  rw [if_pos ha]
  unfold tabK upTs
  rw [List.map_map, List.map_map]
  refine List.map_congr_left fun c _ => ?_
  show (if (Sum.inr c.1 : Key) = Sum.inr n then _ else _) = (fun b : Str × Int => ((Sum.inr b.1 : Key), V.int b.2)) (if c.1 = n then (c.1, w) else c)
  by_cases e : c.1 = n
  · rw [if_pos e, if_pos (by rw [e])]
  · rw [if_neg e, if_neg (fun z => e (Sum.inr.inj z))]
theorem upTs_len (ts : List (Str × Int)) (n : Str) (w : Int) : (upTs ts n w).length = ts.length := List.length_map ..
theorem upTs_mem {ts : List (Str × Int)} {n x : Str} {w v : Int} (h : (x, v) ∈ ts) (nd : (ts.map (·.1)).Nodup) {v0 : Int} (h0 : (n, v0) ∈ ts) (hw : v0 ≤ w) : ∃ v', (x, v') ∈ upTs ts n w ∧ v ≤ v' := by
  by_cases e : x = n
  · subst e
    have : v = v0 := by rw [← widthAt_mem nd h, ← widthAt_mem nd h0]
    refine ⟨w, List.mem_map.mpr ⟨_, h, by rw [if_pos rfl]⟩, by omega⟩
  · exact ⟨v, List.mem_map.mpr ⟨_, h, by rw [if_neg e]⟩, Int.le_refl _⟩
theorem Tabs.upd {ts : List (Str × Int)} {m : Nat} {wm : Int} {n : Str} {w : Int} (h : Tabs ts m wm) (h1 : 1 ≤ w) (h2 : w ≤ wm) : Tabs (upTs ts n w) m wm := ⟨by rw [upTs_names]; exact h.nm, fun b hb => by
  obtain ⟨c, hc, rfl⟩ := List.mem_map.mp hb
  show 1 ≤ (if c.1 = n then (c.1, w) else c).2 ∧ (if c.1 = n then (c.1, w) else c).2 ≤ wm
  split
  · exact ⟨h1, h2⟩
  · exact h.wd c hc⟩
theorem Keys.upTs {H : Hp} {ts : List (Str × Int)} {ks : List KeyE} {m : Nat} {wm : Int} {n : Str} {w v0 : Int} (hT : Tabs ts m wm) (h : Keys H ts ks) (h0 : (n, v0) ∈ ts) (hw : v0 ≤ w) : Keys H (upTs ts n w) ks :=
  ⟨h.nd, by rw [upTs_len]; exact h.le, h.at_, fun b hb => by
    obtain ⟨v, hv, hc, h1, h2⟩ := h.ok b hb
    obtain ⟨v', hv', hle⟩ := upTs_mem hv hT.nm.nd h0 hw
    exact ⟨v', hv', hc.up hle, h1, by omega⟩⟩
theorem SvOk.upTs {H : Hp} {ts : List (Str × Int)} {b : SvE} {m : Nat} {wm : Int} {n : Str} {w v0 : Int} (hT : Tabs ts m wm) (h : SvOk H ts b) (h0 : (n, v0) ∈ ts) (hw : v0 ≤ w) : SvOk H (upTs ts n w) b := by
  obtain ⟨v, hv, hc, hl⟩ := h.ok
  obtain ⟨v', hv', hle⟩ := upTs_mem hv hT.nm.nd h0 hw
  exact ⟨h.told, ⟨v', hv', hc.up hle, hl⟩, h.cap⟩
structure Ch3 (p t k v : Addr) (m n : Nat) (H0 H : Hp) (ts : List (Str × Int)) (ks : List KeyE) (ss : List SvE) : Prop where
  mm : m ≤ 26
  nn : n ≤ 26
  pool : PoolAt H p
  tb : DctAt H t (tabK ts)
  ky : DctAt H k (keyK ks)
  sv : DctAt H v (svK ss)
  hT : Tabs ts m 4
  hK : Keys H ts ks
  hS : ∀ b ∈ ss, SvOk H ts b
  nm : Nms (ss.map (·.name)) n
  oth : ∀ b o, b ≠ p → b ≠ t → b ≠ k → b ≠ v → H0 b = some o → H b = some o
theorem DctAt.ne {H : Hp} {t p : Addr} {kvs : List (Key × V)} (h : DctAt H t kvs) (hP : PoolAt H p) : t ≠ p := by
  obtain ⟨kd, e, _⟩ := h
  exact pool_ne hP e (by intro _ z; cases z)
theorem DctAt.chg {H H' : Hp} {t p : Addr} {kvs : List (Key × V)} (h : DctAt H t kvs) (hP : PoolAt H p) (c : Chg p H H') : DctAt H' t kvs := by
  have n := h.ne hP
  obtain ⟨kd, e, q⟩ := h
  exact ⟨kd, c.at n e, q⟩
theorem pool_ne' {H : Hp} {p b : Addr} (h : PoolAt H p) (e : H b = none) : b ≠ p := Chg.ne h e
theorem Ch3.chg {p t k v : Addr} {m n : Nat} {H0 H H' : Hp} {ts : List (Str × Int)} {ks : List KeyE} {ss : List SvE} (h : Ch3 p t k v m n H0 H ts ks ss) (c : Chg p H H') : Ch3 p t k v m n H0 H' ts ks ss :=
  ⟨h.mm, h.nn, c.1, h.tb.chg h.pool c, h.ky.chg h.pool c, h.sv.chg h.pool c, h.hT, h.hK.mono (chg_tup h.pool c), fun b hb => (h.hS b hb).mono (chg_tup h.pool c), h.nm, fun b o n1 n2 n3 n4 e => c.at n1 (h.oth b o n1 n2 n3 n4 e)⟩
theorem Ch3.same {p t k v : Addr} {m n : Nat} {H0 H H' : Hp} {ts : List (Str × Int)} {ks : List KeyE} {ss : List SvE} (h : Ch3 p t k v m n H0 H ts ks ss) (c : Same H H') : Ch3 p t k v m n H0 H' ts ks ss :=
  ⟨h.mm, h.nn, h.pool.same c, h.tb.same c, h.ky.same c, h.sv.same c, h.hT, h.hK.mono fun _ _ e => c _ _ e, fun b hb => (h.hS b hb).mono fun _ _ e => c _ _ e, h.nm, fun b o n1 n2 n3 n4 e => c _ _ (h.oth b o n1 n2 n3 n4 e)⟩
/-- a dict of the three is written -/
theorem DctAt.oth {H : Hp} {t b : Addr} {kvs : List (Key × V)} {o : HO} (h : DctAt H t kvs) (n : t ≠ b) : DctAt (upd H b o) t kvs := by
  obtain ⟨kd, e, q⟩ := h
  exact ⟨kd, by rw [upd_ne n]; exact e, q⟩
theorem DctAt.putD {H : Hp} {t : Addr} {kvs : List (Key × V)} {k : Key} {v : V} (h : DctAt H t kvs) : ∃ kd, H t = some (.dK kd) ∧ kd.length = kvs.length ∧ DctAt (upd H t (.dK (putK kd k v))) t (putK kvs k v) := by
  obtain ⟨kd, e, q⟩ := h
  exact ⟨kd, e, q.length_eq, _, upd_same, putK_perm q k v⟩
theorem DctAt.tup {H : Hp} {t : Addr} {kvs : List (Key × V)} (h : DctAt H t kvs) (o : HO) : ∀ b xs, H b = some (.tup xs) → upd H t o b = some (.tup xs) := by
  obtain ⟨kd, e, q⟩ := h
  exact upd_tup e (by intro _ z; cases z)
theorem DctAt.pool {H : Hp} {t p : Addr} {kvs : List (Key × V)} (h : DctAt H t kvs) (hP : PoolAt H p) (o : HO) : PoolAt (upd H t o) p := by
  have n := h.ne hP
  obtain ⟨p0, p1, p2, p3, r, e, c⟩ := hP
  exact ⟨p0, p1, p2, p3, r, by rw [upd_ne n.symm]; exact e, c⟩
theorem keyK_drop (ks : List KeyE) (n : Str) : dropK (keyK ks) (Sum.inr n) = keyK (ks.filter fun b => decide (b.1 ≠ n)) := by
  unfold dropK keyK
  rw [List.filter_map]
  congr 1
  refine List.filter_congr fun b _ => ?_
  show decide ((Sum.inr b.1 : Key) ≠ Sum.inr n) = decide (b.1 ≠ n)
  by_cases e : b.1 = n
  · rw [e]
    simp
  · have e' : (Sum.inr b.1 : Key) ≠ Sum.inr n := fun z => e (Sum.inr.inj z)
    rw [decide_eq_true e, decide_eq_true e']
theorem dropK_perm {κ : Type} [DecidableEq κ] {x y : List (κ × V)} (p : x.Perm y) (k : κ) : (dropK x k).Perm (dropK y k) := p.filter _
theorem Ch3.putT {p t k v : Addr} {m n : Nat} {H0 H : Hp} {ts : List (Str × Int)} {ks : List KeyE} {ss : List SvE} (h : Ch3 p t k v m n H0 H ts ks ss) (ntk : t ≠ k) (ntv : t ≠ v) {nm : Str} {w w' : Int} (hm : (nm, w) ∈ ts) (h1 : w ≤ w') (h2 : w' ≤ 4) :
    ∃ kd, H t = some (.dK kd) ∧ kd.length < sizeLine ∧ Ch3 p t k v m n H0 (upd H t (.dK (putK kd (Sum.inr nm) (.int w')))) (upTs ts nm w') ks ss := by
  have hw := h.hT.wd _ hm
  have hmem : nm ∈ ts.map (·.1) := List.mem_map.mpr ⟨_, hm, rfl⟩
  obtain ⟨kd, e, l, d⟩ := h.tb.putD (k := Sum.inr nm) (v := .int w')
  rw [upTs_put hmem] at d
  have tup := h.tb.tup (.dK (putK kd (Sum.inr nm) (.int w')))
  refine ⟨kd, e, ?_, h.mm, h.nn, h.tb.pool h.pool _, d, h.ky.oth ntk.symm, h.sv.oth ntv.symm, h.hT.upd (by have := hw.1; omega) h2, (h.hK.upTs h.hT hm h1).mono tup, fun b hb => ((h.hS b hb).upTs h.hT hm h1).mono tup, h.nm, fun b o n1 n2 n3 n4 e => ?_⟩
  · rw [l]
    unfold tabK
    rw [List.length_map, h.hT.len]
    have := h.hT.len
    have := h.mm
    exact small1000 (by omega)
  · rw [upd_ne n2]
    exact h.oth b o n1 n2 n3 n4 e
theorem Ch3.putK_ {p t k v : Addr} {m n : Nat} {H0 H : Hp} {ts : List (Str × Int)} {ks : List KeyE} {ss : List SvE} (h : Ch3 p t k v m n H0 H ts ks ss) (ntk : t ≠ k) (nkv : k ≠ v) {nm : Str} {w : Int} (hm : (nm, w) ∈ ts) (h1 : 1 < w) (hno : nm ∉ ks.map (·.1)) {x : Addr} (hx : H x = some (.tup [.int (w - 1)])) :
    ∃ kd, H k = some (.dK kd) ∧ kd.length < sizeLine ∧ Ch3 p t k v m n H0 (upd H k (.dK (putK kd (Sum.inr nm) (.ref x)))) ts (ks ++ [(nm, x, [w - 1])]) ss := by
  obtain ⟨kd, e, l, d⟩ := h.ky.putD (k := Sum.inr nm) (v := .ref x)
  have e1 : putK (keyK ks) (Sum.inr nm) (V.ref x) = keyK (ks ++ [(nm, x, [w - 1])]) := by
    unfold keyK
    rw [snoc_map]
    refine putK_new _ (valV_no ?_)
    have e := keys_key ks
    unfold keyK at e
    rw [e]
    exact inr_no hno
  rw [e1] at d
  have tup := h.ky.tup (.dK (putK kd (Sum.inr nm) (.ref x)))
  have hlen := h.hK.le
  have hlt := h.hT.len
  have hmm := h.mm
  have nd : ((ks ++ [(nm, x, [w - 1])]).map (·.1)).Nodup := by
    rw [snoc_map]
    exact List.nodup_append.mpr ⟨h.hK.nd, by simp, fun a ha b hb e => hno (by have hb' : b = nm := List.mem_singleton.mp hb; rw [← hb', ← e]; exact ha)⟩
  have hok : ∀ b ∈ ks ++ [(nm, x, [w - 1])], ∃ w', (b.1, w') ∈ ts ∧ Cols b.2.2 w' ∧ 1 ≤ b.2.2.length ∧ (b.2.2.length : Int) < w' := fun b hb => by
    rcases List.mem_append.mp hb with h' | h'
    · exact h.hK.ok b h'
    · rw [List.mem_singleton.mp h']
      refine ⟨w, hm, ⟨List.pairwise_singleton _ _, fun c hc => ?_⟩, Nat.le_refl 1, h1⟩
      rw [List.mem_singleton.mp hc]
      omega
  have le' : (ks ++ [(nm, x, [w - 1])]).length ≤ ts.length := by
    have sub := (nd_sub nd (ys := ts.map (·.1)) fun y hy => by
      obtain ⟨b, hb, rfl⟩ := List.mem_map.mp hy
      obtain ⟨w', hw', _⟩ := hok b hb
      exact List.mem_map.mpr ⟨_, hw', rfl⟩).1
    rw [List.length_map, List.length_map] at sub
    exact sub
  refine ⟨kd, e, ?_, h.mm, h.nn, h.ky.pool h.pool _, h.tb.oth ntk, d, h.sv.oth nkv.symm, h.hT, ⟨nd, le', fun b hb => ?_, hok⟩, fun b hb => (h.hS b hb).mono tup, h.nm, fun b o n1 n2 n3 n4 e => ?_⟩
  · rw [l]
    unfold keyK
    rw [List.length_map]
    exact small1000 (by omega)
  · rcases List.mem_append.mp hb with h' | h'
    · exact tup _ _ (h.hK.at_ b h')
    · rw [List.mem_singleton.mp h']
      exact tup _ _ hx
  · rw [upd_ne n3]
    exact h.oth b o n1 n2 n3 n4 e
theorem Ch3.dropK_ {p t k v : Addr} {m n : Nat} {H0 H : Hp} {ts : List (Str × Int)} {ks : List KeyE} {ss : List SvE} (h : Ch3 p t k v m n H0 H ts ks ss) (ntk : t ≠ k) (nkv : k ≠ v) {nm : Str} {b : KeyE} (hb : keyAt ks nm = some b) :
    ∃ kd, H k = some (.dK kd) ∧ valV kd (Sum.inr nm) = some (.ref b.2.1) ∧ Ch3 p t k v m n H0 (upd H k (.dK (dropK kd (Sum.inr nm)))) ts (ks.filter fun c => decide (c.1 ≠ nm)) ss := by
  obtain ⟨kd, e, q⟩ := h.ky
  have nd := key_nd h.hT h.hK
  have hv : valV kd (Sum.inr nm) = some (.ref b.2.1) := by
    rw [valV_perm q nd, keyAt_val, hb]
    rfl
  have tup := h.ky.tup (.dK (dropK kd (Sum.inr nm)))
  have sl : (ks.filter fun c => decide (c.1 ≠ nm)).Sublist ks := List.filter_sublist
  refine ⟨kd, e, hv, h.mm, h.nn, h.ky.pool h.pool _, h.tb.oth ntk, ⟨_, upd_same, ?_⟩, h.sv.oth nkv.symm, h.hT, ⟨h.hK.nd.sublist (sl.map _), Nat.le_trans sl.length_le h.hK.le, fun c hc => tup _ _ (h.hK.at_ c (sl.subset hc)), fun c hc => h.hK.ok c (sl.subset hc)⟩, fun b hb => (h.hS b hb).mono tup, h.nm, fun b o n1 n2 n3 n4 e => ?_⟩
  · rw [← keyK_drop]
    exact dropK_perm q _
  · rw [upd_ne n3]
    exact h.oth b o n1 n2 n3 n4 e
theorem Ch3.putS {p t k v : Addr} {m n : Nat} {H0 H : Hp} {ts : List (Str × Int)} {ks : List KeyE} {ss : List SvE} (h : Ch3 p t k v m n H0 H ts ks ss) (ntv : t ≠ v) (nkv : k ≠ v) {b : SvE} (hb : b ∈ ss) {x : Addr} (hx : H x = some (.tup [.str b.tab, .ref b.ga, .non])) :
    ∃ kd, H v = some (.dK kd) ∧ kd.length < sizeLine ∧ ∃ ss', Ch3 p t k v m n H0 (upd H v (.dK (putK kd (Sum.inr b.name) (.ref x)))) ts ks ss' := by
  have hmem : b.name ∈ ss.map (·.name) := List.mem_map.mpr ⟨b, hb, rfl⟩
  obtain ⟨kd, e, l, d⟩ := h.sv.putD (k := Sum.inr b.name) (v := .ref x)
  rw [putK_map x hmem] at d
  have tup := h.sv.tup (.dK (putK kd (Sum.inr b.name) (.ref x)))
  have hnn := h.nn
  refine ⟨kd, e, ?_, uncE ss b.name x, h.mm, h.nn, h.sv.pool h.pool _, h.tb.oth ntv, h.ky.oth nkv, d, h.hT, h.hK.mono tup, fun c hc => ?_, by rw [uncE_names]; exact h.nm, fun b o n1 n2 n3 n4 e => ?_⟩
  · rw [l]
    unfold svK
    have := h.nm.len
    rw [List.length_map] at this
    rw [List.length_map]
    exact small1000 (by omega)
  · obtain ⟨c0, hc0, rfl⟩ := List.mem_map.mp hc
    have old := (h.hS c0 hc0).mono tup
    show SvOk _ ts (if c0.name = b.name then { c0 with at_ := x, cap := none } else c0)
    by_cases e : c0.name = b.name
    · rw [if_pos e]
      have ebb := name_uniq h.nm.nd hc0 hb e
      subst ebb
      exact ⟨⟨tup _ _ hx, old.told.cols⟩, old.ok, fun z hz => by cases hz⟩
    · rw [if_neg e]
      exact old
  · rw [upd_ne n4]
    exact h.oth b o n1 n2 n3 n4 e
end
/-! ### a Schema made of dicts that are right -/
theorem SchO.chg {C p dx d1 d2 d3 a : Addr} {H H' : Hp} {ts : List (Str × Int)} {ks : List KeyE} {ss : List SvE} {m n : Nat} (h : SchO C p dx d1 d2 d3 H ts ks ss m n) (hP : PoolAt H a) (c : Chg a H H') : SchO C p dx d1 d2 d3 H' ts ks ss m n :=
  ⟨c.at (pool_ne hP h.ob (by intro _ z; cases z)) h.ob, h.tb.chg hP c, h.ky.chg hP c, h.sv.chg hP c, h.hT, h.hK.mono (chg_tup hP c), h.hS.mono (chg_tup hP c), h.m5, h.n8⟩
theorem SchAt.chg {C p a : Addr} {H H' : Hp} {ts : List (Str × Int)} {ks : List KeyE} {ss : List SvE} {m n : Nat} (h : SchAt C p H ts ks ss m n) (hP : PoolAt H a) (c : Chg a H H') : SchAt C p H' ts ks ss m n := by
  obtain ⟨dx, d1, d2, d3, o⟩ := h
  exact ⟨dx, d1, d2, d3, o.chg hP c⟩
theorem mk_schema {C t k v : Addr} {H : Hp} {ts : List (Str × Int)} {ks : List KeyE} {ss : List SvE} {m n : Nat} {Q' : Hp → Prop} {E : XK} {x dx : Addr} (ht : DctAt H t (tabK ts)) (hk : DctAt H k (keyK ks)) (hv : DctAt H v (svK ss)) (hT : Tabs ts m 4) (hK : Keys H ts ks) (hS : Svcs H ts ks ss n) (m1 : 1 ≤ m) (m5 : m ≤ 5) (n1 : 1 ≤ n) (n8 : n ≤ 8)
    (fx : H x = none) (fdx : H dx = none) (ndx : dx ≠ x) (q : ∀ H', SchAt C x H' ts ks ss m n → Same H H' → Q' H') :
    spSInit C (.ref x :: ([.ref t, .ref k, .ref v] ++ [])) (upd (upd H dx (.own x)) x (.ins C dx [])) (fun u H2 => u = .non ∧ Q' H2) E := by
  have s1 := same_upd (o := .own x) fdx
  have f1 : upd H dx (.own x) x = none := by rw [upd_ne ndx.symm]; exact fx
  have s := s1.trans (same_upd (o := .ins C dx []) f1)
  exact ⟨x, dx, t, k, v, ts, ks, ss, m, n, rfl, upd_same, ht.same s, hk.same s, hv.same s, hT, hK.mono fun _ _ e => s _ _ e, hS.mono fun _ _ e => s _ _ e, m1, m5, n1, n8, fun Hz e1 e2 e3 Oz _ _ _ keep => ⟨rfl, q Hz ⟨dx, e1, e2, e3, Oz⟩ fun b u e => keep b u (ne_of_none e fx) (s _ _ e)⟩⟩
/-- the services, some of them without their caps -/
def Unc (ss ss' : List SvE) (f : Str → Bool) : Prop := ss'.map (fun b => (b.name, b.tab, b.ga, b.cols, b.cap)) = ss.map fun b => (b.name, b.tab, b.ga, b.cols, if f b.name = true then none else b.cap)
theorem Unc.step {ss ss' : List SvE} {f g : Str → Bool} {n : Str} {p : Addr} (h : Unc ss ss' f) (hg : ∀ x, g x = (f x || decide (x = n))) : Unc ss (uncE ss' n p) g := by
  unfold Unc at h ⊢
  unfold uncE
  rw [List.map_map]
  have e1 : ss'.map ((fun b : SvE => (b.name, b.tab, b.ga, b.cols, b.cap)) ∘ fun c => if c.name = n then { c with at_ := p, cap := none } else c) = (ss'.map (fun b => (b.name, b.tab, b.ga, b.cols, b.cap))).map fun q => (q.1, q.2.1, q.2.2.1, q.2.2.2.1, if decide (q.1 = n) = true then none else q.2.2.2.2) := by
    rw [List.map_map]
    refine List.map_congr_left fun c _ => ?_
    show (fun b : SvE => (b.name, b.tab, b.ga, b.cols, b.cap)) (if c.name = n then { c with at_ := p, cap := none } else c) = (c.name, c.tab, c.ga, c.cols, if decide (c.name = n) = true then none else c.cap)
    by_cases e : c.name = n
    · rw [if_pos e, if_pos (decide_eq_true e)]
    · rw [if_neg e, if_neg (by rw [decide_eq_false e]; decide)]
  rw [e1, h, List.map_map]
  refine List.map_congr_left fun c _ => ?_
  show (c.name, c.tab, c.ga, c.cols, if decide (c.name = n) = true then none else (if f c.name = true then none else c.cap)) = (c.name, c.tab, c.ga, c.cols, if g c.name = true then none else c.cap)
  rw [hg]
  by_cases e : c.name = n <;> cases f c.name <;> simp [e]
theorem svAt_some' {ss : List SvE} {n : Str} (h : n ∈ ss.map (·.name)) : ∃ b, svAt ss n = some b := by
  obtain ⟨b, hb, e⟩ := List.mem_map.mp h
  cases q : svAt ss n with
  | some b => exact ⟨b, rfl⟩
  | none =>
    unfold svAt at q
    have := List.find?_eq_none.mp q b hb
    simp [e] at this
section
variable {P : Program} {w : World} {K : PySem.W.Frag} {mg : Str → Option Value} {base : Heap} {a : Nat → Addr} {d : Nat → FuncData}
def spUncap (C CU : Addr) : Sp := fun vs H Q E => ∃ (p l : Addr) (ts : List (Str × Int)) (ks : List KeyE) (ss : List SvE) (m n : Nat) (names : List Str), vs = [.ref p, .ref l] ∧ SchAt C p H ts ks ss m n ∧ 1 ≤ m ∧ 1 ≤ n ∧ H l = some (.lst (names.map V.str)) ∧ names.length ≤ 100 ∧
  ((∀ x ∈ names, x ∈ ss.map (·.name)) → ∀ r H' ss', SchAt C r H' ts ks ss' m n → Unc ss ss' (fun x => decide (x ∈ names)) → H r = none → Same H H' → Q (.ref r) H') ∧
  (∀ i x, names[i]? = some x → (∀ y ∈ names.take i, y ∈ ss.map (·.name)) → x ∉ ss.map (·.name) → ∀ H', Same H H' → Unk CU (.str x) H' E)
end
section
variable {P : Program} {w : World} {K : PySem.W.Frag} {mg : Str → Option Value} {base : Heap} {a : Nat → Addr} {d : Nat → FuncData}
def spParts : Sp := fun vs H Q _ => ∃ (p ca : Addr) (m more : Nat) (wm : Int) (cps : List (Option Int)), vs = [.ref p, .int (m : Int), .int wm, .ref ca, .int (more : Int)] ∧ PoolAt H p ∧ H ca = some (.lst (cps.map capV)) ∧ ca ≠ p ∧ 1 ≤ m ∧ m + more ≤ 26 ∧ 1 ≤ wm ∧ wm ≤ 100 ∧ 1 ≤ cps.length ∧ cps.length ≤ 100 ∧ (∀ c, some c ∈ cps → 1 ≤ c ∧ c ≤ 4) ∧
  ∀ (l t k v : Addr) (ts : List (Str × Int)) (ks : List KeyE) (ss : List SvE) (H' : Hp), H' l = some (.lst [.ref t, .ref k, .ref v]) → H l = none → H t = none → H k = none → H v = none → t ≠ k → H' t = some (.dK (tabK ts)) → H' k = some (.dK (keyK ks)) → H' v = some (.dK (svK ss)) → Tabs ts m wm → Keys H' ts ks → Svcs H' ts ks ss (m + more) → Chg p H H' → Q (.ref l) H'
theorem ok_parts (T : Txt K mg a d) : FnOk P w K mg base CX0 6 (a 59) (d 59) ["_law_pool_here", "_law_many", "_law_widest", "_law_caps", "_law_more_here"] spParts := by
  have G55 : FnOk P w K mg base CX0 5 (a 55) (d 55) ["_law_pool_here", "_law_many", "_law_widest"] spTables := ok_tables T
  have G56 : FnOk P w K mg base CX0 4 (a 56) (d 56) ["_law_pool_here", "_law_tables_here"] spKeys := ok_keys T
  have G58 : FnOk P w K mg base CX0 5 (a 58) (d 58) ["_law_pool_here", "_law_tables_here", "_law_keys_here", "_law_caps", "_law_more_here"] spServices := ok_services T
  refine T.F59.ok sc__law_schema_parts (fun vs H Q E h => ?_) (fun cdv A outer s H vs Q E hr h => ?_)
  · obtain ⟨p, ca, m, more, wm, cps, rfl, _⟩ := h
    rfl
  · obtain ⟨p, ca, m, more, wm, cps, rfl, hP, hca, ncp, hm1, hm2, hw1, hw2, hc1, hc2, hcap, q⟩ := h
    refine ⟨_, (pss_cons (ps_set (i := 5) sc__law_schema_parts.nd rfl (.inl rfl) (pe_call G55 (hr.mono (by decide)) (by rfl) T.g55 T.F55.kp T.b55 .nil pass0 (pa_cons (pv 0) (pa_cons (pv 1) (pa_cons (pv 2) pa_nil)))))
  (pss_cons (ps_set (i := 6) sc__law_schema_parts.nd rfl (.inl rfl) (pe_call G56 (hr.mono (by decide)) (by rfl) T.g56 T.F56.kp T.b56 .nil pass0 (pa_cons (pv 0) (pa_cons (pv 5) pa_nil))))
  (pss_one (ps_ret (pe_lst (pa_cons (pv 5) (pa_cons (pv 6) (pa_cons (pe_call G58 (hr.mono (by decide)) (by rfl) T.g58 T.F58.kp T.b58 .nil pass0 (pa_cons (pv 0) (pa_cons (pv 5) (pa_cons (pv 6) (pa_cons (pv 3) (pa_cons (pv 4) pa_nil)))))) pa_nil)))))))), ?_⟩
    refine ⟨_, rfl, _, rfl, _, rfl, p, m, wm, rfl, hP, by omega, hw1, hw2, fun t ts H1 t0 ht hT C1 => ?_⟩
    refine ⟨_, rfl, _, rfl, p, t, m, ts, rfl, C1.1, ht, hT.up hw2, by omega, fun k ks H2 k0 hk hK C2 => ?_⟩
    have nt : t ≠ p := pool_ne C1.1 ht (by intro _ z; cases z)
    have ht2 := C2.at nt ht
    have nk : k ≠ p := pool_ne C2.1 hk (by intro _ z; cases z)
    have C12 := C1.trans C2
    refine ⟨_, rfl, _, rfl, _, rfl, _, rfl, _, rfl, _, rfl, _, rfl, p, t, k, ca, m, more, ts, ks, cps, rfl, C2.1, ht2, hk, hT.up hw2, hm1, hm2, hK, C12.at ncp hca, ncp, hc1, hc2, hcap, fun v ss H3 v0 hv hS C3 => ⟨by show 3 ≤ sizeLine; decide, fun l hl => ?_⟩⟩
    have C13 := C12.trans C3
    have s3 := same_upd (o := .lst [.ref t, .ref k, .ref v]) hl
    have K3 := hK.mono (chg_tup C2.1 C3)
    exact q l t k v ts ks ss _ upd_same (free_of C13 hP hl) t0 (free_of C1 hP k0) (free_of C12 hP v0) (ne_of_none ht k0) (s3 _ _ (C3.at nt ht2)) (s3 _ _ (C3.at nk hk)) (s3 _ _ hv) hT (K3.mono fun _ _ e => s3 _ _ e) (hS.mono fun _ _ e => s3 _ _ e) (C13.new hl)
end
section
variable {P : Program} {w : World} {K : PySem.W.Frag} {mg : Str → Option Value} {base : Heap} {a : Nat → Addr} {d : Nat → FuncData}
/-! ### == of two schemas -/
def schB (ts : List (Str × Int)) (ks : List KeyE) (ss : List SvE) (ts' : List (Str × Int)) (ks' : List KeyE) (ss' : List SvE) : Bool := eqP (tabP ts) (tabP ts') && (eqP (keyP ks) (keyP ks') && eqP (svP ss) (svP ss'))
theorem sv_toldW {H : Hp} {ts : List (Str × Int)} {ss : List SvE} {m : Nat} {wm : Int} (hT : Tabs ts m wm) (h : ∀ b ∈ ss, SvOk H ts b) : ∀ b ∈ ss, Told H b.at_ b.tab b.ga b.cols b.cap ∧ Wd b.tab := fun b hb => by
  obtain ⟨t, ⟨w, hw, _⟩, _⟩ := h b hb
  exact ⟨t, hT.nm.wd _ (List.mem_map.mpr ⟨_, hw, rfl⟩)⟩
def spSEq (C : Addr) : Sp := fun vs H Q _ => ∃ (p q : Addr) (ts : List (Str × Int)) (ks : List KeyE) (ss : List SvE) (m n : Nat) (ts' : List (Str × Int)) (ks' : List KeyE) (ss' : List SvE) (m' n' : Nat), vs = [.ref p, .ref q] ∧ SchAt C p H ts ks ss m n ∧ SchAt C q H ts' ks' ss' m' n' ∧ Q (.bl (schB ts ks ss ts' ks' ss')) H
end
theorem schB_refl {H : Hp} {ts : List (Str × Int)} {ks : List KeyE} {ss : List SvE} {m n : Nat} (hT : Tabs ts m 4) (hK : Keys H ts ks) (hS : Svcs H ts ks ss n) : schB ts ks ss ts ks ss = true := by
  unfold schB
  rw [eqP_refl (tabP_nd hT) (fun p hp => ?_), eqP_refl (keyP_nd hK) (fun p hp => ?_), eqP_refl (svP_nd hS.nm) (fun p hp => ?_)]
  · rfl
  · obtain ⟨b, hb, rfl⟩ := List.mem_map.mp hp
    exact sv_shaped (wd_strOk (sv_toldW hT hS.ok b hb).2) _ _
  · obtain ⟨b, hb, rfl⟩ := List.mem_map.mp hp
    exact ints_tup_shaped _
  · obtain ⟨b, hb, rfl⟩ := List.mem_map.mp hp
    simp [SeqAt.shaped, PyData.canLay0, PyData.depth]
section
variable {P : Program} {w : World} {K : PySem.W.Frag} {mg : Str → Option Value} {base : Heap} {a : Nat → Addr} {d : Nat → FuncData}
/-! ### helpers of the law -/
def spPick : Sp := fun vs H Q _ => ∃ (p l : Addr) (xs : List V), vs = [.ref p, .ref l] ∧ PoolAt H p ∧ H l = some (.lst xs) ∧ l ≠ p ∧ 1 ≤ xs.length ∧ xs.length ≤ 1000 ∧ ∀ v H', v ∈ xs → Chg p H H' → Q v H'
theorem ok_pick (T : Txt K mg a d) : FnOk P w K mg base CX0 3 (a 60) (d 60) ["_law_pool_here", "_law_row"] spPick := by
  have G51 : FnOk P w K mg base CX0 2 (a 51) (d 51) ["_law_pool_here", "_law_many"] spDraw := ok_draw T
  refine T.F60.ok sc__law_pick (fun vs H Q E h => ?_) (fun cdv A outer s H vs Q E hr h => ?_)
  · obtain ⟨p, l, xs, rfl, _⟩ := h
    rfl
  · obtain ⟨p, l, xs, rfl, hP, hl, nl, h1, h2, q⟩ := h
    refine ⟨_, (pss_one (ps_ret (pe_ix ix_list (pv 1) (pe_call G51 (hr.mono (by decide)) (by rfl) T.g51 T.F51.kp T.b51 .nil pass0 (pa_cons (pv 0) (pa_cons (pe_callB (id := "len")  call_len_seq (by rfl) T.z_len (by decide +kernel) (pa_cons (pv 1) pa_nil)) pa_nil))) (fun _ _ => rfl)))), ?_⟩
    refine ⟨_, rfl, _, rfl, _, rfl, _, _, rfl, .inl (.of hl), p, _, rfl, hP, by omega, Nat.lt_of_le_of_lt (by omega : _ ≤ 1000) (by decide), fun r H1 r0 r1 C1 => ?_⟩
    obtain ⟨v, hv⟩ := at_some (xs := xs) r0 r1
    exact ⟨l, xs, r, v, rfl, rfl, .of (C1.at nl hl), hv, q v H1 (atI_mem hv) C1⟩
end
/-! ### values: whole numbers of 30 digits at most, words -/
def KVal : Key → Prop
  | .inl i => -(10 ^ 30 - 1) ≤ i ∧ i ≤ 10 ^ 30 - 1
  | .inr s => Wd s
theorem KVal.ok {k : Key} (h : KVal k) : KOk k := by
  cases k with
  | inl i => exact trivial
  | inr s => exact wd_strOk h
section
variable {P : Program} {w : World} {K : PySem.W.Frag} {mg : Str → Option Value} {base : Heap} {a : Nat → Addr} {d : Nat → FuncData}
def spValue : Sp := fun vs H Q _ => ∃ p : Addr, vs = [.ref p] ∧ PoolAt H p ∧ ∀ (k : Key) (H' : Hp), KVal k → Chg p H H' → Q (kV k) H'
def spPalette : Sp := fun vs H Q _ => ∃ (p : Addr) (m : Nat), vs = [.ref p, .int (m : Int)] ∧ PoolAt H p ∧ m ≤ 100 ∧ ∀ (l : Addr) (ks : List Key) (H' : Hp), H l = none → H' l = some (.lst (ks.map kV)) → ks.length = m → (∀ k ∈ ks, KVal k) → Chg p H H' → Q (.ref l) H'
end
def projR (cs : List Int) (r : RowK) : RowK := cs.map fun c => r.getD c.toNat (.inl 0)
def lets (rs : List RowK) (mk : Option (List Int)) (r : RowK) : Bool := rs.all fun t => !decide (t = r) && (match mk with
  | none => true
  | some cs => !decide (projR cs t = projR cs r))
theorem keys_shapedL {r : RowK} (h : ∀ k ∈ r, KOk k) : SeqAt.shaped (.list (r.map keyD)) = true := by
  obtain ⟨h1, h2⟩ := lay_keys h
  show ((PyData.list (r.map keyD)).canLay0 && decide ((PyData.list (r.map keyD)).depth ≤ 64)) = true
  simp only [PyData.canLay0, PyData.depth, h1, h2]
  decide
theorem eqv_keysL (a b : RowK) : PyData.eqv (.list (a.map keyD)) (.list (b.map keyD)) = decide (a = b) := by
  simp only [PyData.eqv]
  exact eqvAll_keys a b
theorem projR_ok {cs : List Int} {r : RowK} {w : Int} (h : ∀ k ∈ r, KOk k) (hc : ∀ c ∈ cs, 0 ≤ c ∧ c < w) (hw : (r.length : Int) = w) : ∀ k ∈ projR cs r, KOk k := fun k hk => by
  obtain ⟨c, hc', rfl⟩ := List.mem_map.mp hk
  have := hc c hc'
  rw [List.getD_eq_getElem?_getD, List.getElem?_eq_getElem (by omega)]
  exact h _ (List.getElem_mem _)
theorem getD_at {r : RowK} {c : Int} (h0 : 0 ≤ c) (h : c < r.length) : atI (r.map kV) c = some (kV (r.getD c.toNat (.inl 0))) := by
  refine at_g (j := c.toNat) (by omega) ?_
  rw [List.getElem?_map, List.getD_eq_getElem?_getD, List.getElem?_eq_getElem (by omega)]
  rfl
theorem projR_snoc {cs : List Int} {r : RowK} {j : Nat} {z : Int} (h : cs[j]? = some z) : projR (cs.take (j + 1)) r = projR (cs.take j) r ++ [r.getD z.toNat (.inl 0)] := by
  unfold projR
  rw [List.take_add_one, h, List.map_append]
  rfl
theorem ifT {A B : Prop} (h : A) : if true = true then A else B := by
  rw [if_pos rfl]
  exact h
theorem ifF {A B : Prop} (h : B) : if false = true then A else B := by
  rw [if_neg (by decide)]
  exact h
def markV : Option (List Int) → Addr → V
  | none, _ => .non
  | some _, c => .ref c
section
variable {P : Program} {w : World} {K : PySem.W.Frag} {mg : Str → Option Value} {base : Heap} {a : Nat → Addr} {d : Nat → FuncData}
def spLets : Sp := fun vs H Q _ => ∃ (l c p : Addr) (L : List (Addr × RowK)) (mk : Option (List Int)) (r : RowK), vs = [.ref l, markV mk c, .ref p] ∧ H l = some (.lst (L.map fun b => V.ref b.1)) ∧ RowsAt H L ∧ RowAt H p r ∧ (∀ cs, mk = some cs → H c = some (.tup (cs.map V.int)) ∧ (∀ x ∈ cs, 0 ≤ x ∧ x < (r.length : Int)) ∧ cs.length ≤ 100) ∧
  (∀ b ∈ L, b.2.length = r.length ∧ ∀ k ∈ b.2, KOk k) ∧ (∀ k ∈ r, KOk k) ∧ ∀ H', Same H H' → Q (.bl (lets (L.map (·.2)) mk r)) H'
end
/-! ### the law's own order of rows -/
def rankD : Key → PyData
  | .inl i => .tuple [.int 0, .int i, .str ""]
  | .inr s => .tuple [.int 1, .int 0, .str s]
def rankL (r : RowK) : PyData := .list (r.map rankD)
section
open PySem.SeqAt PySem.W
theorem alike_rank (k l : Key) : alike (rankD k) (rankD l) = true := by
  cases k <;> cases l <;> simp [rankD, alike, alikeAll]
theorem alike_ranks : ∀ a b : RowK, alikeAll (a.map rankD) (b.map rankD) = true
  | [], _ => by cases ‹RowK› <;> simp [alikeAll]
  | _ :: _, [] => by simp [alikeAll]
  | x :: a, y :: b => by
    simp only [List.map_cons, alikeAll, alike_rank, alike_ranks a b, Bool.and_self]
theorem eqv_rank (k l : Key) : PyData.eqv (rankD k) (rankD l) = decide (k = l) := by
  have h := eqv_key k l
  cases k <;> cases l <;> simp [rankD, keyD, PyData.eqv, PyData.eqvAll] at h ⊢ <;> exact h
theorem lt_rank {k l : Key} (h : k ≠ l) : dataLt (rankD k) (rankD l) = PyProof.Rows.itemLt (item k) (item l) := by
  cases k <;> cases l
  · rename_i i j
    have h' : i ≠ j := fun e => h (by rw [e])
    show PyProof.Rows.lexLt PyProof.Rows.itemOrd (keyToksAll _) (keyToksAll _) = _
    rw [dataLt_cons rfl, if_pos (by simp [PyData.eqv]), dataLt_cons rfl, if_neg (by simp [PyData.eqv, h']), dataLt_int]
    rfl
  · rename_i i j
    show PyProof.Rows.lexLt PyProof.Rows.itemOrd (keyToksAll _) (keyToksAll _) = _
    rw [dataLt_cons rfl, if_neg (by simp [PyData.eqv]), dataLt_int]
    rfl
  · rename_i i j
    show PyProof.Rows.lexLt PyProof.Rows.itemOrd (keyToksAll _) (keyToksAll _) = _
    rw [dataLt_cons rfl, if_neg (by simp [PyData.eqv]), dataLt_int]
    rfl
  · rename_i i j
    have h' : i ≠ j := fun e => h (by rw [e])
    have h2 : PyData.eqv (.str i) (.str j) = false := by
      have := eqv_key (.inr i) (.inr j)
      rw [decide_eq_false h] at this
      exact this
    show PyProof.Rows.lexLt PyProof.Rows.itemOrd (keyToksAll _) (keyToksAll _) = _
    rw [dataLt_cons rfl, if_pos (by simp [PyData.eqv]), dataLt_cons rfl, if_pos (by simp [PyData.eqv]), dataLt_cons rfl, if_neg (by rw [h2]; decide), dataLt_str]
    simp [item, PyProof.Rows.itemLt, PyProof.Rows.strKind]
theorem lt_ranks : ∀ a b : RowK, PyProof.Rows.lexLt PyProof.Rows.itemOrd (keyToksAll (a.map rankD)) (keyToksAll (b.map rankD)) = My.rowLt a b
  | [], [] => by
    show PyProof.Rows.lexLt PyProof.Rows.itemOrd (keyToksAll []) (keyToksAll []) = _
    rw [lex_irrefl, rowLt_irrefl]
  | [], _ :: _ => by
    show PyProof.Rows.lexLt PyProof.Rows.itemOrd [.inl 0] (.inl 1 :: _) = _
    rw [lex_diff (by simp)]
    rfl
  | _ :: _, [] => by
    show PyProof.Rows.lexLt PyProof.Rows.itemOrd (.inl 1 :: _) [.inl 0] = _
    rw [lex_diff (by simp)]
    rfl
  | x :: a, y :: b => by
    rw [List.map_cons, List.map_cons, dataLt_cons (alike_rank x y), eqv_rank, rowLt_cons, lt_ranks a b]
    by_cases h : x = y
    · rw [decide_eq_true h, if_pos rfl, if_pos h]
    · rw [decide_eq_false h, if_neg (by decide), if_neg h, lt_rank h]
theorem lay_rank {k : Key} (h : KOk k) : (rankD k).canLay0 = true ∧ (rankD k).depth = 1 := by
  cases k with
  | inl i => simp [rankD, PyData.canLay0, PyData.canLayAll0, PyData.depth, PyData.depthAll]; decide +kernel
  | inr s =>
    have h' : PyData.strOk s = true := h
    simp [rankD, PyData.canLay0, PyData.canLayAll0, PyData.depth, PyData.depthAll, h']
theorem lay_ranks : ∀ {r : RowK}, (∀ k ∈ r, KOk k) → PyData.canLayAll0 (r.map rankD) = true ∧ PyData.depthAll (r.map rankD) ≤ 1
  | [], _ => by simp [PyData.canLayAll0, PyData.depthAll]
  | k :: r, h => by
    obtain ⟨h1, h2⟩ := lay_ranks (r := r) fun x hx => h x (List.mem_cons_of_mem _ hx)
    obtain ⟨h3, h4⟩ := lay_rank (h k List.mem_cons_self)
    simp only [List.map_cons, PyData.canLayAll0, PyData.depthAll, h1, h3, h4, Bool.and_self, true_and]
    omega
/-- such keys can be sorted -/
theorem keys_ranks {rs : List RowK} (h : ∀ r ∈ rs, ∀ k ∈ r, KOk k) : SK.KeysG (rs.map rankL) keyToks := by
  refine SK.keysG_alike (fun d hd => ?_) (fun d hd d' hd' => ?_) (.inr fun d hd => ?_)
  · obtain ⟨r, hr, rfl⟩ := List.mem_map.mp hd
    show (PyData.list (r.map rankD)).canLay0 = true
    simp only [PyData.canLay0, (lay_ranks (h r hr)).1]
  · obtain ⟨r, _, rfl⟩ := List.mem_map.mp hd
    obtain ⟨r', _, rfl⟩ := List.mem_map.mp hd'
    exact alike_ranks r r'
  · obtain ⟨r, _, rfl⟩ := List.mem_map.mp hd
    exact ⟨(by intro z; cases z), fun xs z => by cases z⟩
theorem byKey_ranks (L : List (Addr × RowK)) (hn : (L.map (·.2)).Nodup) : ∃ L' : List (Addr × RowK), SK.byKey keyToks (L.map fun b => V.ref b.1) (L.map fun b => rankL b.2) = L'.map (fun b => V.ref b.1) ∧ L'.Perm L ∧ L'.Pairwise fun a b => My.rowLt a.2 b.2 = true := by
  obtain ⟨L', e1, e2, e3⟩ := byKey_rows L hn
  refine ⟨L', ?_, e2, e3⟩
  rw [← e1]
  unfold SK.byKey
  rw [List.zip_map', List.zip_map', ← List.map_mergeSort (r := fun a b : Addr × RowK => !My.rowLt b.2 a.2) (f := fun b : Addr × RowK => ((V.ref b.1, rankL b.2) : V × PyData)), ← List.map_mergeSort (r := fun a b : Addr × RowK => !My.rowLt b.2 a.2) (f := fun b : Addr × RowK => ((V.ref b.1, rowD b.2) : V × PyData)), List.map_map, List.map_map]
  · rfl
  · intro a _ b _
    show _ = (!(PyProof.Rows.listOrd PyProof.Rows.itemOrd).blt (tokD (rowD b.2)) (tokD (rowD a.2)))
    rw [tokD_row, tokD_row]
    rfl
  · intro a _ b _
    show _ = (!PyProof.Rows.lexLt PyProof.Rows.itemOrd (keyToksAll (b.2.map rankD)) (keyToksAll (a.2.map rankD)))
    rw [lt_ranks]
end
def kRank : Key → List V
  | .inl i => [.int 0, .int i, .str ""]
  | .inr s => [.int 1, .int 0, .str s]
theorem dp_rank {K : PySem.W.Frag} {H : Hp} {p : Addr} {k : Key} (h : H p = some (.tup (kRank k))) : Dp K H (.ref p) (rankD k) := by
  cases k with
  | inl i => exact .tup (.of h) (.cons (.int 0) (.cons (.int i) (.cons (.str "") .nil)))
  | inr s => exact .tup (.of h) (.cons (.int 1) (.cons (.int 0) (.cons (.str s) .nil)))
theorem dp_ranks {K : PySem.W.Frag} {H : Hp} : ∀ {ps : List Addr} {r : RowK}, Paired (fun p k => H p = some (.tup (kRank k))) ps r → DpAll K H (ps.map V.ref) (r.map rankD)
  | _, _, .nil => .nil
  | _, _, .cons h t => .cons (dp_rank h) (dp_ranks t)
section
variable {P : Program} {w : World} {K : PySem.W.Frag} {mg : Str → Option Value} {base : Heap} {a : Nat → Addr} {d : Nat → FuncData}
def spRank : Sp := fun vs H Q _ => ∃ (p : Addr) (r : RowK), vs = [.ref p] ∧ RowAt H p r ∧ r.length ≤ 100 ∧ ∀ (K : PySem.W.Frag) (v : V) (H' : Hp), (∀ K : PySem.W.Frag, Dp K H' v (rankL r)) → Same H H' → Q v H'
end
section
variable {P : Program} {w : World} {K : PySem.W.Frag} {mg : Str → Option Value} {base : Heap} {a : Nat → Addr} {d : Nat → FuncData}
def spLSorted : Sp := fun vs H Q _ => ∃ (l : Addr) (L : List (Addr × RowK)), vs = [.ref l] ∧ H l = some (.lst (L.map fun b => V.ref b.1)) ∧ RowsAt H L ∧ (∀ b ∈ L, (∀ k ∈ b.2, KOk k) ∧ b.2.length ≤ 100) ∧ L.length ≤ 10000 ∧
  ∀ (q : Addr) (H' : Hp) (L' : List (Addr × RowK)), H q = none → Same H H' → H' q = some (.lst (L'.map fun b => V.ref b.1)) → RowsAt H' L' → SortedRows L' (L.map (·.2)) → Q (.ref q) H'
end
/-! ### the rows that a law draws -/
theorem Chg.same4' {a : Addr} {H H1 H2 : Hp} (x : Chg a H H1) (s : Same H1 H2) : Chg a H H2 := ⟨x.1.same s, fun b o n e => s _ _ (x.2 b o n e)⟩
structure RwE where
  name : Str
  at_ : Addr
  rows : List (Addr × RowK)
def rwK (es : List RwE) : List (Key × V) := es.map fun b => (Sum.inr b.name, V.ref b.at_)
theorem keys_rw (es : List RwE) : (rwK es).map (·.1) = (es.map (·.name)).map Sum.inr := by
  unfold rwK
  rw [List.map_map, List.map_map]
  rfl
def markOf (ks : List KeyE) (n : Str) : Option (List Int) := (keyAt ks n).map (·.2.2)
def markA (ks : List KeyE) (n : Str) : Addr := ((keyAt ks n).map (·.2.1)).getD 0
theorem mark_val (ks : List KeyE) (n : Str) : (valV (keyK ks) (Sum.inr n)).getD .non = markV (markOf ks n) (markA ks n) := by
  rw [keyAt_val]
  unfold markOf markA
  cases keyAt ks n <;> rfl
theorem mark_at {H : Hp} {ts : List (Str × Int)} {ks : List KeyE} {n : Str} {w : Int} (hK : Keys H ts ks) (nd : (ts.map (·.1)).Nodup) (hm : (n, w) ∈ ts) {cs : List Int} (h : markOf ks n = some cs) : H (markA ks n) = some (.tup (cs.map V.int)) ∧ (∀ x ∈ cs, 0 ≤ x ∧ x < w) ∧ 1 ≤ cs.length ∧ (cs.length : Int) < w := by
  unfold markOf at h
  unfold markA
  cases e : keyAt ks n with
  | none =>
    rw [e] at h
    cases h
  | some b =>
    rw [e] at h
    cases h
    obtain ⟨bm, bn⟩ := keyAt_mem e
    obtain ⟨w', hw, hc, h1, h2⟩ := hK.ok b bm
    rw [bn] at hw
    have : w' = w := by rw [← widthAt_mem nd hw, ← widthAt_mem nd hm]
    subst this
    exact ⟨hK.at_ b bm, hc.2, h1, h2⟩
structure RowsOk (w : Int) (mk : Option (List Int)) (rs : List RowK) : Prop where
  wid : ∀ r ∈ rs, (r.length : Int) = w ∧ ∀ k ∈ r, KVal k
  apart : rs.Pairwise fun t r => t ≠ r ∧ ∀ cs, mk = some cs → projR cs t ≠ projR cs r
theorem RowsOk.nil (w : Int) (mk : Option (List Int)) : RowsOk w mk [] := ⟨fun r hr => (by cases hr), .nil⟩
theorem RowsOk.snoc {w : Int} {mk : Option (List Int)} {rs : List RowK} {r : RowK} (h : RowsOk w mk rs) (hr : (r.length : Int) = w) (hk : ∀ k ∈ r, KVal k) (hl : lets rs mk r = true) : RowsOk w mk (rs ++ [r]) := by
  refine ⟨fun x hx => ?_, List.pairwise_append.mpr ⟨h.apart, List.pairwise_singleton _ _, fun x hx y hy => ?_⟩⟩
  · rcases List.mem_append.mp hx with hx | hx
    · exact h.wid x hx
    · rw [List.mem_singleton.mp hx]
      exact ⟨hr, hk⟩
  · rw [List.mem_singleton.mp hy]
    unfold lets at hl
    have := List.all_eq_true.mp hl x hx
    rw [Bool.and_eq_true] at this
    refine ⟨fun e => ?_, fun cs e => ?_⟩
    · rw [decide_eq_true e] at this
      cases this.1
    · subst e
      have h2 := this.2
      intro z
      simp [z] at h2
structure RwAt (H : Hp) (b : RwE) : Prop where
  lst : H b.at_ = some (.lst (b.rows.map fun x => V.ref x.1))
  rows : RowsAt H b.rows
theorem RwAt.same {H H' : Hp} {b : RwE} (h : RwAt H b) (s : Same H H') : RwAt H' b := ⟨s _ _ h.lst, h.rows.same s⟩
theorem RwAt.chg {H H' : Hp} {p : Addr} {b : RwE} (h : RwAt H b) (hP : PoolAt H p) (n : b.at_ ≠ p) (c : Chg p H H') : RwAt H' b := ⟨c.at n h.lst, fun x hx => chg_tup hP c _ _ (h.rows x hx)⟩
theorem RwAt.oth {H : Hp} {b : RwE} {q : Addr} {o u : HO} (h : RwAt H b) (hq : H q = some u) (nt : ∀ xs, u ≠ .tup xs) (n : b.at_ ≠ q) : RwAt (upd H q o) b := ⟨by rw [upd_ne n]; exact h.lst, fun x hx => upd_tup hq nt _ _ (h.rows x hx)⟩
def spRows : Sp := fun vs H Q _ => ∃ (p t k pal : Addr) (most : Nat) (m : Nat) (wm : Int) (ts : List (Str × Int)) (ks : List KeyE) (vals : List Key), vs = [.ref p, .ref t, .ref k, .ref pal, .int (most : Int)] ∧ PoolAt H p ∧ H t = some (.dK (tabK ts)) ∧ H k = some (.dK (keyK ks)) ∧ Tabs ts m wm ∧ m ≤ 26 ∧ wm ≤ 100 ∧ Keys H ts ks ∧
  H pal = some (.lst (vals.map kV)) ∧ pal ≠ p ∧ 1 ≤ vals.length ∧ vals.length ≤ 100 ∧ (∀ x ∈ vals, KVal x) ∧ most ≤ 100 ∧
  ∀ (f : Addr) (es : List RwE) (H' : Hp), H f = none → H' f = some (.dK (rwK es)) → es.map (·.name) = ts.map (·.1) → (∀ b ∈ es, RwAt H' b ∧ b.at_ ≠ p ∧ H b.at_ = none ∧ b.rows.length ≤ most ∧ ∃ w, (b.name, w) ∈ ts ∧ RowsOk w (markOf ks b.name) (b.rows.map (·.2))) → (es.map (·.at_)).Nodup → Chg p H H' → Q (.ref f) H'
section
variable {P : Program} {w : World} {K : PySem.W.Frag} {mg : Str → Option Value} {base : Heap} {a : Nat → Addr} {d : Nat → FuncData}
end
/-! ### the steps of a program, as data -/
inductive ItD where
  | val (k : Key)
  | idx (i : Int)
def ItAt (H : Hp) (v : V) : ItD → Prop
  | .val k => ∃ p, v = .ref p ∧ H p = some (.tup [kV k])
  | .idx i => v = .int i
inductive StD where
  | start (n : Str)
  | call (n o s : Str) (its : List ItD)
  | join (both : Bool) (n x y : Str)
  | whr (n o : Str) (i : Int) (it : ItD)
  | take (n o : Str) (its : List ItD)
def StD.kind : StD → Str
  | .start _ => "start"
  | .call .. => "call"
  | .join b _ _ _ => if b then "both" else "pair"
  | .whr .. => "where"
  | .take .. => "take"
def StD.name : StD → Str
  | .start n => n
  | .call n _ _ _ => n
  | .join _ n _ _ => n
  | .whr n _ _ _ => n
  | .take n _ _ => n
/-- the names of the relations that it is made of -/
def StD.used : StD → List Str
  | .start _ => []
  | .call _ o _ _ => [o]
  | .join _ _ x y => [x, y]
  | .whr _ o _ _ => [o]
  | .take _ o _ => [o]
def StD.items : StD → List ItD
  | .start _ => []
  | .call _ _ _ its => its
  | .join .. => []
  | .whr _ _ i it => [.idx i, it]
  | .take _ _ its => its
abbrev ItsAt (H : Hp) : List V → List ItD → Prop := Paired (ItAt H)
def StAt (H : Hp) (a : Addr) : StD → Prop
  | .start n => H a = some (.tup [.str "start", .str n])
  | .call n o s its => ∃ g vs, H a = some (.tup [.str "call", .str n, .str o, .str s, .ref g]) ∧ H g = some (.tup vs) ∧ ItsAt H vs its
  | .join b n x y => H a = some (.tup [.str (if b then "both" else "pair"), .str n, .str x, .str y])
  | .whr n o i it => ∃ v, H a = some (.tup [.str "where", .str n, .str o, .int i, v]) ∧ ItAt H v it
  | .take n o its => ∃ g vs, H a = some (.tup [.str "take", .str n, .str o, .ref g]) ∧ H g = some (.tup vs) ∧ ItsAt H vs its
theorem ItAt.keeps {H H' : Hp} {v : V} {it : ItD} (h : ItAt H v it) (k : ∀ b xs, H b = some (.tup xs) → H' b = some (.tup xs)) : ItAt H' v it := by
  cases it with
  | val x => obtain ⟨p, e, h⟩ := h; exact ⟨p, e, k _ _ h⟩
  | idx i => exact h
theorem ItsAt.keeps {H H' : Hp} {vs : List V} {its : List ItD} (h : ItsAt H vs its) (k : ∀ b xs, H b = some (.tup xs) → H' b = some (.tup xs)) : ItsAt H' vs its := L2.Paired.mapP h fun _ _ e => ItAt.keeps e k
theorem StAt.keeps {H H' : Hp} {a : Addr} {st : StD} (h : StAt H a st) (k : ∀ b xs, H b = some (.tup xs) → H' b = some (.tup xs)) : StAt H' a st := by
  cases st with
  | start n => exact k _ _ h
  | call n o s its => obtain ⟨g, vs, h1, h2, h3⟩ := h; exact ⟨g, vs, k _ _ h1, k _ _ h2, ItsAt.keeps h3 k⟩
  | join b n x y => exact k _ _ h
  | whr n o i it => obtain ⟨v, h1, h2⟩ := h; exact ⟨v, k _ _ h1, ItAt.keeps h2 k⟩
  | take n o its => obtain ⟨g, vs, h1, h2, h3⟩ := h; exact ⟨g, vs, k _ _ h1, k _ _ h2, ItsAt.keeps h3 k⟩
/-- an item that has the right form -/
def ItOk : ItD → Prop
  | .val k => KVal k
  | .idx i => 0 ≤ i
section
variable {P : Program} {w : World} {K : PySem.W.Frag} {mg : Str → Option Value} {base : Heap} {a : Nat → Addr} {d : Nat → FuncData}
def spItems : Sp := fun vs H Q _ => ∃ (p : Addr) (st : StD), vs = [.ref p] ∧ StAt H p st ∧ ∀ (g : Addr) (us : List V) (H' : Hp), H' g = some (.tup us) → ItsAt H' us st.items → Same H H' → Q (.ref g) H'
theorem ok_items (T : Txt K mg a d) : FnOk P w K mg base CX0 1 (a 19) (d 19) ["step"] spItems := by
  refine T.F19.ok sc_items_of (fun vs H Q E h => ?_) (fun cdv A outer s H vs Q E hr h => ?_)
  · obtain ⟨p, st, rfl, _⟩ := h
    rfl
  · obtain ⟨p, st, rfl, hs, q⟩ := h
    refine ⟨_, (pss_cons (ps_if (pt_cmpR op_eq (pe_ix ix_tup (pv 0) pe_int (fun _ _ => rfl)) pe_str (nomark _))
    (pss_one (ps_ret (pe_slice sl_tupA (pv 0) (po_some pe_int) (po_some pe_int))))
    pss_nil)
  (pss_one (ps_ret (pe_ifExp (pt_cmpR op_in_seq (pe_ix ix_tup (pv 0) pe_int (fun _ _ => rfl)) (pe_tup (pa_cons pe_str (pa_cons pe_str pa_nil))) (by rfl)) (pe_ix ix_tup (pv 0) (pe_un un_neg pe_int) (fun _ _ => rfl)) (pe_tup pa_nil))))), ?_⟩
    cases st with
    | start n =>
      refine ⟨_, rfl, _, _, _, _, rfl, rfl, .of hs, atI_nat (j := 0) rfl, rfl, _, rfl, ite_d (fun e => absurd (V.str.inj e) (by decide +kernel)) (fun _ => ?_)⟩
      refine ⟨_, rfl, _, _, _, _, rfl, rfl, .of hs, atI_nat (j := 0) rfl, by show 2 ≤ sizeLine; decide, fun t ht => ⟨t, _, rfl, .inr (.of upd_same), rfl, rfl, _, rfl, ?_⟩⟩
      rw [if_neg Bool.false_ne_true, show inV (V.str (Str.ofString "start")) [V.str (Str.ofString "call"), V.str (Str.ofString "take")] = false from by decide +kernel]
      exact ifF ⟨Nat.zero_le _, fun e he => q e [] _ upd_same .nil ((same_upd ht).trans (same_upd he))⟩
    | call n o s its =>
      obtain ⟨g, us, hs, hg, hi⟩ := hs
      refine ⟨_, rfl, _, _, _, _, rfl, rfl, .of hs, atI_nat (j := 0) rfl, rfl, _, rfl, ite_d (fun e => absurd (V.str.inj e) (by decide +kernel)) (fun _ => ?_)⟩
      refine ⟨_, rfl, _, _, _, _, rfl, rfl, .of hs, atI_nat (j := 0) rfl, by show 2 ≤ sizeLine; decide, fun t ht => ⟨t, _, rfl, .inr (.of upd_same), rfl, rfl, _, rfl, ?_⟩⟩
      have st := same_upd (o := .tup [.str "call", .str "take"]) ht
      rw [if_neg Bool.false_ne_true, show inV (V.str (Str.ofString "call")) [V.str (Str.ofString "call"), V.str (Str.ofString "take")] = true from by decide +kernel]
      exact ifT ⟨_, rfl, _, rfl, _, _, _, _, rfl, rfl, .of (st _ _ hs), rfl, q g us _ (st _ _ hg) (ItsAt.keeps hi fun _ _ e => st _ _ e) st⟩
    | join b n x y =>
      have hs : H p = some (.tup [.str (if b then "both" else "pair"), .str n, .str x, .str y]) := hs
      refine ⟨_, rfl, _, _, _, _, rfl, rfl, .of hs, atI_nat (j := 0) rfl, rfl, _, rfl, ite_d (fun e => absurd (V.str.inj e) (by cases b <;> decide +kernel)) (fun _ => ?_)⟩
      refine ⟨_, rfl, _, _, _, _, rfl, rfl, .of hs, atI_nat (j := 0) rfl, by show 2 ≤ sizeLine; decide, fun t ht => ⟨t, _, rfl, .inr (.of upd_same), rfl, rfl, _, rfl, ?_⟩⟩
      rw [if_neg Bool.false_ne_true, show inV (V.str (if b then "both" else "pair")) [V.str (Str.ofString "call"), V.str (Str.ofString "take")] = false from by cases b <;> decide +kernel]
      exact ifF ⟨Nat.zero_le _, fun e he => q e [] _ upd_same .nil ((same_upd ht).trans (same_upd he))⟩
    | whr n o i it =>
      obtain ⟨v, hs, hv⟩ := hs
      refine ⟨_, rfl, _, _, _, _, rfl, rfl, .of hs, atI_nat (j := 0) rfl, rfl, _, rfl, ite_d (fun _ => ?_) (fun e => absurd rfl e)⟩
      refine ⟨_, rfl, _, rfl, _, rfl, ?_⟩
      refine ⟨p, _, rfl, .of hs, fun e => absurd e.1 (show ¬ ((3 : Nat) = 0) by decide), fun _ t ht => ?_⟩
      have st := same_upd (o := .tup [.int i, v]) ht
      exact q t [.int i, v] _ upd_same (.cons rfl (.cons (ItAt.keeps hv fun _ _ e => st _ _ e) .nil)) st
    | take n o its =>
      obtain ⟨g, us, hs, hg, hi⟩ := hs
      refine ⟨_, rfl, _, _, _, _, rfl, rfl, .of hs, atI_nat (j := 0) rfl, rfl, _, rfl, ite_d (fun e => absurd (V.str.inj e) (by decide +kernel)) (fun _ => ?_)⟩
      refine ⟨_, rfl, _, _, _, _, rfl, rfl, .of hs, atI_nat (j := 0) rfl, by show 2 ≤ sizeLine; decide, fun t ht => ⟨t, _, rfl, .inr (.of upd_same), rfl, rfl, _, rfl, ?_⟩⟩
      have st := same_upd (o := .tup [.str "call", .str "take"]) ht
      rw [if_neg Bool.false_ne_true, show inV (V.str (Str.ofString "take")) [V.str (Str.ofString "call"), V.str (Str.ofString "take")] = true from by decide +kernel]
      exact ifT ⟨_, rfl, _, rfl, _, _, _, _, rfl, rfl, .of (st _ _ hs), rfl, q g us _ (st _ _ hg) (ItsAt.keeps hi fun _ _ e => st _ _ e) st⟩
def spIndex : Sp := fun vs H Q _ => ∃ (i : Int), vs = [.int i] ∧ ∀ H', Same H H' → Q (.bl (decide (0 ≤ i))) H'
theorem ok_index (T : Txt K mg a d) : FnOk P w K mg base CX0 2 (a 20) (d 20) ["thing"] spIndex := by
  have G9 : FnOk P w K mg base CX0 1 (a 9) (d 9) ["thing"] (spB plainV) := ok_plain T
  refine T.F20.ok sc__is_index (fun vs H Q E h => ?_) (fun cdv A outer s H vs Q E hr h => ?_)
  · obtain ⟨i, rfl, _⟩ := h
    rfl
  · obtain ⟨i, rfl, q⟩ := h
    refine ⟨_, (pss_one (ps_ret (pe_and (pe_call G9 (hr.mono (by decide)) (by rfl) T.g9 T.F9.kp T.b9 .nil pass0 (pa_cons (pv 0) pa_nil)) (pe_one (pe_cmpR op_ge (pv 0) pe_int (nomark _)))))), ?_⟩
    refine ⟨_, rfl, .int i, rfl, .int _, fun H1 s1 => ⟨_, rfl, ifT ?_⟩⟩
    exact ⟨_, rfl, _, _, rfl, rfl, q _ s1⟩
def itB : ItD → Bool
  | .val k => valV' (kV k)
  | .idx i => decide (0 ≤ i)
def spItem : Sp := fun vs H Q _ => ∃ (v : V) (it : ItD), vs = [v] ∧ ItAt H v it ∧ (∀ k, it = .val k → Thg H (kV k)) ∧ ∀ H', Same H H' → Q (.bl (itB it)) H'
theorem ok_item (T : Txt K mg a d) : FnOk P w K mg base CX0 3 (a 21) (d 21) ["thing"] spItem := by
  have G20 : FnOk P w K mg base CX0 2 (a 20) (d 20) ["thing"] spIndex := ok_index T
  have G11 : FnOk P w K mg base CX0 2 (a 11) (d 11) ["thing"] (spB valV') := ok_is_value T
  refine T.F21.ok sc__is_item (fun vs H Q E h => ?_) (fun cdv A outer s H vs Q E hr h => ?_)
  · obtain ⟨v, it, rfl, _⟩ := h
    rfl
  · obtain ⟨v, it, rfl, hi, ht, q⟩ := h
    refine ⟨_, (pss_cons (ps_if (pt_val (pe_callB (id := "isinstance")  call_isi (by rfl) T.z_isinstance (by decide +kernel) (pa_cons (pv 0) (pa_cons (pe_bltn (v := .ty "tuple") (by rfl) T.z_tuple (by decide +kernel) rfl) pa_nil))))
    (pss_one (ps_ret (pe_and (pe_cmpR op_eq (pe_callB (id := "len")  call_len_seq (by rfl) T.z_len (by decide +kernel) (pa_cons (pv 0) pa_nil)) pe_int (nomark _)) (pe_one (pe_call G11 (hr.mono (by decide)) (by rfl) T.g11 T.F11.kp T.b11 .nil pass0 (pa_cons (pe_ix ix_tup (pv 0) pe_int (fun _ _ => rfl)) pa_nil))))))
    pss_nil)
  (pss_one (ps_ret (pe_call G20 (hr.mono (by decide)) (by rfl) T.g20 T.F20.kp T.b20 .nil pass0 (pa_cons (pv 0) pa_nil))))), ?_⟩
    cases it with
    | val k =>
      obtain ⟨p, rfl, hp⟩ := hi
      refine ⟨_, rfl, _, _, _, _, _, rfl, .ty _, .base (.tup hp), kit_ty (show kitB "tuple" "tuple" = some true by decide +kernel), true, rfl, ifT ?_⟩
      refine ⟨_, rfl, p, _, rfl, .inr (.of hp), rfl, _, rfl, ifT ?_⟩
      exact ⟨_, rfl, _, _, _, _, rfl, rfl, .of hp, atI_nat (j := 0) rfl, kV k, rfl, ht k rfl, fun H1 s1 => q _ s1⟩
    | idx i =>
      obtain rfl : v = .int i := hi
      refine ⟨_, rfl, _, _, _, _, _, rfl, .ty _, .base (.int _), kit_ty (show kitB "int" "tuple" = some false by decide +kernel), false, rfl, ifF ?_⟩
      exact ⟨_, rfl, i, rfl, fun H1 s1 => q _ s1⟩
end
/-! ### the form of a step -/
def kinds : List (Str × Nat × Nat) := [("start", 2, 1), ("call", 5, 3), ("both", 4, 3), ("pair", 4, 3), ("where", 5, 2), ("take", 4, 2)]
/-- the dicts that the module wrote -/
structure TxtW (K : PySem.W.Frag) (w : World) (a : Nat → Addr) : Prop where
  l : WDct K w (a 90017)
  lv : ∀ x ∈ kinds, ∃ t, PySem.W.nsIn K (a 90017) x.1 = some (some (.int (x.2.1 : Nat) t))
  nv : ∀ x ∈ kinds, KDct K w (a 90018) x.1 (.int (x.2.2 : Nat))
def StD.ns : StD → List Str
  | .start n => [n]
  | .call n o s _ => [n, o, s]
  | .join _ n x y => [n, x, y]
  | .whr n o _ _ => [n, o]
  | .take n o _ => [n, o]
def StD.len : StD → Nat
  | .start _ => 2
  | .call .. => 5
  | .join .. => 4
  | .whr .. => 5
  | .take .. => 4
theorem st_kinds (st : StD) : (st.kind, st.len, st.ns.length) ∈ kinds := by
  cases st with
  | join b n x y => cases b <;> simp [kinds, StD.kind, StD.len, StD.ns]
  | _ => simp [kinds, StD.kind, StD.len, StD.ns]
theorem st_tup {H : Hp} {p : Addr} {st : StD} (h : StAt H p st) : ∃ rest : List V, H p = some (.tup (.str st.kind :: (st.ns.map V.str ++ rest))) ∧ st.ns.length + 1 + rest.length = st.len := by
  cases st with
  | start n => exact ⟨[], h, rfl⟩
  | call n o s its => obtain ⟨g, vs, h1, _⟩ := h; exact ⟨[.ref g], h1, rfl⟩
  | join b n x y => exact ⟨[], h, rfl⟩
  | whr n o i it => obtain ⟨v, h1, _⟩ := h; exact ⟨[.int i, v], h1, rfl⟩
  | take n o its => obtain ⟨g, vs, h1, _⟩ := h; exact ⟨[.ref g], h1, rfl⟩
section
variable {P : Program} {w : World} {K : PySem.W.Frag} {mg : Str → Option Value} {base : Heap} {a : Nat → Addr} {d : Nat → FuncData}
theorem int_shaped (i : Int) : SeqAt.shaped (.int i) = true := by simp [SeqAt.shaped, PyData.canLay0, PyData.depth]
theorem cut_mid (x : V) (ns rest : List V) : cutV (x :: (ns ++ rest)) (some 1) (some (1 + (ns.length : Nat))) = ns := by
  unfold cutV
  rw [show ((1 : Int) + (ns.length : Nat)) = ((1 + ns.length : Nat) : Int) by omega, show (1 : Int) = ((1 : Nat) : Int) from rfl, HT.sIx_nat, HT.sIx_nat]
  rw [List.length_cons, List.length_append, Nat.min_eq_left (by omega), Nat.min_eq_left (by omega), Nat.add_sub_cancel_left]
  show (ns ++ rest).take ns.length = ns
  rw [List.take_left']
  rfl
def spHLN : Sp := fun vs H Q _ => ∃ (p : Addr) (st : StD), vs = [.ref p] ∧ StAt H p st ∧ (∀ s ∈ st.ns, Wd s) ∧ ∀ H', Same H H' → Q (.bl true) H'
theorem ok_hln (T : Txt K mg a d) (W : TxtW K w a) : FnOk P w K mg base CX0 3 (a 22) (d 22) ["step"] spHLN := by
  have G10 : FnOk P w K mg base CX0 1 (a 10) (d 10) ["thing"] (spB wordV) := ok_is_word T
  refine T.F22.ok sc__has_length_and_names (fun vs H Q E h => ?_) (fun cdv A outer s H vs Q E hr h => ?_)
  · obtain ⟨p, st, rfl, _⟩ := h
    rfl
  · obtain ⟨p, st, rfl, hs, hw, q⟩ := h
    obtain ⟨rest, hp, hl⟩ := st_tup hs
    refine ⟨_, (pss_cons (ps_if (PW.pt (pw_or (pt_not (pt_val (pe_callB (id := "isinstance")  call_isi (by rfl) T.z_isinstance (by decide +kernel) (pa_cons (pv 0) (pa_cons (pe_bltn (v := .ty "tuple") (by rfl) T.z_tuple (by decide +kernel) rfl) pa_nil))))) (pw_or (pt_not (pt_truth (pv 0) (by intro _; rfl))) (pw_or1 (pt_not (pt_val (pe_callB (id := "isinstance")  call_isi (by rfl) T.z_isinstance (by decide +kernel) (pa_cons (pe_ix ix_tup (pv 0) pe_int (fun _ _ => rfl)) (pa_cons (pe_bltn (v := .ty "str") (by rfl) T.z_str (by decide +kernel) rfl) pa_nil)))))))))
    (pss_one (ps_ret pe_bl))
    pss_nil)
  (pss_cons (ps_if (pt_cmpR (op_neD (hu_of64 hr)) (pe_callB (id := "len")  call_len_seq (by rfl) T.z_len (by decide +kernel) (pa_cons (pv 0) pa_nil)) (pe_wget1 (pe_glob (v := .ref (a 90017)) (by rfl) T.wg__LENGTHS rfl) (pe_ix ix_tup (pv 0) pe_int (fun _ _ => rfl)) ⟨rfl, rfl, rfl, rfl⟩) (nomark _))
    (pss_one (ps_ret pe_bl))
    pss_nil)
  (pss_one (ps_ret (pe_callB (id := "all")  (cr_all rfl) (by rfl) T.z_all (by decide +kernel) (pa_cons (pe_lc (own := [("name", 1)]) rfl sc__has_length_and_names.nd (pi_tup (pe_slice sl_tupA (pv 0) (po_some pe_int) (po_some (pe_op op_add pe_int (pe_ix ix_kdict (pe_glob (v := .ref (a 90018)) (by rfl) T.wg__NAMES rfl) (pe_ix ix_tup (pv 0) pe_int (fun _ _ => rfl)) (fun _ _ => rfl)))))) (blkOk_by (N := ["step", "name"]) (sc := defScope s__has_length_and_names) (by decide +kernel)) (fun _ _ _ _ _ => pg_name (i := 1) sc__has_length_and_names.nd rfl (.inl rfl)) (fun _ _ _ _ _ => pts_nil) (fun _ _ _ _ _ => (pe_call G10 (hr.mono (by decide)) (by rfl) T.g10 T.F10.kp T.b10 .nil pass0 (pa_cons (pv 1) pa_nil)))) pa_nil)))))), ?_⟩
    refine ⟨_, rfl, _, _, _, _, _, rfl, .ty _, .base (.tup hp), kit_ty (show kitB "tuple" "tuple" = some true by decide +kernel), true, rfl, ifF ?_⟩
    refine ⟨_, rfl, true, ?_, ifF ?_⟩
    · exact .inr (.inl ⟨_, .of hp, rfl⟩)
    · refine ⟨_, rfl, _, _, _, _, rfl, rfl, .of hp, atI_nat (j := 0) rfl, _, _, _, _, _, rfl, .ty _, .base (.str _), kit_ty (show kitB "str" "str" = some true by decide +kernel), true, rfl, ifF ?_⟩
      obtain ⟨t, ht⟩ := W.lv _ (st_kinds st)
      refine ⟨_, rfl, p, _, rfl, .inr (.of hp), _, rfl, W.l, _, rfl, _, _, _, _, rfl, rfl, .of hp, atI_nat (j := 0) rfl, st.kind, rfl, .inl ⟨.int (st.len : Nat), _, ht, ⟨t, rfl⟩, _, _, .int _, .int _, int_shaped _, int_shaped _, _, rfl, ?_⟩⟩
      have e1 : ((V.str st.kind :: (st.ns.map V.str ++ rest)).length : Int) = (st.len : Nat) := by
        rw [List.length_cons, List.length_append, List.length_map]
        omega
      rw [e1, PySem.SeqAt.eqv_refl _ (PySem.SeqAt.canLay_of_shaped (int_shaped _))]
      refine ifF ?_
      refine ⟨_, rfl, _, rfl, _, rfl, _, _, _, _, rfl, rfl, .of hp, atI_nat (j := 0) rfl, _, st.kind, _, rfl, rfl, W.nv _ (st_kinds st), _, _, rfl, rfl, _, rfl, ?_⟩
      have nw : ¬ (HT.sIx (V.str st.kind :: (st.ns.map V.str ++ rest)).length 0 (some 1) = 0) := by
        rw [show (1 : Int) = ((1 : Nat) : Int) from rfl, HT.sIx_nat, List.length_cons]
        omega
      refine ⟨p, _, rfl, .of hp, fun e => absurd e.1 nw, fun _ g hg => ?_⟩
      have ec : cutV (V.str st.kind :: (st.ns.map V.str ++ rest)) (some 1) (some (1 + (st.ns.length : Nat))) = st.ns.map V.str := by
        have := cut_mid (V.str st.kind) (st.ns.map V.str) rest
        rw [List.length_map] at this
        exact this
      rw [ec]
      have sg := same_upd (o := .tup (st.ns.map V.str)) hg
      have hg2 : upd H g (.tup (st.ns.map V.str)) g = some (.tup (st.ns.map V.str)) := upd_same
      generalize upd H g (.tup (st.ns.map V.str)) = H1 at sg hg2 ⊢
      refine ⟨g, rfl, ⟨_, .of hg2⟩, fun D hD => ?_⟩
      have l3 : st.ns.length ≤ 3 := by cases st <;> simp [StD.ns]
      refine lc_tup (K := K) (a := g) (xs := st.ns.map V.str) (fun i H' => H' D = some (.lst ((List.replicate i true).map V.bl)) ∧ Same H1 H') ⟨upd_same, same_upd hD⟩ (fun i H' _ hp => .of (hp.2 _ _ hg2)) (fun i y H' hy hp => ?_) (fun H' hp => ?_)
      · obtain ⟨h1, h2⟩ := hp
        obtain ⟨z, hz, rfl⟩ := map_at hy
        have hzm := hw z (List.mem_of_getElem? hz)
        have li : i < st.ns.length := (List.getElem?_eq_some_iff.mp hz).1
        refine ⟨rfl, _, rfl, .str z, rfl, wd_thg hzm, fun H2 s2 => ?_⟩
        rw [show wordV (V.str z) = true from wd_b hzm]
        refine ⟨_, s2 _ _ h1, ?_, ?_, fun c o e => ?_⟩
        · rw [List.length_map, List.length_replicate]
          exact small1000 (by omega)
        · rw [List.replicate_succ', List.map_append]
          exact upd_same
        · rw [upd_ne (ne_of_none e hD)]
          exact s2 _ _ (h2 _ _ e)
      · obtain ⟨h1, h2⟩ := hp
        refine ⟨D, List.replicate (st.ns.map V.str).length true, rfl, .of h1, ?_⟩
        rw [show (List.replicate (st.ns.map V.str).length true).all id = true by rw [List.all_replicate]; simp]
        exact q _ (sg.trans h2)
theorem good_keyV {k : Key} (h : KVal k) : valV' (kV k) = true := by
  cases k with
  | inl i =>
    refine decide_eq_true ?_
    have e : (10 : Int) ^ 30 - 1 = 999999999999999999999999999999 := by decide
    obtain ⟨h1, h2⟩ := (show -(10 ^ 30 - 1) ≤ i ∧ i ≤ 10 ^ 30 - 1 from h)
    rw [e] at h1 h2
    exact ⟨h1, h2⟩
  | inr s =>
    show wordB s = true
    unfold wordB
    rw [decide_eq_true ⟨h.1, h.2.1⟩, Bool.true_and, List.all_eq_true]
    exact fun c hc => decide_eq_true (h.2.2 c hc)
structure StOk (st : StD) : Prop where
  ns : ∀ s ∈ st.ns, Wd s
  its : ∀ it ∈ st.items, ItOk it
  len : st.items.length ≤ 100
theorem itok_b {it : ItD} (h : ItOk it) : itB it = true := by
  cases it with
  | val k => exact good_keyV h
  | idx i => exact decide_eq_true h
theorem kval_thg {H : Hp} {k : Key} (h : KVal k) : Thg H (kV k) := by
  cases k with
  | inl i => exact .int _
  | inr s => exact wd_thg h
def spForm : Sp := fun vs H Q _ => ∃ (p : Addr) (st : StD), vs = [.ref p] ∧ StAt H p st ∧ StOk st ∧ ∀ H', Same H H' → Q (.bl true) H'
theorem ok_form (T : Txt K mg a d) (W : TxtW K w a) : FnOk P w K mg base CX0 4 (a 23) (d 23) ["step"] spForm := by
  have G22 : FnOk P w K mg base CX0 3 (a 22) (d 22) ["step"] spHLN := ok_hln T W
  have G19 : FnOk P w K mg base CX0 1 (a 19) (d 19) ["step"] spItems := ok_items T
  have G21 : FnOk P w K mg base CX0 3 (a 21) (d 21) ["thing"] spItem := ok_item T
  have G20 : FnOk P w K mg base CX0 2 (a 20) (d 20) ["thing"] spIndex := ok_index T
  refine T.F23.ok sc__has_form (fun vs H Q E h => ?_) (fun cdv A outer s H vs Q E hr h => ?_)
  · obtain ⟨p, st, rfl, _⟩ := h
    rfl
  · obtain ⟨p, st, rfl, hs, ho, q⟩ := h
    refine ⟨_, (pss_cons (ps_if (pt_not (pt_val (pe_call G22 (hr.mono (by decide)) (by rfl) T.g22 T.F22.kp T.b22 .nil pass0 (pa_cons (pv 0) pa_nil))))
    (pss_one (ps_ret pe_bl))
    pss_nil)
  (pss_cons (ps_set (i := 1) sc__has_form.nd rfl (.inl rfl) (pe_call G19 (hr.mono (by decide)) (by rfl) T.g19 T.F19.kp T.b19 .nil pass0 (pa_cons (pv 0) pa_nil)))
  (pss_cons (ps_if (PW.pt (pw_or (pt_not (pt_val (pe_callB (id := "isinstance")  call_isi (by rfl) T.z_isinstance (by decide +kernel) (pa_cons (pv 1) (pa_cons (pe_bltn (v := .ty "tuple") (by rfl) T.z_tuple (by decide +kernel) rfl) pa_nil))))) (pw_or1 (pt_not (pt_val (pe_callB (id := "all")  (cr_all rfl) (by rfl) T.z_all (by decide +kernel) (pa_cons (pe_lc (own := [("item", 2)]) rfl sc__has_form.nd (pi_tup (pv 1)) (blkOk_by (N := ["step", "items", "item"]) (sc := defScope s__has_form) (by decide +kernel)) (fun _ _ _ _ _ => pg_name (i := 2) sc__has_form.nd rfl (.inl rfl)) (fun _ _ _ _ _ => pts_nil) (fun _ _ _ _ _ => (pe_call G21 (hr.mono (by decide)) (by rfl) T.g21 T.F21.kp T.b21 .nil pass0 (pa_cons (pv 2) pa_nil)))) pa_nil)))))))
    (pss_one (ps_ret pe_bl))
    pss_nil)
  (pss_one (ps_ret (pe_or (pe_cmpR op_ne (pe_ix ix_tup (pv 0) pe_int (fun _ _ => rfl)) pe_str (nomark _)) (pe_one (pe_call G20 (hr.mono (by decide)) (by rfl) T.g20 T.F20.kp T.b20 .nil pass0 (pa_cons (pe_ix ix_tup (pv 0) pe_int (fun _ _ => rfl)) pa_nil))))))))), ?_⟩
    refine ⟨_, rfl, p, st, rfl, hs, ho.ns, fun H1 s1 => ⟨true, rfl, ifF ?_⟩⟩
    refine ⟨_, rfl, p, st, rfl, hs.keeps fun _ _ e => s1 _ _ e, fun g us H2 hg hi s2 => ?_⟩
    have s02 := s1.trans s2
    refine ⟨_, rfl, _, _, _, _, _, rfl, .ty _, .base (.tup hg), kit_ty (show kitB "tuple" "tuple" = some true by decide +kernel), true, rfl, ifF ?_⟩
    refine ⟨_, rfl, g, rfl, ⟨_, .of hg⟩, fun D hD => ?_⟩
    have hlen := Paired.length hi
    refine lc_tup (K := K) (a := g) (xs := us) (fun i H' => H' D = some (.lst ((List.replicate i true).map V.bl)) ∧ Same H2 H') ⟨upd_same, same_upd hD⟩ (fun i H' _ hp => .of (hp.2 _ _ hg)) (fun i y H' hy hp => ?_) (fun H' hp => ?_)
    · obtain ⟨h1, h2⟩ := hp
      have li : i < us.length := (List.getElem?_eq_some_iff.mp hy).1
      obtain ⟨it, hit, hR⟩ := paired_get hi hy
      have io := ho.its it (List.mem_of_getElem? hit)
      refine ⟨rfl, _, rfl, y, it, rfl, ItAt.keeps hR fun _ _ e => h2 _ _ e, fun k e => by subst e; exact kval_thg io, fun H3 s3 => ?_⟩
      rw [itok_b io]
      refine ⟨_, s3 _ _ h1, ?_, ?_, fun c o e => ?_⟩
      · rw [List.length_map, List.length_replicate]
        exact small1000 (by have := ho.len; omega)
      · rw [List.replicate_succ', List.map_append]
        exact upd_same
      · rw [upd_ne (ne_of_none e hD)]
        exact s3 _ _ (h2 _ _ e)
    · obtain ⟨h1, h2⟩ := hp
      refine ⟨D, List.replicate us.length true, rfl, .of h1, true, by rw [List.all_replicate]; simp, ifF ?_⟩
      have s03 := s02.trans h2
      have hs3 := hs.keeps fun _ _ e => s03 _ _ e
      obtain ⟨rest, hp3, _⟩ := st_tup hs3
      refine ⟨_, rfl, _, _, _, _, rfl, rfl, .of hp3, atI_nat (j := 0) rfl, rfl, ?_⟩
      by_cases hw : st.kind = "where"
      · cases st with
        | whr n o i it =>
          obtain ⟨v, hv, _⟩ := hs3
          refine ⟨_, rfl, ite_nd (fun e => absurd rfl e) (fun _ => ?_)⟩
          have i0 : 0 ≤ i := ho.its (.idx i) List.mem_cons_self
          refine ⟨_, rfl, _, _, _, _, rfl, rfl, .of hv, atI_nat (j := 3) rfl, i, rfl, fun H4 s4 => ?_⟩
          rw [decide_eq_true i0]
          exact q _ (s03.trans s4)
        | start n => exact absurd hw (by show ¬ (("start" : Str) = "where"); decide +kernel)
        | call n o s its => exact absurd hw (by show ¬ (("call" : Str) = "where"); decide +kernel)
        | join b n x y => exact absurd hw (by show ¬ ((if b then "both" else "pair" : Str) = "where"); cases b <;> decide +kernel)
        | take n o its => exact absurd hw (by show ¬ (("take" : Str) = "where"); decide +kernel)
      · refine ⟨_, rfl, ite_nd (fun _ => q _ s03) (fun e => absurd (V.str.inj e) hw)⟩
end
section
variable {P : Program} {w : World} {K : PySem.W.Frag} {mg : Str → Option Value} {base : Heap} {a : Nat → Addr} {d : Nat → FuncData}
def spUsed : Sp := fun vs H Q _ => ∃ (p : Addr) (st : StD), vs = [.ref p] ∧ StAt H p st ∧ ∀ (g : Addr) (H' : Hp), H' g = some (.tup (st.used.map V.str)) → Same H H' → Q (.ref g) H'
theorem ok_used (T : Txt K mg a d) : FnOk P w K mg base CX0 1 (a 24) (d 24) ["step"] spUsed := by
  refine T.F24.ok sc__used (fun vs H Q E h => ?_) (fun cdv A outer s H vs Q E hr h => ?_)
  · obtain ⟨p, st, rfl, _⟩ := h
    rfl
  · obtain ⟨p, st, rfl, hs, q⟩ := h
    obtain ⟨rest, hp, hl⟩ := st_tup hs
    refine ⟨_, (pss_cons (ps_if (pt_cmpR op_in_seq (pe_ix ix_tup (pv 0) pe_int (fun _ _ => rfl)) (pe_tup (pa_cons pe_str (pa_cons pe_str pa_nil))) (by rfl))
    (pss_one (ps_ret (pe_slice sl_tupA (pv 0) (po_some pe_int) (po_some pe_int))))
    pss_nil)
  (pss_one (ps_ret (pe_slice sl_tupA (pv 0) (po_some pe_int) (po_some pe_int))))), ?_⟩
    refine ⟨_, rfl, _, _, _, _, rfl, rfl, .of hp, atI_nat (j := 0) rfl, by show 2 ≤ sizeLine; decide, fun t ht => ⟨t, _, rfl, .inr (.of upd_same), rfl, rfl, _, rfl, ?_⟩⟩
    have st1 := same_upd (o := .tup [.str "both", .str "pair"]) ht
    have hs1 := hs.keeps fun _ _ e => st1 _ _ e
    generalize upd H t (.tup [V.str (Str.ofString "both"), V.str (Str.ofString "pair")]) = H1 at st1 hs1 ⊢
    rw [if_neg Bool.false_ne_true]
    have fin : ∀ (xs : List V) (hi : Int), H1 p = some (.tup xs) → 2 ≤ xs.length → cutV xs (some 2) (some hi) = st.used.map V.str → ∃ (b : Addr) (ys : List V), V.ref p = .ref b ∧ SqT K H1 b ys ∧ ((HT.sIx ys.length 0 (some 2) = 0 ∧ HT.sIx ys.length ys.length (some hi) = ys.length → Q (.ref b) H1) ∧ (¬(HT.sIx ys.length 0 (some 2) = 0 ∧ HT.sIx ys.length ys.length (some hi) = ys.length) → ∀ g, H1 g = none → Q (.ref g) (upd H1 g (.tup (cutV ys (some 2) (some hi)))))) := fun xs hi h1 h2 h3 => by
      refine ⟨p, xs, rfl, .of h1, fun e => ?_, fun _ g hg => ?_⟩
      · have e1 := e.1
        rw [show (2 : Int) = ((2 : Nat) : Int) from rfl, HT.sIx_nat] at e1
        omega
      · rw [h3]
        exact q g _ upd_same (st1.trans (same_upd hg))
    cases st with
    | start n =>
      rw [show inV (V.str (StD.start n).kind) [V.str (Str.ofString "both"), V.str (Str.ofString "pair")] = false from by show inV (V.str (Str.ofString "start")) _ = false; decide +kernel]
      refine ifF ⟨_, rfl, _, rfl, _, rfl, fin _ _ hs1 (by show 2 ≤ 2; decide) rfl⟩
    | call n o s its =>
      obtain ⟨g, us, h1, _⟩ := hs1
      rw [show inV (V.str (StD.call n o s its).kind) [V.str (Str.ofString "both"), V.str (Str.ofString "pair")] = false from by show inV (V.str (Str.ofString "call")) _ = false; decide +kernel]
      refine ifF ⟨_, rfl, _, rfl, _, rfl, fin _ _ h1 (by show 2 ≤ 5; decide) rfl⟩
    | join b n x y =>
      have h1 : H1 p = some (.tup [.str (if b then "both" else "pair"), .str n, .str x, .str y]) := hs1
      rw [show inV (V.str (StD.join b n x y).kind) [V.str (Str.ofString "both"), V.str (Str.ofString "pair")] = true from by show inV (V.str (if b then "both" else "pair")) _ = true; cases b <;> decide +kernel]
      refine ifT ⟨_, rfl, _, rfl, _, rfl, fin _ _ h1 (by show 2 ≤ 4; decide) rfl⟩
    | whr n o i it =>
      obtain ⟨v, h1, _⟩ := hs1
      rw [show inV (V.str (StD.whr n o i it).kind) [V.str (Str.ofString "both"), V.str (Str.ofString "pair")] = false from by show inV (V.str (Str.ofString "where")) _ = false; decide +kernel]
      refine ifF ⟨_, rfl, _, rfl, _, rfl, fin _ _ h1 (by show 2 ≤ 5; decide) rfl⟩
    | take n o its =>
      obtain ⟨g, us, h1, _⟩ := hs1
      rw [show inV (V.str (StD.take n o its).kind) [V.str (Str.ofString "both"), V.str (Str.ofString "pair")] = false from by show inV (V.str (Str.ofString "take")) _ = false; decide +kernel]
      refine ifF ⟨_, rfl, _, rfl, _, rfl, fin _ _ h1 (by show 2 ≤ 4; decide) rfl⟩
end
/-! ### the sizes of the relations so far -/
/-- the width, the parts and the calls -/
abbrev SzD := Int × Int × Int
def szV (t : SzD) : List V := [.int t.1, .int t.2.1, .int t.2.2]
/-- the dict: for each name the size, or nothing -/
def SzAt (H : Hp) (z : Addr) (sz : Str → Option SzD) : Prop :=
  ∃ kvs : List (Key × V), H z = some (.dK kvs) ∧ ∀ n, (sz n = none → valV kvs (.inr n) = none) ∧ ∀ t, sz n = some t → ∃ b, valV kvs (.inr n) = some (.ref b) ∧ H b = some (.tup (szV t))
theorem SzAt.get {H : Hp} {z : Addr} {sz : Str → Option SzD} (h : SzAt H z sz) {n : Str} {t : SzD} (e : sz n = some t) : ∃ b, DGet H z (.str n) (some (.ref b)) ∧ H b = some (.tup (szV t)) := by
  obtain ⟨kvs, hz, h⟩ := h
  obtain ⟨b, e1, e2⟩ := (h n).2 t e
  exact ⟨b, e1 ▸ DGet.k (k := .inr n) hz, e2⟩
theorem SzAt.has {H : Hp} {z : Addr} {sz : Str → Option SzD} (h : SzAt H z sz) (n : Str) : ∃ o, DGet H z (.str n) o ∧ o.isSome = (sz n).isSome := by
  obtain ⟨kvs, hz, h⟩ := h
  refine ⟨_, DGet.k (k := .inr n) hz, ?_⟩
  cases e : sz n with
  | none => rw [(h n).1 e]; rfl
  | some t =>
    obtain ⟨b, e1, _⟩ := (h n).2 t e
    rw [e1]
    rfl
theorem SzAt.same {H H' : Hp} {z : Addr} {sz : Str → Option SzD} (h : SzAt H z sz) (s : Same H H') : SzAt H' z sz := by
  obtain ⟨kvs, hz, h⟩ := h
  refine ⟨kvs, s _ _ hz, fun n => ⟨(h n).1, fun t e => ?_⟩⟩
  obtain ⟨b, e1, e2⟩ := (h n).2 t e
  exact ⟨b, e1, s _ _ e2⟩
/-- the widths of the two parts of a union are equal -/
def joinB (sz : Str → Option SzD) : StD → Bool
  | .join true _ x y => decide (((sz x).getD (0, 0, 0)).1 = ((sz y).getD (0, 0, 0)).1)
  | _ => true
section
variable {P : Program} {w : World} {K : PySem.W.Frag} {mg : Str → Option Value} {base : Heap} {a : Nat → Addr} {d : Nat → FuncData}
def spJoin : Sp := fun vs H Q _ => ∃ (p z : Addr) (st : StD) (sz : Str → Option SzD), vs = [.ref p, .ref z] ∧ StAt H p st ∧ SzAt H z sz ∧ (∀ n ∈ st.used, (sz n).isSome = true) ∧ Q (.bl (joinB sz st)) H
theorem ok_join (T : Txt K mg a d) : FnOk P w K mg base CX0 1 (a 28) (d 28) ["step", "sizes"] spJoin := by
  refine T.F28.ok sc__joins_equal_widths (fun vs H Q E h => ?_) (fun cdv A outer s H vs Q E hr h => ?_)
  · obtain ⟨p, z, st, sz, rfl, _⟩ := h
    rfl
  · obtain ⟨p, z, st, sz, rfl, hs, hz, hu, q⟩ := h
    obtain ⟨rest, hp, hl⟩ := st_tup hs
    refine ⟨_, (pss_one (ps_ret (pe_or (pe_cmpR op_ne (pe_ix ix_tup (pv 0) pe_int (fun _ _ => rfl)) pe_str (nomark _)) (pe_one (pe_cmpR op_eq (pe_ix ix_tup (pe_dget (hu_of hr) (pv 1) (pe_ix ix_tup (pv 0) pe_int (fun _ _ => rfl)) (fun _ _ => rfl)) pe_int (fun _ _ => rfl)) (pe_ix ix_tup (pe_dget (hu_of hr) (pv 1) (pe_ix ix_tup (pv 0) pe_int (fun _ _ => rfl)) (fun _ _ => rfl)) pe_int (fun _ _ => rfl)) (nomark _)))))), ?_⟩
    refine ⟨_, rfl, _, _, _, _, rfl, rfl, .of hp, atI_nat (j := 0) rfl, rfl, _, rfl, ?_⟩
    rw [show decide (V.str st.kind = V.str (Str.ofString "both")) = decide (st.kind = "both") from by rw [Bool.eq_iff_iff]; simp]
    cases st with
    | join b n x y =>
      cases b with
      | true =>
        have h1 : H p = some (.tup [.str "both", .str n, .str x, .str y]) := hs
        obtain ⟨tx, ex⟩ := Option.isSome_iff_exists.mp (hu x (by show x ∈ [x, y]; simp))
        obtain ⟨ty, ey⟩ := Option.isSome_iff_exists.mp (hu y (by show y ∈ [x, y]; simp))
        obtain ⟨bx, gx, hx⟩ := hz.get ex
        obtain ⟨b', gy, hy⟩ := hz.get ey
        rw [show decide ((StD.join true n x y).kind = "both") = true from rfl]
        refine ifF ?_
        refine ⟨_, rfl, _, rfl, _, _, _, _, rfl, rfl, .of h1, atI_nat (j := 2) rfl, z, _, rfl, gx, _, _, _, _, rfl, rfl, .of hx, atI_nat (j := 0) rfl, ?_⟩
        refine ⟨_, rfl, _, rfl, _, _, _, _, rfl, rfl, .of h1, atI_nat (j := 3) rfl, z, _, rfl, gy, _, _, _, _, rfl, rfl, .of hy, atI_nat (j := 0) rfl, rfl, ?_⟩
        have e : joinB sz (.join true n x y) = decide (tx.1 = ty.1) := by show decide (((sz x).getD (0, 0, 0)).1 = ((sz y).getD (0, 0, 0)).1) = _; rw [ex, ey]; rfl
        rw [e] at q
        rw [show decide (V.int tx.1 = V.int ty.1) = decide (tx.1 = ty.1) from by rw [Bool.eq_iff_iff]; simp]
        exact q
      | false =>
        rw [show decide ((StD.join false n x y).kind = "both") = false from by show decide (("pair" : Str) = "both") = false; decide +kernel]
        exact ifT q
    | start n => rw [show decide ((StD.start n).kind = "both") = false from by show decide (("start" : Str) = "both") = false; decide +kernel]; exact ifT q
    | call n o s its => rw [show decide ((StD.call n o s its).kind = "both") = false from by show decide (("call" : Str) = "both") = false; decide +kernel]; exact ifT q
    | whr n o i it => rw [show decide ((StD.whr n o i it).kind = "both") = false from by show decide (("where" : Str) = "both") = false; decide +kernel]; exact ifT q
    | take n o its => rw [show decide ((StD.take n o its).kind = "both") = false from by show decide (("take" : Str) = "both") = false; decide +kernel]; exact ifT q
end
/-! ### the names of a step -/
theorem st_name {H : Hp} {p : Addr} {st : StD} (h : StAt H p st) : ∃ r, H p = some (.tup (.str st.kind :: .str st.name :: r)) := by
  cases st with
  | start n => exact ⟨_, h⟩
  | call n o s its => obtain ⟨g, vs, h1, _⟩ := h; exact ⟨_, h1⟩
  | join b n x y => exact ⟨_, h⟩
  | whr n o i it => obtain ⟨v, h1, _⟩ := h; exact ⟨_, h1⟩
  | take n o its => obtain ⟨g, vs, h1, _⟩ := h; exact ⟨_, h1⟩
/-- the name is new, the others are known -/
def namesB (sz : Str → Option SzD) (ss : List SvE) (st : StD) : Bool :=
  !(sz st.name).isSome && st.used.all (fun n => (sz n).isSome) && match st with
    | .call _ _ s _ => (ss.map (·.name)).any fun x => decide (x = s)
    | _ => true
theorem inV_perm (s : Str) {ys zs : List Str} (h : ys.Perm zs) : inV (V.str s) (ys.map V.str) = zs.any fun x => decide (x = s) := by
  unfold inV
  rw [List.any_map, Bool.eq_iff_iff, List.any_eq_true, List.any_eq_true]
  constructor
  · rintro ⟨y, hy, e⟩
    exact ⟨y, h.mem_iff.mp hy, by simpa [eqV] using e⟩
  · rintro ⟨y, hy, e⟩
    exact ⟨y, h.mem_iff.mpr hy, by simpa [eqV] using e⟩
theorem used_len (st : StD) : st.used.length ≤ 2 := by cases st <;> simp [StD.used]
section
variable {P : Program} {w : World} {K : PySem.W.Frag} {mg : Str → Option Value} {base : Heap} {a : Nat → Addr} {d : Nat → FuncData}
def spHasN (C : Addr) : Sp := fun vs H Q _ => ∃ (sp p z : Addr) (st : StD) (sz : Str → Option SzD) (ts : List (Str × Int)) (ks : List KeyE) (ss : List SvE) (m n : Nat), vs = [.ref sp, .ref p, .ref z] ∧ SchAt C sp H ts ks ss m n ∧ StAt H p st ∧ SzAt H z sz ∧ ∀ H', Same H H' → Q (.bl (namesB sz ss st)) H'
theorem ok_hasn (T : Txt K mg a d) : FnOk P w K mg base CX0 2 (a 25) (d 25) ["schema", "step", "sizes"] (spHasN (a 47)) := by
  have G24 : FnOk P w K mg base CX0 1 (a 24) (d 24) ["step"] spUsed := ok_used T
  have G5706 : FnOk P w K mg base CX0 1 (a 5706) (d 5706) ["self"] (spNms (a 47) fun _ ss => ss.map (·.name)) := ok_service_names T
  refine T.F25.ok sc__has_names (fun vs H Q E h => ?_) (fun cdv A outer s H vs Q E hr h => ?_)
  · obtain ⟨sp, p, z, st, sz, ts, ks, ss, m, n, rfl, _⟩ := h
    rfl
  · obtain ⟨sp, p, z, st, sz, ts, ks, ss, m, n, rfl, hS, hs, hz, q⟩ := h
    obtain ⟨rest, hp⟩ := st_name hs
    obtain ⟨dx, d1, d2, d3, o0⟩ := hS
    refine ⟨_, (pss_cons (ps_if (PW.pt (pw_or (pt_cmp (pc_din (hu_of hr) (pe_ix ix_tup (pv 1) pe_int (fun _ _ => rfl)) (pv 2))) (pw_or1 (pt_not (pt_val (pe_callB (id := "all")  (cr_all rfl) (by rfl) T.z_all (by decide +kernel) (pa_cons (pe_lc (own := [("name", 3)]) rfl sc__has_names.nd (pi_tup (pe_call G24 (hr.mono (by decide)) (by rfl) T.g24 T.F24.kp T.b24 .nil pass0 (pa_cons (pv 1) pa_nil))) (blkOk_by (N := ["schema", "step", "sizes", "name"]) (sc := defScope s__has_names) (by decide +kernel)) (fun _ _ _ _ _ => pg_name (i := 3) sc__has_names.nd rfl (.inl rfl)) (fun _ _ _ _ _ => pts_nil) (fun _ _ _ _ _ => (pe_cmp (pc_din (hu_of hr) (pv 3) (pv 2)) rfl))) pa_nil)))))))
    (pss_one (ps_ret pe_bl))
    pss_nil)
  (pss_one (ps_ret (pe_or (pe_cmpR op_ne (pe_ix ix_tup (pv 1) pe_int (fun _ _ => rfl)) pe_str (nomark _)) (pe_one (pe_cmpR op_in_seq (pe_ix ix_tup (pv 1) pe_int (fun _ _ => rfl)) (pe_meth0 (pv 0) T.cl_47 T.m_5706 G5706 (hr.mono (by decide)) T.b5706 .nil pass0) (by rfl))))))), ?_⟩
    obtain ⟨o, g1, g2⟩ := hz.has st.name
    refine ⟨_, rfl, _, _, _, _, rfl, rfl, .of hp, atI_nat (j := 1) rfl, _, rfl, z, _, rfl, g1, ?_⟩
    rw [g2]
    by_cases e1 : (sz st.name).isSome = true
    · rw [e1]
      refine ⟨_, rfl, ifT (ifT ?_)⟩
      have e : namesB sz ss st = false := by unfold namesB; rw [e1]; rfl
      exact e ▸ q H (fun _ _ e => e)
    · have e1' : (sz st.name).isSome = false := by cases h : (sz st.name).isSome with | true => exact absurd h e1 | false => rfl
      rw [e1']
      refine ⟨_, rfl, ifF ?_⟩
      refine ⟨_, rfl, p, st, rfl, hs, fun g H1 hg s1 => ?_⟩
      refine ⟨g, rfl, ⟨_, .of hg⟩, fun D hD => ?_⟩
      have l3 := used_len st
      refine lc_tup (K := K) (a := g) (xs := st.used.map V.str) (fun i H' => H' D = some (.lst (((st.used.take i).map fun n => (sz n).isSome).map V.bl)) ∧ Same H1 H') ⟨upd_same, same_upd hD⟩ (fun i H' _ hp => .of (hp.2 _ _ hg)) (fun i y H' hy hp => ?_) (fun H' hp => ?_)
      · obtain ⟨h1, h2⟩ := hp
        obtain ⟨x, hx, rfl⟩ := map_at hy
        obtain ⟨ox, f1, f2⟩ := ((hz.same s1).same h2).has x
        have li : i < st.used.length := (List.getElem?_eq_some_iff.mp hx).1
        refine ⟨rfl, _, rfl, _, rfl, z, _, rfl, f1, ?_⟩
        rw [f2]
        refine ⟨_, h1, ?_, ?_, fun c o e => ?_⟩
        · rw [List.length_map, List.length_map, List.length_take]
          exact small1000 (by omega)
        · rw [List.take_succ, hx, List.map_append, List.map_append]
          exact upd_same
        · rw [upd_ne (ne_of_none e hD)]
          exact h2 _ _ e
      · obtain ⟨h1, h2⟩ := hp
        rw [List.length_map, List.take_length] at h1
        refine ⟨D, _, rfl, .of h1, _, rfl, ?_⟩
        have ea : ((st.used.map fun n => (sz n).isSome)).all id = st.used.all (fun n => (sz n).isSome) := by rw [List.all_map]; rfl
        rw [ea]
        have s2 := s1.trans h2
        cases e2 : st.used.all (fun n => (sz n).isSome) with
        | false =>
          refine ifT ?_
          have e : namesB sz ss st = false := by unfold namesB; rw [e2, Bool.and_false]; rfl
          exact e ▸ q H' s2
        | true =>
          refine ifF ?_
          have hs' := hs.keeps fun _ _ e => s2 _ _ e
          have e3 : (sz st.name).isSome = false := e1'
          refine ⟨_, rfl, _, _, _, _, rfl, rfl, .of (s2 _ _ hp), atI_nat (j := 0) rfl, rfl, _, rfl, ?_⟩
          rw [show decide (V.str st.kind = V.str (Str.ofString "call")) = decide (st.kind = "call") from by rw [Bool.eq_iff_iff]; simp]
          cases st with
          | call n o s its =>
            obtain ⟨g', us, k1, _⟩ := hs'
            rw [show decide ((StD.call n o s its).kind = "call") = true from rfl]
            refine ifF ?_
            refine ⟨_, rfl, _, _, _, _, rfl, rfl, .of k1, atI_nat (j := 3) rfl, _, rfl, sp, dx, _, rfl, (o0.same s2).ob, flds_no _ _ _ (by decide +kernel) (by decide +kernel) (by decide +kernel), sp, ts, ks, ss, m, _, rfl, ⟨dx, d1, d2, d3, o0.same s2⟩, fun l ys H2 hl h5 yp so s3 => ?_⟩
            refine ⟨l, _, rfl, .inl (.of h5), rfl, flat_strs ys, ?_⟩
            have e : namesB sz ss (.call n o s its) = inV (V.str s) (ys.map V.str) := by unfold namesB; rw [e2, e3, inV_perm s yp]; rfl
            rw [if_neg Bool.false_ne_true]
            exact e ▸ q H2 (s2.trans s3)
          | start n =>
            rw [show decide ((StD.start n).kind = "call") = false from by show decide (("start" : Str) = "call") = false; decide +kernel]
            refine ifT ?_
            have e : namesB sz ss (.start n) = true := by unfold namesB; rw [e2, e3]; rfl
            exact e ▸ q H' s2
          | join b n x y =>
            rw [show decide ((StD.join b n x y).kind = "call") = false from by show decide ((if b then "both" else "pair" : Str) = "call") = false; cases b <;> decide +kernel]
            refine ifT ?_
            have e : namesB sz ss (.join b n x y) = true := by unfold namesB; rw [e2, e3]; rfl
            exact e ▸ q H' s2
          | whr n o i it =>
            rw [show decide ((StD.whr n o i it).kind = "call") = false from by show decide (("where" : Str) = "call") = false; decide +kernel]
            refine ifT ?_
            have e : namesB sz ss (.whr n o i it) = true := by unfold namesB; rw [e2, e3]; rfl
            exact e ▸ q H' s2
          | take n o its =>
            rw [show decide ((StD.take n o its).kind = "call") = false from by show decide (("take" : Str) = "call") = false; decide +kernel]
            refine ifT ?_
            have e : namesB sz ss (.take n o its) = true := by unfold namesB; rw [e2, e3]; rfl
            exact e ▸ q H' s2
end
/-! ### the items of a step -/
def itIn (wd : Int) : ItD → Bool
  | .val _ => true
  | .idx i => decide (i < wd)
theorem st_from {H : Hp} {p : Addr} {st : StD} (h : StAt H p st) (ni : st.items ≠ []) : ∃ o r, st.used = [o] ∧ H p = some (.tup (.str st.kind :: .str st.name :: .str o :: r)) := by
  cases st with
  | start n => exact absurd rfl ni
  | call n o s its => obtain ⟨g, vs, h1, _⟩ := h; exact ⟨_, _, rfl, h1⟩
  | join b n x y => exact absurd rfl ni
  | whr n o i it => obtain ⟨v, h1, _⟩ := h; exact ⟨_, _, rfl, h1⟩
  | take n o its => obtain ⟨g, vs, h1, _⟩ := h; exact ⟨_, _, rfl, h1⟩
def callOk (n : Nat) : StD → Bool
  | .call _ _ _ its => decide (its.length = n)
  | _ => true
def itemsB (sz : Str → Option SzD) (n : Nat) (st : StD) : Bool :=
  callOk n st && st.items.all (itIn ((sz (st.used.headD "")).getD (0, 0, 0)).1)
section
variable {P : Program} {w : World} {K : PySem.W.Frag} {mg : Str → Option Value} {base : Heap} {a : Nat → Addr} {d : Nat → FuncData}
def spHasI (C : Addr) : Sp := fun vs H Q _ => ∃ (sp p z : Addr) (st : StD) (sz : Str → Option SzD) (ts : List (Str × Int)) (ks : List KeyE) (ss : List SvE) (m n k : Nat), vs = [.ref sp, .ref p, .ref z] ∧ SchAt C sp H ts ks ss m n ∧ StAt H p st ∧ SzAt H z sz ∧ (∀ n ∈ st.used, (sz n).isSome = true) ∧ st.items.length ≤ 100 ∧
  (∀ n o s its, st = .call n o s its → ∃ b ∈ ss, b.name = s ∧ b.cols.length = k) ∧ ∀ H', Same H H' → Q (.bl (itemsB sz k st)) H'
theorem ok_hasi (T : Txt K mg a d) : FnOk P w K mg base CX0 5 (a 26) (d 26) ["schema", "step", "sizes"] (spHasI (a 47)) := by
  have G19 : FnOk P w K mg base CX0 1 (a 19) (d 19) ["step"] spItems := ok_items T
  have G5710 : FnOk P w K mg base (L2.CX P w) 4 (a 5710) (d 5710) ["self", "name"] (spAsk (a 47) (a 3) (fun _ _ ss n => valV (svK ss) (Sum.inr n)) (fun _ _ ss n => valV (svK ss) (Sum.inr n))) := ok_service_of T
  refine T.F26.ok sc__has_items (fun vs H Q E h => ?_) (fun cdv A outer s H vs Q E hr h => ?_)
  · obtain ⟨sp, p, z, st, sz, ts, ks, ss, m, n, k, rfl, _⟩ := h
    rfl
  · obtain ⟨sp, p, z, st, sz, ts, ks, ss, m, n, k, rfl, hS, hs, hz, hu, l100, hc, q⟩ := h
    obtain ⟨rest, hp⟩ := st_name hs
    obtain ⟨dx, d1, d2, d3, o0⟩ := hS
    refine ⟨_, (pss_cons (ps_set (i := 3) sc__has_items.nd rfl (.inl rfl) (pe_call G19 (hr.mono (by decide)) (by rfl) T.g19 T.F19.kp T.b19 .nil pass0 (pa_cons (pv 1) pa_nil)))
  (Evl.pss_cut (ps_if (PW.pt (pw_and (pt_cmpR op_eq (pe_ix ix_tup (pv 1) pe_int (fun _ _ => rfl)) pe_str (nomark _)) (pw_and1 (pt_cmpR op_ne (pe_callB (id := "len")  call_len_seq (by rfl) T.z_len (by decide +kernel) (pa_cons (pv 3) pa_nil)) (pe_callB (id := "len")  call_len_seq (by rfl) T.z_len (by decide +kernel) (pa_cons (pe_ix ix_tup (pe_meth (pv 0) T.cl_47 T.m_5710 G5710 (hr.mono (by decide)) T.b5710 .nil (passN rfl) (pa_cons (pe_ix ix_tup (pv 1) pe_int (fun _ _ => rfl)) pa_nil)) pe_int (fun _ _ => rfl)) pa_nil)) (nomark _)))))
    (pss_one (ps_ret pe_bl))
    pss_nil)
  (pss_one (ps_ret (pe_callB (id := "all")  (cr_all rfl) (by rfl) T.z_all (by decide +kernel) (pa_cons (pe_lc (own := [("item", 4)]) rfl sc__has_items.nd (pi_tup (pv 3)) (blkOk_by (N := ["schema", "step", "sizes", "items", "item"]) (sc := defScope s__has_items) (by decide +kernel)) (fun _ _ _ _ _ => pg_name (i := 4) sc__has_items.nd rfl (.inl rfl)) (fun _ _ _ _ _ => pts_nil) (fun _ _ _ _ _ => (pe_or (pe_callB (id := "isinstance") (r := rIsi K)  call_isi (by rfl) T.z_isinstance (by decide +kernel) (pa_cons (pv 4) (pa_cons (pe_bltn (v := .ty "tuple") (by rfl) T.z_tuple (by decide +kernel) rfl) pa_nil))) (pe_one (pe_cmpR op_lt (pv 4) (pe_ix (r := rIxT K) ix_tup (pe_dget (hu_of hr) (pv 2) (pe_ix (r := rIxT K) ix_tup (pv 1) pe_int (fun _ _ => rfl)) (fun _ _ => rfl)) pe_int (fun _ _ => rfl)) (nomark _)))))) pa_nil)))))), ?_⟩
    refine ⟨_, rfl, p, st, rfl, hs, fun g us H1 hg hi s1 => ?_⟩
    have hs1 := hs.keeps fun _ _ e => s1 _ _ e
    have hz1 := hz.same s1
    obtain ⟨rest1, hp1⟩ := st_name hs1
    refine ⟨fun σ' H' => σ' = (L2.start ["schema", "step", "sizes", "items", "item"] [V.ref sp, V.ref p, V.ref z]).set 3 (some (V.ref g)) ∧ H' = H1 ∧ callOk k st = true, ?_, ?_⟩
    · refine ⟨_, rfl, _, _, _, _, rfl, rfl, .of hp1, atI_nat (j := 0) rfl, rfl, _, rfl, ?_⟩
      rw [show decide (V.str st.kind = V.str (Str.ofString "call")) = decide (st.kind = "call") from by rw [Bool.eq_iff_iff]; simp]
      cases st with
      | call n o s its =>
        obtain ⟨b, hb, rfl, hk⟩ := hc n o s its rfl
        obtain ⟨g', us', k1, _⟩ := hs1
        have o1 := o0.same s1
        have h4 := val_nodup (sv_nd o1.hS) (Sum.inr b.name, V.ref b.at_) (List.mem_map.mpr ⟨b, hb, rfl⟩)
        rw [show decide ((StD.call n o b.name its).kind = "call") = true from rfl]
        refine ifT ?_
        refine ⟨_, rfl, g, us, rfl, .inr (.of hg), _, rfl, sp, dx, _, rfl, o1.ob, flds_no _ _ _ (by decide +kernel) (by decide +kernel) (by decide +kernel), _, rfl, _, _, _, _, rfl, rfl, .of k1, atI_nat (j := 3) rfl, sp, b.name, ts, ks, ss, m, _, rfl, ⟨dx, d1, d2, d3, o1⟩, fun v hv => ⟨_, hv, ?_⟩, fun hn => ?_⟩
        · have e2 : v = V.ref b.at_ := Option.some.inj ((show some v = valV (svK ss) (Sum.inr b.name) from hv.symm).trans h4)
          subst e2
          have sok := o1.hS.ok b hb
          have hlen : us.length = its.length := Paired.length hi
          refine ⟨_, _, _, _, rfl, rfl, .of sok.told.tup, atI_nat (j := 1) rfl, b.ga, _, rfl, .inr (.of sok.told.cols), rfl, _, rfl, ?_⟩
          rw [List.length_map, hlen, hk, show (!decide (V.int (its.length : Nat) = V.int (k : Nat))) = !decide (its.length = k) from by rw [show decide (V.int (its.length : Nat) = V.int (k : Nat)) = decide (its.length = k) from decide_eq_decide.mpr ⟨fun e => Int.ofNat.inj (V.int.inj e), fun e => by rw [e]⟩]]
          by_cases ek : its.length = k
          · rw [decide_eq_true ek]
            exact ifF ⟨rfl, rfl, decide_eq_true ek⟩
          · rw [decide_eq_false ek]
            refine ifT ?_
            have e : itemsB sz k (.call n o b.name its) = false := by show (decide (its.length = k) && _) = false; rw [decide_eq_false ek]; rfl
            exact e ▸ q H1 s1
        · exact absurd ((show valV (svK ss) (Sum.inr b.name) = none from hn).symm.trans h4) (by simp)
      | start n => exact ifF ⟨rfl, rfl, rfl⟩
      | join b n x y => cases b <;> exact ifF ⟨rfl, rfl, rfl⟩
      | whr n o i it => exact ifF ⟨rfl, rfl, rfl⟩
      | take n o its => exact ifF ⟨rfl, rfl, rfl⟩
    · rintro _ H1 ⟨rfl, rfl, e0⟩
      refine ⟨_, rfl, g, rfl, ⟨_, .of hg⟩, fun D hD => ?_⟩
      have hlen := Paired.length hi
      refine lc_tup (K := K) (a := g) (xs := us) (fun i H' => H' D = some (.lst (((st.items.take i).map (itIn ((sz (st.used.headD "")).getD (0, 0, 0)).1)).map V.bl)) ∧ Same H1 H') ⟨upd_same, same_upd hD⟩ (fun i H' _ hp => .of (hp.2 _ _ hg)) (fun i y H' hy hp => ?_) (fun H' hp => ?_)
      · obtain ⟨h1, h2⟩ := hp
        obtain ⟨it, hit, hR⟩ := paired_get hi hy
        have li : i < st.items.length := (List.getElem?_eq_some_iff.mp hit).1
        obtain ⟨o, r, eu, hpo⟩ := st_from (hs1.keeps fun _ _ e => h2 _ _ e) (fun e => by rw [e] at li; exact absurd li (Nat.not_lt_zero _))
        obtain ⟨t, et⟩ := Option.isSome_iff_exists.mp (hu o (by rw [eu]; simp))
        obtain ⟨b, gb, hb⟩ := (hz1.same h2).get et
        have hR' : ItAt H' y it := ItAt.keeps hR fun _ _ e => h2 _ _ e
        have push : ∀ c : Bool, c = itIn ((sz (st.used.headD "")).getD (0, 0, 0)).1 it → (some (HO.lst (((st.items.take i).map (itIn ((sz (st.used.headD "")).getD (0, 0, 0)).1)).map V.bl ++ [V.bl c]))) = some (HO.lst (((st.items.take (i + 1)).map (itIn ((sz (st.used.headD "")).getD (0, 0, 0)).1)).map V.bl)) := fun c e => by
          rw [List.take_succ, hit, List.map_append, List.map_append, e]
          rfl
        have sm : (((st.items.take i).map (itIn ((sz (st.used.headD "")).getD (0, 0, 0)).1)).map V.bl).length < sizeLine := by
          rw [List.length_map, List.length_map, List.length_take]
          exact small1000 (by omega)
        have ew : ((sz (st.used.headD "")).getD (0, 0, 0)).1 = t.1 := by rw [eu]; show ((sz o).getD (0, 0, 0)).1 = t.1; rw [et]; rfl
        cases it with
        | val x =>
          obtain ⟨p', rfl, hp'⟩ := hR'
          refine ⟨rfl, _, rfl, _, _, _, _, _, rfl, .ty _, .base (.tup hp'), kit_ty (show kitB "tuple" "tuple" = some true by decide +kernel), true, rfl, ifT ⟨_, h1, sm, ?_, fun c o e => ?_⟩⟩
          · exact upd_same.trans (push true rfl)
          · rw [upd_ne (ne_of_none e hD)]
            exact h2 _ _ e
        | idx j =>
          obtain rfl : y = .int j := hR'
          refine ⟨rfl, _, rfl, _, _, _, _, _, rfl, .ty _, .base (.int _), kit_ty (show kitB "int" "tuple" = some false by decide +kernel), false, rfl, ifF ?_⟩
          refine ⟨_, rfl, _, rfl, _, rfl, _, _, _, _, rfl, rfl, .of hpo, atI_nat (j := 2) rfl, z, _, rfl, gb, _, _, _, _, rfl, rfl, .of hb, atI_nat (j := 0) rfl, _, _, rfl, rfl, _, h1, sm, ?_, fun c o e => ?_⟩
          · exact upd_same.trans (push _ (by show decide (j < t.1) = decide (j < _); rw [ew]))
          · rw [upd_ne (ne_of_none e hD)]
            exact h2 _ _ e
      · obtain ⟨h1, h2⟩ := hp
        rw [hlen, List.take_length] at h1
        refine ⟨D, _, rfl, .of h1, ?_⟩
        have e : itemsB sz k st = ((st.items.map (itIn ((sz (st.used.headD "")).getD (0, 0, 0)).1))).all id := by unfold itemsB; rw [e0, List.all_map]; rfl
        exact e ▸ q H' (s1.trans h2)
end
/-! ### the size of a step -/
def szOf (sz : Str → Option SzD) (n : Str) : SzD := (sz n).getD (0, 0, 0)
def mx (i j : Int) : Int := if j > i then j else i
theorem same_none {H H' : Hp} {x : Addr} (s : Same H H') (h : H' x = none) : H x = none := by
  cases e : H x with
  | none => rfl
  | some o => rw [s _ _ e] at h; cases h
def sizeOf (sz : Str → Option SzD) (wt : Int) : StD → SzD
  | .start _ => (0, 1, 0)
  | .call _ o _ _ => ((szOf sz o).1 + wt, (szOf sz o).2.1, (szOf sz o).2.2 + 1)
  | .join true _ x y => ((szOf sz x).1, (szOf sz x).2.1 + (szOf sz y).2.1, mx (szOf sz x).2.2 (szOf sz y).2.2)
  | .join false _ x y => ((szOf sz x).1 + (szOf sz y).1, (szOf sz x).2.1 * (szOf sz y).2.1, (szOf sz x).2.2 + (szOf sz y).2.2)
  | .whr _ o _ _ => szOf sz o
  | .take _ o its => (its.length, (szOf sz o).2.1, (szOf sz o).2.2)
/-- the sizes are within their bounds -/
def SzIn (sz : Str → Option SzD) : Prop := ∀ n t, sz n = some t → 0 ≤ t.1 ∧ 1 ≤ t.2.1 ∧ 0 ≤ t.2.2 ∧ t.1 ≤ 12 ∧ t.2.1 ≤ 16 ∧ t.2.2 ≤ 4
section
variable {P : Program} {w : World} {K : PySem.W.Frag} {mg : Str → Option Value} {base : Heap} {a : Nat → Addr} {d : Nat → FuncData}
def spSize (C : Addr) : Sp := fun vs H Q _ => ∃ (sp p z : Addr) (st : StD) (sz : Str → Option SzD) (ts : List (Str × Int)) (ks : List KeyE) (ss : List SvE) (m n : Nat) (wt : Int), vs = [.ref sp, .ref p, .ref z] ∧ SchAt C sp H ts ks ss m n ∧ StAt H p st ∧ SzAt H z sz ∧ SzIn sz ∧ (∀ n ∈ st.used, (sz n).isSome = true) ∧
  (∀ n o s its, st = .call n o s its → ∃ b ∈ ss, b.name = s ∧ (b.tab, wt) ∈ ts) ∧ ∀ g H', H' g = some (.tup (szV (sizeOf sz wt st))) → H g = none → Same H H' → Q (.ref g) H'
theorem ok_size (T : Txt K mg a d) : FnOk P w K mg base CX0 5 (a 27) (d 27) ["schema", "step", "sizes"] (spSize (a 47)) := by
  have G24 : FnOk P w K mg base CX0 1 (a 24) (d 24) ["step"] spUsed := ok_used T
  have G5710 : FnOk P w K mg base (L2.CX P w) 4 (a 5710) (d 5710) ["self", "name"] (spAsk (a 47) (a 3) (fun _ _ ss n => valV (svK ss) (Sum.inr n)) (fun _ _ ss n => valV (svK ss) (Sum.inr n))) := ok_service_of T
  have G5708 : FnOk P w K mg base (L2.CX P w) 4 (a 5708) (d 5708) ["self", "table"] (spAsk (a 47) (a 3) (fun ts _ _ n => valV (tabK ts) (Sum.inr n)) (fun ts _ _ n => valV (tabK ts) (Sum.inr n))) := ok_width_of T
  refine T.F27.ok sc__size (fun vs H Q E h => ?_) (fun cdv A outer s H vs Q E hr h => ?_)
  · obtain ⟨sp, p, z, st, sz, ts, ks, ss, m, n, wt, rfl, _⟩ := h
    rfl
  · obtain ⟨sp, p, z, st, sz, ts, ks, ss, m, n, wt, rfl, hS, hs, hz, hzi, hu, hc, q⟩ := h
    refine ⟨_, (pss_cons (ps_setLc (i := 3) (own := [("name", 7)]) rfl sc__size.nd rfl rfl (sw_true rfl rfl rfl (by decide +kernel)) (pi_tup (pe_call G24 (hr.mono (by decide)) (by rfl) T.g24 T.F24.kp T.b24 .nil pass0 (pa_cons (pv 1) pa_nil))) (blkOk_by (N := ["schema", "step", "sizes", "used", "width", "parts", "calls", "name"]) (sc := defScope s__size) (by decide +kernel)) (fun _ _ _ _ _ => pg_name (i := 7) sc__size.nd rfl (.inl rfl)) (fun _ _ _ _ _ => pts_nil) (fun _ _ _ _ _ => (pe_dget (hu_of hr) (pv 2) (pv 7) (fun _ _ => rfl))))
  (pss_cons (ps_if (pt_cmpR op_eq (pe_ix ix_tup (pv 1) pe_int (fun _ _ => rfl)) pe_str (nomark _))
    (pss_one (ps_ret (pe_tup (pa_cons pe_int (pa_cons pe_int (pa_cons pe_int pa_nil))))))
    pss_nil)
  (pss_cons (ps_asg (pe_ix ix_list (pv 3) pe_int (fun _ _ => rfl)) (pg_tup rfl (pgs_cons (pg_name (i := 4) sc__size.nd rfl (.inl rfl)) (pgs_cons (pg_name (i := 5) sc__size.nd rfl (.inl rfl)) (pgs_cons (pg_name (i := 6) sc__size.nd rfl (.inl rfl)) pgs_nil)))))
  (pss_cons (ps_if (pt_cmpR op_eq (pe_ix ix_tup (pv 1) pe_int (fun _ _ => rfl)) pe_str (nomark _))
    (pss_one (ps_ret (pe_tup (pa_cons (pe_op op_add (pv 4) (pe_meth (pv 0) T.cl_47 T.m_5708 G5708 (hr.mono (by decide)) T.b5708 .nil (passN rfl) (pa_cons (pe_ix ix_tup (pe_meth (pv 0) T.cl_47 T.m_5710 G5710 (hr.mono (by decide)) T.b5710 .nil (passN rfl) (pa_cons (pe_ix ix_tup (pv 1) pe_int (fun _ _ => rfl)) pa_nil)) pe_int (fun _ _ => rfl)) pa_nil))) (pa_cons (pv 5) (pa_cons (pe_op op_add (pv 6) pe_int) pa_nil))))))
    pss_nil)
  (pss_cons (ps_if (pt_cmpR op_eq (pe_ix ix_tup (pv 1) pe_int (fun _ _ => rfl)) pe_str (nomark _))
    (pss_one (ps_ret (pe_tup (pa_cons (pv 4) (pa_cons (pe_op op_add (pv 5) (pe_ix ix_tup (pe_ix ix_list (pv 3) pe_int (fun _ _ => rfl)) pe_int (fun _ _ => rfl))) (pa_cons (pe_callB (id := "max")  (call_max2 rfl) (by rfl) T.z_max (by decide +kernel) (pa_cons (pv 6) (pa_cons (pe_ix ix_tup (pe_ix ix_list (pv 3) pe_int (fun _ _ => rfl)) pe_int (fun _ _ => rfl)) pa_nil))) pa_nil))))))
    pss_nil)
  (pss_cons (ps_if (pt_cmpR op_eq (pe_ix ix_tup (pv 1) pe_int (fun _ _ => rfl)) pe_str (nomark _))
    (pss_one (ps_ret (pe_tup (pa_cons (pe_op op_add (pv 4) (pe_ix ix_tup (pe_ix ix_list (pv 3) pe_int (fun _ _ => rfl)) pe_int (fun _ _ => rfl))) (pa_cons (pe_op op_mul (pv 5) (pe_ix ix_tup (pe_ix ix_list (pv 3) pe_int (fun _ _ => rfl)) pe_int (fun _ _ => rfl))) (pa_cons (pe_op op_add (pv 6) (pe_ix ix_tup (pe_ix ix_list (pv 3) pe_int (fun _ _ => rfl)) pe_int (fun _ _ => rfl))) pa_nil))))))
    pss_nil)
  (pss_cons (ps_if (pt_cmpR op_eq (pe_ix ix_tup (pv 1) pe_int (fun _ _ => rfl)) pe_str (nomark _))
    (pss_one (ps_ret (pe_tup (pa_cons (pe_callB (id := "len")  call_len_seq (by rfl) T.z_len (by decide +kernel) (pa_cons (pe_ix ix_tup (pv 1) pe_int (fun _ _ => rfl)) pa_nil)) (pa_cons (pv 5) (pa_cons (pv 6) pa_nil))))))
    pss_nil)
  (pss_one (ps_ret (pe_tup (pa_cons (pv 4) (pa_cons (pv 5) (pa_cons (pv 6) pa_nil))))))))))))), ?_⟩
    refine ⟨_, rfl, p, st, rfl, hs, fun g H1 hg s1 => ?_⟩
    have hs1 := hs.keeps fun _ _ e => s1 _ _ e
    obtain ⟨kvs, z1, zk⟩ := hz.same s1
    refine ⟨g, rfl, ⟨_, .of hg⟩, fun D hD => ?_⟩
    have l3 := used_len st
    refine lc_tup (K := K) (a := g) (xs := st.used.map V.str) (fun i H' => H' D = some (.lst ((st.used.take i).map fun n => (valV kvs (.inr n)).getD .non)) ∧ Same H1 H') ⟨upd_same, same_upd hD⟩ (fun i H' _ hp => .of (hp.2 _ _ hg)) (fun i y H' hy hp => ?_) (fun H' hp => ?_)
    · obtain ⟨h1, h2⟩ := hp
      obtain ⟨x, hx, rfl⟩ := map_at hy
      have li : i < st.used.length := (List.getElem?_eq_some_iff.mp hx).1
      obtain ⟨t, et⟩ := Option.isSome_iff_exists.mp (hu x (List.mem_of_getElem? hx))
      obtain ⟨b, e1, e2⟩ := (zk x).2 t et
      have gx : DGet H' z (.str x) (some (.ref b)) := e1 ▸ DGet.k (k := .inr x) (h2 _ _ z1)
      refine ⟨rfl, _, rfl, _, rfl, z, _, rfl, gx, _, h1, ?_, ?_, fun c o e => ?_⟩
      · rw [List.length_map, List.length_take]
        exact small1000 (by omega)
      · rw [List.take_succ, hx, List.map_append]
        show upd H' D _ D = some (.lst (_ ++ [(valV kvs (.inr x)).getD .non]))
        rw [e1]
        exact upd_same
      · rw [upd_ne (ne_of_none e hD)]
        exact h2 _ _ e
    · obtain ⟨hD', h2⟩ := hp
      rw [List.length_map, List.take_length] at hD'
      have s2 := s1.trans h2
      have hS2 := hS.same s2
      have hs2 := hs.keeps fun _ _ e => s2 _ _ e
      have z2 : H' z = some (.dK kvs) := h2 _ _ z1
      have zk2 : ∀ x t, sz x = some t → ∃ b, valV kvs (.inr x) = some (.ref b) ∧ H' b = some (.tup (szV t)) := fun x t e => by
        obtain ⟨b, e1, e2⟩ := (zk x).2 t e
        exact ⟨b, e1, h2 _ _ e2⟩
      have fin : ∀ t : SzD, t = sizeOf sz wt st → (3 ≤ sizeLine ∧ ∀ e, H' e = none → Q (.ref e) (upd H' e (.tup (szV t)))) := fun t e => ⟨by show 3 ≤ sizeLine; decide, fun x hx => q x _ (e ▸ upd_same) (same_none s2 hx) (s2.trans (same_upd hx))⟩
      obtain ⟨rest, hp2⟩ := st_name hs2
      cases st with
      | start n =>
        refine ⟨_, rfl, _, _, _, _, rfl, rfl, .of hp2, atI_nat (j := 0) rfl, rfl, _, rfl, ite_d (fun _ => ?_) (fun e => absurd rfl e)⟩
        exact fin _ rfl
      | call n o s' its =>
        obtain ⟨b0, hb0, rfl, hw⟩ := hc n o s' its rfl
        obtain ⟨t, et⟩ := Option.isSome_iff_exists.mp (hu o (by show o ∈ [o]; simp))
        obtain ⟨b, e1, hb⟩ := zk2 o t et
        have eo : szOf sz o = t := by unfold szOf; rw [et]; rfl
        have hD2 : H' D = some (.lst [.ref b]) := by rw [hD']; show some (HO.lst [(valV kvs (.inr o)).getD .non]) = _; rw [e1]; rfl
        obtain ⟨g', us', k1, _⟩ := hs2
        obtain ⟨dx, d1, d2, d3, o1⟩ := hS2
        have sok := o1.hS.ok b0 hb0
        have h4 := val_nodup (sv_nd o1.hS) (Sum.inr b0.name, V.ref b0.at_) (List.mem_map.mpr ⟨b0, hb0, rfl⟩)
        refine ⟨_, rfl, _, _, _, _, rfl, rfl, .of hp2, atI_nat (j := 0) rfl, rfl, _, rfl, ite_d (fun e => absurd (V.str.inj e) (by show ¬ (("call" : Str) = "start"); decide +kernel)) (fun _ => ?_)⟩
        refine ⟨_, rfl, _, _, _, _, rfl, rfl, .of hD2, atI_nat (j := 0) rfl, b, _, rfl, .of hb, rfl, _, _, rfl, _, _, rfl, _, _, rfl, rfl, ?_⟩
        refine ⟨_, rfl, _, _, _, _, rfl, rfl, .of hp2, atI_nat (j := 0) rfl, rfl, _, rfl, ite_d (fun _ => ?_) (fun e => absurd rfl e)⟩
        refine ⟨_, rfl, _, rfl, sp, dx, _, rfl, o1.ob, flds_no _ _ _ (by decide +kernel) (by decide +kernel) (by decide +kernel), _, rfl, sp, dx, _, rfl, o1.ob, flds_no _ _ _ (by decide +kernel) (by decide +kernel) (by decide +kernel), _, rfl, _, _, _, _, rfl, rfl, .of k1, atI_nat (j := 3) rfl, sp, b0.name, ts, ks, ss, m, _, rfl, ⟨dx, d1, d2, d3, o1⟩, fun v hv => ⟨_, hv, ?_⟩, fun hn => ?_⟩
        · have e2 : v = V.ref b0.at_ := Option.some.inj ((show some v = valV (svK ss) (Sum.inr b0.name) from hv.symm).trans h4)
          subst e2
          have h5 := tab_val o1.hT hw
          refine ⟨_, _, _, _, rfl, rfl, .of sok.told.tup, atI_nat (j := 0) rfl, sp, b0.tab, ts, ks, ss, m, _, rfl, ⟨dx, d1, d2, d3, o1⟩, fun v hv => ⟨_, hv, ?_⟩, fun hn => ?_⟩
          · have e3 : v = V.int wt := Option.some.inj ((show some v = valV (tabK ts) (Sum.inr b0.tab) from hv.symm).trans h5)
            subst e3
            refine ⟨_, _, rfl, rfl, _, rfl, _, rfl, _, _, rfl, rfl, ?_⟩
            exact fin (t.1 + wt, t.2.1, t.2.2 + 1) (by show _ = ((szOf sz o).1 + wt, (szOf sz o).2.1, (szOf sz o).2.2 + 1); rw [eo])
          · exact absurd ((show valV (tabK ts) (Sum.inr b0.tab) = none from hn).symm.trans h5) (by simp)
        · exact absurd ((show valV (svK ss) (Sum.inr b0.name) = none from hn).symm.trans h4) (by simp)
      | join bb n x y =>
        obtain ⟨tx, ex⟩ := Option.isSome_iff_exists.mp (hu x (by show x ∈ [x, y]; simp))
        obtain ⟨ty, ey⟩ := Option.isSome_iff_exists.mp (hu y (by show y ∈ [x, y]; simp))
        obtain ⟨bx, e1, hx⟩ := zk2 x tx ex
        obtain ⟨b', e2, hy⟩ := zk2 y ty ey
        have eo : szOf sz x = tx := by unfold szOf; rw [ex]; rfl
        have eo2 : szOf sz y = ty := by unfold szOf; rw [ey]; rfl
        have hD2 : H' D = some (.lst [.ref bx, .ref b']) := by rw [hD']; show some (HO.lst [(valV kvs (.inr x)).getD .non, (valV kvs (.inr y)).getD .non]) = _; rw [e1, e2]; rfl
        refine ⟨_, rfl, _, _, _, _, rfl, rfl, .of hp2, atI_nat (j := 0) rfl, rfl, _, rfl, ite_d (fun e => absurd (V.str.inj e) (by show ¬ ((if bb then "both" else "pair" : Str) = "start"); cases bb <;> decide +kernel)) (fun _ => ?_)⟩
        refine ⟨_, rfl, _, _, _, _, rfl, rfl, .of hD2, atI_nat (j := 0) rfl, bx, _, rfl, .of hx, rfl, _, _, rfl, _, _, rfl, _, _, rfl, rfl, ?_⟩
        refine ⟨_, rfl, _, _, _, _, rfl, rfl, .of hp2, atI_nat (j := 0) rfl, rfl, _, rfl, ite_d (fun e => absurd (V.str.inj e) (by show ¬ ((if bb then "both" else "pair" : Str) = "call"); cases bb <;> decide +kernel)) (fun _ => ?_)⟩
        cases bb with
        | true =>
          refine ⟨_, rfl, _, _, _, _, rfl, rfl, .of hp2, atI_nat (j := 0) rfl, rfl, _, rfl, ite_d (fun _ => ?_) (fun e => absurd rfl e)⟩
          refine ⟨_, rfl, _, rfl, _, rfl, _, _, _, _, rfl, rfl, .of hD2, atI_nat (j := 1) rfl, _, _, _, _, rfl, rfl, .of hy, atI_nat (j := 1) rfl, _, _, rfl, rfl, _, rfl, _, rfl, _, _, _, _, rfl, rfl, .of hD2, atI_nat (j := 1) rfl, _, _, _, _, rfl, rfl, .of hy, atI_nat (j := 2) rfl, _, _, rfl, ?_⟩
          exact fin (tx.1, tx.2.1 + ty.2.1, mx tx.2.2 ty.2.2) (by show _ = ((szOf sz x).1, (szOf sz x).2.1 + (szOf sz y).2.1, mx (szOf sz x).2.2 (szOf sz y).2.2); rw [eo, eo2])
        | false =>
          refine ⟨_, rfl, _, _, _, _, rfl, rfl, .of hp2, atI_nat (j := 0) rfl, rfl, _, rfl, ite_d (fun e => absurd (V.str.inj e) (by show ¬ (("pair" : Str) = "both"); decide +kernel)) (fun _ => ?_)⟩
          refine ⟨_, rfl, _, _, _, _, rfl, rfl, .of hp2, atI_nat (j := 0) rfl, rfl, _, rfl, ite_d (fun _ => ?_) (fun e => absurd rfl e)⟩
          refine ⟨_, rfl, _, rfl, _, _, _, _, rfl, rfl, .of hD2, atI_nat (j := 1) rfl, _, _, _, _, rfl, rfl, .of hy, atI_nat (j := 0) rfl, _, _, rfl, rfl, ?_⟩
          refine ⟨_, rfl, _, rfl, _, _, _, _, rfl, rfl, .of hD2, atI_nat (j := 1) rfl, _, _, _, _, rfl, rfl, .of hy, atI_nat (j := 1) rfl, _, _, rfl, rfl, .inl (by have := hzi x tx ex; omega), ?_⟩
          refine ⟨_, rfl, _, rfl, _, _, _, _, rfl, rfl, .of hD2, atI_nat (j := 1) rfl, _, _, _, _, rfl, rfl, .of hy, atI_nat (j := 2) rfl, _, _, rfl, rfl, ?_⟩
          exact fin (tx.1 + ty.1, tx.2.1 * ty.2.1, tx.2.2 + ty.2.2) (by show _ = ((szOf sz x).1 + (szOf sz y).1, (szOf sz x).2.1 * (szOf sz y).2.1, (szOf sz x).2.2 + (szOf sz y).2.2); rw [eo, eo2])
      | whr n o i it =>
        obtain ⟨t, et⟩ := Option.isSome_iff_exists.mp (hu o (by show o ∈ [o]; simp))
        obtain ⟨b, e1, hb⟩ := zk2 o t et
        have eo : szOf sz o = t := by unfold szOf; rw [et]; rfl
        have hD2 : H' D = some (.lst [.ref b]) := by rw [hD']; show some (HO.lst [(valV kvs (.inr o)).getD .non]) = _; rw [e1]; rfl
        refine ⟨_, rfl, _, _, _, _, rfl, rfl, .of hp2, atI_nat (j := 0) rfl, rfl, _, rfl, ite_d (fun e => absurd (V.str.inj e) (by show ¬ (("where" : Str) = "start"); decide +kernel)) (fun _ => ?_)⟩
        refine ⟨_, rfl, _, _, _, _, rfl, rfl, .of hD2, atI_nat (j := 0) rfl, b, _, rfl, .of hb, rfl, _, _, rfl, _, _, rfl, _, _, rfl, rfl, ?_⟩
        refine ⟨_, rfl, _, _, _, _, rfl, rfl, .of hp2, atI_nat (j := 0) rfl, rfl, _, rfl, ite_d (fun e => absurd (V.str.inj e) (by show ¬ (("where" : Str) = "call"); decide +kernel)) (fun _ => ?_)⟩
        refine ⟨_, rfl, _, _, _, _, rfl, rfl, .of hp2, atI_nat (j := 0) rfl, rfl, _, rfl, ite_d (fun e => absurd (V.str.inj e) (by show ¬ (("where" : Str) = "both"); decide +kernel)) (fun _ => ?_)⟩
        refine ⟨_, rfl, _, _, _, _, rfl, rfl, .of hp2, atI_nat (j := 0) rfl, rfl, _, rfl, ite_d (fun e => absurd (V.str.inj e) (by show ¬ (("where" : Str) = "pair"); decide +kernel)) (fun _ => ?_)⟩
        refine ⟨_, rfl, _, _, _, _, rfl, rfl, .of hp2, atI_nat (j := 0) rfl, rfl, _, rfl, ite_d (fun e => absurd (V.str.inj e) (by show ¬ (("where" : Str) = "take"); decide +kernel)) (fun _ => ?_)⟩
        exact ⟨_, rfl, _, rfl, _, rfl, fin t eo.symm⟩
      | take n o its =>
        obtain ⟨t, et⟩ := Option.isSome_iff_exists.mp (hu o (by show o ∈ [o]; simp))
        obtain ⟨b, e1, hb⟩ := zk2 o t et
        have eo : szOf sz o = t := by unfold szOf; rw [et]; rfl
        have hD2 : H' D = some (.lst [.ref b]) := by rw [hD']; show some (HO.lst [(valV kvs (.inr o)).getD .non]) = _; rw [e1]; rfl
        obtain ⟨g', us', k1, k2, k3⟩ := hs2
        refine ⟨_, rfl, _, _, _, _, rfl, rfl, .of hp2, atI_nat (j := 0) rfl, rfl, _, rfl, ite_d (fun e => absurd (V.str.inj e) (by show ¬ (("take" : Str) = "start"); decide +kernel)) (fun _ => ?_)⟩
        refine ⟨_, rfl, _, _, _, _, rfl, rfl, .of hD2, atI_nat (j := 0) rfl, b, _, rfl, .of hb, rfl, _, _, rfl, _, _, rfl, _, _, rfl, rfl, ?_⟩
        refine ⟨_, rfl, _, _, _, _, rfl, rfl, .of hp2, atI_nat (j := 0) rfl, rfl, _, rfl, ite_d (fun e => absurd (V.str.inj e) (by show ¬ (("take" : Str) = "call"); decide +kernel)) (fun _ => ?_)⟩
        refine ⟨_, rfl, _, _, _, _, rfl, rfl, .of hp2, atI_nat (j := 0) rfl, rfl, _, rfl, ite_d (fun e => absurd (V.str.inj e) (by show ¬ (("take" : Str) = "both"); decide +kernel)) (fun _ => ?_)⟩
        refine ⟨_, rfl, _, _, _, _, rfl, rfl, .of hp2, atI_nat (j := 0) rfl, rfl, _, rfl, ite_d (fun e => absurd (V.str.inj e) (by show ¬ (("take" : Str) = "pair"); decide +kernel)) (fun _ => ?_)⟩
        refine ⟨_, rfl, _, _, _, _, rfl, rfl, .of hp2, atI_nat (j := 0) rfl, rfl, _, rfl, ite_d (fun _ => ?_) (fun e => absurd rfl e)⟩
        refine ⟨_, rfl, _, _, _, _, rfl, rfl, .of k1, atI_nat (j := 3) rfl, _, _, rfl, .inr (.of k2), _, rfl, _, rfl, ?_⟩
        exact fin (us'.length, t.2.1, t.2.2) (by show _ = (((its.length : Nat) : Int), (szOf sz o).2.1, (szOf sz o).2.2); rw [eo, Paired.length k3])
end
/-! ### what is wrong with a step -/
def kOf (ss : List SvE) : StD → Nat
  | .call _ _ s _ => ((svAt ss s).map fun b => b.cols.length).getD 0
  | _ => 0
def wOf (ts : List (Str × Int)) (ss : List SvE) : StD → Int
  | .call _ _ s _ => ((svAt ss s).map fun b => widthAt ts b.tab).getD 0
  | _ => 0
def wrongOf (ts : List (Str × Int)) (ss : List SvE) (sz : Str → Option SzD) (st : StD) : Option Str :=
  if namesB sz ss st = false then some "name" else if itemsB sz (kOf ss st) st = false then some "items" else
  if 12 < (sizeOf sz (wOf ts ss st) st).1 ∨ joinB sz st = false then some "width" else
  if 16 < (sizeOf sz (wOf ts ss st) st).2.1 ∨ 4 < (sizeOf sz (wOf ts ss st) st).2.2 then some "limit" else none
def optS : Option Str → V
  | none => .non
  | some s => .str s
theorem names_used {sz : Str → Option SzD} {ss : List SvE} {st : StD} (h : namesB sz ss st = true) : ∀ n ∈ st.used, (sz n).isSome = true := by
  unfold namesB at h
  rw [Bool.and_eq_true, Bool.and_eq_true] at h
  exact List.all_eq_true.mp h.1.2
theorem names_call {sz : Str → Option SzD} {ss : List SvE} {n o s : Str} {its : List ItD} (h : namesB sz ss (.call n o s its) = true) : ∃ b, svAt ss s = some b := by
  unfold namesB at h
  rw [Bool.and_eq_true, Bool.and_eq_true] at h
  obtain ⟨x, hx, e⟩ := List.any_eq_true.mp h.2
  obtain ⟨b, hb, rfl⟩ := List.mem_map.mp hx
  unfold svAt
  exact Option.isSome_iff_exists.mp (List.find?_isSome.mpr ⟨b, hb, e⟩)
theorem svOk_w {H : Hp} {ts : List (Str × Int)} {ks : List KeyE} {ss : List SvE} {m n : Nat} {wm : Int} (hT : Tabs ts m wm) (hS : Svcs H ts ks ss n) {b : SvE} (hb : b ∈ ss) : (b.tab, widthAt ts b.tab) ∈ ts := by
  obtain ⟨_, ⟨w, hw, _⟩, _⟩ := hS.ok b hb
  rw [widthAt_mem hT.nm.nd hw]
  exact hw
section
variable {P : Program} {w : World} {K : PySem.W.Frag} {mg : Str → Option Value} {base : Heap} {a : Nat → Addr} {d : Nat → FuncData}
def spWrong (C : Addr) : Sp := fun vs H Q _ => ∃ (sp p z : Addr) (st : StD) (sz : Str → Option SzD) (ts : List (Str × Int)) (ks : List KeyE) (ss : List SvE) (m n : Nat), vs = [.ref sp, .ref p, .ref z] ∧ SchAt C sp H ts ks ss m n ∧ StAt H p st ∧ StOk st ∧ SzAt H z sz ∧ SzIn sz ∧ ∀ H', Same H H' → Q (optS (wrongOf ts ss sz st)) H'
theorem ok_wrong (T : Txt K mg a d) (W : TxtW K w a) : FnOk P w K mg base CX0 6 (a 29) (d 29) ["schema", "step", "sizes"] (spWrong (a 47)) := by
  have G23 : FnOk P w K mg base CX0 4 (a 23) (d 23) ["step"] spForm := ok_form T W
  have G25 : FnOk P w K mg base CX0 2 (a 25) (d 25) ["schema", "step", "sizes"] (spHasN (a 47)) := ok_hasn T
  have G26 : FnOk P w K mg base CX0 5 (a 26) (d 26) ["schema", "step", "sizes"] (spHasI (a 47)) := ok_hasi T
  have G27 : FnOk P w K mg base CX0 5 (a 27) (d 27) ["schema", "step", "sizes"] (spSize (a 47)) := ok_size T
  have G28 : FnOk P w K mg base CX0 1 (a 28) (d 28) ["step", "sizes"] spJoin := ok_join T
  refine T.F29.ok sc__wrong_part (fun vs H Q E h => ?_) (fun cdv A outer s H vs Q E hr h => ?_)
  · obtain ⟨sp, p, z, st, sz, ts, ks, ss, m, n, rfl, _⟩ := h
    rfl
  · obtain ⟨sp, p, z, st, sz, ts, ks, ss, m, n, rfl, hS, hs, ho, hz, hzi, q⟩ := h
    obtain ⟨t1, h_MOST_WIDTH_programs⟩ := T.c_MOST_WIDTH_programs
    obtain ⟨t2, h_MOST_PARTS⟩ := T.c_MOST_PARTS
    obtain ⟨t3, h_MOST_CALLS⟩ := T.c_MOST_CALLS
    refine ⟨_, (pss_cons (ps_if (pt_not (pt_val (pe_call G23 (hr.mono (by decide)) (by rfl) T.g23 T.F23.kp T.b23 .nil pass0 (pa_cons (pv 1) pa_nil))))
    (pss_one (ps_ret pe_str))
    pss_nil)
  (pss_cons (ps_if (pt_not (pt_val (pe_call G25 (hr.mono (by decide)) (by rfl) T.g25 T.F25.kp T.b25 .nil pass0 (pa_cons (pv 0) (pa_cons (pv 1) (pa_cons (pv 2) pa_nil))))))
    (pss_one (ps_ret pe_str))
    pss_nil)
  (pss_cons (ps_if (pt_not (pt_val (pe_call G26 (hr.mono (by decide)) (by rfl) T.g26 T.F26.kp T.b26 .nil pass0 (pa_cons (pv 0) (pa_cons (pv 1) (pa_cons (pv 2) pa_nil))))))
    (pss_one (ps_ret pe_str))
    pss_nil)
  (pss_cons (ps_asg (pe_call G27 (hr.mono (by decide)) (by rfl) T.g27 T.F27.kp T.b27 .nil pass0 (pa_cons (pv 0) (pa_cons (pv 1) (pa_cons (pv 2) pa_nil)))) (pg_tup rfl (pgs_cons (pg_name (i := 3) sc__wrong_part.nd rfl (.inl rfl)) (pgs_cons (pg_name (i := 4) sc__wrong_part.nd rfl (.inl rfl)) (pgs_cons (pg_name (i := 5) sc__wrong_part.nd rfl (.inl rfl)) pgs_nil)))))
  (pss_cons (ps_if (PW.pt (pw_or (pt_cmpR op_gt (pv 3) (pe_glob (v := .int (12)) rfl h_MOST_WIDTH_programs ⟨_, rfl⟩) (nomark _)) (pw_or1 (pt_not (pt_val (pe_call G28 (hr.mono (by decide)) (by rfl) T.g28 T.F28.kp T.b28 .nil pass0 (pa_cons (pv 1) (pa_cons (pv 2) pa_nil))))))))
    (pss_one (ps_ret pe_str))
    pss_nil)
  (pss_one (ps_ret (pe_ifExp (PW.pt (pw_or (pt_cmpR op_gt (pv 4) (pe_glob (v := .int (16)) rfl h_MOST_PARTS ⟨_, rfl⟩) (nomark _)) (pw_or1 (pt_cmpR op_gt (pv 5) (pe_glob (v := .int (4)) rfl h_MOST_CALLS ⟨_, rfl⟩) (nomark _))))) pe_str pe_non)))))))), ?_⟩
    refine ⟨_, rfl, p, st, rfl, hs, ho, fun H1 s1 => ⟨true, rfl, ifF ?_⟩⟩
    refine ⟨_, rfl, _, rfl, _, rfl, sp, p, z, st, sz, ts, ks, ss, m, n, rfl, hS.same s1, hs.keeps fun _ _ e => s1 _ _ e, hz.same s1, fun H2 s2 => ⟨_, rfl, ?_⟩⟩
    have s12 := s1.trans s2
    have wr : wrongOf ts ss sz st = wrongOf ts ss sz st := rfl
    unfold wrongOf at q
    cases e1 : namesB sz ss st with
    | false =>
      rw [if_pos e1] at q
      exact ifT (q H2 s12)
    | true =>
      rw [if_neg (by rw [e1]; decide)] at q
      refine ifF ?_
      have hu := names_used e1
      have hS2 := hS.same s12
      obtain ⟨dx, d1, d2, d3, O⟩ := hS2
      have cl : ∀ n o s its, st = .call n o s its → ∃ b ∈ ss, b.name = s ∧ b.cols.length = kOf ss st ∧ (b.tab, wOf ts ss st) ∈ ts := fun n o s its e => by
        subst e
        obtain ⟨b, hb⟩ := names_call e1
        have hm := svAt_mem hb
        refine ⟨b, hm.1, hm.2, ?_, ?_⟩
        · show _ = ((svAt ss s).map fun b => b.cols.length).getD 0
          rw [hb]
          rfl
        · show (b.tab, ((svAt ss s).map fun b => widthAt ts b.tab).getD 0) ∈ ts
          rw [hb]
          exact svOk_w O.hT O.hS hm.1
      refine ⟨_, rfl, _, rfl, _, rfl, sp, p, z, st, sz, ts, ks, ss, m, n, kOf ss st, rfl, hS.same s12, hs.keeps fun _ _ e => s12 _ _ e, hz.same s12, hu, ho.len, fun n o s its e => by obtain ⟨b, h1, h2, h3, _⟩ := cl n o s its e; exact ⟨b, h1, h2, h3⟩, fun H3 s3 => ⟨_, rfl, ?_⟩⟩
      have s13 := s12.trans s3
      cases e2 : itemsB sz (kOf ss st) st with
      | false =>
        rw [if_pos e2] at q
        exact ifT (q H3 s13)
      | true =>
        rw [if_neg (by rw [e2]; decide)] at q
        refine ifF ?_
        refine ⟨_, rfl, _, rfl, _, rfl, sp, p, z, st, sz, ts, ks, ss, m, n, wOf ts ss st, rfl, hS.same s13, hs.keeps fun _ _ e => s13 _ _ e, hz.same s13, hzi, hu, fun n o s its e => by obtain ⟨b, h1, h2, _, h4⟩ := cl n o s its e; exact ⟨b, h1, h2, h4⟩, fun g H4 hg _ s4 => ?_⟩
        have s14 := s13.trans s4
        refine ⟨g, _, rfl, .of hg, rfl, _, _, rfl, _, _, rfl, _, _, rfl, rfl, ?_⟩
        refine ⟨_, rfl, _, _, rfl, rfl, _, rfl, ite_d (fun h1 => ?_) (fun h1 => ?_)⟩
        · rw [if_pos (.inl h1)] at q
          exact q H4 s14
        · refine ⟨_, rfl, _, rfl, p, z, st, sz, rfl, hs.keeps fun _ _ e => s14 _ _ e, hz.same s14, hu, _, rfl, ?_⟩
          cases e3 : joinB sz st with
          | false =>
            rw [if_pos (.inr e3)] at q
            exact ifT (q H4 s14)
          | true =>
            rw [if_neg (by rintro (h | h); exact h1 h; rw [e3] at h; cases h)] at q
            refine ifF ?_
            refine ⟨_, rfl, _, _, rfl, rfl, _, rfl, ite_d (fun h2 => ?_) (fun h2 => ?_)⟩
            · rw [if_pos (.inl h2)] at q
              exact q H4 s14
            · refine ⟨_, rfl, _, _, rfl, rfl, _, rfl, ite_d (fun h3 => ?_) (fun h3 => ?_)⟩
              · rw [if_pos (.inr h3)] at q
                exact q H4 s14
              · rw [if_neg (by rintro (h | h); exact h2 h; exact h3 h)] at q
                exact q H4 s14
theorem ok_ipinit (T : Txt K mg a d) : FnOk P w K mg base CX0 1 (a 1500) (d 1500) ["self", "part", "at"] (spI2 (a 5) "part" "at") := by
  refine T.F1500.ok sc_InvalidProgram___init__ (fun vs H Q E h => ?_) (fun cdv A outer s H vs Q E hr h => ?_)
  · obtain ⟨x, u, v, rfl, _⟩ := h
    rfl
  · obtain ⟨x, u, v, rfl, hx, q⟩ := h
    refine ⟨_, (pss_cons (ps_ost (pv 0) (pv 1))
  (pss_one (ps_ost (pv 0) (pv 2)))), _, rfl, _, rfl, x, _, rfl, T.x_5, T.no_5_part, .inl ⟨hx, fun dx hdx ne => ?_⟩⟩
    have e1 : upd (upd H dx (exd dx [(("part" : Str), u)])) x (exo x (a 5) (some dx)) dx = some (exd dx [(("part" : Str), u)]) := by rw [upd_ne ne]; exact upd_same
    refine ⟨_, rfl, _, rfl, x, _, rfl, T.x_5, T.no_5_at, .inr ⟨dx, _, upd_same, e1, by show 1 ≤ 900; decide, q dx _ hdx ne ?_ upd_same fun b o nb nd e => ?_⟩⟩
    · rw [upd_ne ne.symm]
      exact upd_same
    · rw [upd_ne nd, upd_ne nb, upd_ne nd]
      exact e
end
/-! ### a program, step by step -/
def putS (sz : Str → Option SzD) (n : Str) (t : SzD) : Str → Option SzD := fun x => if x = n then some t else sz x
def runG (ts : List (Str × Int)) (ss : List SvE) : List StD → (Str → Option SzD) → Nat → (Str × Nat) ⊕ (Str → Option SzD)
  | [], sz, _ => .inr sz
  | st :: r, sz, i => match wrongOf ts ss sz st with
    | some u => .inl (u, i)
    | none => runG ts ss r (putS sz st.name (sizeOf sz (wOf ts ss st) st)) (i + 1)
theorem runG_append {ts : List (Str × Int)} {ss : List SvE} {ys : List StD} : ∀ {xs : List StD} {sz sz' : Str → Option SzD} {i : Nat}, runG ts ss xs sz i = .inr sz' → runG ts ss (xs ++ ys) sz i = runG ts ss ys sz' (i + xs.length)
  | [], sz, sz', i, h => by
    cases h
    rfl
  | st :: r, sz, sz', i, h => by
    show (match wrongOf ts ss sz st with | some u => _ | none => runG ts ss (r ++ ys) _ (i + 1)) = _
    have h : (match wrongOf ts ss sz st with | some u => _ | none => runG ts ss r _ (i + 1)) = _ := h
    cases e : wrongOf ts ss sz st with
    | some u => rw [e] at h; cases h
    | none =>
      rw [e] at h
      rw [show i + (st :: r).length = i + 1 + r.length by rw [List.length_cons]; omega]
      exact runG_append h
/-- no relation yet -/
def sz0 : Str → Option SzD := fun _ => none
def fldsP (x l : Addr) (t : SzD) : List (Str × V) := putF "_steps" (.ref l) (putF "call_count" (.int t.2.2) (putF "part_count" (.int t.2.1) (putF "width" (.int t.1) (putF "schema" (.ref x) []))))
theorem fldp_sc (x l : Addr) (t : SzD) : (fldsP x l t).lookup ("schema" : Str) = some (V.ref x) := by
  unfold fldsP
  rw [lookup_putF, if_neg (by decide +kernel), lookup_putF, if_neg (by decide +kernel), lookup_putF, if_neg (by decide +kernel), lookup_putF, if_neg (by decide +kernel), lookup_putF, if_pos rfl]
theorem fldp_w (x l : Addr) (t : SzD) : (fldsP x l t).lookup ("width" : Str) = some (V.int t.1) := by
  unfold fldsP
  rw [lookup_putF, if_neg (by decide +kernel), lookup_putF, if_neg (by decide +kernel), lookup_putF, if_neg (by decide +kernel), lookup_putF, if_pos rfl]
theorem fldp_p (x l : Addr) (t : SzD) : (fldsP x l t).lookup ("part_count" : Str) = some (V.int t.2.1) := by
  unfold fldsP
  rw [lookup_putF, if_neg (by decide +kernel), lookup_putF, if_neg (by decide +kernel), lookup_putF, if_pos rfl]
theorem fldp_c (x l : Addr) (t : SzD) : (fldsP x l t).lookup ("call_count" : Str) = some (V.int t.2.2) := by
  unfold fldsP
  rw [lookup_putF, if_neg (by decide +kernel), lookup_putF, if_pos rfl]
theorem fldp_st (x l : Addr) (t : SzD) : (fldsP x l t).lookup ("_steps" : Str) = some (V.ref l) := by
  unfold fldsP
  rw [lookup_putF, if_pos rfl]
theorem fldp_no (x l : Addr) (t : SzD) {m : Str} (h1 : ¬ m = "_steps") (h2 : ¬ m = "call_count") (h3 : ¬ m = "part_count") (h4 : ¬ m = "width") (h5 : ¬ m = "schema") : (fldsP x l t).lookup m = none := by
  unfold fldsP
  rw [lookup_putF, if_neg h1, lookup_putF, if_neg h2, lookup_putF, if_neg h3, lookup_putF, if_neg h4, lookup_putF, if_neg h5]
  rfl
theorem putF_le (f : Str) (v : V) : ∀ fs : List (Str × V), (putF f v fs).length ≤ fs.length + 1
  | [] => Nat.le_refl _
  | (g, x) :: r => by
    show (if g = f then (g, v) :: r else (g, x) :: putF f v r).length ≤ _
    have := putF_le f v r
    split <;> simp only [List.length_cons] <;> omega
theorem wrong_none {ts : List (Str × Int)} {ss : List SvE} {sz : Str → Option SzD} {st : StD} (h : wrongOf ts ss sz st = none) : namesB sz ss st = true ∧ itemsB sz (kOf ss st) st = true ∧ (sizeOf sz (wOf ts ss st) st).1 ≤ 12 ∧ joinB sz st = true ∧ (sizeOf sz (wOf ts ss st) st).2.1 ≤ 16 ∧ (sizeOf sz (wOf ts ss st) st).2.2 ≤ 4 := by
  unfold wrongOf at h
  cases e1 : namesB sz ss st with
  | false => rw [if_pos e1] at h; cases h
  | true =>
    rw [if_neg (by rw [e1]; decide)] at h
    cases e2 : itemsB sz (kOf ss st) st with
    | false => rw [if_pos e2] at h; cases h
    | true =>
      rw [if_neg (by rw [e2]; decide)] at h
      by_cases e3 : 12 < (sizeOf sz (wOf ts ss st) st).1 ∨ joinB sz st = false
      · rw [if_pos e3] at h; cases h
      · rw [if_neg e3] at h
        by_cases e4 : 16 < (sizeOf sz (wOf ts ss st) st).2.1 ∨ 4 < (sizeOf sz (wOf ts ss st) st).2.2
        · rw [if_pos e4] at h; cases h
        · have j : joinB sz st = true := by
            cases e : joinB sz st with
            | true => rfl
            | false => exact absurd (.inr e) e3
          exact ⟨rfl, rfl, by omega, j, by omega, by omega⟩
/-- 0 or more columns of a call's table -/
def WNn (ts : List (Str × Int)) (ss : List SvE) : Prop := ∀ st, 0 ≤ wOf ts ss st
theorem SzIn.put {ts : List (Str × Int)} {ss : List SvE} {sz : Str → Option SzD} {st : StD} (h : SzIn sz) (hw : WNn ts ss) (e : wrongOf ts ss sz st = none) : SzIn (putS sz st.name (sizeOf sz (wOf ts ss st) st)) := by
  obtain ⟨h1, _, h3, _, h5, h6⟩ := wrong_none e
  have hu := names_used h1
  have gt : ∀ n ∈ st.used, 0 ≤ (szOf sz n).1 ∧ 1 ≤ (szOf sz n).2.1 ∧ 0 ≤ (szOf sz n).2.2 := fun n hn => by
    obtain ⟨t, et⟩ := Option.isSome_iff_exists.mp (hu n hn)
    have := h n t et
    unfold szOf
    rw [et]
    exact ⟨this.1, this.2.1, this.2.2.1⟩
  intro n t et
  have et : (if n = st.name then some (sizeOf sz (wOf ts ss st) st) else sz n) = some t := et
  by_cases en : n = st.name
  · rw [if_pos en] at et
    cases et
    refine ⟨?_, ?_, ?_, h3, h5, h6⟩ <;> cases st with
    | start n => first | exact Int.le_refl _ | decide
    | call n o s its =>
      have g := gt o (by show o ∈ [o]; simp)
      have w := hw (.call n o s its)
      first
      | exact Int.add_nonneg g.1 w
      | exact g.2.1
      | exact Int.add_nonneg g.2.2 (by decide)
    | join b n x y =>
      have gx := gt x (by show x ∈ [x, y]; simp)
      have gy := gt y (by show y ∈ [x, y]; simp)
      cases b with
      | true =>
        first
        | exact gx.1
        | (show 1 ≤ (szOf sz x).2.1 + (szOf sz y).2.1; omega)
        | (show 0 ≤ mx (szOf sz x).2.2 (szOf sz y).2.2; unfold mx; split <;> omega)
      | false =>
        first
        | exact Int.add_nonneg gx.1 gy.1
        | (show 1 ≤ (szOf sz x).2.1 * (szOf sz y).2.1; exact Int.mul_pos (by omega) (by omega))
        | exact Int.add_nonneg gx.2.2 gy.2.2
    | whr n o i it =>
      have g := gt o (by show o ∈ [o]; simp)
      first
      | exact g.1
      | exact g.2.1
      | exact g.2.2
    | take n o its =>
      have g := gt o (by show o ∈ [o]; simp)
      first
      | exact Int.natCast_nonneg _
      | exact g.2.1
      | exact g.2.2
  · rw [if_neg en] at et
    exact h n t et
theorem wnn {H : Hp} {ts : List (Str × Int)} {ks : List KeyE} {ss : List SvE} {m n : Nat} {wm : Int} (hT : Tabs ts m wm) (hS : Svcs H ts ks ss n) : WNn ts ss := fun st => by
  cases st with
  | call n o s its =>
    show 0 ≤ ((svAt ss s).map fun b => widthAt ts b.tab).getD 0
    cases e : svAt ss s with
    | none => exact Int.le_refl _
    | some b =>
      have := (hT.wd _ (svOk_w hT hS (svAt_mem e).1)).1
      show 0 ≤ widthAt ts b.tab
      have h : 1 ≤ widthAt ts b.tab := this
      omega
  | _ => exact Int.le_refl _
abbrev StE := Addr × StD
theorem SzAt.put {H : Hp} {z b : Addr} {sz : Str → Option SzD} {kvs : List (Key × V)} (hz : H z = some (.dK kvs)) (hk : ∀ n, (sz n = none → valV kvs (.inr n) = none) ∧ ∀ t, sz n = some t → ∃ b, valV kvs (.inr n) = some (.ref b) ∧ H b = some (.tup (szV t))) {n : Str} {t : SzD} (hb : H b = some (.tup (szV t))) :
    SzAt (upd H z (.dK (putK kvs (.inr n) (.ref b)))) z (putS sz n t) := by
  have old : ∀ c xs, H c = some (.tup xs) → upd H z (.dK (putK kvs (.inr n) (.ref b))) c = some (.tup xs) := fun c xs e => by
    rw [upd_ne (fun z' => by rw [z', hz] at e; cases e)]
    exact e
  refine ⟨_, upd_same, fun x => ?_⟩
  unfold putS
  by_cases e : x = n
  · subst e
    rw [if_pos rfl]
    refine ⟨(fun h => by cases h), fun t' h => ⟨b, ?_, ?_⟩⟩
    · rw [valV_put, if_pos rfl]
    · cases h
      exact old _ _ hb
  · rw [if_neg e]
    refine ⟨fun h => ?_, fun t' h => ?_⟩
    · rw [valV_put, if_neg (fun h => e (Sum.inr.inj h))]
      exact (hk x).1 h
    · obtain ⟨c, e1, e2⟩ := (hk x).2 t' h
      exact ⟨c, by rw [valV_put, if_neg (fun h => e (Sum.inr.inj h))]; exact e1, old _ _ e2⟩
section
variable {P : Program} {w : World} {K : PySem.W.Frag} {mg : Str → Option Value} {base : Heap} {a : Nat → Addr} {d : Nat → FuncData}
def refsOf (xs : List StE) : List V := xs.map fun b => V.ref b.1
def spPInit (CS CP CE : Addr) : Sp := fun vs H Q E => ∃ (p dx sp l : Addr) (xs : List StE) (ts : List (Str × Int)) (ks : List KeyE) (ss : List SvE) (m n : Nat), vs = [.ref p, .ref sp, .ref l] ∧ H p = some (.ins CP dx []) ∧ SchAt CS sp H ts ks ss m n ∧ H l = some (.lst (refsOf xs)) ∧ (∀ b ∈ xs, StAt H b.1 b.2 ∧ StOk b.2) ∧ 1 ≤ xs.length ∧ xs.length ≤ 12 ∧
  (∀ u i, runG ts ss (xs.map (·.2)) sz0 0 = .inl (u, i) → ∀ H', Same H H' → Er2 CE "part" "at" (.str u) (.int (i : Nat)) H' E) ∧
  (∀ sz st, runG ts ss (xs.map (·.2)) sz0 0 = .inr sz → (xs.map (·.2)).getLast? = some st → ∀ H' l', H' p = some (.ins CP dx (fldsP sp l' (szOf sz st.name))) → H' l' = some (.lst (refsOf xs)) → H l' = none → l' ≠ p → (∀ b o, b ≠ p → H b = some o → H' b = some o) → Q .non H')
theorem last_name {ts : List (Str × Int)} {ss : List SvE} : ∀ {xs : List StD} {sz sz' : Str → Option SzD} {i : Nat}, runG ts ss xs sz i = .inr sz' → (∀ n t, sz n = some t → (sz' n).isSome = true) ∧ ∀ st ∈ xs, (sz' st.name).isSome = true
  | [], sz, sz', i, h => by
    cases h
    exact ⟨fun n t e => by rw [e]; rfl, fun st h => by cases h⟩
  | st :: r, sz, sz', i, h => by
    have h : (match wrongOf ts ss sz st with | some u => _ | none => runG ts ss r _ (i + 1)) = _ := h
    cases e : wrongOf ts ss sz st with
    | some u => rw [e] at h; cases h
    | none =>
      rw [e] at h
      obtain ⟨h1, h2⟩ := last_name h
      have hp : ∀ x, putS sz st.name (sizeOf sz (wOf ts ss st) st) x = if x = st.name then some (sizeOf sz (wOf ts ss st) st) else sz x := fun x => rfl
      refine ⟨fun n t en => ?_, fun s hs => ?_⟩
      · by_cases e' : n = st.name
        · exact h1 n _ (by rw [hp, if_pos e'])
        · exact h1 n t (by rw [hp, if_neg e']; exact en)
      · rcases List.mem_cons.mp hs with rfl | hs
        · exact h1 s.name _ (by rw [hp, if_pos rfl])
        · exact h2 s hs
theorem ok_pinit (T : Txt K mg a d) (W : TxtW K w a) : FnOk P w K mg base (L2.CX P w) 7 (a 4000) (d 4000) ["self", "schema", "steps"] (spPInit (a 47) (a 30) (a 5)) := by
  have G29 : FnOk P w K mg base CX0 6 (a 29) (d 29) ["schema", "step", "sizes"] (spWrong (a 47)) := ok_wrong T W
  have G27 : FnOk P w K mg base CX0 5 (a 27) (d 27) ["schema", "step", "sizes"] (spSize (a 47)) := ok_size T
  have G1500 : FnOk P w K mg base CX0 1 (a 1500) (d 1500) ["self", "part", "at"] (spI2 (a 5) "part" "at") := ok_ipinit T
  refine T.F4000.okX sc_Program___init__ (fun vs H Q E h => ?_) (fun cdv A outer s H vs Q E hr h => ?_)
  · obtain ⟨p, dx, sp, l, xs, ts, ks, ss, m, n, rfl, _⟩ := h
    rfl
  · obtain ⟨p, dx, sp, l, xs, ts, ks, ss, m, n, rfl, hp, hS, hl, hx, x1, x12, q1, q2⟩ := h
    obtain ⟨t1, h_MOST_STEPS⟩ := T.c_MOST_STEPS
    refine ⟨_, (pss_cons (ps_if (pt_not (pt_chain op_le op_le pe_int (pe_callB (id := "len")  call_len_seq (by rfl) T.z_len (by decide +kernel) (pa_cons (pv 2) pa_nil)) (pe_glob (v := .int (12)) rfl h_MOST_STEPS ⟨_, rfl⟩)))
    (pss_one (ps_raise rfl (takes_of rfl rfl rfl rfl) (pmk_oex T.x_5 T.in_5 T.ti_5 G1500 (hr.mono (by decide)) T.b1500 .nil pass0 (by rfl) T.cg_5 (pa_cons pe_str (pa_cons pe_non pa_nil)))))
    pss_nil)
  (pss_cons (ps_set (i := 3) sc_Program___init__.nd rfl (.inl rfl) pe_dnewK)
  (pss_cons (ps_for (passes_of rfl) rfl (pi_enum (by rfl) T.z_enumerate (pa_cons (pv 2) pa_nil)) (pg_tup rfl (pgs_cons (pg_name (i := 4) sc_Program___init__.nd rfl (.inl rfl)) (pgs_cons (pg_name (i := 5) sc_Program___init__.nd rfl (.inl rfl)) pgs_nil)))
    (pss_cons (ps_set (i := 6) sc_Program___init__.nd rfl (.inl rfl) (pe_call G29 (hr.mono (by decide)) (by rfl) T.g29 T.F29.kp T.b29 .nil pass0 (pa_cons (pv 1) (pa_cons (pv 5) (pa_cons (pv 3) pa_nil)))))
      (pss_cons (ps_if (pt_cmpR op_notN (pv 6) pe_non (nomark _))
        (pss_one (ps_raise rfl (takes_of rfl rfl rfl rfl) (pmk_oex T.x_5 T.in_5 T.ti_5 G1500 (hr.mono (by decide)) T.b1500 .nil pass0 (by rfl) T.cg_5 (pa_cons (pv 6) (pa_cons (pv 4) pa_nil)))))
        pss_nil)
      (pss_one (ps_dput (hu_of hr) (pv 3) (pe_ix ix_tup (pv 5) pe_int (fun _ _ => rfl)) (pe_call G27 (hr.mono (by decide)) (by rfl) T.g27 T.F27.kp T.b27 .nil pass0 (pa_cons (pv 1) (pa_cons (pv 5) (pa_cons (pv 3) pa_nil)))) rfl)))))
  (pss_cons (ps_fld (pv 0) (pv 1) rfl)
  (pss_cons (ps_asg (pe_dget (hu_of hr) (pv 3) (pe_ix ix_tup (pe_ix ix_list (pv 2) (pe_un un_neg pe_int) (fun _ _ => rfl)) pe_int (fun _ _ => rfl)) (fun _ _ => rfl)) (pg_tup rfl (pgs_cons (pg_fld (pv 0)) (pgs_cons (pg_fld (pv 0)) (pgs_cons (pg_fld (pv 0)) pgs_nil)))))
  (pss_one (ps_fld (pv 0) (pe_callTy (T := "list")  call_list_of (by rfl) T.z_list (by decide +kernel) (pa_cons (pv 2) pa_nil)) rfl))))))), ?_⟩
    have ll : (refsOf xs).length = xs.length := List.length_map ..
    refine ⟨_, rfl, _, _, rfl, .inl (.of hl), _, _, rfl, rfl, _, rfl, ite_d (fun _ => ?_) (fun z => absurd (show (1 : Int) ≤ ((refsOf xs).length : Int) by omega) z)⟩
    refine ⟨_, _, rfl, rfl, _, rfl, ?_⟩
    show if (!decide (((refsOf xs).length : Int) ≤ 12)) = true then _ else _
    rw [decide_eq_true (show ((refsOf xs).length : Int) ≤ 12 by omega)]
    refine ifF ?_
    intro z hz
    have s0 := same_upd (o := .dK []) hz
    refine ⟨_, rfl, l, _, rfl, .of (s0 _ _ hl), ?_⟩
    refine for_it (walk_enum (K := K) (a := l) (xs := refsOf xs)) (fun i σ H' => ∃ (sz : Str → Option SzD) (kvs : List (Key × V)) (y4 y5 y6 : Option V), σ = [some (.ref p), some (.ref sp), some (.ref l), some (.ref z), y4, y5, y6] ∧ runG ts ss ((xs.take i).map (·.2)) sz0 0 = .inr sz ∧ SzIn sz ∧ H' z = some (.dK kvs) ∧ kvs.length ≤ i ∧ (∀ n, (sz n = none → valV kvs (.inr n) = none) ∧ ∀ t, sz n = some t → ∃ b, valV kvs (.inr n) = some (.ref b) ∧ H' b = some (.tup (szV t))) ∧ Same H H')
      ⟨sz0, [], none, none, none, rfl, rfl, (fun n t e => by cases e), upd_same, Nat.le_refl _, fun n => ⟨fun _ => rfl, fun t e => by cases e⟩, s0⟩ (fun i σ H' _ hp => ?_) (fun i v σ H' H'' hi hp hy => ?_) (fun σ H' hp => ?_)
    · obtain ⟨sz, kvs, y4, y5, y6, rfl, _, _, _, _, _, s⟩ := hp
      exact .of (s _ _ hl)
    · obtain ⟨sz, kvs, y4, y5, y6, rfl, hrun, hzi, hzd, hkl, hzk, s⟩ := hp
      obtain ⟨T', u1, u2, rfl, hT', rfl, hu1, hu2⟩ := hy
      cases hu1
      obtain ⟨b, hb, rfl⟩ := map_at hu2
      have sT := same_upd (o := .tup [.int ((i : Nat) : Int), .ref b.1]) hT'
      have s4 := s.trans sT
      obtain ⟨hst, hok⟩ := hx b (List.mem_of_getElem? hb)
      have hzA : SzAt (upd H' T' (.tup [.int ((i : Nat) : Int), .ref b.1])) z sz := SzAt.same ⟨kvs, hzd, hzk⟩ sT
      refine ⟨T', _, rfl, .of upd_same, rfl, _, _, rfl, _, _, rfl, rfl, ?_⟩
      refine ⟨_, rfl, _, rfl, _, rfl, sp, b.1, z, b.2, sz, ts, ks, ss, m, n, rfl, hS.same s4, hst.keeps fun _ _ e => s4 _ _ e, hok, hzA, hzi, fun H5 s5 => ?_⟩
      have s45 := s4.trans s5
      have split : xs.map (·.2) = (xs.take i).map (·.2) ++ b.2 :: (xs.drop (i + 1)).map (·.2) := by
        have li : i < xs.length := (List.getElem?_eq_some_iff.mp hb).1
        have e0 : xs = xs.take i ++ b :: xs.drop (i + 1) := by
          have := List.take_append_drop i xs
          rw [List.drop_eq_getElem_cons li, (List.getElem?_eq_some_iff.mp hb).2] at this
          exact this.symm
        exact (congrArg (List.map (·.2)) e0).trans (List.map_append ..)
      have hlen : ((xs.take i).map (·.2)).length = i := by
        rw [List.length_map, List.length_take]
        have li : i < xs.length := (List.getElem?_eq_some_iff.mp hb).1
        omega
      refine ⟨_, rfl, rfl, ?_⟩
      cases ew : wrongOf ts ss sz b.2 with
      | some u =>
        refine ⟨_, rfl, ite_nd (fun _ => ?_) (fun e => nomatch e)⟩
        refine ⟨_, rfl, _, rfl, er2_raise (q1 u i ?_ H5 s45)⟩
        rw [split, runG_append hrun, hlen, Nat.zero_add]
        show (match wrongOf ts ss sz b.2 with | some u => _ | none => _) = _
        rw [ew]
      | none =>
        refine ⟨_, rfl, ite_nd (fun e => absurd rfl e) (fun _ => ?_)⟩
        have e1 : namesB sz ss b.2 = true := (wrong_none ew).1
        obtain ⟨dx', d1, d2, d3, O⟩ := hS
        obtain ⟨rest, hb5⟩ := st_name (hst.keeps fun _ _ e => s45 _ _ e)
        refine ⟨_, rfl, _, rfl, _, rfl, sp, b.1, z, b.2, sz, ts, ks, ss, m, n, wOf ts ss b.2, rfl, ⟨dx', d1, d2, d3, O.same s45⟩, hst.keeps fun _ _ e => s45 _ _ e, hzA.same s5, hzi, names_used e1, fun n o s' its e => ?_, fun g H6 hg _ s6 => ?_⟩
        · rw [e] at e1 ⊢
          obtain ⟨b', hb'⟩ := names_call e1
          have hm := svAt_mem hb'
          refine ⟨b', hm.1, hm.2, ?_⟩
          show (b'.tab, ((svAt ss s').map fun b => widthAt ts b.tab).getD 0) ∈ ts
          rw [hb']
          exact svOk_w O.hT O.hS hm.1
        · have s46 := s45.trans s6
          have z6 : H6 z = some (.dK kvs) := s6 _ _ (s5 _ _ (sT _ _ hzd))
          have hzk6 : ∀ n, (sz n = none → valV kvs (.inr n) = none) ∧ ∀ t, sz n = some t → ∃ b, valV kvs (.inr n) = some (.ref b) ∧ H6 b = some (.tup (szV t)) := fun n => ⟨(hzk n).1, fun t e => by
            obtain ⟨c, e1, e2⟩ := (hzk n).2 t e
            exact ⟨c, e1, s6 _ _ (s5 _ _ (sT _ _ e2))⟩⟩
          obtain ⟨kv2, zz, hk2⟩ := SzAt.put z6 hzk6 (n := b.2.name) hg
          rw [upd_same] at zz
          cases zz
          refine ⟨_, rfl, _, rfl, _, _, _, _, rfl, rfl, .of (s6 _ _ hb5), atI_nat (j := 1) rfl, z, _, rfl, DPut.k (k := Sum.inr b.2.name) z6 (Nat.lt_of_le_of_lt (by omega : _ ≤ 12) (by decide)), putS sz b.2.name (sizeOf sz (wOf ts ss b.2) b.2), _, _, _, _, rfl, ?_, hzi.put (wnn O.hT O.hS) ew, upd_same, ?_, hk2, same_mut s46 hz⟩
          · rw [take_snoc hb, List.map_append, runG_append hrun, hlen, Nat.zero_add]
            show (match wrongOf ts ss sz b.2 with | some u => _ | none => _) = _
            rw [ew]
            rfl
          · exact Nat.le_trans (length_putK _ _ _) (Nat.succ_le_succ hkl)
    · obtain ⟨sz, kvs, y4, y5, y6, rfl, hrun, hzi, hzd, hkl, hzk, s⟩ := hp
      rw [ll, List.take_length] at hrun
      obtain ⟨ys, y, rfl⟩ : ∃ ys y, xs = ys ++ [y] := by
        refine ⟨xs.dropLast, xs.getLast (fun e => by rw [e] at x1; exact absurd x1 (by decide)), ?_⟩
        exact (List.dropLast_concat_getLast _).symm
      have nzp : p ≠ z := ne_of_none hp hz
      have hy := hx y (by simp)
      obtain ⟨tl, etl⟩ := Option.isSome_iff_exists.mp ((last_name hrun).2 y.2 (by simp))
      obtain ⟨bt, v1, v2⟩ := (hzk y.2.name).2 tl etl
      have esz : szOf sz y.2.name = tl := by unfold szOf; rw [etl]; rfl
      obtain ⟨rest, hy1⟩ := st_name (hy.1.keeps fun _ _ e => s _ _ e)
      have hp1 := s _ _ hp
      refine ⟨_, rfl, _, rfl, p, _, dx, _, rfl, hp1, T.cl_30, T.no_30_schema, by show 0 < 1000; decide, ?_⟩
      generalize hH2 : upd H' p _ = H2
      have hp2 : H2 p = some (.ins (a 30) dx (putF "schema" (.ref sp) [])) := by rw [← hH2]; exact upd_same
      have o2 : ∀ b o, b ≠ p → H' b = some o → H2 b = some o := fun b o n e => by rw [← hH2, upd_ne n]; exact e
      have nlp : l ≠ p := ne_of hl hp (by intro z; cases z)
      have nby : y.1 ≠ p := ne_of hy1 hp1 (by intro z; cases z)
      have nbt : bt ≠ p := ne_of v2 hp1 (by intro z; cases z)
      have l2 : H2 l = some (.lst (refsOf ys ++ [.ref y.1])) := by
        have := o2 l _ nlp (s _ _ hl)
        unfold refsOf at this ⊢
        rw [List.map_append] at this
        exact this
      have gz : DGet H2 z (.str y.2.name) (some (.ref bt)) := v1 ▸ DGet.k (k := .inr y.2.name) (o2 z _ nzp.symm hzd)
      refine ⟨_, rfl, _, rfl, _, rfl, _, _, _, _, rfl, rfl, .of l2, atI_last _ _, _, _, _, _, rfl, rfl, .of (o2 _ _ nby hy1), atI_nat (j := 1) rfl, z, _, rfl, gz, bt, _, rfl, .of (o2 _ _ nbt v2), rfl, ?_⟩
      refine ⟨_, _, rfl, _, rfl, p, _, dx, _, rfl, hp2, T.cl_30, T.no_30_width, by show 1 < 1000; decide, ?_⟩
      refine ⟨_, _, rfl, _, rfl, p, _, dx, _, rfl, upd_same, T.cl_30, T.no_30_part_count, ?_, ?_⟩
      · have := putF_le "width" (.int tl.1) (putF "schema" (.ref sp) [])
        exact Nat.lt_of_le_of_lt this (by show 1 + 1 < 1000; decide)
      refine ⟨_, _, rfl, _, rfl, p, _, dx, _, rfl, upd_same, T.cl_30, T.no_30_call_count, ?_, rfl, ?_⟩
      · have h1 := putF_le "width" (.int tl.1) (putF "schema" (.ref sp) [])
        have h2 := putF_le "part_count" (.int tl.2.1) (putF "width" (.int tl.1) (putF "schema" (.ref sp) []))
        have h3 : (putF "schema" (V.ref sp) []).length = 1 := rfl
        show _ < 1000
        omega
      generalize hH3 : upd (upd (upd H2 p _) p _) p _ = H3
      have hp3 : H3 p = some (.ins (a 30) dx (putF "call_count" (.int tl.2.2) (putF "part_count" (.int tl.2.1) (putF "width" (.int tl.1) (putF "schema" (.ref sp) []))))) := by rw [← hH3]; exact upd_same
      have o3 : ∀ b o, b ≠ p → H2 b = some o → H3 b = some o := fun b o n e => by rw [← hH3, upd_ne n, upd_ne n, upd_ne n]; exact e
      refine ⟨_, rfl, l, _, rfl, .inl (.of (o3 _ _ nlp l2)), fun l' hl' => ?_⟩
      have nl' : l' ≠ p := fun e => by rw [e, hp3] at hl'; cases hl'
      have s3 := same_upd (o := .lst (refsOf ys ++ [.ref y.1])) hl'
      refine ⟨_, rfl, p, _, dx, _, rfl, s3 _ _ hp3, T.cl_30, T.no_30__steps, ?_, ?_⟩
      · have h1 := putF_le "width" (.int tl.1) (putF "schema" (.ref sp) [])
        have h2 := putF_le "part_count" (.int tl.2.1) (putF "width" (.int tl.1) (putF "schema" (.ref sp) []))
        have h4 := putF_le "call_count" (.int tl.2.2) (putF "part_count" (.int tl.2.1) (putF "width" (.int tl.1) (putF "schema" (.ref sp) [])))
        have h3 : (putF "schema" (V.ref sp) []).length = 1 := rfl
        show _ < 1000
        omega
      have hfree : H l' = none := by
        cases e : H l' with
        | none => rfl
        | some o => rw [o3 l' o nl' (o2 l' o nl' (s _ _ e))] at hl'; cases hl'
      refine q2 sz y.2 hrun (by rw [List.map_append]; exact List.getLast?_concat ..) _ l' ?_ ?_ hfree nl' (fun b o n e => ?_)
      · rw [esz]
        exact upd_same
      · rw [upd_ne nl', upd_same]
        unfold refsOf
        rw [List.map_append]
        rfl
      · rw [upd_ne n]
        exact s3 _ _ (o3 _ _ n (o2 _ _ n (s _ _ e)))
end
/-! ### a program on the heap -/
structure PrO (CS CP p dx sp l : Addr) (H : Hp) (ts : List (Str × Int)) (ks : List KeyE) (ss : List SvE) (m n : Nat) (xs : List StE) (t : SzD) : Prop where
  ob : H p = some (.ins CP dx (fldsP sp l t))
  sch : SchAt CS sp H ts ks ss m n
  ls : H l = some (.lst (refsOf xs))
  st : ∀ b ∈ xs, StAt H b.1 b.2 ∧ StOk b.2
  l1 : 1 ≤ xs.length
  l12 : xs.length ≤ 12
theorem PrO.same {CS CP p dx sp l : Addr} {H H' : Hp} {ts : List (Str × Int)} {ks : List KeyE} {ss : List SvE} {m n : Nat} {xs : List StE} {t : SzD} (h : PrO CS CP p dx sp l H ts ks ss m n xs t) (s : Same H H') : PrO CS CP p dx sp l H' ts ks ss m n xs t :=
  ⟨s _ _ h.ob, h.sch.same s, s _ _ h.ls, fun b hb => ⟨(h.st b hb).1.keeps fun _ _ e => s _ _ e, (h.st b hb).2⟩, h.l1, h.l12⟩
/-! ### the steps as data -/
def itD : ItD → PyData
  | .val k => .tuple [keyD k]
  | .idx i => .int i
def stD : StD → PyData
  | .start n => .tuple [.str "start", .str n]
  | .call n o s its => .tuple [.str "call", .str n, .str o, .str s, .tuple (its.map itD)]
  | .join b n x y => .tuple [.str (if b then "both" else "pair"), .str n, .str x, .str y]
  | .whr n o i it => .tuple [.str "where", .str n, .str o, .int i, itD it]
  | .take n o its => .tuple [.str "take", .str n, .str o, .tuple (its.map itD)]
theorem dp_it {K : PySem.W.Frag} {H : Hp} {v : V} {it : ItD} (h : ItAt H v it) : Dp K H v (itD it) := by
  cases it with
  | val k => obtain ⟨p, rfl, hp⟩ := h; exact .tup (.of hp) (.cons (dp_key k) .nil)
  | idx i => obtain rfl := (show v = .int i from h); exact .int i
theorem dp_its {K : PySem.W.Frag} {H : Hp} : ∀ {vs : List V} {its : List ItD}, ItsAt H vs its → DpAll K H vs (its.map itD)
  | _, _, .nil => .nil
  | _, _, .cons h t => .cons (dp_it h) (dp_its t)
theorem dp_st {K : PySem.W.Frag} {H : Hp} {p : Addr} {st : StD} (h : StAt H p st) : Dp K H (.ref p) (stD st) := by
  cases st with
  | start n => exact .tup (.of h) (.cons (.str _) (.cons (.str _) .nil))
  | call n o s its => obtain ⟨g, vs, h1, h2, h3⟩ := h; exact .tup (.of h1) (.cons (.str _) (.cons (.str _) (.cons (.str _) (.cons (.str _) (.cons (.tup (.of h2) (dp_its h3)) .nil)))))
  | join b n x y => exact .tup (.of (show H p = some (.tup [.str (if b then "both" else "pair"), .str n, .str x, .str y]) from h)) (.cons (.str _) (.cons (.str _) (.cons (.str _) (.cons (.str _) .nil))))
  | whr n o i it => obtain ⟨v, h1, h2⟩ := h; exact .tup (.of h1) (.cons (.str _) (.cons (.str _) (.cons (.str _) (.cons (.int _) (.cons (dp_it h2) .nil)))))
  | take n o its => obtain ⟨g, vs, h1, h2, h3⟩ := h; exact .tup (.of h1) (.cons (.str _) (.cons (.str _) (.cons (.str _) (.cons (.tup (.of h2) (dp_its h3)) .nil))))
theorem dp_sts {K : PySem.W.Frag} {H : Hp} : ∀ {xs : List StE}, (∀ b ∈ xs, StAt H b.1 b.2 ∧ StOk b.2) → DpAll K H (refsOf xs) (xs.map fun b => stD b.2)
  | [], _ => .nil
  | b :: r, h => .cons (dp_st (h b (by simp)).1) (dp_sts fun c hc => h c (by simp [hc]))
theorem lay_it {it : ItD} (h : ItOk it) : (itD it).canLay0 = true ∧ (itD it).depth ≤ 1 := by
  cases it with
  | val k =>
    have h := lay_keys (r := [k]) (fun j hj => by rw [List.mem_singleton.mp hj]; exact KVal.ok h)
    refine ⟨h.1, ?_⟩
    show PyData.depthAll ([k].map keyD) + 1 ≤ 1
    rw [h.2]
    exact Nat.le_refl _
  | idx i => exact ⟨rfl, by show 0 ≤ 1; decide⟩
theorem lay_its : ∀ {its : List ItD}, (∀ it ∈ its, ItOk it) → PyData.canLayAll0 (its.map itD) = true ∧ PyData.depthAll (its.map itD) ≤ 1
  | [], _ => ⟨rfl, Nat.zero_le _⟩
  | x :: r, h => by
    obtain ⟨h1, h2⟩ := lay_it (h x (by simp))
    obtain ⟨h3, h4⟩ := lay_its (its := r) fun y hy => h y (by simp [hy])
    refine ⟨?_, ?_⟩
    · show ((itD x).canLay0 && PyData.canLayAll0 (r.map itD)) = true
      rw [h1, h3]
      rfl
    · show max (itD x).depth (PyData.depthAll (r.map itD)) ≤ 1
      omega
theorem lay_st {st : StD} (h : StOk st) : (stD st).canLay0 = true ∧ (stD st).depth ≤ 3 := by
  have k1 : PyData.strOk ("start" : Str) = true := by decide +kernel
  have k2 : PyData.strOk ("call" : Str) = true := by decide +kernel
  have k3 : PyData.strOk ("both" : Str) = true := by decide +kernel
  have k4 : PyData.strOk ("pair" : Str) = true := by decide +kernel
  have k5 : PyData.strOk ("where" : Str) = true := by decide +kernel
  have k6 : PyData.strOk ("take" : Str) = true := by decide +kernel
  cases st with
  | start n =>
    have e1 := wd_strOk (h.ns n (by simp [StD.ns]))
    constructor
    · simp only [stD, PyData.canLay0, PyData.canLayAll0, k1, e1, Bool.and_self]
    · simp [stD, PyData.depth, PyData.depthAll]
  | call n o s its =>
    have e1 := wd_strOk (h.ns n (by simp [StD.ns]))
    have e2 := wd_strOk (h.ns o (by simp [StD.ns]))
    have e3 := wd_strOk (h.ns s (by simp [StD.ns]))
    obtain ⟨l1, l2⟩ := lay_its (its := its) h.its
    constructor
    · simp only [stD, PyData.canLay0, PyData.canLayAll0, k2, e1, e2, e3, l1, Bool.and_self]
    · simp only [stD, PyData.depth, PyData.depthAll]
      omega
  | join b n x y =>
    have e1 := wd_strOk (h.ns n (by simp [StD.ns]))
    have e2 := wd_strOk (h.ns x (by simp [StD.ns]))
    have e3 := wd_strOk (h.ns y (by simp [StD.ns]))
    constructor
    · cases b <;> simp [stD, PyData.canLay0, PyData.canLayAll0, k3, k4, e1, e2, e3]
    · simp [stD, PyData.depth, PyData.depthAll]
  | whr n o i it =>
    have e1 := wd_strOk (h.ns n (by simp [StD.ns]))
    have e2 := wd_strOk (h.ns o (by simp [StD.ns]))
    obtain ⟨l1, l2⟩ := lay_it (h.its it (by simp [StD.items]))
    constructor
    · simp only [stD, PyData.canLay0, PyData.canLayAll0, k5, e1, e2, l1, Bool.and_self]
    · simp only [stD, PyData.depth, PyData.depthAll]
      omega
  | take n o its =>
    have e1 := wd_strOk (h.ns n (by simp [StD.ns]))
    have e2 := wd_strOk (h.ns o (by simp [StD.ns]))
    obtain ⟨l1, l2⟩ := lay_its (its := its) h.its
    constructor
    · simp only [stD, PyData.canLay0, PyData.canLayAll0, k6, e1, e2, l1, Bool.and_self]
    · simp only [stD, PyData.depth, PyData.depthAll]
      omega
theorem lay_sts : ∀ {xs : List StE}, (∀ b ∈ xs, StOk b.2) → PyData.canLayAll0 (xs.map fun b => stD b.2) = true ∧ PyData.depthAll (xs.map fun b => stD b.2) ≤ 3
  | [], _ => ⟨rfl, Nat.zero_le _⟩
  | x :: r, h => by
    obtain ⟨h1, h2⟩ := lay_st (h x (by simp))
    obtain ⟨h3, h4⟩ := lay_sts (xs := r) fun y hy => h y (by simp [hy])
    refine ⟨?_, ?_⟩
    · show ((stD x.2).canLay0 && PyData.canLayAll0 (r.map fun b => stD b.2)) = true
      rw [h1, h3]
      rfl
    · show max (stD x.2).depth (PyData.depthAll (r.map fun b => stD b.2)) ≤ 3
      omega
def stsD (xs : List StE) : PyData := .list (xs.map fun b => stD b.2)
theorem sts_shaped {xs : List StE} (h : ∀ b ∈ xs, StOk b.2) : SeqAt.shaped (stsD xs) = true := by
  obtain ⟨h1, h2⟩ := lay_sts h
  unfold SeqAt.shaped
  rw [Bool.and_eq_true]
  refine ⟨h1, decide_eq_true ?_⟩
  show PyData.depthAll (xs.map fun b => stD b.2) + 1 ≤ 64
  omega
section
variable {P : Program} {w : World} {K : PySem.W.Frag} {mg : Str → Option Value} {base : Heap} {a : Nat → Addr} {d : Nat → FuncData}
def spPEq (CS CP : Addr) : Sp := fun vs H Q _ => ∃ (p q dx dy sp sq l l' : Addr) (ts : List (Str × Int)) (ks : List KeyE) (ss : List SvE) (m n : Nat) (ts' : List (Str × Int)) (ks' : List KeyE) (ss' : List SvE) (m' n' : Nat) (xs ys : List StE) (t t' : SzD), vs = [.ref p, .ref q] ∧ PrO CS CP p dx sp l H ts ks ss m n xs t ∧ PrO CS CP q dy sq l' H ts' ks' ss' m' n' ys t' ∧
  Q (.bl (schB ts ks ss ts' ks' ss' && PyData.eqv (stsD xs) (stsD ys))) H
def spStL (CS CP : Addr) : Sp := fun vs H Q _ => ∃ (p dx sp l : Addr) (ts : List (Str × Int)) (ks : List KeyE) (ss : List SvE) (m n : Nat) (xs : List StE) (t : SzD), vs = [.ref p] ∧ PrO CS CP p dx sp l H ts ks ss m n xs t ∧ ∀ r, H r = none → Q (.ref r) (upd H r (.lst (refsOf xs)))
end
/-- Program(schema, steps), made -/
theorem mk_prog {CS CP CE sp l : Addr} {H : Hp} {ts : List (Str × Int)} {ks : List KeyE} {ss : List SvE} {m n : Nat} {xs : List StE} {Q' : Hp → Prop} {E : XK} {x dx : Addr} (hS : SchAt CS sp H ts ks ss m n) (hl : H l = some (.lst (refsOf xs))) (hx : ∀ b ∈ xs, StAt H b.1 b.2 ∧ StOk b.2) (x1 : 1 ≤ xs.length) (x12 : xs.length ≤ 12)
    (fx : H x = none) (fdx : H dx = none) (ndx : dx ≠ x)
    (q1 : ∀ u i, runG ts ss (xs.map (·.2)) sz0 0 = .inl (u, i) → ∀ H', Same H H' → Er2 CE "part" "at" (.str u) (.int (i : Nat)) H' E)
    (q2 : ∀ sz st, runG ts ss (xs.map (·.2)) sz0 0 = .inr sz → (xs.map (·.2)).getLast? = some st → ∀ H' l', PrO CS CP x dx sp l' H' ts ks ss m n xs (szOf sz st.name) → H l' = none → Same H H' → Q' H') :
    spPInit CS CP CE (.ref x :: ([.ref sp, .ref l] ++ [])) (upd (upd H dx (.own x)) x (.ins CP dx [])) (fun u H2 => u = .non ∧ Q' H2) E := by
  have s1 := same_upd (o := .own x) fdx
  have f1 : upd H dx (.own x) x = none := by rw [upd_ne ndx.symm]; exact fx
  have s := s1.trans (same_upd (o := .ins CP dx []) f1)
  refine ⟨x, dx, sp, l, xs, ts, ks, ss, m, n, rfl, upd_same, hS.same s, s _ _ hl, fun b hb => ⟨(hx b hb).1.keeps fun _ _ e => s _ _ e, (hx b hb).2⟩, x1, x12, fun u i e H' s' => q1 u i e H' (s.trans s'), fun sz st e1 e2 H' l' hp hl' fl nl keep => ⟨rfl, ?_⟩⟩
  have sH : Same H H' := fun b u e => keep b u (ne_of_none e fx) (s _ _ e)
  exact q2 sz st e1 e2 H' l' ⟨hp, hS.same sH, hl', fun b hb => ⟨(hx b hb).1.keeps fun _ _ e => sH _ _ e, (hx b hb).2⟩, x1, x12⟩ (same_none s fl) sH
section
variable {P : Program} {w : World} {K : PySem.W.Frag} {mg : Str → Option Value} {base : Heap} {a : Nat → Addr} {d : Nat → FuncData}
def spUnd (CS CP CE : Addr) : Sp := fun vs H Q E => ∃ (p dx sp l so : Addr) (ts : List (Str × Int)) (ks : List KeyE) (ss : List SvE) (m n : Nat) (xs : List StE) (t : SzD) (ts' : List (Str × Int)) (ks' : List KeyE) (ss' : List SvE) (m' n' : Nat), vs = [.ref p, .ref so] ∧ PrO CS CP p dx sp l H ts ks ss m n xs t ∧ SchAt CS so H ts' ks' ss' m' n' ∧
  (∀ u i, runG ts' ss' (xs.map (·.2)) sz0 0 = .inl (u, i) → ∀ H', Same H H' → Er2 CE "part" "at" (.str u) (.int (i : Nat)) H' E) ∧
  (∀ sz st, runG ts' ss' (xs.map (·.2)) sz0 0 = .inr sz → (xs.map (·.2)).getLast? = some st → ∀ r dr H' l', PrO CS CP r dr so l' H' ts' ks' ss' m' n' xs (szOf sz st.name) → H r = none → Same H H' → Q (.ref r) H')
end
/-! ### the shapes that the law notes -/
abbrev ShE := Addr × Str × SzD
def ShAt (H : Hp) (e : ShE) : Prop := H e.1 = some (.tup [.str e.2.1, .int e.2.2.1, .int e.2.2.2.1, .int e.2.2.2.2])
def shRefs (xs : List ShE) : List V := xs.map fun e => V.ref e.1
structure ShsOk (H : Hp) (l : Addr) (shs : List ShE) (sz : Str → Option SzD) : Prop where
  ls : H l = some (.lst (shRefs shs))
  at_ : ∀ e ∈ shs, ShAt H e
  kn : ∀ e ∈ shs, sz e.2.1 = some e.2.2
  no : ∀ n, n ∉ shs.map (·.2.1) → sz n = none
  inn : SzIn sz
  l1 : 1 ≤ shs.length
  l12 : shs.length ≤ 12
  wd : ∀ e ∈ shs, Wd e.2.1
theorem ShsOk.chg {H H' : Hp} {p l : Addr} {shs : List ShE} {sz : Str → Option SzD} (h : ShsOk H l shs sz) (hP : PoolAt H p) (n : l ≠ p) (c : Chg p H H') : ShsOk H' l shs sz :=
  ⟨c.at n h.ls, fun e he => chg_tup hP c _ _ (h.at_ e he), h.kn, h.no, h.inn, h.l1, h.l12, h.wd⟩
/-- a step that fits -/
structure NewSt (ts : List (Str × Int)) (ss : List SvE) (sz : Str → Option SzD) (n : Str) (st : StD) (t : SzD) : Prop where
  nm : st.name = n
  ok : StOk st
  no : wrongOf ts ss sz st = none
  size : sizeOf sz (wOf ts ss st) st = t
theorem mk_wrong {ts : List (Str × Int)} {ss : List SvE} {sz : Str → Option SzD} {st : StD} (h1 : sz st.name = none) (h2 : ∀ n ∈ st.used, (sz n).isSome = true) (h3 : ∀ n o s its, st = .call n o s its → s ∈ ss.map (·.name)) (h4 : itemsB sz (kOf ss st) st = true) (h5 : joinB sz st = true)
    (h6 : (sizeOf sz (wOf ts ss st) st).1 ≤ 12) (h7 : (sizeOf sz (wOf ts ss st) st).2.1 ≤ 16) (h8 : (sizeOf sz (wOf ts ss st) st).2.2 ≤ 4) : wrongOf ts ss sz st = none := by
  have e1 : namesB sz ss st = true := by
    unfold namesB
    rw [h1, List.all_eq_true.mpr h2]
    cases st with
    | call n o s its =>
      obtain ⟨b, hb, e⟩ := List.mem_map.mp (h3 n o s its rfl)
      show (!(none : Option SzD).isSome && true && (ss.map (·.name)).any fun x => decide (x = s)) = true
      rw [show ((ss.map (·.name)).any fun x => decide (x = s)) = true from List.any_eq_true.mpr ⟨b.name, List.mem_map.mpr ⟨b, hb, rfl⟩, decide_eq_true e⟩]
      rfl
    | _ => rfl
  unfold wrongOf
  rw [if_neg (by rw [e1]; decide), if_neg (by rw [h4]; decide), if_neg (by rintro (h | h); omega; rw [h5] at h; cases h), if_neg (by omega)]
theorem sh_mem {shs : List ShE} {v : V} (h : v ∈ shRefs shs) : ∃ e ∈ shs, v = .ref e.1 := by
  obtain ⟨e, he, rfl⟩ := List.mem_map.mp h
  exact ⟨e, he, rfl⟩
section
variable {P : Program} {w : World} {K : PySem.W.Frag} {mg : Str → Option Value} {base : Heap} {a : Nat → Addr} {d : Nat → FuncData}
theorem ok_late (T : Txt K mg a d) : FnOk P w K mg base CX0 3 (a 61) (d 61) ["_law_pool_here", "_law_row"] spPick := by
  have G51 : FnOk P w K mg base CX0 2 (a 51) (d 51) ["_law_pool_here", "_law_many"] spDraw := ok_draw T
  refine T.F61.ok sc__law_late (fun vs H Q E h => ?_) (fun cdv A outer s H vs Q E hr h => ?_)
  · obtain ⟨p, l, xs, rfl, _⟩ := h
    rfl
  · obtain ⟨p, l, xs, rfl, hP, hl, nl, h1, h2, q⟩ := h
    refine ⟨_, (pss_cons (ps_if (pt_cmpR op_eq (pe_call G51 (hr.mono (by decide)) (by rfl) T.g51 T.F51.kp T.b51 .nil pass0 (pa_cons (pv 0) (pa_cons pe_int pa_nil))) pe_int (nomark _))
    (pss_one (ps_ret (pe_ix ix_list (pv 1) (pe_un un_neg pe_int) (fun _ _ => rfl))))
    pss_nil)
  (pss_one (ps_ret (pe_ix ix_list (pv 1) (pe_call G51 (hr.mono (by decide)) (by rfl) T.g51 T.F51.kp T.b51 .nil pass0 (pa_cons (pv 0) (pa_cons (pe_callB (id := "len")  call_len_seq (by rfl) T.z_len (by decide +kernel) (pa_cons (pv 1) pa_nil)) pa_nil))) (fun _ _ => rfl))))), ?_⟩
    refine ⟨_, rfl, p, _, rfl, hP, by decide, by decide, fun r H1 r0 r1 C1 => ⟨rfl, _, rfl, ite_eqI (fun _ => ?_) (fun _ => ?_)⟩⟩
    · obtain ⟨ys, y, rfl⟩ : ∃ ys y, xs = ys ++ [y] := by
        refine ⟨xs.dropLast, xs.getLast (fun e => by rw [e] at h1; exact absurd h1 (by decide)), ?_⟩
        exact (List.dropLast_concat_getLast _).symm
      exact ⟨_, rfl, _, rfl, _, _, _, _, rfl, rfl, .of (C1.at nl hl), atI_last _ _, q y H1 (by simp) C1⟩
    · refine ⟨_, rfl, _, rfl, _, rfl, _, _, rfl, .inl (.of (C1.at nl hl)), p, _, rfl, C1.1, by omega, Nat.lt_of_le_of_lt (by omega : _ ≤ 1000) (by decide), fun r' H2 r0' r1' C2 => ?_⟩
      obtain ⟨v, hv⟩ := at_some (xs := xs) r0' r1'
      exact ⟨l, xs, r', v, rfl, rfl, .of ((C1.trans C2).at nl hl), hv, q v H2 (atI_mem hv) (C1.trans C2)⟩
def spLItem : Sp := fun vs H Q _ => ∃ (p l : Addr) (wd : Int) (pal : List Key), vs = [.ref p, .int wd, .ref l] ∧ PoolAt H p ∧ H l = some (.lst (pal.map kV)) ∧ l ≠ p ∧ 1 ≤ pal.length ∧ pal.length ≤ 100 ∧ (∀ k ∈ pal, KVal k) ∧ 0 ≤ wd ∧ wd ≤ 12 ∧
  ∀ v it H', ItAt H' v it → ItOk it → itIn wd it = true → Chg p H H' → Q v H'
theorem ok_litem (T : Txt K mg a d) : FnOk P w K mg base CX0 4 (a 62) (d 62) ["_law_pool_here", "_law_width", "_law_palette"] spLItem := by
  have G51 : FnOk P w K mg base CX0 2 (a 51) (d 51) ["_law_pool_here", "_law_many"] spDraw := ok_draw T
  have G60 : FnOk P w K mg base CX0 3 (a 60) (d 60) ["_law_pool_here", "_law_row"] spPick := ok_pick T
  refine T.F62.ok sc__law_item (fun vs H Q E h => ?_) (fun cdv A outer s H vs Q E hr h => ?_)
  · obtain ⟨p, l, wd, pal, rfl, _⟩ := h
    rfl
  · obtain ⟨p, l, wd, pal, rfl, hP, hl, nl, h1, h2, hk, w0, w12, q⟩ := h
    refine ⟨_, (pss_cons (ps_if (PW.pt (pw_or (pt_cmpR op_eq (pv 1) pe_int (nomark _)) (pw_or1 (pt_cmpR op_eq (pe_call G51 (hr.mono (by decide)) (by rfl) T.g51 T.F51.kp T.b51 .nil pass0 (pa_cons (pv 0) (pa_cons pe_int pa_nil))) pe_int (nomark _)))))
    (pss_one (ps_ret (pe_tup (pa_cons (pe_call G60 (hr.mono (by decide)) (by rfl) T.g60 T.F60.kp T.b60 .nil pass0 (pa_cons (pv 0) (pa_cons (pv 2) pa_nil))) pa_nil))))
    pss_nil)
  (pss_one (ps_ret (pe_call G51 (hr.mono (by decide)) (by rfl) T.g51 T.F51.kp T.b51 .nil pass0 (pa_cons (pv 0) (pa_cons (pv 1) pa_nil)))))), ?_⟩
    refine ⟨_, rfl, rfl, _, rfl, ite_eqI (fun e0 => ?_) (fun ne => ?_)⟩
    · refine ⟨_, rfl, _, rfl, p, l, pal.map kV, rfl, hP, hl, nl, by rw [List.length_map]; exact h1, by rw [List.length_map]; omega, fun v H1 hv C1 => ⟨by show 1 ≤ sizeLine; decide, fun t ht => ?_⟩⟩
      obtain ⟨k, hkm, rfl⟩ := List.mem_map.mp hv
      exact q (.ref t) (.val k) _ ⟨t, rfl, upd_same⟩ (hk k hkm) rfl (C1.new ht)
    · refine ⟨_, rfl, p, _, rfl, hP, by decide, by decide, fun r H1 r0 r1 C1 => ⟨rfl, _, rfl, ite_eqI (fun _ => ?_) (fun _ => ?_)⟩⟩
      · refine ⟨_, rfl, _, rfl, p, l, pal.map kV, rfl, C1.1, C1.at nl hl, nl, by rw [List.length_map]; exact h1, by rw [List.length_map]; omega, fun v H2 hv C2 => ⟨by show 1 ≤ sizeLine; decide, fun t ht => ?_⟩⟩
        obtain ⟨k, hkm, rfl⟩ := List.mem_map.mp hv
        exact q (.ref t) (.val k) _ ⟨t, rfl, upd_same⟩ (hk k hkm) rfl ((C1.trans C2).new ht)
      · refine ⟨_, rfl, _, rfl, p, wd, rfl, C1.1, by omega, Nat.lt_of_le_of_lt (by omega : _ ≤ 1000) (by decide), fun r' H2 r0' r1' C2 => ?_⟩
        exact q (.int r') (.idx r') H2 rfl r0' (decide_eq_true r1') (C1.trans C2)
end
section
variable {P : Program} {w : World} {K : PySem.W.Frag} {mg : Str → Option Value} {base : Heap} {a : Nat → Addr} {d : Nat → FuncData}
/-- what a maker of steps gives -/
def Made (ts : List (Str × Int)) (ss : List SvE) (sz : Str → Option SzD) (n : Str) (r : Addr) (H : Hp) : Prop :=
  ∃ (x y : Addr) (st : StD) (t : SzD), H r = some (.lst [.ref x, .ref y]) ∧ StAt H x st ∧ ShAt H (y, n, t) ∧ NewSt ts ss sz n st t
theorem Made.chg {ts : List (Str × Int)} {ss : List SvE} {sz : Str → Option SzD} {n : Str} {r p : Addr} {H H' : Hp} (h : Made ts ss sz n r H) (hP : PoolAt H p) (nr : r ≠ p) (c : Chg p H H') : Made ts ss sz n r H' := by
  obtain ⟨x, y, st, t, h1, h2, h3, h4⟩ := h
  exact ⟨x, y, st, t, c.at nr h1, h2.keeps (chg_tup hP c), chg_tup hP c _ _ h3, h4⟩
def spLCall : Sp := fun vs H Q _ => ∃ (p t v l pl lm ln : Addr) (nm : Str) (ts : List (Str × Int)) (ks : List KeyE) (ss : List SvE) (m n : Nat) (shs : List ShE) (sz : Str → Option SzD) (pal : List Key), vs = [.ref p, .ref t, .ref v, .ref l, .str nm, .ref pl, .ref lm] ∧ PoolAt H p ∧ DctAt H t (tabK ts) ∧ DctAt H v (svK ss) ∧ Tabs ts m 4 ∧ Svcs H ts ks ss n ∧ 1 ≤ n ∧ n ≤ 8 ∧
  ShsOk H l shs sz ∧ l ≠ p ∧ H pl = some (.lst (pal.map kV)) ∧ pl ≠ p ∧ 1 ≤ pal.length ∧ pal.length ≤ 100 ∧ (∀ k ∈ pal, KVal k) ∧ H lm = some (.tup [.int 16, .int 4, .ref ln]) ∧ H ln = some (.lst ((ss.map (·.name)).map V.str)) ∧ ln ≠ p ∧ Wd nm ∧ sz nm = none ∧
  ∀ u H', (u = .non ∨ ∃ r, u = .ref r ∧ Made ts ss sz nm r H' ∧ H r = none) → Chg p H H' → Q u H'
theorem ok_lcall (T : Txt K mg a d) : FnOk P w K mg base CX0 5 (a 63) (d 63) ["_law_pool_here", "_law_tables_here", "_law_services_here", "_law_shapes", "_law_name", "_law_palette", "_law_limits"] spLCall := by
  have G61 : FnOk P w K mg base CX0 3 (a 61) (d 61) ["_law_pool_here", "_law_row"] spPick := ok_late T
  have G60 : FnOk P w K mg base CX0 3 (a 60) (d 60) ["_law_pool_here", "_law_row"] spPick := ok_pick T
  have G62 : FnOk P w K mg base CX0 4 (a 62) (d 62) ["_law_pool_here", "_law_width", "_law_palette"] spLItem := ok_litem T
  refine T.F63.ok sc__law_call_step (fun vs H Q E h => ?_) (fun cdv A outer s H vs Q E hr h => ?_)
  · obtain ⟨p, t, v, l, pl, lm, ln, nm, ts, ks, ss, m, n, shs, sz, pal, rfl, _⟩ := h
    rfl
  · obtain ⟨p, t, v, l, pl, lm, ln, nm, ts, ks, ss, m, n, shs, sz, pal, rfl, hP, ht, hv, hT, hS, n1, n8, hsh, nl, hpl, npl, p1, p100, pk, hlm, hln, nln, hwn, hfr, q⟩ := h
    have lss : ss.length = n := by rw [← hS.nm.len, List.length_map]
    have lsh : (shRefs shs).length = shs.length := List.length_map ..
    have l1 := hsh.l1
    have l12 := hsh.l12
    refine ⟨_, (pss_cons (ps_set (i := 7) sc__law_call_step.nd rfl (.inr rfl) (pe_call G61 (hr.mono (by decide)) (by rfl) T.g61 T.F61.kp T.b61 .nil pass0 (pa_cons (pv 0) (pa_cons (pv 3) pa_nil))))
  (pss_cons (ps_set (i := 8) sc__law_call_step.nd rfl (.inl rfl) (pe_call G60 (hr.mono (by decide)) (by rfl) T.g60 T.F60.kp T.b60 .nil pass0 (pa_cons (pv 0) (pa_cons (pe_ix ix_tup (pv 6) pe_int (fun _ _ => rfl)) pa_nil))))
  (pss_cons (ps_asg (pe_dget (hu_of hr) (pv 2) (pv 8) (fun _ _ => rfl)) (pg_tup rfl (pgs_cons (pg_name (i := 9) sc__law_call_step.nd rfl (.inl rfl)) (pgs_cons (pg_name (i := 10) sc__law_call_step.nd rfl (.inl rfl)) (pgs_cons (pg_name (i := 11) sc__law_call_step.nd rfl (.inl rfl)) pgs_nil)))))
  (pss_cons (ps_set (i := 12) sc__law_call_step.nd rfl (.inl rfl) (pe_op op_add (pe_ix ix_tup (pv 7) pe_int (fun _ _ => rfl)) (pe_dget (hu_of hr) (pv 1) (pv 9) (fun _ _ => rfl))))
  (pss_cons (ps_if (PW.pt (pw_or (pt_cmpR op_gt (pv 12) pe_int (nomark _)) (pw_or1 (pt_cmpR op_gt (pe_op op_add (pe_ix ix_tup (pv 7) pe_int (fun _ _ => rfl)) pe_int) (pe_ix ix_tup (pv 6) pe_int (fun _ _ => rfl)) (nomark _)))))
    (pss_one (ps_ret pe_non))
    pss_nil)
  (pss_cons (ps_set (i := 13) sc__law_call_step.nd rfl (.inl rfl) (pe_callTy (T := "tuple")  call_tuple_of (by rfl) T.z_tuple (by decide +kernel) (pa_cons (pe_lc (own := [("_law_at", 14)]) rfl sc__law_call_step.nd (pi_tup (pv 10)) (blkOk_by (N := ["_law_pool_here", "_law_tables_here", "_law_services_here", "_law_shapes", "_law_name", "_law_palette", "_law_limits", "_law_origin", "_law_service", "_law_table", "_law_given", "_law_cap", "_law_width", "_law_items", "_law_at"]) (sc := defScope s__law_call_step) (by decide +kernel)) (fun _ _ _ _ _ => pg_name (i := 14) sc__law_call_step.nd rfl (.inl rfl)) (fun _ _ _ _ _ => pts_nil) (fun _ _ _ _ _ => (pe_call G62 (hr.mono (by decide)) (by rfl) T.g62 T.F62.kp T.b62 .nil pass0 (pa_cons (pv 0) (pa_cons (pe_ix (r := rIxT K) ix_tup (pv 7) pe_int (fun _ _ => rfl)) (pa_cons (pv 5) pa_nil)))))) pa_nil)))
  (pss_one (ps_ret (pe_lst (pa_cons (pe_tup (pa_cons pe_str (pa_cons (pv 4) (pa_cons (pe_ix ix_tup (pv 7) pe_int (fun _ _ => rfl)) (pa_cons (pv 8) (pa_cons (pv 13) pa_nil)))))) (pa_cons (pe_tup (pa_cons (pv 4) (pa_cons (pv 12) (pa_cons (pe_ix ix_tup (pv 7) pe_int (fun _ _ => rfl)) (pa_cons (pe_op op_add (pe_ix ix_tup (pv 7) pe_int (fun _ _ => rfl)) pe_int) pa_nil))))) pa_nil))))))))))), ?_⟩
    refine ⟨_, rfl, _, rfl, p, l, shRefs shs, rfl, hP, hsh.ls, nl, by omega, by omega, fun vo H1 hvo C1 => ?_⟩
    obtain ⟨e, he, rfl⟩ := sh_mem hvo
    have lm1 := chg_tup hP C1 _ _ hlm
    refine ⟨_, rfl, _, rfl, _, _, _, _, rfl, rfl, .of lm1, atI_nat (j := 2) rfl, p, ln, _, rfl, C1.1, C1.at nln hln, nln, by rw [List.length_map, List.length_map]; omega, by rw [List.length_map, List.length_map]; omega, fun vn H2 hvn C2 => ?_⟩
    obtain ⟨s', hs', rfl⟩ := List.mem_map.mp hvn
    obtain ⟨b, hb, rfl⟩ := List.mem_map.mp hs'
    have C12 := C1.trans C2
    have hv2 := hv.chg hP C12
    have ht2 := ht.chg hP C12
    have hS2 := hS.mono (chg_tup hP C12)
    obtain ⟨told, ⟨wd, hw, hcols, hcl⟩, hcap⟩ := hS2.ok b hb
    have he2 : ShAt H2 e := chg_tup hP C12 _ _ (hsh.at_ e he)
    have lm2 := chg_tup hP C12 _ _ hlm
    have hwd := hT.wd _ hw
    have hee := hsh.kn e he
    have hin := hsh.inn _ _ hee
    refine ⟨_, rfl, _, rfl, v, _, rfl, hv2.at_ (sv_nd hS2) (sv_val hS2 hb), b.at_, _, rfl, .of told.tup, rfl, _, _, rfl, _, _, rfl, _, _, rfl, rfl, ?_⟩
    refine ⟨_, rfl, _, _, _, _, rfl, rfl, .of he2, atI_nat (j := 1) rfl, _, rfl, _, rfl, t, _, rfl, ht2.at_ (tab_nd hT) (tab_val hT hw), _, _, rfl, rfl, ?_⟩
    refine ⟨_, rfl, _, _, rfl, rfl, _, rfl, ite_d (fun _ => ?_) (fun g1 => ?_)⟩
    · exact q .non H2 (.inl rfl) C12
    refine ⟨_, rfl, _, _, _, _, rfl, rfl, .of he2, atI_nat (j := 3) rfl, _, _, rfl, rfl, _, rfl, _, _, _, _, rfl, rfl, .of lm2, atI_nat (j := 1) rfl, _, _, rfl, rfl, _, rfl, ite_d (fun _ => ?_) (fun g2 => ?_)⟩
    · exact q .non H2 (.inl rfl) C12
    refine ⟨_, rfl, b.ga, rfl, ⟨_, .of told.cols⟩, fun D hD => ?_⟩
    have nD : D ≠ p := Chg.ne C12.1 hD
    have hD0 : H D = none := free_of C12 hP hD
    refine lc_tup (K := K) (a := b.ga) (xs := b.cols.map V.int) (fun i H' => ∃ (us : List V) (its : List ItD), H' D = some (.lst us) ∧ ItsAt H' us its ∧ its.length = i ∧ (∀ it ∈ its, ItOk it ∧ itIn e.2.2.1 it = true) ∧ Chg p H2 H') ⟨[], [], upd_same, .nil, rfl, (fun it h => by cases h), (Chg.refl C12.1).new hD⟩ (fun i H' _ hp => ?_) (fun i y H' hy hp => ?_) (fun H' hp => ?_)
    · obtain ⟨us, its, _, _, _, _, C⟩ := hp
      exact .of (chg_tup C12.1 C _ _ told.cols)
    · obtain ⟨us, its, h1, h2, h3, h4, C⟩ := hp
      have li : i < b.cols.length := by
        have := (List.getElem?_eq_some_iff.mp hy).1
        rw [List.length_map] at this
        exact this
      have CC := C12.trans C
      refine ⟨rfl, _, rfl, _, rfl, _, _, _, _, rfl, rfl, .of (chg_tup hP CC _ _ (hsh.at_ e he)), atI_nat (j := 1) rfl, _, rfl, p, pl, e.2.2.1, pal, rfl, C.1, CC.at npl hpl, npl, p1, p100, pk, hin.1, hin.2.2.2.1, fun vi it H3 hi hok hit C3 => ?_⟩
      have hD3 := C3.at nD h1
      refine ⟨_, hD3, ?_, us ++ [vi], its ++ [it], upd_same, ?_, by rw [List.length_append, h3]; rfl, fun x hx => ?_, (C.trans C3).mut hD nD⟩
      · rw [Paired.length h2]
        exact small1000 (by omega)
      · have kk : ∀ c xs, H3 c = some (.tup xs) → upd H3 D (.lst (us ++ [vi])) c = some (.tup xs) := fun c xs e => by rw [upd_ne (ne_of e hD3 (by intro z; cases z))]; exact e
        exact paired_snoc (ItsAt.keeps h2 fun c xs e => kk c xs (chg_tup C.1 C3 _ _ e)) (ItAt.keeps hi kk)
      · rcases List.mem_append.mp hx with h | h
        · exact h4 x h
        · rw [List.mem_singleton.mp h]
          exact ⟨hok, hit⟩
    · obtain ⟨us, its, h1, h2, h3, h4, C⟩ := hp
      rw [List.length_map] at h3
      refine ⟨D, _, rfl, .inl ⟨.of h1, fun g hg => ?_⟩⟩
      have C3 := (C12.trans C).new (o := .tup us) hg
      have sg := same_upd (o := .tup us) hg
      have hg3 : upd H' g (.tup us) g = some (.tup us) := upd_same
      have hi3 : ItsAt (upd H' g (.tup us)) us its := ItsAt.keeps h2 fun _ _ e => sg _ _ e
      generalize upd H' g (.tup us) = H3 at C3 hg3 hi3 ⊢
      have he3 : H3 e.1 = some (.tup [.str e.2.1, .int e.2.2.1, .int e.2.2.2.1, .int e.2.2.2.2]) := chg_tup hP C3 _ _ (hsh.at_ e he)
      refine ⟨_, rfl, _, rfl, _, _, _, _, rfl, rfl, .of he3, atI_nat (j := 0) rfl, _, rfl, _, rfl, by show 5 ≤ sizeLine; decide, fun x hx => ?_⟩
      have sx := same_upd (o := .tup [.str "call", .str nm, .str e.2.1, .str b.name, .ref g]) hx
      refine ⟨_, rfl, _, rfl, _, rfl, _, _, _, _, rfl, rfl, .of (sx _ _ he3), atI_nat (j := 2) rfl, _, rfl, _, _, _, _, rfl, rfl, .of (sx _ _ he3), atI_nat (j := 3) rfl, _, _, rfl, rfl, by show 4 ≤ sizeLine; decide, fun y hy => ⟨by show 2 ≤ sizeLine; decide, fun r hr_ => ?_⟩⟩
      have sy := same_upd (o := .tup [.str nm, .int (e.2.2.1 + wd), .int e.2.2.2.1, .int (e.2.2.2.2 + 1)]) hy
      have sr := same_upd (o := .lst [.ref x, .ref y]) hr_
      have C5 := ((C3.new (o := .tup [.str "call", .str nm, .str e.2.1, .str b.name, .ref g]) hx).new (o := .tup [.str nm, .int (e.2.2.1 + wd), .int e.2.2.2.1, .int (e.2.2.2.2 + 1)]) hy).new (o := .lst [.ref x, .ref y]) hr_
      have sxr := sx.trans (sy.trans sr)
      have hsv : svAt ss b.name = some b := by
        obtain ⟨c, hc⟩ := svAt_some' (ss := ss) (n := b.name) (List.mem_map.mpr ⟨b, hb, rfl⟩)
        have hcm := svAt_mem hc
        rw [hc, name_uniq hS.nm.nd hcm.1 hb hcm.2]
      have ek : kOf ss (.call nm e.2.1 b.name its) = b.cols.length := by show ((svAt ss b.name).map fun b => b.cols.length).getD 0 = _; rw [hsv]; rfl
      have ew : wOf ts ss (.call nm e.2.1 b.name its) = wd := by
        show ((svAt ss b.name).map fun b => widthAt ts b.tab).getD 0 = _
        rw [hsv]
        exact widthAt_mem hT.nm.nd hw
      have eo : szOf sz e.2.1 = e.2.2 := by unfold szOf; rw [hee]; rfl
      have esize : sizeOf sz (wOf ts ss (.call nm e.2.1 b.name its)) (.call nm e.2.1 b.name its) = (e.2.2.1 + wd, e.2.2.2.1, e.2.2.2.2 + 1) := by
        rw [ew]
        show ((szOf sz e.2.1).1 + wd, (szOf sz e.2.1).2.1, (szOf sz e.2.1).2.2 + 1) = _
        rw [eo]
      refine q (.ref r) _ (.inr ⟨r, rfl, ⟨x, y, .call nm e.2.1 b.name its, _, upd_same, ?_, ?_, ⟨rfl, ⟨?_, fun it h => (h4 it h).1, ?_⟩, ?_, esize⟩⟩, ?_⟩) C5
      · exact ⟨g, us, (sy.trans sr) _ _ upd_same, sxr _ _ hg3, ItsAt.keeps hi3 fun _ _ e => sxr _ _ e⟩
      · exact sr _ _ upd_same
      · intro x hx
        have hx : x ∈ [nm, e.2.1, b.name] := hx
        rcases List.mem_cons.mp hx with rfl | hx
        · exact hwn
        rcases List.mem_cons.mp hx with rfl | hx
        · exact hsh.wd e he
        rw [List.mem_singleton.mp hx]
        exact hS.nm.wd _ (List.mem_map.mpr ⟨b, hb, rfl⟩)
      · show its.length ≤ 100
        omega
      · refine mk_wrong hfr (fun x hx => ?_) (fun n o s its e => ?_) ?_ rfl ?_ ?_ ?_
        · have hx : x ∈ [e.2.1] := hx
          rw [List.mem_singleton.mp hx, hee]
          rfl
        · cases e
          exact List.mem_map.mpr ⟨b, hb, rfl⟩
        · unfold itemsB
          rw [ek, Bool.and_eq_true]
          refine ⟨decide_eq_true h3, List.all_eq_true.mpr fun it h => ?_⟩
          show itIn ((sz e.2.1).getD (0, 0, 0)).1 it = true
          rw [hee]
          exact (h4 it h).2
        · rw [esize]
          show e.2.2.1 + wd ≤ 12
          omega
        · rw [esize]
          exact hin.2.2.2.2.1
        · rw [esize]
          show e.2.2.2.2 + 1 ≤ 4
          omega
      · exact free_of ((C3.new (o := .tup [.str "call", .str nm, .str e.2.1, .str b.name, .ref g]) hx).new (o := .tup [.str nm, .int (e.2.2.1 + wd), .int e.2.2.2.1, .int (e.2.2.2.2 + 1)]) hy) hP hr_
end
theorem Made.oth {ts : List (Str × Int)} {ss : List SvE} {sz : Str → Option SzD} {n : Str} {r D : Addr} {H : Hp} {o : List V} {o' : HO} (h : Made ts ss sz n r H) (hD : H D = some (.lst o)) (nr : r ≠ D) : Made ts ss sz n r (upd H D o') := by
  obtain ⟨x, y, st, t, h1, h2, h3, h4⟩ := h
  have kk : ∀ c xs, H c = some (.tup xs) → upd H D o' c = some (.tup xs) := fun c xs e => by rw [upd_ne (ne_of e hD (by intro z; cases z))]; exact e
  exact ⟨x, y, st, t, by rw [upd_ne nr]; exact h1, h2.keeps kk, kk _ _ h3, h4⟩
theorem Made.same {ts : List (Str × Int)} {ss : List SvE} {sz : Str → Option SzD} {n : Str} {r : Addr} {H H' : Hp} (h : Made ts ss sz n r H) (s : Same H H') : Made ts ss sz n r H' := by
  obtain ⟨x, y, st, t, h1, h2, h3, h4⟩ := h
  exact ⟨x, y, st, t, s _ _ h1, h2.keeps fun _ _ e => s _ _ e, s _ _ h3, h4⟩
theorem Made.dat {ts : List (Str × Int)} {ss : List SvE} {sz : Str → Option SzD} {n : Str} {r : Addr} {H : Hp} (h : Made ts ss sz n r H) : ∃ d : PyData, (∀ K : PySem.W.Frag, Dp K H (.ref r) d) ∧ d.canLay0 = true ∧ d.depth ≤ 4 := by
  obtain ⟨x, y, st, t, h1, h2, h3, h4⟩ := h
  have hn : Wd n := by
    have := h4.nm
    subst this
    exact h4.ok.ns _ (by cases st <;> simp [StD.ns, StD.name])
  obtain ⟨l1, l2⟩ := lay_st h4.ok
  refine ⟨.list [stD st, .tuple [.str n, .int t.1, .int t.2.1, .int t.2.2]], fun K => .lst (.of h1) (.cons (dp_st h2) (.cons (.tup (.of h3) (.cons (.str _) (.cons (.int _) (.cons (.int _) (.cons (.int _) .nil))))) .nil)), ?_, ?_⟩
  · simp [PyData.canLay0, PyData.canLayAll0, l1, wd_strOk hn]
  · simp [PyData.depth, PyData.depthAll]
    omega
theorem mades_dat {ts : List (Str × Int)} {ss : List SvE} {sz : Str → Option SzD} {n : Str} {H : Hp} : ∀ {fs : List Addr}, (∀ r ∈ fs, Made ts ss sz n r H) → ∃ ds : List PyData, (∀ K : PySem.W.Frag, DpAll K H (fs.map V.ref) ds) ∧ PyData.canLayAll0 ds = true ∧ PyData.depthAll ds ≤ 4 ∧ ds.isEmpty = fs.isEmpty
  | [], _ => ⟨[], fun _ => .nil, rfl, Nat.zero_le _, rfl⟩
  | r :: fs, h => by
    obtain ⟨d, h1, h2, h3⟩ := (h r (by simp)).dat
    obtain ⟨ds, g1, g2, g3, _⟩ := mades_dat (fs := fs) fun x hx => h x (by simp [hx])
    refine ⟨d :: ds, fun K => .cons (h1 K) (g1 K), ?_, ?_, rfl⟩
    · show (d.canLay0 && PyData.canLayAll0 ds) = true
      rw [h2, g2]
      rfl
    · show max d.depth (PyData.depthAll ds) ≤ 4
      omega
section
variable {P : Program} {w : World} {K : PySem.W.Frag} {mg : Str → Option Value} {base : Heap} {a : Nat → Addr} {d : Nat → FuncData}
def spLJoin : Sp := fun vs H Q _ => ∃ (p l lm ln : Addr) (nm : Str) (bb : Bool) (ts : List (Str × Int)) (ss : List SvE) (shs : List ShE) (sz : Str → Option SzD), vs = [.ref p, .ref l, .str nm, .str (if bb then "both" else "pair"), .ref lm] ∧ PoolAt H p ∧
  ShsOk H l shs sz ∧ l ≠ p ∧ H lm = some (.tup [.int 16, .int 4, .ref ln]) ∧ Wd nm ∧ sz nm = none ∧
  ∀ u H', (u = .non ∨ ∃ r, u = .ref r ∧ Made ts ss sz nm r H' ∧ H r = none) → Chg p H H' → Q u H'
theorem ok_ljoin (T : Txt K mg a d) : FnOk P w K mg base CX0 5 (a 64) (d 64) ["_law_pool_here", "_law_shapes", "_law_name", "_law_kind", "_law_limits"] spLJoin := by
  have G61 : FnOk P w K mg base CX0 3 (a 61) (d 61) ["_law_pool_here", "_law_row"] spPick := ok_late T
  have G60 : FnOk P w K mg base CX0 3 (a 60) (d 60) ["_law_pool_here", "_law_row"] spPick := ok_pick T
  refine T.F64.ok sc__law_join_step (fun vs H Q E h => ?_) (fun cdv A outer s H vs Q E hr h => ?_)
  · obtain ⟨p, l, lm, ln, nm, bb, ts, ss, shs, sz, rfl, _⟩ := h
    rfl
  · obtain ⟨p, l, lm, ln, nm, bb, ts, ss, shs, sz, rfl, hP, hsh, nl, hlm, hwn, hfr, q⟩ := h
    have lsh : (shRefs shs).length = shs.length := List.length_map ..
    have l1 := hsh.l1
    have l12 := hsh.l12
    refine ⟨_, (pss_cons (ps_set (i := 5) sc__law_join_step.nd rfl (.inl rfl) (pe_call G61 (hr.mono (by decide)) (by rfl) T.g61 T.F61.kp T.b61 .nil pass0 (pa_cons (pv 0) (pa_cons (pv 1) pa_nil))))
  (pss_cons (ps_set (i := 6) sc__law_join_step.nd rfl (.inl rfl) (pe_lst pa_nil))
  (pss_cons (ps_for PassesOwn.never rfl (pi_list (pv 1)) (pg_name (i := 7) sc__law_join_step.nd rfl (.inl rfl))
    (pss_cons (ps_set (i := 8) sc__law_join_step.nd rfl (.inl rfl) (pe_tup (pa_cons (pv 2) (pa_cons (pe_ix ix_tup (pv 5) pe_int (fun _ _ => rfl)) (pa_cons (pe_op op_add (pe_ix ix_tup (pv 5) pe_int (fun _ _ => rfl)) (pe_ix ix_tup (pv 7) pe_int (fun _ _ => rfl))) (pa_cons (pe_callB (id := "max")  (call_max2 rfl) (by rfl) T.z_max (by decide +kernel) (pa_cons (pe_ix ix_tup (pv 5) pe_int (fun _ _ => rfl)) (pa_cons (pe_ix ix_tup (pv 7) pe_int (fun _ _ => rfl)) pa_nil))) pa_nil))))))
      (Evl.pss_cut (ps_if (pt_cmpR op_eq (pv 3) pe_str (nomark _))
        (pss_one (ps_set (i := 8) sc__law_join_step.nd rfl (.inl rfl) (pe_tup (pa_cons (pv 2) (pa_cons (pe_op op_add (pe_ix ix_tup (pv 5) pe_int (fun _ _ => rfl)) (pe_ix ix_tup (pv 7) pe_int (fun _ _ => rfl))) (pa_cons (pe_op op_mul (pe_ix ix_tup (pv 5) pe_int (fun _ _ => rfl)) (pe_ix ix_tup (pv 7) pe_int (fun _ _ => rfl))) (pa_cons (pe_op op_add (pe_ix ix_tup (pv 5) pe_int (fun _ _ => rfl)) (pe_ix ix_tup (pv 7) pe_int (fun _ _ => rfl))) pa_nil)))))))
        (pss_one (ps_if (pt_cmpR (op_neD (hu_of64 hr)) (pe_ix ix_tup (pv 5) pe_int (fun _ _ => rfl)) (pe_ix ix_tup (pv 7) pe_int (fun _ _ => rfl)) (nomark _))
            (pss_one ps_continue)
            pss_nil)))
      (pss_one (ps_if (PW.pt (pw_and (pt_cmpR op_le (pe_ix ix_tup (pv 8) pe_int (fun _ _ => rfl)) pe_int (nomark _)) (pw_and (pt_cmpR op_le (pe_ix ix_tup (pv 8) pe_int (fun _ _ => rfl)) (pe_ix ix_tup (pv 4) pe_int (fun _ _ => rfl)) (nomark _)) (pw_and1 (pt_cmpR op_le (pe_ix ix_tup (pv 8) pe_int (fun _ _ => rfl)) (pe_ix ix_tup (pv 4) pe_int (fun _ _ => rfl)) (nomark _))))))
        (pss_one (ps_expr (pe_bm PySem.F.plainAttrs_list PySem.F.slot_list_append PySem.F.type_list_append mt_append (pv 6) (pa_cons (pe_lst (pa_cons (pe_tup (pa_cons (pv 3) (pa_cons (pv 2) (pa_cons (pe_ix ix_tup (pv 5) pe_int (fun _ _ => rfl)) (pa_cons (pe_ix ix_tup (pv 7) pe_int (fun _ _ => rfl)) pa_nil))))) (pa_cons (pv 8) pa_nil))) pa_nil))))
        pss_nil)))))
  (pss_cons (ps_if (pt_cmpR (op_eqD (hu_of64 hr)) (pv 6) (pe_lst pa_nil) (nomark _))
    (pss_one (ps_ret pe_non))
    pss_nil)
  (pss_one (ps_ret (pe_call G60 (hr.mono (by decide)) (by rfl) T.g60 T.F60.kp T.b60 .nil pass0 (pa_cons (pv 0) (pa_cons (pv 6) pa_nil))))))))), ?_⟩
    refine ⟨_, rfl, _, rfl, p, l, shRefs shs, rfl, hP, hsh.ls, nl, by omega, by omega, fun vo H1 hvo C1 => ?_⟩
    obtain ⟨e, he, rfl⟩ := sh_mem hvo
    have hee := hsh.kn e he
    have hin := hsh.inn _ _ hee
    refine ⟨Nat.zero_le _, fun F hF => ?_⟩
    have nF : F ≠ p := Chg.ne C1.1 hF
    have hF0 : H F = none := free_of C1 hP hF
    have nlF : l ≠ F := ne_of_none hsh.ls hF0
    have CF := C1.new (o := .lst []) hF
    refine ⟨_, rfl, l, rfl, ⟨_, .of (CF.at nl hsh.ls)⟩, for_list (K := K) (a := l) (xs := shRefs shs) (fun i σ H' => ∃ (fs : List Addr) (y7 y8 : Option V), σ = [some (.ref p), some (.ref l), some (.str nm), some (.str (if bb then "both" else "pair")), some (.ref lm), some (.ref e.1), some (.ref F), y7, y8] ∧ H' F = some (.lst (fs.map V.ref)) ∧ fs.length ≤ i ∧ (∀ r ∈ fs, Made ts ss sz nm r H' ∧ r ≠ F ∧ H r = none) ∧ Chg p H H')
      ⟨[], none, none, rfl, upd_same, Nat.le_refl _, (fun r h => by cases h), CF⟩ (fun i σ H' _ hp => ?_) (fun i y σ H' hy hp => ?_) (fun σ H' hp => ?_)⟩
    · obtain ⟨fs, y7, y8, rfl, _, _, _, C⟩ := hp
      exact .of (C.at nl hsh.ls)
    · obtain ⟨fs, y7, y8, rfl, hF', fl, hfs, C⟩ := hp
      have li : i < shs.length := by
        have := (List.getElem?_eq_some_iff.mp hy).1
        omega
      obtain ⟨o, ho, rfl⟩ := map_at hy
      have hom := List.mem_of_getElem? ho
      have hoe := hsh.kn o hom
      have hio := hsh.inn _ _ hoe
      have he1 : ShAt H' e := chg_tup hP C _ _ (hsh.at_ e he)
      have ho1 : ShAt H' o := chg_tup hP C _ _ (hsh.at_ o hom)
      have lm1 := chg_tup hP C _ _ hlm
      refine ⟨_, rfl, _, rfl, _, _, _, _, rfl, rfl, .of he1, atI_nat (j := 1) rfl, _, rfl, _, _, _, _, rfl, rfl, .of he1, atI_nat (j := 2) rfl, _, rfl, _, _, _, _, rfl, rfl, .of ho1, atI_nat (j := 2) rfl, _, _, rfl, rfl, _, rfl, _, _, _, _, rfl, rfl, .of he1, atI_nat (j := 3) rfl, _, rfl, _, _, _, _, rfl, rfl, .of ho1, atI_nat (j := 3) rfl, _, _, rfl, by show 4 ≤ sizeLine; decide, fun s1 hs1 => ?_⟩
      have ss1 := same_upd (o := .tup [.str nm, .int e.2.2.1, .int (e.2.2.2.1 + o.2.2.2.1), .int (mx e.2.2.2.2 o.2.2.2.2)]) hs1
      have C2 := C.new (o := .tup [.str nm, .int e.2.2.1, .int (e.2.2.2.1 + o.2.2.2.1), .int (mx e.2.2.2.2 o.2.2.2.2)]) hs1
      have fs2 : ∀ r ∈ fs, Made ts ss sz nm r (upd H' s1 (.tup [.str nm, .int e.2.2.1, .int (e.2.2.2.1 + o.2.2.2.1), .int (mx e.2.2.2.2 o.2.2.2.2)])) ∧ r ≠ F ∧ H r = none := fun r hr => ⟨(hfs r hr).1.same ss1, (hfs r hr).2⟩
      have stx : szOf sz e.2.1 = e.2.2 := by unfold szOf; rw [hee]; rfl
      have sty : szOf sz o.2.1 = o.2.2 := by unfold szOf; rw [hoe]; rfl
      have hwo : ∀ st : StD, (∀ n o s its, st ≠ .call n o s its) → wOf ts ss st = 0 := fun st h => by
        cases st with
        | call n o s its => exact absurd rfl (h n o s its)
        | _ => rfl
      refine ⟨fun σ' G => ∃ (z : Addr) (t : SzD), σ' = [some (.ref p), some (.ref l), some (.str nm), some (.str (if bb then "both" else "pair")), some (.ref lm), some (.ref e.1), some (.ref F), some (.ref o.1), some (.ref z)] ∧ ShAt G (z, nm, t) ∧ sizeOf sz 0 (.join bb nm e.2.1 o.2.1) = t ∧ joinB sz (.join bb nm e.2.1 o.2.1) = true ∧ G F = some (.lst (fs.map V.ref)) ∧ (∀ r ∈ fs, Made ts ss sz nm r G ∧ r ≠ F ∧ H r = none) ∧ Chg p H G, ?_, ?_⟩
      · refine ⟨_, rfl, rfl, _, rfl, ?_⟩
        cases bb with
        | false =>
          refine ite_d (fun _ => ?_) (fun h => absurd rfl h)
          have he2 := ss1 _ _ he1
          have ho2 := ss1 _ _ ho1
          refine ⟨_, rfl, _, rfl, _, _, _, _, rfl, rfl, .of he2, atI_nat (j := 1) rfl, _, rfl, _, _, _, _, rfl, rfl, .of ho2, atI_nat (j := 1) rfl, _, _, rfl, rfl, _, rfl, _, _, _, _, rfl, rfl, .of he2, atI_nat (j := 2) rfl, _, rfl, _, _, _, _, rfl, rfl, .of ho2, atI_nat (j := 2) rfl, _, _, rfl, rfl, .inl (by omega), _, rfl, _, _, _, _, rfl, rfl, .of he2, atI_nat (j := 3) rfl, _, rfl, _, _, _, _, rfl, rfl, .of ho2, atI_nat (j := 3) rfl, _, _, rfl, rfl, by show 4 ≤ sizeLine; decide, fun s2 hs2 => ?_⟩
          have sm := same_upd (o := .tup [.str nm, .int (e.2.2.1 + o.2.2.1), .int (e.2.2.2.1 * o.2.2.2.1), .int (e.2.2.2.2 + o.2.2.2.2)]) hs2
          refine ⟨s2, (e.2.2.1 + o.2.2.1, e.2.2.2.1 * o.2.2.2.1, e.2.2.2.2 + o.2.2.2.2), rfl, upd_same, ?_, rfl, sm _ _ (ss1 _ _ hF'), fun r hr => ⟨(fs2 r hr).1.same sm, (fs2 r hr).2⟩, C2.new hs2⟩
          show ((szOf sz e.2.1).1 + (szOf sz o.2.1).1, (szOf sz e.2.1).2.1 * (szOf sz o.2.1).2.1, (szOf sz e.2.1).2.2 + (szOf sz o.2.1).2.2) = _
          rw [stx, sty]
        | true =>
          refine ite_d (fun h => absurd (V.str.inj h) (by show ¬ (("both" : Str) = "pair"); decide +kernel)) (fun _ => ?_)
          refine ⟨_, rfl, _, _, _, _, rfl, rfl, .of (ss1 _ _ he1), atI_nat (j := 1) rfl, _, rfl, _, _, _, _, rfl, rfl, .of (ss1 _ _ ho1), atI_nat (j := 1) rfl, .int e.2.2.1, .int o.2.2.1, .int _, .int _, int_shaped _, int_shaped _, _, rfl, ?_⟩
          have ei : PyData.eqv (.int e.2.2.1) (.int o.2.2.1) = decide (e.2.2.1 = o.2.2.1) := by rw [Bool.eq_iff_iff]; simp [PyData.eqv]
          rw [ei]
          refine ite_nd (fun _ => ?_) (fun ew => ?_)
          · exact ⟨fs, _, _, rfl, ss1 _ _ hF', Nat.le_succ_of_le fl, fs2, C2⟩
          · refine ⟨s1, (e.2.2.1, e.2.2.2.1 + o.2.2.2.1, mx e.2.2.2.2 o.2.2.2.2), rfl, upd_same, ?_, ?_, ss1 _ _ hF', fs2, C2⟩
            · show ((szOf sz e.2.1).1, (szOf sz e.2.1).2.1 + (szOf sz o.2.1).2.1, mx (szOf sz e.2.1).2.2 (szOf sz o.2.1).2.2) = _
              rw [stx, sty]
            · show decide (((sz e.2.1).getD (0, 0, 0)).1 = ((sz o.2.1).getD (0, 0, 0)).1) = true
              rw [hee, hoe]
              exact decide_eq_true ew
      rintro σ' G ⟨z, t, rfl, hz, hsz, hj, hFG, hfG, CG⟩
      have lmG := chg_tup hP CG _ _ hlm
      have heG : ShAt G e := chg_tup hP CG _ _ (hsh.at_ e he)
      have hoG : ShAt G o := chg_tup hP CG _ _ (hsh.at_ o hom)
      have skip : ∃ (fs' : List Addr) (y7 y8 : Option V), [some (V.ref p), some (.ref l), some (.str nm), some (.str (if bb then "both" else "pair")), some (.ref lm), some (.ref e.1), some (.ref F), some (.ref o.1), some (.ref z)] = [some (.ref p), some (.ref l), some (.str nm), some (.str (if bb then "both" else "pair")), some (.ref lm), some (.ref e.1), some (.ref F), y7, y8] ∧ G F = some (.lst (fs'.map V.ref)) ∧ fs'.length ≤ i + 1 ∧ (∀ r ∈ fs', Made ts ss sz nm r G ∧ r ≠ F ∧ H r = none) ∧ Chg p H G := ⟨fs, _, _, rfl, hFG, Nat.le_succ_of_le fl, hfG, CG⟩
      refine ⟨_, rfl, _, _, _, _, rfl, rfl, .of hz, atI_nat (j := 1) rfl, _, _, rfl, rfl, _, rfl, ite_d (fun g1 => ?_) (fun _ => skip)⟩
      refine ⟨_, rfl, _, _, _, _, rfl, rfl, .of hz, atI_nat (j := 2) rfl, _, rfl, _, _, _, _, rfl, rfl, .of lmG, atI_nat (j := 0) rfl, _, _, rfl, rfl, _, rfl, ite_d (fun g2 => ?_) (fun _ => skip)⟩
      refine ⟨_, rfl, _, _, _, _, rfl, rfl, .of hz, atI_nat (j := 3) rfl, _, rfl, _, _, _, _, rfl, rfl, .of lmG, atI_nat (j := 1) rfl, _, _, rfl, rfl, _, rfl, ite_d (fun g3 => ?_) (fun _ => skip)⟩
      have hkey : (if bb then "both" else "pair" : Str) = (StD.join bb nm e.2.1 o.2.1).kind := rfl
      refine ⟨_, rfl, .inl ⟨rfl, _, .of hFG⟩, _, rfl, _, rfl, _, rfl, _, _, _, _, rfl, rfl, .of heG, atI_nat (j := 0) rfl, _, rfl, _, _, _, _, rfl, rfl, .of hoG, atI_nat (j := 0) rfl, by show 4 ≤ sizeLine; decide, fun x hx => ?_⟩
      have sx := same_upd (o := .tup [.str (if bb then "both" else "pair"), .str nm, .str e.2.1, .str o.2.1]) hx
      have hxt : upd G x (.tup [.str (if bb then "both" else "pair"), .str nm, .str e.2.1, .str o.2.1]) x = some (.tup [.str (if bb then "both" else "pair"), .str nm, .str e.2.1, .str o.2.1]) := upd_same
      have C3 := CG.new (o := .tup [.str (if bb then "both" else "pair"), .str nm, .str e.2.1, .str o.2.1]) hx
      generalize upd G x (.tup [.str (if bb then "both" else "pair"), .str nm, .str e.2.1, .str o.2.1]) = G2 at sx hxt C3 ⊢
      refine ⟨_, rfl, by show 2 ≤ sizeLine; decide, fun r hr => ?_⟩
      have sr := same_upd (o := .lst [.ref x, .ref z]) hr
      have C4 := C3.new (o := .lst [.ref x, .ref z]) hr
      have hrl : upd G2 r (.lst [.ref x, .ref z]) r = some (.lst [.ref x, .ref z]) := upd_same
      have nrp : H r = none := free_of C3 hP hr
      have nrF : r ≠ F := (ne_of_none (sx _ _ hFG) hr).symm
      generalize upd G2 r (.lst [.ref x, .ref z]) = G3 at sr hrl C4 ⊢
      have hF3 := sr _ _ (sx _ _ hFG)
      have mk : Made ts ss sz nm r G3 := by
        refine ⟨x, z, .join bb nm e.2.1 o.2.1, t, hrl, sr _ _ hxt, sr _ _ (sx _ _ hz), ⟨rfl, ⟨fun y hy => ?_, (fun it h => by cases h), Nat.zero_le _⟩, ?_, ?_⟩⟩
        · have hy : y ∈ [nm, e.2.1, o.2.1] := hy
          rcases List.mem_cons.mp hy with rfl | hy
          · exact hwn
          rcases List.mem_cons.mp hy with rfl | hy
          · exact hsh.wd e he
          rw [List.mem_singleton.mp hy]
          exact hsh.wd o hom
        · have ew : wOf ts ss (.join bb nm e.2.1 o.2.1) = 0 := rfl
          refine mk_wrong hfr (fun y hy => ?_) (fun n o s its e => by cases e) rfl hj ?_ ?_ ?_
          · have hy : y ∈ [e.2.1, o.2.1] := hy
            rcases List.mem_cons.mp hy with rfl | hy
            · rw [hee]; rfl
            · rw [List.mem_singleton.mp hy, hoe]; rfl
          · rw [ew, hsz]; exact g1
          · rw [ew, hsz]; exact g2
          · rw [ew, hsz]; exact g3
        · exact hsz
      refine ⟨F, _, _, rfl, rfl, hF3, by rw [List.length_map]; exact small1000 (by omega), fs ++ [r], _, _, rfl, ?_, by rw [List.length_append]; exact Nat.succ_le_succ fl, fun c hc => ?_, C4.mut hF0 nF⟩
      · rw [List.map_append]
        exact upd_same
      · rcases List.mem_append.mp hc with h | h
        · exact ⟨(((hfG c h).1.same sx).same sr).oth hF3 (hfG c h).2.1, (hfG c h).2⟩
        · rw [List.mem_singleton.mp h]
          exact ⟨mk.oth hF3 nrF, nrF, nrp⟩
    · obtain ⟨fs, y7, y8, rfl, hF', fl, hfs, C⟩ := hp
      refine ⟨_, rfl, Nat.zero_le _, fun e' he' => ?_⟩
      obtain ⟨ds, d1, d2, d3, d4⟩ := mades_dat (fun r hr => (hfs r hr).1.same (same_upd (o := .lst []) he'))
      refine ⟨.list ds, .list [], .lst (.of (same_upd he' _ _ hF')) (d1 K), .lst (.of upd_same) .nil, ?_, by decide, _, rfl, ?_⟩
      · unfold SeqAt.shaped
        rw [Bool.and_eq_true]
        refine ⟨d2, decide_eq_true ?_⟩
        show PyData.depthAll ds + 1 ≤ 64
        omega
      · rw [eqv_nil, d4]
        have Ce := C.new (o := .lst []) he'
        cases fs with
        | nil => exact q .non _ (.inl rfl) Ce
        | cons r0 fs0 =>
          refine ⟨_, rfl, _, rfl, p, F, _, rfl, Ce.1, same_upd he' _ _ hF', nF, by simp, by rw [List.length_map]; omega, fun v G hv CG => ?_⟩
          obtain ⟨r, hr, rfl⟩ := List.mem_map.mp hv
          exact q (.ref r) G (.inr ⟨r, rfl, ((hfs r hr).1.same (same_upd he')).chg Ce.1 (Chg.ne hP (hfs r hr).2.2) CG, (hfs r hr).2.2⟩) (Ce.trans CG)
end
section
variable {P : Program} {w : World} {K : PySem.W.Frag} {mg : Str → Option Value} {base : Heap} {a : Nat → Addr} {d : Nat → FuncData}
def spLCut : Sp := fun vs H Q _ => ∃ (p l pl : Addr) (nm : Str) (ts : List (Str × Int)) (ss : List SvE) (shs : List ShE) (sz : Str → Option SzD) (pal : List Key), vs = [.ref p, .ref l, .str nm, .ref pl] ∧ PoolAt H p ∧
  ShsOk H l shs sz ∧ l ≠ p ∧ H pl = some (.lst (pal.map kV)) ∧ pl ≠ p ∧ 1 ≤ pal.length ∧ pal.length ≤ 100 ∧ (∀ k ∈ pal, KVal k) ∧ Wd nm ∧ sz nm = none ∧
  ∀ r H', Made ts ss sz nm r H' → H r = none → Chg p H H' → Q (.ref r) H'
theorem ok_lcut (T : Txt K mg a d) : FnOk P w K mg base CX0 5 (a 65) (d 65) ["_law_pool_here", "_law_shapes", "_law_name", "_law_palette"] spLCut := by
  have G51 : FnOk P w K mg base CX0 2 (a 51) (d 51) ["_law_pool_here", "_law_many"] spDraw := ok_draw T
  have G61 : FnOk P w K mg base CX0 3 (a 61) (d 61) ["_law_pool_here", "_law_row"] spPick := ok_late T
  have G62 : FnOk P w K mg base CX0 4 (a 62) (d 62) ["_law_pool_here", "_law_width", "_law_palette"] spLItem := ok_litem T
  refine T.F65.ok sc__law_cut_step (fun vs H Q E h => ?_) (fun cdv A outer s H vs Q E hr h => ?_)
  · obtain ⟨p, l, pl, nm, ts, ss, shs, sz, pal, rfl, _⟩ := h
    rfl
  · obtain ⟨p, l, pl, nm, ts, ss, shs, sz, pal, rfl, hP, hsh, nl, hpl, npl, p1, p100, pk, hwn, hfr, q⟩ := h
    have lsh : (shRefs shs).length = shs.length := List.length_map ..
    have l1 := hsh.l1
    have l12 := hsh.l12
    refine ⟨_, (pss_cons (ps_set (i := 4) sc__law_cut_step.nd rfl (.inr rfl) (pe_call G61 (hr.mono (by decide)) (by rfl) T.g61 T.F61.kp T.b61 .nil pass0 (pa_cons (pv 0) (pa_cons (pv 1) pa_nil))))
  (Evl.pss_cut (ps_if (PW.pt (pw_and (pt_cmpR op_gt (pe_ix ix_tup (pv 4) pe_int (fun _ _ => rfl)) pe_int (nomark _)) (pw_and1 (pt_cmpR op_eq (pe_call G51 (hr.mono (by decide)) (by rfl) T.g51 T.F51.kp T.b51 .nil pass0 (pa_cons (pv 0) (pa_cons pe_int pa_nil))) pe_int (nomark _)))))
    (pss_cons (ps_set (i := 5) sc__law_cut_step.nd rfl (.inl rfl) (pe_call G51 (hr.mono (by decide)) (by rfl) T.g51 T.F51.kp T.b51 .nil pass0 (pa_cons (pv 0) (pa_cons (pe_ix ix_tup (pv 4) pe_int (fun _ _ => rfl)) pa_nil))))
      (pss_cons (ps_set (i := 6) sc__law_cut_step.nd rfl (.inl rfl) (pe_call G62 (hr.mono (by decide)) (by rfl) T.g62 T.F62.kp T.b62 .nil pass0 (pa_cons (pv 0) (pa_cons (pe_ix ix_tup (pv 4) pe_int (fun _ _ => rfl)) (pa_cons (pv 3) pa_nil)))))
      (pss_one (ps_ret (pe_lst (pa_cons (pe_tup (pa_cons pe_str (pa_cons (pv 2) (pa_cons (pe_ix ix_tup (pv 4) pe_int (fun _ _ => rfl)) (pa_cons (pv 5) (pa_cons (pv 6) pa_nil)))))) (pa_cons (pe_tup (pa_cons (pv 2) (pa_cons (pe_ix ix_tup (pv 4) pe_int (fun _ _ => rfl)) (pa_cons (pe_ix ix_tup (pv 4) pe_int (fun _ _ => rfl)) (pa_cons (pe_ix ix_tup (pv 4) pe_int (fun _ _ => rfl)) pa_nil))))) pa_nil)))))))
    pss_nil)
  (pss_cons (ps_set (i := 7) sc__law_cut_step.nd rfl (.inl rfl) (pe_callTy (T := "tuple")  call_tuple_of (by rfl) T.z_tuple (by decide +kernel) (pa_cons (pe_lc (own := [("_law_at", 8)]) rfl sc__law_cut_step.nd (pi_range1 (by rfl) T.z_range (pa_cons (pe_call G51 (hr.mono (by decide)) (by rfl) T.g51 T.F51.kp T.b51 .nil pass0 (pa_cons (pv 0) (pa_cons pe_int pa_nil))) pa_nil)) (blkOk_by (N := ["_law_pool_here", "_law_shapes", "_law_name", "_law_palette", "_law_origin", "_law_index", "_law_item_here", "_law_items", "_law_at"]) (sc := defScope s__law_cut_step) (by decide +kernel)) (fun _ _ _ _ _ => pg_name (i := 8) sc__law_cut_step.nd rfl (.inl rfl)) (fun _ _ _ _ _ => pts_nil) (fun _ _ _ _ _ => (pe_call G62 (hr.mono (by decide)) (by rfl) T.g62 T.F62.kp T.b62 .nil pass0 (pa_cons (pv 0) (pa_cons (pe_ix (r := rIxT K) ix_tup (pv 4) pe_int (fun _ _ => rfl)) (pa_cons (pv 3) pa_nil)))))) pa_nil)))
  (pss_one (ps_ret (pe_lst (pa_cons (pe_tup (pa_cons pe_str (pa_cons (pv 2) (pa_cons (pe_ix ix_tup (pv 4) pe_int (fun _ _ => rfl)) (pa_cons (pv 7) pa_nil))))) (pa_cons (pe_tup (pa_cons (pv 2) (pa_cons (pe_callB (id := "len")  call_len_seq (by rfl) T.z_len (by decide +kernel) (pa_cons (pv 7) pa_nil)) (pa_cons (pe_ix ix_tup (pv 4) pe_int (fun _ _ => rfl)) (pa_cons (pe_ix ix_tup (pv 4) pe_int (fun _ _ => rfl)) pa_nil))))) pa_nil)))))))), ?_⟩
    refine ⟨_, rfl, _, rfl, p, l, shRefs shs, rfl, hP, hsh.ls, nl, by omega, by omega, fun vo H1 hvo C1 => ?_⟩
    obtain ⟨e, he, rfl⟩ := sh_mem hvo
    have hee := hsh.kn e he
    have hin := hsh.inn _ _ hee
    have eo : szOf sz e.2.1 = e.2.2 := by unfold szOf; rw [hee]; rfl
    have heC : ∀ H', Chg p H H' → H' e.1 = some (.tup [.str e.2.1, .int e.2.2.1, .int e.2.2.2.1, .int e.2.2.2.2]) := fun H' C => chg_tup hP C _ _ (hsh.at_ e he)
    have he1 := heC H1 C1
    refine ⟨fun σ' G => σ' = [some (.ref p), some (.ref l), some (.str nm), some (.ref pl), some (.ref e.1), none, none, none, none] ∧ Chg p H G, ?_, ?_⟩
    · refine ⟨_, rfl, _, _, _, _, rfl, rfl, .of he1, atI_nat (j := 1) rfl, _, _, rfl, rfl, _, rfl, ite_d (fun g0 => ?_) (fun _ => ⟨rfl, C1⟩)⟩
      have g0 : (0 : Int) < e.2.2.1 := g0
      refine ⟨_, rfl, p, _, rfl, C1.1, by decide, by decide, fun r H2 r0 r1 C2 => ⟨rfl, _, rfl, ite_eqI (fun _ => ?_) (fun _ => ⟨rfl, C1.trans C2⟩)⟩⟩
      have C12 := C1.trans C2
      refine ⟨_, rfl, _, rfl, _, _, _, _, rfl, rfl, .of (heC H2 C12), atI_nat (j := 1) rfl, p, _, rfl, C12.1, g0, Nat.lt_of_le_of_lt (by omega : _ ≤ 1000) (by decide), fun ix H3 i0 i1 C3 => ?_⟩
      have C13 := C12.trans C3
      refine ⟨_, rfl, _, rfl, _, _, _, _, rfl, rfl, .of (heC H3 C13), atI_nat (j := 1) rfl, _, rfl, p, pl, e.2.2.1, pal, rfl, C13.1, C13.at npl hpl, npl, p1, p100, pk, hin.1, hin.2.2.2.1, fun vi it H4 hi hok hit C4 => ?_⟩
      have C14 := C13.trans C4
      have he4 := heC H4 C14
      refine ⟨_, rfl, _, rfl, _, _, _, _, rfl, rfl, .of he4, atI_nat (j := 0) rfl, _, rfl, _, rfl, by show 5 ≤ sizeLine; decide, fun x hx => ?_⟩
      have sx := same_upd (o := .tup [.str "where", .str nm, .str e.2.1, .int ix, vi]) hx
      have hxt : upd H4 x (.tup [.str "where", .str nm, .str e.2.1, .int ix, vi]) x = some (.tup [.str "where", .str nm, .str e.2.1, .int ix, vi]) := upd_same
      have C5 := C14.new (o := .tup [.str "where", .str nm, .str e.2.1, .int ix, vi]) hx
      generalize upd H4 x (.tup [.str "where", .str nm, .str e.2.1, .int ix, vi]) = H5 at sx hxt C5 ⊢
      have he5 := heC H5 C5
      refine ⟨_, rfl, _, rfl, _, _, _, _, rfl, rfl, .of he5, atI_nat (j := 1) rfl, _, rfl, _, _, _, _, rfl, rfl, .of he5, atI_nat (j := 2) rfl, _, rfl, _, _, _, _, rfl, rfl, .of he5, atI_nat (j := 3) rfl, by show 4 ≤ sizeLine; decide, fun y hy => ?_⟩
      have sy := same_upd (o := .tup [.str nm, .int e.2.2.1, .int e.2.2.2.1, .int e.2.2.2.2]) hy
      have hyt : upd H5 y (.tup [.str nm, .int e.2.2.1, .int e.2.2.2.1, .int e.2.2.2.2]) y = some (.tup [.str nm, .int e.2.2.1, .int e.2.2.2.1, .int e.2.2.2.2]) := upd_same
      have C6 := C5.new (o := .tup [.str nm, .int e.2.2.1, .int e.2.2.2.1, .int e.2.2.2.2]) hy
      generalize upd H5 y (.tup [.str nm, .int e.2.2.1, .int e.2.2.2.1, .int e.2.2.2.2]) = H6 at sy hyt C6 ⊢
      refine ⟨by show 2 ≤ sizeLine; decide, fun r' hr' => ?_⟩
      have sr := same_upd (o := .lst [.ref x, .ref y]) hr'
      have sxr := sx.trans (sy.trans sr)
      refine q r' _ ⟨x, y, .whr nm e.2.1 ix it, e.2.2, upd_same, ⟨vi, (sy.trans sr) _ _ hxt, ItAt.keeps hi fun _ _ e => sxr _ _ e⟩, sr _ _ hyt, ⟨rfl, ⟨fun z hz => ?_, fun z hz => ?_, by show 2 ≤ 100; decide⟩, ?_, eo⟩⟩ (free_of C6 hP hr') (C6.new hr')
      · have hz : z ∈ [nm, e.2.1] := hz
        rcases List.mem_cons.mp hz with rfl | hz
        · exact hwn
        rw [List.mem_singleton.mp hz]
        exact hsh.wd e he
      · have hz : z ∈ [ItD.idx ix, it] := hz
        rcases List.mem_cons.mp hz with rfl | hz
        · exact i0
        rw [List.mem_singleton.mp hz]
        exact hok
      · refine mk_wrong hfr (fun z hz => ?_) (fun n o s its e => by cases e) ?_ rfl ?_ ?_ ?_
        · have hz : z ∈ [e.2.1] := hz
          rw [List.mem_singleton.mp hz, hee]
          rfl
        · show (true && (itIn ((sz e.2.1).getD (0, 0, 0)).1 (.idx ix) && (itIn ((sz e.2.1).getD (0, 0, 0)).1 it && true))) = true
          rw [hee]
          show (true && (decide (ix < e.2.2.1) && (itIn e.2.2.1 it && true))) = true
          rw [decide_eq_true i1, hit]
          rfl
        · show (szOf sz e.2.1).1 ≤ 12
          rw [eo]
          exact hin.2.2.2.1
        · show (szOf sz e.2.1).2.1 ≤ 16
          rw [eo]
          exact hin.2.2.2.2.1
        · show (szOf sz e.2.1).2.2 ≤ 4
          rw [eo]
          exact hin.2.2.2.2.2
    · rintro σ' G ⟨rfl, CG⟩
      refine ⟨_, rfl, p, _, rfl, CG.1, by decide, by decide, fun c H2 c0 c1 C2 => ⟨_, rfl, by omega, by omega, fun D hD => ?_⟩⟩
      have C12 := CG.trans C2
      have nD : D ≠ p := Chg.ne C12.1 hD
      have hD0 : H D = none := free_of C12 hP hD
      refine lc_range (lo := 0) (n := c.toNat) (fun i H' => ∃ (us : List V) (its : List ItD), H' D = some (.lst us) ∧ ItsAt H' us its ∧ its.length = i ∧ (∀ it ∈ its, ItOk it ∧ itIn e.2.2.1 it = true) ∧ Chg p H2 H') ⟨[], [], upd_same, .nil, rfl, (fun it h => by cases h), (Chg.refl C12.1).new hD⟩ (fun i H' hi' hp => ?_) (fun H' hp => ?_)
      · obtain ⟨us, its, h1, h2, h3, h4, C⟩ := hp
        have CC := C12.trans C
        refine ⟨rfl, _, rfl, _, rfl, _, _, _, _, rfl, rfl, .of (heC H' CC), atI_nat (j := 1) rfl, _, rfl, p, pl, e.2.2.1, pal, rfl, C.1, CC.at npl hpl, npl, p1, p100, pk, hin.1, hin.2.2.2.1, fun vi it H3 hi hok hit C3 => ?_⟩
        have hD3 := C3.at nD h1
        refine ⟨_, hD3, ?_, us ++ [vi], its ++ [it], upd_same, ?_, by rw [List.length_append, h3]; rfl, fun x hx => ?_, (C.trans C3).mut hD nD⟩
        · rw [Paired.length h2]
          exact small1000 (by omega)
        · have kk : ∀ c xs, H3 c = some (.tup xs) → upd H3 D (.lst (us ++ [vi])) c = some (.tup xs) := fun c xs e => by rw [upd_ne (ne_of e hD3 (by intro z; cases z))]; exact e
          exact paired_snoc (ItsAt.keeps h2 fun c xs e => kk c xs (chg_tup C.1 C3 _ _ e)) (ItAt.keeps hi kk)
        · rcases List.mem_append.mp hx with h | h
          · exact h4 x h
          · rw [List.mem_singleton.mp h]
            exact ⟨hok, hit⟩
      · obtain ⟨us, its, h1, h2, h3, h4, C⟩ := hp
        refine ⟨D, _, rfl, .inl ⟨.of h1, fun g hg => ?_⟩⟩
        have C3 := (C12.trans C).new (o := .tup us) hg
        have sg := same_upd (o := .tup us) hg
        have hg3 : upd H' g (.tup us) g = some (.tup us) := upd_same
        have hi3 : ItsAt (upd H' g (.tup us)) us its := ItsAt.keeps h2 fun _ _ e => sg _ _ e
        generalize upd H' g (.tup us) = H3 at C3 hg3 hi3 ⊢
        have he3 := heC H3 C3
        have lus : us.length = its.length := Paired.length h2
        refine ⟨_, rfl, _, rfl, _, _, _, _, rfl, rfl, .of he3, atI_nat (j := 0) rfl, _, rfl, by show 4 ≤ sizeLine; decide, fun x hx => ?_⟩
        have sx := same_upd (o := .tup [.str "take", .str nm, .str e.2.1, .ref g]) hx
        have hxt : upd H3 x (.tup [.str "take", .str nm, .str e.2.1, .ref g]) x = some (.tup [.str "take", .str nm, .str e.2.1, .ref g]) := upd_same
        have C5 := C3.new (o := .tup [.str "take", .str nm, .str e.2.1, .ref g]) hx
        generalize upd H3 x (.tup [.str "take", .str nm, .str e.2.1, .ref g]) = H5 at sx hxt C5 ⊢
        have he5 := heC H5 C5
        refine ⟨_, rfl, _, rfl, _, _, rfl, .inr (.of (sx _ _ hg3)), _, rfl, _, _, _, _, rfl, rfl, .of he5, atI_nat (j := 2) rfl, _, rfl, _, _, _, _, rfl, rfl, .of he5, atI_nat (j := 3) rfl, by show 4 ≤ sizeLine; decide, fun y hy => ?_⟩
        have sy := same_upd (o := .tup [.str nm, .int (us.length : Nat), .int e.2.2.2.1, .int e.2.2.2.2]) hy
        have hyt : upd H5 y (.tup [.str nm, .int (us.length : Nat), .int e.2.2.2.1, .int e.2.2.2.2]) y = some (.tup [.str nm, .int (us.length : Nat), .int e.2.2.2.1, .int e.2.2.2.2]) := upd_same
        have C6 := C5.new (o := .tup [.str nm, .int (us.length : Nat), .int e.2.2.2.1, .int e.2.2.2.2]) hy
        generalize upd H5 y (.tup [.str nm, .int (us.length : Nat), .int e.2.2.2.1, .int e.2.2.2.2]) = H6 at sy hyt C6 ⊢
        refine ⟨by show 2 ≤ sizeLine; decide, fun r' hr' => ?_⟩
        have sr := same_upd (o := .lst [.ref x, .ref y]) hr'
        have sxr := sx.trans (sy.trans sr)
        have esz : sizeOf sz (wOf ts ss (.take nm e.2.1 its)) (.take nm e.2.1 its) = (((us.length : Nat) : Int), e.2.2.2.1, e.2.2.2.2) := by
          show (((its.length : Nat) : Int), (szOf sz e.2.1).2.1, (szOf sz e.2.1).2.2) = _
          rw [eo, lus]
        refine q r' _ ⟨x, y, .take nm e.2.1 its, (((us.length : Nat) : Int), e.2.2.2.1, e.2.2.2.2), upd_same, ⟨g, us, (sy.trans sr) _ _ hxt, sxr _ _ hg3, ItsAt.keeps hi3 fun _ _ e => sxr _ _ e⟩, sr _ _ hyt, ⟨rfl, ⟨fun z hz => ?_, fun z hz => (h4 z hz).1, by show its.length ≤ 100; omega⟩, ?_, esz⟩⟩ (free_of C6 hP hr') (C6.new hr')
        · have hz : z ∈ [nm, e.2.1] := hz
          rcases List.mem_cons.mp hz with rfl | hz
          · exact hwn
          rw [List.mem_singleton.mp hz]
          exact hsh.wd e he
        · refine mk_wrong hfr (fun z hz => ?_) (fun n o s its e => by cases e) ?_ rfl ?_ ?_ ?_
          · have hz : z ∈ [e.2.1] := hz
            rw [List.mem_singleton.mp hz, hee]
            rfl
          · unfold itemsB
            rw [Bool.and_eq_true]
            refine ⟨rfl, List.all_eq_true.mpr fun it h => ?_⟩
            show itIn ((sz e.2.1).getD (0, 0, 0)).1 it = true
            rw [hee]
            exact (h4 it h).2
          · rw [esz]
            show ((us.length : Nat) : Int) ≤ 12
            omega
          · rw [esz]
            exact hin.2.2.2.2.1
          · rw [esz]
            exact hin.2.2.2.2.2
end
theorem ShsOk.oth {H : Hp} {D l : Addr} {shs : List ShE} {sz : Str → Option SzD} {o : List V} {o' : HO} (h : ShsOk H l shs sz) (hD : H D = some (.lst o)) (n : l ≠ D) : ShsOk (upd H D o') l shs sz :=
  ⟨by rw [upd_ne n]; exact h.ls, fun e he => by rw [ShAt, upd_ne (ne_of (h.at_ e he) hD (by intro z; cases z))]; exact h.at_ e he, h.kn, h.no, h.inn, h.l1, h.l12, h.wd⟩
theorem ShsOk.same {H H' : Hp} {l : Addr} {shs : List ShE} {sz : Str → Option SzD} (h : ShsOk H l shs sz) (s : Same H H') : ShsOk H' l shs sz :=
  ⟨s _ _ h.ls, fun e he => s _ _ (h.at_ e he), h.kn, h.no, h.inn, h.l1, h.l12, h.wd⟩
section
variable {P : Program} {w : World} {K : PySem.W.Frag} {mg : Str → Option Value} {base : Heap} {a : Nat → Addr} {d : Nat → FuncData}
def spLSteps : Sp := fun vs H Q _ => ∃ (p t v pl lm ln : Addr) (mm : Nat) (ts : List (Str × Int)) (ks : List KeyE) (ss : List SvE) (m n : Nat) (pal : List Key), vs = [.ref p, .ref t, .ref v, .ref pl, .int (mm : Int), .ref lm] ∧ PoolAt H p ∧ DctAt H t (tabK ts) ∧ DctAt H v (svK ss) ∧ Tabs ts m 4 ∧ Svcs H ts ks ss n ∧ 1 ≤ n ∧ n ≤ 8 ∧
  H pl = some (.lst (pal.map kV)) ∧ pl ≠ p ∧ 1 ≤ pal.length ∧ pal.length ≤ 100 ∧ (∀ k ∈ pal, KVal k) ∧ H lm = some (.tup [.int 16, .int 4, .ref ln]) ∧ H ln = some (.lst ((ss.map (·.name)).map V.str)) ∧ ln ≠ p ∧ 1 ≤ mm ∧ mm ≤ 10 ∧
  ∀ (r S Sh : Addr) (xs : List StE) (shs : List ShE) (sz : Str → Option SzD) (H' : Hp), H r = none → H' r = some (.lst [.ref S, .ref Sh]) → H S = none → H Sh = none → S ≠ Sh → H' S = some (.lst (refsOf xs)) → (∀ b ∈ xs, StAt H' b.1 b.2 ∧ StOk b.2) → xs.length = mm → ShsOk H' Sh shs sz → runG ts ss (xs.map (·.2)) sz0 0 = .inr sz → shs.map (·.2.1) = xs.map (·.2.name) → Chg p H H' → Q (.ref r) H'
theorem sz_start {ts : List (Str × Int)} {ss : List SvE} {n : Str} : runG ts ss [.start n] sz0 0 = .inr (putS sz0 n (0, 1, 0)) := by
  have e : wrongOf ts ss sz0 (.start n) = none := mk_wrong rfl (fun x h => by cases h) (fun n o s its e => by cases e) rfl rfl (by show (0 : Int) ≤ 12; decide) (by show (1 : Int) ≤ 16; decide) (by show (0 : Int) ≤ 4; decide)
  show (match wrongOf ts ss sz0 (.start n) with | some u => Sum.inl (u, 0) | none => runG ts ss [] (putS sz0 n (0, 1, 0)) (0 + 1)) = _
  rw [e]
  rfl
theorem ok_lsteps (T : Txt K mg a d) : FnOk P w K mg base CX0 6 (a 66) (d 66) ["_law_pool_here", "_law_tables_here", "_law_services_here", "_law_palette", "_law_many", "_law_limits"] spLSteps := by
  have G51 : FnOk P w K mg base CX0 2 (a 51) (d 51) ["_law_pool_here", "_law_many"] spDraw := ok_draw T
  have G53 : FnOk P w K mg base CX0 4 (a 53) (d 53) ["_law_pool_here", "_law_many"] spNames := ok_names T
  have G63 : FnOk P w K mg base CX0 5 (a 63) (d 63) ["_law_pool_here", "_law_tables_here", "_law_services_here", "_law_shapes", "_law_name", "_law_palette", "_law_limits"] spLCall := ok_lcall T
  have G64 : FnOk P w K mg base CX0 5 (a 64) (d 64) ["_law_pool_here", "_law_shapes", "_law_name", "_law_kind", "_law_limits"] spLJoin := ok_ljoin T
  have G65 : FnOk P w K mg base CX0 5 (a 65) (d 65) ["_law_pool_here", "_law_shapes", "_law_name", "_law_palette"] spLCut := ok_lcut T
  refine T.F66.ok sc__law_steps (fun vs H Q E h => ?_) (fun cdv A outer s H vs Q E hr h => ?_)
  · obtain ⟨p, t, v, pl, lm, ln, mm, ts, ks, ss, m, n, pal, rfl, _⟩ := h
    rfl
  · obtain ⟨p, t, v, pl, lm, ln, mm, ts, ks, ss, m, n, pal, rfl, hP, ht, hv, hT, hS, n1, n8, hpl, npl, p1, p100, pk, hlm, hln, nln, m1, m10, q⟩ := h
    refine ⟨_, (pss_cons (ps_set (i := 6) sc__law_steps.nd rfl (.inl rfl) (pe_call G53 (hr.mono (by decide)) (by rfl) T.g53 T.F53.kp T.b53 .nil pass0 (pa_cons (pv 0) (pa_cons (pv 4) pa_nil))))
  (pss_cons (ps_set (i := 7) sc__law_steps.nd rfl (.inl rfl) (pe_lst (pa_cons (pe_tup (pa_cons pe_str (pa_cons (pe_ix ix_list (pv 6) pe_int (fun _ _ => rfl)) pa_nil))) pa_nil)))
  (pss_cons (ps_set (i := 8) sc__law_steps.nd rfl (.inl rfl) (pe_lst (pa_cons (pe_tup (pa_cons (pe_ix ix_list (pv 6) pe_int (fun _ _ => rfl)) (pa_cons pe_int (pa_cons pe_int (pa_cons pe_int pa_nil))))) pa_nil)))
  (pss_cons (ps_for PassesOwn.never rfl (pi_range2 (by rfl) T.z_range (pa_cons pe_int (pa_cons (pv 4) pa_nil))) (pg_name (i := 9) sc__law_steps.nd rfl (.inl rfl))
    (pss_cons (ps_set (i := 10) sc__law_steps.nd rfl (.inl rfl) (pe_call G51 (hr.mono (by decide)) (by rfl) T.g51 T.F51.kp T.b51 .nil pass0 (pa_cons (pv 0) (pa_cons pe_int pa_nil))))
      (pss_cons (ps_set (i := 11) sc__law_steps.nd rfl (.inl rfl) pe_non)
      (Evl.pss_cut (ps_if (PW.pt (pw_or (pt_cmpR op_lt (pv 10) pe_int (nomark _)) (pw_or1 (pt_cmpR op_eq (pv 9) pe_int (nomark _)))))
        (pss_one (ps_set (i := 11) sc__law_steps.nd rfl (.inl rfl) (pe_call G63 (hr.mono (by decide)) (by rfl) T.g63 T.F63.kp T.b63 .nil pass0 (pa_cons (pv 0) (pa_cons (pv 1) (pa_cons (pv 2) (pa_cons (pv 8) (pa_cons (pe_ix ix_list (pv 6) (pv 9) (fun _ _ => rfl)) (pa_cons (pv 3) (pa_cons (pv 5) pa_nil))))))))))
        (pss_one (ps_if (pt_cmpR op_lt (pv 10) pe_int (nomark _))
            (pss_one (ps_set (i := 11) sc__law_steps.nd rfl (.inl rfl) (pe_call G64 (hr.mono (by decide)) (by rfl) T.g64 T.F64.kp T.b64 .nil pass0 (pa_cons (pv 0) (pa_cons (pv 8) (pa_cons (pe_ix ix_list (pv 6) (pv 9) (fun _ _ => rfl)) (pa_cons (pe_ix ix_list (pe_lst (pa_cons pe_str (pa_cons pe_str pa_nil))) (pe_op op_sub (pv 10) pe_int) (fun _ _ => rfl)) (pa_cons (pv 5) pa_nil))))))))
            pss_nil)))
      (Evl.pss_cut (ps_if (pt_cmpR op_isN (pv 11) pe_non (nomark _))
        (pss_one (ps_set (i := 11) sc__law_steps.nd rfl (.inl rfl) (pe_call G65 (hr.mono (by decide)) (by rfl) T.g65 T.F65.kp T.b65 .nil pass0 (pa_cons (pv 0) (pa_cons (pv 8) (pa_cons (pe_ix ix_list (pv 6) (pv 9) (fun _ _ => rfl)) (pa_cons (pv 3) pa_nil)))))))
        pss_nil)
      (pss_cons (ps_expr (pe_bm PySem.F.plainAttrs_list PySem.F.slot_list_append PySem.F.type_list_append mt_append (pv 7) (pa_cons (pe_ix ix_list (pv 11) pe_int (fun _ _ => rfl)) pa_nil)))
      (pss_one (ps_expr (pe_bm PySem.F.plainAttrs_list PySem.F.slot_list_append PySem.F.type_list_append mt_append (pv 8) (pa_cons (pe_ix ix_list (pv 11) pe_int (fun _ _ => rfl)) pa_nil))))))))))
  (pss_one (ps_ret (pe_lst (pa_cons (pv 7) (pa_cons (pv 8) pa_nil))))))))), ?_⟩
    refine ⟨_, rfl, _, rfl, p, mm, rfl, hP, by omega, fun nl ns H1 nl0 hnl hns C1 => ?_⟩
    have nnl : nl ≠ p := pool_ne' hP nl0
    obtain ⟨n0, nr, rfl⟩ : ∃ n0 nr, ns = n0 :: nr := by
      cases ns with
      | nil => have := hns.len; simp at this; omega
      | cons x r => exact ⟨x, r, rfl⟩
    have w0 : Wd n0 := hns.wd n0 (by simp)
    refine ⟨_, rfl, _, _, _, _, rfl, rfl, .of hnl, atI_nat (j := 0) rfl, by show 2 ≤ sizeLine; decide, fun x hx => ⟨by show 1 ≤ sizeLine; decide, fun S hS0 => ?_⟩⟩
    have sx := same_upd (o := .tup [.str "start", .str n0]) hx
    have hxt : upd H1 x (.tup [.str "start", .str n0]) x = some (.tup [.str "start", .str n0]) := upd_same
    have C2 := C1.new (o := .tup [.str "start", .str n0]) hx
    generalize upd H1 x (.tup [.str "start", .str n0]) = H2 at sx hxt C2 hS0 ⊢
    have sS := same_upd (o := .lst [.ref x]) hS0
    have hSt : upd H2 S (.lst [.ref x]) S = some (.lst [.ref x]) := upd_same
    have C3 := C2.new (o := .lst [.ref x]) hS0
    have S0 : H S = none := free_of C2 hP hS0
    have nSp : S ≠ p := Chg.ne C2.1 hS0
    have nSl : nl ≠ S := ne_of_none (sx _ _ hnl) hS0
    generalize upd H2 S (.lst [.ref x]) = H3 at sS hSt C3 ⊢
    refine ⟨_, rfl, _, _, _, _, rfl, rfl, .of (sS _ _ (sx _ _ hnl)), atI_nat (j := 0) rfl, by show 4 ≤ sizeLine; decide, fun y hy => ⟨by show 1 ≤ sizeLine; decide, fun Sh hSh0 => ?_⟩⟩
    have sy := same_upd (o := .tup [.str n0, .int 0, .int 1, .int 0]) hy
    have hyt : upd H3 y (.tup [.str n0, .int 0, .int 1, .int 0]) y = some (.tup [.str n0, .int 0, .int 1, .int 0]) := upd_same
    have C4 := C3.new (o := .tup [.str n0, .int 0, .int 1, .int 0]) hy
    generalize upd H3 y (.tup [.str n0, .int 0, .int 1, .int 0]) = H4 at sy hyt C4 hSh0 ⊢
    have sh := same_upd (o := .lst [.ref y]) hSh0
    have hSht : upd H4 Sh (.lst [.ref y]) Sh = some (.lst [.ref y]) := upd_same
    have C5 := C4.new (o := .lst [.ref y]) hSh0
    have Sh0 : H Sh = none := free_of C4 hP hSh0
    have nShp : Sh ≠ p := Chg.ne C4.1 hSh0
    have nShl : nl ≠ Sh := ne_of_none (sy _ _ (sS _ _ (sx _ _ hnl))) hSh0
    have nSS : S ≠ Sh := ne_of_none (sy _ _ hSt) hSh0
    generalize upd H4 Sh (.lst [.ref y]) = H5 at sh hSht C5 ⊢
    have len : (n0 :: nr).length = mm := hns.len
    refine ⟨_, rfl, _, _, rfl, ⟨by decide, by decide, by omega, by omega⟩, ?_⟩
    refine for_range (lo := 1) (n := ((mm : Int) - 1).toNat) (fun i σ H' => ∃ (xs : List StE) (shs : List ShE) (sz : Str → Option SzD) (y9 y10 y11 : Option V), σ = [some (.ref p), some (.ref t), some (.ref v), some (.ref pl), some (.int (mm : Int)), some (.ref lm), some (.ref nl), some (.ref S), some (.ref Sh), y9, y10, y11] ∧
      H' nl = some (.lst ((n0 :: nr).map V.str)) ∧ H' S = some (.lst (refsOf xs)) ∧ ShsOk H' Sh shs sz ∧ xs.length = i + 1 ∧ xs.map (·.2.name) = (n0 :: nr).take (i + 1) ∧ shs.map (·.2.1) = (n0 :: nr).take (i + 1) ∧ (∀ b ∈ xs, StAt H' b.1 b.2 ∧ StOk b.2) ∧ runG ts ss (xs.map (·.2)) sz0 0 = .inr sz ∧ Chg p H H')
      ⟨[(x, .start n0)], [(y, n0, (0, 1, 0))], putS sz0 n0 (0, 1, 0), none, none, none, rfl, sh _ _ (sy _ _ (sS _ _ (sx _ _ hnl))), sh _ _ (sy _ _ hSt), ?_, rfl, rfl, rfl, ?_, sz_start, C5⟩ (fun i σ H' hi hp => ?_) (fun σ H' hp => ?_)
    · refine ⟨hSht, fun e he => ?_, fun e he => ?_, fun n hn => ?_, fun n t e => ?_, by show 1 ≤ 1; decide, by show 1 ≤ 12; decide, fun e he => ?_⟩
      · rw [List.mem_singleton.mp he]
        exact sh _ _ hyt
      · rw [List.mem_singleton.mp he]
        show (if n0 = n0 then some _ else _) = _
        rw [if_pos rfl]
      · have hn : n ∉ [n0] := hn
        show (if n = n0 then some _ else sz0 n) = _
        rw [if_neg (by simpa using hn)]
        rfl
      · have e : (if n = n0 then some (0, 1, 0) else sz0 n) = some t := e
        by_cases en : n = n0
        · rw [if_pos en] at e
          cases e
          decide
        · rw [if_neg en] at e
          cases e
      · rw [List.mem_singleton.mp he]
        exact w0
    · intro b hb
      rw [List.mem_singleton.mp hb]
      refine ⟨sh _ _ (sy _ _ (sS _ _ hxt)), ⟨fun s hs => ?_, (fun it h => by cases h), Nat.zero_le _⟩⟩
      have hs : s ∈ [n0] := hs
      rw [List.mem_singleton.mp hs]
      exact w0
    · obtain ⟨xs, shs, sz, y9, y10, y11, rfl, hnl', hS', hsh, lxs, exs, esh, hxs, hrun, C⟩ := hp
      have hi : i < mm - 1 := by omega
      obtain ⟨nm, hnm⟩ : ∃ nm, (n0 :: nr)[i + 1]? = some nm := ⟨_, List.getElem?_eq_getElem (by omega)⟩
      have hnmw : Wd nm := hns.wd nm (List.mem_of_getElem? hnm)
      have hfr : sz nm = none := hsh.no nm (by
        rw [esh]
        intro hm
        obtain ⟨j, hj⟩ := List.mem_iff_getElem?.mp hm
        rw [List.getElem?_take] at hj
        split at hj
        · rename_i hlt
          have := (List.getElem?_inj (by omega) hns.nd).mp (hnm.trans hj.symm)
          omega
        · cases hj)
      have gnm : atI ((n0 :: nr).map V.str) (1 + (i : Int)) = some (.str nm) := at_g (j := i + 1) (by omega) (by rw [List.getElem?_map, hnm]; rfl)
      refine ⟨_, rfl, p, _, rfl, C.1, by decide, by decide, fun r H6 r0 r1 D1 => ?_⟩
      have CC := C.trans D1
      have hnl6 := D1.at nnl hnl'
      have hS6 := D1.at nSp hS'
      have hsh6 := hsh.chg C.1 nShp D1
      have hxs6 : ∀ b ∈ xs, StAt H6 b.1 b.2 ∧ StOk b.2 := fun b hb => ⟨(hxs b hb).1.keeps (chg_tup C.1 D1), (hxs b hb).2⟩
      -- the step is found
      refine ⟨fun σ' G => ∃ u : V, σ' = [some (.ref p), some (.ref t), some (.ref v), some (.ref pl), some (.int (mm : Int)), some (.ref lm), some (.ref nl), some (.ref S), some (.ref Sh), some (.int (1 + (i : Int))), some (.int r), some u] ∧ (u = .non ∨ ∃ r, u = .ref r ∧ Made ts ss sz nm r G ∧ H6 r = none) ∧ Chg p H6 G, ?_, ?_⟩
      · have call : ∀ (Q' : V → Hp → Prop), (∀ u G, (u = .non ∨ ∃ r, u = .ref r ∧ Made ts ss sz nm r G ∧ H6 r = none) → Chg p H6 G → Q' u G) → spLCall [.ref p, .ref t, .ref v, .ref Sh, .str nm, .ref pl, .ref lm] H6 Q' (fun _ _ _ => False) := fun Q' hq =>
          ⟨p, t, v, Sh, pl, lm, ln, nm, ts, ks, ss, m, n, shs, sz, pal, rfl, CC.1, ht.chg hP CC, hv.chg hP CC, hT, hS.mono (chg_tup hP CC), n1, n8, hsh6, nShp, CC.at npl hpl, npl, p1, p100, pk, chg_tup hP CC _ _ hlm, CC.at nln hln, nln, hnmw, hfr, hq⟩
        refine ⟨_, rfl, _, _, rfl, rfl, _, rfl, ite_d (fun _ => ?_) (fun g3 => ⟨_, rfl, rfl, _, rfl, ite_eqI (fun _ => ?_) (fun _ => ?_)⟩)⟩
        · exact ⟨_, rfl, _, rfl, _, rfl, _, rfl, _, rfl, _, rfl, _, _, _, _, rfl, rfl, .of hnl6, gnm, _, rfl, _, rfl, call _ fun u G hu CG => ⟨u, rfl, hu, CG⟩⟩
        · exact ⟨_, rfl, _, rfl, _, rfl, _, rfl, _, rfl, _, rfl, _, _, _, _, rfl, rfl, .of hnl6, gnm, _, rfl, _, rfl, call _ fun u G hu CG => ⟨u, rfl, hu, CG⟩⟩
        · refine ⟨_, rfl, _, _, rfl, rfl, _, rfl, ite_d (fun g5 => ?_) (fun _ => ?_)⟩
          · have g5 : r < 5 := g5
            have g3 : ¬ r < 3 := g3
            refine ⟨_, rfl, _, rfl, _, rfl, _, rfl, _, _, _, _, rfl, rfl, .of hnl6, gnm, by show 2 ≤ sizeLine; decide, fun b hb => ?_⟩
            have sb := same_upd (o := .lst [.str "both", .str "pair"]) hb
            have hbt : upd H6 b (.lst [.str "both", .str "pair"]) b = some (.lst [.str "both", .str "pair"]) := upd_same
            have D2 := (Chg.refl CC.1).new (o := .lst [.str "both", .str "pair"]) hb
            obtain ⟨bb, hbb⟩ : ∃ bb : Bool, atI [V.str "both", .str "pair"] (r - 3) = some (.str (if bb then "both" else "pair")) := by
              have : r = 3 ∨ r = 4 := by omega
              rcases this with rfl | rfl
              · exact ⟨true, rfl⟩
              · exact ⟨false, rfl⟩
            generalize upd H6 b (.lst [.str "both", .str "pair"]) = H7 at sb hbt D2 ⊢
            refine ⟨_, rfl, _, _, rfl, rfl, _, _, _, _, rfl, rfl, .of hbt, hbb, _, rfl, p, Sh, lm, ln, nm, bb, ts, ss, shs, sz, rfl, D2.1, hsh6.same sb, nShp, chg_tup hP (CC.trans D2) _ _ hlm, hnmw, hfr, fun u G hu CG => ⟨u, rfl, hu.imp id (fun ⟨r, h1, h2, h3⟩ => ⟨r, h1, h2, same_none sb h3⟩), D2.trans CG⟩⟩
          · exact ⟨.non, rfl, .inl rfl, Chg.refl CC.1⟩
      rintro σ' G ⟨u, rfl, hu, CG⟩
      have CC2 := CC.trans CG
      have hnlG := CG.at nnl hnl6
      refine ⟨fun σ' G' => ∃ r' : Addr, σ' = [some (.ref p), some (.ref t), some (.ref v), some (.ref pl), some (.int (mm : Int)), some (.ref lm), some (.ref nl), some (.ref S), some (.ref Sh), some (.int (1 + (i : Int))), some (.int r), some (.ref r')] ∧ Made ts ss sz nm r' G' ∧ H6 r' = none ∧ Chg p H6 G', ?_, ?_⟩
      · refine ⟨_, rfl, rfl, _, rfl, ?_⟩
        rcases hu with rfl | ⟨r', rfl, hm, nr'⟩
        · refine ite_d (fun _ => ?_) (fun h => absurd rfl h)
          refine ⟨_, rfl, _, rfl, _, rfl, _, rfl, _, _, _, _, rfl, rfl, .of hnlG, gnm, _, rfl, p, Sh, pl, nm, ts, ss, shs, sz, pal, rfl, CC2.1, hsh6.chg CC.1 nShp CG, nShp, CC2.at npl hpl, npl, p1, p100, pk, hnmw, hfr, fun r' G' hm nr' CG' => ⟨r', rfl, hm, free_of CG CC.1 nr', CG.trans CG'⟩⟩
        · exact ite_d (fun h => nomatch h) (fun _ => ⟨r', rfl, hm, nr', CG⟩)
      rintro σ' G' ⟨r', rfl, ⟨x', y', st, tt, hr', hx', hy', hn'⟩, nr', CG'⟩
      have CC3 := CC.trans CG'
      have nrS : r' ≠ S := (ne_of_none hS6 nr').symm
      have hSG := CG'.at nSp hS6
      have hshG := hsh6.chg CC.1 nShp CG'
      have lsh : shs.length = i + 1 := by
        have := congrArg List.length esh
        rw [List.length_map, List.length_take] at this
        omega
      have kk : ∀ c xs', G' c = some (.tup xs') → upd G' S (.lst (refsOf xs ++ [.ref x'])) c = some (.tup xs') := fun c xs' e => by rw [upd_ne (ne_of e hSG (by intro z; cases z))]; exact e
      refine ⟨_, rfl, .inl ⟨rfl, _, .of hSG⟩, _, rfl, _, _, _, _, rfl, rfl, .of hr', atI_nat (j := 0) rfl, S, _, _, rfl, rfl, hSG, by rw [refsOf, List.length_map]; exact small1000 (by omega), ?_⟩
      have hshK := hshG.oth (o' := .lst (refsOf xs ++ [.ref x'])) hSG nSS.symm
      have hrK : upd G' S (.lst (refsOf xs ++ [.ref x'])) r' = some (.lst [.ref x', .ref y']) := by rw [upd_ne nrS]; exact hr'
      have hSK : upd G' S (.lst (refsOf xs ++ [.ref x'])) S = some (.lst (refsOf xs ++ [.ref x'])) := upd_same
      have hnlK : upd G' S (.lst (refsOf xs ++ [.ref x'])) nl = some (.lst ((n0 :: nr).map V.str)) := by rw [upd_ne nSl]; exact CG'.at nnl hnl6
      have CK := CC3.mut (o := .lst (refsOf xs ++ [.ref x'])) S0 nSp
      have hxsK : ∀ b ∈ xs, StAt (upd G' S (.lst (refsOf xs ++ [.ref x']))) b.1 b.2 ∧ StOk b.2 := fun b hb => ⟨((hxs6 b hb).1.keeps (chg_tup CC.1 CG')).keeps kk, (hxs6 b hb).2⟩
      have hxK := hx'.keeps kk
      have hyK : ShAt (upd G' S (.lst (refsOf xs ++ [.ref x']))) (y', nm, tt) := kk _ _ hy'
      generalize upd G' S (.lst (refsOf xs ++ [.ref x'])) = G1 at hshK hrK hSK hnlK CK hxsK hxK hyK ⊢
      have kk2 : ∀ c xs', G1 c = some (.tup xs') → upd G1 Sh (.lst (shRefs shs ++ [.ref y'])) c = some (.tup xs') := fun c xs' e => by rw [upd_ne (ne_of e hshK.ls (by intro z; cases z))]; exact e
      have etk : (n0 :: nr).take (i + 1 + 1) = (n0 :: nr).take (i + 1) ++ [nm] := by
        rw [List.take_succ, hnm]
        rfl
      have nin : nm ∉ shs.map (·.2.1) := fun hm => by
        obtain ⟨e, he, rfl⟩ := List.mem_map.mp hm
        rw [hshK.kn e he] at hfr
        cases hfr
      refine ⟨_, rfl, .inl ⟨rfl, _, .of hshK.ls⟩, _, rfl, _, _, _, _, rfl, rfl, .of hrK, atI_nat (j := 1) rfl, Sh, _, _, rfl, rfl, hshK.ls, by rw [shRefs, List.length_map]; exact small1000 (by omega), xs ++ [(x', st)], shs ++ [(y', nm, tt)], putS sz nm tt, _, _, _, rfl, ?_, ?_, ?_, by rw [List.length_append, lxs]; rfl, ?_, ?_, fun b hb => ?_, ?_, CK.mut Sh0 nShp⟩
      · rw [upd_ne nShl]
        exact hnlK
      · rw [upd_ne nSS, hSK]
        unfold refsOf
        rw [List.map_append]
        rfl
      · refine ⟨?_, fun e he => ?_, fun e he => ?_, fun n hn => ?_, ?_, by rw [List.length_append]; exact Nat.le_add_left _ _, by rw [List.length_append]; show shs.length + 1 ≤ 12; omega, fun e he => ?_⟩
        · unfold shRefs
          rw [List.map_append]
          exact upd_same
        · rcases List.mem_append.mp he with h | h
          · exact kk2 _ _ (hshK.at_ e h)
          · rw [List.mem_singleton.mp h]
            exact kk2 _ _ hyK
        · show (if e.2.1 = nm then some tt else sz e.2.1) = _
          rcases List.mem_append.mp he with h | h
          · rw [if_neg (fun z => nin (List.mem_map.mpr ⟨e, h, z⟩))]
            exact hshK.kn e h
          · rw [List.mem_singleton.mp h, if_pos rfl]
        · rw [List.map_append, List.mem_append, not_or] at hn
          show (if n = nm then some tt else sz n) = none
          rw [if_neg (fun z => hn.2 (by rw [z]; simp))]
          exact hshK.no n hn.1
        · have := hshK.inn.put (wnn hT hS) hn'.no
          rw [hn'.nm, hn'.size] at this
          exact this
        · rcases List.mem_append.mp he with h | h
          · exact hshK.wd e h
          · rw [List.mem_singleton.mp h]
            exact hnmw
      · rw [List.map_append, exs, etk]
        show _ ++ [st.name] = _
        rw [hn'.nm]
      · rw [List.map_append, esh, etk]
        rfl
      · rcases List.mem_append.mp hb with h | h
        · exact ⟨(hxsK b h).1.keeps kk2, (hxsK b h).2⟩
        · rw [List.mem_singleton.mp h]
          exact ⟨hxK.keeps kk2, hn'.ok⟩
      · rw [List.map_append, runG_append hrun]
        show (match wrongOf ts ss sz st with | some u => Sum.inl (u, 0 + (xs.map (fun b : StE => b.2)).length) | none => runG ts ss [] (putS sz st.name (sizeOf sz (wOf ts ss st) st)) (0 + (xs.map (fun b : StE => b.2)).length + 1)) = _
        rw [hn'.no, hn'.nm, hn'.size]
        rfl
    · obtain ⟨xs, shs, sz, y9, y10, y11, rfl, hnl', hS', hsh, lxs, exs, esh, hxs, hrun, C⟩ := hp
      refine ⟨_, rfl, _, rfl, by show 2 ≤ sizeLine; decide, fun r hr => ?_⟩
      have sr := same_upd (o := .lst [.ref S, .ref Sh]) hr
      exact q r S Sh xs shs sz _ (free_of C hP hr) upd_same S0 Sh0 nSS (sr _ _ hS') (fun b hb => ⟨(hxs b hb).1.keeps fun _ _ e => sr _ _ e, (hxs b hb).2⟩) (by omega) (hsh.same sr) hrun (esh.trans exs.symm) (C.new hr)
end
/-! ### steps of any kind -/
theorem eqv_int' (i j : Int) : PyData.eqv (.int i) (.int j) = decide (i = j) := by rw [Bool.eq_iff_iff]; simp [PyData.eqv]
def idxB : V → Bool
  | .int i => decide (0 ≤ i)
  | _ => false
def itemB (H : Hp) (v : V) : Bool := match tupOf H v with
  | some [x] => valV' x
  | some _ => false
  | none => idxB v
def itsB (H : Hp) (v : V) : Bool := match tupOf H v with
  | some xs => xs.all (itemB H)
  | none => false
def kindOf (s : Str) : Option (Nat × Nat) := (kinds.find? fun x => decide (x.1 = s)).map (·.2)
/-- as many things as the kind asks, and words where names stand -/
def hlnB (H : Hp) (v : V) : Bool := match tupOf H v with
  | some (.str k :: xs) => (match kindOf k with
    | some (n, m) => decide (xs.length + 1 = n) && (xs.take m).all wordV
    | none => false)
  | _ => false
structure Th3 (H : Hp) (v : V) : Prop where
  th : Thg H v
  it : ∀ xs, tupOf H v = some xs → xs.length ≤ 100 ∧ ∀ x ∈ xs, Th2 H x
theorem Th3.kp {H H' : Hp} {v : V} (h : Th3 H v) (k : Kp H H') : Th3 H' v := ⟨h.th.kp k, fun xs e => by
  rw [tupOf_kp h.th k] at e
  exact ⟨(h.it xs e).1, fun x hx => ((h.it xs e).2 x hx).kp k⟩⟩
theorem itemB_kp {H H' : Hp} {v : V} (h : Thg H v) (k : Kp H H') : itemB H' v = itemB H v := by
  unfold itemB
  rw [tupOf_kp h k]
theorem itsB_kp {H H' : Hp} {v : V} (h : Th2 H v) (k : Kp H H') : itsB H' v = itsB H v := by
  unfold itsB
  rw [tupOf_kp h.th k]
  cases e : tupOf H v with
  | none => rfl
  | some xs =>
    show xs.all (itemB H') = xs.all (itemB H)
    rw [Bool.eq_iff_iff, List.all_eq_true, List.all_eq_true]
    exact ⟨fun g x hx => by rw [← itemB_kp ((h.it xs e).2 x hx).th k]; exact g x hx, fun g x hx => by rw [itemB_kp ((h.it xs e).2 x hx).th k]; exact g x hx⟩
/-- the dict's other names -/
def keyTx : Value → Str
  | .str x _ => x
  | _ => ""
theorem ns_no {K : PySem.W.Frag} {Pm : Params} {f : Addr} {es : Array DictEntry} {n : Nat} {z : Str} {ks : List Str} (hl : K.lookup f = some ⟨.type "dict", none, .dict es n, #[]⟩) (hk : PySem.W.KeysLit Pm es.toList) (he : es.toList.map (fun e => keyTx e.key) = ks) (hz : z ∉ ks) : PySem.W.nsIn K f z = some none := by
  unfold PySem.W.nsIn
  rw [hl]
  have h1 : es.toList.find? (fun e => e.key.isStr z) = none := by
    rw [List.find?_eq_none]
    intro e hm hs
    obtain ⟨x, t, e1, _⟩ := PySem.W.KeysLit.all hk e hm
    have hx : x ∈ ks := by
      rw [← he]
      exact List.mem_map.mpr ⟨e, hm, by rw [e1]; rfl⟩
    rw [e1, PySem.W.isStr_of] at hs
    have ex : x = z := by
      simpa [Value.isStrOf] using hs
    exact hz (ex ▸ hx)
  have h2 : es.toList.any (fun e => e.refKey) = false := by
    rw [List.any_eq_false]
    intro e hm hr
    obtain ⟨x, t, e1, _⟩ := PySem.W.KeysLit.all hk e hm
    unfold DictEntry.refKey at hr
    rw [e1] at hr
    cases hr
  show (match es.toList.find? (fun e => e.key.isStr z) with
      | some e => some (some e.val)
      | none => if es.toList.any (fun e => e.refKey) then none else some none) = some none
  rw [h1, h2]
  rfl
theorem kind_no {z : Str} (h : kindOf z = none) : z ∉ (["start", "call", "both", "pair", "where", "take"] : List Str) := by
  intro hz
  unfold kindOf at h
  rw [Option.map_eq_none_iff, List.find?_eq_none] at h
  have : z ∈ kinds.map (·.1) := hz
  obtain ⟨x, hx, rfl⟩ := List.mem_map.mp this
  exact h x hx (by simp)
structure TxtN (K : PySem.W.Frag) (w : World) (a : Nat → Addr) : Prop where
  w : TxtW K w a
  no : ∀ z, kindOf z = none → PySem.W.nsIn K (a 90017) z = some none
section
variable {P : Program} {w : World} {K : PySem.W.Frag} {mg : Str → Option Value} {base : Heap} {a : Nat → Addr} {d : Nat → FuncData}
theorem ok_indexX (T : Txt K mg a d) : FnOk P w K mg base CX0 2 (a 20) (d 20) ["thing"] (spB idxB) := by
  have G9 : FnOk P w K mg base CX0 1 (a 9) (d 9) ["thing"] (spB plainV) := ok_plain T
  refine T.F20.ok sc__is_index (fun vs H Q E h => ?_) (fun cdv A outer s H vs Q E hr h => ?_)
  · obtain ⟨v, rfl, _⟩ := h
    rfl
  · obtain ⟨v, rfl, hv, q⟩ := h
    refine ⟨_, (pss_one (ps_ret (pe_and (pe_call G9 (hr.mono (by decide)) (by rfl) T.g9 T.F9.kp T.b9 .nil pass0 (pa_cons (pv 0) pa_nil)) (pe_one (pe_cmpR op_ge (pv 0) pe_int (nomark _)))))), ?_⟩
    refine ⟨_, rfl, v, rfl, hv, fun H1 s1 => ⟨_, rfl, ?_⟩⟩
    cases hv with
    | int i => exact ifT ⟨_, rfl, _, _, rfl, rfl, q _ s1⟩
    | bl b => exact ifF (q _ s1)
    | non => exact ifF (q _ s1)
    | str s _ _ => exact ifF (q _ s1)
    | lst e => exact ifF (q _ s1)
    | tup e => exact ifF (q _ s1)
def spItemX : Sp := fun vs H Q _ => ∃ v : V, vs = [v] ∧ Th1 H v ∧ ∀ H', Same H H' → Q (.bl (itemB H v)) H'
theorem ok_itemX (T : Txt K mg a d) : FnOk P w K mg base CX0 3 (a 21) (d 21) ["thing"] spItemX := by
  have G20 : FnOk P w K mg base CX0 2 (a 20) (d 20) ["thing"] (spB idxB) := ok_indexX T
  have G11 : FnOk P w K mg base CX0 2 (a 11) (d 11) ["thing"] (spB valV') := ok_is_value T
  refine T.F21.ok sc__is_item (fun vs H Q E h => ?_) (fun cdv A outer s H vs Q E hr h => ?_)
  · obtain ⟨v, rfl, _⟩ := h
    rfl
  · obtain ⟨v, rfl, hv, q⟩ := h
    obtain ⟨n, hty, k1⟩ := hv.th.tyT (K := K)
    refine ⟨_, (pss_cons (ps_if (pt_val (pe_callB (id := "isinstance")  call_isi (by rfl) T.z_isinstance (by decide +kernel) (pa_cons (pv 0) (pa_cons (pe_bltn (v := .ty "tuple") (by rfl) T.z_tuple (by decide +kernel) rfl) pa_nil))))
    (pss_one (ps_ret (pe_and (pe_cmpR op_eq (pe_callB (id := "len")  call_len_seq (by rfl) T.z_len (by decide +kernel) (pa_cons (pv 0) pa_nil)) pe_int (nomark _)) (pe_one (pe_call G11 (hr.mono (by decide)) (by rfl) T.g11 T.F11.kp T.b11 .nil pass0 (pa_cons (pe_ix ix_tup (pv 0) pe_int (fun _ _ => rfl)) pa_nil))))))
    pss_nil)
  (pss_one (ps_ret (pe_call G20 (hr.mono (by decide)) (by rfl) T.g20 T.F20.kp T.b20 .nil pass0 (pa_cons (pv 0) pa_nil))))), ?_⟩
    refine ⟨_, rfl, _, _, _, _, _, rfl, .ty _, hty, kit_ty k1, _, rfl, ?_⟩
    unfold itemB at q
    cases et : tupOf H v with
    | none =>
      rw [et] at q
      exact ifF ⟨_, rfl, v, rfl, hv.th, fun H1 s1 => q _ s1⟩
    | some xs =>
      rw [et] at q
      obtain ⟨hl, hx⟩ := hv.it xs et
      obtain ⟨p, rfl, hp⟩ := tupOf_some et
      refine ifT ?_
      refine ⟨_, rfl, p, _, rfl, .inr (.of hp), rfl, _, rfl, ?_⟩
      cases xs with
      | nil => exact ite_d (fun e => absurd (V.int.inj e) (by decide)) (fun _ => q H (Same.refl H))
      | cons x r =>
        cases r with
        | nil => exact ite_d (fun _ => ⟨_, rfl, _, _, _, _, rfl, rfl, .of hp, atI_nat (j := 0) rfl, x, rfl, hx x (by simp), fun H1 s1 => q _ s1⟩) (fun e => absurd rfl e)
        | cons y r => exact ite_d (fun e => absurd (V.int.inj e) (by rw [List.length_cons, List.length_cons]; omega)) (fun _ => q H (Same.refl H))
def spStepB (f : Hp → V → Bool) : Sp := fun vs H Q _ => ∃ v : V, vs = [v] ∧ Th3 H v ∧ ∀ H', Same H H' → Q (.bl (f H v)) H'
theorem kind_mem {s : Str} {n m : Nat} (h : kindOf s = some (n, m)) : (s, n, m) ∈ kinds := by
  unfold kindOf at h
  cases e : kinds.find? (fun x => decide (x.1 = s)) with
  | none => rw [e] at h; cases h
  | some x =>
    rw [e] at h
    have h1 : x.2 = (n, m) := Option.some.inj h
    have h2 : x.1 = s := by simpa using List.find?_some e
    have h3 := List.mem_of_find?_eq_some e
    rw [← h2, ← h1]
    exact h3
theorem ok_hlnX (T : Txt K mg a d) (W : TxtN K w a) : FnOk P w K mg base CX0 3 (a 22) (d 22) ["step"] (spStepB hlnB) := by
  have G10 : FnOk P w K mg base CX0 1 (a 10) (d 10) ["thing"] (spB wordV) := ok_is_word T
  refine T.F22.ok sc__has_length_and_names (fun vs H Q E h => ?_) (fun cdv A outer s H vs Q E hr h => ?_)
  · obtain ⟨v, rfl, _⟩ := h
    rfl
  · obtain ⟨v, rfl, hv, q⟩ := h
    obtain ⟨n, hty, k1⟩ := hv.th.tyT (K := K)
    refine ⟨_, (pss_cons (ps_if (PW.pt (pw_or (pt_not (pt_val (pe_callB (id := "isinstance")  call_isi (by rfl) T.z_isinstance (by decide +kernel) (pa_cons (pv 0) (pa_cons (pe_bltn (v := .ty "tuple") (by rfl) T.z_tuple (by decide +kernel) rfl) pa_nil))))) (pw_or (pt_not (pt_truth (pv 0) (by intro _; rfl))) (pw_or1 (pt_not (pt_val (pe_callB (id := "isinstance")  call_isi (by rfl) T.z_isinstance (by decide +kernel) (pa_cons (pe_ix ix_tup (pv 0) pe_int (fun _ _ => rfl)) (pa_cons (pe_bltn (v := .ty "str") (by rfl) T.z_str (by decide +kernel) rfl) pa_nil)))))))))
    (pss_one (ps_ret pe_bl))
    pss_nil)
  (pss_cons (ps_if (pt_cmpR (op_neD (hu_of64 hr)) (pe_callB (id := "len")  call_len_seq (by rfl) T.z_len (by decide +kernel) (pa_cons (pv 0) pa_nil)) (pe_wget1 (pe_glob (v := .ref (a 90017)) (by rfl) T.wg__LENGTHS rfl) (pe_ix ix_tup (pv 0) pe_int (fun _ _ => rfl)) ⟨rfl, rfl, rfl, rfl⟩) (nomark _))
    (pss_one (ps_ret pe_bl))
    pss_nil)
  (pss_one (ps_ret (pe_callB (id := "all")  (cr_all rfl) (by rfl) T.z_all (by decide +kernel) (pa_cons (pe_lc (own := [("name", 1)]) rfl sc__has_length_and_names.nd (pi_tup (pe_slice sl_tupA (pv 0) (po_some pe_int) (po_some (pe_op op_add pe_int (pe_ix ix_kdict (pe_glob (v := .ref (a 90018)) (by rfl) T.wg__NAMES rfl) (pe_ix ix_tup (pv 0) pe_int (fun _ _ => rfl)) (fun _ _ => rfl)))))) (blkOk_by (N := ["step", "name"]) (sc := defScope s__has_length_and_names) (by decide +kernel)) (fun _ _ _ _ _ => pg_name (i := 1) sc__has_length_and_names.nd rfl (.inl rfl)) (fun _ _ _ _ _ => pts_nil) (fun _ _ _ _ _ => (pe_call G10 (hr.mono (by decide)) (by rfl) T.g10 T.F10.kp T.b10 .nil pass0 (pa_cons (pv 1) pa_nil)))) pa_nil)))))), ?_⟩
    refine ⟨_, rfl, _, _, _, _, _, rfl, .ty _, hty, kit_ty k1, _, rfl, ?_⟩
    unfold hlnB at q
    cases et : tupOf H v with
    | none =>
      rw [et] at q
      exact ifT (q H (Same.refl H))
    | some ys =>
      rw [et] at q
      obtain ⟨hl, hx⟩ := hv.it ys et
      obtain ⟨p, rfl, hp⟩ := tupOf_some et
      refine ifF ?_
      cases ys with
      | nil => exact ⟨_, rfl, false, .inr (.inl ⟨_, .of hp, rfl⟩), ifT (q H (Same.refl H))⟩
      | cons y0 xs =>
        refine ⟨_, rfl, true, .inr (.inl ⟨_, .of hp, rfl⟩), ifF ?_⟩
        have hy0 := (hx y0 (by simp)).th
        obtain ⟨n0, hty0, _, _, k0⟩ := hy0.ty (K := K)
        refine ⟨_, rfl, _, _, _, _, rfl, rfl, .of hp, atI_nat (j := 0) rfl, _, _, _, _, _, rfl, .ty _, hty0, kit_ty k0, _, rfl, ?_⟩
        have no : tyStr y0 = false → (match (some (y0 :: xs) : Option (List V)) with
          | some (.str k :: xs) => (match kindOf k with
            | some (n, m) => decide (xs.length + 1 = n) && (xs.take m).all wordV
            | none => false)
          | _ => false) = false := fun h => by
          cases y0 <;> first | rfl | cases h
        cases es : tyStr y0 with
        | false =>
          rw [no es] at q
          exact ifT (q H (Same.refl H))
        | true =>
          refine ifF ?_
          obtain ⟨k, rfl⟩ : ∃ k, y0 = .str k := by cases y0 <;> first | exact ⟨_, rfl⟩ | cases es
          have q : ∀ H', Same H H' → Q (.bl (match kindOf k with
            | some (n, m) => decide (xs.length + 1 = n) && (xs.take m).all wordV
            | none => false)) H' := q
          refine ⟨_, rfl, p, _, rfl, .inr (.of hp), _, rfl, W.w.l, _, rfl, _, _, _, _, rfl, rfl, .of hp, atI_nat (j := 0) rfl, k, rfl, ?_⟩
          cases ek : kindOf k with
          | none =>
            rw [ek] at q
            refine .inr ⟨W.no k ek, .int _, .none, .int _, .non, int_shaped _, by decide, _, rfl, ?_⟩
            rw [show PyData.eqv (.int (((V.str k :: xs).length : Nat) : Int)) .none = false from by simp [PyData.eqv]]
            exact ifT (q H (Same.refl H))
          | some nm =>
            obtain ⟨n1, m1⟩ := nm
            rw [ek] at q
            have q : ∀ H', Same H H' → Q (.bl (decide (xs.length + 1 = n1) && (xs.take m1).all wordV)) H' := q
            have km := kind_mem ek
            obtain ⟨t, ht⟩ := W.w.lv _ km
            refine .inl ⟨.int (n1 : Nat), _, ht, ⟨t, rfl⟩, .int _, .int _, .int _, .int _, int_shaped _, int_shaped _, _, rfl, ?_⟩
            rw [eqv_int']
            by_cases el : xs.length + 1 = n1
            · rw [decide_eq_true el, Bool.true_and] at q
              rw [decide_eq_true (show (((V.str k :: xs).length : Nat) : Int) = (n1 : Nat) by rw [List.length_cons]; omega)]
              refine ifF ?_
              have mle : m1 ≤ xs.length := by
                have : ∀ x ∈ kinds, x.2.2 + 1 ≤ x.2.1 := by decide +kernel
                have := this _ km
                show m1 ≤ xs.length
                have h : m1 + 1 ≤ n1 := this
                omega
              refine ⟨_, rfl, _, rfl, _, rfl, _, _, _, _, rfl, rfl, .of hp, atI_nat (j := 0) rfl, _, k, _, rfl, rfl, W.w.nv _ km, _, _, rfl, rfl, _, rfl, ?_⟩
              have nw : ¬ (HT.sIx (V.str k :: xs).length 0 (some 1) = 0) := by
                rw [show (1 : Int) = ((1 : Nat) : Int) from rfl, HT.sIx_nat, List.length_cons]
                omega
              refine ⟨p, _, rfl, .of hp, fun e => absurd e.1 nw, fun _ g hg => ?_⟩
              have ec : cutV (V.str k :: xs) (some 1) (some (1 + (m1 : Nat))) = xs.take m1 := by
                have h := cut_mid (V.str k) (xs.take m1) (xs.drop m1)
                rw [List.take_append_drop, List.length_take, Nat.min_eq_left mle] at h
                exact h
              rw [ec]
              have sg := same_upd (o := .tup (xs.take m1)) hg
              have hg2 : upd H g (.tup (xs.take m1)) g = some (.tup (xs.take m1)) := upd_same
              generalize upd H g (.tup (xs.take m1)) = H1 at sg hg2 ⊢
              refine ⟨g, rfl, ⟨_, .of hg2⟩, fun D hD => ?_⟩
              refine lc_tup (K := K) (a := g) (xs := xs.take m1) (fun i H' => H' D = some (.lst ((((xs.take m1).take i).map wordV).map V.bl)) ∧ Same H1 H') ⟨upd_same, same_upd hD⟩ (fun i H' _ hp => .of (hp.2 _ _ hg2)) (fun i y H' hy hp => ?_) (fun H' hp => ?_)
              · obtain ⟨h1, h2⟩ := hp
                have hyx : y ∈ xs := List.mem_of_mem_take (List.mem_of_getElem? hy)
                have li : i < (xs.take m1).length := (List.getElem?_eq_some_iff.mp hy).1
                refine ⟨rfl, _, rfl, y, rfl, (hx y (by simp [hyx])).th.same (sg.trans h2), fun H2 s2 => ?_⟩
                refine ⟨_, s2 _ _ h1, ?_, ?_, fun c o e => ?_⟩
                · rw [List.length_map, List.length_map, List.length_take]
                  exact small1000 (by rw [List.length_cons] at hl; rw [List.length_take] at li ⊢; omega)
                · rw [map_take hy, List.map_append]
                  exact upd_same
                · rw [upd_ne (ne_of_none e hD)]
                  exact s2 _ _ (h2 _ _ e)
              · obtain ⟨h1, h2⟩ := hp
                rw [List.take_length] at h1
                refine ⟨D, _, rfl, .of h1, ?_⟩
                rw [show ((xs.take m1).map wordV).all id = (xs.take m1).all wordV by rw [List.all_map]; rfl]
                exact q _ (sg.trans h2)
            · rw [decide_eq_false el, Bool.false_and] at q
              rw [decide_eq_false (show ¬ (((V.str k :: xs).length : Nat) : Int) = (n1 : Nat) by rw [List.length_cons]; omega)]
              exact ifT (q H (Same.refl H))
end
/-- the values of a call that are values all make a row -/
theorem good_key {v : V} (h : valV' v = true) : ∃ k, v = kV k ∧ KVal k := by
  cases v with
  | int i => exact ⟨.inl i, rfl, by have := of_decide_eq_true h; show -(10 ^ 30 - 1) ≤ i ∧ i ≤ 10 ^ 30 - 1; omega⟩
  | str s => exact ⟨.inr s, rfl, by
      have h' : (decide (1 ≤ s.length ∧ s.length ≤ 8) && s.cps.toList.all fun c => decide (97 ≤ c ∧ c ≤ 122)) = true := h
      rw [Bool.and_eq_true, List.all_eq_true] at h'
      obtain ⟨h1, h2⟩ := of_decide_eq_true h'.1
      exact ⟨h1, h2, fun c hc => of_decide_eq_true (h'.2 c hc)⟩⟩
  | bl b => cases h
  | non => cases h
  | ref a => cases h
  | byt b => cases h
  | flt x => cases h
  | ty n => cases h
theorem good_rows : ∀ {xs : List V}, xs.all valV' = true → ∃ r : RowK, xs = r.map kV ∧ ∀ k ∈ r, KVal k
  | [], _ => ⟨[], rfl, fun k hk => by cases hk⟩
  | x :: xs, h => by
    rw [List.all_cons, Bool.and_eq_true] at h
    obtain ⟨k, rfl, hk⟩ := good_key h.1
    obtain ⟨r, rfl, hr⟩ := good_rows h.2
    exact ⟨k :: r, rfl, fun z hz => by
      rcases List.mem_cons.mp hz with rfl | hz
      · exact hk
      · exact hr z hz⟩
/-! ### a step that has its length and its names -/
inductive StX where
  | start (n : Str)
  | join (b : Bool) (n x y : Str)
  | take (n o : Str) (x : V)
  | call (n o s : Str) (y : V)
  | whr (n o : Str) (x y : V)
def StX.vs : StX → List V
  | .start n => [.str "start", .str n]
  | .join b n x y => [.str (if b then "both" else "pair"), .str n, .str x, .str y]
  | .take n o x => [.str "take", .str n, .str o, x]
  | .call n o s y => [.str "call", .str n, .str o, .str s, y]
  | .whr n o x y => [.str "where", .str n, .str o, x, y]
def StX.ns : StX → List Str
  | .start n => [n]
  | .join _ n x y => [n, x, y]
  | .take n o _ => [n, o]
  | .call n o s _ => [n, o, s]
  | .whr n o _ _ => [n, o]
def StX.kind : StX → Str
  | .start _ => "start"
  | .join b _ _ _ => if b then "both" else "pair"
  | .take .. => "take"
  | .call .. => "call"
  | .whr .. => "where"
/-- its items are right -/
def StX.okB (H : Hp) : StX → Bool
  | .start _ => true
  | .join .. => true
  | .take _ _ x => itsB H x
  | .call _ _ _ y => itsB H y
  | .whr _ _ x y => idxB x && itemB H y
theorem word_wd {v : V} (h : wordV v = true) : ∃ s, v = .str s ∧ Wd s := by
  cases v with
  | str s =>
    refine ⟨s, rfl, ?_⟩
    have h : wordB s = true := h
    unfold wordB at h
    rw [Bool.and_eq_true] at h
    have h1 := of_decide_eq_true h.1
    exact ⟨h1.1, h1.2, fun c hc => of_decide_eq_true (List.all_eq_true.mp h.2 c hc)⟩
  | _ => cases h
theorem len1 {xs : List V} (h : xs.length + 1 = 2) : ∃ a, xs = [a] := by
  match xs, h with
  | [a], _ => exact ⟨a, rfl⟩
theorem len3 {xs : List V} (h : xs.length + 1 = 4) : ∃ a b c, xs = [a, b, c] := by
  match xs, h with
  | [a, b, c], _ => exact ⟨a, b, c, rfl⟩
theorem len4 {xs : List V} (h : xs.length + 1 = 5) : ∃ a b c d, xs = [a, b, c, d] := by
  match xs, h with
  | [a, b, c, d], _ => exact ⟨a, b, c, d, rfl⟩
theorem hln_st {H : Hp} {v : V} (h : hlnB H v = true) : ∃ (p : Addr) (sx : StX), v = .ref p ∧ H p = some (.tup sx.vs) ∧ ∀ s ∈ sx.ns, Wd s := by
  unfold hlnB at h
  cases et : tupOf H v with
  | none => rw [et] at h; cases h
  | some ys =>
    rw [et] at h
    obtain ⟨p, rfl, hp⟩ := tupOf_some et
    cases ys with
    | nil => cases h
    | cons y0 xs =>
      cases y0 with
      | str k =>
        have h : (match kindOf k with
          | some (n, m) => decide (xs.length + 1 = n) && (xs.take m).all wordV
          | none => false) = true := h
        cases ek : kindOf k with
        | none => rw [ek] at h; cases h
        | some nm =>
          obtain ⟨n1, m1⟩ := nm
          rw [ek] at h
          have h : (decide (xs.length + 1 = n1) && (xs.take m1).all wordV) = true := h
          rw [Bool.and_eq_true] at h
          obtain ⟨h1, h2⟩ := h
          have h1 := of_decide_eq_true h1
          have km := kind_mem ek
          simp only [kinds, List.mem_cons, List.not_mem_nil, or_false, Prod.mk.injEq] at km
          have wd : ∀ x ∈ xs.take m1, ∃ s, x = .str s ∧ Wd s := fun x hx => word_wd (List.all_eq_true.mp h2 x hx)
          rcases km with ⟨rfl, rfl, rfl⟩ | ⟨rfl, rfl, rfl⟩ | ⟨rfl, rfl, rfl⟩ | ⟨rfl, rfl, rfl⟩ | ⟨rfl, rfl, rfl⟩ | ⟨rfl, rfl, rfl⟩
          · obtain ⟨a, rfl⟩ := len1 h1
            obtain ⟨s, rfl, ws⟩ := wd a (by simp)
            exact ⟨p, .start s, rfl, hp, fun z hz => by rw [List.mem_singleton.mp hz]; exact ws⟩
          · obtain ⟨a, b, c, e, rfl⟩ := len4 h1
            obtain ⟨s1, rfl, w1⟩ := wd a (by simp)
            obtain ⟨s2, rfl, w2⟩ := wd b (by simp)
            obtain ⟨s3, rfl, w3⟩ := wd c (by simp)
            refine ⟨p, .call s1 s2 s3 e, rfl, hp, fun z hz => ?_⟩
            have hz : z ∈ [s1, s2, s3] := hz
            simp only [List.mem_cons, List.not_mem_nil, or_false] at hz
            rcases hz with rfl | rfl | rfl <;> assumption
          · obtain ⟨a, b, c, rfl⟩ := len3 h1
            obtain ⟨s1, rfl, w1⟩ := wd a (by simp)
            obtain ⟨s2, rfl, w2⟩ := wd b (by simp)
            obtain ⟨s3, rfl, w3⟩ := wd c (by simp)
            refine ⟨p, .join true s1 s2 s3, rfl, hp, fun z hz => ?_⟩
            have hz : z ∈ [s1, s2, s3] := hz
            simp only [List.mem_cons, List.not_mem_nil, or_false] at hz
            rcases hz with rfl | rfl | rfl <;> assumption
          · obtain ⟨a, b, c, rfl⟩ := len3 h1
            obtain ⟨s1, rfl, w1⟩ := wd a (by simp)
            obtain ⟨s2, rfl, w2⟩ := wd b (by simp)
            obtain ⟨s3, rfl, w3⟩ := wd c (by simp)
            refine ⟨p, .join false s1 s2 s3, rfl, hp, fun z hz => ?_⟩
            have hz : z ∈ [s1, s2, s3] := hz
            simp only [List.mem_cons, List.not_mem_nil, or_false] at hz
            rcases hz with rfl | rfl | rfl <;> assumption
          · obtain ⟨a, b, c, e, rfl⟩ := len4 h1
            obtain ⟨s1, rfl, w1⟩ := wd a (by simp)
            obtain ⟨s2, rfl, w2⟩ := wd b (by simp)
            refine ⟨p, .whr s1 s2 c e, rfl, hp, fun z hz => ?_⟩
            have hz : z ∈ [s1, s2] := hz
            simp only [List.mem_cons, List.not_mem_nil, or_false] at hz
            rcases hz with rfl | rfl <;> assumption
          · obtain ⟨a, b, c, rfl⟩ := len3 h1
            obtain ⟨s1, rfl, w1⟩ := wd a (by simp)
            obtain ⟨s2, rfl, w2⟩ := wd b (by simp)
            refine ⟨p, .take s1 s2 c, rfl, hp, fun z hz => ?_⟩
            have hz : z ∈ [s1, s2] := hz
            simp only [List.mem_cons, List.not_mem_nil, or_false] at hz
            rcases hz with rfl | rfl <;> assumption
      | int i => cases h
      | bl b => cases h
      | non => cases h
      | ref a => cases h
      | byt b => cases h
      | flt x => cases h
      | ty n => cases h
/-- the step that stands there -/
def stxOf (xs : List V) : StX := match xs with
  | [.str _, .str n] => .start n
  | [.str k, .str n, .str o, .str s, y] => if k = "call" then .call n o s y else .whr n o (.str s) y
  | [.str _, .str n, .str o, x, y] => .whr n o x y
  | [.str k, .str n, .str o, .str s] => if k = "take" then .take n o (.str s) else .join (decide (k = "both")) n o s
  | [.str _, .str n, .str o, x] => .take n o x
  | _ => .start ""
def formB (H : Hp) (v : V) : Bool := hlnB H v && match tupOf H v with
  | some xs => (stxOf xs).okB H
  | none => false
theorem stx_vs (sx : StX) : stxOf sx.vs = sx := by
  cases sx with
  | start n => rfl
  | join b n x y => cases b <;> rfl
  | take n o x => cases x <;> rfl
  | call n o s y => rfl
  | whr n o x y => cases x <;> rfl
theorem form_at {H : Hp} {p : Addr} {sx : StX} (h : H p = some (.tup sx.vs)) (hl : hlnB H (.ref p) = true) : formB H (.ref p) = sx.okB H := by
  unfold formB
  rw [hl, tupOf_tup h, Bool.true_and]
  show (stxOf sx.vs).okB H = sx.okB H
  rw [stx_vs]
theorem hln_of {H : Hp} {p : Addr} {sx : StX} (h : H p = some (.tup sx.vs)) (hw : ∀ s ∈ sx.ns, Wd s) : hlnB H (.ref p) = true := by
  unfold hlnB
  rw [tupOf_tup h]
  have wb : ∀ s ∈ sx.ns, wordV (.str s) = true := fun s hs => wd_b (hw s hs)
  have k1 : kindOf "start" = some (2, 1) := by decide +kernel
  have k2 : kindOf "call" = some (5, 3) := by decide +kernel
  have k3 : kindOf "both" = some (4, 3) := by decide +kernel
  have k4 : kindOf "pair" = some (4, 3) := by decide +kernel
  have k5 : kindOf "where" = some (5, 2) := by decide +kernel
  have k6 : kindOf "take" = some (4, 2) := by decide +kernel
  cases sx with
  | start n => simp [StX.vs, k1, wb n (by simp [StX.ns])]
  | join b n x y => cases b <;> simp [StX.vs, k3, k4, wb n (by simp [StX.ns]), wb x (by simp [StX.ns]), wb y (by simp [StX.ns])]
  | take n o x => simp [StX.vs, k6, wb n (by simp [StX.ns]), wb o (by simp [StX.ns])]
  | call n o s y => simp [StX.vs, k2, wb n (by simp [StX.ns]), wb o (by simp [StX.ns]), wb s (by simp [StX.ns])]
  | whr n o x y => simp [StX.vs, k5, wb n (by simp [StX.ns]), wb o (by simp [StX.ns])]
/-- a step of the right form, as data -/
theorem idx_int {v : V} (h : idxB v = true) : ∃ i : Int, v = .int i ∧ 0 ≤ i := by
  cases v with
  | int i => exact ⟨i, rfl, of_decide_eq_true h⟩
  | _ => cases h
theorem val_key {v : V} (h : valV' v = true) : ∃ k : Key, v = kV k ∧ KVal k := by
  obtain ⟨r, e, hr⟩ := good_rows (xs := [v]) (by rw [List.all_cons, h]; rfl)
  match r, e with
  | [k], e =>
    exact ⟨k, (List.cons.inj e).1, hr k (by simp)⟩
theorem item_at {H : Hp} {v : V} (h : itemB H v = true) : ∃ it : ItD, ItAt H v it ∧ ItOk it := by
  unfold itemB at h
  cases et : tupOf H v with
  | none =>
    rw [et] at h
    obtain ⟨i, rfl, hi⟩ := idx_int h
    exact ⟨.idx i, rfl, hi⟩
  | some xs =>
    rw [et] at h
    obtain ⟨p, rfl, hp⟩ := tupOf_some et
    cases xs with
    | nil => cases h
    | cons x r =>
      cases r with
      | nil =>
        obtain ⟨k, rfl, hk⟩ := val_key h
        exact ⟨.val k, ⟨p, rfl, hp⟩, hk⟩
      | cons y r => cases h
theorem items_at {H : Hp} : ∀ {xs : List V}, (∀ x ∈ xs, itemB H x = true) → ∃ its : List ItD, ItsAt H xs its ∧ ∀ it ∈ its, ItOk it
  | [], _ => ⟨[], .nil, fun it h => by cases h⟩
  | x :: r, h => by
    obtain ⟨it, h1, h2⟩ := item_at (h x (by simp))
    obtain ⟨its, g1, g2⟩ := items_at (xs := r) fun y hy => h y (by simp [hy])
    exact ⟨it :: its, .cons h1 g1, fun z hz => by
      rcases List.mem_cons.mp hz with rfl | hz
      · exact h2
      · exact g2 z hz⟩
theorem its_at {H : Hp} {v : V} (h : itsB H v = true) (hv : Th2 H v) : ∃ g us its, v = .ref g ∧ H g = some (.tup us) ∧ ItsAt H us its ∧ (∀ it ∈ its, ItOk it) ∧ its.length ≤ 100 := by
  unfold itsB at h
  cases et : tupOf H v with
  | none => rw [et] at h; cases h
  | some us =>
    rw [et] at h
    obtain ⟨g, rfl, hg⟩ := tupOf_some et
    obtain ⟨its, h1, h2⟩ := items_at fun x hx => List.all_eq_true.mp h x hx
    refine ⟨g, us, its, rfl, hg, h1, h2, ?_⟩
    rw [← Paired.length h1]
    exact (hv.it us et).1
theorem form_st {H : Hp} {v : V} (h : formB H v = true) (hv : Th3 H v) : ∃ (p : Addr) (st : StD), v = .ref p ∧ StAt H p st ∧ StOk st := by
  have hl : hlnB H v = true := by
    unfold formB at h
    rw [Bool.and_eq_true] at h
    exact h.1
  obtain ⟨p, sx, rfl, hp, hw⟩ := hln_st hl
  rw [form_at hp hl] at h
  have hx := (hv.it _ (tupOf_tup hp)).2
  cases sx with
  | start n => exact ⟨p, .start n, rfl, hp, ⟨hw, (fun it h => by cases h), Nat.zero_le _⟩⟩
  | join b n x y => exact ⟨p, .join b n x y, rfl, hp, ⟨hw, (fun it h => by cases h), Nat.zero_le _⟩⟩
  | take n o x =>
    obtain ⟨g, us, its, rfl, hg, h1, h2, h3⟩ := its_at (H := H) (v := x) h (hx x (by simp [StX.vs]))
    exact ⟨p, .take n o its, rfl, ⟨g, us, hp, hg, h1⟩, ⟨hw, h2, h3⟩⟩
  | call n o s y =>
    obtain ⟨g, us, its, rfl, hg, h1, h2, h3⟩ := its_at (H := H) (v := y) h (hx y (by simp [StX.vs]))
    exact ⟨p, .call n o s its, rfl, ⟨g, us, hp, hg, h1⟩, ⟨hw, h2, h3⟩⟩
  | whr n o x y =>
    have h : (idxB x && itemB H y) = true := h
    rw [Bool.and_eq_true] at h
    obtain ⟨i, rfl, hi⟩ := idx_int h.1
    obtain ⟨it, h1, h2⟩ := item_at h.2
    refine ⟨p, .whr n o i it, rfl, ⟨y, hp, h1⟩, ⟨hw, fun z hz => ?_, by show 2 ≤ 100; decide⟩⟩
    have hz : z ∈ [ItD.idx i, it] := hz
    rcases List.mem_cons.mp hz with rfl | hz
    · exact hi
    · rw [List.mem_singleton.mp hz]
      exact h2
def StX.lastB : StX → Bool
  | .whr _ _ x _ => idxB x
  | _ => true
theorem Th2.down {H : Hp} {v : V} (h : Th2 H v) : Th1 H v := ⟨h.th, fun xs e => ⟨(h.it xs e).1, fun x hx => ((h.it xs e).2 x hx).th⟩⟩
/-- what stands for the items of a step -/
def ItU (H : Hp) (sx : StX) (u : V) : Prop := Th2 H u ∧ sx.okB H = (match tupOf H u with
  | some us => us.all (itemB H) && sx.lastB
  | none => false)
theorem idx_item {H : Hp} {x : V} (h : idxB x = true) : itemB H x = true := by
  obtain ⟨i, rfl, hi⟩ := idx_int h
  exact decide_eq_true hi
section
variable {P : Program} {w : World} {K : PySem.W.Frag} {mg : Str → Option Value} {base : Heap} {a : Nat → Addr} {d : Nat → FuncData}
def spItemsX : Sp := fun vs H Q _ => ∃ (p : Addr) (sx : StX), vs = [.ref p] ∧ H p = some (.tup sx.vs) ∧ (∀ x ∈ sx.vs, Th2 H x) ∧ ∀ (u : V) (H' : Hp), ItU H' sx u → Same H H' → Q u H'
theorem ok_itemsX (T : Txt K mg a d) : FnOk P w K mg base CX0 1 (a 19) (d 19) ["step"] spItemsX := by
  refine T.F19.ok sc_items_of (fun vs H Q E h => ?_) (fun cdv A outer s H vs Q E hr h => ?_)
  · obtain ⟨p, sx, rfl, _⟩ := h
    rfl
  · obtain ⟨p, sx, rfl, hs, hx, q⟩ := h
    refine ⟨_, (pss_cons (ps_if (pt_cmpR op_eq (pe_ix ix_tup (pv 0) pe_int (fun _ _ => rfl)) pe_str (nomark _))
    (pss_one (ps_ret (pe_slice sl_tupA (pv 0) (po_some pe_int) (po_some pe_int))))
    pss_nil)
  (pss_one (ps_ret (pe_ifExp (pt_cmpR op_in_seq (pe_ix ix_tup (pv 0) pe_int (fun _ _ => rfl)) (pe_tup (pa_cons pe_str (pa_cons pe_str pa_nil))) (by rfl)) (pe_ix ix_tup (pv 0) (pe_un un_neg pe_int) (fun _ _ => rfl)) (pe_tup pa_nil))))), ?_⟩
    have kp1 : ∀ {H'}, Same H H' → ∀ x ∈ sx.vs, Th2 H' x := fun s x h => (hx x h).kp (Kp.same s)
    cases sx with
    | start n =>
      refine ⟨_, rfl, _, _, _, _, rfl, rfl, .of hs, atI_nat (j := 0) rfl, rfl, _, rfl, ite_d (fun e => absurd (V.str.inj e) (by decide +kernel)) (fun _ => ?_)⟩
      refine ⟨_, rfl, _, _, _, _, rfl, rfl, .of hs, atI_nat (j := 0) rfl, by show 2 ≤ sizeLine; decide, fun t ht => ⟨t, _, rfl, .inr (.of upd_same), rfl, rfl, _, rfl, ?_⟩⟩
      rw [if_neg Bool.false_ne_true, show inV (V.str (Str.ofString "start")) [V.str (Str.ofString "call"), V.str (Str.ofString "take")] = false from by decide +kernel]
      exact ifF ⟨Nat.zero_le _, fun e he => q (.ref e) _ ⟨.tup upd_same (by decide) (fun x h => by cases h), by rw [tupOf_tup upd_same]; rfl⟩ ((same_upd ht).trans (same_upd he))⟩
    | join b n x y =>
      have hs : H p = some (.tup [.str (if b then "both" else "pair"), .str n, .str x, .str y]) := hs
      refine ⟨_, rfl, _, _, _, _, rfl, rfl, .of hs, atI_nat (j := 0) rfl, rfl, _, rfl, ite_d (fun e => absurd (V.str.inj e) (by cases b <;> decide +kernel)) (fun _ => ?_)⟩
      refine ⟨_, rfl, _, _, _, _, rfl, rfl, .of hs, atI_nat (j := 0) rfl, by show 2 ≤ sizeLine; decide, fun t ht => ⟨t, _, rfl, .inr (.of upd_same), rfl, rfl, _, rfl, ?_⟩⟩
      rw [if_neg Bool.false_ne_true, show inV (V.str (if b then "both" else "pair")) [V.str (Str.ofString "call"), V.str (Str.ofString "take")] = false from by cases b <;> decide +kernel]
      exact ifF ⟨Nat.zero_le _, fun e he => q (.ref e) _ ⟨.tup upd_same (by decide) (fun x h => by cases h), by rw [tupOf_tup upd_same]; rfl⟩ ((same_upd ht).trans (same_upd he))⟩
    | take n o x =>
      have hx0 := hx x (by simp [StX.vs])
      refine ⟨_, rfl, _, _, _, _, rfl, rfl, .of hs, atI_nat (j := 0) rfl, rfl, _, rfl, ite_d (fun e => absurd (V.str.inj e) (by decide +kernel)) (fun _ => ?_)⟩
      refine ⟨_, rfl, _, _, _, _, rfl, rfl, .of hs, atI_nat (j := 0) rfl, by show 2 ≤ sizeLine; decide, fun t ht => ⟨t, _, rfl, .inr (.of upd_same), rfl, rfl, _, rfl, ?_⟩⟩
      have st := same_upd (o := .tup [.str "call", .str "take"]) ht
      rw [if_neg Bool.false_ne_true, show inV (V.str (Str.ofString "take")) [V.str (Str.ofString "call"), V.str (Str.ofString "take")] = true from by decide +kernel]
      refine ifT ⟨_, rfl, _, rfl, _, _, _, _, rfl, rfl, .of (st _ _ hs), rfl, q x _ ⟨hx0.kp (Kp.same st), ?_⟩ st⟩
      show itsB _ x = _
      unfold itsB
      cases tupOf _ x with
      | none => rfl
      | some us => exact (Bool.and_true _).symm
    | call n o s y =>
      have hx0 := hx y (by simp [StX.vs])
      refine ⟨_, rfl, _, _, _, _, rfl, rfl, .of hs, atI_nat (j := 0) rfl, rfl, _, rfl, ite_d (fun e => absurd (V.str.inj e) (by decide +kernel)) (fun _ => ?_)⟩
      refine ⟨_, rfl, _, _, _, _, rfl, rfl, .of hs, atI_nat (j := 0) rfl, by show 2 ≤ sizeLine; decide, fun t ht => ⟨t, _, rfl, .inr (.of upd_same), rfl, rfl, _, rfl, ?_⟩⟩
      have st := same_upd (o := .tup [.str "call", .str "take"]) ht
      rw [if_neg Bool.false_ne_true, show inV (V.str (Str.ofString "call")) [V.str (Str.ofString "call"), V.str (Str.ofString "take")] = true from by decide +kernel]
      refine ifT ⟨_, rfl, _, rfl, _, _, _, _, rfl, rfl, .of (st _ _ hs), rfl, q y _ ⟨hx0.kp (Kp.same st), ?_⟩ st⟩
      show itsB _ y = _
      unfold itsB
      cases tupOf _ y with
      | none => rfl
      | some us => exact (Bool.and_true _).symm
    | whr n o x y =>
      have hx0 := hx x (by simp [StX.vs])
      have hy0 := hx y (by simp [StX.vs])
      refine ⟨_, rfl, _, _, _, _, rfl, rfl, .of hs, atI_nat (j := 0) rfl, rfl, _, rfl, ite_d (fun _ => ?_) (fun e => absurd rfl e)⟩
      refine ⟨_, rfl, _, rfl, _, rfl, ?_⟩
      refine ⟨p, _, rfl, .of hs, fun e => absurd e.1 (show ¬ ((3 : Nat) = 0) by decide), fun _ t ht => ?_⟩
      have st := same_upd (o := .tup [x, y]) ht
      refine q (.ref t) _ ⟨.tup upd_same (by show 2 ≤ 100; decide) (fun z hz => ?_), ?_⟩ st
      · have hz : z ∈ [x, y] := hz
        have h1 : Th2 H z := hx z (by
          simp only [List.mem_cons, List.not_mem_nil, or_false] at hz
          rcases hz with rfl | rfl <;> simp [StX.vs])
        exact h1.down.kp (Kp.same st)
      · have e0 : tupOf (upd H t (.tup (cutV (StX.whr n o x y).vs (some 3) (some 5)))) (.ref t) = some [x, y] := tupOf_tup upd_same
        rw [e0]
        show (idxB x && itemB _ y) = ((itemB _ x && (itemB _ y && true)) && idxB x)
        cases ei : idxB x with
        | false => rw [Bool.false_and, Bool.and_false]
        | true => rw [idx_item ei, Bool.true_and, Bool.true_and, Bool.and_true, Bool.and_true]
theorem ok_formX (T : Txt K mg a d) (W : TxtN K w a) : FnOk P w K mg base CX0 4 (a 23) (d 23) ["step"] (spStepB formB) := by
  have G22 : FnOk P w K mg base CX0 3 (a 22) (d 22) ["step"] (spStepB hlnB) := ok_hlnX T W
  have G19 : FnOk P w K mg base CX0 1 (a 19) (d 19) ["step"] spItemsX := ok_itemsX T
  have G21 : FnOk P w K mg base CX0 3 (a 21) (d 21) ["thing"] spItemX := ok_itemX T
  have G20 : FnOk P w K mg base CX0 2 (a 20) (d 20) ["thing"] (spB idxB) := ok_indexX T
  refine T.F23.ok sc__has_form (fun vs H Q E h => ?_) (fun cdv A outer s H vs Q E hr h => ?_)
  · obtain ⟨v, rfl, _⟩ := h
    rfl
  · obtain ⟨v, rfl, hv, q⟩ := h
    refine ⟨_, (pss_cons (ps_if (pt_not (pt_val (pe_call G22 (hr.mono (by decide)) (by rfl) T.g22 T.F22.kp T.b22 .nil pass0 (pa_cons (pv 0) pa_nil))))
    (pss_one (ps_ret pe_bl))
    pss_nil)
  (pss_cons (ps_set (i := 1) sc__has_form.nd rfl (.inl rfl) (pe_call G19 (hr.mono (by decide)) (by rfl) T.g19 T.F19.kp T.b19 .nil pass0 (pa_cons (pv 0) pa_nil)))
  (pss_cons (ps_if (PW.pt (pw_or (pt_not (pt_val (pe_callB (id := "isinstance")  call_isi (by rfl) T.z_isinstance (by decide +kernel) (pa_cons (pv 1) (pa_cons (pe_bltn (v := .ty "tuple") (by rfl) T.z_tuple (by decide +kernel) rfl) pa_nil))))) (pw_or1 (pt_not (pt_val (pe_callB (id := "all")  (cr_all rfl) (by rfl) T.z_all (by decide +kernel) (pa_cons (pe_lc (own := [("item", 2)]) rfl sc__has_form.nd (pi_tup (pv 1)) (blkOk_by (N := ["step", "items", "item"]) (sc := defScope s__has_form) (by decide +kernel)) (fun _ _ _ _ _ => pg_name (i := 2) sc__has_form.nd rfl (.inl rfl)) (fun _ _ _ _ _ => pts_nil) (fun _ _ _ _ _ => (pe_call G21 (hr.mono (by decide)) (by rfl) T.g21 T.F21.kp T.b21 .nil pass0 (pa_cons (pv 2) pa_nil)))) pa_nil)))))))
    (pss_one (ps_ret pe_bl))
    pss_nil)
  (pss_one (ps_ret (pe_or (pe_cmpR op_ne (pe_ix ix_tup (pv 0) pe_int (fun _ _ => rfl)) pe_str (nomark _)) (pe_one (pe_call G20 (hr.mono (by decide)) (by rfl) T.g20 T.F20.kp T.b20 .nil pass0 (pa_cons (pe_ix ix_tup (pv 0) pe_int (fun _ _ => rfl)) pa_nil))))))))), ?_⟩
    refine ⟨_, rfl, v, rfl, hv, fun H1 s1 => ⟨_, rfl, ?_⟩⟩
    cases eh : hlnB H v with
    | false =>
      have ef : formB H v = false := by unfold formB; rw [eh]; rfl
      exact ifT (ef ▸ q H1 s1)
    | true =>
      obtain ⟨p, sx, rfl, hp, hw⟩ := hln_st eh
      have ef := form_at hp eh
      rw [ef] at q
      have hx := (hv.it _ (tupOf_tup hp)).2
      refine ifF ?_
      refine ⟨_, rfl, p, sx, rfl, s1 _ _ hp, fun x h => (hx x h).kp (Kp.same s1), fun u H2 hu s2 => ?_⟩
      obtain ⟨hu2, he⟩ := hu
      have s02 := s1.trans s2
      have okk : sx.okB H2 = sx.okB H := by
        cases sx with
        | start n => rfl
        | join b n x y => rfl
        | take n o x => exact itsB_kp (hx x (by simp [StX.vs])) (Kp.same s02)
        | call n o s y => exact itsB_kp (hx y (by simp [StX.vs])) (Kp.same s02)
        | whr n o x y => show (idxB x && itemB H2 y) = (idxB x && itemB H y); rw [itemB_kp (hx y (by simp [StX.vs])).th (Kp.same s02)]
      rw [okk] at he
      rw [he] at q
      obtain ⟨n, hty, k1⟩ := hu2.th.tyT (K := K)
      refine ⟨_, rfl, _, _, _, _, _, rfl, .ty _, hty, kit_ty k1, _, rfl, ?_⟩
      cases et : tupOf H2 u with
      | none =>
        rw [et] at q
        exact ifT (q _ s02)
      | some us =>
        rw [et] at q
        have q : ∀ H', Same H H' → Q (.bl (us.all (itemB H2) && sx.lastB)) H' := q
        obtain ⟨g, rfl, hg⟩ := tupOf_some et
        obtain ⟨hl, hux⟩ := hu2.it us et
        refine ifF ?_
        refine ⟨_, rfl, g, rfl, ⟨_, .of hg⟩, fun D hD => ?_⟩
        refine lc_tup (K := K) (a := g) (xs := us) (fun i H' => H' D = some (.lst (((us.take i).map (itemB H2)).map V.bl)) ∧ Same H2 H') ⟨upd_same, same_upd hD⟩ (fun i H' _ hp => .of (hp.2 _ _ hg)) (fun i y H' hy hp => ?_) (fun H' hp => ?_)
        · obtain ⟨h1, h2⟩ := hp
          have li : i < us.length := (List.getElem?_eq_some_iff.mp hy).1
          have hyx := hux y (List.mem_of_getElem? hy)
          refine ⟨rfl, _, rfl, y, rfl, hyx.kp (Kp.same h2), fun H3 s3 => ?_⟩
          rw [itemB_kp hyx.th (Kp.same h2)]
          refine ⟨_, s3 _ _ h1, ?_, ?_, fun c o e => ?_⟩
          · rw [List.length_map, List.length_map, List.length_take]
            exact small1000 (by omega)
          · rw [map_take hy, List.map_append]
            exact upd_same
          · rw [upd_ne (ne_of_none e hD)]
            exact s3 _ _ (h2 _ _ e)
        · obtain ⟨h1, h2⟩ := hp
          rw [List.take_length] at h1
          refine ⟨D, _, rfl, .of h1, _, rfl, ?_⟩
          rw [show (us.map (itemB H2)).all id = us.all (itemB H2) by rw [List.all_map]; rfl]
          have s03 := s02.trans h2
          cases ea : us.all (itemB H2) with
          | false =>
            rw [ea] at q
            exact ifT (q _ s03)
          | true =>
            rw [ea] at q
            refine ifF ?_
            have hp3 := s03 _ _ hp
            cases sx with
            | start n => exact ⟨_, rfl, _, _, _, _, rfl, rfl, .of hp3, atI_nat (j := 0) rfl, rfl, _, rfl, ite_nd (fun _ => q _ s03) (fun e => absurd (V.str.inj e) (by decide +kernel))⟩
            | join b n x y => exact ⟨_, rfl, _, _, _, _, rfl, rfl, .of hp3, atI_nat (j := 0) rfl, rfl, _, rfl, ite_nd (fun _ => q _ s03) (fun e => absurd (V.str.inj e) (by show ¬ ((if b then "both" else "pair" : Str) = "where"); cases b <;> decide +kernel))⟩
            | take n o x => exact ⟨_, rfl, _, _, _, _, rfl, rfl, .of hp3, atI_nat (j := 0) rfl, rfl, _, rfl, ite_nd (fun _ => q _ s03) (fun e => absurd (V.str.inj e) (by decide +kernel))⟩
            | call n o s y => exact ⟨_, rfl, _, _, _, _, rfl, rfl, .of hp3, atI_nat (j := 0) rfl, rfl, _, rfl, ite_nd (fun _ => q _ s03) (fun e => absurd (V.str.inj e) (by decide +kernel))⟩
            | whr n o x y =>
              refine ⟨_, rfl, _, _, _, _, rfl, rfl, .of hp3, atI_nat (j := 0) rfl, rfl, _, rfl, ite_nd (fun e => absurd rfl e) (fun _ => ?_)⟩
              exact ⟨_, rfl, _, _, _, _, rfl, rfl, .of hp3, atI_nat (j := 3) rfl, x, rfl, (hx x (by simp [StX.vs])).th.same s03, fun H4 s4 => q _ (s03.trans s4)⟩
end
noncomputable def stV (H : Hp) (v : V) : StD := open Classical in if h : ∃ (st : StD), ∃ p, v = .ref p ∧ StAt H p st ∧ StOk st then h.choose else .start ""
theorem stV_at {H : Hp} {v : V} (h : formB H v = true) (hv : Th3 H v) : ∃ p, v = .ref p ∧ StAt H p (stV H v) ∧ StOk (stV H v) := by
  obtain ⟨p, st, e, h1, h2⟩ := form_st h hv
  have hx : ∃ (st : StD), ∃ p, v = .ref p ∧ StAt H p st ∧ StOk st := ⟨st, p, e, h1, h2⟩
  unfold stV
  rw [dif_pos hx]
  exact hx.choose_spec
theorem formB_kp {H H' : Hp} {v : V} (h : Th3 H v) (k : Kp H H') : formB H' v = formB H v := by
  have e1 : hlnB H' v = hlnB H v := by
    unfold hlnB
    rw [tupOf_kp h.th k]
  cases eh : hlnB H v with
  | false =>
    unfold formB
    rw [e1, eh]
    rfl
  | true =>
    obtain ⟨p, sx, rfl, hp, hw⟩ := hln_st eh
    have hp' : H' p = some (.tup sx.vs) := k.tup _ _ hp
    rw [form_at hp eh, form_at hp' (e1.trans eh)]
    have hx := (h.it _ (tupOf_tup hp)).2
    cases sx with
    | start n => rfl
    | join b n x y => rfl
    | take n o x => exact itsB_kp (hx x (by simp [StX.vs])) k
    | call n o s y => exact itsB_kp (hx y (by simp [StX.vs])) k
    | whr n o x y => show (idxB x && itemB H' y) = (idxB x && itemB H y); rw [itemB_kp (hx y (by simp [StX.vs])).th k]
section
variable {P : Program} {w : World} {K : PySem.W.Frag} {mg : Str → Option Value} {base : Heap} {a : Nat → Addr} {d : Nat → FuncData}
def spWrongX (C : Addr) : Sp := fun vs H Q _ => ∃ (sp z : Addr) (v : V) (st : StD) (sz : Str → Option SzD) (ts : List (Str × Int)) (ks : List KeyE) (ss : List SvE) (m n : Nat), vs = [.ref sp, v, .ref z] ∧ SchAt C sp H ts ks ss m n ∧ Th3 H v ∧ SzAt H z sz ∧ SzIn sz ∧ (formB H v = true → ∃ p, v = .ref p ∧ StAt H p st ∧ StOk st) ∧ (formB H v = false → ∀ H', Same H H' → Q (.str "form") H') ∧ (formB H v = true → ∀ H', Same H H' → Q (optS (wrongOf ts ss sz st)) H')
theorem ok_wrongX (T : Txt K mg a d) (W : TxtN K w a) : FnOk P w K mg base CX0 6 (a 29) (d 29) ["schema", "step", "sizes"] (spWrongX (a 47)) := by
  have G23 : FnOk P w K mg base CX0 4 (a 23) (d 23) ["step"] (spStepB formB) := ok_formX T W
  have G25 : FnOk P w K mg base CX0 2 (a 25) (d 25) ["schema", "step", "sizes"] (spHasN (a 47)) := ok_hasn T
  have G26 : FnOk P w K mg base CX0 5 (a 26) (d 26) ["schema", "step", "sizes"] (spHasI (a 47)) := ok_hasi T
  have G27 : FnOk P w K mg base CX0 5 (a 27) (d 27) ["schema", "step", "sizes"] (spSize (a 47)) := ok_size T
  have G28 : FnOk P w K mg base CX0 1 (a 28) (d 28) ["step", "sizes"] spJoin := ok_join T
  refine T.F29.ok sc__wrong_part (fun vs H Q E h => ?_) (fun cdv A outer s H vs Q E hr h => ?_)
  · obtain ⟨sp, z, v, st, sz, ts, ks, ss, m, n, rfl, _⟩ := h
    rfl
  · obtain ⟨sp, z, v, st, sz, ts, ks, ss, m, n, rfl, hS, hv, hz, hzi, hst, qf, q⟩ := h
    obtain ⟨t1, h_MOST_WIDTH_programs⟩ := T.c_MOST_WIDTH_programs
    obtain ⟨t2, h_MOST_PARTS⟩ := T.c_MOST_PARTS
    obtain ⟨t3, h_MOST_CALLS⟩ := T.c_MOST_CALLS
    refine ⟨_, (pss_cons (ps_if (pt_not (pt_val (pe_call G23 (hr.mono (by decide)) (by rfl) T.g23 T.F23.kp T.b23 .nil pass0 (pa_cons (pv 1) pa_nil))))
    (pss_one (ps_ret pe_str))
    pss_nil)
  (pss_cons (ps_if (pt_not (pt_val (pe_call G25 (hr.mono (by decide)) (by rfl) T.g25 T.F25.kp T.b25 .nil pass0 (pa_cons (pv 0) (pa_cons (pv 1) (pa_cons (pv 2) pa_nil))))))
    (pss_one (ps_ret pe_str))
    pss_nil)
  (pss_cons (ps_if (pt_not (pt_val (pe_call G26 (hr.mono (by decide)) (by rfl) T.g26 T.F26.kp T.b26 .nil pass0 (pa_cons (pv 0) (pa_cons (pv 1) (pa_cons (pv 2) pa_nil))))))
    (pss_one (ps_ret pe_str))
    pss_nil)
  (pss_cons (ps_asg (pe_call G27 (hr.mono (by decide)) (by rfl) T.g27 T.F27.kp T.b27 .nil pass0 (pa_cons (pv 0) (pa_cons (pv 1) (pa_cons (pv 2) pa_nil)))) (pg_tup rfl (pgs_cons (pg_name (i := 3) sc__wrong_part.nd rfl (.inl rfl)) (pgs_cons (pg_name (i := 4) sc__wrong_part.nd rfl (.inl rfl)) (pgs_cons (pg_name (i := 5) sc__wrong_part.nd rfl (.inl rfl)) pgs_nil)))))
  (pss_cons (ps_if (PW.pt (pw_or (pt_cmpR op_gt (pv 3) (pe_glob (v := .int (12)) rfl h_MOST_WIDTH_programs ⟨_, rfl⟩) (nomark _)) (pw_or1 (pt_not (pt_val (pe_call G28 (hr.mono (by decide)) (by rfl) T.g28 T.F28.kp T.b28 .nil pass0 (pa_cons (pv 1) (pa_cons (pv 2) pa_nil))))))))
    (pss_one (ps_ret pe_str))
    pss_nil)
  (pss_one (ps_ret (pe_ifExp (PW.pt (pw_or (pt_cmpR op_gt (pv 4) (pe_glob (v := .int (16)) rfl h_MOST_PARTS ⟨_, rfl⟩) (nomark _)) (pw_or1 (pt_cmpR op_gt (pv 5) (pe_glob (v := .int (4)) rfl h_MOST_CALLS ⟨_, rfl⟩) (nomark _))))) pe_str pe_non)))))))), ?_⟩
    refine ⟨_, rfl, v, rfl, hv, fun H1 s1 => ⟨_, rfl, ?_⟩⟩
    cases ef : formB H v with
    | false => exact ifT (qf ef H1 s1)
    | true =>
    specialize q ef
    obtain ⟨p, rfl, hs, ho⟩ := hst ef
    refine ifF ?_
    refine ⟨_, rfl, _, rfl, _, rfl, sp, p, z, st, sz, ts, ks, ss, m, n, rfl, hS.same s1, hs.keeps fun _ _ e => s1 _ _ e, hz.same s1, fun H2 s2 => ⟨_, rfl, ?_⟩⟩
    have s12 := s1.trans s2
    have wr : wrongOf ts ss sz st = wrongOf ts ss sz st := rfl
    unfold wrongOf at q
    cases e1 : namesB sz ss st with
    | false =>
      rw [if_pos e1] at q
      exact ifT (q H2 s12)
    | true =>
      rw [if_neg (by rw [e1]; decide)] at q
      refine ifF ?_
      have hu := names_used e1
      have hS2 := hS.same s12
      obtain ⟨dx, d1, d2, d3, O⟩ := hS2
      have cl : ∀ n o s its, st = .call n o s its → ∃ b ∈ ss, b.name = s ∧ b.cols.length = kOf ss st ∧ (b.tab, wOf ts ss st) ∈ ts := fun n o s its e => by
        subst e
        obtain ⟨b, hb⟩ := names_call e1
        have hm := svAt_mem hb
        refine ⟨b, hm.1, hm.2, ?_, ?_⟩
        · show _ = ((svAt ss s).map fun b => b.cols.length).getD 0
          rw [hb]
          rfl
        · show (b.tab, ((svAt ss s).map fun b => widthAt ts b.tab).getD 0) ∈ ts
          rw [hb]
          exact svOk_w O.hT O.hS hm.1
      refine ⟨_, rfl, _, rfl, _, rfl, sp, p, z, st, sz, ts, ks, ss, m, n, kOf ss st, rfl, hS.same s12, hs.keeps fun _ _ e => s12 _ _ e, hz.same s12, hu, ho.len, fun n o s its e => by obtain ⟨b, h1, h2, h3, _⟩ := cl n o s its e; exact ⟨b, h1, h2, h3⟩, fun H3 s3 => ⟨_, rfl, ?_⟩⟩
      have s13 := s12.trans s3
      cases e2 : itemsB sz (kOf ss st) st with
      | false =>
        rw [if_pos e2] at q
        exact ifT (q H3 s13)
      | true =>
        rw [if_neg (by rw [e2]; decide)] at q
        refine ifF ?_
        refine ⟨_, rfl, _, rfl, _, rfl, sp, p, z, st, sz, ts, ks, ss, m, n, wOf ts ss st, rfl, hS.same s13, hs.keeps fun _ _ e => s13 _ _ e, hz.same s13, hzi, hu, fun n o s its e => by obtain ⟨b, h1, h2, _, h4⟩ := cl n o s its e; exact ⟨b, h1, h2, h4⟩, fun g H4 hg _ s4 => ?_⟩
        have s14 := s13.trans s4
        refine ⟨g, _, rfl, .of hg, rfl, _, _, rfl, _, _, rfl, _, _, rfl, rfl, ?_⟩
        refine ⟨_, rfl, _, _, rfl, rfl, _, rfl, ite_d (fun h1 => ?_) (fun h1 => ?_)⟩
        · rw [if_pos (.inl h1)] at q
          exact q H4 s14
        · refine ⟨_, rfl, _, rfl, p, z, st, sz, rfl, hs.keeps fun _ _ e => s14 _ _ e, hz.same s14, hu, _, rfl, ?_⟩
          cases e3 : joinB sz st with
          | false =>
            rw [if_pos (.inr e3)] at q
            exact ifT (q H4 s14)
          | true =>
            rw [if_neg (by rintro (h | h); exact h1 h; rw [e3] at h; cases h)] at q
            refine ifF ?_
            refine ⟨_, rfl, _, _, rfl, rfl, _, rfl, ite_d (fun h2 => ?_) (fun h2 => ?_)⟩
            · rw [if_pos (.inl h2)] at q
              exact q H4 s14
            · refine ⟨_, rfl, _, _, rfl, rfl, _, rfl, ite_d (fun h3 => ?_) (fun h3 => ?_)⟩
              · rw [if_pos (.inr h3)] at q
                exact q H4 s14
              · rw [if_neg (by rintro (h | h); exact h2 h; exact h3 h)] at q
                exact q H4 s14
end
/-! ### the steps, one after the other -/
noncomputable def runV (H : Hp) (ts : List (Str × Int)) (ss : List SvE) : List V → (Str → Option SzD) → Nat → (Str × Nat) ⊕ (Str → Option SzD)
  | [], sz, _ => .inr sz
  | v :: r, sz, i => match formB H v with
    | false => .inl ("form", i)
    | true => match wrongOf ts ss sz (stV H v) with
      | some u => .inl (u, i)
      | none => runV H ts ss r (putS sz (stV H v).name (sizeOf sz (wOf ts ss (stV H v)) (stV H v))) (i + 1)
theorem runV_append {H : Hp} {ts : List (Str × Int)} {ss : List SvE} {ys : List V} : ∀ {xs : List V} {sz sz' : Str → Option SzD} {i : Nat}, runV H ts ss xs sz i = .inr sz' → runV H ts ss (xs ++ ys) sz i = runV H ts ss ys sz' (i + xs.length)
  | [], sz, sz', i, h => by
    cases h
    rfl
  | v :: r, sz, sz', i, h => by
    have h : (match formB H v with
      | false => .inl (("form" : Str), i)
      | true => match wrongOf ts ss sz (stV H v) with
        | some u => .inl (u, i)
        | none => runV H ts ss r (putS sz (stV H v).name (sizeOf sz (wOf ts ss (stV H v)) (stV H v))) (i + 1)) = Sum.inr sz' := h
    show (match formB H v with
      | false => Sum.inl (("form" : Str), i)
      | true => match wrongOf ts ss sz (stV H v) with
        | some u => .inl (u, i)
        | none => runV H ts ss (r ++ ys) (putS sz (stV H v).name (sizeOf sz (wOf ts ss (stV H v)) (stV H v))) (i + 1)) = _
    cases ef : formB H v with
    | false => rw [ef] at h; cases h
    | true =>
      rw [ef] at h
      cases e : wrongOf ts ss sz (stV H v) with
      | some u => simp only [e] at h; cases h
      | none =>
        simp only [e] at h ⊢
        rw [show i + (v :: r).length = i + 1 + r.length by rw [List.length_cons]; omega]
        exact runV_append h
theorem lastV_name {H : Hp} {ts : List (Str × Int)} {ss : List SvE} : ∀ {xs : List V} {sz sz' : Str → Option SzD} {i : Nat}, runV H ts ss xs sz i = .inr sz' → (∀ n t, sz n = some t → (sz' n).isSome = true) ∧ ∀ v ∈ xs, (sz' (stV H v).name).isSome = true ∧ formB H v = true
  | [], sz, sz', i, h => by
    cases h
    exact ⟨fun n t e => by rw [e]; rfl, fun st h => by cases h⟩
  | v :: r, sz, sz', i, h => by
    have h : (match formB H v with
      | false => .inl (("form" : Str), i)
      | true => match wrongOf ts ss sz (stV H v) with
        | some u => .inl (u, i)
        | none => runV H ts ss r (putS sz (stV H v).name (sizeOf sz (wOf ts ss (stV H v)) (stV H v))) (i + 1)) = Sum.inr sz' := h
    cases ef : formB H v with
    | false => rw [ef] at h; cases h
    | true =>
      rw [ef] at h
      cases e : wrongOf ts ss sz (stV H v) with
      | some u => simp only [e] at h; cases h
      | none =>
        simp only [e] at h
        obtain ⟨h1, h2⟩ := lastV_name h
        have hp : ∀ x, putS sz (stV H v).name (sizeOf sz (wOf ts ss (stV H v)) (stV H v)) x = if x = (stV H v).name then some (sizeOf sz (wOf ts ss (stV H v)) (stV H v)) else sz x := fun x => rfl
        refine ⟨fun n t en => ?_, fun s hs => ?_⟩
        · by_cases e' : n = (stV H v).name
          · exact h1 n _ (by rw [hp, if_pos e'])
          · exact h1 n t (by rw [hp, if_neg e']; exact en)
        · rcases List.mem_cons.mp hs with rfl | hs
          · exact ⟨h1 (stV H s).name _ (by rw [hp, if_pos rfl]), ef⟩
          · exact h2 s hs
section
variable {P : Program} {w : World} {K : PySem.W.Frag} {mg : Str → Option Value} {base : Heap} {a : Nat → Addr} {d : Nat → FuncData}
def spPInitX (CS CP CE : Addr) : Sp := fun vs H Q E => ∃ (p dx sp l : Addr) (xs : List V) (ts : List (Str × Int)) (ks : List KeyE) (ss : List SvE) (m n : Nat), vs = [.ref p, .ref sp, .ref l] ∧ H p = some (.ins CP dx []) ∧ SchAt CS sp H ts ks ss m n ∧ H l = some (.lst xs) ∧ (∀ v ∈ xs, Th3 H v) ∧ xs.length ≤ 100 ∧
  (¬ (1 ≤ xs.length ∧ xs.length ≤ 12) → ∀ H', Same H H' → Er2 CE "part" "at" (.str "steps") .non H' E) ∧ (1 ≤ xs.length → xs.length ≤ 12 →
  (∀ u i, runV H ts ss xs sz0 0 = .inl (u, i) → ∀ H', Same H H' → Er2 CE "part" "at" (.str u) (.int (i : Nat)) H' E) ∧
  (∀ sz v, runV H ts ss xs sz0 0 = .inr sz → xs.getLast? = some v → ∀ H' l', H' p = some (.ins CP dx (fldsP sp l' (szOf sz (stV H v).name))) → (∀ b o, b ≠ p → H b = some o → H' b = some o) → Q .non H'))
theorem ok_pinitX (T : Txt K mg a d) (W : TxtN K w a) : FnOk P w K mg base (L2.CX P w) 7 (a 4000) (d 4000) ["self", "schema", "steps"] (spPInitX (a 47) (a 30) (a 5)) := by
  have G29 : FnOk P w K mg base CX0 6 (a 29) (d 29) ["schema", "step", "sizes"] (spWrongX (a 47)) := ok_wrongX T W
  have G27 : FnOk P w K mg base CX0 5 (a 27) (d 27) ["schema", "step", "sizes"] (spSize (a 47)) := ok_size T
  have G1500 : FnOk P w K mg base CX0 1 (a 1500) (d 1500) ["self", "part", "at"] (spI2 (a 5) "part" "at") := ok_ipinit T
  refine T.F4000.okX sc_Program___init__ (fun vs H Q E h => ?_) (fun cdv A outer s H vs Q E hr h => ?_)
  · obtain ⟨p, dx, sp, l, xs, ts, ks, ss, m, n, rfl, _⟩ := h
    rfl
  · obtain ⟨p, dx, sp, l, xs, ts, ks, ss, m, n, rfl, hp, hS, hl, hx, x100, q0, q12⟩ := h
    obtain ⟨t1, h_MOST_STEPS⟩ := T.c_MOST_STEPS
    refine ⟨_, (pss_cons (ps_if (pt_not (pt_chain op_le op_le pe_int (pe_callB (id := "len")  call_len_seq (by rfl) T.z_len (by decide +kernel) (pa_cons (pv 2) pa_nil)) (pe_glob (v := .int (12)) rfl h_MOST_STEPS ⟨_, rfl⟩)))
    (pss_one (ps_raise rfl (takes_of rfl rfl rfl rfl) (pmk_oex T.x_5 T.in_5 T.ti_5 G1500 (hr.mono (by decide)) T.b1500 .nil pass0 (by rfl) T.cg_5 (pa_cons pe_str (pa_cons pe_non pa_nil)))))
    pss_nil)
  (pss_cons (ps_set (i := 3) sc_Program___init__.nd rfl (.inl rfl) pe_dnewK)
  (pss_cons (ps_for (passes_of rfl) rfl (pi_enum (by rfl) T.z_enumerate (pa_cons (pv 2) pa_nil)) (pg_tup rfl (pgs_cons (pg_name (i := 4) sc_Program___init__.nd rfl (.inl rfl)) (pgs_cons (pg_name (i := 5) sc_Program___init__.nd rfl (.inl rfl)) pgs_nil)))
    (pss_cons (ps_set (i := 6) sc_Program___init__.nd rfl (.inl rfl) (pe_call G29 (hr.mono (by decide)) (by rfl) T.g29 T.F29.kp T.b29 .nil pass0 (pa_cons (pv 1) (pa_cons (pv 5) (pa_cons (pv 3) pa_nil)))))
      (pss_cons (ps_if (pt_cmpR op_notN (pv 6) pe_non (nomark _))
        (pss_one (ps_raise rfl (takes_of rfl rfl rfl rfl) (pmk_oex T.x_5 T.in_5 T.ti_5 G1500 (hr.mono (by decide)) T.b1500 .nil pass0 (by rfl) T.cg_5 (pa_cons (pv 6) (pa_cons (pv 4) pa_nil)))))
        pss_nil)
      (pss_one (ps_dput (hu_of hr) (pv 3) (pe_ix ix_tup (pv 5) pe_int (fun _ _ => rfl)) (pe_call G27 (hr.mono (by decide)) (by rfl) T.g27 T.F27.kp T.b27 .nil pass0 (pa_cons (pv 1) (pa_cons (pv 5) (pa_cons (pv 3) pa_nil)))) rfl)))))
  (pss_cons (ps_fld (pv 0) (pv 1) rfl)
  (pss_cons (ps_asg (pe_dget (hu_of hr) (pv 3) (pe_ix ix_tup (pe_ix ix_list (pv 2) (pe_un un_neg pe_int) (fun _ _ => rfl)) pe_int (fun _ _ => rfl)) (fun _ _ => rfl)) (pg_tup rfl (pgs_cons (pg_fld (pv 0)) (pgs_cons (pg_fld (pv 0)) (pgs_cons (pg_fld (pv 0)) pgs_nil)))))
  (pss_one (ps_fld (pv 0) (pe_callTy (T := "list")  call_list_of (by rfl) T.z_list (by decide +kernel) (pa_cons (pv 2) pa_nil)) rfl))))))), ?_⟩
    refine ⟨_, rfl, _, _, rfl, .inl (.of hl), _, _, rfl, rfl, _, rfl, ite_d (fun g1 => ?_) (fun g1 => ?_)⟩
    rotate_left
    · exact ⟨_, rfl, ifT (er2_raise (q0 (fun h => g1 (show (1 : Int) ≤ (xs.length : Int) by omega)) H (Same.refl H)))⟩
    refine ⟨_, _, rfl, rfl, _, rfl, ?_⟩
    have x1 : 1 ≤ xs.length := by
      have g1 : (1 : Int) ≤ (xs.length : Int) := g1
      omega
    show if (!decide ((xs.length : Int) ≤ 12)) = true then _ else _
    by_cases x12 : xs.length ≤ 12
    rotate_left
    · rw [decide_eq_false (show ¬ ((xs.length : Int) ≤ 12) by omega)]
      exact ifT (er2_raise (q0 (fun h => x12 h.2) H (Same.refl H)))
    obtain ⟨q1, q2⟩ := q12 x1 x12
    rw [decide_eq_true (show (xs.length : Int) ≤ 12 by omega)]
    refine ifF ?_
    intro z hz
    have s0 := same_upd (o := .dK []) hz
    refine ⟨_, rfl, l, _, rfl, .of (s0 _ _ hl), ?_⟩
    refine for_it (walk_enum (K := K) (a := l) (xs := xs)) (fun i σ H' => ∃ (sz : Str → Option SzD) (kvs : List (Key × V)) (y4 y5 y6 : Option V), σ = [some (.ref p), some (.ref sp), some (.ref l), some (.ref z), y4, y5, y6] ∧ runV H ts ss (xs.take i) sz0 0 = .inr sz ∧ SzIn sz ∧ H' z = some (.dK kvs) ∧ kvs.length ≤ i ∧ (∀ n, (sz n = none → valV kvs (.inr n) = none) ∧ ∀ t, sz n = some t → ∃ b, valV kvs (.inr n) = some (.ref b) ∧ H' b = some (.tup (szV t))) ∧ Same H H')
      ⟨sz0, [], none, none, none, rfl, rfl, (fun n t e => by cases e), upd_same, Nat.le_refl _, fun n => ⟨fun _ => rfl, fun t e => by cases e⟩, s0⟩ (fun i σ H' _ hp => ?_) (fun i v σ H' H'' hi hp hy => ?_) (fun σ H' hp => ?_)
    · obtain ⟨sz, kvs, y4, y5, y6, rfl, _, _, _, _, _, s⟩ := hp
      exact .of (s _ _ hl)
    · obtain ⟨sz, kvs, y4, y5, y6, rfl, hrun, hzi, hzd, hkl, hzk, s⟩ := hp
      obtain ⟨T', u1, u2, rfl, hT', rfl, hu1, hu2⟩ := hy
      cases hu1
      have hb := hu2
      have sT := same_upd (o := .tup [.int ((i : Nat) : Int), u2]) hT'
      have s4 := s.trans sT
      have hv := hx u2 (List.mem_of_getElem? hb)
      have hzA : SzAt (upd H' T' (.tup [.int ((i : Nat) : Int), u2])) z sz := SzAt.same ⟨kvs, hzd, hzk⟩ sT
      refine ⟨T', _, rfl, .of upd_same, rfl, _, _, rfl, _, _, rfl, rfl, ?_⟩
      have li : i < xs.length := (List.getElem?_eq_some_iff.mp hb).1
      have hsplit : xs = xs.take i ++ u2 :: xs.drop (i + 1) := by
        have := List.take_append_drop i xs
        rw [List.drop_eq_getElem_cons li, (List.getElem?_eq_some_iff.mp hb).2] at this
        exact this.symm
      have hlen : (xs.take i).length = i := by
        rw [List.length_take]
        omega
      refine ⟨_, rfl, _, rfl, _, rfl, sp, z, u2, stV H u2, sz, ts, ks, ss, m, n, rfl, hS.same s4, hv.kp (Kp.same s4), hzA, hzi, fun ef => ?_, fun ef H5 s5 => ?_, fun ef H5 s5 => ?_⟩
      · rw [formB_kp hv (Kp.same s4)] at ef
        obtain ⟨pb, e, h1, h2⟩ := stV_at ef hv
        exact ⟨pb, e, h1.keeps fun _ _ e => s4 _ _ e, h2⟩
      · rw [formB_kp hv (Kp.same s4)] at ef
        refine ⟨_, rfl, rfl, _, rfl, ite_nd (fun _ => ?_) (fun e => nomatch e)⟩
        refine ⟨_, rfl, _, rfl, er2_raise (q1 "form" i ?_ H5 (s4.trans s5))⟩
        rw [hsplit, runV_append hrun, hlen, Nat.zero_add]
        show (match formB H u2 with
          | false => Sum.inl (("form" : Str), i)
          | true => match wrongOf ts ss sz (stV H u2) with
            | some u => .inl (u, i)
            | none => _) = _
        rw [ef]
      rw [formB_kp hv (Kp.same s4)] at ef
      obtain ⟨pb, rfl, hst, hok⟩ := stV_at ef hv
      have s45 := s4.trans s5
      refine ⟨_, rfl, rfl, ?_⟩
      cases ew : wrongOf ts ss sz (stV H (.ref pb)) with
      | some u =>
        refine ⟨_, rfl, ite_nd (fun _ => ?_) (fun e => nomatch e)⟩
        refine ⟨_, rfl, _, rfl, er2_raise (q1 u i ?_ H5 s45)⟩
        rw [hsplit, runV_append hrun, hlen, Nat.zero_add]
        show (match formB H (.ref pb) with
          | false => Sum.inl (("form" : Str), i)
          | true => match wrongOf ts ss sz (stV H (.ref pb)) with
            | some u => .inl (u, i)
            | none => _) = _
        rw [ef]
        simp only [ew]
      | none =>
        refine ⟨_, rfl, ite_nd (fun e => absurd rfl e) (fun _ => ?_)⟩
        have e1 : namesB sz ss (stV H (.ref pb)) = true := (wrong_none ew).1
        obtain ⟨dx', d1, d2, d3, O⟩ := hS
        obtain ⟨rest, hb5⟩ := st_name (hst.keeps fun _ _ e => s45 _ _ e)
        refine ⟨_, rfl, _, rfl, _, rfl, sp, pb, z, stV H (.ref pb), sz, ts, ks, ss, m, n, wOf ts ss (stV H (.ref pb)), rfl, ⟨dx', d1, d2, d3, O.same s45⟩, hst.keeps fun _ _ e => s45 _ _ e, hzA.same s5, hzi, names_used e1, fun n o s' its e => ?_, fun g H6 hg _ s6 => ?_⟩
        · rw [e] at e1 ⊢
          obtain ⟨b', hb'⟩ := names_call e1
          have hm := svAt_mem hb'
          refine ⟨b', hm.1, hm.2, ?_⟩
          show (b'.tab, ((svAt ss s').map fun b => widthAt ts b.tab).getD 0) ∈ ts
          rw [hb']
          exact svOk_w O.hT O.hS hm.1
        · have s46 := s45.trans s6
          have z6 : H6 z = some (.dK kvs) := s6 _ _ (s5 _ _ (sT _ _ hzd))
          have hzk6 : ∀ n, (sz n = none → valV kvs (.inr n) = none) ∧ ∀ t, sz n = some t → ∃ b, valV kvs (.inr n) = some (.ref b) ∧ H6 b = some (.tup (szV t)) := fun n => ⟨(hzk n).1, fun t e => by
            obtain ⟨c, e1, e2⟩ := (hzk n).2 t e
            exact ⟨c, e1, s6 _ _ (s5 _ _ (sT _ _ e2))⟩⟩
          obtain ⟨kv2, zz, hk2⟩ := SzAt.put z6 hzk6 (n := (stV H (.ref pb)).name) hg
          rw [upd_same] at zz
          cases zz
          refine ⟨_, rfl, _, rfl, _, _, _, _, rfl, rfl, .of (s6 _ _ hb5), atI_nat (j := 1) rfl, z, _, rfl, DPut.k (k := Sum.inr (stV H (.ref pb)).name) z6 (Nat.lt_of_le_of_lt (by omega : _ ≤ 12) (by decide)), putS sz (stV H (.ref pb)).name (sizeOf sz (wOf ts ss (stV H (.ref pb))) (stV H (.ref pb))), _, _, _, _, rfl, ?_, hzi.put (wnn O.hT O.hS) ew, upd_same, ?_, hk2, same_mut s46 hz⟩
          · rw [take_snoc hb, runV_append hrun, hlen, Nat.zero_add]
            show (match formB H (.ref pb) with
              | false => Sum.inl (("form" : Str), i)
              | true => match wrongOf ts ss sz (stV H (.ref pb)) with
                | some u => .inl (u, i)
                | none => .inr (putS sz (stV H (.ref pb)).name (sizeOf sz (wOf ts ss (stV H (.ref pb))) (stV H (.ref pb))))) = _
            rw [ef]
            simp only [ew]
          · exact Nat.le_trans (length_putK _ _ _) (Nat.succ_le_succ hkl)
    · obtain ⟨sz, kvs, y4, y5, y6, rfl, hrun, hzi, hzd, hkl, hzk, s⟩ := hp
      rw [List.take_length] at hrun
      obtain ⟨ys, y, rfl⟩ : ∃ ys y, xs = ys ++ [y] := by
        refine ⟨xs.dropLast, xs.getLast (fun e => by rw [e] at x1; exact absurd x1 (by decide)), ?_⟩
        exact (List.dropLast_concat_getLast _).symm
      have nzp : p ≠ z := ne_of_none hp hz
      have hyv := hx y (by simp)
      obtain ⟨ln1, ln2⟩ := (lastV_name hrun).2 y (by simp)
      obtain ⟨py, rfl, hy0, hyok⟩ := stV_at ln2 hyv
      obtain ⟨tl, etl⟩ := Option.isSome_iff_exists.mp ln1
      obtain ⟨bt, v1, v2⟩ := (hzk (stV H (.ref py)).name).2 tl etl
      have esz : szOf sz (stV H (.ref py)).name = tl := by unfold szOf; rw [etl]; rfl
      obtain ⟨rest, hy1⟩ := st_name (hy0.keeps fun _ _ e => s _ _ e)
      have hp1 := s _ _ hp
      refine ⟨_, rfl, _, rfl, p, _, dx, _, rfl, hp1, T.cl_30, T.no_30_schema, by show 0 < 1000; decide, ?_⟩
      generalize hH2 : upd H' p _ = H2
      have hp2 : H2 p = some (.ins (a 30) dx (putF "schema" (.ref sp) [])) := by rw [← hH2]; exact upd_same
      have o2 : ∀ b o, b ≠ p → H' b = some o → H2 b = some o := fun b o n e => by rw [← hH2, upd_ne n]; exact e
      have nlp : l ≠ p := ne_of hl hp (by intro z; cases z)
      have nby : py ≠ p := ne_of hy1 hp1 (by intro z; cases z)
      have nbt : bt ≠ p := ne_of v2 hp1 (by intro z; cases z)
      have l2 : H2 l = some (.lst (ys ++ [.ref py])) := by
        exact o2 l _ nlp (s _ _ hl)
      have gz : DGet H2 z (.str (stV H (.ref py)).name) (some (.ref bt)) := v1 ▸ DGet.k (k := .inr (stV H (.ref py)).name) (o2 z _ nzp.symm hzd)
      refine ⟨_, rfl, _, rfl, _, rfl, _, _, _, _, rfl, rfl, .of l2, atI_last _ _, _, _, _, _, rfl, rfl, .of (o2 _ _ nby hy1), atI_nat (j := 1) rfl, z, _, rfl, gz, bt, _, rfl, .of (o2 _ _ nbt v2), rfl, ?_⟩
      refine ⟨_, _, rfl, _, rfl, p, _, dx, _, rfl, hp2, T.cl_30, T.no_30_width, by show 1 < 1000; decide, ?_⟩
      refine ⟨_, _, rfl, _, rfl, p, _, dx, _, rfl, upd_same, T.cl_30, T.no_30_part_count, ?_, ?_⟩
      · have := putF_le "width" (.int tl.1) (putF "schema" (.ref sp) [])
        exact Nat.lt_of_le_of_lt this (by show 1 + 1 < 1000; decide)
      refine ⟨_, _, rfl, _, rfl, p, _, dx, _, rfl, upd_same, T.cl_30, T.no_30_call_count, ?_, rfl, ?_⟩
      · have h1 := putF_le "width" (.int tl.1) (putF "schema" (.ref sp) [])
        have h2 := putF_le "part_count" (.int tl.2.1) (putF "width" (.int tl.1) (putF "schema" (.ref sp) []))
        have h3 : (putF "schema" (V.ref sp) []).length = 1 := rfl
        show _ < 1000
        omega
      generalize hH3 : upd (upd (upd H2 p _) p _) p _ = H3
      have hp3 : H3 p = some (.ins (a 30) dx (putF "call_count" (.int tl.2.2) (putF "part_count" (.int tl.2.1) (putF "width" (.int tl.1) (putF "schema" (.ref sp) []))))) := by rw [← hH3]; exact upd_same
      have o3 : ∀ b o, b ≠ p → H2 b = some o → H3 b = some o := fun b o n e => by rw [← hH3, upd_ne n, upd_ne n, upd_ne n]; exact e
      refine ⟨_, rfl, l, _, rfl, .inl (.of (o3 _ _ nlp l2)), fun l' hl' => ?_⟩
      have nl' : l' ≠ p := fun e => by rw [e, hp3] at hl'; cases hl'
      have s3 := same_upd (o := .lst (ys ++ [.ref py])) hl'
      refine ⟨_, rfl, p, _, dx, _, rfl, s3 _ _ hp3, T.cl_30, T.no_30__steps, ?_, ?_⟩
      · have h1 := putF_le "width" (.int tl.1) (putF "schema" (.ref sp) [])
        have h2 := putF_le "part_count" (.int tl.2.1) (putF "width" (.int tl.1) (putF "schema" (.ref sp) []))
        have h4 := putF_le "call_count" (.int tl.2.2) (putF "part_count" (.int tl.2.1) (putF "width" (.int tl.1) (putF "schema" (.ref sp) [])))
        have h3 : (putF "schema" (V.ref sp) []).length = 1 := rfl
        show _ < 1000
        omega
      have hfree : H l' = none := by
        cases e : H l' with
        | none => rfl
        | some o => rw [o3 l' o nl' (o2 l' o nl' (s _ _ e))] at hl'; cases hl'
      refine q2 sz (.ref py) hrun (List.getLast?_concat ..) _ l' ?_ (fun b o n e => ?_)
      · rw [esz]
        exact upd_same
      · rw [upd_ne n]
        exact s3 _ _ (o3 _ _ n (o2 _ _ n (s _ _ e)))
end
theorem dp_sgns {K : PySem.W.Frag} {H : Hp} : ∀ cs : List Nat, DpAll K H (cs.map fun c => V.str ⟨#[c]⟩) (cs.map fun c => PyData.str ⟨#[c]⟩)
  | [] => .nil
  | c :: cs => .cons (.str _) (dp_sgns cs)
theorem sgns_shaped {cs : List Nat} (h : ∀ c ∈ cs, c < 128) : SeqAt.shaped (.list (cs.map fun c => PyData.str ⟨#[c]⟩)) = true := by
  have := strs_shapedL (ns := cs.map fun c => (⟨#[c]⟩ : Str)) fun s hs => by
    obtain ⟨c, hc, rfl⟩ := List.mem_map.mp hs
    intro x hx
    have : x = c := by simpa using hx
    rw [this]
    exact h c hc
  rw [List.map_map] at this
  exact this
theorem filter_okC (cs : List Nat) : ((cs.filter fun c => !okC c).map fun c => PyData.str ⟨#[c]⟩).isEmpty = cs.all okC := by
  induction cs with
  | nil => rfl
  | cons c cs ih =>
    cases h : okC c with
    | true => rw [List.filter_cons_of_neg (by rw [h]; decide), ih, List.all_cons, h, Bool.true_and]
    | false =>
      rw [List.filter_cons_of_pos (by rw [h]; rfl), List.all_cons, h, Bool.false_and]
      rfl
section
variable {P : Program} {w : World} {K : PySem.W.Frag} {mg : Str → Option Value} {base : Heap} {a : Nat → Addr} {d : Nat → FuncData}
theorem ok_isint (T : Txt K mg a d) : FnOk P w K mg base CX0 1 (a 70) (d 70) ["_law_thing"] (spB plainV) := by
  refine T.F70.ok sc__law_is_integer (fun vs H Q E h => ?_) (fun cdv A outer s H vs Q E hr h => ?_)
  · obtain ⟨v, rfl, _⟩ := h
    rfl
  · obtain ⟨v, rfl, hv, q⟩ := h
    refine ⟨_, (pss_one (ps_ret (pe_and (pe_callB (id := "isinstance")  call_isi (by rfl) T.z_isinstance (by decide +kernel) (pa_cons (pv 0) (pa_cons (pe_bltn (v := .ty "int") (by rfl) T.z_int (by decide +kernel) rfl) pa_nil))) (pe_one (pe_not (pe_callB (id := "isinstance")  call_isi (by rfl) T.z_isinstance (by decide +kernel) (pa_cons (pv 0) (pa_cons (pe_bltn (v := .ty "bool") (by rfl) T.z_bool (by decide +kernel) rfl) pa_nil)))))))), ?_⟩
    obtain ⟨n, ht, k1, k2, k3⟩ := hv.ty (K := K)
    refine ⟨_, rfl, _, _, _, _, _, rfl, .ty _, ht, kit_ty k1, _, rfl, ?_⟩
    have q : Q (.bl (tyInt v && !tyBool v)) H := q H (Same.refl H)
    refine ite2 (fun e => ?_) (fun e => ?_)
    · rw [e] at q
      exact ⟨_, rfl, _, _, _, _, _, rfl, .ty _, ht, kit_ty k2, _, rfl, q⟩
    · rw [Bool.eq_false_iff.mpr e] at q
      exact q
theorem ok_lwordX (T : Txt K mg a d) : FnOk P w K mg base CX0 1 (a 71) (d 71) ["_law_thing"] (spB wordV) := by
  refine T.F71.ok sc__law_is_word (fun vs H Q E h => ?_) (fun cdv A outer s H vs Q E hr h => ?_)
  · obtain ⟨v, rfl, _⟩ := h
    rfl
  · obtain ⟨v, rfl, hv, q⟩ := h
    obtain ⟨n, ht, k1, k2, k3⟩ := hv.ty (K := K)
    refine ⟨_, (pss_cons (ps_if (PW.pt (pw_or (pt_not (pt_val (pe_callB (id := "isinstance")  call_isi (by rfl) T.z_isinstance (by decide +kernel) (pa_cons (pv 0) (pa_cons (pe_bltn (v := .ty "str") (by rfl) T.z_str (by decide +kernel) rfl) pa_nil))))) (pw_or (pt_cmpR op_lt (pe_callB (id := "len")  call_len_str (by rfl) T.z_len (by decide +kernel) (pa_cons (pv 0) pa_nil)) pe_int (nomark _)) (pw_or1 (pt_cmpR op_gt (pe_callB (id := "len")  call_len_str (by rfl) T.z_len (by decide +kernel) (pa_cons (pv 0) pa_nil)) pe_int (nomark _))))))
    (pss_one (ps_ret pe_bl))
    pss_nil)
  (pss_one (ps_ret (pe_cmpR (op_eqD (hu_of64 hr)) (pe_lc (own := [("_law_sign", 1)]) rfl sc__law_is_word.nd (pi_str (pv 0)) (blkOk_by (N := ["_law_thing", "_law_sign"]) (sc := defScope s__law_is_word) (by decide +kernel)) (fun _ _ _ _ _ => pg_name (i := 1) sc__law_is_word.nd rfl (.inl rfl)) (fun _ _ _ _ _ => (pts_one (pt_cmpR op_notIn_sign (pv 1) pe_str (by rfl)))) (fun _ _ _ _ _ => (pv 1))) (pe_lst pa_nil) (nomark _))))), ?_⟩
    refine ⟨_, rfl, _, _, _, _, _, rfl, .ty _, ht, kit_ty k3, _, rfl, ?_⟩
    cases hv with
    | str s h hc =>
      refine ifF ?_
      have q : ∀ H', Same H H' → Q (.bl (decide (1 ≤ s.length ∧ s.length ≤ 8) && s.cps.toList.all okC)) H' := q
      have bad : ¬ (1 ≤ s.length ∧ s.length ≤ 8) → Q (.bl false) H := fun h => by
        have q1 := q H (Same.refl H)
        rw [decide_eq_false h] at q1
        exact q1
      refine ⟨_, rfl, _, rfl, small1000' h, _, _, rfl, rfl, _, rfl, ite_d (fun h1 => bad (by omega)) (fun h1 => ?_)⟩
      refine ⟨_, rfl, _, rfl, small1000' h, _, _, rfl, rfl, _, rfl, ite_d (fun h2 => bad (by omega)) (fun h2 => ?_)⟩
      have e : decide (1 ≤ s.length ∧ s.length ≤ 8) = true := decide_eq_true (by omega)
      rw [e] at q
      refine ⟨_, rfl, _, rfl, fun D hD => ?_⟩
      refine lc_str (fun i H' => H' D = some (.lst (((s.cps.toList.take i).filter fun c => !okC c).map fun c => V.str ⟨#[c]⟩)) ∧ Same H H') ⟨upd_same, same_upd hD⟩ (fun i c H' hx hp => ?_) (fun H' hp => ?_)
      · have hx' : s.cps.toList[i]? = some c := by rw [Array.getElem?_toList]; exact hx
        have et : (s.cps.toList.take (i + 1)).filter (fun c => !okC c) = (s.cps.toList.take i).filter (fun c => !okC c) ++ (if (!okC c) = true then [c] else []) := by
          rw [List.take_add_one, hx', List.filter_append]
          show _ ++ (List.filter (fun c => !okC c) [c]) = _
          rw [List.filter_cons]
          rfl
        refine ⟨rfl, _, rfl, c, _, rfl, rfl, _, rfl, ?_⟩
        rw [sgn_in]
        refine ite2 (fun h3 => ?_) (fun h3 => ?_)
        · refine ⟨_, rfl, _, hp.1, ?_, ?_, fun x o ex => ?_⟩
          · rw [List.length_map]
            have h4 := List.length_filter_le (fun c => !okC c) (s.cps.toList.take i)
            have h5 : s.cps.toList.length = s.length := Array.length_toList
            rw [List.length_take] at h4
            exact small1000 (by omega)
          · rw [et, if_pos h3, List.map_append]
            exact upd_same
          · rw [upd_ne (ne_of_none ex hD)]
            exact hp.2 x o ex
        · rw [et, if_neg h3, List.append_nil]
          exact hp
      · obtain ⟨h3, h4⟩ := hp
        have et : s.cps.toList.take s.cps.size = s.cps.toList := List.take_of_length_le (Nat.le_of_eq Array.length_toList)
        rw [et] at h3
        refine ⟨Nat.zero_le _, fun e he => ⟨_, .list [], .lst (.of (same_upd he _ _ h3)) (dp_sgns _), .lst (.of upd_same) .nil, sgns_shaped fun c hc' => hc c (List.mem_filter.mp hc').1, by decide, ?_⟩⟩
        rw [eqv_nilL, filter_okC]
        exact q _ (h4.trans (same_upd he))
    | int i => exact ifT (q H (Same.refl H))
    | bl b => exact ifT (q H (Same.refl H))
    | non => exact ifT (q H (Same.refl H))
    | lst e => exact ifT (q H (Same.refl H))
    | tup e => exact ifT (q H (Same.refl H))
theorem ok_litemX (T : Txt K mg a d) : FnOk P w K mg base CX0 2 (a 72) (d 72) ["_law_thing"] spItemX := by
  have G70 : FnOk P w K mg base CX0 1 (a 70) (d 70) ["_law_thing"] (spB plainV) := ok_isint T
  have G71 : FnOk P w K mg base CX0 1 (a 71) (d 71) ["_law_thing"] (spB wordV) := ok_lwordX T
  refine T.F72.ok sc__law_is_item (fun vs H Q E h => ?_) (fun cdv A outer s H vs Q E hr h => ?_)
  · obtain ⟨v, rfl, _⟩ := h
    rfl
  · obtain ⟨v, rfl, hv, q⟩ := h
    obtain ⟨n, hty, k1⟩ := hv.th.tyT (K := K)
    refine ⟨_, (pss_cons (ps_if (pt_not (pt_val (pe_callB (id := "isinstance")  call_isi (by rfl) T.z_isinstance (by decide +kernel) (pa_cons (pv 0) (pa_cons (pe_bltn (v := .ty "tuple") (by rfl) T.z_tuple (by decide +kernel) rfl) pa_nil)))))
    (pss_one (ps_ret (pe_and (pe_call G70 (hr.mono (by decide)) (by rfl) T.g70 T.F70.kp T.b70 .nil pass0 (pa_cons (pv 0) pa_nil)) (pe_one (pe_cmpR op_ge (pv 0) pe_int (nomark _))))))
    pss_nil)
  (pss_cons (ps_if (pt_cmpR op_ne (pe_callB (id := "len")  call_len_seq (by rfl) T.z_len (by decide +kernel) (pa_cons (pv 0) pa_nil)) pe_int (nomark _))
    (pss_one (ps_ret pe_bl))
    pss_nil)
  (pss_one (ps_ret (pe_or (pe_call G71 (hr.mono (by decide)) (by rfl) T.g71 T.F71.kp T.b71 .nil pass0 (pa_cons (pe_ix ix_tup (pv 0) pe_int (fun _ _ => rfl)) pa_nil)) (pe_one (pe_and (pe_call G70 (hr.mono (by decide)) (by rfl) T.g70 T.F70.kp T.b70 .nil pass0 (pa_cons (pe_ix ix_tup (pv 0) pe_int (fun _ _ => rfl)) pa_nil)) (pe_one (pe_chain op_lt op_lt (pe_un un_neg (pe_op op_pow pe_int pe_int)) (pe_ix ix_tup (pv 0) pe_int (fun _ _ => rfl)) (pe_op op_pow pe_int pe_int)))))))))), ?_⟩
    refine ⟨_, rfl, _, _, _, _, _, rfl, .ty _, hty, kit_ty k1, _, rfl, ?_⟩
    unfold itemB at q
    cases et : tupOf H v with
    | none =>
      rw [et] at q
      refine ifT ⟨_, rfl, v, rfl, hv.th, fun H1 s1 => ⟨_, rfl, ?_⟩⟩
      have hv0 := hv.th
      cases hv0 with
      | int i => exact ifT ⟨_, rfl, _, _, rfl, rfl, q _ s1⟩
      | bl b => exact ifF (q _ s1)
      | non => exact ifF (q _ s1)
      | str s _ _ => exact ifF (q _ s1)
      | lst e => exact ifF (q _ s1)
      | tup e => exact ifF (q _ s1)
    | some xs =>
      rw [et] at q
      obtain ⟨hl, hx⟩ := hv.it xs et
      obtain ⟨p, rfl, hp⟩ := tupOf_some et
      refine ifF ?_
      refine ⟨_, rfl, p, _, rfl, .inr (.of hp), rfl, _, rfl, ?_⟩
      cases xs with
      | nil => exact ite_nd (fun _ => q H (Same.refl H)) (fun e => absurd (V.int.inj e) (by decide))
      | cons x r =>
        cases r with
        | cons y r => exact ite_nd (fun _ => q H (Same.refl H)) (fun e => absurd (V.int.inj e) (by rw [List.length_cons, List.length_cons]; omega))
        | nil =>
          refine ite_nd (fun e => absurd rfl e) (fun _ => ?_)
          have hx0 := hx x (by simp)
          have q : ∀ H', Same H H' → Q (.bl (valV' x)) H' := q
          refine ⟨_, rfl, _, _, _, _, rfl, rfl, .of hp, atI_nat (j := 0) rfl, x, rfl, hx0, fun H1 s1 => ⟨_, rfl, ?_⟩⟩
          have hp1 := s1 _ _ hp
          have hx1 := hx0.same s1
          cases hx0 with
          | str s hs hc =>
            have q : ∀ H', Same H H' → Q (.bl (wordB s)) H' := q
            show if wordB s = true then _ else _
            cases ew : wordB s with
            | true =>
              rw [ew] at q
              exact ifT (q H1 s1)
            | false =>
              rw [ew] at q
              exact ifF ⟨_, rfl, _, _, _, _, rfl, rfl, .of hp1, atI_nat (j := 0) rfl, _, rfl, hx1, fun H2 s2 => ⟨_, rfl, ifF (q H2 (s1.trans s2))⟩⟩
          | bl b => exact ifF ⟨_, rfl, _, _, _, _, rfl, rfl, .of hp1, atI_nat (j := 0) rfl, _, rfl, hx1, fun H2 s2 => ⟨_, rfl, ifF (q H2 (s1.trans s2))⟩⟩
          | non => exact ifF ⟨_, rfl, _, _, _, _, rfl, rfl, .of hp1, atI_nat (j := 0) rfl, _, rfl, hx1, fun H2 s2 => ⟨_, rfl, ifF (q H2 (s1.trans s2))⟩⟩
          | lst e => exact ifF ⟨_, rfl, _, _, _, _, rfl, rfl, .of hp1, atI_nat (j := 0) rfl, _, rfl, hx1, fun H2 s2 => ⟨_, rfl, ifF (q H2 (s1.trans s2))⟩⟩
          | tup e => exact ifF ⟨_, rfl, _, _, _, _, rfl, rfl, .of hp1, atI_nat (j := 0) rfl, _, rfl, hx1, fun H2 s2 => ⟨_, rfl, ifF (q H2 (s1.trans s2))⟩⟩
          | int i =>
            refine ifF ⟨_, rfl, _, _, _, _, rfl, rfl, .of hp1, atI_nat (j := 0) rfl, _, rfl, hx1, fun H2 s2 => ⟨_, rfl, ifT ?_⟩⟩
            have q1 : Q (.bl (decide (-999999999999999999999999999999 ≤ i ∧ i ≤ 999999999999999999999999999999))) H2 := q H2 (s1.trans s2)
            have e30 : (10 : Int) ^ (30 : Int).toNat = 1000000000000000000000000000000 := by decide +kernel
            refine ⟨_, _, rfl, rfl, ⟨by decide, by decide, by decide⟩, _, rfl, _, rfl, _, _, _, _, rfl, rfl, .of (s2 _ _ hp1), atI_nat (j := 0) rfl, _, _, rfl, rfl, _, rfl, ?_⟩
            rw [e30]
            refine ite_d (fun h1 => ?_) (fun h1 => ?_)
            · refine ⟨_, _, rfl, rfl, ⟨by decide, by decide, by decide⟩, _, _, rfl, rfl, ?_⟩
              rw [e30]
              have e : decide (i < 1000000000000000000000000000000) = decide (-999999999999999999999999999999 ≤ i ∧ i ≤ 999999999999999999999999999999) := by
                by_cases h3 : i < 1000000000000000000000000000000
                · rw [decide_eq_true h3, decide_eq_true ⟨by omega, by omega⟩]
                · rw [decide_eq_false h3, decide_eq_false (fun x => h3 (by omega))]
              show Q (.bl (decide (i < 1000000000000000000000000000000))) H2
              rw [e]
              exact q1
            · have e : decide (-999999999999999999999999999999 ≤ i ∧ i ≤ 999999999999999999999999999999) = false := decide_eq_false (fun x => h1 (by omega))
              rw [e] at q1
              exact q1
end
theorem kd_start : kindOf "start" = some (2, 1) := by decide +kernel
theorem kd_call : kindOf "call" = some (5, 3) := by decide +kernel
theorem kd_both : kindOf "both" = some (4, 3) := by decide +kernel
theorem kd_pair : kindOf "pair" = some (4, 3) := by decide +kernel
theorem kd_where : kindOf "where" = some (5, 2) := by decide +kernel
theorem kd_take : kindOf "take" = some (4, 2) := by decide +kernel
theorem hln_at {H : Hp} {p : Addr} {k : Str} {xs : List V} {n m : Nat} (hp : H p = some (.tup (.str k :: xs))) (ek : kindOf k = some (n, m)) : hlnB H (.ref p) = (decide (xs.length + 1 = n) && (xs.take m).all wordV) := by
  unfold hlnB
  rw [tupOf_tup hp]
  show (match kindOf k with
    | some (n, m) => decide (xs.length + 1 = n) && (xs.take m).all wordV
    | none => false) = _
  rw [ek]
theorem form_no {H : Hp} {v : V} (h : hlnB H v = false) : formB H v = false := by
  unfold formB
  rw [h]
  rfl
theorem form_start {H : Hp} {p : Addr} {x : V} (hp : H p = some (.tup [.str "start", x])) : formB H (.ref p) = wordV x := by
  have hl : hlnB H (.ref p) = wordV x := (hln_at hp kd_start).trans (by simp)
  cases e1 : wordV x with
  | false => exact form_no (hl.trans e1)
  | true =>
    obtain ⟨s1, rfl, _⟩ := word_wd e1
    exact form_at (sx := .start s1) hp (hl.trans e1)
theorem form_join {H : Hp} {p : Addr} {x y z : V} (b : Bool) (hp : H p = some (.tup [.str (if b then "both" else "pair"), x, y, z])) : formB H (.ref p) = (wordV x && (wordV y && wordV z)) := by
  have hl : hlnB H (.ref p) = (wordV x && (wordV y && wordV z)) := (hln_at hp (n := 4) (m := 3) (by cases b <;> decide +kernel)).trans (by simp)
  cases e : (wordV x && (wordV y && wordV z)) with
  | false => exact form_no (hl.trans e)
  | true =>
    have e' := e
    rw [Bool.and_eq_true, Bool.and_eq_true] at e'
    obtain ⟨s1, rfl, _⟩ := word_wd e'.1
    obtain ⟨s2, rfl, _⟩ := word_wd e'.2.1
    obtain ⟨s3, rfl, _⟩ := word_wd e'.2.2
    exact form_at (sx := .join b s1 s2 s3) hp (hl.trans e)
theorem form_take {H : Hp} {p : Addr} {x y z : V} (hp : H p = some (.tup [.str "take", x, y, z])) : formB H (.ref p) = (wordV x && (wordV y && itsB H z)) := by
  have hl : hlnB H (.ref p) = (wordV x && wordV y) := (hln_at hp kd_take).trans (by simp)
  cases e : (wordV x && wordV y) with
  | false =>
    rw [form_no (hl.trans e), ← Bool.and_assoc, e, Bool.false_and]
  | true =>
    have e' := e
    rw [Bool.and_eq_true] at e'
    obtain ⟨s1, rfl, _⟩ := word_wd e'.1
    obtain ⟨s2, rfl, _⟩ := word_wd e'.2
    rw [form_at (sx := .take s1 s2 z) hp (hl.trans e), ← Bool.and_assoc, e, Bool.true_and]
    rfl
theorem form_call {H : Hp} {p : Addr} {x y z u : V} (hp : H p = some (.tup [.str "call", x, y, z, u])) : formB H (.ref p) = (wordV x && (wordV y && (wordV z && itsB H u))) := by
  have hl : hlnB H (.ref p) = (wordV x && (wordV y && wordV z)) := (hln_at hp kd_call).trans (by simp)
  cases e : (wordV x && (wordV y && wordV z)) with
  | false =>
    rw [form_no (hl.trans e), ← Bool.and_assoc (wordV y), ← Bool.and_assoc (wordV x), e, Bool.false_and]
  | true =>
    have e' := e
    rw [Bool.and_eq_true, Bool.and_eq_true] at e'
    obtain ⟨s1, rfl, _⟩ := word_wd e'.1
    obtain ⟨s2, rfl, _⟩ := word_wd e'.2.1
    obtain ⟨s3, rfl, _⟩ := word_wd e'.2.2
    rw [form_at (sx := .call s1 s2 s3 u) hp (hl.trans e), ← Bool.and_assoc (wordV (.str s2)), ← Bool.and_assoc (wordV (.str s1)), e, Bool.true_and]
    rfl
theorem form_where {H : Hp} {p : Addr} {x y z u : V} (hp : H p = some (.tup [.str "where", x, y, z, u])) : formB H (.ref p) = (wordV x && (wordV y && (idxB z && itemB H u))) := by
  have hl : hlnB H (.ref p) = (wordV x && wordV y) := (hln_at hp kd_where).trans (by simp)
  cases e : (wordV x && wordV y) with
  | false =>
    rw [form_no (hl.trans e), ← Bool.and_assoc, e, Bool.false_and]
  | true =>
    have e' := e
    rw [Bool.and_eq_true] at e'
    obtain ⟨s1, rfl, _⟩ := word_wd e'.1
    obtain ⟨s2, rfl, _⟩ := word_wd e'.2
    rw [form_at (sx := .whr s1 s2 z u) hp (hl.trans e), ← Bool.and_assoc, e, Bool.true_and]
    rfl
def spItsB : Sp := fun vs H Q _ => ∃ v : V, vs = [v] ∧ Th2 H v ∧ ∀ H', Same H H' → Q (.bl (itsB H v)) H'
section
variable {P : Program} {w : World} {K : PySem.W.Frag} {mg : Str → Option Value} {base : Heap} {a : Nat → Addr} {d : Nat → FuncData}
theorem ok_larex (T : Txt K mg a d) : FnOk P w K mg base CX0 3 (a 73) (d 73) ["_law_thing"] spItsB := by
  have G72 : FnOk P w K mg base CX0 2 (a 72) (d 72) ["_law_thing"] spItemX := ok_litemX T
  refine T.F73.ok sc__law_are_items (fun vs H Q E h => ?_) (fun cdv A outer s H vs Q E hr h => ?_)
  · obtain ⟨v, rfl, _⟩ := h
    rfl
  · obtain ⟨v, rfl, hv, q⟩ := h
    obtain ⟨n, hty, k1⟩ := hv.th.tyT (K := K)
    refine ⟨_, (pss_one (ps_ret (pe_and (pe_callB (id := "isinstance")  call_isi (by rfl) T.z_isinstance (by decide +kernel) (pa_cons (pv 0) (pa_cons (pe_bltn (v := .ty "tuple") (by rfl) T.z_tuple (by decide +kernel) rfl) pa_nil))) (pe_one (pe_cmpR (op_eqN (hu_of80 hr)) (pe_lc (own := [("_law_item_here", 1)]) rfl sc__law_are_items.nd (pi_tup (pv 0)) (blkOk_by (N := ["_law_thing", "_law_item_here"]) (sc := defScope s__law_are_items) (by decide +kernel)) (fun _ _ _ _ _ => pg_name (i := 1) sc__law_are_items.nd rfl (.inl rfl)) (fun _ _ _ _ _ => (pts_one (pt_not (pt_val (pe_call G72 (hr.mono (by decide)) (by rfl) T.g72 T.F72.kp T.b72 .nil pass0 (pa_cons (pv 1) pa_nil)))))) (fun _ _ _ _ _ => (pv 1))) (pe_lst pa_nil) (nomark _)))))), ?_⟩
    refine ⟨_, rfl, _, _, _, _, _, rfl, .ty _, hty, kit_ty k1, _, rfl, ?_⟩
    unfold itsB at q
    cases et : tupOf H v with
    | none =>
      rw [et] at q
      exact ifF (q H (Same.refl H))
    | some us =>
      rw [et] at q
      have q : ∀ H', Same H H' → Q (.bl (us.all (itemB H))) H' := q
      obtain ⟨hl, hx⟩ := hv.it us et
      obtain ⟨p, rfl, hp⟩ := tupOf_some et
      refine ifT ?_
      refine ⟨_, rfl, p, rfl, ⟨_, .of hp⟩, fun D hD => ?_⟩
      refine lc_tup (K := K) (a := p) (xs := us) (fun i H' => H' D = some (.lst ((us.take i).filter fun x => !itemB H x)) ∧ Same H H') ⟨upd_same, same_upd hD⟩ (fun i H' _ hp' => .of (hp'.2 _ _ hp)) (fun i y H' hy hp' => ?_) (fun H' hp' => ?_)
      · obtain ⟨h1, h2⟩ := hp'
        have li : i < us.length := (List.getElem?_eq_some_iff.mp hy).1
        have hyx := hx y (List.mem_of_getElem? hy)
        have etk : us.take (i + 1) = us.take i ++ [y] := by rw [List.take_succ, hy]; rfl
        refine ⟨rfl, _, rfl, y, rfl, hyx.kp (Kp.same h2), fun H3 s3 => ⟨_, rfl, ?_⟩⟩
        rw [itemB_kp hyx.th (Kp.same h2)]
        have h3 := s3 _ _ h1
        have sm : Same H H3 := h2.trans s3
        cases e : itemB H y with
        | true =>
          refine ifF ⟨?_, sm⟩
          rw [etk, List.filter_append, show [y].filter (fun x => !itemB H x) = [] from List.filter_cons_of_neg (p := fun x => !itemB H x) (by rw [e]; decide), List.append_nil]
          exact h3
        | false =>
          refine ifT ⟨_, rfl, _, h3, ?_, ?_, same_mut sm hD⟩
          · have h4 := List.length_filter_le (fun x => !itemB H x) (us.take i)
            rw [List.length_take] at h4
            exact small1000 (by omega)
          · rw [etk, List.filter_append, show [y].filter (fun x => !itemB H x) = [y] from List.filter_cons_of_pos (p := fun x => !itemB H x) (by rw [e]; rfl)]
            exact upd_same
      · obtain ⟨h1, h2⟩ := hp'
        rw [List.take_length] at h1
        refine ⟨Nat.zero_le _, fun e he => ?_⟩
        have sF := h2.trans (same_upd (o := .lst []) he)
        have h1' := same_upd (o := .lst []) he _ _ h1
        have ne : D ≠ e := ne_of_none h1 he
        have nepq : ∀ p, V.ref D = .ref p → V.ref e ≠ .ref p := fun p e1 e2 => ne (by cases e1; cases e2; rfl)
        cases ea : us.filter (fun x => !itemB H x) with
        | nil =>
          rw [ea] at h1'
          have al : us.all (itemB H) = true := List.all_eq_true.mpr fun x hxm => by
            cases eb : itemB H x with
            | true => rfl
            | false =>
              have : x ∈ us.filter (fun x => !itemB H x) := List.mem_filter.mpr ⟨hxm, by rw [eb]; rfl⟩
              rw [ea] at this
              cases this
          rw [al] at q
          exact ⟨1, _, by decide, nepq, .lst (e := fun _ => true) ne h1' upd_same rfl (fun j x y hx => by cases hx), q _ sF⟩
        | cons z zs =>
          rw [ea] at h1'
          have hz : z ∈ us.filter (fun x => !itemB H x) := by rw [ea]; simp
          have al : us.all (itemB H) = false := by
            cases eb : us.all (itemB H) with
            | false => rfl
            | true =>
              have h5 := List.all_eq_true.mp eb z (List.mem_filter.mp hz).1
              have h6 := (List.mem_filter.mp hz).2
              rw [h5] at h6
              cases h6
          rw [al] at q
          exact ⟨1, false, by decide, nepq, .lstL ne h1' upd_same (by simp), q _ sF⟩
end
theorem eqv_str' (x y : Str) : PyData.eqv (.str x) (.str y) = decide (x = y) := by rw [Bool.eq_iff_iff]; simp [PyData.eqv]
def sizesL : List (Key × V) := kinds.map fun x => ((Sum.inr x.1 : Key), V.int (x.2.1 : Nat))
theorem sizes_val (k : Str) : ∀ l : List (Str × Nat × Nat), valV (l.map fun x => ((Sum.inr x.1 : Key), V.int (x.2.1 : Nat))) (.inr k) = (l.find? fun x => decide (x.1 = k)).map fun x => V.int (x.2.1 : Nat)
  | [] => rfl
  | x :: r => by
    rw [List.map_cons]
    by_cases e : x.1 = k
    · rw [valV_pos (by rw [e]), List.find?_cons_of_pos (by simp [e])]
      rfl
    · rw [valV_neg (fun z => e (Sum.inr.inj z)), List.find?_cons_of_neg (by simp [e])]
      exact sizes_val k r
theorem sizes_get (k : Str) : (valV sizesL (.inr k)).getD (.int 0) = .int (((kindOf k).map (·.1)).getD 0 : Nat) := by
  unfold sizesL kindOf
  rw [sizes_val]
  cases kinds.find? (fun x => decide (x.1 = k)) <;> rfl
section
variable {P : Program} {w : World} {K : PySem.W.Frag} {mg : Str → Option Value} {base : Heap} {a : Nat → Addr} {d : Nat → FuncData}
theorem ok_lformX (T : Txt K mg a d) : FnOk P w K mg base CX0 4 (a 74) (d 74) ["_law_step"] (spStepB formB) := by
  have G70 : FnOk P w K mg base CX0 1 (a 70) (d 70) ["_law_thing"] (spB plainV) := ok_isint T
  have G71 : FnOk P w K mg base CX0 1 (a 71) (d 71) ["_law_thing"] (spB wordV) := ok_lwordX T
  have G72 : FnOk P w K mg base CX0 2 (a 72) (d 72) ["_law_thing"] spItemX := ok_litemX T
  have G73 : FnOk P w K mg base CX0 3 (a 73) (d 73) ["_law_thing"] spItsB := ok_larex T
  refine T.F74.ok sc__law_form (fun vs H Q E h => ?_) (fun cdv A outer s H vs Q E hr h => ?_)
  · obtain ⟨v, rfl, _⟩ := h
    rfl
  · obtain ⟨v, rfl, hv, q⟩ := h
    obtain ⟨n, hty, k1⟩ := hv.th.tyT (K := K)
    refine ⟨_, (pss_cons (ps_if (PW.pt (pw_or (pt_not (pt_val (pe_callB (id := "isinstance")  call_isi (by rfl) T.z_isinstance (by decide +kernel) (pa_cons (pv 0) (pa_cons (pe_bltn (v := .ty "tuple") (by rfl) T.z_tuple (by decide +kernel) rfl) pa_nil))))) (pw_or (pt_cmpR op_lt (pe_callB (id := "len")  call_len_seq (by rfl) T.z_len (by decide +kernel) (pa_cons (pv 0) pa_nil)) pe_int (nomark _)) (pw_or1 (pt_not (pt_val (pe_callB (id := "isinstance")  call_isi (by rfl) T.z_isinstance (by decide +kernel) (pa_cons (pe_ix ix_tup (pv 0) pe_int (fun _ _ => rfl)) (pa_cons (pe_bltn (v := .ty "str") (by rfl) T.z_str (by decide +kernel) rfl) pa_nil)))))))))
    (pss_one (ps_ret pe_bl))
    pss_nil)
  (pss_cons (ps_set (i := 1) sc__law_form.nd rfl (.inl rfl) (pe_disp (pps_cons pe_str pe_int (pps_cons pe_str pe_int (pps_cons pe_str pe_int (pps_cons pe_str pe_int (pps_cons pe_str pe_int (pps_cons pe_str pe_int pps_nil)))))) (by rfl) (by rfl) (fun z => by cases z) (by decide)))
  (pss_cons (ps_if (PW.pt (pw_or (pt_cmpR (op_neD (hu_of64 hr)) (pe_dget2 (hu_of hr) (pv 1) (pe_ix ix_tup (pv 0) pe_int (fun _ _ => rfl)) pe_int ⟨rfl, rfl, rfl, rfl⟩) (pe_callB (id := "len")  call_len_seq (by rfl) T.z_len (by decide +kernel) (pa_cons (pv 0) pa_nil)) (nomark _)) (pw_or1 (pt_not (pt_val (pe_call G71 (hr.mono (by decide)) (by rfl) T.g71 T.F71.kp T.b71 .nil pass0 (pa_cons (pe_ix ix_tup (pv 0) pe_int (fun _ _ => rfl)) pa_nil)))))))
    (pss_one (ps_ret pe_bl))
    pss_nil)
  (pss_cons (ps_if (pt_cmpR (op_eqD (hu_of64 hr)) (pe_ix ix_tup (pv 0) pe_int (fun _ _ => rfl)) pe_str (nomark _))
    (pss_one (ps_ret pe_bl))
    pss_nil)
  (pss_cons (ps_if (pt_not (pt_val (pe_call G71 (hr.mono (by decide)) (by rfl) T.g71 T.F71.kp T.b71 .nil pass0 (pa_cons (pe_ix ix_tup (pv 0) pe_int (fun _ _ => rfl)) pa_nil))))
    (pss_one (ps_ret pe_bl))
    pss_nil)
  (pss_cons (ps_if (pt_cmpR (op_eqD (hu_of64 hr)) (pe_ix ix_tup (pv 0) pe_int (fun _ _ => rfl)) pe_str (nomark _))
    (pss_one (ps_ret (pe_and (pe_call G71 (hr.mono (by decide)) (by rfl) T.g71 T.F71.kp T.b71 .nil pass0 (pa_cons (pe_ix ix_tup (pv 0) pe_int (fun _ _ => rfl)) pa_nil)) (pe_one (pe_call G73 (hr.mono (by decide)) (by rfl) T.g73 T.F73.kp T.b73 .nil pass0 (pa_cons (pe_ix ix_tup (pv 0) pe_int (fun _ _ => rfl)) pa_nil))))))
    pss_nil)
  (pss_cons (ps_if (pt_cmpR (op_eqD (hu_of64 hr)) (pe_ix ix_tup (pv 0) pe_int (fun _ _ => rfl)) pe_str (nomark _))
    (pss_one (ps_ret (pe_and (pe_call G70 (hr.mono (by decide)) (by rfl) T.g70 T.F70.kp T.b70 .nil pass0 (pa_cons (pe_ix ix_tup (pv 0) pe_int (fun _ _ => rfl)) pa_nil)) (pe_and (pe_cmpR op_ge (pe_ix ix_tup (pv 0) pe_int (fun _ _ => rfl)) pe_int (nomark _)) (pe_one (pe_call G72 (hr.mono (by decide)) (by rfl) T.g72 T.F72.kp T.b72 .nil pass0 (pa_cons (pe_ix ix_tup (pv 0) pe_int (fun _ _ => rfl)) pa_nil)))))))
    pss_nil)
  (pss_cons (ps_if (pt_cmpR (op_eqD (hu_of64 hr)) (pe_ix ix_tup (pv 0) pe_int (fun _ _ => rfl)) pe_str (nomark _))
    (pss_one (ps_ret (pe_call G73 (hr.mono (by decide)) (by rfl) T.g73 T.F73.kp T.b73 .nil pass0 (pa_cons (pe_ix ix_tup (pv 0) pe_int (fun _ _ => rfl)) pa_nil))))
    pss_nil)
  (pss_one (ps_ret (pe_call G71 (hr.mono (by decide)) (by rfl) T.g71 T.F71.kp T.b71 .nil pass0 (pa_cons (pe_ix ix_tup (pv 0) pe_int (fun _ _ => rfl)) pa_nil)))))))))))), ?_⟩
    refine ⟨_, rfl, _, _, _, _, _, rfl, .ty _, hty, kit_ty k1, _, rfl, ?_⟩
    cases et : tupOf H v with
    | none =>
      have e0 : formB H v = false := form_no (by unfold hlnB; rw [et])
      rw [e0] at q
      exact ifT (q H (Same.refl H))
    | some ys =>
      obtain ⟨hl, hx⟩ := hv.it ys et
      obtain ⟨p, rfl, hp⟩ := tupOf_some et
      refine ifF ?_
      refine ⟨_, rfl, p, _, rfl, .inr (.of hp), _, _, rfl, rfl, _, rfl, ite_d (fun g2 => ?_) (fun g2 => ?_)⟩
      · have g2 : (ys.length : Int) < 2 := g2
        have e0 : formB H (.ref p) = false := form_no (by
          unfold hlnB
          rw [et]
          match ys, g2 with
          | [], _ => rfl
          | [y0], _ =>
            cases y0 <;> first | rfl | skip
            rename_i k _
            show (match kindOf k with
              | some (n, m) => decide ([].length + 1 = n) && (([] : List V).take m).all wordV
              | none => false) = false
            cases ek : kindOf k with
            | none => rfl
            | some nm =>
              have km := kind_mem (n := nm.1) (m := nm.2) ek
              have h2 : ∀ x ∈ kinds, 2 ≤ x.2.1 := by decide +kernel
              have := h2 _ km
              show (decide (0 + 1 = nm.1) && _) = false
              rw [decide_eq_false (by have h : 2 ≤ nm.1 := this; omega)]
              rfl)
        rw [e0] at q
        exact q H (Same.refl H)
      have g2 : ¬ (ys.length : Int) < 2 := g2
      obtain ⟨y0, y1, xs, rfl⟩ : ∃ y0 y1 xs, ys = y0 :: y1 :: xs := by
        match ys, g2 with
        | y0 :: y1 :: xs, _ => exact ⟨y0, y1, xs, rfl⟩
        | [y0], g => exact absurd (show ((1 : Nat) : Int) < 2 by decide) g
        | [], g => exact absurd (show ((0 : Nat) : Int) < 2 by decide) g
      have hy0 := (hx y0 (by simp)).th
      have hy1 := (hx y1 (by simp)).th
      obtain ⟨n0, hty0, _, _, k0⟩ := hy0.ty (K := K)
      refine ⟨_, rfl, _, _, _, _, rfl, rfl, .of hp, atI_nat (j := 0) rfl, _, _, _, _, _, rfl, .ty _, hty0, kit_ty k0, _, rfl, ?_⟩
      cases es : tyStr y0 with
      | false =>
        have e0 : formB H (.ref p) = false := form_no (by
          unfold hlnB
          rw [et]
          cases y0 <;> first | rfl | cases es)
        rw [e0] at q
        exact ifT (q H (Same.refl H))
      | true =>
      refine ifF ?_
      obtain ⟨k, rfl⟩ : ∃ k, y0 = .str k := by cases y0 <;> first | exact ⟨_, rfl⟩ | cases es
      have lowk : Low k := by
        cases hy0 with
        | str _ _ hc => exact hc
      refine fun Z hZ => ⟨upd_same, [((Sum.inr "start" : Key), V.int 2), (.inr "call", .int 5), (.inr "both", .int 4), (.inr "pair", .int 4), (.inr "where", .int 5), (.inr "take", .int 4)], rfl, by decide, ?_⟩
      have hZ1 : upd (upd H Z (.dK [])) Z (.dK (mergeK [] [((Sum.inr "start" : Key), V.int 2), (.inr "call", .int 5), (.inr "both", .int 4), (.inr "pair", .int 4), (.inr "where", .int 5), (.inr "take", .int 4)])) Z = some (.dK sizesL) := upd_same.trans (by rfl)
      have s1 : Same H (upd (upd H Z (.dK [])) Z (.dK (mergeK [] [((Sum.inr "start" : Key), V.int 2), (.inr "call", .int 5), (.inr "both", .int 4), (.inr "pair", .int 4), (.inr "where", .int 5), (.inr "take", .int 4)]))) := same_mut (same_upd hZ) hZ
      generalize upd (upd H Z (.dK [])) Z (.dK (mergeK [] [((Sum.inr "start" : Key), V.int 2), (.inr "call", .int 5), (.inr "both", .int 4), (.inr "pair", .int 4), (.inr "where", .int 5), (.inr "take", .int 4)])) = H1 at hZ1 s1 ⊢
      have hp1 := s1 _ _ hp
      have thx : ∀ x ∈ V.str k :: y1 :: xs, Thg H1 x := fun x h => (hx x h).th.same s1
      refine ⟨_, rfl, Z, rfl, .inl ⟨_, .of hZ1⟩, _, rfl, _, _, _, _, rfl, rfl, .of hp1, atI_nat (j := 0) rfl, _, DGet.k (k := .inr k) hZ1, ?_⟩
      rw [sizes_get]
      refine ⟨_, rfl, p, _, rfl, .inr (.of hp1), .int _, .int _, .int _, .int _, int_shaped _, int_shaped _, _, rfl, ?_⟩
      rw [eqv_int']
      have nol : hlnB H (.ref p) = false → Q (.bl false) H1 := fun h => by
        have e0 := form_no h
        rw [e0] at q
        exact q H1 s1
      cases ek : kindOf k with
      | none =>
        show if (!decide (((0 : Nat) : Int) = (((V.str k :: y1 :: xs).length : Nat) : Int))) = true then _ else _
        rw [decide_eq_false (by rw [List.length_cons]; omega)]
        refine ifT (nol ?_)
        unfold hlnB
        rw [et]
        show (match kindOf k with
          | some (n, m) => decide ((y1 :: xs).length + 1 = n) && ((y1 :: xs).take m).all wordV
          | none => false) = false
        rw [ek]
      | some nm =>
      obtain ⟨n1, m1⟩ := nm
      show if (!decide (((n1 : Nat) : Int) = (((V.str k :: y1 :: xs).length : Nat) : Int))) = true then _ else _
      by_cases el : (y1 :: xs).length + 1 = n1
      rotate_left
      · rw [decide_eq_false (by rw [List.length_cons]; omega)]
        refine ifT (nol ?_)
        rw [hln_at hp ek, decide_eq_false el]
        rfl
      rw [decide_eq_true (by rw [List.length_cons]; omega)]
      refine ifF ?_
      refine ⟨_, rfl, _, _, _, _, rfl, rfl, .of hp1, atI_nat (j := 1) rfl, y1, rfl, thx y1 (by simp), fun H2 s2 => ⟨_, rfl, ?_⟩⟩
      have s02 := s1.trans s2
      have hp2 := s02 _ _ hp
      have q2 := fun H' (s : Same H2 H') => q H' (s02.trans s)
      clear q nol
      have km := kind_mem ek
      simp only [kinds, List.mem_cons, List.not_mem_nil, or_false, Prod.mk.injEq] at km
      cases ew1 : wordV y1 with
      | false =>
        refine ifT ?_
        have e0 : formB H (.ref p) = false := form_no (by
          rw [hln_at hp ek]
          have hm : 1 ≤ m1 := by
            have h2 : ∀ x ∈ kinds, 1 ≤ x.2.2 := by decide +kernel
            exact h2 _ (kind_mem ek)
          obtain ⟨m', rfl⟩ : ∃ m', m1 = m' + 1 := ⟨m1 - 1, by omega⟩
          rw [List.take_succ_cons, List.all_cons, ew1, Bool.false_and, Bool.and_false])
        rw [e0] at q2
        exact q2 H2 (Same.refl H2)
      | true =>
      refine ifF ?_
      rcases km with ⟨rfl, rfl, rfl⟩ | ⟨rfl, rfl, rfl⟩ | ⟨rfl, rfl, rfl⟩ | ⟨rfl, rfl, rfl⟩ | ⟨rfl, rfl, rfl⟩ | ⟨rfl, rfl, rfl⟩
      · obtain ⟨c1, hc⟩ := len1 el
        cases hc
        rw [form_start hp, ew1] at q2
        refine ⟨_, rfl, _, _, _, _, rfl, rfl, .of hp2, atI_nat (j := 0) rfl, .str _, .str _, .str _, .str _, str_shaped lowk, by decide +kernel, _, rfl, ?_⟩
        rw [eqv_str', decide_eq_true rfl]
        refine ifT ?_
        exact q2 H2 (Same.refl H2)
      · obtain ⟨c1, c2, c3, c4, hc⟩ := len4 el
        cases hc
        rw [form_call hp, ew1, Bool.true_and] at q2
        refine ⟨_, rfl, _, _, _, _, rfl, rfl, .of hp2, atI_nat (j := 0) rfl, .str _, .str _, .str _, .str _, str_shaped lowk, by decide +kernel, _, rfl, ?_⟩
        rw [eqv_str', show decide (("call" : Str) = "start") = false from by decide +kernel]
        refine ifF ?_
        refine ⟨_, rfl, _, _, _, _, rfl, rfl, .of hp2, atI_nat (j := 2) rfl, c2, rfl, (hx c2 (by simp)).th.same s02, fun H3 s3 => ⟨_, rfl, ?_⟩⟩
        have hp3 := s3 _ _ hp2
        have s03 := s02.trans s3
        cases ew2 : wordV c2 with
        | false =>
          rw [ew2, Bool.false_and] at q2
          exact ifT (q2 H3 s3)
        | true =>
        rw [ew2, Bool.true_and] at q2
        refine ifF ?_
        refine ⟨_, rfl, _, _, _, _, rfl, rfl, .of hp3, atI_nat (j := 0) rfl, .str _, .str _, .str _, .str _, str_shaped lowk, by decide +kernel, _, rfl, ?_⟩
        rw [eqv_str', decide_eq_true rfl]
        refine ifT ?_
        refine ⟨_, rfl, _, _, _, _, rfl, rfl, .of hp3, atI_nat (j := 3) rfl, c3, rfl, (hx c3 (by simp)).th.same s03, fun H4 s4 => ⟨_, rfl, ?_⟩⟩
        have hp4 := s4 _ _ hp3
        cases ew3 : wordV c3 with
        | false =>
          rw [ew3, Bool.false_and] at q2
          exact ifF (q2 H4 (s3.trans s4))
        | true =>
        rw [ew3, Bool.true_and] at q2
        refine ifT ⟨_, rfl, _, _, _, _, rfl, rfl, .of hp4, atI_nat (j := 4) rfl, c4, rfl, (hx c4 (by simp)).kp (Kp.same (s03.trans s4)), fun H5 s5 => ?_⟩
        rw [itsB_kp (hx c4 (by simp)) (Kp.same (s03.trans s4))]
        exact q2 H5 ((s3.trans s4).trans s5)
      · obtain ⟨c1, c2, c3, hc⟩ := len3 el
        cases hc
        rw [form_join true hp, ew1, Bool.true_and] at q2
        refine ⟨_, rfl, _, _, _, _, rfl, rfl, .of hp2, atI_nat (j := 0) rfl, .str _, .str _, .str _, .str _, str_shaped lowk, by decide +kernel, _, rfl, ?_⟩
        rw [eqv_str', show decide (("both" : Str) = "start") = false from by decide +kernel]
        refine ifF ?_
        refine ⟨_, rfl, _, _, _, _, rfl, rfl, .of hp2, atI_nat (j := 2) rfl, c2, rfl, (hx c2 (by simp)).th.same s02, fun H3 s3 => ⟨_, rfl, ?_⟩⟩
        have hp3 := s3 _ _ hp2
        have s03 := s02.trans s3
        cases ew2 : wordV c2 with
        | false =>
          rw [ew2, Bool.false_and] at q2
          exact ifT (q2 H3 s3)
        | true =>
        rw [ew2, Bool.true_and] at q2
        refine ifF ?_
        refine ⟨_, rfl, _, _, _, _, rfl, rfl, .of hp3, atI_nat (j := 0) rfl, .str _, .str _, .str _, .str _, str_shaped lowk, by decide +kernel, _, rfl, ?_⟩
        rw [eqv_str', show decide (("both" : Str) = "call") = false from by decide +kernel]
        refine ifF ?_
        refine ⟨_, rfl, _, _, _, _, rfl, rfl, .of hp3, atI_nat (j := 0) rfl, .str _, .str _, .str _, .str _, str_shaped lowk, by decide +kernel, _, rfl, ?_⟩
        rw [eqv_str', show decide (("both" : Str) = "where") = false from by decide +kernel]
        refine ifF ?_
        refine ⟨_, rfl, _, _, _, _, rfl, rfl, .of hp3, atI_nat (j := 0) rfl, .str _, .str _, .str _, .str _, str_shaped lowk, by decide +kernel, _, rfl, ?_⟩
        rw [eqv_str', show decide (("both" : Str) = "take") = false from by decide +kernel]
        refine ifF ?_
        exact ⟨_, rfl, _, _, _, _, rfl, rfl, .of hp3, atI_nat (j := 3) rfl, c3, rfl, (hx c3 (by simp)).th.same s03, fun H4 s4 => q2 H4 (s3.trans s4)⟩
      · obtain ⟨c1, c2, c3, hc⟩ := len3 el
        cases hc
        rw [form_join false hp, ew1, Bool.true_and] at q2
        refine ⟨_, rfl, _, _, _, _, rfl, rfl, .of hp2, atI_nat (j := 0) rfl, .str _, .str _, .str _, .str _, str_shaped lowk, by decide +kernel, _, rfl, ?_⟩
        rw [eqv_str', show decide (("pair" : Str) = "start") = false from by decide +kernel]
        refine ifF ?_
        refine ⟨_, rfl, _, _, _, _, rfl, rfl, .of hp2, atI_nat (j := 2) rfl, c2, rfl, (hx c2 (by simp)).th.same s02, fun H3 s3 => ⟨_, rfl, ?_⟩⟩
        have hp3 := s3 _ _ hp2
        have s03 := s02.trans s3
        cases ew2 : wordV c2 with
        | false =>
          rw [ew2, Bool.false_and] at q2
          exact ifT (q2 H3 s3)
        | true =>
        rw [ew2, Bool.true_and] at q2
        refine ifF ?_
        refine ⟨_, rfl, _, _, _, _, rfl, rfl, .of hp3, atI_nat (j := 0) rfl, .str _, .str _, .str _, .str _, str_shaped lowk, by decide +kernel, _, rfl, ?_⟩
        rw [eqv_str', show decide (("pair" : Str) = "call") = false from by decide +kernel]
        refine ifF ?_
        refine ⟨_, rfl, _, _, _, _, rfl, rfl, .of hp3, atI_nat (j := 0) rfl, .str _, .str _, .str _, .str _, str_shaped lowk, by decide +kernel, _, rfl, ?_⟩
        rw [eqv_str', show decide (("pair" : Str) = "where") = false from by decide +kernel]
        refine ifF ?_
        refine ⟨_, rfl, _, _, _, _, rfl, rfl, .of hp3, atI_nat (j := 0) rfl, .str _, .str _, .str _, .str _, str_shaped lowk, by decide +kernel, _, rfl, ?_⟩
        rw [eqv_str', show decide (("pair" : Str) = "take") = false from by decide +kernel]
        refine ifF ?_
        exact ⟨_, rfl, _, _, _, _, rfl, rfl, .of hp3, atI_nat (j := 3) rfl, c3, rfl, (hx c3 (by simp)).th.same s03, fun H4 s4 => q2 H4 (s3.trans s4)⟩
      · obtain ⟨c1, c2, c3, c4, hc⟩ := len4 el
        cases hc
        rw [form_where hp, ew1, Bool.true_and] at q2
        refine ⟨_, rfl, _, _, _, _, rfl, rfl, .of hp2, atI_nat (j := 0) rfl, .str _, .str _, .str _, .str _, str_shaped lowk, by decide +kernel, _, rfl, ?_⟩
        rw [eqv_str', show decide (("where" : Str) = "start") = false from by decide +kernel]
        refine ifF ?_
        refine ⟨_, rfl, _, _, _, _, rfl, rfl, .of hp2, atI_nat (j := 2) rfl, c2, rfl, (hx c2 (by simp)).th.same s02, fun H3 s3 => ⟨_, rfl, ?_⟩⟩
        have hp3 := s3 _ _ hp2
        have s03 := s02.trans s3
        cases ew2 : wordV c2 with
        | false =>
          rw [ew2, Bool.false_and] at q2
          exact ifT (q2 H3 s3)
        | true =>
        rw [ew2, Bool.true_and] at q2
        refine ifF ?_
        refine ⟨_, rfl, _, _, _, _, rfl, rfl, .of hp3, atI_nat (j := 0) rfl, .str _, .str _, .str _, .str _, str_shaped lowk, by decide +kernel, _, rfl, ?_⟩
        rw [eqv_str', show decide (("where" : Str) = "call") = false from by decide +kernel]
        refine ifF ?_
        refine ⟨_, rfl, _, _, _, _, rfl, rfl, .of hp3, atI_nat (j := 0) rfl, .str _, .str _, .str _, .str _, str_shaped lowk, by decide +kernel, _, rfl, ?_⟩
        rw [eqv_str', decide_eq_true rfl]
        refine ifT ?_
        have hc3 := (hx c3 (by simp)).th
        refine ⟨_, rfl, _, _, _, _, rfl, rfl, .of hp3, atI_nat (j := 3) rfl, c3, rfl, hc3.same s03, fun H4 s4 => ⟨_, rfl, ?_⟩⟩
        have hp4 := s4 _ _ hp3
        have fa : idxB c3 = false → Q (.bl false) H4 := fun h => by
          rw [h, Bool.false_and] at q2
          exact q2 H4 (s3.trans s4)
        cases hc3 with
        | bl b => exact ifF (fa rfl)
        | non => exact ifF (fa rfl)
        | str s _ _ => exact ifF (fa rfl)
        | lst e => exact ifF (fa rfl)
        | tup e => exact ifF (fa rfl)
        | int i =>
          refine ifT ⟨_, rfl, _, _, _, _, rfl, rfl, .of hp4, atI_nat (j := 3) rfl, _, _, rfl, rfl, _, rfl, ite_d (fun g => ?_) (fun g => ?_)⟩
          · have ei : idxB (.int i) = true := decide_eq_true g
            rw [ei, Bool.true_and] at q2
            refine ⟨_, rfl, _, _, _, _, rfl, rfl, .of hp4, atI_nat (j := 4) rfl, c4, rfl, (hx c4 (by simp)).down.kp (Kp.same (s03.trans s4)), fun H5 s5 => ?_⟩
            rw [itemB_kp (hx c4 (by simp)).th (Kp.same (s03.trans s4))]
            exact q2 H5 ((s3.trans s4).trans s5)
          · exact fa (decide_eq_false g)
      · obtain ⟨c1, c2, c3, hc⟩ := len3 el
        cases hc
        rw [form_take hp, ew1, Bool.true_and] at q2
        refine ⟨_, rfl, _, _, _, _, rfl, rfl, .of hp2, atI_nat (j := 0) rfl, .str _, .str _, .str _, .str _, str_shaped lowk, by decide +kernel, _, rfl, ?_⟩
        rw [eqv_str', show decide (("take" : Str) = "start") = false from by decide +kernel]
        refine ifF ?_
        refine ⟨_, rfl, _, _, _, _, rfl, rfl, .of hp2, atI_nat (j := 2) rfl, c2, rfl, (hx c2 (by simp)).th.same s02, fun H3 s3 => ⟨_, rfl, ?_⟩⟩
        have hp3 := s3 _ _ hp2
        have s03 := s02.trans s3
        cases ew2 : wordV c2 with
        | false =>
          rw [ew2, Bool.false_and] at q2
          exact ifT (q2 H3 s3)
        | true =>
        rw [ew2, Bool.true_and] at q2
        refine ifF ?_
        refine ⟨_, rfl, _, _, _, _, rfl, rfl, .of hp3, atI_nat (j := 0) rfl, .str _, .str _, .str _, .str _, str_shaped lowk, by decide +kernel, _, rfl, ?_⟩
        rw [eqv_str', show decide (("take" : Str) = "call") = false from by decide +kernel]
        refine ifF ?_
        refine ⟨_, rfl, _, _, _, _, rfl, rfl, .of hp3, atI_nat (j := 0) rfl, .str _, .str _, .str _, .str _, str_shaped lowk, by decide +kernel, _, rfl, ?_⟩
        rw [eqv_str', show decide (("take" : Str) = "where") = false from by decide +kernel]
        refine ifF ?_
        refine ⟨_, rfl, _, _, _, _, rfl, rfl, .of hp3, atI_nat (j := 0) rfl, .str _, .str _, .str _, .str _, str_shaped lowk, by decide +kernel, _, rfl, ?_⟩
        rw [eqv_str', decide_eq_true rfl]
        refine ifT ?_
        refine ⟨_, rfl, _, _, _, _, rfl, rfl, .of hp3, atI_nat (j := 3) rfl, c3, rfl, (hx c3 (by simp)).kp (Kp.same s03), fun H4 s4 => ?_⟩
        rw [itsB_kp (hx c3 (by simp)) (Kp.same s03)]
        exact q2 H4 (s3.trans s4)
end
theorem sv_some' {ss : List SvE} {s : Str} : (valV (svK ss) (Sum.inr s)).isSome = (ss.map (·.name)).any (fun x => decide (x = s)) := by
  rw [svAt_val, Bool.eq_iff_iff, List.any_eq_true]
  unfold svAt
  constructor
  · intro h
    cases e : ss.find? (fun b => decide (b.name = s)) with
    | none => rw [e] at h; cases h
    | some b => exact ⟨b.name, List.mem_map.mpr ⟨b, List.mem_of_find?_eq_some e, rfl⟩, by simpa using List.find?_some e⟩
  · rintro ⟨x, hx, e⟩
    obtain ⟨b, hb, rfl⟩ := List.mem_map.mp hx
    obtain ⟨c, hc⟩ := Option.isSome_iff_exists.mp ((List.find?_isSome (p := fun b : SvE => decide (b.name = s))).mpr ⟨b, hb, e⟩)
    rw [hc]
    rfl
theorem low_kind (st : StD) : Low st.kind := by
  have h6 : ∀ x ∈ kinds, Low x.1 := by
    have : (kinds.all fun x => x.1.cps.toList.all fun c => decide (c < 128)) = true := by decide +kernel
    intro x hx c hc
    exact of_decide_eq_true (List.all_eq_true.mp (List.all_eq_true.mp this x hx) c hc)
  exact h6 _ (st_kinds st)
section
variable {P : Program} {w : World} {K : PySem.W.Frag} {mg : Str → Option Value} {base : Heap} {a : Nat → Addr} {d : Nat → FuncData}
def spNameF : Sp := fun vs H Q _ => ∃ (v p z : Addr) (st : StD) (sz : Str → Option SzD) (ss : List SvE), vs = [.ref v, .ref p, .ref z] ∧ H v = some (.dK (svK ss)) ∧ StAt H p st ∧ SzAt H z sz ∧ ∀ H', Same H H' → Q (.bl (!namesB sz ss st)) H'
theorem ok_namef (T : Txt K mg a d) : FnOk P w K mg base CX0 1 (a 75) (d 75) ["_law_services_here", "_law_step", "_law_shapes"] spNameF := by
  refine T.F75.ok sc__law_name_fault (fun vs H Q E h => ?_) (fun cdv A outer s H vs Q E hr h => ?_)
  · obtain ⟨v, p, z, st, sz, ss, rfl, _⟩ := h
    rfl
  · obtain ⟨v, p, z, st, sz, ss, rfl, hv, hs, hz, q⟩ := h
    obtain ⟨rest, hp⟩ := st_name hs
    refine ⟨_, (pss_cons (ps_if (pt_cmp (pc_din (hu_of hr) (pe_ix ix_tup (pv 1) pe_int (fun _ _ => rfl)) (pv 2)))
    (pss_one (ps_ret pe_bl))
    pss_nil)
  (Evl.pss_cut (ps_if (PW.pt (pw_and (pt_cmpR (op_neD (hu_of64 hr)) (pe_ix ix_tup (pv 1) pe_int (fun _ _ => rfl)) pe_str (nomark _)) (pw_and1 (pt_cmp (pc_dnotin (hu_of hr) (pe_ix ix_tup (pv 1) pe_int (fun _ _ => rfl)) (pv 2))))))
    (pss_one (ps_ret pe_bl))
    pss_nil)
  (Evl.pss_cut (ps_if (PW.pt (pw_and (pt_cmpR (op_inD (hu_of65 hr)) (pe_ix ix_tup (pv 1) pe_int (fun _ _ => rfl)) (pe_lst (pa_cons pe_str (pa_cons pe_str pa_nil))) (by rfl)) (pw_and1 (pt_cmp (pc_dnotin (hu_of hr) (pe_ix ix_tup (pv 1) pe_int (fun _ _ => rfl)) (pv 2))))))
    (pss_one (ps_ret pe_bl))
    pss_nil)
  (pss_one (ps_ret (pe_and (pe_cmpR (op_eqD (hu_of64 hr)) (pe_ix ix_tup (pv 1) pe_int (fun _ _ => rfl)) pe_str (nomark _)) (pe_one (pe_cmp (pc_dnotin (hu_of hr) (pe_ix ix_tup (pv 1) pe_int (fun _ _ => rfl)) (pv 0)) rfl)))))))), ?_⟩
    have lowk := low_kind st
    obtain ⟨o1, g1, g2⟩ := hz.has st.name
    refine ⟨_, rfl, _, _, _, _, rfl, rfl, .of hp, atI_nat (j := 1) rfl, _, rfl, z, _, rfl, g1, _, rfl, ?_⟩
    rw [g2]
    cases e1 : (sz st.name).isSome with
    | true =>
      have e : namesB sz ss st = false := by unfold namesB; rw [e1]; rfl
      rw [e] at q
      exact ifT (q H (Same.refl H))
    | false =>
    refine ifF ?_
    have step2 : ∀ n ∈ st.used, (sz n).isSome = false → Q (.bl true) H := fun n hn h => by
      have e : namesB sz ss st = false := by
        unfold namesB
        have : st.used.all (fun n => (sz n).isSome) = false := by
          cases ea : st.used.all (fun n => (sz n).isSome) with
          | false => rfl
          | true => have := List.all_eq_true.mp ea n hn; rw [h] at this; cases this
        rw [this, Bool.and_false]
        rfl
      rw [e] at q
      exact q H (Same.refl H)
    cases st with
    | start n =>
      have hs : H p = some (.tup [.str "start", .str n]) := hs
      refine ⟨fun σ' H' => σ' = [some (V.ref v), some (V.ref p), some (V.ref z)] ∧ H' = H ∧ ∀ n ∈ (StD.start n).used.take 1, (sz n).isSome = true, ?_, ?_⟩
      · refine ⟨_, rfl, _, _, _, _, rfl, rfl, .of hs, atI_nat (j := 0) rfl, .str _, .str _, .str _, .str _, str_shaped lowk, by decide +kernel, _, rfl, ?_⟩
        rw [eqv_str', show decide (("start" : Str) = "start") = true from decide_eq_true rfl]
        exact ifF ⟨rfl, rfl, fun n hn => by cases hn⟩
      rintro σ' H' ⟨rfl, rfl, e2⟩
      refine ⟨fun σ' H'' => σ' = [some (V.ref v), some (V.ref p), some (V.ref z)] ∧ Same H' H'' ∧ ∀ n ∈ (StD.start n).used, (sz n).isSome = true, ?_, ?_⟩
      · refine ⟨_, rfl, _, _, _, _, rfl, rfl, .of hs, atI_nat (j := 0) rfl, by show 2 ≤ sizeLine; decide, fun bb hb => ?_⟩
        have sb := same_upd (o := .lst [.str "both", .str "pair"]) hb
        have hbt : upd H' bb (.lst [.str "both", .str "pair"]) bb = some (.lst [.str "both", .str "pair"]) := upd_same
        generalize upd H' bb (.lst [.str "both", .str "pair"]) = H1 at sb hbt ⊢
        refine ⟨.str _, [.str "both", .str "pair"], .str _, .lst (.of hbt) (.cons (.str _) (.cons (.str _) .nil)), str_shaped lowk, by decide +kernel, _, rfl, ?_⟩
        rw [show (([.str "both", .str "pair"] : List PyData).any fun z => PyData.eqv z (.str ("start" : Str))) = false from by rw [List.any_cons, List.any_cons, List.any_nil, eqv_str', eqv_str']; decide +kernel]
        exact ifF ⟨rfl, sb, fun n hn => by cases hn⟩
      rintro σ' H2 ⟨rfl, s2, e3⟩
      have ea : (StD.start n).used.all (fun n => (sz n).isSome) = true := List.all_eq_true.mpr e3
      refine ⟨_, rfl, _, _, _, _, rfl, rfl, .of (s2 _ _ hs), atI_nat (j := 0) rfl, .str _, .str _, .str _, .str _, str_shaped lowk, by decide +kernel, _, rfl, ?_⟩
      rw [eqv_str', show decide (("start" : Str) = "call") = false from by decide +kernel]
      refine ifF ?_
      have e : namesB sz ss (.start n) = true := by
        unfold namesB
        rw [e1, ea]
        rfl
      rw [e] at q
      exact q H2 s2
    | call n o s its =>
      obtain ⟨g', us', hs, _, _⟩ := hs
      refine ⟨fun σ' H' => σ' = [some (V.ref v), some (V.ref p), some (V.ref z)] ∧ H' = H ∧ ∀ n ∈ (StD.call n o s its).used.take 1, (sz n).isSome = true, ?_, ?_⟩
      · refine ⟨_, rfl, _, _, _, _, rfl, rfl, .of hs, atI_nat (j := 0) rfl, .str _, .str _, .str _, .str _, str_shaped lowk, by decide +kernel, _, rfl, ?_⟩
        rw [eqv_str', show decide (("call" : Str) = "start") = false from by decide +kernel]
        refine ifT ?_
        obtain ⟨o2, j1, j2⟩ := hz.has o
        refine ⟨_, rfl, _, _, _, _, rfl, rfl, .of hs, atI_nat (j := 2) rfl, _, rfl, z, _, rfl, j1, _, rfl, ?_⟩
        rw [j2]
        cases e2 : (sz o).isSome with
        | false => exact ifT (step2 o (by simp [StD.used]) e2)
        | true => exact ifF ⟨rfl, rfl, fun n hn => by
            have hn : n ∈ [o] := hn
            rw [List.mem_singleton.mp hn]
            exact e2⟩
      rintro σ' H' ⟨rfl, rfl, e2⟩
      refine ⟨fun σ' H'' => σ' = [some (V.ref v), some (V.ref p), some (V.ref z)] ∧ Same H' H'' ∧ ∀ n ∈ (StD.call n o s its).used, (sz n).isSome = true, ?_, ?_⟩
      · refine ⟨_, rfl, _, _, _, _, rfl, rfl, .of hs, atI_nat (j := 0) rfl, by show 2 ≤ sizeLine; decide, fun bb hb => ?_⟩
        have sb := same_upd (o := .lst [.str "both", .str "pair"]) hb
        have hbt : upd H' bb (.lst [.str "both", .str "pair"]) bb = some (.lst [.str "both", .str "pair"]) := upd_same
        generalize upd H' bb (.lst [.str "both", .str "pair"]) = H1 at sb hbt ⊢
        refine ⟨.str _, [.str "both", .str "pair"], .str _, .lst (.of hbt) (.cons (.str _) (.cons (.str _) .nil)), str_shaped lowk, by decide +kernel, _, rfl, ?_⟩
        rw [show (([.str "both", .str "pair"] : List PyData).any fun z => PyData.eqv z (.str ("call" : Str))) = false from by rw [List.any_cons, List.any_cons, List.any_nil, eqv_str', eqv_str']; decide +kernel]
        exact ifF ⟨rfl, sb, fun n hn => e2 n (by simpa [StD.used] using hn)⟩
      rintro σ' H2 ⟨rfl, s2, e3⟩
      have ea : (StD.call n o s its).used.all (fun n => (sz n).isSome) = true := List.all_eq_true.mpr e3
      refine ⟨_, rfl, _, _, _, _, rfl, rfl, .of (s2 _ _ hs), atI_nat (j := 0) rfl, .str _, .str _, .str _, .str _, str_shaped lowk, by decide +kernel, _, rfl, ?_⟩
      rw [eqv_str', show decide (("call" : Str) = "call") = true from decide_eq_true rfl]
      refine ifT ?_
      refine ⟨_, rfl, _, _, _, _, rfl, rfl, .of (s2 _ _ hs), atI_nat (j := 3) rfl, _, rfl, v, _, rfl, DGet.k (k := .inr s) (s2 _ _ hv), ?_⟩
      rw [sv_some']
      have e : namesB sz ss (.call n o s its) = (ss.map (·.name)).any (fun x => decide (x = s)) := by
        unfold namesB
        rw [e1, ea]
        rfl
      rw [e] at q
      exact q H2 s2
    | join b n x y =>
      have hs : H p = some (.tup [.str (if b then "both" else "pair"), .str n, .str x, .str y]) := hs
      refine ⟨fun σ' H' => σ' = [some (V.ref v), some (V.ref p), some (V.ref z)] ∧ H' = H ∧ ∀ n ∈ (StD.join b n x y).used.take 1, (sz n).isSome = true, ?_, ?_⟩
      · refine ⟨_, rfl, _, _, _, _, rfl, rfl, .of hs, atI_nat (j := 0) rfl, .str _, .str _, .str _, .str _, str_shaped lowk, by decide +kernel, _, rfl, ?_⟩
        rw [eqv_str', show decide ((if b then "both" else "pair" : Str) = "start") = false from by cases b <;> decide +kernel]
        refine ifT ?_
        obtain ⟨o2, j1, j2⟩ := hz.has x
        refine ⟨_, rfl, _, _, _, _, rfl, rfl, .of hs, atI_nat (j := 2) rfl, _, rfl, z, _, rfl, j1, _, rfl, ?_⟩
        rw [j2]
        cases e2 : (sz x).isSome with
        | false => exact ifT (step2 x (by simp [StD.used]) e2)
        | true => exact ifF ⟨rfl, rfl, fun n hn => by
            have hn : n ∈ [x] := hn
            rw [List.mem_singleton.mp hn]
            exact e2⟩
      rintro σ' H' ⟨rfl, rfl, e2⟩
      refine ⟨fun σ' H'' => σ' = [some (V.ref v), some (V.ref p), some (V.ref z)] ∧ Same H' H'' ∧ ∀ n ∈ (StD.join b n x y).used, (sz n).isSome = true, ?_, ?_⟩
      · refine ⟨_, rfl, _, _, _, _, rfl, rfl, .of hs, atI_nat (j := 0) rfl, by show 2 ≤ sizeLine; decide, fun bb hb => ?_⟩
        have sb := same_upd (o := .lst [.str "both", .str "pair"]) hb
        have hbt : upd H' bb (.lst [.str "both", .str "pair"]) bb = some (.lst [.str "both", .str "pair"]) := upd_same
        generalize upd H' bb (.lst [.str "both", .str "pair"]) = H1 at sb hbt ⊢
        refine ⟨.str _, [.str "both", .str "pair"], .str _, .lst (.of hbt) (.cons (.str _) (.cons (.str _) .nil)), str_shaped lowk, by decide +kernel, _, rfl, ?_⟩
        rw [show (([.str "both", .str "pair"] : List PyData).any fun z => PyData.eqv z (.str (if b then "both" else "pair" : Str))) = true from by rw [List.any_cons, List.any_cons, List.any_nil, eqv_str', eqv_str']; cases b <;> decide +kernel]
        refine ifT ?_
        obtain ⟨o3, j1, j2⟩ := (hz.same sb).has y
        refine ⟨_, rfl, _, _, _, _, rfl, rfl, .of (sb _ _ hs), atI_nat (j := 3) rfl, _, rfl, z, _, rfl, j1, _, rfl, ?_⟩
        rw [j2]
        cases e3 : (sz y).isSome with
        | false =>
          refine ifT ?_
          have e : namesB sz ss (.join b n x y) = false := by
            unfold namesB
            rw [show (StD.join b n x y).used.all (fun n => (sz n).isSome) = false from by show ((sz x).isSome && ((sz y).isSome && true)) = false; rw [e3, Bool.false_and, Bool.and_false]]
            rw [Bool.and_false]
            rfl
          rw [e] at q
          exact q H1 sb
        | true => exact ifF ⟨rfl, sb, fun n hn => by
            have hn : n ∈ [x, y] := hn
            rcases List.mem_cons.mp hn with rfl | hn
            · exact e2 n (by simp [StD.used])
            · rw [List.mem_singleton.mp hn]
              exact e3⟩
      rintro σ' H2 ⟨rfl, s2, e3⟩
      have ea : (StD.join b n x y).used.all (fun n => (sz n).isSome) = true := List.all_eq_true.mpr e3
      refine ⟨_, rfl, _, _, _, _, rfl, rfl, .of (s2 _ _ hs), atI_nat (j := 0) rfl, .str _, .str _, .str _, .str _, str_shaped lowk, by decide +kernel, _, rfl, ?_⟩
      rw [eqv_str', show decide ((if b then "both" else "pair" : Str) = "call") = false from by cases b <;> decide +kernel]
      refine ifF ?_
      have e : namesB sz ss (.join b n x y) = true := by
        unfold namesB
        rw [e1, ea]
        rfl
      rw [e] at q
      exact q H2 s2
    | whr n o i it =>
      obtain ⟨v', hs, _⟩ := hs
      refine ⟨fun σ' H' => σ' = [some (V.ref v), some (V.ref p), some (V.ref z)] ∧ H' = H ∧ ∀ n ∈ (StD.whr n o i it).used.take 1, (sz n).isSome = true, ?_, ?_⟩
      · refine ⟨_, rfl, _, _, _, _, rfl, rfl, .of hs, atI_nat (j := 0) rfl, .str _, .str _, .str _, .str _, str_shaped lowk, by decide +kernel, _, rfl, ?_⟩
        rw [eqv_str', show decide (("where" : Str) = "start") = false from by decide +kernel]
        refine ifT ?_
        obtain ⟨o2, j1, j2⟩ := hz.has o
        refine ⟨_, rfl, _, _, _, _, rfl, rfl, .of hs, atI_nat (j := 2) rfl, _, rfl, z, _, rfl, j1, _, rfl, ?_⟩
        rw [j2]
        cases e2 : (sz o).isSome with
        | false => exact ifT (step2 o (by simp [StD.used]) e2)
        | true => exact ifF ⟨rfl, rfl, fun n hn => by
            have hn : n ∈ [o] := hn
            rw [List.mem_singleton.mp hn]
            exact e2⟩
      rintro σ' H' ⟨rfl, rfl, e2⟩
      refine ⟨fun σ' H'' => σ' = [some (V.ref v), some (V.ref p), some (V.ref z)] ∧ Same H' H'' ∧ ∀ n ∈ (StD.whr n o i it).used, (sz n).isSome = true, ?_, ?_⟩
      · refine ⟨_, rfl, _, _, _, _, rfl, rfl, .of hs, atI_nat (j := 0) rfl, by show 2 ≤ sizeLine; decide, fun bb hb => ?_⟩
        have sb := same_upd (o := .lst [.str "both", .str "pair"]) hb
        have hbt : upd H' bb (.lst [.str "both", .str "pair"]) bb = some (.lst [.str "both", .str "pair"]) := upd_same
        generalize upd H' bb (.lst [.str "both", .str "pair"]) = H1 at sb hbt ⊢
        refine ⟨.str _, [.str "both", .str "pair"], .str _, .lst (.of hbt) (.cons (.str _) (.cons (.str _) .nil)), str_shaped lowk, by decide +kernel, _, rfl, ?_⟩
        rw [show (([.str "both", .str "pair"] : List PyData).any fun z => PyData.eqv z (.str ("where" : Str))) = false from by rw [List.any_cons, List.any_cons, List.any_nil, eqv_str', eqv_str']; decide +kernel]
        exact ifF ⟨rfl, sb, fun n hn => e2 n (by simpa [StD.used] using hn)⟩
      rintro σ' H2 ⟨rfl, s2, e3⟩
      have ea : (StD.whr n o i it).used.all (fun n => (sz n).isSome) = true := List.all_eq_true.mpr e3
      refine ⟨_, rfl, _, _, _, _, rfl, rfl, .of (s2 _ _ hs), atI_nat (j := 0) rfl, .str _, .str _, .str _, .str _, str_shaped lowk, by decide +kernel, _, rfl, ?_⟩
      rw [eqv_str', show decide (("where" : Str) = "call") = false from by decide +kernel]
      refine ifF ?_
      have e : namesB sz ss (.whr n o i it) = true := by
        unfold namesB
        rw [e1, ea]
        rfl
      rw [e] at q
      exact q H2 s2
    | take n o its =>
      obtain ⟨g', us', hs, _, _⟩ := hs
      refine ⟨fun σ' H' => σ' = [some (V.ref v), some (V.ref p), some (V.ref z)] ∧ H' = H ∧ ∀ n ∈ (StD.take n o its).used.take 1, (sz n).isSome = true, ?_, ?_⟩
      · refine ⟨_, rfl, _, _, _, _, rfl, rfl, .of hs, atI_nat (j := 0) rfl, .str _, .str _, .str _, .str _, str_shaped lowk, by decide +kernel, _, rfl, ?_⟩
        rw [eqv_str', show decide (("take" : Str) = "start") = false from by decide +kernel]
        refine ifT ?_
        obtain ⟨o2, j1, j2⟩ := hz.has o
        refine ⟨_, rfl, _, _, _, _, rfl, rfl, .of hs, atI_nat (j := 2) rfl, _, rfl, z, _, rfl, j1, _, rfl, ?_⟩
        rw [j2]
        cases e2 : (sz o).isSome with
        | false => exact ifT (step2 o (by simp [StD.used]) e2)
        | true => exact ifF ⟨rfl, rfl, fun n hn => by
            have hn : n ∈ [o] := hn
            rw [List.mem_singleton.mp hn]
            exact e2⟩
      rintro σ' H' ⟨rfl, rfl, e2⟩
      refine ⟨fun σ' H'' => σ' = [some (V.ref v), some (V.ref p), some (V.ref z)] ∧ Same H' H'' ∧ ∀ n ∈ (StD.take n o its).used, (sz n).isSome = true, ?_, ?_⟩
      · refine ⟨_, rfl, _, _, _, _, rfl, rfl, .of hs, atI_nat (j := 0) rfl, by show 2 ≤ sizeLine; decide, fun bb hb => ?_⟩
        have sb := same_upd (o := .lst [.str "both", .str "pair"]) hb
        have hbt : upd H' bb (.lst [.str "both", .str "pair"]) bb = some (.lst [.str "both", .str "pair"]) := upd_same
        generalize upd H' bb (.lst [.str "both", .str "pair"]) = H1 at sb hbt ⊢
        refine ⟨.str _, [.str "both", .str "pair"], .str _, .lst (.of hbt) (.cons (.str _) (.cons (.str _) .nil)), str_shaped lowk, by decide +kernel, _, rfl, ?_⟩
        rw [show (([.str "both", .str "pair"] : List PyData).any fun z => PyData.eqv z (.str ("take" : Str))) = false from by rw [List.any_cons, List.any_cons, List.any_nil, eqv_str', eqv_str']; decide +kernel]
        exact ifF ⟨rfl, sb, fun n hn => e2 n (by simpa [StD.used] using hn)⟩
      rintro σ' H2 ⟨rfl, s2, e3⟩
      have ea : (StD.take n o its).used.all (fun n => (sz n).isSome) = true := List.all_eq_true.mpr e3
      refine ⟨_, rfl, _, _, _, _, rfl, rfl, .of (s2 _ _ hs), atI_nat (j := 0) rfl, .str _, .str _, .str _, .str _, str_shaped lowk, by decide +kernel, _, rfl, ?_⟩
      rw [eqv_str', show decide (("take" : Str) = "call") = false from by decide +kernel]
      refine ifF ?_
      have e : namesB sz ss (.take n o its) = true := by
        unfold namesB
        rw [e1, ea]
        rfl
      rw [e] at q
      exact q H2 s2
end
section
variable {P : Program} {w : World} {K : PySem.W.Frag} {mg : Str → Option Value} {base : Heap} {a : Nat → Addr} {d : Nat → FuncData}
def spItemsF : Sp := fun vs H Q _ => ∃ (v p z : Addr) (st : StD) (sz : Str → Option SzD) (ts : List (Str × Int)) (ks : List KeyE) (ss : List SvE) (n : Nat), vs = [.ref v, .ref p, .ref z] ∧ H v = some (.dK (svK ss)) ∧ Svcs H ts ks ss n ∧ StAt H p st ∧ SzAt H z sz ∧ namesB sz ss st = true ∧ st.items.length ≤ 100 ∧ ∀ H', Same H H' → Q (.bl (!itemsB sz (kOf ss st) st)) H'
theorem ok_itemsf (T : Txt K mg a d) : FnOk P w K mg base CX0 1 (a 76) (d 76) ["_law_services_here", "_law_step", "_law_shapes"] spItemsF := by
  refine T.F76.ok sc__law_items_fault (fun vs H Q E h => ?_) (fun cdv A outer s H vs Q E hr h => ?_)
  · obtain ⟨v, p, z, st, sz, ts, ks, ss, n, rfl, _⟩ := h
    rfl
  · obtain ⟨v, p, z, st, sz, ts, ks, ss, n0, rfl, hv, hS, hs0, hz, hnm, l100, q⟩ := h
    refine ⟨_, (pss_cons (ps_set (i := 3) sc__law_items_fault.nd rfl (.inl rfl) (pe_lst pa_nil))
  (Evl.pss_cut (ps_if (pt_cmpR (op_eqD (hu_of64 hr)) (pe_ix ix_tup (pv 1) pe_int (fun _ _ => rfl)) pe_str (nomark _))
    (pss_cons (ps_set (i := 3) sc__law_items_fault.nd rfl (.inl rfl) (pe_callTy (T := "list")  call_list_of (by rfl) T.z_list (by decide +kernel) (pa_cons (pe_ix ix_tup (pv 1) pe_int (fun _ _ => rfl)) pa_nil)))
      (pss_one (ps_if (pt_cmpR op_ne (pe_callB (id := "len")  call_len_seq (by rfl) T.z_len (by decide +kernel) (pa_cons (pv 3) pa_nil)) (pe_callB (id := "len")  call_len_seq (by rfl) T.z_len (by decide +kernel) (pa_cons (pe_ix ix_tup (pe_dget (hu_of hr) (pv 0) (pe_ix ix_tup (pv 1) pe_int (fun _ _ => rfl)) (fun _ _ => rfl)) pe_int (fun _ _ => rfl)) pa_nil)) (nomark _))
        (pss_one (ps_ret pe_bl))
        pss_nil)))
    pss_nil)
  (Evl.pss_cut (ps_if (pt_cmpR (op_eqD (hu_of64 hr)) (pe_ix ix_tup (pv 1) pe_int (fun _ _ => rfl)) pe_str (nomark _))
    (pss_one (ps_set (i := 3) sc__law_items_fault.nd rfl (.inl rfl) (pe_lst (pa_cons (pe_ix ix_tup (pv 1) pe_int (fun _ _ => rfl)) (pa_cons (pe_ix ix_tup (pv 1) pe_int (fun _ _ => rfl)) pa_nil)))))
    pss_nil)
  (Evl.pss_cut (ps_if (pt_cmpR (op_eqD (hu_of64 hr)) (pe_ix ix_tup (pv 1) pe_int (fun _ _ => rfl)) pe_str (nomark _))
    (pss_one (ps_set (i := 3) sc__law_items_fault.nd rfl (.inl rfl) (pe_callTy (T := "list")  call_list_of (by rfl) T.z_list (by decide +kernel) (pa_cons (pe_ix ix_tup (pv 1) pe_int (fun _ _ => rfl)) pa_nil))))
    pss_nil)
  (pss_one (ps_ret (pe_cmpR (op_neD (hu_of64 hr)) (pe_lc (own := [("_law_item_here", 4)]) rfl sc__law_items_fault.nd (pi_list (pv 3)) (blkOk_by (N := ["_law_services_here", "_law_step", "_law_shapes", "_law_items", "_law_item_here"]) (sc := defScope s__law_items_fault) (by decide +kernel)) (fun _ _ _ _ _ => pg_name (i := 4) sc__law_items_fault.nd rfl (.inl rfl)) (fun _ _ _ _ _ => (pts_one (PW.pt (pw_and (pt_not (pt_val (pe_callB (id := "isinstance") (r := rIsi K)  call_isi (by rfl) T.z_isinstance (by decide +kernel) (pa_cons (pv 4) (pa_cons (pe_bltn (v := .ty "tuple") (by rfl) T.z_tuple (by decide +kernel) rfl) pa_nil))))) (pw_and1 (pt_cmpR op_ge (pv 4) (pe_ix (r := rIxT K) ix_tup (pe_dget (hu_of hr) (pv 2) (pe_ix (r := rIxT K) ix_tup (pv 1) pe_int (fun _ _ => rfl)) (fun _ _ => rfl)) pe_int (fun _ _ => rfl)) (nomark _))))))) (fun _ _ _ _ _ => (pv 4))) (pe_lst pa_nil) (nomark _)))))))), ?_⟩
    have lowk := low_kind st
    have hu := names_used hnm
    refine ⟨Nat.zero_le _, fun L0 hL0 => ?_⟩
    have s1 := same_upd (o := .lst []) hL0
    have hL1 : upd H L0 (.lst []) L0 = some (.lst []) := upd_same
    generalize upd H L0 (.lst []) = H1 at s1 hL1 ⊢
    cases st with
    | start n =>
      have hs : H p = some (.tup [.str "start", .str n]) := hs0
      refine ⟨fun σ' G => ∃ L : Addr, σ' = [some (V.ref v), some (V.ref p), some (V.ref z), some (.ref L), none] ∧ Same H G ∧ G L = some (.lst []), ?_, ?_⟩
      · refine ⟨_, rfl, _, _, _, _, rfl, rfl, .of (s1 _ _ hs), atI_nat (j := 0) rfl, .str _, .str _, .str _, .str _, str_shaped lowk, by decide +kernel, _, rfl, ?_⟩
        rw [eqv_str', show decide (("start" : Str) = "call") = false from by decide +kernel]
        exact ifF ⟨L0, rfl, s1, hL1⟩
      rintro σ' G1 ⟨L1, rfl, sG1, hL1⟩
      refine ⟨fun σ' G => ∃ L : Addr, σ' = [some (V.ref v), some (V.ref p), some (V.ref z), some (.ref L), none] ∧ Same H G ∧ G L = some (.lst []), ?_, ?_⟩
      · refine ⟨_, rfl, _, _, _, _, rfl, rfl, .of (sG1 _ _ hs), atI_nat (j := 0) rfl, .str _, .str _, .str _, .str _, str_shaped lowk, by decide +kernel, _, rfl, ?_⟩
        rw [eqv_str', show decide (("start" : Str) = "where") = false from by decide +kernel]
        exact ifF ⟨L1, rfl, sG1, hL1⟩
      rintro σ' G2 ⟨L2, rfl, sG2, hL2⟩
      refine ⟨fun σ' G => ∃ L : Addr, σ' = [some (V.ref v), some (V.ref p), some (V.ref z), some (.ref L), none] ∧ Same H G ∧ G L = some (.lst []), ?_, ?_⟩
      · refine ⟨_, rfl, _, _, _, _, rfl, rfl, .of (sG2 _ _ hs), atI_nat (j := 0) rfl, .str _, .str _, .str _, .str _, str_shaped lowk, by decide +kernel, _, rfl, ?_⟩
        rw [eqv_str', show decide (("start" : Str) = "take") = false from by decide +kernel]
        exact ifF ⟨L2, rfl, sG2, hL2⟩
      rintro σ' G ⟨L, rfl, sG, hL⟩
      have hco : callOk (kOf ss (.start n)) (.start n) = true := rfl
      have hit : ItsAt G [] (StD.start n).items := .nil
      have hlen := Paired.length hit
      refine ⟨_, rfl, L, rfl, ⟨_, .of hL⟩, fun D hD => ?_⟩
      have hs3 := hs0.keeps fun _ _ e => sG _ _ e
      refine lc_list (K := K) (a := L) (xs := []) (fun i H' => ∃ ns : List Int, H' D = some (.lst (ns.map V.int)) ∧ ns.length ≤ i ∧ ns.isEmpty = ((StD.start n).items.take i).all (itIn ((sz ((StD.start n).used.headD "")).getD (0, 0, 0)).1) ∧ Same G H') ⟨[], upd_same, Nat.le_refl _, rfl, same_upd hD⟩ (fun i H' _ hp => ?_) (fun i yy H' hy hp => ?_) (fun H' hp => ?_)
      · obtain ⟨ns, _, _, _, sx⟩ := hp
        exact .of (sx _ _ hL)
      · obtain ⟨ns, h1, h2, h3, sx⟩ := hp
        obtain ⟨it, hit', hR⟩ := paired_get hit hy
        have li : i < (StD.start n).items.length := (List.getElem?_eq_some_iff.mp hit').1
        obtain ⟨oo, r, eu, hpo⟩ := st_from (hs3.keeps fun _ _ e => sx _ _ e) (fun e => by rw [e] at li; exact absurd li (Nat.not_lt_zero _))
        obtain ⟨t, et⟩ := Option.isSome_iff_exists.mp (hu oo (by rw [eu]; simp))
        obtain ⟨bb, gb, hbb⟩ := (hz.same (sG.trans sx)).get et
        have hR' : ItAt H' yy it := ItAt.keeps hR fun _ _ e => sx _ _ e
        have etk : (StD.start n).items.take (i + 1) = (StD.start n).items.take i ++ [it] := by rw [List.take_succ, hit']; rfl
        have ew : ((sz ((StD.start n).used.headD "")).getD (0, 0, 0)).1 = t.1 := by rw [eu]; show ((sz oo).getD (0, 0, 0)).1 = t.1; rw [et]; rfl
        have eall : ((StD.start n).items.take (i + 1)).all (itIn ((sz ((StD.start n).used.headD "")).getD (0, 0, 0)).1) = (ns.isEmpty && itIn t.1 it) := by
          rw [etk, List.all_append, ← h3, ew, List.all_cons, List.all_nil, Bool.and_true]
        cases it with
        | val xk =>
          obtain ⟨p', rfl, hp'⟩ := hR'
          refine ⟨rfl, _, rfl, _, _, _, _, _, rfl, .ty _, .base (.tup hp'), kit_ty (show kitB "tuple" "tuple" = some true by decide +kernel), true, rfl, ifF ⟨ns, h1, Nat.le_succ_of_le h2, ?_, sx⟩⟩
          rw [eall]
          show ns.isEmpty = (ns.isEmpty && true)
          rw [Bool.and_true]
        | idx j =>
          obtain rfl : yy = .int j := hR'
          refine ⟨rfl, _, rfl, _, _, _, _, _, rfl, .ty _, .base (.int _), kit_ty (show kitB "int" "tuple" = some false by decide +kernel), false, rfl, ifT ?_⟩
          refine ⟨_, rfl, _, rfl, _, rfl, _, _, _, _, rfl, rfl, .of hpo, atI_nat (j := 2) rfl, z, _, rfl, gb, _, _, _, _, rfl, rfl, .of hbb, atI_nat (j := 0) rfl, _, _, rfl, rfl, _, rfl, ite_d (fun g => ?_) (fun g => ?_)⟩
          · have g : t.1 ≤ j := g
            refine ⟨_, rfl, _, h1, ?_, ns ++ [j], ?_, by rw [List.length_append]; exact Nat.succ_le_succ h2, ?_, same_mut sx hD⟩
            · rw [List.length_map]
              exact small1000 (by omega)
            · rw [List.map_append]
              exact upd_same
            · rw [eall]
              show (ns ++ [j]).isEmpty = (ns.isEmpty && decide (j < t.1))
              rw [decide_eq_false (by omega), Bool.and_false]
              cases ns <;> rfl
          · have g : ¬ t.1 ≤ j := g
            refine ⟨ns, h1, Nat.le_succ_of_le h2, ?_, sx⟩
            rw [eall]
            show ns.isEmpty = (ns.isEmpty && decide (j < t.1))
            rw [decide_eq_true (by omega), Bool.and_true]
      · obtain ⟨ns, h1, h2, h3, sx⟩ := hp
        rw [hlen, List.take_length] at h3
        refine ⟨Nat.zero_le _, fun e he => ?_⟩
        have sF := (sG.trans sx).trans (same_upd (o := .lst []) he)
        refine ⟨.list (ns.map PyData.int), .list [], .lst (.of (same_upd he _ _ h1)) (dp_ints _), .lst (.of upd_same) .nil, ?_, by decide, ?_⟩
        · obtain ⟨h1, h2⟩ := lay_ints ns
          show ((PyData.list (ns.map PyData.int)).canLay0 && decide ((PyData.list (ns.map PyData.int)).depth ≤ 64)) = true
          simp only [PyData.canLay0, PyData.depth, h1, h2]
          decide
        · have ei : PyData.eqv (.list (ns.map PyData.int)) (.list []) = ns.isEmpty := by rw [eqv_nilL]; cases ns <;> rfl
          have eq : itemsB sz (kOf ss (StD.start n)) (StD.start n) = ns.isEmpty := by unfold itemsB; rw [hco, Bool.true_and, h3]
          rw [eq] at q
          rw [ei]
          exact q _ sF
    | call n o s its =>
      obtain ⟨g', us', hs, hg', hi'⟩ := id hs0
      refine ⟨fun σ' G => ∃ L : Addr, σ' = [some (V.ref v), some (V.ref p), some (V.ref z), some (.ref L), none] ∧ Same H G ∧ G L = some (.lst us') ∧ callOk (kOf ss (.call n o s its)) (.call n o s its) = true, ?_, ?_⟩
      · refine ⟨_, rfl, _, _, _, _, rfl, rfl, .of (s1 _ _ hs), atI_nat (j := 0) rfl, .str _, .str _, .str _, .str _, str_shaped lowk, by decide +kernel, _, rfl, ?_⟩
        rw [eqv_str', show decide (("call" : Str) = "call") = true from decide_eq_true rfl]
        refine ifT ?_
        obtain ⟨sb, hsb⟩ := names_call hnm
        obtain ⟨hsbm, rfl⟩ := svAt_mem hsb
        obtain ⟨told, _, _⟩ := (hS.mono fun _ _ e => s1 _ _ e).ok sb hsbm
        have gv : DGet H1 v (.str sb.name) (some (.ref sb.at_)) := sv_val hS hsbm ▸ DGet.k (k := .inr sb.name) (s1 _ _ hv)
        refine ⟨_, rfl, _, _, _, _, rfl, rfl, .of (s1 _ _ hs), atI_nat (j := 4) rfl, g', _, rfl, .inr (.of (s1 _ _ hg')), fun L hL0' => ?_⟩
        have s2 := same_upd (o := .lst us') hL0'
        have hL2 : upd H1 L (.lst us') L = some (.lst us') := upd_same
        have gv2 := gv
        have s12 := s1.trans s2
        have gv3 : DGet (upd H1 L (.lst us')) v (.str sb.name) (some (.ref sb.at_)) := sv_val hS hsbm ▸ DGet.k (k := .inr sb.name) (s12 _ _ hv)
        have told2 := told.mono fun _ _ e => s2 _ _ e
        generalize upd H1 L (.lst us') = H2 at s2 hL2 s12 gv3 told2 ⊢
        have ek : kOf ss (.call n o sb.name its) = sb.cols.length := by show ((svAt ss sb.name).map fun b => b.cols.length).getD 0 = _; rw [hsb]; rfl
        have hlu : us'.length = its.length := Paired.length hi'
        refine ⟨_, rfl, L, _, rfl, .inl (.of hL2), _, rfl, _, rfl, _, _, _, _, rfl, rfl, .of (s12 _ _ hs), atI_nat (j := 3) rfl, v, _, rfl, gv3, _, _, _, _, rfl, rfl, .of told2.tup, atI_nat (j := 1) rfl, sb.ga, _, rfl, .inr (.of told2.cols), rfl, _, rfl, ?_⟩
        rw [List.length_map, hlu, show (!decide (V.int (its.length : Nat) = V.int (sb.cols.length : Nat))) = !decide (its.length = sb.cols.length) from by rw [show decide (V.int (its.length : Nat) = V.int (sb.cols.length : Nat)) = decide (its.length = sb.cols.length) from decide_eq_decide.mpr ⟨fun e => Int.ofNat.inj (V.int.inj e), fun e => by rw [e]⟩]]
        by_cases ekk : its.length = sb.cols.length
        · rw [decide_eq_true ekk]
          exact ifF ⟨L, rfl, s12, hL2, by show decide (its.length = _) = true; rw [ek]; exact decide_eq_true ekk⟩
        · rw [decide_eq_false ekk]
          refine ifT ?_
          have e : itemsB sz (kOf ss (.call n o sb.name its)) (.call n o sb.name its) = false := by
            show (decide (its.length = _) && _) = false
            rw [ek, decide_eq_false ekk]
            rfl
          rw [e] at q
          exact q H2 s12
      rintro σ' G1 ⟨L1, rfl, sG1, hL1, hco⟩
      refine ⟨fun σ' G => ∃ L : Addr, σ' = [some (V.ref v), some (V.ref p), some (V.ref z), some (.ref L), none] ∧ Same H G ∧ G L = some (.lst us'), ?_, ?_⟩
      · refine ⟨_, rfl, _, _, _, _, rfl, rfl, .of (sG1 _ _ hs), atI_nat (j := 0) rfl, .str _, .str _, .str _, .str _, str_shaped lowk, by decide +kernel, _, rfl, ?_⟩
        rw [eqv_str', show decide (("call" : Str) = "where") = false from by decide +kernel]
        exact ifF ⟨L1, rfl, sG1, hL1⟩
      rintro σ' G2 ⟨L2, rfl, sG2, hL2⟩
      refine ⟨fun σ' G => ∃ L : Addr, σ' = [some (V.ref v), some (V.ref p), some (V.ref z), some (.ref L), none] ∧ Same H G ∧ G L = some (.lst us'), ?_, ?_⟩
      · refine ⟨_, rfl, _, _, _, _, rfl, rfl, .of (sG2 _ _ hs), atI_nat (j := 0) rfl, .str _, .str _, .str _, .str _, str_shaped lowk, by decide +kernel, _, rfl, ?_⟩
        rw [eqv_str', show decide (("call" : Str) = "take") = false from by decide +kernel]
        exact ifF ⟨L2, rfl, sG2, hL2⟩
      rintro σ' G ⟨L, rfl, sG, hL⟩
      have hit : ItsAt G us' (StD.call n o s its).items := ItsAt.keeps hi' fun _ _ e => sG _ _ e
      have hlen := Paired.length hit
      refine ⟨_, rfl, L, rfl, ⟨_, .of hL⟩, fun D hD => ?_⟩
      have hs3 := hs0.keeps fun _ _ e => sG _ _ e
      refine lc_list (K := K) (a := L) (xs := us') (fun i H' => ∃ ns : List Int, H' D = some (.lst (ns.map V.int)) ∧ ns.length ≤ i ∧ ns.isEmpty = ((StD.call n o s its).items.take i).all (itIn ((sz ((StD.call n o s its).used.headD "")).getD (0, 0, 0)).1) ∧ Same G H') ⟨[], upd_same, Nat.le_refl _, rfl, same_upd hD⟩ (fun i H' _ hp => ?_) (fun i yy H' hy hp => ?_) (fun H' hp => ?_)
      · obtain ⟨ns, _, _, _, sx⟩ := hp
        exact .of (sx _ _ hL)
      · obtain ⟨ns, h1, h2, h3, sx⟩ := hp
        obtain ⟨it, hit', hR⟩ := paired_get hit hy
        have li : i < (StD.call n o s its).items.length := (List.getElem?_eq_some_iff.mp hit').1
        obtain ⟨oo, r, eu, hpo⟩ := st_from (hs3.keeps fun _ _ e => sx _ _ e) (fun e => by rw [e] at li; exact absurd li (Nat.not_lt_zero _))
        obtain ⟨t, et⟩ := Option.isSome_iff_exists.mp (hu oo (by rw [eu]; simp))
        obtain ⟨bb, gb, hbb⟩ := (hz.same (sG.trans sx)).get et
        have hR' : ItAt H' yy it := ItAt.keeps hR fun _ _ e => sx _ _ e
        have etk : (StD.call n o s its).items.take (i + 1) = (StD.call n o s its).items.take i ++ [it] := by rw [List.take_succ, hit']; rfl
        have ew : ((sz ((StD.call n o s its).used.headD "")).getD (0, 0, 0)).1 = t.1 := by rw [eu]; show ((sz oo).getD (0, 0, 0)).1 = t.1; rw [et]; rfl
        have eall : ((StD.call n o s its).items.take (i + 1)).all (itIn ((sz ((StD.call n o s its).used.headD "")).getD (0, 0, 0)).1) = (ns.isEmpty && itIn t.1 it) := by
          rw [etk, List.all_append, ← h3, ew, List.all_cons, List.all_nil, Bool.and_true]
        cases it with
        | val xk =>
          obtain ⟨p', rfl, hp'⟩ := hR'
          refine ⟨rfl, _, rfl, _, _, _, _, _, rfl, .ty _, .base (.tup hp'), kit_ty (show kitB "tuple" "tuple" = some true by decide +kernel), true, rfl, ifF ⟨ns, h1, Nat.le_succ_of_le h2, ?_, sx⟩⟩
          rw [eall]
          show ns.isEmpty = (ns.isEmpty && true)
          rw [Bool.and_true]
        | idx j =>
          obtain rfl : yy = .int j := hR'
          refine ⟨rfl, _, rfl, _, _, _, _, _, rfl, .ty _, .base (.int _), kit_ty (show kitB "int" "tuple" = some false by decide +kernel), false, rfl, ifT ?_⟩
          refine ⟨_, rfl, _, rfl, _, rfl, _, _, _, _, rfl, rfl, .of hpo, atI_nat (j := 2) rfl, z, _, rfl, gb, _, _, _, _, rfl, rfl, .of hbb, atI_nat (j := 0) rfl, _, _, rfl, rfl, _, rfl, ite_d (fun g => ?_) (fun g => ?_)⟩
          · have g : t.1 ≤ j := g
            refine ⟨_, rfl, _, h1, ?_, ns ++ [j], ?_, by rw [List.length_append]; exact Nat.succ_le_succ h2, ?_, same_mut sx hD⟩
            · rw [List.length_map]
              exact small1000 (by omega)
            · rw [List.map_append]
              exact upd_same
            · rw [eall]
              show (ns ++ [j]).isEmpty = (ns.isEmpty && decide (j < t.1))
              rw [decide_eq_false (by omega), Bool.and_false]
              cases ns <;> rfl
          · have g : ¬ t.1 ≤ j := g
            refine ⟨ns, h1, Nat.le_succ_of_le h2, ?_, sx⟩
            rw [eall]
            show ns.isEmpty = (ns.isEmpty && decide (j < t.1))
            rw [decide_eq_true (by omega), Bool.and_true]
      · obtain ⟨ns, h1, h2, h3, sx⟩ := hp
        rw [hlen, List.take_length] at h3
        refine ⟨Nat.zero_le _, fun e he => ?_⟩
        have sF := (sG.trans sx).trans (same_upd (o := .lst []) he)
        refine ⟨.list (ns.map PyData.int), .list [], .lst (.of (same_upd he _ _ h1)) (dp_ints _), .lst (.of upd_same) .nil, ?_, by decide, ?_⟩
        · obtain ⟨h1, h2⟩ := lay_ints ns
          show ((PyData.list (ns.map PyData.int)).canLay0 && decide ((PyData.list (ns.map PyData.int)).depth ≤ 64)) = true
          simp only [PyData.canLay0, PyData.depth, h1, h2]
          decide
        · have ei : PyData.eqv (.list (ns.map PyData.int)) (.list []) = ns.isEmpty := by rw [eqv_nilL]; cases ns <;> rfl
          have eq : itemsB sz (kOf ss (StD.call n o s its)) (StD.call n o s its) = ns.isEmpty := by unfold itemsB; rw [hco, Bool.true_and, h3]
          rw [eq] at q
          rw [ei]
          exact q _ sF
    | join b n x y =>
      have hs : H p = some (.tup [.str (if b then "both" else "pair"), .str n, .str x, .str y]) := hs0
      refine ⟨fun σ' G => ∃ L : Addr, σ' = [some (V.ref v), some (V.ref p), some (V.ref z), some (.ref L), none] ∧ Same H G ∧ G L = some (.lst []), ?_, ?_⟩
      · refine ⟨_, rfl, _, _, _, _, rfl, rfl, .of (s1 _ _ hs), atI_nat (j := 0) rfl, .str _, .str _, .str _, .str _, str_shaped lowk, by decide +kernel, _, rfl, ?_⟩
        rw [eqv_str', show decide ((if b then "both" else "pair" : Str) = "call") = false from by cases b <;> decide +kernel]
        exact ifF ⟨L0, rfl, s1, hL1⟩
      rintro σ' G1 ⟨L1, rfl, sG1, hL1⟩
      refine ⟨fun σ' G => ∃ L : Addr, σ' = [some (V.ref v), some (V.ref p), some (V.ref z), some (.ref L), none] ∧ Same H G ∧ G L = some (.lst []), ?_, ?_⟩
      · refine ⟨_, rfl, _, _, _, _, rfl, rfl, .of (sG1 _ _ hs), atI_nat (j := 0) rfl, .str _, .str _, .str _, .str _, str_shaped lowk, by decide +kernel, _, rfl, ?_⟩
        rw [eqv_str', show decide ((if b then "both" else "pair" : Str) = "where") = false from by cases b <;> decide +kernel]
        exact ifF ⟨L1, rfl, sG1, hL1⟩
      rintro σ' G2 ⟨L2, rfl, sG2, hL2⟩
      refine ⟨fun σ' G => ∃ L : Addr, σ' = [some (V.ref v), some (V.ref p), some (V.ref z), some (.ref L), none] ∧ Same H G ∧ G L = some (.lst []), ?_, ?_⟩
      · refine ⟨_, rfl, _, _, _, _, rfl, rfl, .of (sG2 _ _ hs), atI_nat (j := 0) rfl, .str _, .str _, .str _, .str _, str_shaped lowk, by decide +kernel, _, rfl, ?_⟩
        rw [eqv_str', show decide ((if b then "both" else "pair" : Str) = "take") = false from by cases b <;> decide +kernel]
        exact ifF ⟨L2, rfl, sG2, hL2⟩
      rintro σ' G ⟨L, rfl, sG, hL⟩
      have hco : callOk (kOf ss (.join b n x y)) (.join b n x y) = true := rfl
      have hit : ItsAt G [] (StD.join b n x y).items := .nil
      have hlen := Paired.length hit
      refine ⟨_, rfl, L, rfl, ⟨_, .of hL⟩, fun D hD => ?_⟩
      have hs3 := hs0.keeps fun _ _ e => sG _ _ e
      refine lc_list (K := K) (a := L) (xs := []) (fun i H' => ∃ ns : List Int, H' D = some (.lst (ns.map V.int)) ∧ ns.length ≤ i ∧ ns.isEmpty = ((StD.join b n x y).items.take i).all (itIn ((sz ((StD.join b n x y).used.headD "")).getD (0, 0, 0)).1) ∧ Same G H') ⟨[], upd_same, Nat.le_refl _, rfl, same_upd hD⟩ (fun i H' _ hp => ?_) (fun i yy H' hy hp => ?_) (fun H' hp => ?_)
      · obtain ⟨ns, _, _, _, sx⟩ := hp
        exact .of (sx _ _ hL)
      · obtain ⟨ns, h1, h2, h3, sx⟩ := hp
        obtain ⟨it, hit', hR⟩ := paired_get hit hy
        have li : i < (StD.join b n x y).items.length := (List.getElem?_eq_some_iff.mp hit').1
        obtain ⟨oo, r, eu, hpo⟩ := st_from (hs3.keeps fun _ _ e => sx _ _ e) (fun e => by rw [e] at li; exact absurd li (Nat.not_lt_zero _))
        obtain ⟨t, et⟩ := Option.isSome_iff_exists.mp (hu oo (by rw [eu]; simp))
        obtain ⟨bb, gb, hbb⟩ := (hz.same (sG.trans sx)).get et
        have hR' : ItAt H' yy it := ItAt.keeps hR fun _ _ e => sx _ _ e
        have etk : (StD.join b n x y).items.take (i + 1) = (StD.join b n x y).items.take i ++ [it] := by rw [List.take_succ, hit']; rfl
        have ew : ((sz ((StD.join b n x y).used.headD "")).getD (0, 0, 0)).1 = t.1 := by rw [eu]; show ((sz oo).getD (0, 0, 0)).1 = t.1; rw [et]; rfl
        have eall : ((StD.join b n x y).items.take (i + 1)).all (itIn ((sz ((StD.join b n x y).used.headD "")).getD (0, 0, 0)).1) = (ns.isEmpty && itIn t.1 it) := by
          rw [etk, List.all_append, ← h3, ew, List.all_cons, List.all_nil, Bool.and_true]
        cases it with
        | val xk =>
          obtain ⟨p', rfl, hp'⟩ := hR'
          refine ⟨rfl, _, rfl, _, _, _, _, _, rfl, .ty _, .base (.tup hp'), kit_ty (show kitB "tuple" "tuple" = some true by decide +kernel), true, rfl, ifF ⟨ns, h1, Nat.le_succ_of_le h2, ?_, sx⟩⟩
          rw [eall]
          show ns.isEmpty = (ns.isEmpty && true)
          rw [Bool.and_true]
        | idx j =>
          obtain rfl : yy = .int j := hR'
          refine ⟨rfl, _, rfl, _, _, _, _, _, rfl, .ty _, .base (.int _), kit_ty (show kitB "int" "tuple" = some false by decide +kernel), false, rfl, ifT ?_⟩
          refine ⟨_, rfl, _, rfl, _, rfl, _, _, _, _, rfl, rfl, .of hpo, atI_nat (j := 2) rfl, z, _, rfl, gb, _, _, _, _, rfl, rfl, .of hbb, atI_nat (j := 0) rfl, _, _, rfl, rfl, _, rfl, ite_d (fun g => ?_) (fun g => ?_)⟩
          · have g : t.1 ≤ j := g
            refine ⟨_, rfl, _, h1, ?_, ns ++ [j], ?_, by rw [List.length_append]; exact Nat.succ_le_succ h2, ?_, same_mut sx hD⟩
            · rw [List.length_map]
              exact small1000 (by omega)
            · rw [List.map_append]
              exact upd_same
            · rw [eall]
              show (ns ++ [j]).isEmpty = (ns.isEmpty && decide (j < t.1))
              rw [decide_eq_false (by omega), Bool.and_false]
              cases ns <;> rfl
          · have g : ¬ t.1 ≤ j := g
            refine ⟨ns, h1, Nat.le_succ_of_le h2, ?_, sx⟩
            rw [eall]
            show ns.isEmpty = (ns.isEmpty && decide (j < t.1))
            rw [decide_eq_true (by omega), Bool.and_true]
      · obtain ⟨ns, h1, h2, h3, sx⟩ := hp
        rw [hlen, List.take_length] at h3
        refine ⟨Nat.zero_le _, fun e he => ?_⟩
        have sF := (sG.trans sx).trans (same_upd (o := .lst []) he)
        refine ⟨.list (ns.map PyData.int), .list [], .lst (.of (same_upd he _ _ h1)) (dp_ints _), .lst (.of upd_same) .nil, ?_, by decide, ?_⟩
        · obtain ⟨h1, h2⟩ := lay_ints ns
          show ((PyData.list (ns.map PyData.int)).canLay0 && decide ((PyData.list (ns.map PyData.int)).depth ≤ 64)) = true
          simp only [PyData.canLay0, PyData.depth, h1, h2]
          decide
        · have ei : PyData.eqv (.list (ns.map PyData.int)) (.list []) = ns.isEmpty := by rw [eqv_nilL]; cases ns <;> rfl
          have eq : itemsB sz (kOf ss (StD.join b n x y)) (StD.join b n x y) = ns.isEmpty := by unfold itemsB; rw [hco, Bool.true_and, h3]
          rw [eq] at q
          rw [ei]
          exact q _ sF
    | whr n o ii iq =>
      obtain ⟨v', hs, hi'⟩ := id hs0
      refine ⟨fun σ' G => ∃ L : Addr, σ' = [some (V.ref v), some (V.ref p), some (V.ref z), some (.ref L), none] ∧ Same H G ∧ G L = some (.lst []), ?_, ?_⟩
      · refine ⟨_, rfl, _, _, _, _, rfl, rfl, .of (s1 _ _ hs), atI_nat (j := 0) rfl, .str _, .str _, .str _, .str _, str_shaped lowk, by decide +kernel, _, rfl, ?_⟩
        rw [eqv_str', show decide (("where" : Str) = "call") = false from by decide +kernel]
        exact ifF ⟨L0, rfl, s1, hL1⟩
      rintro σ' G1 ⟨L1, rfl, sG1, hL1⟩
      refine ⟨fun σ' G => ∃ L : Addr, σ' = [some (V.ref v), some (V.ref p), some (V.ref z), some (.ref L), none] ∧ Same H G ∧ G L = some (.lst [V.int ii, v']), ?_, ?_⟩
      · refine ⟨_, rfl, _, _, _, _, rfl, rfl, .of (sG1 _ _ hs), atI_nat (j := 0) rfl, .str _, .str _, .str _, .str _, str_shaped lowk, by decide +kernel, _, rfl, ?_⟩
        rw [eqv_str', show decide (("where" : Str) = "where") = true from decide_eq_true rfl]
        refine ifT ⟨_, rfl, _, _, _, _, rfl, rfl, .of (sG1 _ _ hs), atI_nat (j := 3) rfl, _, rfl, _, _, _, _, rfl, rfl, .of (sG1 _ _ hs), atI_nat (j := 4) rfl, by show 2 ≤ sizeLine; decide, fun L hL => ?_⟩
        exact ⟨L, rfl, sG1.trans (same_upd hL), upd_same⟩
      rintro σ' G2 ⟨L2, rfl, sG2, hL2⟩
      refine ⟨fun σ' G => ∃ L : Addr, σ' = [some (V.ref v), some (V.ref p), some (V.ref z), some (.ref L), none] ∧ Same H G ∧ G L = some (.lst [V.int ii, v']), ?_, ?_⟩
      · refine ⟨_, rfl, _, _, _, _, rfl, rfl, .of (sG2 _ _ hs), atI_nat (j := 0) rfl, .str _, .str _, .str _, .str _, str_shaped lowk, by decide +kernel, _, rfl, ?_⟩
        rw [eqv_str', show decide (("where" : Str) = "take") = false from by decide +kernel]
        exact ifF ⟨L2, rfl, sG2, hL2⟩
      rintro σ' G ⟨L, rfl, sG, hL⟩
      have hco : callOk (kOf ss (.whr n o ii iq)) (.whr n o ii iq) = true := rfl
      have hit : ItsAt G [V.int ii, v'] (StD.whr n o ii iq).items := .cons rfl (.cons (ItAt.keeps hi' fun _ _ e => sG _ _ e) .nil)
      have hlen := Paired.length hit
      refine ⟨_, rfl, L, rfl, ⟨_, .of hL⟩, fun D hD => ?_⟩
      have hs3 := hs0.keeps fun _ _ e => sG _ _ e
      refine lc_list (K := K) (a := L) (xs := [V.int ii, v']) (fun i H' => ∃ ns : List Int, H' D = some (.lst (ns.map V.int)) ∧ ns.length ≤ i ∧ ns.isEmpty = ((StD.whr n o ii iq).items.take i).all (itIn ((sz ((StD.whr n o ii iq).used.headD "")).getD (0, 0, 0)).1) ∧ Same G H') ⟨[], upd_same, Nat.le_refl _, rfl, same_upd hD⟩ (fun i H' _ hp => ?_) (fun i yy H' hy hp => ?_) (fun H' hp => ?_)
      · obtain ⟨ns, _, _, _, sx⟩ := hp
        exact .of (sx _ _ hL)
      · obtain ⟨ns, h1, h2, h3, sx⟩ := hp
        obtain ⟨it, hit', hR⟩ := paired_get hit hy
        have li : i < (StD.whr n o ii iq).items.length := (List.getElem?_eq_some_iff.mp hit').1
        obtain ⟨oo, r, eu, hpo⟩ := st_from (hs3.keeps fun _ _ e => sx _ _ e) (fun e => by rw [e] at li; exact absurd li (Nat.not_lt_zero _))
        obtain ⟨t, et⟩ := Option.isSome_iff_exists.mp (hu oo (by rw [eu]; simp))
        obtain ⟨bb, gb, hbb⟩ := (hz.same (sG.trans sx)).get et
        have hR' : ItAt H' yy it := ItAt.keeps hR fun _ _ e => sx _ _ e
        have etk : (StD.whr n o ii iq).items.take (i + 1) = (StD.whr n o ii iq).items.take i ++ [it] := by rw [List.take_succ, hit']; rfl
        have ew : ((sz ((StD.whr n o ii iq).used.headD "")).getD (0, 0, 0)).1 = t.1 := by rw [eu]; show ((sz oo).getD (0, 0, 0)).1 = t.1; rw [et]; rfl
        have eall : ((StD.whr n o ii iq).items.take (i + 1)).all (itIn ((sz ((StD.whr n o ii iq).used.headD "")).getD (0, 0, 0)).1) = (ns.isEmpty && itIn t.1 it) := by
          rw [etk, List.all_append, ← h3, ew, List.all_cons, List.all_nil, Bool.and_true]
        cases it with
        | val xk =>
          obtain ⟨p', rfl, hp'⟩ := hR'
          refine ⟨rfl, _, rfl, _, _, _, _, _, rfl, .ty _, .base (.tup hp'), kit_ty (show kitB "tuple" "tuple" = some true by decide +kernel), true, rfl, ifF ⟨ns, h1, Nat.le_succ_of_le h2, ?_, sx⟩⟩
          rw [eall]
          show ns.isEmpty = (ns.isEmpty && true)
          rw [Bool.and_true]
        | idx j =>
          obtain rfl : yy = .int j := hR'
          refine ⟨rfl, _, rfl, _, _, _, _, _, rfl, .ty _, .base (.int _), kit_ty (show kitB "int" "tuple" = some false by decide +kernel), false, rfl, ifT ?_⟩
          refine ⟨_, rfl, _, rfl, _, rfl, _, _, _, _, rfl, rfl, .of hpo, atI_nat (j := 2) rfl, z, _, rfl, gb, _, _, _, _, rfl, rfl, .of hbb, atI_nat (j := 0) rfl, _, _, rfl, rfl, _, rfl, ite_d (fun g => ?_) (fun g => ?_)⟩
          · have g : t.1 ≤ j := g
            refine ⟨_, rfl, _, h1, ?_, ns ++ [j], ?_, by rw [List.length_append]; exact Nat.succ_le_succ h2, ?_, same_mut sx hD⟩
            · rw [List.length_map]
              exact small1000 (by omega)
            · rw [List.map_append]
              exact upd_same
            · rw [eall]
              show (ns ++ [j]).isEmpty = (ns.isEmpty && decide (j < t.1))
              rw [decide_eq_false (by omega), Bool.and_false]
              cases ns <;> rfl
          · have g : ¬ t.1 ≤ j := g
            refine ⟨ns, h1, Nat.le_succ_of_le h2, ?_, sx⟩
            rw [eall]
            show ns.isEmpty = (ns.isEmpty && decide (j < t.1))
            rw [decide_eq_true (by omega), Bool.and_true]
      · obtain ⟨ns, h1, h2, h3, sx⟩ := hp
        rw [hlen, List.take_length] at h3
        refine ⟨Nat.zero_le _, fun e he => ?_⟩
        have sF := (sG.trans sx).trans (same_upd (o := .lst []) he)
        refine ⟨.list (ns.map PyData.int), .list [], .lst (.of (same_upd he _ _ h1)) (dp_ints _), .lst (.of upd_same) .nil, ?_, by decide, ?_⟩
        · obtain ⟨h1, h2⟩ := lay_ints ns
          show ((PyData.list (ns.map PyData.int)).canLay0 && decide ((PyData.list (ns.map PyData.int)).depth ≤ 64)) = true
          simp only [PyData.canLay0, PyData.depth, h1, h2]
          decide
        · have ei : PyData.eqv (.list (ns.map PyData.int)) (.list []) = ns.isEmpty := by rw [eqv_nilL]; cases ns <;> rfl
          have eq : itemsB sz (kOf ss (StD.whr n o ii iq)) (StD.whr n o ii iq) = ns.isEmpty := by unfold itemsB; rw [hco, Bool.true_and, h3]
          rw [eq] at q
          rw [ei]
          exact q _ sF
    | take n o its =>
      obtain ⟨g', us', hs, hg', hi'⟩ := id hs0
      refine ⟨fun σ' G => ∃ L : Addr, σ' = [some (V.ref v), some (V.ref p), some (V.ref z), some (.ref L), none] ∧ Same H G ∧ G L = some (.lst []), ?_, ?_⟩
      · refine ⟨_, rfl, _, _, _, _, rfl, rfl, .of (s1 _ _ hs), atI_nat (j := 0) rfl, .str _, .str _, .str _, .str _, str_shaped lowk, by decide +kernel, _, rfl, ?_⟩
        rw [eqv_str', show decide (("take" : Str) = "call") = false from by decide +kernel]
        exact ifF ⟨L0, rfl, s1, hL1⟩
      rintro σ' G1 ⟨L1, rfl, sG1, hL1⟩
      refine ⟨fun σ' G => ∃ L : Addr, σ' = [some (V.ref v), some (V.ref p), some (V.ref z), some (.ref L), none] ∧ Same H G ∧ G L = some (.lst []), ?_, ?_⟩
      · refine ⟨_, rfl, _, _, _, _, rfl, rfl, .of (sG1 _ _ hs), atI_nat (j := 0) rfl, .str _, .str _, .str _, .str _, str_shaped lowk, by decide +kernel, _, rfl, ?_⟩
        rw [eqv_str', show decide (("take" : Str) = "where") = false from by decide +kernel]
        exact ifF ⟨L1, rfl, sG1, hL1⟩
      rintro σ' G2 ⟨L2, rfl, sG2, hL2⟩
      refine ⟨fun σ' G => ∃ L : Addr, σ' = [some (V.ref v), some (V.ref p), some (V.ref z), some (.ref L), none] ∧ Same H G ∧ G L = some (.lst us'), ?_, ?_⟩
      · refine ⟨_, rfl, _, _, _, _, rfl, rfl, .of (sG2 _ _ hs), atI_nat (j := 0) rfl, .str _, .str _, .str _, .str _, str_shaped lowk, by decide +kernel, _, rfl, ?_⟩
        rw [eqv_str', show decide (("take" : Str) = "take") = true from decide_eq_true rfl]
        refine ifT ⟨_, rfl, _, _, _, _, rfl, rfl, .of (sG2 _ _ hs), atI_nat (j := 3) rfl, g', _, rfl, .inr (.of (sG2 _ _ hg')), fun L hL => ?_⟩
        exact ⟨L, rfl, sG2.trans (same_upd hL), upd_same⟩
      rintro σ' G ⟨L, rfl, sG, hL⟩
      have hco : callOk (kOf ss (.take n o its)) (.take n o its) = true := rfl
      have hit : ItsAt G us' (StD.take n o its).items := ItsAt.keeps hi' fun _ _ e => sG _ _ e
      have hlen := Paired.length hit
      refine ⟨_, rfl, L, rfl, ⟨_, .of hL⟩, fun D hD => ?_⟩
      have hs3 := hs0.keeps fun _ _ e => sG _ _ e
      refine lc_list (K := K) (a := L) (xs := us') (fun i H' => ∃ ns : List Int, H' D = some (.lst (ns.map V.int)) ∧ ns.length ≤ i ∧ ns.isEmpty = ((StD.take n o its).items.take i).all (itIn ((sz ((StD.take n o its).used.headD "")).getD (0, 0, 0)).1) ∧ Same G H') ⟨[], upd_same, Nat.le_refl _, rfl, same_upd hD⟩ (fun i H' _ hp => ?_) (fun i yy H' hy hp => ?_) (fun H' hp => ?_)
      · obtain ⟨ns, _, _, _, sx⟩ := hp
        exact .of (sx _ _ hL)
      · obtain ⟨ns, h1, h2, h3, sx⟩ := hp
        obtain ⟨it, hit', hR⟩ := paired_get hit hy
        have li : i < (StD.take n o its).items.length := (List.getElem?_eq_some_iff.mp hit').1
        obtain ⟨oo, r, eu, hpo⟩ := st_from (hs3.keeps fun _ _ e => sx _ _ e) (fun e => by rw [e] at li; exact absurd li (Nat.not_lt_zero _))
        obtain ⟨t, et⟩ := Option.isSome_iff_exists.mp (hu oo (by rw [eu]; simp))
        obtain ⟨bb, gb, hbb⟩ := (hz.same (sG.trans sx)).get et
        have hR' : ItAt H' yy it := ItAt.keeps hR fun _ _ e => sx _ _ e
        have etk : (StD.take n o its).items.take (i + 1) = (StD.take n o its).items.take i ++ [it] := by rw [List.take_succ, hit']; rfl
        have ew : ((sz ((StD.take n o its).used.headD "")).getD (0, 0, 0)).1 = t.1 := by rw [eu]; show ((sz oo).getD (0, 0, 0)).1 = t.1; rw [et]; rfl
        have eall : ((StD.take n o its).items.take (i + 1)).all (itIn ((sz ((StD.take n o its).used.headD "")).getD (0, 0, 0)).1) = (ns.isEmpty && itIn t.1 it) := by
          rw [etk, List.all_append, ← h3, ew, List.all_cons, List.all_nil, Bool.and_true]
        cases it with
        | val xk =>
          obtain ⟨p', rfl, hp'⟩ := hR'
          refine ⟨rfl, _, rfl, _, _, _, _, _, rfl, .ty _, .base (.tup hp'), kit_ty (show kitB "tuple" "tuple" = some true by decide +kernel), true, rfl, ifF ⟨ns, h1, Nat.le_succ_of_le h2, ?_, sx⟩⟩
          rw [eall]
          show ns.isEmpty = (ns.isEmpty && true)
          rw [Bool.and_true]
        | idx j =>
          obtain rfl : yy = .int j := hR'
          refine ⟨rfl, _, rfl, _, _, _, _, _, rfl, .ty _, .base (.int _), kit_ty (show kitB "int" "tuple" = some false by decide +kernel), false, rfl, ifT ?_⟩
          refine ⟨_, rfl, _, rfl, _, rfl, _, _, _, _, rfl, rfl, .of hpo, atI_nat (j := 2) rfl, z, _, rfl, gb, _, _, _, _, rfl, rfl, .of hbb, atI_nat (j := 0) rfl, _, _, rfl, rfl, _, rfl, ite_d (fun g => ?_) (fun g => ?_)⟩
          · have g : t.1 ≤ j := g
            refine ⟨_, rfl, _, h1, ?_, ns ++ [j], ?_, by rw [List.length_append]; exact Nat.succ_le_succ h2, ?_, same_mut sx hD⟩
            · rw [List.length_map]
              exact small1000 (by omega)
            · rw [List.map_append]
              exact upd_same
            · rw [eall]
              show (ns ++ [j]).isEmpty = (ns.isEmpty && decide (j < t.1))
              rw [decide_eq_false (by omega), Bool.and_false]
              cases ns <;> rfl
          · have g : ¬ t.1 ≤ j := g
            refine ⟨ns, h1, Nat.le_succ_of_le h2, ?_, sx⟩
            rw [eall]
            show ns.isEmpty = (ns.isEmpty && decide (j < t.1))
            rw [decide_eq_true (by omega), Bool.and_true]
      · obtain ⟨ns, h1, h2, h3, sx⟩ := hp
        rw [hlen, List.take_length] at h3
        refine ⟨Nat.zero_le _, fun e he => ?_⟩
        have sF := (sG.trans sx).trans (same_upd (o := .lst []) he)
        refine ⟨.list (ns.map PyData.int), .list [], .lst (.of (same_upd he _ _ h1)) (dp_ints _), .lst (.of upd_same) .nil, ?_, by decide, ?_⟩
        · obtain ⟨h1, h2⟩ := lay_ints ns
          show ((PyData.list (ns.map PyData.int)).canLay0 && decide ((PyData.list (ns.map PyData.int)).depth ≤ 64)) = true
          simp only [PyData.canLay0, PyData.depth, h1, h2]
          decide
        · have ei : PyData.eqv (.list (ns.map PyData.int)) (.list []) = ns.isEmpty := by rw [eqv_nilL]; cases ns <;> rfl
          have eq : itemsB sz (kOf ss (StD.take n o its)) (StD.take n o its) = ns.isEmpty := by unfold itemsB; rw [hco, Bool.true_and, h3]
          rw [eq] at q
          rw [ei]
          exact q _ sF
end
/-- the size that the law notes; more than the most width, where two widths differ -/
def lawSz (sz : Str → Option SzD) (wt : Int) (st : StD) : SzD := if joinB sz st = true then sizeOf sz wt st else (13, 1, 0)
section
variable {P : Program} {w : World} {K : PySem.W.Frag} {mg : Str → Option Value} {base : Heap} {a : Nat → Addr} {d : Nat → FuncData}
def spLShape : Sp := fun vs H Q _ => ∃ (t v p z : Addr) (st : StD) (sz : Str → Option SzD) (ts : List (Str × Int)) (ks : List KeyE) (ss : List SvE) (m n : Nat), vs = [.ref t, .ref v, .ref p, .ref z] ∧ H t = some (.dK (tabK ts)) ∧ H v = some (.dK (svK ss)) ∧ Tabs ts m 4 ∧ Svcs H ts ks ss n ∧ StAt H p st ∧ SzAt H z sz ∧ SzIn sz ∧ namesB sz ss st = true ∧
  ∀ g H', H' g = some (.tup (szV (lawSz sz (wOf ts ss st) st))) → Same H H' → Q (.ref g) H'
theorem ok_lshape (T : Txt K mg a d) : FnOk P w K mg base CX0 1 (a 77) (d 77) ["_law_tables_here", "_law_services_here", "_law_step", "_law_shapes"] spLShape := by
  refine T.F77.ok sc__law_shape (fun vs H Q E h => ?_) (fun cdv A outer s H vs Q E hr h => ?_)
  · obtain ⟨t, v, p, z, st, sz, ts, ks, ss, m, n, rfl, _⟩ := h
    rfl
  · obtain ⟨t, v, p, z, st, sz, ts, ks, ss, m, n0, rfl, ht, hv, hT, hS, hs0, hz, hzi, hnm, q⟩ := h
    refine ⟨_, (pss_cons (ps_if (pt_cmpR (op_eqD (hu_of64 hr)) (pe_ix ix_tup (pv 2) pe_int (fun _ _ => rfl)) pe_str (nomark _))
    (pss_one (ps_ret (pe_tup (pa_cons pe_int (pa_cons pe_int (pa_cons pe_int pa_nil))))))
    pss_nil)
  (pss_cons (ps_set (i := 4) sc__law_shape.nd rfl (.inl rfl) (pe_dget (hu_of hr) (pv 3) (pe_ix ix_tup (pv 2) pe_int (fun _ _ => rfl)) (fun _ _ => rfl)))
  (pss_cons (ps_if (pt_cmpR (op_eqD (hu_of64 hr)) (pe_ix ix_tup (pv 2) pe_int (fun _ _ => rfl)) pe_str (nomark _))
    (pss_one (ps_ret (pe_tup (pa_cons (pe_op op_add (pe_ix ix_tup (pv 4) pe_int (fun _ _ => rfl)) (pe_dget (hu_of hr) (pv 0) (pe_ix ix_tup (pe_dget (hu_of hr) (pv 1) (pe_ix ix_tup (pv 2) pe_int (fun _ _ => rfl)) (fun _ _ => rfl)) pe_int (fun _ _ => rfl)) (fun _ _ => rfl))) (pa_cons (pe_ix ix_tup (pv 4) pe_int (fun _ _ => rfl)) (pa_cons (pe_op op_add (pe_ix ix_tup (pv 4) pe_int (fun _ _ => rfl)) pe_int) pa_nil))))))
    pss_nil)
  (pss_cons (ps_if (pt_cmpR (op_eqD (hu_of64 hr)) (pe_ix ix_tup (pv 2) pe_int (fun _ _ => rfl)) pe_str (nomark _))
    (pss_one (ps_ret (pv 4)))
    pss_nil)
  (pss_cons (ps_if (pt_cmpR (op_eqD (hu_of64 hr)) (pe_ix ix_tup (pv 2) pe_int (fun _ _ => rfl)) pe_str (nomark _))
    (pss_one (ps_ret (pe_tup (pa_cons (pe_callB (id := "len")  call_len_seq (by rfl) T.z_len (by decide +kernel) (pa_cons (pe_ix ix_tup (pv 2) pe_int (fun _ _ => rfl)) pa_nil)) (pa_cons (pe_ix ix_tup (pv 4) pe_int (fun _ _ => rfl)) (pa_cons (pe_ix ix_tup (pv 4) pe_int (fun _ _ => rfl)) pa_nil))))))
    pss_nil)
  (pss_cons (ps_set (i := 5) sc__law_shape.nd rfl (.inl rfl) (pe_dget (hu_of hr) (pv 3) (pe_ix ix_tup (pv 2) pe_int (fun _ _ => rfl)) (fun _ _ => rfl)))
  (pss_cons (ps_if (pt_cmpR (op_eqD (hu_of64 hr)) (pe_ix ix_tup (pv 2) pe_int (fun _ _ => rfl)) pe_str (nomark _))
    (pss_one (ps_ret (pe_tup (pa_cons (pe_op op_add (pe_ix ix_tup (pv 4) pe_int (fun _ _ => rfl)) (pe_ix ix_tup (pv 5) pe_int (fun _ _ => rfl))) (pa_cons (pe_op op_mul (pe_ix ix_tup (pv 4) pe_int (fun _ _ => rfl)) (pe_ix ix_tup (pv 5) pe_int (fun _ _ => rfl))) (pa_cons (pe_op op_add (pe_ix ix_tup (pv 4) pe_int (fun _ _ => rfl)) (pe_ix ix_tup (pv 5) pe_int (fun _ _ => rfl))) pa_nil))))))
    pss_nil)
  (pss_cons (ps_if (pt_cmpR op_ne (pe_ix ix_tup (pv 4) pe_int (fun _ _ => rfl)) (pe_ix ix_tup (pv 5) pe_int (fun _ _ => rfl)) (nomark _))
    (pss_one (ps_ret (pe_tup (pa_cons pe_int (pa_cons pe_int (pa_cons pe_int pa_nil))))))
    pss_nil)
  (pss_one (ps_ret (pe_tup (pa_cons (pe_ix ix_tup (pv 4) pe_int (fun _ _ => rfl)) (pa_cons (pe_op op_add (pe_ix ix_tup (pv 4) pe_int (fun _ _ => rfl)) (pe_ix ix_tup (pv 5) pe_int (fun _ _ => rfl))) (pa_cons (pe_callB (id := "max")  (call_max2 rfl) (by rfl) T.z_max (by decide +kernel) (pa_cons (pe_ix ix_tup (pv 4) pe_int (fun _ _ => rfl)) (pa_cons (pe_ix ix_tup (pv 5) pe_int (fun _ _ => rfl)) pa_nil))) pa_nil)))))))))))))), ?_⟩
    have lowk := low_kind st
    have hu := names_used hnm
    have fin : ∀ r : SzD, r = lawSz sz (wOf ts ss st) st → (3 ≤ sizeLine ∧ ∀ e, H e = none → Q (.ref e) (upd H e (.tup (szV r)))) := fun r e => ⟨by show 3 ≤ sizeLine; decide, fun x hx => q x _ (e ▸ upd_same) (same_upd hx)⟩
    cases st with
    | start n =>
      have hs : H p = some (.tup [.str "start", .str n]) := hs0
      refine ⟨_, rfl, _, _, _, _, rfl, rfl, .of hs, atI_nat (j := 0) rfl, .str _, .str _, .str _, .str _, str_shaped lowk, by decide +kernel, _, rfl, ?_⟩
      rw [eqv_str', show decide (("start" : Str) = "start") = true from decide_eq_true rfl]
      refine ifT ?_
      exact fin (0, 1, 0) rfl
    | call n o s its =>
      obtain ⟨g', us', hs, hg', hi'⟩ := id hs0
      refine ⟨_, rfl, _, _, _, _, rfl, rfl, .of hs, atI_nat (j := 0) rfl, .str _, .str _, .str _, .str _, str_shaped lowk, by decide +kernel, _, rfl, ?_⟩
      rw [eqv_str', show decide (("call" : Str) = "start") = false from by decide +kernel]
      refine ifF ?_
      obtain ⟨t1, et1⟩ := Option.isSome_iff_exists.mp (hu o (by simp [StD.used]))
      obtain ⟨b1, gb1, hb1⟩ := hz.get et1
      have eo1 : szOf sz o = t1 := by unfold szOf; rw [et1]; rfl
      refine ⟨_, rfl, _, rfl, _, _, _, _, rfl, rfl, .of hs, atI_nat (j := 2) rfl, z, _, rfl, gb1, ?_⟩
      obtain ⟨sb, hsb⟩ := names_call hnm
      obtain ⟨hsbm, rfl⟩ := svAt_mem hsb
      obtain ⟨told, _, _⟩ := hS.ok sb hsbm
      have hw := svOk_w hT hS hsbm
      have gv : DGet H v (.str sb.name) (some (.ref sb.at_)) := sv_val hS hsbm ▸ DGet.k (k := .inr sb.name) hv
      have gt : DGet H t (.str sb.tab) (some (.int (widthAt ts sb.tab))) := tab_val hT hw ▸ DGet.k (k := .inr sb.tab) ht
      refine ⟨_, rfl, _, _, _, _, rfl, rfl, .of hs, atI_nat (j := 0) rfl, .str _, .str _, .str _, .str _, str_shaped lowk, by decide +kernel, _, rfl, ?_⟩
      rw [eqv_str', show decide (("call" : Str) = "call") = true from decide_eq_true rfl]
      refine ifT ?_
      refine ⟨_, rfl, _, _, _, _, rfl, rfl, .of hb1, atI_nat (j := 0) rfl, _, rfl, _, rfl, _, rfl, _, _, _, _, rfl, rfl, .of hs, atI_nat (j := 3) rfl, v, _, rfl, gv, _, _, _, _, rfl, rfl, .of told.tup, atI_nat (j := 0) rfl, t, _, rfl, gt, _, _, rfl, rfl, _, rfl, _, _, _, _, rfl, rfl, .of hb1, atI_nat (j := 1) rfl, _, rfl, _, _, _, _, rfl, rfl, .of hb1, atI_nat (j := 2) rfl, _, _, rfl, rfl, ?_⟩
      refine fin (t1.1 + widthAt ts sb.tab, t1.2.1, t1.2.2 + 1) ?_
      show _ = ((szOf sz o).1 + ((svAt ss sb.name).map fun b => widthAt ts b.tab).getD 0, (szOf sz o).2.1, (szOf sz o).2.2 + 1)
      rw [eo1, hsb]
      rfl
    | whr n o i it =>
      obtain ⟨v', hs, hi'⟩ := id hs0
      refine ⟨_, rfl, _, _, _, _, rfl, rfl, .of hs, atI_nat (j := 0) rfl, .str _, .str _, .str _, .str _, str_shaped lowk, by decide +kernel, _, rfl, ?_⟩
      rw [eqv_str', show decide (("where" : Str) = "start") = false from by decide +kernel]
      refine ifF ?_
      obtain ⟨t1, et1⟩ := Option.isSome_iff_exists.mp (hu o (by simp [StD.used]))
      obtain ⟨b1, gb1, hb1⟩ := hz.get et1
      have eo1 : szOf sz o = t1 := by unfold szOf; rw [et1]; rfl
      refine ⟨_, rfl, _, rfl, _, _, _, _, rfl, rfl, .of hs, atI_nat (j := 2) rfl, z, _, rfl, gb1, ?_⟩
      refine ⟨_, rfl, _, _, _, _, rfl, rfl, .of hs, atI_nat (j := 0) rfl, .str _, .str _, .str _, .str _, str_shaped lowk, by decide +kernel, _, rfl, ?_⟩
      rw [eqv_str', show decide (("where" : Str) = "call") = false from by decide +kernel]
      refine ifF ?_
      refine ⟨_, rfl, _, _, _, _, rfl, rfl, .of hs, atI_nat (j := 0) rfl, .str _, .str _, .str _, .str _, str_shaped lowk, by decide +kernel, _, rfl, ?_⟩
      rw [eqv_str', show decide (("where" : Str) = "where") = true from decide_eq_true rfl]
      refine ifT ?_
      refine ⟨_, rfl, q b1 H ?_ (Same.refl H)⟩
      rw [hb1]
      show some (HO.tup (szV t1)) = some (.tup (szV (szOf sz o)))
      rw [eo1]
    | take n o its =>
      obtain ⟨g', us', hs, hg', hi'⟩ := id hs0
      refine ⟨_, rfl, _, _, _, _, rfl, rfl, .of hs, atI_nat (j := 0) rfl, .str _, .str _, .str _, .str _, str_shaped lowk, by decide +kernel, _, rfl, ?_⟩
      rw [eqv_str', show decide (("take" : Str) = "start") = false from by decide +kernel]
      refine ifF ?_
      obtain ⟨t1, et1⟩ := Option.isSome_iff_exists.mp (hu o (by simp [StD.used]))
      obtain ⟨b1, gb1, hb1⟩ := hz.get et1
      have eo1 : szOf sz o = t1 := by unfold szOf; rw [et1]; rfl
      refine ⟨_, rfl, _, rfl, _, _, _, _, rfl, rfl, .of hs, atI_nat (j := 2) rfl, z, _, rfl, gb1, ?_⟩
      refine ⟨_, rfl, _, _, _, _, rfl, rfl, .of hs, atI_nat (j := 0) rfl, .str _, .str _, .str _, .str _, str_shaped lowk, by decide +kernel, _, rfl, ?_⟩
      rw [eqv_str', show decide (("take" : Str) = "call") = false from by decide +kernel]
      refine ifF ?_
      refine ⟨_, rfl, _, _, _, _, rfl, rfl, .of hs, atI_nat (j := 0) rfl, .str _, .str _, .str _, .str _, str_shaped lowk, by decide +kernel, _, rfl, ?_⟩
      rw [eqv_str', show decide (("take" : Str) = "where") = false from by decide +kernel]
      refine ifF ?_
      refine ⟨_, rfl, _, _, _, _, rfl, rfl, .of hs, atI_nat (j := 0) rfl, .str _, .str _, .str _, .str _, str_shaped lowk, by decide +kernel, _, rfl, ?_⟩
      rw [eqv_str', show decide (("take" : Str) = "take") = true from decide_eq_true rfl]
      refine ifT ?_
      refine ⟨_, rfl, _, _, _, _, rfl, rfl, .of hs, atI_nat (j := 3) rfl, g', _, rfl, .inr (.of hg'), _, rfl, _, _, _, _, rfl, rfl, .of hb1, atI_nat (j := 1) rfl, _, rfl, _, _, _, _, rfl, rfl, .of hb1, atI_nat (j := 2) rfl, ?_⟩
      refine fin (us'.length, t1.2.1, t1.2.2) ?_
      show _ = (((its.length : Nat) : Int), (szOf sz o).2.1, (szOf sz o).2.2)
      rw [eo1, Paired.length hi']
    | join b n x y =>
      have hs : H p = some (.tup [.str (if b then "both" else "pair"), .str n, .str x, .str y]) := hs0
      refine ⟨_, rfl, _, _, _, _, rfl, rfl, .of hs, atI_nat (j := 0) rfl, .str _, .str _, .str _, .str _, str_shaped lowk, by decide +kernel, _, rfl, ?_⟩
      rw [eqv_str', show decide ((if b then "both" else "pair" : Str) = "start") = false from by cases b <;> decide +kernel]
      refine ifF ?_
      obtain ⟨t1, et1⟩ := Option.isSome_iff_exists.mp (hu x (by simp [StD.used]))
      obtain ⟨b1, gb1, hb1⟩ := hz.get et1
      have eo1 : szOf sz x = t1 := by unfold szOf; rw [et1]; rfl
      obtain ⟨t2, et2⟩ := Option.isSome_iff_exists.mp (hu y (by simp [StD.used]))
      obtain ⟨b2, gb2, hb2⟩ := hz.get et2
      have eo2 : szOf sz y = t2 := by unfold szOf; rw [et2]; rfl
      refine ⟨_, rfl, _, rfl, _, _, _, _, rfl, rfl, .of hs, atI_nat (j := 2) rfl, z, _, rfl, gb1, ?_⟩
      refine ⟨_, rfl, _, _, _, _, rfl, rfl, .of hs, atI_nat (j := 0) rfl, .str _, .str _, .str _, .str _, str_shaped lowk, by decide +kernel, _, rfl, ?_⟩
      rw [eqv_str', show decide ((if b then "both" else "pair" : Str) = "call") = false from by cases b <;> decide +kernel]
      refine ifF ?_
      refine ⟨_, rfl, _, _, _, _, rfl, rfl, .of hs, atI_nat (j := 0) rfl, .str _, .str _, .str _, .str _, str_shaped lowk, by decide +kernel, _, rfl, ?_⟩
      rw [eqv_str', show decide ((if b then "both" else "pair" : Str) = "where") = false from by cases b <;> decide +kernel]
      refine ifF ?_
      refine ⟨_, rfl, _, _, _, _, rfl, rfl, .of hs, atI_nat (j := 0) rfl, .str _, .str _, .str _, .str _, str_shaped lowk, by decide +kernel, _, rfl, ?_⟩
      rw [eqv_str', show decide ((if b then "both" else "pair" : Str) = "take") = false from by cases b <;> decide +kernel]
      refine ifF ?_
      refine ⟨_, rfl, _, rfl, _, _, _, _, rfl, rfl, .of hs, atI_nat (j := 3) rfl, z, _, rfl, gb2, ?_⟩
      have lb : Low ("both" : Str) := by show ∀ c ∈ ("both" : Str).cps.toList, c < 128; decide +kernel
      have lp : Low ("pair" : Str) := by show ∀ c ∈ ("pair" : Str).cps.toList, c < 128; decide +kernel
      cases b with
      | false =>
        have hs : H p = some (.tup [.str "pair", .str n, .str x, .str y]) := hs
        refine ⟨_, rfl, _, _, _, _, rfl, rfl, .of hs, atI_nat (j := 0) rfl, .str _, .str _, .str _, .str _, str_shaped lowk, by decide +kernel, _, rfl, ?_⟩
        rw [eqv_str', show decide (("pair" : Str) = "pair") = true from decide_eq_true rfl]
        refine ifT ?_
        refine ⟨_, rfl, _, _, _, _, rfl, rfl, .of hb1, atI_nat (j := 0) rfl, _, rfl, _, _, _, _, rfl, rfl, .of hb2, atI_nat (j := 0) rfl, _, _, rfl, rfl, ?_⟩
        refine ⟨_, rfl, _, _, _, _, rfl, rfl, .of hb1, atI_nat (j := 1) rfl, _, rfl, _, _, _, _, rfl, rfl, .of hb2, atI_nat (j := 1) rfl, _, _, rfl, rfl, .inl (by have := hzi x t1 et1; omega), ?_⟩
        refine ⟨_, rfl, _, _, _, _, rfl, rfl, .of hb1, atI_nat (j := 2) rfl, _, rfl, _, _, _, _, rfl, rfl, .of hb2, atI_nat (j := 2) rfl, _, _, rfl, rfl, ?_⟩
        refine fin (t1.1 + t2.1, t1.2.1 * t2.2.1, t1.2.2 + t2.2.2) ?_
        show _ = ((szOf sz x).1 + (szOf sz y).1, (szOf sz x).2.1 * (szOf sz y).2.1, (szOf sz x).2.2 + (szOf sz y).2.2)
        rw [eo1, eo2]
      | true =>
        have hs : H p = some (.tup [.str "both", .str n, .str x, .str y]) := hs
        refine ⟨_, rfl, _, _, _, _, rfl, rfl, .of hs, atI_nat (j := 0) rfl, .str _, .str _, .str _, .str _, str_shaped lowk, by decide +kernel, _, rfl, ?_⟩
        rw [eqv_str', show decide (("both" : Str) = "pair") = false from by decide +kernel]
        refine ifF ?_
        have ej : joinB sz (.join true n x y) = decide (t1.1 = t2.1) := by show decide (((sz x).getD (0, 0, 0)).1 = ((sz y).getD (0, 0, 0)).1) = _; rw [et1, et2]; rfl
        refine ⟨_, rfl, _, _, _, _, rfl, rfl, .of hb1, atI_nat (j := 0) rfl, _, rfl, _, _, _, _, rfl, rfl, .of hb2, atI_nat (j := 0) rfl, rfl, _, rfl, ite_nd (fun g => ?_) (fun g => ?_)⟩
        · have g : ¬ t1.1 = t2.1 := fun e => g (congrArg V.int e)
          refine fin (13, 1, 0) ?_
          unfold lawSz
          rw [ej, decide_eq_false g]
          rfl
        · have g : t1.1 = t2.1 := V.int.inj g
          refine ⟨_, rfl, _, _, _, _, rfl, rfl, .of hb1, atI_nat (j := 0) rfl, _, rfl, _, _, _, _, rfl, rfl, .of hb1, atI_nat (j := 1) rfl, _, rfl, _, _, _, _, rfl, rfl, .of hb2, atI_nat (j := 1) rfl, _, _, rfl, rfl, _, rfl, _, _, _, _, rfl, rfl, .of hb1, atI_nat (j := 2) rfl, _, rfl, _, _, _, _, rfl, rfl, .of hb2, atI_nat (j := 2) rfl, _, _, rfl, ?_⟩
          refine fin (t1.1, t1.2.1 + t2.2.1, mx t1.2.2 t2.2.2) ?_
          unfold lawSz
          rw [ej, decide_eq_true g]
          show _ = ((szOf sz x).1, (szOf sz x).2.1 + (szOf sz y).2.1, mx (szOf sz x).2.2 (szOf sz y).2.2)
          rw [eo1, eo2]
end
section
variable {P : Program} {w : World} {K : PySem.W.Frag} {mg : Str → Option Value} {base : Heap} {a : Nat → Addr} {d : Nat → FuncData}
def spDue : Sp := fun vs H Q _ => ∃ (t v l : Addr) (xs : List V) (ts : List (Str × Int)) (ks : List KeyE) (ss : List SvE) (m n : Nat), vs = [.ref t, .ref v, .ref l] ∧ H t = some (.dK (tabK ts)) ∧ H v = some (.dK (svK ss)) ∧ Tabs ts m 4 ∧ Svcs H ts ks ss n ∧ H l = some (.lst xs) ∧ (∀ u ∈ xs, Th3 H u) ∧ xs.length ≤ 100 ∧
  (¬ (1 ≤ xs.length ∧ xs.length ≤ 12) → ∀ r H', H' r = some (.tup [.str "steps", .non]) → Same H H' → Q (.ref r) H') ∧ (1 ≤ xs.length → xs.length ≤ 12 →
  (∀ u i, runV H ts ss xs sz0 0 = .inl (u, i) → ∀ r H', H' r = some (.tup [.str u, .int (i : Nat)]) → Same H H' → Q (.ref r) H') ∧
  (∀ sz u, runV H ts ss xs sz0 0 = .inr sz → xs.getLast? = some u → ∀ r H', H' r = some (.tup (szV (szOf sz (stV H u).name))) → Same H H' → Q (.ref r) H'))
theorem ok_ldue (T : Txt K mg a d) : FnOk P w K mg base CX0 5 (a 78) (d 78) ["_law_tables_here", "_law_services_here", "_law_steps_here"] spDue := by
  have G74 : FnOk P w K mg base CX0 4 (a 74) (d 74) ["_law_step"] (spStepB formB) := ok_lformX T
  have G75 : FnOk P w K mg base CX0 1 (a 75) (d 75) ["_law_services_here", "_law_step", "_law_shapes"] spNameF := ok_namef T
  have G76 : FnOk P w K mg base CX0 1 (a 76) (d 76) ["_law_services_here", "_law_step", "_law_shapes"] spItemsF := ok_itemsf T
  have G77 : FnOk P w K mg base CX0 1 (a 77) (d 77) ["_law_tables_here", "_law_services_here", "_law_step", "_law_shapes"] spLShape := ok_lshape T
  refine T.F78.ok sc__law_due (fun vs H Q E h => ?_) (fun cdv A outer s H vs Q E hr h => ?_)
  · obtain ⟨t, v, l, xs, ts, ks, ss, m, n, rfl, _⟩ := h
    rfl
  · obtain ⟨t, v, l, xs, ts, ks, ss, m, n, rfl, ht, hv, hT, hS, hl, hx, x100, q0, q12⟩ := h
    refine ⟨_, (pss_cons (ps_if (PW.pt (pw_or (pt_cmpR op_lt (pe_callB (id := "len")  call_len_seq (by rfl) T.z_len (by decide +kernel) (pa_cons (pv 2) pa_nil)) pe_int (nomark _)) (pw_or1 (pt_cmpR op_gt (pe_callB (id := "len")  call_len_seq (by rfl) T.z_len (by decide +kernel) (pa_cons (pv 2) pa_nil)) pe_int (nomark _)))))
    (pss_one (ps_ret (pe_tup (pa_cons pe_str (pa_cons pe_non pa_nil)))))
    pss_nil)
  (pss_cons (ps_set (i := 3) sc__law_due.nd rfl (.inl rfl) pe_dnewK)
  (pss_cons (ps_set (i := 4) sc__law_due.nd rfl (.inl rfl) (pe_tup (pa_cons pe_int (pa_cons pe_int (pa_cons pe_int pa_nil)))))
  (pss_cons (ps_for PassesOwn.never rfl (pi_range1 (by rfl) T.z_range (pa_cons (pe_callB (id := "len")  call_len_seq (by rfl) T.z_len (by decide +kernel) (pa_cons (pv 2) pa_nil)) pa_nil)) (pg_name (i := 5) sc__law_due.nd rfl (.inl rfl))
    (pss_cons (ps_set (i := 6) sc__law_due.nd rfl (.inl rfl) (pe_ix ix_list (pv 2) (pv 5) (fun _ _ => rfl)))
      (pss_cons (ps_if (pt_not (pt_val (pe_call G74 (hr.mono (by decide)) (by rfl) T.g74 T.F74.kp T.b74 .nil pass0 (pa_cons (pv 6) pa_nil))))
        (pss_one (ps_ret (pe_tup (pa_cons pe_str (pa_cons (pv 5) pa_nil)))))
        pss_nil)
      (pss_cons (ps_if (pt_val (pe_call G75 (hr.mono (by decide)) (by rfl) T.g75 T.F75.kp T.b75 .nil pass0 (pa_cons (pv 1) (pa_cons (pv 6) (pa_cons (pv 3) pa_nil)))))
        (pss_one (ps_ret (pe_tup (pa_cons pe_str (pa_cons (pv 5) pa_nil)))))
        pss_nil)
      (pss_cons (ps_if (pt_val (pe_call G76 (hr.mono (by decide)) (by rfl) T.g76 T.F76.kp T.b76 .nil pass0 (pa_cons (pv 1) (pa_cons (pv 6) (pa_cons (pv 3) pa_nil)))))
        (pss_one (ps_ret (pe_tup (pa_cons pe_str (pa_cons (pv 5) pa_nil)))))
        pss_nil)
      (pss_cons (ps_set (i := 4) sc__law_due.nd rfl (.inl rfl) (pe_call G77 (hr.mono (by decide)) (by rfl) T.g77 T.F77.kp T.b77 .nil pass0 (pa_cons (pv 0) (pa_cons (pv 1) (pa_cons (pv 6) (pa_cons (pv 3) pa_nil))))))
      (pss_cons (ps_if (pt_cmpR op_gt (pe_ix ix_tup (pv 4) pe_int (fun _ _ => rfl)) pe_int (nomark _))
        (pss_one (ps_ret (pe_tup (pa_cons pe_str (pa_cons (pv 5) pa_nil)))))
        pss_nil)
      (pss_cons (ps_if (PW.pt (pw_or (pt_cmpR op_gt (pe_ix ix_tup (pv 4) pe_int (fun _ _ => rfl)) pe_int (nomark _)) (pw_or1 (pt_cmpR op_gt (pe_ix ix_tup (pv 4) pe_int (fun _ _ => rfl)) pe_int (nomark _)))))
        (pss_one (ps_ret (pe_tup (pa_cons pe_str (pa_cons (pv 5) pa_nil)))))
        pss_nil)
      (pss_one (ps_dput (hu_of hr) (pv 3) (pe_ix ix_tup (pv 6) pe_int (fun _ _ => rfl)) (pv 4) rfl))))))))))
  (pss_one (ps_ret (pv 4))))))), ?_⟩
    refine ⟨_, rfl, l, _, rfl, .inl (.of hl), _, _, rfl, rfl, _, rfl, ite_d (fun g => ?_) (fun g1 => ?_)⟩
    · have g : (xs.length : Int) < 1 := g
      exact ⟨by show 2 ≤ sizeLine; decide, fun r hr => q0 (by omega) r _ upd_same (same_upd hr)⟩
    refine ⟨_, rfl, l, _, rfl, .inl (.of hl), _, _, rfl, rfl, _, rfl, ite_d (fun g => ?_) (fun g2 => ?_)⟩
    · have g : (12 : Int) < (xs.length : Int) := g
      exact ⟨by show 2 ≤ sizeLine; decide, fun r hr => q0 (by omega) r _ upd_same (same_upd hr)⟩
    have g1 : ¬ (xs.length : Int) < 1 := g1
    have g2 : ¬ (12 : Int) < (xs.length : Int) := g2
    obtain ⟨q1, q2⟩ := q12 (by omega) (by omega)
    intro z hz
    have s0 := same_upd (o := .dK []) hz
    have hz1 : upd H z (.dK []) z = some (.dK []) := upd_same
    generalize upd H z (.dK []) = H1 at s0 hz1 ⊢
    refine ⟨by show 3 ≤ sizeLine; decide, fun sh0 hsh0 => ?_⟩
    have s00 := s0.trans (same_upd (o := .tup [.int 0, .int 0, .int 0]) hsh0)
    have hz2 := same_upd (o := .tup [.int 0, .int 0, .int 0]) hsh0 _ _ hz1
    generalize upd H1 sh0 (.tup [.int 0, .int 0, .int 0]) = H2 at s00 hz2 ⊢
    refine ⟨_, rfl, l, _, rfl, .inl (.of (s00 _ _ hl)), _, rfl, by omega, by omega, ?_⟩
    refine for_range (lo := 0) (n := ((xs.length : Nat) : Int).toNat) (fun i σ H' => ∃ (sz : Str → Option SzD) (kvs : List (Key × V)) (sh : Addr) (y5 y6 : Option V), σ = [some (.ref t), some (.ref v), some (.ref l), some (.ref z), some (.ref sh), y5, y6] ∧ runV H ts ss (xs.take i) sz0 0 = .inr sz ∧ SzIn sz ∧ H' z = some (.dK kvs) ∧ kvs.length ≤ i ∧ (∀ n, (sz n = none → valV kvs (.inr n) = none) ∧ ∀ t, sz n = some t → ∃ b, valV kvs (.inr n) = some (.ref b) ∧ H' b = some (.tup (szV t))) ∧ Same H H' ∧
      (i = 0 ∨ ∃ u, xs[i - 1]? = some u ∧ H' sh = some (.tup (szV (szOf sz (stV H u).name)))))
      ⟨sz0, [], sh0, none, none, rfl, rfl, (fun n t e => by cases e), hz2, Nat.le_refl _, fun n => ⟨fun _ => rfl, fun t e => by cases e⟩, s00, .inl rfl⟩ (fun i σ H' hi hp => ?_) (fun σ H' hp => ?_)
    · obtain ⟨sz, kvs, sh, y5, y6, rfl, hrun, hzi, hzd, hkl, hzk, s, _⟩ := hp
      have li : i < xs.length := by omega
      obtain ⟨u, hu⟩ : ∃ u, xs[i]? = some u := ⟨_, List.getElem?_eq_getElem li⟩
      have hvu := hx u (List.mem_of_getElem? hu)
      have hsplit : xs = xs.take i ++ u :: xs.drop (i + 1) := by
        have := List.take_append_drop i xs
        rw [List.drop_eq_getElem_cons li, (List.getElem?_eq_some_iff.mp hu).2] at this
        exact this.symm
      have hlen : (xs.take i).length = i := by
        rw [List.length_take]
        omega
      have res : ∀ r : (Str × Nat) ⊕ (Str → Option SzD), (match formB H u with
          | false => Sum.inl (("form" : Str), i)
          | true => match wrongOf ts ss sz (stV H u) with
            | some c => .inl (c, i)
            | none => runV H ts ss (xs.drop (i + 1)) (putS sz (stV H u).name (sizeOf sz (wOf ts ss (stV H u)) (stV H u))) (i + 1)) = r → runV H ts ss xs sz0 0 = r := fun r e => by
        rw [hsplit, runV_append hrun, hlen, Nat.zero_add]
        exact e
      refine ⟨_, rfl, _, rfl, _, _, _, _, rfl, rfl, .of (s _ _ hl), at_g (j := i) (by omega) hu, ?_⟩
      refine ⟨_, rfl, u, rfl, hvu.kp (Kp.same s), fun H3 s3 => ⟨_, rfl, ?_⟩⟩
      rw [formB_kp hvu (Kp.same s)]
      have e0 : (0 : Int) + (i : Nat) = ((i : Nat) : Int) := Int.zero_add _
      rw [e0]
      have s03 := s.trans s3
      cases ef : formB H u with
      | false => exact ifT ⟨_, rfl, by show 2 ≤ sizeLine; decide, fun r hr => q1 "form" i (res _ (by rw [ef])) r _ upd_same (s03.trans (same_upd hr))⟩
      | true =>
      obtain ⟨pb, rfl, hst, hok⟩ := stV_at ef hvu
      refine ifF ?_
      have hzA : ∀ {G}, Same H' G → SzAt G z sz := fun {G} sg => SzAt.same ⟨kvs, hzd, hzk⟩ sg
      refine ⟨_, rfl, _, rfl, _, rfl, v, pb, z, stV H (.ref pb), sz, ss, rfl, s03 _ _ hv, hst.keeps fun _ _ e => s03 _ _ e, hzA s3, fun H4 s4 => ⟨_, rfl, ?_⟩⟩
      have s04 := s03.trans s4
      cases en : namesB sz ss (stV H (.ref pb)) with
      | false => exact ifT ⟨_, rfl, by show 2 ≤ sizeLine; decide, fun r hr => q1 "name" i (res _ (by rw [ef]; simp only [wrongOf, en, if_pos])) r _ upd_same (s04.trans (same_upd hr))⟩
      | true =>
      refine ifF ?_
      refine ⟨_, rfl, _, rfl, _, rfl, v, pb, z, stV H (.ref pb), sz, ts, ks, ss, n, rfl, s04 _ _ hv, hS.mono fun _ _ e => s04 _ _ e, hst.keeps fun _ _ e => s04 _ _ e, hzA (s3.trans s4), en, hok.len, fun H5 s5 => ⟨_, rfl, ?_⟩⟩
      have s05 := s04.trans s5
      cases ei : itemsB sz (kOf ss (stV H (.ref pb))) (stV H (.ref pb)) with
      | false => exact ifT ⟨_, rfl, by show 2 ≤ sizeLine; decide, fun r hr => q1 "items" i (res _ (by rw [ef]; simp [wrongOf, en, ei])) r _ upd_same (s05.trans (same_upd hr))⟩
      | true =>
      refine ifF ?_
      refine ⟨_, rfl, _, rfl, _, rfl, _, rfl, t, v, pb, z, stV H (.ref pb), sz, ts, ks, ss, m, n, rfl, s05 _ _ ht, s05 _ _ hv, hT, hS.mono fun _ _ e => s05 _ _ e, hst.keeps fun _ _ e => s05 _ _ e, hzA ((s3.trans s4).trans s5), hzi, en, fun g H6 hg s6 => ?_⟩
      have s06 := s05.trans s6
      have width : 12 < (lawSz sz (wOf ts ss (stV H (.ref pb))) (stV H (.ref pb))).1 → wrongOf ts ss sz (stV H (.ref pb)) = some ("width" : Str) := fun h => by
        unfold wrongOf
        rw [if_neg (by rw [en]; decide), if_neg (by rw [ei]; decide), if_pos]
        unfold lawSz at h
        cases ej : joinB sz (stV H (.ref pb)) with
        | false => exact .inr rfl
        | true => rw [ej, if_pos rfl] at h; exact .inl h
      refine ⟨_, rfl, _, _, _, _, rfl, rfl, .of hg, atI_nat (j := 0) rfl, _, _, rfl, rfl, _, rfl, ite_d (fun g1 => ?_) (fun g1 => ?_)⟩
      · exact ⟨_, rfl, by show 2 ≤ sizeLine; decide, fun r hr => q1 "width" i (res _ (by rw [ef]; simp only [width g1])) r _ upd_same (s06.trans (same_upd hr))⟩
      have ej : joinB sz (stV H (.ref pb)) = true := by
        cases ej : joinB sz (stV H (.ref pb)) with
        | true => rfl
        | false =>
          refine absurd ?_ g1
          unfold lawSz
          rw [ej]
          show (12 : Int) < 13
          decide
      have el : lawSz sz (wOf ts ss (stV H (.ref pb))) (stV H (.ref pb)) = sizeOf sz (wOf ts ss (stV H (.ref pb))) (stV H (.ref pb)) := by unfold lawSz; rw [if_pos ej]
      rw [el] at hg
      have g1 : ¬ 12 < (sizeOf sz (wOf ts ss (stV H (.ref pb))) (stV H (.ref pb))).1 := by rw [← el]; exact g1
      have lim : (16 < (sizeOf sz (wOf ts ss (stV H (.ref pb))) (stV H (.ref pb))).2.1 ∨ 4 < (sizeOf sz (wOf ts ss (stV H (.ref pb))) (stV H (.ref pb))).2.2) → wrongOf ts ss sz (stV H (.ref pb)) = some ("limit" : Str) := fun h => by
        unfold wrongOf
        rw [if_neg (by rw [en]; decide), if_neg (by rw [ei]; decide), if_neg (by rintro (h | h); exact g1 h; rw [ej] at h; cases h), if_pos h]
      refine ⟨_, rfl, _, _, _, _, rfl, rfl, .of hg, atI_nat (j := 1) rfl, _, _, rfl, rfl, _, rfl, ite_d (fun g2 => ?_) (fun g2 => ?_)⟩
      · exact ⟨_, rfl, by show 2 ≤ sizeLine; decide, fun r hr => q1 "limit" i (res _ (by rw [ef]; simp only [lim (.inl g2)])) r _ upd_same (s06.trans (same_upd hr))⟩
      refine ⟨_, rfl, _, _, _, _, rfl, rfl, .of hg, atI_nat (j := 2) rfl, _, _, rfl, rfl, _, rfl, ite_d (fun g3 => ?_) (fun g3 => ?_)⟩
      · exact ⟨_, rfl, by show 2 ≤ sizeLine; decide, fun r hr => q1 "limit" i (res _ (by rw [ef]; simp only [lim (.inr g3)])) r _ upd_same (s06.trans (same_upd hr))⟩
      have ew : wrongOf ts ss sz (stV H (.ref pb)) = none := by
        unfold wrongOf
        rw [if_neg (by rw [en]; decide), if_neg (by rw [ei]; decide), if_neg (by rintro (h | h); exact g1 h; rw [ej] at h; cases h), if_neg (by rintro (h | h); exact g2 h; exact g3 h)]
      have sH6 := ((s3.trans s4).trans s5).trans s6
      have z6 : H6 z = some (.dK kvs) := sH6 _ _ hzd
      have hzk6 : ∀ n, (sz n = none → valV kvs (.inr n) = none) ∧ ∀ t, sz n = some t → ∃ b, valV kvs (.inr n) = some (.ref b) ∧ H6 b = some (.tup (szV t)) := fun n => ⟨(hzk n).1, fun t e => by
        obtain ⟨c, e1, e2⟩ := (hzk n).2 t e
        exact ⟨c, e1, sH6 _ _ e2⟩⟩
      obtain ⟨kv2, zz, hk2⟩ := SzAt.put z6 hzk6 (n := (stV H (.ref pb)).name) hg
      rw [upd_same] at zz
      cases zz
      obtain ⟨rest, hb6⟩ := st_name (hst.keeps fun _ _ e => s06 _ _ e)
      have ngz : g ≠ z := ne_of hg z6 (by intro z; cases z)
      refine ⟨_, rfl, _, rfl, _, rfl, _, _, _, _, rfl, rfl, .of hb6, atI_nat (j := 1) rfl, z, _, rfl, DPut.k (k := Sum.inr (stV H (.ref pb)).name) z6 (Nat.lt_of_le_of_lt (by omega : _ ≤ 12) (by decide)), putS sz (stV H (.ref pb)).name (sizeOf sz (wOf ts ss (stV H (.ref pb))) (stV H (.ref pb))), _, g, _, _, rfl, ?_, hzi.put (wnn hT hS) ew, upd_same, Nat.le_trans (length_putK _ _ _) (Nat.succ_le_succ hkl), hk2, same_mut s06 hz, .inr ⟨.ref pb, hu, ?_⟩⟩
      · rw [take_snoc hu, runV_append hrun, hlen, Nat.zero_add]
        show (match formB H (.ref pb) with
          | false => Sum.inl (("form" : Str), i)
          | true => match wrongOf ts ss sz (stV H (.ref pb)) with
            | some u => .inl (u, i)
            | none => .inr (putS sz (stV H (.ref pb)).name (sizeOf sz (wOf ts ss (stV H (.ref pb))) (stV H (.ref pb))))) = _
        rw [ef]
        simp only [ew]
      · rw [upd_ne ngz, hg]
        show _ = some (HO.tup (szV ((if (stV H (.ref pb)).name = (stV H (.ref pb)).name then some _ else _ : Option SzD).getD (0, 0, 0))))
        rw [if_pos rfl]
        rfl
    · obtain ⟨sz, kvs, sh, y5, y6, rfl, hrun, hzi, hzd, hkl, hzk, s, hlast⟩ := hp
      have en : ((xs.length : Nat) : Int).toNat = xs.length := rfl
      rw [en, List.take_length] at hrun
      rw [en] at hlast
      rcases hlast with h | ⟨u, hu, hsh⟩
      · omega
      · refine ⟨_, rfl, q2 sz u hrun ?_ sh H' hsh s⟩
        rw [List.getLast?_eq_getElem?]
        exact hu
end
/-! ### things with bounded lengths -/
structure T2 (H : Hp) (L : Nat) (v : V) : Prop where
  t2 : Th2 H v
  ln : ∀ zs, tupOf H v = some zs → zs.length ≤ L
structure TL (H : Hp) (L : Nat) (v : V) : Prop where
  th : Thg H v
  it : ∀ ys, tupOf H v = some ys → ys.length ≤ L ∧ ∀ y ∈ ys, T2 H L y
theorem T2.kp {H H' : Hp} {L : Nat} {v : V} (h : T2 H L v) (k : Kp H H') : T2 H' L v := ⟨h.t2.kp k, fun zs e => by
  rw [tupOf_kp h.t2.th k] at e
  exact h.ln zs e⟩
theorem T2.up {H : Hp} {L M : Nat} {v : V} (h : T2 H L v) (l : L ≤ M) : T2 H M v := ⟨h.t2, fun zs e => Nat.le_trans (h.ln zs e) l⟩
theorem TL.kp {H H' : Hp} {L : Nat} {v : V} (h : TL H L v) (k : Kp H H') : TL H' L v := ⟨h.th.kp k, fun ys e => by
  rw [tupOf_kp h.th k] at e
  exact ⟨(h.it ys e).1, fun y hy => ((h.it ys e).2 y hy).kp k⟩⟩
theorem TL.up {H : Hp} {L M : Nat} {v : V} (h : TL H L v) (l : L ≤ M) : TL H M v := ⟨h.th, fun ys e => ⟨Nat.le_trans (h.it ys e).1 l, fun y hy => ((h.it ys e).2 y hy).up l⟩⟩
theorem TL.t3 {H : Hp} {L : Nat} {v : V} (h : TL H L v) (l : L ≤ 100) : Th3 H v := ⟨h.th, fun ys e => ⟨Nat.le_trans (h.it ys e).1 l, fun y hy => ((h.it ys e).2 y hy).t2⟩⟩
theorem T2.flat {H : Hp} {L : Nat} {v : V} (h : Thg H v) (n : tupOf H v = none) : T2 H L v := ⟨.flat h n, fun zs e => by rw [n] at e; cases e⟩
theorem TL.flat {H : Hp} {L : Nat} {v : V} (h : Thg H v) (n : tupOf H v = none) : TL H L v := ⟨h, fun zs e => by rw [n] at e; cases e⟩
theorem TL.tup {H : Hp} {L : Nat} {a : Addr} {xs : List V} (e : H a = some (.tup xs)) (l : xs.length ≤ L) (h : ∀ x ∈ xs, T2 H L x) : TL H L (.ref a) := ⟨.tup e, fun ys e' => by
  rw [tupOf_tup e] at e'
  cases e'
  exact ⟨l, h⟩⟩
theorem T2.tup {H : Hp} {L : Nat} {a : Addr} {xs : List V} (e : H a = some (.tup xs)) (l : xs.length ≤ L) (l1 : L ≤ 100) (h : ∀ x ∈ xs, Th1 H x) : T2 H L (.ref a) := ⟨.tup e (Nat.le_trans l l1) h, fun ys e' => by
  rw [tupOf_tup e] at e'
  cases e'
  exact l⟩
theorem t2i (H : Hp) (L : Nat) (i : Int) : T2 H L (.int i) := .flat (.int i) rfl
theorem t2s (H : Hp) (L : Nat) {s : Str} (h : s.length ≤ 1000) (hc : Low s) : T2 H L (.str s) := .flat (.str s h hc) rfl
theorem t2l {H : Hp} {L : Nat} {a : Addr} {xs : List V} (e : H a = some (.lst xs)) : T2 H L (.ref a) := .flat (.lst e) (tupOf_lst e)
theorem t2w (H : Hp) (L : Nat) {s : Str} (h : Wd s) : T2 H L (.str s) := t2s H L (by have := h.2.1; omega) (wd_low h)
theorem catA_all {K : PySem.W.Frag} {H : Hp} {a b : Addr} {xs ys : List V} {Q : VK} (ha : H a = some (.tup xs)) (hb : H b = some (.tup ys)) (hl : xs.length + ys.length ≤ sizeLine) (q : ∀ c H', H' c = some (.tup (xs ++ ys)) → Same H H' → Q (.ref c) H') : rCatA K (.ref a) (.ref b) H Q :=
  ⟨a, b, xs, ys, rfl, rfl, .of ha, .of hb, hl, fun e => q b H (by rw [e]; exact hb) (Same.refl H), fun _ e => q a H (by rw [e, List.append_nil]; exact ha) (Same.refl H), fun _ _ c hc => q c _ upd_same (same_upd hc)⟩
theorem slA_all {K : PySem.W.Frag} {H : Hp} {a : Addr} {xs : List V} {lo hi : Option Int} {Q : VK} (ha : H a = some (.tup xs)) (q : ∀ c H', H' c = some (.tup (cutV xs lo hi)) → Same H H' → Q (.ref c) H') : rSlA K (.ref a) lo hi H Q :=
  ⟨a, xs, rfl, .of ha, fun e => q a H (by
    have : cutV xs lo hi = xs := by
      unfold cutV
      rw [e.1, e.2]
      simp
    rw [this]
    exact ha) (Same.refl H), fun _ c hc => q c _ upd_same (same_upd hc)⟩
theorem cutV_mem {xs : List V} {lo hi : Option Int} {x : V} (h : x ∈ cutV xs lo hi) : x ∈ xs := by
  unfold cutV at h
  first
  | exact List.mem_of_mem_take (List.mem_of_mem_drop h)
  | exact List.mem_of_mem_drop (List.mem_of_mem_take h)
theorem cutV_len (xs : List V) (lo hi : Option Int) : (cutV xs lo hi).length ≤ xs.length := by
  unfold cutV
  simp only [List.length_take, List.length_drop]
  omega
theorem cut_lo (xs : List V) (k : Nat) : (cutV xs (some (k : Int)) none).length ≤ xs.length - k := by
  unfold cutV
  rw [HT.sIx_nat, HT.sIx_none]
  simp only [List.length_take, List.length_drop]
  omega
theorem cut_hi (xs : List V) (k : Nat) : (cutV xs none (some (k : Int))).length ≤ k := by
  unfold cutV
  rw [HT.sIx_nat, HT.sIx_none]
  simp only [List.length_take, List.length_drop]
  omega
theorem cut_m1 (xs : List V) : (cutV xs none (some (-1))).length ≤ xs.length - 1 := by
  unfold cutV
  have e : HT.sIx xs.length xs.length (some (-1)) = xs.length - 1 := by
    show (if (-1 : Int) < 0 then ((-1 : Int) + (xs.length : Int)).toNat else min (-1 : Int).toNat xs.length) = _
    rw [if_pos (by decide)]
    omega
  rw [e, HT.sIx_none]
  simp only [List.length_take, List.length_drop]
  omega
theorem at_m1 {xs : List V} (h : xs ≠ []) : ∃ y, atI xs (-1) = some y ∧ y ∈ xs := by
  obtain ⟨j, hj⟩ : ∃ j, xs.length = j + 1 := ⟨xs.length - 1, by
    have := List.length_pos_iff.mpr h
    omega⟩
  obtain ⟨y, hy⟩ : ∃ y, xs[j]? = some y := ⟨xs[j]'(by omega), List.getElem?_eq_getElem (by omega)⟩
  refine ⟨y, ?_, List.mem_of_getElem? hy⟩
  unfold atI
  have e : ixN xs.length (-1) = some j := by
    unfold ixN
    rw [if_neg (by decide)]
    first
    | rw [if_pos (by omega)]
      congr 1
      omega
    | (rw [if_neg (by omega)]
       congr 1
       omega)
  rw [e]
  exact hy
section
variable {P : Program} {w : World} {K : PySem.W.Frag} {mg : Str → Option Value} {base : Heap} {a : Nat → Addr} {d : Nat → FuncData}
def spLWrong : Sp := fun vs H Q _ => ∃ (p st nl : Addr) (L : Nat) (y0 y1 : V) (ys names : List V), vs = [.ref p, .ref st, .ref nl] ∧ PoolAt H p ∧ H st = some (.tup (y0 :: y1 :: ys)) ∧ 4 ≤ L ∧ L ≤ 90 ∧ ys.length + 2 ≤ L ∧ (∀ y ∈ y0 :: y1 :: ys, T2 H L y) ∧ H nl = some (.lst names) ∧ nl ≠ p ∧ names ≠ [] ∧ names.length ≤ 100 ∧ (∀ y ∈ names, T2 H L y) ∧
  ∀ u H', TL H' (L + 1) u → Chg p H H' → Q u H'
theorem ok_lwrong (T : Txt K mg a d) : FnOk P w K mg base CX0 4 (a 67) (d 67) ["_law_pool_here", "_law_step", "_law_names_here"] spLWrong := by
  have G51 : FnOk P w K mg base CX0 2 (a 51) (d 51) ["_law_pool_here", "_law_many"] spDraw := ok_draw T
  have G60 : FnOk P w K mg base CX0 3 (a 60) (d 60) ["_law_pool_here", "_law_row"] spPick := ok_pick T
  refine T.F67.ok sc__law_wrong (fun vs H Q E h => ?_) (fun cdv A outer s H vs Q E hr h => ?_)
  · obtain ⟨p, st, nl, L, y0, y1, ys, names, rfl, _⟩ := h
    rfl
  · obtain ⟨p, st, nl, L, y0, y1, ys, names, rfl, hP, hst, L4, L90, hL, hy, hnl, nnl, nne, n100, hn, q⟩ := h
    refine ⟨_, (pss_cons (ps_set (i := 3) sc__law_wrong.nd rfl (.inl rfl) (pe_lst (pa_cons (pe_callTy (T := "list")  call_list_of (by rfl) T.z_list (by decide +kernel) (pa_cons (pv 1) pa_nil)) (pa_cons (pe_slice sl_tupA (pv 1) (po_some pe_int) po_none) (pa_cons (pe_op op_catA (pv 1) (pe_tup (pa_cons pe_int pa_nil))) (pa_cons (pe_op op_catA (pe_tup (pa_cons pe_str pa_nil)) (pe_slice sl_tupA (pv 1) (po_some pe_int) po_none)) (pa_cons pe_non (pa_cons pe_str (pa_cons (pe_tup pa_nil) (pa_cons pe_int (pa_cons (pe_tup (pa_cons pe_int (pa_cons pe_str pa_nil))) (pa_cons (pe_tup (pa_cons pe_str (pa_cons pe_str pa_nil))) pa_nil))))))))))))
  (pss_cons (ps_set (i := 3) sc__law_wrong.nd rfl (.inl rfl) (pe_op op_cat (pv 3) (pe_lst (pa_cons (pe_tup (pa_cons (pe_ix ix_tup (pv 1) pe_int (fun _ _ => rfl)) pa_nil)) (pa_cons (pe_tup (pa_cons pe_str (pa_cons pe_int pa_nil))) (pa_cons (pe_tup (pa_cons pe_str (pa_cons pe_str (pa_cons (pe_ix ix_list (pv 2) pe_int (fun _ _ => rfl)) (pa_cons (pe_lst (pa_cons pe_int pa_nil)) pa_nil))))) (pa_cons (pe_tup (pa_cons pe_str (pa_cons pe_str (pa_cons (pe_ix ix_list (pv 2) pe_int (fun _ _ => rfl)) (pa_cons pe_int pa_nil))))) pa_nil)))))))
  (pss_cons (ps_set (i := 4) sc__law_wrong.nd rfl (.inl rfl) (pe_call G60 (hr.mono (by decide)) (by rfl) T.g60 T.F60.kp T.b60 .nil pass0 (pa_cons (pv 0) (pa_cons (pe_lst (pa_cons (pe_un un_neg pe_int) (pa_cons pe_bl (pa_cons pe_non (pa_cons (pe_tup (pa_cons pe_int (pa_cons pe_int pa_nil))) (pa_cons (pe_tup (pa_cons pe_bl pa_nil)) (pa_cons (pe_tup pa_nil) (pa_cons (pe_lst (pa_cons pe_int pa_nil)) (pa_cons pe_str (pa_cons (pe_op op_pow pe_int pe_int) (pa_cons pe_int (pa_cons (pe_tup (pa_cons pe_str pa_nil)) (pa_cons pe_int (pa_cons pe_int pa_nil)))))))))))))) pa_nil))))
  (pss_cons (ps_set (i := 5) sc__law_wrong.nd rfl (.inl rfl) (pe_call G51 (hr.mono (by decide)) (by rfl) T.g51 T.F51.kp T.b51 .nil pass0 (pa_cons (pv 0) (pa_cons pe_int pa_nil))))
  (pss_cons (ps_set (i := 6) sc__law_wrong.nd rfl (.inl rfl) (pe_call G60 (hr.mono (by decide)) (by rfl) T.g60 T.F60.kp T.b60 .nil pass0 (pa_cons (pv 0) (pa_cons (pe_op op_cat (pv 2) (pe_lst (pa_cons pe_str (pa_cons pe_str (pa_cons pe_int (pa_cons pe_str pa_nil)))))) pa_nil))))
  (pss_cons (ps_if (PW.pt (pw_or (pt_cmpR op_lt (pv 5) pe_int (nomark _)) (pw_or1 (pt_cmpR op_lt (pe_callB (id := "len")  call_len_seq (by rfl) T.z_len (by decide +kernel) (pa_cons (pv 1) pa_nil)) pe_int (nomark _)))))
    (pss_one (ps_ret (pe_call G60 (hr.mono (by decide)) (by rfl) T.g60 T.F60.kp T.b60 .nil pass0 (pa_cons (pv 0) (pa_cons (pv 3) pa_nil)))))
    pss_nil)
  (pss_cons (ps_if (pt_cmpR op_eq (pv 5) pe_int (nomark _))
    (pss_one (ps_ret (pe_op op_catA (pe_tup (pa_cons (pe_ix ix_tup (pv 1) pe_int (fun _ _ => rfl)) (pa_cons (pv 6) pa_nil))) (pe_slice sl_tupA (pv 1) (po_some pe_int) po_none))))
    pss_nil)
  (pss_cons (ps_if (pt_cmpR op_eq (pv 5) pe_int (nomark _))
    (pss_one (ps_ret (pe_op op_catA (pe_op op_catA (pe_slice sl_tupA (pv 1) po_none (po_some pe_int)) (pe_tup (pa_cons (pv 6) pa_nil))) (pe_slice sl_tupA (pv 1) (po_some pe_int) po_none))))
    pss_nil)
  (pss_cons (ps_if (pt_cmpR op_eq (pv 5) pe_int (nomark _))
    (pss_one (ps_ret (pe_op op_catA (pe_op op_catA (pe_slice sl_tupA (pv 1) po_none (po_some pe_int)) (pe_tup (pa_cons (pe_call G60 (hr.mono (by decide)) (by rfl) T.g60 T.F60.kp T.b60 .nil pass0 (pa_cons (pv 0) (pa_cons (pe_lst (pa_cons (pv 6) (pa_cons (pv 4) (pa_cons pe_str pa_nil)))) pa_nil))) pa_nil))) (pe_slice sl_tupA (pv 1) (po_some pe_int) po_none))))
    pss_nil)
  (Evl.pss_cut (ps_if (PW.pt (pw_and (pt_val (pe_callB (id := "isinstance")  call_isi (by rfl) T.z_isinstance (by decide +kernel) (pa_cons (pe_ix ix_tup (pv 1) (pe_un un_neg pe_int) (fun _ _ => rfl)) (pa_cons (pe_bltn (v := .ty "tuple") (by rfl) T.z_tuple (by decide +kernel) rfl) pa_nil)))) (pw_and1 (pt_cmpR op_eq (pv 5) pe_int (nomark _)))))
    (pss_one (ps_ret (pe_op op_catA (pe_slice sl_tupA (pv 1) po_none (po_some (pe_un un_neg pe_int))) (pe_tup (pa_cons (pe_op op_catA (pe_ix ix_tup (pv 1) (pe_un un_neg pe_int) (fun _ _ => rfl)) (pe_tup (pa_cons (pv 4) pa_nil))) pa_nil)))))
    pss_nil)
  (Evl.pss_cut (ps_if (PW.pt (pw_and (pt_val (pe_callB (id := "isinstance")  call_isi (by rfl) T.z_isinstance (by decide +kernel) (pa_cons (pe_ix ix_tup (pv 1) (pe_un un_neg pe_int) (fun _ _ => rfl)) (pa_cons (pe_bltn (v := .ty "tuple") (by rfl) T.z_tuple (by decide +kernel) rfl) pa_nil)))) (pw_and1 (pt_cmpR op_eq (pv 5) pe_int (nomark _)))))
    (pss_one (ps_ret (pe_op op_catA (pe_slice sl_tupA (pv 1) po_none (po_some (pe_un un_neg pe_int))) (pe_tup (pa_cons (pe_slice sl_tupA (pe_ix ix_tup (pv 1) (pe_un un_neg pe_int) (fun _ _ => rfl)) (po_some pe_int) po_none) pa_nil)))))
    pss_nil)
  (pss_one (ps_ret (pe_op op_catA (pe_slice sl_tupA (pv 1) po_none (po_some (pe_un un_neg pe_int))) (pe_tup (pa_cons (pv 4) pa_nil)))))))))))))))), ?_⟩
    obtain ⟨n0, nr, rfl⟩ : ∃ n0 nr, names = n0 :: nr := by
      cases names with
      | nil => exact absurd rfl nne
      | cons a b => exact ⟨a, b, rfl⟩
    have big : ∀ {k : Nat}, k ≤ 1000 → k ≤ sizeLine := fun h => small1000' h
    -- the odd ones
    refine ⟨_, rfl, st, _, rfl, .inr (.of hst), fun a1 h1 => ?_⟩
    have s1 := same_upd (o := .lst (y0 :: y1 :: ys)) h1
    have e1 : upd H a1 (.lst (y0 :: y1 :: ys)) a1 = some (.lst (y0 :: y1 :: ys)) := upd_same
    generalize upd H a1 (.lst (y0 :: y1 :: ys)) = H1 at s1 e1 ⊢
    refine ⟨_, rfl, _, rfl, ?_⟩
    unfold tNoPart
    refine slA_all (s1 _ _ hst) fun a2 H2 e2 s2' => ?_
    have s2 := s1.trans s2'
    refine ⟨_, rfl, by show 1 ≤ sizeLine; decide, fun b3 hb3 => catA_all (same_upd hb3 _ _ (s2 _ _ hst)) upd_same (by show (ys.length + 2) + 1 ≤ sizeLine; exact big (by omega)) fun a3 H3 e3 s3' => ?_⟩
    have s3 := (s2.trans (same_upd hb3)).trans s3'
    refine ⟨by show 1 ≤ sizeLine; decide, fun b4 hb4 => ?_⟩
    refine ⟨_, rfl, _, rfl, ?_⟩
    refine slA_all (same_upd hb4 _ _ (s3 _ _ hst)) fun c4 H4' ec4 sc4 => catA_all (sc4 _ _ upd_same) ec4 (by have := cutV_len (y0 :: y1 :: ys) (some 1) none; exact big (by simp only [List.length_cons, List.length_nil] at this ⊢; omega)) fun a4 H4 e4 s4' => ?_
    have s4 := ((s3.trans (same_upd hb4)).trans sc4).trans s4'
    refine ⟨Nat.zero_le _, fun a5 h5 => ⟨by show 2 ≤ sizeLine; decide, fun a6 h6 => ⟨by show 2 ≤ sizeLine; decide, fun a7 h7 => ⟨by show 10 ≤ sizeLine; decide, fun o1 ho1 => ?_⟩⟩⟩⟩
    have s5 := ((((s4.trans (same_upd (o := .tup []) h5)).trans (same_upd (o := .tup [.int 5, .str "a"]) h6)).trans (same_upd (o := .tup [.str "start", .str "Ab"]) h7)))
    have s8 := same_upd (o := .lst [.ref a1, .ref a2, .ref a3, .ref a4, .non, .str "start", .ref a5, .int 7, .ref a6, .ref a7]) ho1
    have f5 := s8 _ _ (same_upd (o := .tup [.str "start", .str "Ab"]) h7 _ _ (same_upd (o := .tup [.int 5, .str "a"]) h6 _ _ (upd_same (H := H4) (a := a5) (o := .tup []))))
    have f6 := s8 _ _ (same_upd (o := .tup [.str "start", .str "Ab"]) h7 _ _ (upd_same (H := upd H4 a5 (.tup [])) (a := a6) (o := .tup [.int 5, .str "a"])))
    have f7 := s8 _ _ (upd_same (H := upd (upd H4 a5 (.tup [])) a6 (.tup [.int 5, .str "a"])) (a := a7) (o := .tup [.str "start", .str "Ab"]))
    have f8 := upd_same (H := upd (upd (upd H4 a5 (.tup [])) a6 (.tup [.int 5, .str "a"])) a7 (.tup [.str "start", .str "Ab"])) (a := o1) (o := .lst [.ref a1, .ref a2, .ref a3, .ref a4, .non, .str "start", .ref a5, .int 7, .ref a6, .ref a7])
    generalize upd (upd (upd (upd H4 a5 (.tup [])) a6 (.tup [.int 5, .str "a"])) a7 (.tup [.str "start", .str "Ab"])) o1 (.lst [.ref a1, .ref a2, .ref a3, .ref a4, .non, .str "start", .ref a5, .int 7, .ref a6, .ref a7]) = H8 at s8 f5 f6 f7 f8 ⊢
    have S8 : Same H H8 := s5.trans s8
    have g1 : H8 a1 = some (.lst (y0 :: y1 :: ys)) := s8 _ _ ((((((((s2'.trans (same_upd hb3)).trans s3').trans (same_upd hb4)).trans sc4).trans s4').trans (same_upd (o := .tup []) h5)).trans (same_upd (o := .tup [.int 5, .str "a"]) h6)).trans (same_upd (o := .tup [.str "start", .str "Ab"]) h7) _ _ e1)
    have k2 := (((((((same_upd hb3).trans s3').trans (same_upd hb4)).trans sc4).trans s4').trans (same_upd (o := .tup []) h5)).trans (same_upd (o := .tup [.int 5, .str "a"]) h6)).trans (same_upd (o := .tup [.str "start", .str "Ab"]) h7)
    have g2 := s8 _ _ (k2 _ _ e2)
    have k3 := ((((((same_upd hb4).trans sc4).trans s4').trans (same_upd (o := .tup []) h5)).trans (same_upd (o := .tup [.int 5, .str "a"]) h6)).trans (same_upd (o := .tup [.str "start", .str "Ab"]) h7))
    have g3 := s8 _ _ (k3 _ _ e3)
    have k4 := (((same_upd (o := .tup []) h5)).trans (same_upd (o := .tup [.int 5, .str "a"]) h6)).trans (same_upd (o := .tup [.str "start", .str "Ab"]) h7)
    have g4 := s8 _ _ (k4 _ _ e4)
    clear s8 s5 s4 s3 s2 s1 e1 e2 e3 e4 s2' s3' s4' sc4 ec4 k2 k3 k4 h1 hb3 hb4 h5 h6 h7 ho1
    have C8 : Chg p H H8 := ⟨hP.same S8, fun b o _ e => S8 b o e⟩
    have st8 := S8 _ _ hst
    have nl8 := S8 _ _ hnl
    -- more odd ones
    refine ⟨_, rfl, _, rfl, _, _, _, _, rfl, rfl, .of st8, atI_nat (j := 0) rfl, by show 1 ≤ sizeLine; decide, fun c1 i1 => ⟨by show 2 ≤ sizeLine; decide, fun c2 i2 => ?_⟩⟩
    have r1 := same_upd (o := .tup [y0]) i1
    have r2 := r1.trans (same_upd (o := .tup [.str "start", .int 5]) i2)
    have j1 := same_upd (o := .tup [.str "start", .int 5]) i2 _ _ (upd_same (H := H8) (a := c1) (o := .tup [y0]))
    have j2 := upd_same (H := upd H8 c1 (.tup [y0])) (a := c2) (o := .tup [.str "start", .int 5])
    generalize upd (upd H8 c1 (.tup [y0])) c2 (.tup [.str "start", .int 5]) = H9 at r2 j1 j2 ⊢
    refine ⟨_, rfl, _, _, _, _, rfl, rfl, .of (r2 _ _ nl8), atI_nat (j := 0) rfl, by show 1 ≤ sizeLine; decide, fun c3 i3 => ⟨by show 4 ≤ sizeLine; decide, fun c4 i4 => ?_⟩⟩
    have r3 := same_upd (o := .lst [.int 0]) i3
    have r4 := r3.trans (same_upd (o := .tup [.str "take", .str "zz", n0, .ref c3]) i4)
    have j3 := same_upd (o := .tup [.str "take", .str "zz", n0, .ref c3]) i4 _ _ (upd_same (H := H9) (a := c3) (o := .lst [.int 0]))
    have j4 := upd_same (H := upd H9 c3 (.lst [.int 0])) (a := c4) (o := .tup [.str "take", .str "zz", n0, .ref c3])
    generalize upd (upd H9 c3 (.lst [.int 0])) c4 (.tup [.str "take", .str "zz", n0, .ref c3]) = H10 at r4 j3 j4 ⊢
    refine ⟨_, rfl, _, _, _, _, rfl, rfl, .of ((r2.trans r4) _ _ nl8), atI_nat (j := 0) rfl, by show 4 ≤ sizeLine; decide, fun c5 i5 => ⟨by show 4 ≤ sizeLine; decide, fun c6 i6 => ?_⟩⟩
    have r5 := same_upd (o := .tup [.str "take", .str "zz", n0, .int 0]) i5
    have r6 := r5.trans (same_upd (o := .lst [.ref c1, .ref c2, .ref c4, .ref c5]) i6)
    have j5 := same_upd (o := .lst [.ref c1, .ref c2, .ref c4, .ref c5]) i6 _ _ (upd_same (H := H10) (a := c5) (o := .tup [.str "take", .str "zz", n0, .int 0]))
    have j6 := upd_same (H := upd H10 c5 (.tup [.str "take", .str "zz", n0, .int 0])) (a := c6) (o := .lst [.ref c1, .ref c2, .ref c4, .ref c5])
    generalize upd (upd H10 c5 (.tup [.str "take", .str "zz", n0, .int 0])) c6 (.lst [.ref c1, .ref c2, .ref c4, .ref c5]) = H11 at r6 j5 j6 ⊢
    refine ⟨o1, c6, _, _, rfl, rfl, ((r2.trans r4).trans r6) _ _ f8, j6, by show 10 + 4 ≤ sizeLine; decide, fun od hod => ?_⟩
    have r7 := same_upd (o := .lst ([V.ref a1, .ref a2, .ref a3, .ref a4, .non, .str "start", .ref a5, .int 7, .ref a6, .ref a7] ++ [.ref c1, .ref c2, .ref c4, .ref c5])) hod
    have fod := upd_same (H := H11) (a := od) (o := .lst ([V.ref a1, .ref a2, .ref a3, .ref a4, .non, .str "start", .ref a5, .int 7, .ref a6, .ref a7] ++ [.ref c1, .ref c2, .ref c4, .ref c5]))
    generalize upd H11 od (.lst ([V.ref a1, .ref a2, .ref a3, .ref a4, .non, .str "start", .ref a5, .int 7, .ref a6, .ref a7] ++ [.ref c1, .ref c2, .ref c4, .ref c5])) = H12 at r7 fod ⊢
    have R12 := ((r2.trans r4).trans r6).trans r7
    have S12 := S8.trans R12
    have C12 : Chg p H H12 := ⟨hP.same S12, fun b o _ e => S12 b o e⟩
    have low1 : ∀ s ∈ (["cut", "start", "a", "Ab", "take", "zz", "A", "", "b", "Z", "abcdefghi"] : List Str), s.length ≤ 1000 ∧ Low s := by
      have h : ((["cut", "start", "a", "Ab", "take", "zz", "A", "", "b", "Z", "abcdefghi"] : List Str).all fun s => decide (s.length ≤ 1000) && s.cps.toList.all fun c => decide (c < 128)) = true := by decide +kernel
      intro s hs
      have := List.all_eq_true.mp h s hs
      rw [Bool.and_eq_true] at this
      exact ⟨of_decide_eq_true this.1, fun c hc => of_decide_eq_true (List.all_eq_true.mp this.2 c hc)⟩
    have ts : ∀ (G : Hp) (s : Str), s ∈ (["cut", "start", "a", "Ab", "take", "zz", "A", "", "b", "Z", "abcdefghi"] : List Str) → T2 G (L + 1) (.str s) := fun G s h => t2s G _ (low1 s h).1 (low1 s h).2
    have ty : ∀ {G}, Same H G → ∀ y ∈ y0 :: y1 :: ys, T2 G (L + 1) y := fun {G} s y h => ((hy y h).kp (Kp.same s)).up (Nat.le_succ L)
    have tn : ∀ {G}, Same H G → T2 G (L + 1) n0 := fun {G} s => ((hn n0 (by simp)).kp (Kp.same s)).up (Nat.le_succ L)
    have odd : ∀ u ∈ ([V.ref a1, .ref a2, .ref a3, .ref a4, .non, .str "start", .ref a5, .int 7, .ref a6, .ref a7] ++ [.ref c1, .ref c2, .ref c4, .ref c5]), TL H12 (L + 1) u := fun u hu => by
      simp only [List.cons_append, List.nil_append, List.mem_cons, List.not_mem_nil, or_false] at hu
      rcases hu with rfl | rfl | rfl | rfl | rfl | rfl | rfl | rfl | rfl | rfl | rfl | rfl | rfl | rfl
      · exact .flat (.lst (R12 _ _ g1)) (tupOf_lst (R12 _ _ g1))
      · exact .tup (R12 _ _ g2) (by have := cutV_len (y0 :: y1 :: ys) (some 1) none; simp only [List.length_cons] at this; omega) fun x hx => ty S12 x (cutV_mem hx)
      · refine .tup (R12 _ _ g3) (by rw [List.length_append]; show (ys.length + 2) + 1 ≤ L + 1; omega) fun x hx => ?_
        rcases List.mem_append.mp hx with h | h
        · exact ty S12 x h
        · rw [List.mem_singleton.mp h]; exact t2i _ _ _
      · refine .tup (R12 _ _ g4) (by have := cutV_len (y0 :: y1 :: ys) (some 1) none; rw [List.length_append]; simp only [List.length_cons, List.length_nil] at this ⊢; omega) fun x hx => ?_
        rcases List.mem_append.mp hx with h | h
        · rw [List.mem_singleton.mp h]; exact ts _ _ (by simp)
        · exact ty S12 x (cutV_mem h)
      · exact .flat .non rfl
      · exact .flat (.str _ (low1 "start" (by simp)).1 (low1 "start" (by simp)).2) rfl
      · exact .tup (R12 _ _ f5) (Nat.zero_le _) fun x hx => by cases hx
      · exact .flat (.int 7) rfl
      · refine .tup (R12 _ _ f6) (by show 2 ≤ L + 1; omega) fun x hx => ?_
        simp only [List.mem_cons, List.not_mem_nil, or_false] at hx
        rcases hx with rfl | rfl
        · exact t2i _ _ _
        · exact ts _ _ (by simp)
      · refine .tup (R12 _ _ f7) (by show 2 ≤ L + 1; omega) fun x hx => ?_
        simp only [List.mem_cons, List.not_mem_nil, or_false] at hx
        rcases hx with rfl | rfl
        · exact ts _ _ (by simp)
        · exact ts _ _ (by simp)
      · refine .tup ((r4.trans r6).trans r7 _ _ j1) (by show 1 ≤ L + 1; omega) fun x hx => ?_
        rw [List.mem_singleton.mp hx]; exact ty S12 y0 (by simp)
      · refine .tup ((r4.trans r6).trans r7 _ _ j2) (by show 2 ≤ L + 1; omega) fun x hx => ?_
        simp only [List.mem_cons, List.not_mem_nil, or_false] at hx
        rcases hx with rfl | rfl
        · exact ts _ _ (by simp)
        · exact t2i _ _ _
      · refine .tup (r6.trans r7 _ _ j4) (by show 4 ≤ L + 1; omega) fun x hx => ?_
        simp only [List.mem_cons, List.not_mem_nil, or_false] at hx
        rcases hx with rfl | rfl | rfl | rfl
        · exact ts _ _ (by simp)
        · exact ts _ _ (by simp)
        · exact tn S12
        · exact t2l (r6.trans r7 _ _ j3)
      · refine .tup (r7 _ _ j5) (by show 4 ≤ L + 1; omega) fun x hx => ?_
        simp only [List.mem_cons, List.not_mem_nil, or_false] at hx
        rcases hx with rfl | rfl | rfl | rfl
        · exact ts _ _ (by simp)
        · exact ts _ _ (by simp)
        · exact tn S12
        · exact t2i _ _ _
    have nod : od ≠ p := fun e => by
      obtain ⟨a0, a1', a2', a3', rr, e', _⟩ := hP.same ((S8.trans ((r2.trans r4).trans r6)))
      rw [e, e'] at hod
      cases hod
    clear g1 g2 g3 g4 f5 f6 f7 f8 j1 j2 j3 j4 j5 j6 r1 r2 r3 r4 r5 r6 r7 R12 hod i1 i2 i3 i4 i5 i6 C8 st8 nl8 S8
    -- the item
    refine ⟨_, rfl, _, rfl, by show 2 ≤ sizeLine; decide, fun d1 k1 => ⟨by show 1 ≤ sizeLine; decide, fun d2 k2 => ⟨Nat.zero_le _, fun d3 k3 => ⟨by show 1 ≤ sizeLine; decide, fun d4 k4 => ?_⟩⟩⟩⟩
    have v1 := same_upd (o := .tup [.int 1, .int 2]) k1
    have v2 := v1.trans (same_upd (o := .tup [.bl true]) k2)
    have v3 := v2.trans (same_upd (o := .tup []) k3)
    have v4 := v3.trans (same_upd (o := .lst [.int 0]) k4)
    have w1 := same_upd (o := .lst [.int 0]) k4 _ _ (same_upd (o := .tup []) k3 _ _ (same_upd (o := .tup [.bl true]) k2 _ _ (upd_same (H := H12) (a := d1) (o := .tup [.int 1, .int 2]))))
    have w2 := same_upd (o := .lst [.int 0]) k4 _ _ (same_upd (o := .tup []) k3 _ _ (upd_same (H := upd H12 d1 (.tup [.int 1, .int 2])) (a := d2) (o := .tup [.bl true])))
    have w3 := same_upd (o := .lst [.int 0]) k4 _ _ (upd_same (H := upd (upd H12 d1 (.tup [.int 1, .int 2])) d2 (.tup [.bl true])) (a := d3) (o := .tup []))
    have w4 := upd_same (H := upd (upd (upd H12 d1 (.tup [.int 1, .int 2])) d2 (.tup [.bl true])) d3 (.tup [])) (a := d4) (o := .lst [.int 0])
    generalize upd (upd (upd (upd H12 d1 (.tup [.int 1, .int 2])) d2 (.tup [.bl true])) d3 (.tup [])) d4 (.lst [.int 0]) = H16 at v4 w1 w2 w3 w4 ⊢
    refine ⟨_, _, rfl, rfl, ⟨by decide, by decide, by decide⟩, by show 1 ≤ sizeLine; decide, fun d5 k5 => ⟨by show 13 ≤ sizeLine; decide, fun il kil => ?_⟩⟩
    have v5 := same_upd (o := .tup [.str "A"]) k5
    have w5 := upd_same (H := H16) (a := d5) (o := .tup [.str "A"])
    generalize upd H16 d5 (.tup [.str "A"]) = H17 at v5 w5 kil ⊢
    have v6 := same_upd (o := .lst [.int (-1), .bl true, .non, .ref d1, .ref d2, .ref d3, .ref d4, .str "a", .int (10 ^ (25 : Int).toNat), .int 12, .ref d5, .int 3, .int 0]) kil
    have w6 := upd_same (H := H17) (a := il) (o := .lst [.int (-1), .bl true, .non, .ref d1, .ref d2, .ref d3, .ref d4, .str "a", .int (10 ^ (25 : Int).toNat), .int 12, .ref d5, .int 3, .int 0])
    have V6 := (v4.trans v5).trans v6
    have C17 : Chg p H H17 := C12.trans ⟨C12.1.same (v4.trans v5), fun b o _ e => (v4.trans v5) b o e⟩
    have nil' : il ≠ p := Chg.ne C17.1 kil
    generalize upd H17 il (.lst [.int (-1), .bl true, .non, .ref d1, .ref d2, .ref d3, .ref d4, .str "a", .int (10 ^ (25 : Int).toNat), .int 12, .ref d5, .int 3, .int 0]) = H18 at v6 w6 V6 ⊢
    have C18 : Chg p H H18 := C12.trans ⟨C12.1.same V6, fun b o _ e => V6 b o e⟩
    have itm : ∀ u ∈ [V.int (-1), .bl true, .non, .ref d1, .ref d2, .ref d3, .ref d4, .str "a", .int (10 ^ (25 : Int).toNat), .int 12, .ref d5, .int 3, .int 0], T2 H18 (L + 1) u := fun u hu => by
      simp only [List.mem_cons, List.not_mem_nil, or_false] at hu
      rcases hu with rfl | rfl | rfl | rfl | rfl | rfl | rfl | rfl | rfl | rfl | rfl | rfl | rfl
      · exact t2i _ _ _
      · exact .flat (.bl true) rfl
      · exact .flat .non rfl
      · refine .tup ((v5.trans v6) _ _ w1) (by show 2 ≤ L + 1; omega) (by omega) fun x hx => ?_
        simp only [List.mem_cons, List.not_mem_nil, or_false] at hx
        rcases hx with rfl | rfl
        · exact .flat (.int _) rfl
        · exact .flat (.int _) rfl
      · refine .tup ((v5.trans v6) _ _ w2) (by show 1 ≤ L + 1; omega) (by omega) fun x hx => ?_
        rw [List.mem_singleton.mp hx]; exact .flat (.bl _) rfl
      · exact .tup ((v5.trans v6) _ _ w3) (Nat.zero_le _) (by omega) fun x hx => by cases hx
      · exact t2l ((v5.trans v6) _ _ w4)
      · exact ts _ _ (by simp)
      · exact t2i _ _ _
      · exact t2i _ _ _
      · refine .tup (v6 _ _ w5) (by show 1 ≤ L + 1; omega) (by omega) fun x hx => ?_
        rw [List.mem_singleton.mp hx]; exact .flat (.str _ (low1 "A" (by simp)).1 (low1 "A" (by simp)).2) rfl
      · exact t2i _ _ _
      · exact t2i _ _ _
    clear v1 v2 v3 v4 w1 w2 w3 w4 v5 w5 v6 k1 k2 k3 k4 k5 kil
    refine ⟨p, il, _, rfl, C18.1, w6, nil', by show 1 ≤ 13; decide, by show 13 ≤ 1000; decide, fun item H19 hitem C19 => ?_⟩
    have C0_19 := C18.trans C19
    have K19 := Kp.chg C18.1 C19
    have item19 := (itm item hitem).kp K19
    have odd19 : ∀ u ∈ ([V.ref a1, .ref a2, .ref a3, .ref a4, .non, .str "start", .ref a5, .int 7, .ref a6, .ref a7] ++ [.ref c1, .ref c2, .ref c4, .ref c5]), TL H19 (L + 1) u := fun u hu => ((odd u hu).kp (Kp.same V6)).kp K19
    have fod19 := C19.at nod (V6 _ _ fod)
    clear itm odd fod w6 V6 C12 C17 C18 C19 K19 S12 hitem nil'
    -- kind and name
    refine ⟨_, rfl, p, _, rfl, C0_19.1, by decide, by decide, fun kd H20 kd0 kd1 C20 => ?_⟩
    have C0_20 := C0_19.trans C20
    refine ⟨_, rfl, _, rfl, by show 4 ≤ sizeLine; decide, fun nb hnb => ?_⟩
    have z1 := same_upd (o := .lst [.str "", .str "b", .int 4, .str "Z"]) hnb
    refine ⟨nl, nb, _, _, rfl, rfl, z1 _ _ (C0_20.at nnl hnl), upd_same, by show (nr.length + 1) + 4 ≤ sizeLine; exact big (by rw [List.length_cons] at n100; omega), fun nm hnm => ?_⟩
    have z2 := z1.trans (same_upd (o := .lst (n0 :: nr ++ [.str "", .str "b", .int 4, .str "Z"])) hnm)
    have hnm2 := upd_same (H := upd H20 nb (.lst [.str "", .str "b", .int 4, .str "Z"])) (a := nm) (o := .lst (n0 :: nr ++ [.str "", .str "b", .int 4, .str "Z"]))
    have C0_22 : Chg p H (upd (upd H20 nb (.lst [.str "", .str "b", .int 4, .str "Z"])) nm (.lst (n0 :: nr ++ [.str "", .str "b", .int 4, .str "Z"]))) := (C0_20.new hnb).new hnm
    have nnm : nm ≠ p := Chg.ne (C0_20.new (o := .lst [.str "", .str "b", .int 4, .str "Z"]) hnb).1 hnm
    generalize upd (upd H20 nb (.lst [.str "", .str "b", .int 4, .str "Z"])) nm (.lst (n0 :: nr ++ [.str "", .str "b", .int 4, .str "Z"])) = H22 at z2 hnm2 C0_22 ⊢
    refine ⟨p, nm, _, rfl, C0_22.1, hnm2, nnm, by simp, by rw [List.length_append]; rw [List.length_cons] at n100 ⊢; show nr.length + 1 + 4 ≤ 1000; omega, fun name H23 hname C23 => ?_⟩
    have CF := C0_22.trans C23
    have KF := Kp.chg hP CF
    have K1923 : Kp H19 H23 := ((Kp.chg C0_19.1 C20).trans (Kp.same z2)).trans (Kp.chg C0_22.1 C23)
    have item23 := item19.kp K1923
    have odd23 : ∀ u ∈ ([V.ref a1, .ref a2, .ref a3, .ref a4, .non, .str "start", .ref a5, .int 7, .ref a6, .ref a7] ++ [.ref c1, .ref c2, .ref c4, .ref c5]), TL H23 (L + 1) u := fun u hu => (odd19 u hu).kp K1923
    have fod23 := C23.at nod (z2 _ _ (C20.at nod fod19))
    have name23 : T2 H23 (L + 1) name := by
      rcases List.mem_append.mp hname with h | h
      · exact ((hn name h).kp KF).up (Nat.le_succ L)
      · simp only [List.mem_cons, List.not_mem_nil, or_false] at h
        rcases h with rfl | rfl | rfl | rfl
        · exact ts _ _ (by simp)
        · exact ts _ _ (by simp)
        · exact t2i _ _ _
        · exact ts _ _ (by simp)
    have hst23 : H23 st = some (.tup (y0 :: y1 :: ys)) := KF.tup _ _ hst
    have y23 : ∀ y ∈ y0 :: y1 :: ys, T2 H23 (L + 1) y := fun y h => ((hy y h).kp KF).up (Nat.le_succ L)
    clear item19 odd19 fod19 z1 z2 hnm2 C0_22 C0_20 C0_19 hnb hnm C20 C23 K1923 ty tn hname
    generalize hσ9 : List.set _ 5 _ = σ9
    have hh9 : σ9 = [some (V.ref p), some (.ref st), some (.ref nl), some (.ref od), some item, some (.int kd), none] := by rw [← hσ9]; rfl
    clear hσ9
    subst hh9
    have fin : ∀ (c : Addr) (zs : List V) (H' : Hp), Same H23 H' → H' c = some (.tup zs) → zs.length ≤ L + 1 → (∀ z ∈ zs, z ∈ y0 :: y1 :: ys ∨ T2 H' (L + 1) z) → Q (.ref c) H' := fun c zs H' s e l h => q _ _ (.tup e l fun z hz => (h z hz).elim (fun h => (y23 z h).kp (Kp.same s)) id) (CF.trans ⟨CF.1.same s, fun b o _ e => s b o e⟩)
    have XL : (y0 :: y1 :: ys).length = ys.length + 2 := rfl
    have y23' : ∀ y ∈ y0 :: y1 :: ys, T2 H23 L y := fun y h => (hy y h).kp KF
    generalize hX : y0 :: y1 :: ys = X at hst23 fin XL y23 y23'
    have pk : ∀ {R : VK}, (∀ u H', Q u H' → R u H') → spPick [.ref p, .ref od] H23 R E0 := fun hR => ⟨p, od, _, rfl, CF.1, fod23, nod, by show 1 ≤ 14; decide, by show 14 ≤ 1000; decide, fun u H' hu C => hR _ _ (q _ _ ((odd23 u hu).kp (Kp.chg CF.1 C)) (CF.trans C))⟩
    refine ⟨_, rfl, _, _, rfl, rfl, _, rfl, ite_d (fun g1 => ?_) (fun g1 => ?_)⟩
    · exact ifT ⟨_, rfl, _, rfl, pk fun _ _ h => h⟩
    refine ⟨_, rfl, st, _, rfl, .inr (.of hst23), _, _, rfl, rfl, _, rfl, ite_d (fun g2 => ?_) (fun g2 => ?_)⟩
    · exact ⟨_, rfl, _, rfl, pk fun _ _ h => h⟩
    have g2 : ¬ (X.length : Int) < 3 := g2
    have X0 : X[0]? = some y0 := by rw [← hX]; rfl
    have X0m : y0 ∈ X := List.mem_of_getElem? X0
    -- kind 2
    refine ⟨_, rfl, rfl, _, rfl, ite_eqI (fun _ => ?_) (fun _ => ?_)⟩
    · refine ⟨_, rfl, _, _, _, _, rfl, rfl, .of hst23, atI_nat (j := 0) X0, _, rfl, by show 2 ≤ sizeLine; decide, fun c1 i1 => ⟨_, rfl, _, rfl, ?_⟩⟩
      have s1 := same_upd (o := .tup [y0, name]) i1
      have e1 := upd_same (H := H23) (a := c1) (o := .tup [y0, name])
      generalize upd H23 c1 (.tup [y0, name]) = G1 at s1 e1 ⊢
      refine slA_all (s1 _ _ hst23) fun c2 G2 e2 s2 => catA_all (s2 _ _ e1) e2 (by have := cut_lo X 2; show 2 + _ ≤ sizeLine; exact big (by have : (cutV X (some ((2 : Nat) : Int)) none).length ≤ X.length - 2 := cut_lo X 2; show 2 + (cutV X (some ((2 : Nat) : Int)) none).length ≤ 1000; omega)) fun c3 G3 e3 s3 => ?_
      have S3 := (s1.trans s2).trans s3
      refine fin c3 _ _ S3 e3 (by rw [List.length_append]; have : (cutV X (some ((2 : Nat) : Int)) none).length ≤ X.length - 2 := cut_lo X 2; show 2 + (cutV X (some ((2 : Nat) : Int)) none).length ≤ L + 1; omega) fun z hz => ?_
      rcases List.mem_append.mp hz with h | h
      · simp only [List.mem_cons, List.not_mem_nil, or_false] at h
        rcases h with rfl | rfl
        · exact .inl X0m
        · exact .inr (name23.kp (Kp.same S3))
      · exact .inl (cutV_mem h)
    -- kind 3
    refine ⟨_, rfl, rfl, _, rfl, ite_eqI (fun _ => ?_) (fun _ => ?_)⟩
    · refine ⟨_, rfl, _, rfl, slA_all hst23 fun c1 G1 e1 s1 => ⟨_, rfl, by show 1 ≤ sizeLine; decide, fun c2 i2 => ?_⟩⟩
      have s2 := s1.trans (same_upd (o := .tup [name]) i2)
      have e1' := same_upd (o := .tup [name]) i2 _ _ e1
      have e2 := upd_same (H := G1) (a := c2) (o := .tup [name])
      generalize upd G1 c2 (.tup [name]) = G2 at s2 e1' e2 ⊢
      have l1 : (cutV X none (some ((2 : Nat) : Int))).length ≤ 2 := cut_hi X 2
      have l2 : (cutV X (some ((3 : Nat) : Int)) none).length ≤ X.length - 3 := cut_lo X 3
      refine catA_all e1' e2 (by show (cutV X none (some ((2 : Nat) : Int))).length + 1 ≤ sizeLine; exact big (by omega)) fun c3 G3 e3 s3 => ?_
      refine ⟨_, rfl, _, rfl, slA_all (s3 _ _ (s2 _ _ hst23)) fun c4 G4 e4 s4 => catA_all (s4 _ _ e3) e4 (by rw [List.length_append]; show (cutV X none (some ((2 : Nat) : Int))).length + 1 + (cutV X (some ((3 : Nat) : Int)) none).length ≤ sizeLine; exact big (by omega)) fun c5 G5 e5 s5 => ?_⟩
      have S5 := ((s2.trans s3).trans s4).trans s5
      refine fin c5 _ _ S5 e5 (by rw [List.length_append, List.length_append]; show (cutV X none (some ((2 : Nat) : Int))).length + 1 + (cutV X (some ((3 : Nat) : Int)) none).length ≤ L + 1; omega) fun z hz => ?_
      rcases List.mem_append.mp hz with h | h
      · rcases List.mem_append.mp h with h | h
        · exact .inl (cutV_mem h)
        · rw [List.mem_singleton.mp h]
          exact .inr (name23.kp (Kp.same S5))
      · exact .inl (cutV_mem h)
    -- kind 4
    refine ⟨_, rfl, rfl, _, rfl, ite_eqI (fun _ => ?_) (fun _ => ?_)⟩
    · refine ⟨_, rfl, _, rfl, slA_all hst23 fun c1 G1 e1 s1 => ⟨_, rfl, _, rfl, _, rfl, by show 3 ≤ sizeLine; decide, fun c2 i2 => ?_⟩⟩
      have C1 : Chg p H23 G1 := ⟨CF.1.same s1, fun b o _ e => s1 b o e⟩
      have C2 := C1.new (o := .lst [name, item, .str "abcdefghi"]) i2
      have n2 : c2 ≠ p := Chg.ne C1.1 i2
      have e1' := same_upd (o := .lst [name, item, .str "abcdefghi"]) i2 _ _ e1
      have e2 := upd_same (H := G1) (a := c2) (o := .lst [name, item, .str "abcdefghi"])
      generalize upd G1 c2 (.lst [name, item, .str "abcdefghi"]) = G2 at C2 e1' e2 ⊢
      refine ⟨p, c2, _, rfl, C2.1, e2, n2, by show 1 ≤ 3; decide, by show 3 ≤ 1000; decide, fun x G3 hx C3 => ?_⟩
      have C23' := C2.trans C3
      have K3 := Kp.chg CF.1 C23'
      have x3 : T2 G3 (L + 1) x := by
        simp only [List.mem_cons, List.not_mem_nil, or_false] at hx
        rcases hx with rfl | rfl | rfl
        · exact name23.kp K3
        · exact item23.kp K3
        · exact ts _ _ (by simp)
      have e1'' := (Kp.chg C2.1 C3).tup _ _ e1'
      refine ⟨by show 1 ≤ sizeLine; decide, fun c4 i4 => ?_⟩
      have s4 := same_upd (o := .tup [x]) i4
      have e4 := upd_same (H := G3) (a := c4) (o := .tup [x])
      generalize upd G3 c4 (.tup [x]) = G4 at s4 e4 ⊢
      have l1 : (cutV X none (some ((3 : Nat) : Int))).length ≤ 3 := cut_hi X 3
      have l2 : (cutV X (some ((4 : Nat) : Int)) none).length ≤ X.length - 4 := cut_lo X 4
      refine catA_all (s4 _ _ e1'') e4 (by show (cutV X none (some ((3 : Nat) : Int))).length + 1 ≤ sizeLine; exact big (by omega)) fun c5 G5 e5 s5 => ?_
      refine ⟨_, rfl, _, rfl, slA_all (s5 _ _ (s4 _ _ (K3.tup _ _ hst23))) fun c6 G6 e6 s6 => catA_all (s6 _ _ e5) e6 (by rw [List.length_append]; show (cutV X none (some ((3 : Nat) : Int))).length + 1 + (cutV X (some ((4 : Nat) : Int)) none).length ≤ sizeLine; exact big (by omega)) fun c7 G7 e7 s7 => ?_⟩
      have S7 := ((s4.trans s5).trans s6).trans s7
      have C7 : Chg p H G7 := (CF.trans C23').trans ⟨C23'.1.same S7, fun b o _ e => S7 b o e⟩
      refine q _ _ (.tup e7 (by rw [List.length_append, List.length_append]; show (cutV X none (some ((3 : Nat) : Int))).length + 1 + (cutV X (some ((4 : Nat) : Int)) none).length ≤ L + 1; omega) fun z hz => ?_) C7
      have Ky := K3.trans (Kp.same S7)
      rcases List.mem_append.mp hz with h | h
      · rcases List.mem_append.mp h with h | h
        · exact (y23 z (cutV_mem h)).kp Ky
        · rw [List.mem_singleton.mp h]
          exact x3.kp (Kp.same S7)
      · exact (y23 z (cutV_mem h)).kp Ky
    -- the last item
    obtain ⟨yl, hat, hym⟩ := at_m1 (xs := X) (fun e => by rw [e] at g2; exact g2 (by decide))
    have yl2 := y23 yl hym
    obtain ⟨n, hty, k1⟩ := yl2.t2.th.tyT (K := K)
    have l1 : (cutV X none (some (-1))).length ≤ X.length - 1 := cut_m1 X
    -- kind 5
    refine ⟨fun σ H' => σ = [some (V.ref p), some (.ref st), some (.ref nl), some (.ref od), some item, some (.int kd), some name] ∧ H23 = H', ?_, ?_⟩
    · refine ⟨_, rfl, _, rfl, _, _, _, _, rfl, rfl, .of hst23, hat, _, _, _, _, _, rfl, .ty _, hty, kit_ty k1, _, rfl, ?_⟩
      cases et : tupOf H23 yl with
      | none => exact ⟨rfl, rfl⟩
      | some zs =>
        obtain ⟨lz, hz1⟩ := yl2.t2.it zs et
        have lz' := (y23' yl hym).ln zs et
        obtain ⟨g, rfl, hg⟩ := tupOf_some et
        refine ifT ⟨_, rfl, rfl, _, rfl, ite_eqI (fun _ => ?_) (fun _ => ⟨rfl, rfl⟩)⟩
        refine ⟨_, rfl, _, rfl, _, rfl, slA_all hst23 fun c1 G1 e1 s1 => ?_⟩
        refine ⟨_, rfl, _, rfl, _, _, _, _, rfl, rfl, .of (s1 _ _ hst23), hat, _, rfl, by show 1 ≤ sizeLine; decide, fun c2 i2 => ?_⟩
        have s2 := s1.trans (same_upd (o := .tup [item]) i2)
        have e1' := same_upd (o := .tup [item]) i2 _ _ e1
        have e2 := upd_same (H := G1) (a := c2) (o := .tup [item])
        generalize upd G1 c2 (.tup [item]) = G2 at s2 e1' e2 ⊢
        refine catA_all (s2 _ _ hg) e2 (by show zs.length + 1 ≤ sizeLine; exact big (by omega)) fun c3 G3 e3 s3 => ⟨by show 1 ≤ sizeLine; decide, fun c4 i4 => ?_⟩
        have s4 := s3.trans (same_upd (o := .tup [.ref c3]) i4)
        have e3' := same_upd (o := .tup [.ref c3]) i4 _ _ e3
        have e4 := upd_same (H := G3) (a := c4) (o := .tup [.ref c3])
        generalize upd G3 c4 (.tup [.ref c3]) = G4 at s4 e3' e4 ⊢
        refine catA_all (s4 _ _ e1') e4 (by show (cutV X none (some (-1))).length + 1 ≤ sizeLine; exact big (by omega)) fun c5 G5 e5 s5 => ?_
        have S5 := (s2.trans s4).trans s5
        refine fin c5 _ _ S5 e5 (by rw [List.length_append]; show (cutV X none (some (-1))).length + 1 ≤ L + 1; omega) fun z hz => ?_
        rcases List.mem_append.mp hz with h | h
        · exact .inl (cutV_mem h)
        · rw [List.mem_singleton.mp h]
          refine .inr (.tup (s5 _ _ e3') (by rw [List.length_append]; show zs.length + 1 ≤ L + 1; omega) (by omega) fun x hx => ?_)
          rcases List.mem_append.mp hx with h | h
          · exact (hz1 x h).kp (Kp.same S5)
          · rw [List.mem_singleton.mp h]
            exact (item23.kp (Kp.same S5)).t2.down
    -- kind 6
    rintro σ H' ⟨rfl, rfl⟩
    refine ⟨fun σ H' => σ = [some (V.ref p), some (.ref st), some (.ref nl), some (.ref od), some item, some (.int kd), some name] ∧ H23 = H', ?_, ?_⟩
    · refine ⟨_, rfl, _, rfl, _, _, _, _, rfl, rfl, .of hst23, hat, _, _, _, _, _, rfl, .ty _, hty, kit_ty k1, _, rfl, ?_⟩
      cases et : tupOf H23 yl with
      | none => exact ⟨rfl, rfl⟩
      | some zs =>
        obtain ⟨lz, hz1⟩ := yl2.t2.it zs et
        have lz' := (y23' yl hym).ln zs et
        obtain ⟨g, rfl, hg⟩ := tupOf_some et
        refine ifT ⟨_, rfl, rfl, _, rfl, ite_eqI (fun _ => ?_) (fun _ => ⟨rfl, rfl⟩)⟩
        refine ⟨_, rfl, _, rfl, _, rfl, slA_all hst23 fun c1 G1 e1 s1 => ?_⟩
        refine ⟨_, rfl, _, rfl, _, _, _, _, rfl, rfl, .of (s1 _ _ hst23), hat, _, rfl, slA_all (s1 _ _ hg) fun c3 G3 e3 s3 => ⟨by show 1 ≤ sizeLine; decide, fun c4 i4 => ?_⟩⟩
        have s4 := s3.trans (same_upd (o := .tup [.ref c3]) i4)
        have e3' := same_upd (o := .tup [.ref c3]) i4 _ _ e3
        have e4 := upd_same (H := G3) (a := c4) (o := .tup [.ref c3])
        generalize upd G3 c4 (.tup [.ref c3]) = G4 at s4 e3' e4 ⊢
        refine catA_all (s4 _ _ e1) e4 (by show (cutV X none (some (-1))).length + 1 ≤ sizeLine; exact big (by omega)) fun c5 G5 e5 s5 => ?_
        have S5 := (s1.trans s4).trans s5
        refine fin c5 _ _ S5 e5 (by rw [List.length_append]; show (cutV X none (some (-1))).length + 1 ≤ L + 1; omega) fun z hz => ?_
        rcases List.mem_append.mp hz with h | h
        · exact .inl (cutV_mem h)
        · rw [List.mem_singleton.mp h]
          refine .inr (.tup (s5 _ _ e3') (by have := cutV_len zs (some 1) none; omega) (by omega) fun x hx => ?_)
          exact (hz1 x (cutV_mem hx)).kp (Kp.same S5)
    -- the rest
    rintro σ H' ⟨rfl, rfl⟩
    refine ⟨_, rfl, _, rfl, _, rfl, slA_all hst23 fun c1 G1 e1 s1 => ⟨_, rfl, by show 1 ≤ sizeLine; decide, fun c4 i4 => ?_⟩⟩
    have s4 := s1.trans (same_upd (o := .tup [item]) i4)
    have e1' := same_upd (o := .tup [item]) i4 _ _ e1
    have e4 := upd_same (H := G1) (a := c4) (o := .tup [item])
    generalize upd G1 c4 (.tup [item]) = G4 at s4 e1' e4 ⊢
    refine catA_all e1' e4 (by show (cutV X none (some (-1))).length + 1 ≤ sizeLine; exact big (by omega)) fun c5 G5 e5 s5 => ?_
    have S5 := s4.trans s5
    refine fin c5 _ _ S5 e5 (by rw [List.length_append]; show (cutV X none (some (-1))).length + 1 ≤ L + 1; omega) fun z hz => ?_
    rcases List.mem_append.mp hz with h | h
    · exact .inl (cutV_mem h)
    · rw [List.mem_singleton.mp h]
      exact .inr (item23.kp (Kp.same S5))
end
/-! ### more steps than may be, and one step spoiled -/
theorem perm_ex13 {α β : Type} {f : α → β} : ∀ {ys zs : List β}, ys.Perm zs → ∀ xs : List α, zs = xs.map f → ∃ ws : List α, ws.Perm xs ∧ ys = ws.map f := by
  intro ys zs h
  induction h with
  | nil =>
    intro xs e
    cases xs with
    | nil => exact ⟨[], .refl _, rfl⟩
    | cons a b => cases e
  | cons x _ ih =>
    intro xs e
    cases xs with
    | nil => cases e
    | cons a b =>
      rw [List.map_cons] at e
      obtain ⟨e1, e2⟩ := List.cons.inj e
      obtain ⟨ws, p, e3⟩ := ih b e2
      exact ⟨a :: ws, p.cons a, by rw [List.map_cons, e1, e3]⟩
  | swap x y l =>
    intro xs e
    cases xs with
    | nil => cases e
    | cons a b =>
      cases b with
      | nil => rw [List.map_cons] at e; cases (List.cons.inj e).2
      | cons c d =>
        rw [List.map_cons, List.map_cons] at e
        obtain ⟨e1, e2⟩ := List.cons.inj e
        obtain ⟨e3, e4⟩ := List.cons.inj e2
        exact ⟨c :: a :: d, List.Perm.swap a c d, by rw [List.map_cons, List.map_cons, e1, e3, e4]⟩
  | trans _ _ ih1 ih2 =>
    intro xs e
    obtain ⟨ws, p, e2⟩ := ih2 xs e
    obtain ⟨vs, p2, e3⟩ := ih1 ws e2
    exact ⟨vs, p2.trans p, e3⟩
theorem DctAt.keysX {H : Hp} {t : Addr} {kvs : List (Key × V)} {names : List Str} (h : DctAt H t kvs) (hk : kvs.map (·.1) = names.map Sum.inr) : ∃ (kd : List (Key × V)) (zs : List Str), H t = some (.dK kd) ∧ kd.map (fun kv => kV kv.1) = zs.map V.str ∧ zs.Perm names := by
  obtain ⟨kd, e, p⟩ := h
  have p1 := p.map (·.1)
  rw [hk] at p1
  obtain ⟨zs, z1, z2⟩ := perm_ex13 p1 names rfl
  exact ⟨kd, zs, e, kd_names z2, z1⟩
/-- all stands but the pool and the list of steps -/
def ChS (p S : Addr) (H H' : Hp) : Prop := PoolAt H' p ∧ ∀ b o, b ≠ p → b ≠ S → H b = some o → H' b = some o
theorem ChS.refl {p S : Addr} {H : Hp} (h : PoolAt H p) : ChS p S H H := ⟨h, fun _ _ _ _ e => e⟩
theorem ChS.trans {p S : Addr} {H H1 H2 : Hp} (x : ChS p S H H1) (y : ChS p S H1 H2) : ChS p S H H2 := ⟨y.1, fun b o n m e => y.2 b o n m (x.2 b o n m e)⟩
theorem Chg.chs {p S : Addr} {H H' : Hp} (c : Chg p H H') : ChS p S H H' := ⟨c.1, fun b o n _ e => c.2 b o n e⟩
theorem ChS.chg {p S : Addr} {H H1 H2 : Hp} (x : ChS p S H H1) (c : Chg p H1 H2) : ChS p S H H2 := x.trans c.chs
theorem ChS.same {p S : Addr} {H H1 H2 : Hp} (x : ChS p S H H1) (s : Same H1 H2) : ChS p S H H2 := x.trans ⟨x.1.same s, fun b o _ _ e => s b o e⟩
theorem pool_upd {p S : Addr} {H : Hp} {o : HO} (h : PoolAt H p) (n : S ≠ p) : PoolAt (upd H S o) p := by
  obtain ⟨p0, p1, p2, p3, r, e, c⟩ := h
  exact ⟨p0, p1, p2, p3, r, by rw [upd_ne n.symm]; exact e, c⟩
theorem ChS.upd {p S : Addr} {H H1 : Hp} {o : HO} (x : ChS p S H H1) (n : S ≠ p) : ChS p S H (upd H1 S o) := ⟨pool_upd x.1 n, fun b u nb nS e => by
  rw [upd_ne nS]
  exact x.2 b u nb nS e⟩
theorem ChS.tup {p S : Addr} {H H' : Hp} {xs : List V} (hP : PoolAt H p) (hS : H S = some (.lst xs)) (x : ChS p S H H') : ∀ b ys, H b = some (.tup ys) → H' b = some (.tup ys) := fun b ys e => x.2 b _ (pool_ne hP e (by intro _ z; cases z)) (fun z => by
  rw [z, hS] at e
  cases e) e
theorem ChS.dct {p S t : Addr} {H H' : Hp} {xs : List V} {kvs : List (Key × V)} (hP : PoolAt H p) (hS : H S = some (.lst xs)) (x : ChS p S H H') (h : DctAt H t kvs) : DctAt H' t kvs := by
  obtain ⟨ks, e, q⟩ := h
  exact ⟨ks, x.2 t _ (pool_ne hP e (by intro _ z; cases z)) (fun z => by
    rw [z, hS] at e
    cases e) e, q⟩
theorem Kp.chs {p S : Addr} {H H' : Hp} {xs ys : List V} (hP : PoolAt H p) (hS : H S = some (.lst xs)) (hS' : H' S = some (.lst ys)) (x : ChS p S H H') : Kp H H' := ⟨x.tup hP hS, fun b zs e => by
  by_cases n : b = p
  · obtain ⟨p0, p1, p2, p3, r, e', c⟩ := x.1
    exact ⟨_, by rw [n]; exact e'⟩
  · by_cases m : b = S
    · exact ⟨ys, by rw [m]; exact hS'⟩
    · exact ⟨zs, x.2 b _ n m e⟩⟩
theorem Kp.lstS {H : Hp} {S : Addr} {xs ys : List V} (hS : H S = some (.lst xs)) : Kp H (upd H S (.lst ys)) := ⟨upd_tup hS (by intro _ z; cases z), fun b zs e => by
  by_cases m : b = S
  · exact ⟨ys, by rw [m]; exact upd_same⟩
  · exact ⟨zs, by rw [upd_ne m]; exact e⟩⟩
theorem at_lst {α : Type} {r : List α} {x : α} : atI (r ++ [x]) (-1) = some x := by
  unfold atI
  have e : ixN (r ++ [x]).length (-1) = some r.length := by
    rw [List.length_append]
    unfold ixN
    rw [if_neg (by decide), if_pos (by show -(((r.length + 1 : Nat)) : Int) ≤ -1; omega)]
    congr 1
    show ((-1 : Int) + ((r.length + 1 : Nat) : Int)).toNat = r.length
    omega
  rw [e]
  show (r ++ [x])[r.length]? = some x
  rw [List.getElem?_append_right (Nat.le_refl _), Nat.sub_self]
  rfl
section
variable {P : Program} {w : World} {K : PySem.W.Frag} {mg : Str → Option Value} {base : Heap} {a : Nat → Addr} {d : Nat → FuncData}
def spLMore : Sp := fun vs H Q _ => ∃ (p S v g : Addr) (xs r : List V) (y0 y1 : V) (ys : List V) (L : Nat) (ts : List (Str × Int)) (ks : List KeyE) (ss : List SvE) (n : Nat), vs = [.ref p, .ref S, .ref v] ∧ PoolAt H p ∧ H S = some (.lst xs) ∧ S ≠ p ∧ xs = r ++ [.ref g] ∧ H g = some (.tup (y0 :: y1 :: ys)) ∧ T2 H L y1 ∧ DctAt H v (svK ss) ∧ Svcs H ts ks ss n ∧ 1 ≤ n ∧ n ≤ 8 ∧ xs.length ≤ 100 ∧ 5 ≤ L ∧ L ≤ 90 ∧ (∀ x ∈ xs, TL H L x) ∧
  ∀ xs' H', H' S = some (.lst xs') → xs' ≠ [] → xs'.length ≤ xs.length + 6 → (∀ x ∈ xs', TL H' L x) → ChS p S H H' → Q .non H'
theorem ok_lmore (T : Txt K mg a d) : FnOk P w K mg base CX0 5 (a 68) (d 68) ["_law_pool_here", "_law_steps_here", "_law_services_here"] spLMore := by
  have G51 : FnOk P w K mg base CX0 2 (a 51) (d 51) ["_law_pool_here", "_law_many"] spDraw := ok_draw T
  have G53 : FnOk P w K mg base CX0 4 (a 53) (d 53) ["_law_pool_here", "_law_many"] spNames := ok_names T
  have G60 : FnOk P w K mg base CX0 3 (a 60) (d 60) ["_law_pool_here", "_law_row"] spPick := ok_pick T
  refine T.F68.ok sc__law_more (fun vs H Q E h => ?_) (fun cdv A outer s H vs Q E hr h => ?_)
  · obtain ⟨p, S, v, g, xs, r, y0, y1, ys, L, ts, ks, ss, n, rfl, _⟩ := h
    rfl
  · obtain ⟨p, S, v, g, xs, r, y0, y1, ys, L, ts, ks, ss, n, rfl, hP, hS, nS, exs, hg, hy1, hv, hSv, n1, n8, x100, L5, L90, hx, q⟩ := h
    have lss : ss.length = n := by rw [← hSv.nm.len, List.length_map]
    refine ⟨_, (pss_cons (ps_set (i := 3) sc__law_more.nd rfl (.inl rfl) (pe_ix ix_tup (pe_ix ix_list (pv 1) (pe_un un_neg pe_int) (fun _ _ => rfl)) pe_int (fun _ _ => rfl)))
  (pss_cons (ps_set (i := 4) sc__law_more.nd rfl (.inl rfl) (pe_call G51 (hr.mono (by decide)) (by rfl) T.g51 T.F51.kp T.b51 .nil pass0 (pa_cons (pv 0) (pa_cons pe_int pa_nil))))
  (pss_cons (ps_set (i := 5) sc__law_more.nd rfl (.inl rfl) (pe_call G60 (hr.mono (by decide)) (by rfl) T.g60 T.F60.kp T.b60 .nil pass0 (pa_cons (pv 0) (pa_cons (pe_callTy (T := "list")  (call_listD rfl) (by rfl) T.z_list (by decide +kernel) (pa_cons (pv 2) pa_nil)) pa_nil))))
  (pss_cons (ps_set (i := 6) sc__law_more.nd rfl (.inl rfl) (pe_call G53 (hr.mono (by decide)) (by rfl) T.g53 T.F53.kp T.b53 .nil pass0 (pa_cons (pv 0) (pa_cons pe_int pa_nil))))
  (pss_one (ps_for PassesOwn.never rfl (pi_range1 (by rfl) T.z_range (pa_cons (pe_op op_add pe_int (pe_call G51 (hr.mono (by decide)) (by rfl) T.g51 T.F51.kp T.b51 .nil pass0 (pa_cons (pv 0) (pa_cons pe_int pa_nil)))) pa_nil)) (pg_name (i := 7) sc__law_more.nd rfl (.inl rfl))
    (pss_cons (ps_set (i := 8) sc__law_more.nd rfl (.inl rfl) (pe_ix ix_list (pe_lst (pa_cons (pe_tup (pa_cons pe_str (pa_cons (pe_ix ix_list (pv 6) (pv 7) (fun _ _ => rfl)) (pa_cons (pv 3) (pa_cons (pv 3) pa_nil))))) (pa_cons (pe_tup (pa_cons pe_str (pa_cons (pe_ix ix_list (pv 6) (pv 7) (fun _ _ => rfl)) (pa_cons (pv 3) (pa_cons (pv 3) pa_nil))))) (pa_cons (pe_tup (pa_cons pe_str (pa_cons (pe_ix ix_list (pv 6) (pv 7) (fun _ _ => rfl)) (pa_cons (pv 3) (pa_cons (pe_tup pa_nil) pa_nil))))) pa_nil)))) (pe_op op_mod (pv 4) pe_int) (fun _ _ => rfl)))
      (Evl.pss_cut (ps_if (pt_cmpR op_eq (pv 4) pe_int (nomark _))
        (pss_one (ps_set (i := 8) sc__law_more.nd rfl (.inl rfl) (pe_tup (pa_cons pe_str (pa_cons (pe_ix ix_list (pv 6) (pv 7) (fun _ _ => rfl)) (pa_cons (pv 3) (pa_cons (pv 5) (pa_cons (pe_callTy (T := "tuple")  call_tuple_of (by rfl) T.z_tuple (by decide +kernel) (pa_cons (pe_lc (own := [("_law_at", 9)]) rfl sc__law_more.nd (pi_tup (pe_ix ix_tup (pe_dget (hu_of hr) (pv 2) (pv 5) (fun _ _ => rfl)) pe_int (fun _ _ => rfl))) (blkOk_by (N := ["_law_pool_here", "_law_steps_here", "_law_services_here", "_law_last", "_law_kind", "_law_service", "_law_names_here", "_law_k", "_law_step", "_law_at"]) (sc := defScope s__law_more) (by decide +kernel)) (fun _ _ _ _ _ => pg_name (i := 9) sc__law_more.nd rfl (.inl rfl)) (fun _ _ _ _ _ => pts_nil) (fun _ _ _ _ _ => (pe_tup (pa_cons pe_str pa_nil)))) pa_nil)) pa_nil))))))))
        pss_nil)
      (pss_cons (ps_expr (pe_bm PySem.F.plainAttrs_list PySem.F.slot_list_append PySem.F.type_list_append mt_append (pv 1) (pa_cons (pv 8) pa_nil)))
      (pss_one (ps_set (i := 3) sc__law_more.nd rfl (.inl rfl) (pe_ix ix_list (pv 6) (pv 7) (fun _ _ => rfl))))))))))))), ?_⟩
    refine ⟨_, rfl, _, rfl, _, _, _, _, rfl, rfl, .of hS, (by rw [exs]; exact at_lst), _, _, _, _, rfl, rfl, .of hg, atI_nat (j := 1) rfl, ?_⟩
    refine ⟨_, rfl, p, _, rfl, hP, by decide, by decide, fun kd H1 kd0 kd4 C1 => ?_⟩
    have hv1 := hv.chg hP C1
    have hS1 := C1.at nS hS
    obtain ⟨kv, zs, ekd, ezs, pz⟩ := hv1.keysX (keys_sv ss)
    have lz : zs.length = n := by rw [pz.length_eq, List.length_map, lss]
    refine ⟨_, rfl, _, rfl, v, kv, rfl, .inl ekd, fun l hl => ?_⟩
    rw [ezs]
    have sl := same_upd (o := .lst (zs.map V.str)) hl
    have C2 := C1.new (o := .lst (zs.map V.str)) hl
    refine ⟨p, l, zs.map V.str, rfl, C2.1, upd_same, pool_ne' C1.1 hl, by rw [List.length_map]; omega, by rw [List.length_map]; omega, fun x H3 hx3 C3' => ?_⟩
    obtain ⟨nm, hnm, rfl⟩ := List.mem_map.mp hx3
    obtain ⟨b, hb, rfl⟩ := List.mem_map.mp (pz.mem_iff.mp hnm)
    have C3 := C2.trans C3'
    refine ⟨_, rfl, p, 7, rfl, C3.1, by decide, fun nl ns H4 nl0 hnl hns C4' => ?_⟩
    have C4 := C3.trans C4'
    have nl0' : H nl = none := free_of C3 hP nl0
    have nnl : nl ≠ p := pool_ne' hP nl0'
    have nlS : nl ≠ S := (ne_of_none hS nl0').symm
    have hS4 := C4.at nS hS
    have y14 : T2 H4 L y1 := hy1.kp (Kp.chg hP C4)
    have x4 : ∀ x ∈ xs, TL H4 L x := fun x h => (hx x h).kp (Kp.chg hP C4)
    generalize hσ9 : List.set _ 5 _ = σ9
    have hh9 : σ9 = [some (V.ref p), some (.ref S), some (.ref v), some y1, some (.int kd), some (.str b.name), none, none, none, none] := by rw [← hσ9]; rfl
    clear hσ9
    subst hh9
    refine ⟨_, rfl, p, 6, rfl, C4.1, by decide, by decide, fun rr H5 r0 r6 C5' => ?_⟩
    have C5 := C4.trans C5'
    refine ⟨_, _, rfl, rfl, _, rfl, by omega, by omega, ?_⟩
    refine for_range (lo := 0) (n := (1 + rr).toNat) (fun i σ H' => ∃ (us : List V) (last : V) (y7 y8 y9 : Option V), σ = [some (V.ref p), some (.ref S), some (.ref v), some last, some (.int kd), some (.str b.name), some (.ref nl), y7, y8, y9] ∧ H' nl = some (.lst (ns.map V.str)) ∧ H' S = some (.lst us) ∧ us ≠ [] ∧ us.length ≤ xs.length + i ∧ (∀ x ∈ us, TL H' L x) ∧ T2 H' L last ∧ ChS p S H H') ⟨xs, y1, none, none, none, rfl, C5'.at nnl hnl, C5'.at nS hS4, ?_, Nat.le_refl _, fun x h => (x4 x h).kp (Kp.chg C4.1 C5'), y14.kp (Kp.chg C4.1 C5'), C5.chs⟩ (fun i σ H' hi hp => ?_) (fun σ H' hp => ?_)
    · rw [exs]
      simp
    · obtain ⟨us, last, y7, y8, y9, rfl, hnl', hS', une, ul, hu, hlast, C⟩ := hp
      have i6 : i < 6 := by omega
      obtain ⟨nm, hnm'⟩ : ∃ nm, ns[i]? = some nm := ⟨_, List.getElem?_eq_getElem (by rw [hns.len]; omega)⟩
      have hnmw : Wd nm := hns.wd nm (List.mem_of_getElem? hnm')
      have gnm : atI (ns.map V.str) (0 + (i : Int)) = some (.str nm) := at_g (j := i) (by omega) (by rw [List.getElem?_map, hnm']; rfl)
      refine ⟨_, rfl, _, rfl, _, _, _, _, rfl, rfl, .of hnl', gnm, _, rfl, _, rfl, by show 4 ≤ sizeLine; decide, fun x1 h1 => ?_⟩
      have s1 := same_upd (o := .tup [.str "both", .str nm, last, last]) h1
      have e1 := upd_same (H := H') (a := x1) (o := .tup [.str "both", .str nm, last, last])
      generalize upd H' x1 (.tup [.str "both", .str nm, last, last]) = G1 at s1 e1 ⊢
      refine ⟨_, rfl, _, rfl, _, _, _, _, rfl, rfl, .of (s1 _ _ hnl'), gnm, _, rfl, _, rfl, by show 4 ≤ sizeLine; decide, fun x2 h2 => ?_⟩
      have s2 := same_upd (o := .tup [.str "pair", .str nm, last, last]) h2
      have e2 := upd_same (H := G1) (a := x2) (o := .tup [.str "pair", .str nm, last, last])
      generalize upd G1 x2 (.tup [.str "pair", .str nm, last, last]) = G2 at s2 e2 ⊢
      refine ⟨_, rfl, _, rfl, _, _, _, _, rfl, rfl, .of (s2 _ _ (s1 _ _ hnl')), gnm, _, rfl, Nat.zero_le _, fun x3 h3 => ⟨by show 4 ≤ sizeLine; decide, fun x4 h4 => ⟨by show 3 ≤ sizeLine; decide, fun x5 h5 => ?_⟩⟩⟩
      have s3 := same_upd (o := .tup []) h3
      have e3 := upd_same (H := G2) (a := x3) (o := .tup [])
      generalize upd G2 x3 (.tup []) = G3 at s3 e3 h4 h5 ⊢
      have s4 := same_upd (o := .tup [.str "take", .str nm, last, .ref x3]) h4
      have e4 := upd_same (H := G3) (a := x4) (o := .tup [.str "take", .str nm, last, .ref x3])
      generalize upd G3 x4 (.tup [.str "take", .str nm, last, .ref x3]) = G4 at s4 e4 h5 ⊢
      have s5 := same_upd (o := .lst [.ref x1, .ref x2, .ref x4]) h5
      have e5 := upd_same (H := G4) (a := x5) (o := .lst [.ref x1, .ref x2, .ref x4])
      generalize upd G4 x5 (.lst [.ref x1, .ref x2, .ref x4]) = G5 at s5 e5 ⊢
      have S5 := (((s1.trans s2).trans s3).trans s4).trans s5
      have low1 : ∀ s ∈ (["both", "pair", "take", "call", "a"] : List Str), s.length ≤ 1000 ∧ Low s := by
        have h : ((["both", "pair", "take", "call", "a"] : List Str).all fun s => decide (s.length ≤ 1000) && s.cps.toList.all fun c => decide (c < 128)) = true := by decide +kernel
        intro s hs
        have := List.all_eq_true.mp h s hs
        rw [Bool.and_eq_true] at this
        exact ⟨of_decide_eq_true this.1, fun c hc => of_decide_eq_true (List.all_eq_true.mp this.2 c hc)⟩
      have ts : ∀ (G : Hp) (s : Str), s ∈ (["both", "pair", "take", "call", "a"] : List Str) → T2 G L (.str s) := fun G s h => t2s G _ (low1 s h).1 (low1 s h).2
      have hl5 := hlast.kp (Kp.same S5)
      have jn : ∀ (k : Str) (x : Addr), k ∈ (["both", "pair", "take", "call", "a"] : List Str) → G5 x = some (.tup [.str k, .str nm, last, last]) → TL G5 L (.ref x) := fun k x hk hx => .tup hx (by show 4 ≤ L; omega) fun z hz => by
        simp only [List.mem_cons, List.not_mem_nil, or_false] at hz
        rcases hz with rfl | rfl | rfl | rfl
        · exact ts _ _ hk
        · exact t2w _ _ hnmw
        · exact hl5
        · exact hl5
      obtain ⟨st, hst, hstL⟩ : ∃ st : V, atI [V.ref x1, .ref x2, .ref x4] (kd % 3) = some st ∧ TL G5 L st := by
        have : kd % 3 = 0 ∨ kd % 3 = 1 ∨ kd % 3 = 2 := by omega
        rcases this with e | e | e <;> rw [e]
        · exact ⟨_, rfl, jn "both" x1 (by simp) (((((s2.trans s3).trans s4).trans s5)) _ _ e1)⟩
        · exact ⟨_, rfl, jn "pair" x2 (by simp) (((s3.trans s4).trans s5) _ _ e2)⟩
        · refine ⟨_, rfl, .tup (s5 _ _ e4) (by show 4 ≤ L; omega) fun z hz => ?_⟩
          simp only [List.mem_cons, List.not_mem_nil, or_false] at hz
          rcases hz with rfl | rfl | rfl | rfl
          · exact ts _ _ (by simp)
          · exact t2w _ _ hnmw
          · exact hl5
          · exact .tup ((s4.trans s5) _ _ e3) (Nat.zero_le _) (by omega) fun x hx => by cases hx
      refine ⟨_, rfl, _, _, rfl, rfl, (by show (0 : Int) < 3; decide), _, _, _, _, rfl, rfl, .of e5, hst, ?_⟩
      have C5n := C.same S5
      have hnl5 := S5 _ _ hnl'
      have hS5 := S5 _ _ hS'
      have hu5 : ∀ x ∈ us, TL G5 L x := fun x h => (hu x h).kp (Kp.same S5)
      clear jn e1 e2 e3 e4 e5 s1 s2 s3 s4 s5 h1 h2 h3 h4 h5 hst
      refine ⟨fun σ' G => ∃ (st' : V) (y9' : Option V), σ' = [some (V.ref p), some (.ref S), some (.ref v), some last, some (.int kd), some (.str b.name), some (.ref nl), some (.int (0 + (i : Int))), some st', y9'] ∧ G nl = some (.lst (ns.map V.str)) ∧ G S = some (.lst us) ∧ (∀ x ∈ us, TL G L x) ∧ TL G L st' ∧ ChS p S H G, ?_, ?_⟩
      · refine ⟨_, rfl, rfl, _, rfl, ite_eqI (fun _ => ?_) (fun _ => ⟨st, y9, rfl, hnl5, hS5, hu5, hstL, C5n⟩)⟩
        have hSv5 := hSv.mono (C5n.tup hP hS)
        obtain ⟨told, ⟨wd, hw, hcols, hcl⟩, hcap⟩ := hSv5.ok b hb
        refine ⟨_, rfl, _, rfl, _, _, _, _, rfl, rfl, .of hnl5, gnm, _, rfl, _, rfl, ?_⟩
        refine ⟨_, rfl, _, rfl, v, _, rfl, (C5n.dct hP hS hv).at_ (sv_nd hSv5) (sv_val hSv5 hb), _, _, _, _, rfl, rfl, .of told.tup, atI_nat (j := 1) rfl, b.ga, rfl, ⟨_, .of told.cols⟩, fun D hD => ?_⟩
        refine lc_tup (K := K) (a := b.ga) (xs := b.cols.map V.int) (fun i H' => ∃ acc : List V, H' D = some (.lst acc) ∧ acc.length = i ∧ (∀ x ∈ acc, Th1 H' x) ∧ Same G5 H') ⟨[], upd_same, rfl, (fun x h => by cases h), same_upd hD⟩ (fun i H' _ hp => ?_) (fun i y H' hy hp => ?_) (fun H' hp => ?_)
        · obtain ⟨acc, _, _, _, sm⟩ := hp
          exact .of (sm _ _ told.cols)
        · obtain ⟨acc, h1, h2, h3, sm⟩ := hp
          have li : i < b.cols.length := by
            have := (List.getElem?_eq_some_iff.mp hy).1
            rw [List.length_map] at this
            exact this
          refine ⟨rfl, by show 1 ≤ sizeLine; decide, fun x hx => ?_⟩
          have sx := same_upd (o := .tup [.str "a"]) hx
          have ex := upd_same (H := H') (a := x) (o := .tup [.str "a"])
          generalize upd H' x (.tup [.str "a"]) = H6 at sx ex ⊢
          have hD6 := sx _ _ h1
          have KK := Kp.lstS (ys := acc ++ [.ref x]) hD6
          refine ⟨acc, hD6, small1000 (by omega), acc ++ [.ref x], upd_same, by rw [List.length_append, h2]; rfl, fun z hz => ?_, same_mut (sm.trans sx) hD⟩
          rcases List.mem_append.mp hz with h | h
          · exact ((h3 z h).kp (Kp.same sx)).kp KK
          · rw [List.mem_singleton.mp h]
            exact .tup (KK.tup _ _ ex) (by show 1 ≤ 100; decide) fun u hu => by
              rw [List.mem_singleton.mp hu]
              exact .str _ (low1 "a" (by simp)).1 (low1 "a" (by simp)).2
        · obtain ⟨acc, h1, h2, h3, sm⟩ := hp
          rw [List.length_map] at h2
          refine ⟨D, _, rfl, .inl ⟨.of h1, fun c hc => ?_⟩⟩
          have sc := sm.trans (same_upd (o := .tup acc) hc)
          have kc := Kp.same (same_upd (o := .tup acc) hc)
          have ec := upd_same (H := H') (a := c) (o := .tup acc)
          generalize upd H' c (.tup acc) = H6 at sc kc ec ⊢
          refine ⟨by show 5 ≤ sizeLine; decide, fun e he => ?_⟩
          have se := sc.trans (same_upd (o := .tup [.str "call", .str nm, last, .str b.name, .ref c]) he)
          have ke := kc.trans (Kp.same (same_upd (o := .tup [.str "call", .str nm, last, .str b.name, .ref c]) he))
          have ec' := same_upd (o := .tup [.str "call", .str nm, last, .str b.name, .ref c]) he _ _ ec
          have ee := upd_same (H := H6) (a := e) (o := .tup [.str "call", .str nm, last, .str b.name, .ref c])
          generalize upd H6 e (.tup [.str "call", .str nm, last, .str b.name, .ref c]) = H7 at se ke ec' ee ⊢
          refine ⟨.ref e, _, rfl, se _ _ hnl5, se _ _ hS5, fun x h => (hu5 x h).kp (Kp.same se), .tup ee (by show 5 ≤ L; omega) fun z hz => ?_, C5n.same se⟩
          simp only [List.mem_cons, List.not_mem_nil, or_false] at hz
          rcases hz with rfl | rfl | rfl | rfl | rfl
          · exact ts _ _ (by simp)
          · exact t2w _ _ hnmw
          · exact hl5.kp (Kp.same se)
          · exact t2w _ _ (hSv.nm.wd _ (List.mem_map.mpr ⟨b, hb, rfl⟩))
          · exact .tup ec' (by omega) (by omega) fun x hx => (h3 x hx).kp ke
      rintro σ' G ⟨st', y9', rfl, hnlG, hSG, huG, hstG, CG⟩
      have nst : ∀ z, G S ≠ some (.tup z) := fun z e => by rw [hSG] at e; cases e
      refine ⟨_, rfl, .inl ⟨rfl, _, .of hSG⟩, _, rfl, S, _, _, rfl, rfl, hSG, small1000 (by omega), ?_⟩
      have KG := Kp.lstS (ys := us ++ [st']) hSG
      have hnlK : upd G S (.lst (us ++ [st'])) nl = some (.lst (ns.map V.str)) := by rw [upd_ne nlS]; exact hnlG
      refine ⟨_, rfl, _, rfl, _, _, _, _, rfl, rfl, .of hnlK, gnm, us ++ [st'], .str nm, _, _, _, rfl, hnlK, upd_same, by simp, by rw [List.length_append]; show us.length + 1 ≤ xs.length + (i + 1); omega, fun x hx => ?_, t2w _ _ hnmw, CG.upd nS⟩
      rcases List.mem_append.mp hx with h | h
      · exact (huG x h).kp KG
      · rw [List.mem_singleton.mp h]
        exact hstG.kp KG
    · obtain ⟨us, last, y7, y8, y9, rfl, hnl', hS', une, ul, hu, hlast, C⟩ := hp
      exact q us _ hS' une (by omega) hu C
end
theorem later1 {B : Hp → Prop} {C : Hp → Prop} {G : Prop} (f : (∀ H, C H → B H) → G) (b : ∀ H, C H → B H) : G := f b
theorem iteB {c : Bool} {A B : Prop} (hB : c = false → B) (hA : c = true → A) : if c = true then A else B := by
  cases c with
  | true => rw [if_pos rfl]; exact hA rfl
  | false => rw [if_neg (by decide)]; exact hB rfl
theorem iteIB {i j : Int} {A B : Prop} (h2 : i ≠ j → B) (h1 : i = j → A) : if decide (V.int i = V.int j) = true then A else B := ite_eqI h1 h2
theorem iteDB {p A B : Prop} [Decidable p] (h2 : ¬ p → B) (h1 : p → A) : if decide p = true then A else B := ite_d h1 h2
section
variable {P : Program} {w : World} {K : PySem.W.Frag} {mg : Str → Option Value} {base : Heap} {a : Nat → Addr} {d : Nat → FuncData}
def spLSpoil : Sp := fun vs H Q _ => ∃ (p S v : Addr) (xs : List V) (L : Nat) (ts : List (Str × Int)) (ks : List KeyE) (ss : List SvE) (n : Nat), vs = [.ref p, .ref S, .ref v] ∧ PoolAt H p ∧ H S = some (.lst xs) ∧ S ≠ p ∧ xs ≠ [] ∧ DctAt H v (svK ss) ∧ Svcs H ts ks ss n ∧ 1 ≤ n ∧ n ≤ 8 ∧ xs.length ≤ 90 ∧ 5 ≤ L ∧ L ≤ 90 ∧ (∀ x ∈ xs, TL H L x) ∧
  ∀ xs' H', H' S = some (.lst xs') → xs'.length ≤ xs.length + 6 → (∀ x ∈ xs', TL H' (L + 1) x) → ChS p S H H' → Q .non H'
theorem ok_lspoil (T : Txt K mg a d) : FnOk P w K mg base CX0 6 (a 69) (d 69) ["_law_pool_here", "_law_steps_here", "_law_services_here"] spLSpoil := by
  have G51 : FnOk P w K mg base CX0 2 (a 51) (d 51) ["_law_pool_here", "_law_many"] spDraw := ok_draw T
  have G67 : FnOk P w K mg base CX0 4 (a 67) (d 67) ["_law_pool_here", "_law_step", "_law_names_here"] spLWrong := ok_lwrong T
  have G68 : FnOk P w K mg base CX0 5 (a 68) (d 68) ["_law_pool_here", "_law_steps_here", "_law_services_here"] spLMore := ok_lmore T
  refine T.F69.ok sc__law_spoil (fun vs H Q E h => ?_) (fun cdv A outer s H vs Q E hr h => ?_)
  · obtain ⟨p, S, v, xs, L, ts, ks, ss, n, rfl, _⟩ := h
    rfl
  · obtain ⟨p, S, v, xs, L, ts, ks, ss, n, rfl, hP, hS, nS, xne, hv, hSv, n1, n8, x90, L5, L90, hx, q⟩ := h
    obtain ⟨r, x, exs⟩ : ∃ r x, xs = r ++ [x] := by
      rcases List.eq_nil_or_concat xs with h | ⟨r, x, h⟩
      · exact absurd h xne
      · exact ⟨r, x, by rw [h, List.concat_eq_append]⟩
    have hat : atI xs (-1) = some x := by rw [exs]; exact at_lst
    have hxm : x ∈ xs := by rw [exs]; simp
    refine ⟨_, (pss_cons (ps_set (i := 3) sc__law_spoil.nd rfl (.inl rfl) (pe_call G51 (hr.mono (by decide)) (by rfl) T.g51 T.F51.kp T.b51 .nil pass0 (pa_cons (pv 0) (pa_cons pe_int pa_nil))))
  (pss_one (ps_if (PW.pt (pw_and (pt_cmpR op_eq (pv 3) pe_int (nomark _)) (pw_and (pt_val (pe_callB (id := "isinstance")  call_isi (by rfl) T.z_isinstance (by decide +kernel) (pa_cons (pe_ix ix_list (pv 1) (pe_un un_neg pe_int) (fun _ _ => rfl)) (pa_cons (pe_bltn (v := .ty "tuple") (by rfl) T.z_tuple (by decide +kernel) rfl) pa_nil)))) (pw_and1 (pt_cmpR op_gt (pe_callB (id := "len")  call_len_seq (by rfl) T.z_len (by decide +kernel) (pa_cons (pe_ix ix_list (pv 1) (pe_un un_neg pe_int) (fun _ _ => rfl)) pa_nil)) pe_int (nomark _))))))
    (pss_one (ps_expr (pe_call G68 (hr.mono (by decide)) (by rfl) T.g68 T.F68.kp T.b68 .nil pass0 (pa_cons (pv 0) (pa_cons (pv 1) (pa_cons (pv 2) pa_nil))))))
    (pss_one (ps_if (PW.pt (pw_and (pt_cmpR op_eq (pv 3) pe_int (nomark _)) (pw_and1 (pt_cmpR op_eq (pe_call G51 (hr.mono (by decide)) (by rfl) T.g51 T.F51.kp T.b51 .nil pass0 (pa_cons (pv 0) (pa_cons pe_int pa_nil))) pe_int (nomark _)))))
        (pss_one (ps_expr (pe_bm0 PySem.F.plainAttrs_list PySem.F.slot_list_clear PySem.F.type_list_clear mt_clear (pv 1))))
        (pss_cons (ps_set (i := 4) sc__law_spoil.nd rfl (.inl rfl) (pe_call G51 (hr.mono (by decide)) (by rfl) T.g51 T.F51.kp T.b51 .nil pass0 (pa_cons (pv 0) (pa_cons (pe_callB (id := "len")  call_len_seq (by rfl) T.z_len (by decide +kernel) (pa_cons (pv 1) pa_nil)) pa_nil))))
          (pss_cons (ps_setLc (i := 5) (own := [("_law_step", 6)]) rfl sc__law_spoil.nd rfl rfl (sw_true rfl rfl rfl (by decide +kernel)) (pi_list (pv 1)) (blkOk_by (N := ["_law_pool_here", "_law_steps_here", "_law_services_here", "_law_kind", "_law_at", "_law_names_here", "_law_step"]) (sc := defScope s__law_spoil) (by decide +kernel)) (fun _ _ _ _ _ => pg_name (i := 6) sc__law_spoil.nd rfl (.inl rfl)) (fun _ _ _ _ _ => (pts_one (PW.pt (pw_and (pt_val (pe_callB (id := "isinstance") (r := rIsi K)  call_isi (by rfl) T.z_isinstance (by decide +kernel) (pa_cons (pv 6) (pa_cons (pe_bltn (v := .ty "tuple") (by rfl) T.z_tuple (by decide +kernel) rfl) pa_nil)))) (pw_and1 (pt_cmpR op_gt (pe_callB (id := "len") (r := Evl.rLenS K)  call_len_seq (by rfl) T.z_len (by decide +kernel) (pa_cons (pv 6) pa_nil)) pe_int (nomark _))))))) (fun _ _ _ _ _ => (pe_ix (r := rIxT K) ix_tup (pv 6) pe_int (fun _ _ => rfl))))
          (pss_one (ps_if (PW.pt (pw_and (pt_val (pe_callB (id := "isinstance")  call_isi (by rfl) T.z_isinstance (by decide +kernel) (pa_cons (pe_ix ix_list (pv 1) (pv 4) (fun _ _ => rfl)) (pa_cons (pe_bltn (v := .ty "tuple") (by rfl) T.z_tuple (by decide +kernel) rfl) pa_nil)))) (pw_and1 (pt_cmpR op_gt (pe_callB (id := "len")  call_len_seq (by rfl) T.z_len (by decide +kernel) (pa_cons (pe_ix ix_list (pv 1) (pv 4) (fun _ _ => rfl)) pa_nil)) pe_int (nomark _)))))
            (pss_one (ps_asg (pe_call G67 (hr.mono (by decide)) (by rfl) T.g67 T.F67.kp T.b67 .nil pass0 (pa_cons (pv 0) (pa_cons (pe_ix ix_list (pv 1) (pv 4) (fun _ _ => rfl)) (pa_cons (pv 5) pa_nil)))) (pg_sub (pv 1) (pv 4) set_list)))
            pss_nil))))))))), ?_⟩
    refine ⟨_, rfl, p, _, rfl, hP, by decide, by decide, fun kd H1 kd0 kd8 C1 => ?_⟩
    have hS1 := C1.at nS hS
    have hx1 := (hx x hxm).kp (Kp.chg hP C1)
    obtain ⟨nt, hty, k1⟩ := hx1.th.tyT (K := K)
    apply later1 (C := fun H2 => Chg p H H2)
    case f =>
      intro els
      refine ⟨_, rfl, rfl, _, rfl, iteIB (fun k0 => ?_) (fun k0 => ?_)⟩
      · refine ⟨_, rfl, rfl, _, rfl, iteIB (fun k0 => ?_) (fun k0 => ?_)⟩
        · exact ifF (els _ C1)
        · refine ⟨_, rfl, p, _, rfl, C1.1, by decide, by decide, fun dr H2 d0 d3 C2 => ?_⟩
          refine ⟨rfl, _, rfl, iteIB (fun _ => els _ (C1.trans C2)) (fun _ => ?_)⟩
          have C2' := C1.trans C2
          have hS2 := C2'.at nS hS
          exact ⟨_, rfl, .inl ⟨rfl, _, .of hS2⟩, S, _, rfl, rfl, hS2, q [] _ upd_same (Nat.zero_le _) (fun x h => by cases h) (C2'.chs.upd nS)⟩
      · refine ⟨_, rfl, _, rfl, _, _, _, _, rfl, rfl, .of hS1, hat, _, _, _, _, _, rfl, .ty _, hty, kit_ty k1, _, rfl, iteB (fun e => ?_) (fun e => ?_)⟩
        · exact ifF ⟨_, rfl, rfl, _, rfl, iteIB (fun _ => ifF (els _ C1)) (fun k1 => absurd (k0.symm.trans k1) (by decide))⟩
        · obtain ⟨zs, ez⟩ := Option.isSome_iff_exists.mp e
          have itx := hx1.it zs ez
          obtain ⟨g, rfl, hg⟩ := tupOf_some ez
          refine ⟨_, rfl, _, rfl, _, _, _, _, rfl, rfl, .of hS1, hat, g, zs, rfl, .inr (.of hg), _, _, rfl, rfl, _, rfl, iteDB (fun _ => ⟨_, rfl, rfl, _, rfl, iteIB (fun _ => ifF (els _ C1)) (fun k1 => absurd (k0.symm.trans k1) (by decide))⟩) (fun lz => ?_)⟩
          have lz : (1 : Int) < zs.length := lz
          obtain ⟨y0, y1, ys, rfl⟩ : ∃ y0 y1 ys, zs = y0 :: y1 :: ys := by
            match zs, lz with
            | [], h => exact absurd h (by decide)
            | [_], h => exact absurd h (by show ¬ (1 : Int) < 1; decide)
            | y0 :: y1 :: ys, _ => exact ⟨y0, y1, ys, rfl⟩
          exact ⟨_, rfl, _, rfl, _, rfl, p, S, v, g, xs, r, y0, y1, ys, L, ts, ks, ss, n, rfl, C1.1, hS1, nS, exs, hg, itx.2 y1 (by simp), hv.chg hP C1, hSv.mono (chg_tup hP C1), n1, n8, by omega, L5, L90, fun x h => (hx x h).kp (Kp.chg hP C1), fun xs' H' hS' _ l' h' c' => q xs' H' hS' l' (fun x h => (h' x h).up (Nat.le_succ L)) (C1.chs.trans c')⟩
    case b =>
      intro H2 C2
      have hS2 := C2.at nS hS
      have lpos : 0 < xs.length := List.length_pos_iff.mpr xne
      refine ⟨_, rfl, _, rfl, S, xs, rfl, .inl (.of hS2), p, (xs.length : Int), rfl, C2.1, by omega, by rw [Int.natAbs_natCast]; exact Nat.lt_of_le_of_lt x90 (by decide), fun at_ H3 a0 a1 C3' => ?_⟩
      have C3 := C2.trans C3'
      have hS3 := C3.at nS hS
      have hx3 : ∀ x ∈ xs, TL H3 L x := fun x h => (hx x h).kp (Kp.chg hP C3)
      refine ⟨_, rfl, S, rfl, ⟨_, .of hS3⟩, fun D hD => ?_⟩
      have nDp : D ≠ p := Chg.ne C3.1 hD
      refine lc_list (K := K) (a := S) (xs := xs) (fun i H' => ∃ acc : List V, H' D = some (.lst acc) ∧ acc.length ≤ i ∧ (∀ x ∈ acc, T2 H3 L x) ∧ (∀ j y zs, j < i → xs[j]? = some y → tupOf H3 y = some zs → 2 ≤ zs.length → acc ≠ []) ∧ Same H3 H') ⟨[], upd_same, Nat.le_refl _, (fun x h => by cases h), (fun j y zs h => absurd h (Nat.not_lt_zero _)), same_upd hD⟩ (fun i H' _ hp => ?_) (fun i y H' hy hp => ?_) (fun H' hp => ?_)
      · obtain ⟨acc, _, _, _, _, sm⟩ := hp
        exact .of (sm _ _ hS3)
      · obtain ⟨acc, h1, h2, h3, h4, sm⟩ := hp
        have hyl := hx3 y (List.mem_of_getElem? hy)
        have hyl' := hyl.kp (Kp.same sm)
        obtain ⟨ny, htyy, ky⟩ := hyl'.th.tyT (K := K)
        have li : i < xs.length := (List.getElem?_eq_some_iff.mp hy).1
        have et : tupOf H' y = tupOf H3 y := tupOf_kp hyl.th (Kp.same sm)
        have stay : (∀ zs, tupOf H3 y = some zs → ¬ 2 ≤ zs.length) → ∃ acc : List V, H' D = some (.lst acc) ∧ acc.length ≤ i + 1 ∧ (∀ x ∈ acc, T2 H3 L x) ∧ (∀ j y zs, j < i + 1 → xs[j]? = some y → tupOf H3 y = some zs → 2 ≤ zs.length → acc ≠ []) ∧ Same H3 H' := fun h => ⟨acc, h1, Nat.le_succ_of_le h2, h3, fun j z zs hj hz ez l2 => by
          by_cases e : j = i
          · rw [e, hy] at hz
            cases hz
            exact absurd l2 (h zs ez)
          · exact h4 j z zs (by omega) hz ez l2, sm⟩
        refine ⟨rfl, _, rfl, _, _, _, _, _, rfl, .ty _, htyy, kit_ty ky, _, rfl, iteB (fun e => ?_) (fun e => ?_)⟩
        · refine ifF (stay fun zs ez => ?_)
          rw [et, ez] at e
          cases e
        · rw [et] at e
          obtain ⟨zs, ez⟩ := Option.isSome_iff_exists.mp e
          have ity := hyl.it zs ez
          have ez' := et.trans ez
          obtain ⟨g, rfl, hg⟩ := tupOf_some ez'
          refine ⟨_, rfl, g, zs, rfl, .inr (.of hg), _, _, rfl, rfl, _, rfl, iteDB (fun lz => ?_) (fun lz => ?_)⟩
          · have lz : ¬ (1 : Int) < zs.length := lz
            exact stay fun zs' ez' => by
              rw [ez] at ez'
              cases ez'
              omega
          · have lz : (1 : Int) < zs.length := lz
            obtain ⟨y1, hy1⟩ : ∃ y1, zs[1]? = some y1 := ⟨_, List.getElem?_eq_getElem (by omega)⟩
            refine ⟨_, rfl, _, _, _, _, rfl, rfl, .of hg, atI_nat (j := 1) hy1, acc, h1, small1000 (by omega), acc ++ [y1], upd_same, by rw [List.length_append]; show acc.length + 1 ≤ i + 1; omega, fun x hx => ?_, fun j y zs _ _ _ _ => by simp, same_mut sm hD⟩
            rcases List.mem_append.mp hx with h | h
            · exact h3 x h
            · rw [List.mem_singleton.mp h]
              exact ity.2 y1 (List.mem_of_getElem? hy1)
      · obtain ⟨acc, h1, h2, h3, h4, sm⟩ := hp
        have C4 : Chg p H H' := ⟨C3.1.same sm, fun b o n e => sm _ _ (C3.2 b o n e)⟩
        have hS4 := sm _ _ hS3
        obtain ⟨y, hy⟩ : ∃ y, xs[at_.toNat]? = some y := ⟨_, List.getElem?_eq_getElem (by omega)⟩
        have haty : atI xs at_ = some y := at_g (j := at_.toNat) (by omega) hy
        have hyl := hx3 y (List.mem_of_getElem? hy)
        have hyl' := hyl.kp (Kp.same sm)
        obtain ⟨ny, htyy, ky⟩ := hyl'.th.tyT (K := K)
        have et : tupOf H' y = tupOf H3 y := tupOf_kp hyl.th (Kp.same sm)
        have stay : Q .non H' := q xs H' hS4 (by omega) (fun x h => ((hx3 x h).kp (Kp.same sm)).up (Nat.le_succ L)) C4.chs
        refine ⟨_, rfl, _, rfl, _, _, _, _, rfl, rfl, .of hS4, haty, _, _, _, _, _, rfl, .ty _, htyy, kit_ty ky, _, rfl, iteB (fun e => ?_) (fun e => ?_)⟩
        · exact ifF stay
        · rw [et] at e
          obtain ⟨zs, ez⟩ := Option.isSome_iff_exists.mp e
          have ity := hyl'.it zs (et.trans ez)
          have ez' := et.trans ez
          obtain ⟨g, rfl, hg⟩ := tupOf_some ez'
          refine ⟨_, rfl, _, rfl, _, _, _, _, rfl, rfl, .of hS4, haty, g, zs, rfl, .inr (.of hg), _, _, rfl, rfl, _, rfl, iteDB (fun lz => ?_) (fun lz => ?_)⟩
          · exact stay
          · have lz : (1 : Int) < zs.length := lz
            have ane := h4 at_.toNat _ zs (by omega) hy ez (by omega)
            obtain ⟨y0, y1, ys, rfl⟩ : ∃ y0 y1 ys, zs = y0 :: y1 :: ys := by
              match zs, lz with
              | [], h => exact absurd h (by decide)
              | [_], h => exact absurd h (by show ¬ (1 : Int) < 1; decide)
              | y0 :: y1 :: ys, _ => exact ⟨y0, y1, ys, rfl⟩
            refine ⟨_, rfl, _, rfl, _, rfl, _, _, _, _, rfl, rfl, .of hS4, haty, _, rfl, p, g, D, L, y0, y1, ys, acc, rfl, C4.1, hg, by omega, L90, ity.1, ity.2, h1, nDp, ane, by omega, fun x h => (h3 x h).kp (Kp.same sm), fun u H5 hu C5 => ?_⟩
            have hS5 := C5.at nS hS4
            have KL := Kp.lstS (ys := xs.set at_.toNat u) hS5
            refine ⟨_, rfl, _, rfl, S, xs, at_, at_.toNat, rfl, rfl, hS5, ?_, q _ _ upd_same (by rw [List.length_set]; omega) (fun x hx => ?_) ((C4.trans C5).chs.upd nS)⟩
            · unfold ixN
              rw [if_pos a0, if_pos a1]
            · rcases List.mem_or_eq_of_mem_set hx with h | rfl
              · exact ((((hx3 x h).kp (Kp.same sm)).kp (Kp.chg C4.1 C5)).up (Nat.le_succ L)).kp KL
              · exact hu.kp KL
end
/-! ### the steps that the law makes, as things -/
theorem runG_no {ts : List (Str × Int)} {ss : List SvE} : ∀ {l : List StD} {sz sz' : Str → Option SzD} {i : Nat}, runG ts ss l sz i = .inr sz' → ∀ st ∈ l, ∃ sz1, wrongOf ts ss sz1 st = none
  | [], _, _, _, _, st, h => by cases h
  | x :: r, sz, sz', i, h, st, hst => by
    have h : (match wrongOf ts ss sz x with
      | some u => Sum.inl (u, i)
      | none => runG ts ss r (putS sz x.name (sizeOf sz (wOf ts ss x) x)) (i + 1)) = Sum.inr sz' := h
    cases e : wrongOf ts ss sz x with
    | some u => rw [e] at h; cases h
    | none =>
      rw [e] at h
      rcases List.mem_cons.mp hst with rfl | hm
      · exact ⟨sz, e⟩
      · exact runG_no h st hm
theorem no_items {ts : List (Str × Int)} {ss : List SvE} {sz : Str → Option SzD} {st : StD} (h : wrongOf ts ss sz st = none) (hc : ∀ b ∈ ss, b.cols.length ≤ 4) : st.items.length ≤ 12 := by
  unfold wrongOf at h
  split at h
  · cases h
  rename_i h1
  split at h
  · cases h
  rename_i h2
  split at h
  · cases h
  rename_i h3
  cases st with
  | start n => exact Nat.zero_le _
  | join b n x y => exact Nat.zero_le _
  | whr n o i it => show 2 ≤ 12; decide
  | take n o its =>
    have h3 : ¬ (12 < (its.length : Int) ∨ joinB sz (.take n o its) = false) := h3
    rw [not_or] at h3
    have := h3.1
    show its.length ≤ 12
    omega
  | call n o s its =>
    have h2 : ¬ itemsB sz (kOf ss (.call n o s its)) (.call n o s its) = false := h2
    have h2 : itemsB sz (kOf ss (.call n o s its)) (.call n o s its) = true := by
      cases e : itemsB sz (kOf ss (.call n o s its)) (.call n o s its) with
      | true => rfl
      | false => exact absurd e h2
    unfold itemsB at h2
    rw [Bool.and_eq_true] at h2
    have h4 : its.length = kOf ss (.call n o s its) := of_decide_eq_true h2.1
    show its.length ≤ 12
    rw [h4]
    show ((svAt ss s).map fun b => b.cols.length).getD 0 ≤ 12
    cases e : svAt ss s with
    | none => exact Nat.zero_le _
    | some b =>
      have := hc b (svAt_mem e).1
      show b.cols.length ≤ 12
      omega
theorem it_th1 {H : Hp} {v : V} {it : ItD} (h : ItAt H v it) (ok : ItOk it) : Th1 H v := by
  cases it with
  | val k =>
    obtain ⟨p, rfl, hp⟩ := h
    exact .tup hp (by show 1 ≤ 100; decide) fun x hx => by
      rw [List.mem_singleton.mp hx]
      exact kval_thg ok
  | idx i =>
    have h : v = .int i := h
    rw [h]
    exact .flat (.int i) rfl
theorem its_t2 {H : Hp} {g : Addr} {us : List V} {its : List ItD} (hg : H g = some (.tup us)) (h : ItsAt H us its) (ok : ∀ it ∈ its, ItOk it) (l : its.length ≤ 12) : T2 H 12 (.ref g) := by
  refine .tup hg (by rw [Paired.length h]; exact l) (by decide) fun x hx => ?_
  obtain ⟨j, hj⟩ := List.mem_iff_getElem?.mp hx
  obtain ⟨it, e, hit⟩ := paired_get h hj
  exact it_th1 hit (ok it (List.mem_of_getElem? e))
theorem st_tl {H : Hp} {p : Addr} {st : StD} (h : StAt H p st) (ok : StOk st) (l : st.items.length ≤ 12) : TL H 12 (.ref p) := by
  have lowk : ∀ s ∈ (["start", "call", "both", "pair", "where", "take"] : List Str), s.length ≤ 1000 ∧ Low s := by
    have h : ((["start", "call", "both", "pair", "where", "take"] : List Str).all fun s => decide (s.length ≤ 1000) && s.cps.toList.all fun c => decide (c < 128)) = true := by decide +kernel
    intro s hs
    have := List.all_eq_true.mp h s hs
    rw [Bool.and_eq_true] at this
    exact ⟨of_decide_eq_true this.1, fun c hc => of_decide_eq_true (List.all_eq_true.mp this.2 c hc)⟩
  have tk : ∀ s ∈ (["start", "call", "both", "pair", "where", "take"] : List Str), T2 H 12 (.str s) := fun s h => t2s H _ (lowk s h).1 (lowk s h).2
  have tw : ∀ s ∈ st.ns, T2 H 12 (.str s) := fun s h => t2w H _ (ok.1 s h)
  cases st with
  | start n =>
    have h : H p = some (.tup [.str "start", .str n]) := h
    refine .tup h (by show 2 ≤ 12; decide) fun x hx => ?_
    simp only [List.mem_cons, List.not_mem_nil, or_false] at hx
    rcases hx with rfl | rfl
    · exact tk _ (by simp)
    · exact tw _ (by simp [StD.ns])
  | join b n x y =>
    have h : H p = some (.tup [.str (if b then "both" else "pair"), .str n, .str x, .str y]) := h
    refine .tup h (by show 4 ≤ 12; decide) fun z hz => ?_
    simp only [List.mem_cons, List.not_mem_nil, or_false] at hz
    rcases hz with rfl | rfl | rfl | rfl
    · cases b
      · exact tk "pair" (by simp)
      · exact tk "both" (by simp)
    · exact tw _ (by simp [StD.ns])
    · exact tw _ (by simp [StD.ns])
    · exact tw _ (by simp [StD.ns])
  | whr n o i it =>
    obtain ⟨v, h1, h2⟩ := h
    refine .tup h1 (by show 5 ≤ 12; decide) fun z hz => ?_
    simp only [List.mem_cons, List.not_mem_nil, or_false] at hz
    rcases hz with rfl | rfl | rfl | rfl | rfl
    · exact tk _ (by simp)
    · exact tw _ (by simp [StD.ns])
    · exact tw _ (by simp [StD.ns])
    · exact t2i _ _ _
    · have hok : ItOk it := ok.its it (by simp [StD.items])
      cases it with
      | val k =>
        obtain ⟨q, rfl, hq⟩ := h2
        exact .tup hq (by show 1 ≤ 12; decide) (by decide) fun x hx => by
          rw [List.mem_singleton.mp hx]
          exact .flat (kval_thg hok) (by cases k <;> rfl)
      | idx i =>
        have h2 : z = .int i := h2
        rw [h2]
        exact t2i _ _ _
  | call n o s its =>
    obtain ⟨g, us, h1, h2, h3⟩ := h
    refine .tup h1 (by show 5 ≤ 12; decide) fun z hz => ?_
    simp only [List.mem_cons, List.not_mem_nil, or_false] at hz
    rcases hz with rfl | rfl | rfl | rfl | rfl
    · exact tk _ (by simp)
    · exact tw _ (by simp [StD.ns])
    · exact tw _ (by simp [StD.ns])
    · exact tw _ (by simp [StD.ns])
    · exact its_t2 h2 h3 ok.its l
  | take n o its =>
    obtain ⟨g, us, h1, h2, h3⟩ := h
    refine .tup h1 (by show 4 ≤ 12; decide) fun z hz => ?_
    simp only [List.mem_cons, List.not_mem_nil, or_false] at hz
    rcases hz with rfl | rfl | rfl | rfl
    · exact tk _ (by simp)
    · exact tw _ (by simp [StD.ns])
    · exact tw _ (by simp [StD.ns])
    · exact its_t2 h2 h3 ok.its l
/-! ### a step is told once -/
theorem kV_inj' {k l : Key} (h : kV k = kV l) : k = l := by
  cases k <;> cases l <;> simp [kV] at h <;> simp [h]
theorem it_uniq {H : Hp} {v : V} {x y : ItD} (hx : ItAt H v x) (hy : ItAt H v y) : x = y := by
  cases x with
  | val k =>
    obtain ⟨p, rfl, hp⟩ := hx
    cases y with
    | val l =>
      obtain ⟨q, e, hq⟩ := hy
      cases e
      rw [hp] at hq
      have e := HO.tup.inj (Option.some.inj hq)
      rw [kV_inj' (List.cons.inj e).1]
    | idx i => exact nomatch (show V.ref p = .int i from hy)
  | idx i =>
    have hx : v = .int i := hx
    subst hx
    cases y with
    | val l =>
      obtain ⟨q, e, hq⟩ := hy
      cases e
    | idx j => rw [V.int.inj (show V.int i = .int j from hy)]
theorem its_uniq {H : Hp} : ∀ {us : List V} {x y : List ItD}, ItsAt H us x → ItsAt H us y → x = y
  | _, _, _, .nil, .nil => rfl
  | _, _, _, .cons h1 t1, .cons h2 t2 => by rw [it_uniq h1 h2, its_uniq t1 t2]
theorem st_uniq {H : Hp} {p : Addr} {x y : StD} (hx : StAt H p x) (hy : StAt H p y) : x = y := by
  have inj : ∀ {a b : List V}, H p = some (.tup a) → H p = some (.tup b) → a = b := fun h1 h2 => by
    rw [h1] at h2
    exact HO.tup.inj (Option.some.inj h2)
  have nk : ∀ {b : Bool} {s : Str}, s ≠ "both" → s ≠ "pair" → (if b then ("both" : Str) else "pair") ≠ s := fun {b s} h1 h2 e => by
    cases b
    · exact h2 e.symm
    · exact h1 e.symm
  cases x with
  | start n =>
    have hx : H p = some (.tup [.str "start", .str n]) := hx
    cases y with
    | start m =>
      have e := inj hx hy
      simp only [List.cons.injEq, V.str.injEq, and_true, true_and] at e
      rw [e]
    | join b m u v => have e := inj hx hy; simp at e
    | whr m o i it => obtain ⟨v, h1, _⟩ := hy; have e := inj hx h1; simp at e
    | call m o s its => obtain ⟨g, us, h1, _⟩ := hy; have e := inj hx h1; simp at e
    | take m o its => obtain ⟨g, us, h1, _⟩ := hy; have e := inj hx h1; simp at e
  | join b n u v =>
    have hx : H p = some (.tup [.str (if b then "both" else "pair"), .str n, .str u, .str v]) := hx
    cases y with
    | start m => have e := inj hx hy; simp at e
    | join b' m u' v' =>
      have e := inj hx hy
      simp only [List.cons.injEq, V.str.injEq, and_true] at e
      obtain ⟨e0, e1, e2, e3⟩ := e
      have eb : b = b' := by
        cases b <;> cases b'
        · rfl
        · exact absurd e0 (by decide +kernel)
        · exact absurd e0 (by decide +kernel)
        · rfl
      rw [eb, e1, e2, e3]
    | whr m o i it => obtain ⟨w, h1, _⟩ := hy; have e := inj hx h1; simp at e
    | call m o s its => obtain ⟨g, us, h1, _⟩ := hy; have e := inj hx h1; simp at e
    | take m o its =>
      obtain ⟨g, us, h1, _⟩ := hy
      have e := inj hx h1
      simp at e
  | whr n o i it =>
    obtain ⟨v, h1, h2⟩ := hx
    cases y with
    | start m => have e := inj h1 hy; simp at e
    | join b m u v => have e := inj h1 hy; simp at e
    | whr m o' i' it' =>
      obtain ⟨v', g1, g2⟩ := hy
      have e := inj h1 g1
      simp only [List.cons.injEq, V.str.injEq, V.int.injEq, and_true, true_and] at e
      obtain ⟨e1, e2, e3, rfl⟩ := e
      rw [e1, e2, e3, it_uniq h2 g2]
    | call m o' s its => obtain ⟨g, us, g1, _⟩ := hy; have e := inj h1 g1; simp at e
    | take m o' its => obtain ⟨g, us, g1, _⟩ := hy; have e := inj h1 g1; simp at e
  | call n o s its =>
    obtain ⟨g, us, h1, h2, h3⟩ := hx
    cases y with
    | start m => have e := inj h1 hy; simp at e
    | join b m u v => have e := inj h1 hy; simp at e
    | whr m o' i' it' => obtain ⟨v', g1, g2⟩ := hy; have e := inj h1 g1; simp at e
    | call m o' s' its' =>
      obtain ⟨g', us', g1, g2, g3⟩ := hy
      have e := inj h1 g1
      simp only [List.cons.injEq, V.str.injEq, V.ref.injEq, and_true, true_and] at e
      obtain ⟨e1, e2, e3, rfl⟩ := e
      rw [h2] at g2
      cases HO.tup.inj (Option.some.inj g2)
      rw [e1, e2, e3, its_uniq h3 g3]
    | take m o' its' => obtain ⟨g', us', g1, _⟩ := hy; have e := inj h1 g1; simp at e
  | take n o its =>
    obtain ⟨g, us, h1, h2, h3⟩ := hx
    cases y with
    | start m => have e := inj h1 hy; simp at e
    | join b m u v =>
      have e := inj h1 hy
      simp at e
    | whr m o' i' it' => obtain ⟨v', g1, g2⟩ := hy; have e := inj h1 g1; simp at e
    | call m o' s' its' => obtain ⟨g', us', g1, _⟩ := hy; have e := inj h1 g1; simp at e
    | take m o' its' =>
      obtain ⟨g', us', g1, g2, g3⟩ := hy
      have e := inj h1 g1
      simp only [List.cons.injEq, V.str.injEq, V.ref.injEq, and_true, true_and] at e
      obtain ⟨e1, e2, rfl⟩ := e
      rw [h2] at g2
      cases HO.tup.inj (Option.some.inj g2)
      rw [e1, e2, its_uniq h3 g3]
theorem th2_kp3 {H H' : Hp} {v : V} (h : Th3 H v) (k : Kp H H') : Th3 H' v := h.kp k
theorem stV_kp {H H' : Hp} {v : V} (hf : formB H v = true) (h : Th3 H v) (k : Kp H H') : stV H' v = stV H v := by
  obtain ⟨p, rfl, h1, _⟩ := stV_at hf h
  obtain ⟨p', e, h2, _⟩ := stV_at (by rw [formB_kp h k]; exact hf) (h.kp k)
  cases e
  exact st_uniq h2 (h1.keeps k.tup)
theorem runV_kp {H H' : Hp} {ts : List (Str × Int)} {ss : List SvE} (k : Kp H H') : ∀ {xs : List V} {sz : Str → Option SzD} {i : Nat}, (∀ v ∈ xs, Th3 H v) → runV H' ts ss xs sz i = runV H ts ss xs sz i
  | [], _, _, _ => rfl
  | v :: r, sz, i, h => by
    have hv := h v (by simp)
    show (match formB H' v with
      | false => Sum.inl (("form" : Str), i)
      | true => match wrongOf ts ss sz (stV H' v) with
        | some u => Sum.inl (u, i)
        | none => runV H' ts ss r (putS sz (stV H' v).name (sizeOf sz (wOf ts ss (stV H' v)) (stV H' v))) (i + 1)) = (match formB H v with
      | false => Sum.inl (("form" : Str), i)
      | true => match wrongOf ts ss sz (stV H v) with
        | some u => Sum.inl (u, i)
        | none => runV H ts ss r (putS sz (stV H v).name (sizeOf sz (wOf ts ss (stV H v)) (stV H v))) (i + 1))
    rw [formB_kp hv k]
    cases e : formB H v with
    | false => rfl
    | true =>
      rw [stV_kp e hv k]
      cases wrongOf ts ss sz (stV H v) with
      | some u => rfl
      | none => exact runV_kp k fun u hu => h u (by simp [hu])
theorem wrong_low {ts : List (Str × Int)} {ss : List SvE} {sz : Str → Option SzD} {st : StD} {u : Str} (h : wrongOf ts ss sz st = some u) : u ∈ (["name", "items", "width", "limit"] : List Str) := by
  unfold wrongOf at h
  split at h
  · cases h; simp
  split at h
  · cases h; simp
  split at h
  · cases h; simp
  split at h
  · cases h; simp
  · cases h
theorem runV_low {H : Hp} {ts : List (Str × Int)} {ss : List SvE} : ∀ {xs : List V} {sz : Str → Option SzD} {i : Nat} {u : Str} {j : Nat}, runV H ts ss xs sz i = .inl (u, j) → u ∈ (["form", "name", "items", "width", "limit"] : List Str)
  | [], _, _, _, _, h => by cases h
  | v :: r, sz, i, u, j, h => by
    have h : (match formB H v with
      | false => Sum.inl (("form" : Str), i)
      | true => match wrongOf ts ss sz (stV H v) with
        | some u => Sum.inl (u, i)
        | none => runV H ts ss r (putS sz (stV H v).name (sizeOf sz (wOf ts ss (stV H v)) (stV H v))) (i + 1)) = Sum.inl (u, j) := h
    cases e : formB H v with
    | false => rw [e] at h; cases h; simp
    | true =>
      rw [e] at h
      cases ew : wrongOf ts ss sz (stV H v) with
      | some u' =>
        have h : (match wrongOf ts ss sz (stV H v) with
          | some u => Sum.inl (u, i)
          | none => runV H ts ss r (putS sz (stV H v).name (sizeOf sz (wOf ts ss (stV H v)) (stV H v))) (i + 1)) = Sum.inl (u, j) := h
        rw [ew] at h
        cases h
        have := wrong_low ew
        simp only [List.mem_cons, List.not_mem_nil, or_false] at this ⊢
        exact .inr this
      | none =>
        have h : (match wrongOf ts ss sz (stV H v) with
          | some u => Sum.inl (u, i)
          | none => runV H ts ss r (putS sz (stV H v).name (sizeOf sz (wOf ts ss (stV H v)) (stV H v))) (i + 1)) = Sum.inl (u, j) := h
        rw [ew] at h
        exact runV_low h
/-! ### what is told is compared with what is due -/
theorem parts_low : ∀ u ∈ (["steps", "form", "name", "items", "width", "limit"] : List Str), Low u := by
  have h : ((["steps", "form", "name", "items", "width", "limit"] : List Str).all fun s => s.cps.toList.all fun c => decide (c < 128)) = true := by decide +kernel
  intro u hu c hc
  exact of_decide_eq_true (List.all_eq_true.mp (List.all_eq_true.mp h u hu) c hc)
theorem told_at {K : PySem.W.Frag} {u : Str} {e : PyData} {v : V} (hu : Low u) (hc : e.canLay0 = true) (hd : e.depth = 0) (hv : ∀ H : Hp, Dp K H v e) : ∃ dd, (∀ (H : Hp) (r : Addr), H r = some (.tup [.str u, v]) → Dp K H (.ref r) dd) ∧ SeqAt.shaped dd = true ∧ PyData.eqv dd dd = true := by
  have hc' : (PyData.tuple [.str u, e]).canLay0 = true := by
    simp only [PyData.canLay0, PyData.canLayAll0, low_ok hu, hc, Bool.and_self]
  refine ⟨.tuple [.str u, e], fun H r hr => .tup (.of hr) (.cons (.str u) (.cons (hv H) .nil)), ?_, PySem.SeqAt.eqv_refl _ hc'⟩
  unfold SeqAt.shaped
  rw [hc', Bool.true_and]
  exact decide_eq_true (by simp only [PyData.depth, PyData.depthAll, hd]; decide)
theorem told_sz {K : PySem.W.Frag} (t : SzD) : ∃ dd, (∀ (H : Hp) (r : Addr), H r = some (.tup (szV t)) → Dp K H (.ref r) dd) ∧ SeqAt.shaped dd = true ∧ PyData.eqv dd dd = true := by
  have hc' : (PyData.tuple [.int t.1, .int t.2.1, .int t.2.2]).canLay0 = true := by
    simp only [PyData.canLay0, PyData.canLayAll0, Bool.and_self]
  refine ⟨.tuple [.int t.1, .int t.2.1, .int t.2.2], fun H r hr => .tup (.of hr) (.cons (.int _) (.cons (.int _) (.cons (.int _) .nil))), ?_, PySem.SeqAt.eqv_refl _ hc'⟩
  unfold SeqAt.shaped
  rw [hc', Bool.true_and]
  exact decide_eq_true (by simp only [PyData.depth, PyData.depthAll]; decide)
theorem neq_self {K : PySem.W.Frag} {H : Hp} {n : Nat} {v : V} (h : Thg H v) : NEq K H n v v true := by
  have dat : ∀ {e : PyData}, e.canLay0 = true → e.depth = 0 → Dp K H v e → NEq K H n v v true := fun {e} hc hd hv => by
    have sh : SeqAt.shaped e = true := by
      unfold SeqAt.shaped
      rw [hc, Bool.true_and, hd]
      decide
    have := NEq.dat (n := n) hv hv sh sh
    rw [PySem.SeqAt.eqv_refl _ hc] at this
    exact this
  cases h with
  | int i => exact dat (e := .int i) rfl rfl (.int i)
  | bl b => exact dat (e := .bool b) rfl rfl (.bl b)
  | non => exact dat (e := .none) rfl rfl .non
  | str s h hc => exact dat (e := .str s) (by simp only [PyData.canLay0, low_ok hc]) rfl (.str s)
  | lst e => exact .same
  | tup e => exact .same
/-- o.f, told without the block -/
theorem pe_fldK {X : Cx} {K : PySem.W.Frag} {e : Expr} {f : Str} {pos : Pos} {ta : TE} (hK : X.K = K) (he : PE X e ta) (hb : attributeBase e f X.env (eval e X.env) = eval e X.env) : PE X (.Attribute e f pos) (tFld K ta f) := by
  subst hK
  exact pe_fld he hb
theorem runV_form {H : Hp} {ts : List (Str × Int)} {ss : List SvE} : ∀ {xs : List V} {sz sz' : Str → Option SzD} {i : Nat}, runV H ts ss xs sz i = .inr sz' → ∀ v ∈ xs, formB H v = true
  | [], _, _, _, _, v, hv => by cases hv
  | u :: r, sz, sz', i, h, v, hv => by
    have h : (match formB H u with
      | false => Sum.inl (("form" : Str), i)
      | true => match wrongOf ts ss sz (stV H u) with
        | some w => Sum.inl (w, i)
        | none => runV H ts ss r (putS sz (stV H u).name (sizeOf sz (wOf ts ss (stV H u)) (stV H u))) (i + 1)) = Sum.inr sz' := h
    cases e : formB H u with
    | false => rw [e] at h; cases h
    | true =>
      rcases List.mem_cons.mp hv with rfl | hm
      · exact e
      · rw [e] at h
        cases ew : wrongOf ts ss sz (stV H u) with
        | some w =>
          have h : (match wrongOf ts ss sz (stV H u) with
            | some w => Sum.inl (w, i)
            | none => runV H ts ss r (putS sz (stV H u).name (sizeOf sz (wOf ts ss (stV H u)) (stV H u))) (i + 1)) = Sum.inr sz' := h
          rw [ew] at h
          cases h
        | none =>
          have h : (match wrongOf ts ss sz (stV H u) with
            | some w => Sum.inl (w, i)
            | none => runV H ts ss r (putS sz (stV H u).name (sizeOf sz (wOf ts ss (stV H u)) (stV H u))) (i + 1)) = Sum.inr sz' := h
          rw [ew] at h
          exact runV_form h v hm
theorem mk_progX {CS CP CE sp l : Addr} {H : Hp} {ts : List (Str × Int)} {ks : List KeyE} {ss : List SvE} {m n : Nat} {xs : List V} {Q' : Hp → Prop} {E : XK} {x dx : Addr} (hS : SchAt CS sp H ts ks ss m n) (hl : H l = some (.lst xs)) (hx : ∀ v ∈ xs, Th3 H v) (x100 : xs.length ≤ 100)
    (fx : H x = none) (fdx : H dx = none) (ndx : dx ≠ x)
    (q0 : ¬ (1 ≤ xs.length ∧ xs.length ≤ 12) → ∀ H', Same H H' → Er2 CE "part" "at" (.str "steps") .non H' E)
    (q1 : 1 ≤ xs.length → xs.length ≤ 12 → ∀ u i, runV H ts ss xs sz0 0 = .inl (u, i) → ∀ H', Same H H' → Er2 CE "part" "at" (.str u) (.int (i : Nat)) H' E)
    (q2 : 1 ≤ xs.length → xs.length ≤ 12 → ∀ sz v, runV H ts ss xs sz0 0 = .inr sz → xs.getLast? = some v → ∀ H' l', H' x = some (.ins CP dx (fldsP sp l' (szOf sz (stV H v).name))) → Same H H' → Q' H') :
    spPInitX CS CP CE (.ref x :: ([.ref sp, .ref l] ++ [])) (upd (upd H dx (.own x)) x (.ins CP dx [])) (fun u H2 => u = .non ∧ Q' H2) E := by
  have s1 := same_upd (o := .own x) fdx
  have f1 : upd H dx (.own x) x = none := by rw [upd_ne ndx.symm]; exact fx
  have s := s1.trans (same_upd (o := .ins CP dx []) f1)
  have kp := Kp.same s
  have er : runV (upd (upd H dx (.own x)) x (.ins CP dx [])) ts ss xs sz0 0 = runV H ts ss xs sz0 0 := runV_kp kp hx
  refine ⟨x, dx, sp, l, xs, ts, ks, ss, m, n, rfl, upd_same, hS.same s, s _ _ hl, fun v hv => (hx v hv).kp kp, x100, fun h H' s' => q0 h H' (s.trans s'), fun a1 a2 => ⟨fun u i e H' s' => q1 a1 a2 u i (by rw [← er]; exact e) H' (s.trans s'), fun sz v e ev H' l' hp keep => ⟨rfl, ?_⟩⟩⟩
  have sH : Same H H' := fun b u e => keep b u (ne_of_none e fx) (s _ _ e)
  have e' : runV H ts ss xs sz0 0 = .inr sz := by rw [← er]; exact e
  have hvm : v ∈ xs := List.mem_of_getLast? ev
  have hf : formB H v = true := by
    obtain ⟨r, hr⟩ : ∃ r, xs = r ++ [v] := by
      obtain ⟨r, hr⟩ := List.getLast?_eq_some_iff.mp ev
      exact ⟨r, hr⟩
    exact runV_form e' v hvm
  have ev' : stV (upd (upd H dx (.own x)) x (.ins CP dx [])) v = stV H v := stV_kp hf (hx v hvm) kp
  rw [ev'] at hp
  exact q2 a1 a2 sz v e' ev H' l' hp sH
def spLaw (K : PySem.W.Frag) : Sp := fun vs H Q _ => ∃ (p : Addr) (ns : List Int), vs = [.ref p] ∧ SqL K H p (ns.map V.int) ∧ ns.length ≤ 63 ∧ ∀ H', Q (.bl true) H'
section
variable {P : Program} {w : World} {K : PySem.W.Frag} {mg : Str → Option Value} {base : Heap} {a : Nat → Addr} {d : Nat → FuncData}
theorem ok_law (T : Txt K mg a d) (W : TxtN K w a) : FnOk P w K mg base CX0 12 (a 79) (d 79) ["_law_script"] (spLaw K) := by
  have G49 : FnOk P w K mg base CX0 1 (a 49) (d 49) ["_law_script"] (spPool K) := ok_pool T
  have G51 : FnOk P w K mg base CX0 2 (a 51) (d 51) ["_law_pool_here", "_law_many"] spDraw := ok_draw T
  have G52 : FnOk P w K mg base CX0 3 (a 52) (d 52) ["_law_pool_here", "_law_many"] spWord := ok_word T
  have G59 : FnOk P w K mg base CX0 6 (a 59) (d 59) ["_law_pool_here", "_law_many", "_law_widest", "_law_caps", "_law_more_here"] spParts := ok_parts T
  have G66 : FnOk P w K mg base CX0 6 (a 66) (d 66) ["_law_pool_here", "_law_tables_here", "_law_services_here", "_law_palette", "_law_many", "_law_limits"] spLSteps := ok_lsteps T
  have G69 : FnOk P w K mg base CX0 6 (a 69) (d 69) ["_law_pool_here", "_law_steps_here", "_law_services_here"] spLSpoil := ok_lspoil T
  have G78 : FnOk P w K mg base CX0 5 (a 78) (d 78) ["_law_tables_here", "_law_services_here", "_law_steps_here"] spDue := ok_ldue T
  have G5700 : FnOk P w K mg base CX0 5 (a 5700) (d 5700) ["self", "tables", "keys", "services"] (spSInit (a 47)) := ok_sinit T
  have G4000 : FnOk P w K mg base (L2.CX P w) 7 (a 4000) (d 4000) ["self", "schema", "steps"] (spPInitX (a 47) (a 30) (a 5)) := ok_pinitX T W
  refine T.F79.ok sc_law (fun vs H Q E h => ?_) (fun cdv A outer s H vs Q E hr h => ?_)
  · obtain ⟨p, ns, rfl, _⟩ := h
    rfl
  · obtain ⟨p0, ns, rfl, hS0, hl0, q⟩ := h
    refine ⟨_, (pss_cons (ps_set (i := 1) sc_law.nd rfl (.inl rfl) (pe_call G49 (hr.mono (by decide)) (by rfl) T.g49 T.F49.kp T.b49 .nil pass0 (pa_cons (pv 0) pa_nil)))
  (pss_cons (ps_set (i := 2) sc_law.nd rfl (.inl rfl) (pe_call G51 (hr.mono (by decide)) (by rfl) T.g51 T.F51.kp T.b51 .nil pass0 (pa_cons (pv 1) (pa_cons pe_int pa_nil))))
  (pss_cons (ps_asg (pe_call G59 (hr.mono (by decide)) (by rfl) T.g59 T.F59.kp T.b59 .nil pass0 (pa_cons (pv 1) (pa_cons (pe_op op_add pe_int (pe_call G51 (hr.mono (by decide)) (by rfl) T.g51 T.F51.kp T.b51 .nil pass0 (pa_cons (pv 1) (pa_cons pe_int pa_nil)))) (pa_cons pe_int (pa_cons (pe_lst (pa_cons pe_non (pa_cons pe_int (pa_cons pe_int (pa_cons pe_int (pa_cons pe_int pa_nil)))))) (pa_cons (pe_call G51 (hr.mono (by decide)) (by rfl) T.g51 T.F51.kp T.b51 .nil pass0 (pa_cons (pv 1) (pa_cons pe_int pa_nil))) pa_nil)))))) (pg_unl rfl (pgs_cons (pg_name (i := 3) sc_law.nd rfl (.inl rfl)) (pgs_cons (pg_name (i := 4) sc_law.nd rfl (.inl rfl)) (pgs_cons (pg_name (i := 5) sc_law.nd rfl (.inl rfl)) pgs_nil)))))
  (pss_cons (ps_set (i := 6) sc_law.nd rfl (.inl rfl) (pe_lst (pa_cons (pe_call G52 (hr.mono (by decide)) (by rfl) T.g52 T.F52.kp T.b52 .nil pass0 (pa_cons (pv 1) (pa_cons (pe_op op_add pe_int (pe_call G51 (hr.mono (by decide)) (by rfl) T.g51 T.F51.kp T.b51 .nil pass0 (pa_cons (pv 1) (pa_cons pe_int pa_nil)))) pa_nil))) (pa_cons (pe_op op_sub (pe_call G51 (hr.mono (by decide)) (by rfl) T.g51 T.F51.kp T.b51 .nil pass0 (pa_cons (pv 1) (pa_cons (pe_op op_pow pe_int pe_int) pa_nil))) pe_int) pa_nil))))
  (pss_cons (ps_set (i := 7) sc_law.nd rfl (.inl rfl) (pe_op op_add pe_int (pe_call G51 (hr.mono (by decide)) (by rfl) T.g51 T.F51.kp T.b51 .nil pass0 (pa_cons (pv 1) (pa_cons pe_int pa_nil)))))
  (pss_cons (ps_asg (pe_call G66 (hr.mono (by decide)) (by rfl) T.g66 T.F66.kp T.b66 .nil pass0 (pa_cons (pv 1) (pa_cons (pv 3) (pa_cons (pv 5) (pa_cons (pv 6) (pa_cons (pv 7) (pa_cons (pe_tup (pa_cons pe_int (pa_cons pe_int (pa_cons (pe_callTy (T := "list")  (call_listD rfl) (by rfl) T.z_list (by decide +kernel) (pa_cons (pv 5) pa_nil)) pa_nil)))) pa_nil))))))) (pg_unl rfl (pgs_cons (pg_name (i := 8) sc_law.nd rfl (.inl rfl)) (pgs_cons (pg_name (i := 9) sc_law.nd rfl (.inl rfl)) pgs_nil))))
  (pss_cons (ps_for PassesOwn.never rfl (pi_range1 (by rfl) T.z_range (pa_cons (pv 2) pa_nil)) (pg_name (i := 10) sc_law.nd rfl (.inl rfl))
    (pss_one (ps_if (pt_cmpR (op_neE (Nat.lt_of_le_of_lt (Nat.le_add_right _ 64) (hu_of64 hr))) (pv 8) (pe_lst pa_nil) (nomark _))
        (pss_one (ps_expr (pe_call G69 (hr.mono (by decide)) (by rfl) T.g69 T.F69.kp T.b69 .nil pass0 (pa_cons (pv 1) (pa_cons (pv 8) (pa_cons (pv 5) pa_nil))))))
        pss_nil)))
  (pss_cons (ps_set (i := 11) sc_law.nd rfl (.inl rfl) pe_non)
  (pss_cons (ps_set (i := 12) sc_law.nd rfl (.inl rfl) pe_bl)
  (pss_cons (ps_set (i := 13) sc_law.nd rfl (.inl rfl) (pe_callTy (T := "list")  call_list_of (by rfl) T.z_list (by decide +kernel) (pa_cons (pv 8) pa_nil)))
  (pss_cons (ps_try_as (i := 15) (Wout := fun _ _ _ _ => False) rfl rfl sc_law.nd rfl rfl ⟨rfl, by decide, Or.inl T.cg_5⟩ takes0
    (fun W pn xe tk po => (pss_cons (ps_set (i := 14) sc_law.nd rfl (.inl rfl) (pe_makeX T.M_30 G4000 (hr.mono (by decide)) (by rfl) T.cg_30 T.b4000 (fun σ => passAt tk σ) (pa_cons (pe_make T.M_47 G5700 (hr.mono (by decide)) (by rfl) T.cg_47 T.b5700 .nil pass0 (pa_cons (pv 3) (pa_cons (pv 4) (pa_cons (pv 5) pa_nil)))) (pa_cons (pv 13) pa_nil))))
      (pss_one (ps_set (i := 11) sc_law.nd rfl (.inl rfl) (pe_tup (pa_cons (pe_fldK (K := K) (by rfl) (pv 14) rfl) (pa_cons (pe_fldK (K := K) (by rfl) (pv 14) rfl) (pa_cons (pe_fldK (K := K) (by rfl) (pv 14) rfl) pa_nil))))))))
    (fun ea oe cls ed pn hz hf => (pss_cons (ps_set (i := 11) sc_law.nd rfl (.inl rfl) (pe_tup (pa_cons (pe_xf T.xf_5 T.no_5_part hz hf (pv 15)) (pa_cons (pe_xf T.xf_5 T.no_5_at hz hf (pv 15)) pa_nil))))
      (pss_one (ps_set (i := 12) sc_law.nd rfl (.inl rfl) (pe_and (pe_callB (id := "isinstance")  (call_isX T.xi_5 hz hf) (by rfl) T.z_isinstance (by decide +kernel) (pa_cons (pv 15) (pa_cons (pe_glob (v := .ref (a 2)) (by rfl) T.cg_2 rfl) pa_nil))) (pe_and (pe_callB (id := "isinstance")  (call_isX T.xi_5 hz hf) (by rfl) T.z_isinstance (by decide +kernel) (pa_cons (pv 15) (pa_cons (pe_bltn (v := .ty "ValueError") (by rfl) T.z_ValueError (by decide +kernel) rfl) pa_nil))) (pe_one (pe_not (pe_callB (id := "isinstance")  (call_isX T.xi_5 hz hf) (by rfl) T.z_isinstance (by decide +kernel) (pa_cons (pv 15) (pa_cons (pe_glob (v := .ref (a 4)) (by rfl) T.cg_4 rfl) pa_nil))))))))))))
  (pss_one (ps_ret (pe_and (pe_cmpR (op_eqD (hu_of64 hr)) (pv 11) (pe_call G78 (hr.mono (by decide)) (by rfl) T.g78 T.F78.kp T.b78 .nil pass0 (pa_cons (pv 3) (pa_cons (pv 5) (pa_cons (pv 8) pa_nil)))) (nomark _)) (pe_and (pv 12) (pe_one (pe_cmpR (op_eqN (hu_of80 hr)) (pv 13) (pv 8) (nomark _)))))))))))))))))), ?_⟩
    refine ⟨_, rfl, p0, ns, rfl, hS0, hl0, fun pl H1 np hP s1 => ?_⟩
    -- how often it is spoiled
    refine ⟨_, rfl, pl, 3, rfl, hP, by decide, by decide, fun so H2 so0 so1 C2 => ?_⟩
    -- the parts
    refine ⟨_, rfl, _, rfl, pl, 3, rfl, C2.1, by decide, by decide, fun m H4 m0 m1 C4 => ⟨_, _, rfl, rfl, by show 5 ≤ sizeLine; decide, fun ca hca => ?_⟩⟩
    have s5 := same_upd (o := .lst [.non, .int 1, .int 2, .int 3, .int 4]) hca
    have P5 := C4.1.same s5
    have nca : ca ≠ pl := pool_ne' C4.1 hca
    refine ⟨_, rfl, pl, 4, rfl, P5, by decide, by decide, fun mo H6 o0 o1 C6 => ?_⟩
    refine ⟨pl, ca, (1 + m).toNat, mo.toNat, 4, [none, some 1, some 2, some 3, some 4], by rw [Int.toNat_of_nonneg (by omega), Int.toNat_of_nonneg o0]; rfl, C6.1, C6.at nca upd_same, nca, by omega, by omega, by decide, by decide, by decide, by decide, fun c hc => ?_, fun l t k v ts ks ss H7 hl l0 t0 k0 v0 ntk ht hk hv hT hK hSv C7 => ?_⟩
    · simp only [List.mem_cons, List.not_mem_nil, or_false, reduceCtorEq, false_or, Option.some.injEq] at hc
      omega
    have hm5 : (1 + m).toNat ≤ 5 := by omega
    have hm1 : 1 ≤ (1 + m).toNat := by omega
    have hn8 : (1 + m).toNat + mo.toNat ≤ 6 := by omega
    have hn1 : 1 ≤ (1 + m).toNat + mo.toNat := by omega
    generalize (1 + m).toNat + mo.toNat = n at hSv hn8 hn1
    generalize (1 + m).toNat = mt at hT hm5 hm1
    have P7 := C7.1
    refine ⟨l, _, rfl, .of hl, rfl, _, _, rfl, _, _, rfl, _, _, rfl, rfl, ?_⟩
    generalize hσ9 : List.set _ 5 _ = σ9
    have hh9 : σ9 = [some (V.ref p0), some (.ref pl), some (.int so), some (.ref t), some (.ref k), some (.ref v), none, none, none, none, none, none, none, none, none, none] := (by rw [← hσ9]; rfl)
    clear hσ9
    subst hh9
    have nt : t ≠ pl := pool_ne P7 ht (by intro _ z; cases z)
    have nk : k ≠ pl := pool_ne P7 hk (by intro _ z; cases z)
    have nv : v ≠ pl := pool_ne P7 hv (by intro _ z; cases z)
    clear hl l0 t0 k0 v0 C2 C4 C6 C7 s5 P5 nca hca hS0 hl0 s1 hP np m0 m1 o0 o1
    -- the palette
    refine ⟨_, rfl, _, rfl, pl, 8, rfl, P7, by decide, by decide, fun pc H8 p0' p1' C8 => ⟨_, _, rfl, rfl, ?_⟩⟩
    refine ⟨pl, (1 + pc).toNat, by rw [Int.toNat_of_nonneg (by omega)]; rfl, C8.1, by omega, fun wd0 H9 hwd0 C9 => ?_⟩
    have C79 := C8.trans C9
    refine ⟨_, rfl, _, _, rfl, rfl, ⟨by decide, by decide, by decide⟩, pl, _, rfl, C9.1, by decide, by decide, fun wi H10 wi0 wi1 C10 => ⟨_, _, rfl, rfl, by show 2 ≤ sizeLine; decide, fun pal hpal => ?_⟩⟩
    have npal : pal ≠ pl := pool_ne' C10.1 hpal
    have CA := (C79.trans C10).new (o := .lst [.str wd0, .int (wi - 7)]) hpal
    have hpal1 : upd H10 pal (.lst [.str wd0, .int (wi - 7)]) pal = some (.lst (([.inr wd0, .inl (wi - 7)] : List Key).map kV)) := upd_same
    generalize upd H10 pal (.lst [.str wd0, .int (wi - 7)]) = H11 at CA hpal1 ⊢
    have okpal : ∀ k ∈ ([.inr wd0, .inl (wi - 7)] : List Key), KVal k := fun k hk => by
      simp only [List.mem_cons, List.not_mem_nil, or_false] at hk
      rcases hk with rfl | rfl
      · have hl := hwd0.1
        exact ⟨by omega, by omega, hwd0.2⟩
      · have wi1 : wi < 10 ^ 30 := wi1
        show -(10 ^ 30 - 1) ≤ wi - 7 ∧ wi - 7 ≤ 10 ^ 30 - 1
        omega
    refine ⟨_, rfl, pl, 9, rfl, CA.1, by decide, by decide, fun mm H12 q0 q1 C12 => ⟨_, _, rfl, rfl, ?_⟩⟩
    generalize hσ9 : List.set _ 6 _ = σ9
    have hh9 : σ9 = [some (V.ref p0), some (.ref pl), some (.int so), some (.ref t), some (.ref k), some (.ref v), some (.ref pal), none, none, none, none, none, none, none, none, none] := (by rw [← hσ9]; rfl)
    clear hσ9
    subst hh9
    have CB := CA.trans C12
    have hv12 := CB.at nv hv
    -- the steps
    refine ⟨_, rfl, _, rfl, _, rfl, _, rfl, _, rfl, _, rfl, v, _, rfl, .inl hv12, fun ln hln => ⟨by show 3 ≤ sizeLine; decide, fun lm hlm => ?_⟩⟩
    have nln : ln ≠ pl := pool_ne' C12.1 hln
    have s11 := same_upd (o := .lst ((svK ss).map fun kv => kV kv.1)) hln
    have hln11 : upd H12 ln (.lst ((svK ss).map fun kv => kV kv.1)) ln = some (.lst ((ss.map (·.name)).map V.str)) := upd_same.trans (by unfold svK; rw [List.map_map, List.map_map]; rfl)
    have CC := CB.new (o := .lst ((svK ss).map fun kv => kV kv.1)) hln
    generalize upd H12 ln (.lst ((svK ss).map fun kv => kV kv.1)) = H13 at s11 hln11 CC hlm ⊢
    have s12 := same_upd (o := .tup [.int 16, .int 4, .ref ln]) hlm
    have hlm12 : upd H13 lm (.tup [.int 16, .int 4, .ref ln]) lm = some (.tup [.int 16, .int 4, .ref ln]) := upd_same
    have CD := CC.new (o := .tup [.int 16, .int 4, .ref ln]) hlm
    have hln12 := s12 _ _ hln11
    generalize upd H13 lm (.tup [.int 16, .int 4, .ref ln]) = H14 at s12 hlm12 CD hln12 ⊢
    have hpal12 := s12 _ _ (s11 _ _ (C12.at npal hpal1))
    refine ⟨pl, t, v, pal, lm, ln, (1 + mm).toNat, ts, ks, ss, mt, n, [.inr wd0, .inl (wi - 7)], by rw [Int.toNat_of_nonneg (by omega)]; rfl, CD.1, .of (CD.at nt ht), .of (CD.at nv hv), hT, hSv.mono (chg_tup P7 CD), hn1, by omega, hpal12, npal, by show 1 ≤ 2; decide, by show 2 ≤ 100; decide, okpal, hlm12, hln12, nln, by omega, by omega, fun r S Sh xs shs sz H15 r0 hr S0 Sh0 nSS hS hxs lxs hsh hrun enm C15 => ?_⟩
    have x1 : 1 ≤ xs.length := by omega
    have x10 : xs.length ≤ 9 := by omega
    have nS : S ≠ pl := pool_ne' CD.1 S0
    refine ⟨r, _, rfl, .of hr, rfl, _, _, rfl, _, _, rfl, rfl, ?_⟩
    generalize hσ9 : List.set _ 9 _ = σ9
    have hh9 : σ9 = [some (V.ref p0), some (.ref pl), some (.int so), some (.ref t), some (.ref k), some (.ref v), some (.ref pal), some (.int (1 + mm)), some (.ref S), some (.ref Sh), none, none, none, none, none, none] := (by rw [← hσ9]; rfl)
    clear hσ9
    subst hh9
    have CE := CD.trans C15
    have ht15 := CE.at nt ht
    have hk15 := CE.at nk hk
    have hv15 := CE.at nv hv
    have hK15 := hK.mono (chg_tup P7 CE)
    have hSv15 := hSv.mono (chg_tup P7 CE)
    have P15 := CE.1
    have hxT : ∀ x ∈ refsOf xs, TL H15 12 x := fun x hx => by
      obtain ⟨b, hb, rfl⟩ := List.mem_map.mp hx
      obtain ⟨sz1, hsz1⟩ := runG_no hrun b.2 (List.mem_map.mpr ⟨b, hb, rfl⟩)
      exact st_tl (hxs b hb).1 (hxs b hb).2 (no_items hsz1 fun c hc => by
        obtain ⟨wd, h1, h2, h3⟩ := (hSv15.ok c hc).ok
        exact h3)
    have lrf : (refsOf xs).length = xs.length := List.length_map ..
    clear ht hk hv hK hSv hln12 hlm12 hpal12 s11 s12 CA CB CC CD CE C15 C79 C8 C9 C10 C12 hln hlm hln11 hpal hpal1 hv12 r0 q0 q1 okpal p0' p1' P7 lxs hr hxs hrun enm hsh
    -- spoiled
    refine ⟨_, rfl, so, rfl, by omega, by omega, for_range (lo := 0) (n := so.toNat) (fun i σ G => ∃ (y10 : Option V) (us : List V), σ = [some (V.ref p0), some (.ref pl), some (.int so), some (.ref t), some (.ref k), some (.ref v), some (.ref pal), some (.int (1 + mm)), some (.ref S), some (.ref Sh), y10, none, none, none, none, none] ∧ G S = some (.lst us) ∧ us.length ≤ 9 + 6 * i ∧ (∀ x ∈ us, TL G (12 + i) x) ∧ ChS pl S H15 G) ⟨none, refsOf xs, rfl, hS, by omega, hxT, ChS.refl P15⟩ (fun i σ G hi hp => ?_) (fun σ G hp => ?_)⟩
    · obtain ⟨y10, us, rfl, hSG, lus, hu, CG⟩ := hp
      refine ⟨_, rfl, Nat.zero_le _, fun e he => ?_⟩
      have se := same_upd (o := .lst []) he
      have hSe := se _ _ hSG
      have huE : ∀ x ∈ us, TL (upd G e (.lst [])) (12 + i) x := fun x hx => (hu x hx).kp (Kp.same se)
      have CGe := CG.same se
      have hee : upd G e (.lst []) e = some (.lst []) := upd_same
      generalize upd G e (.lst []) = G1 at hSe huE CGe hee ⊢
      refine ⟨S, e, us, rfl, rfl, hSe, hee, _, rfl, ?_⟩
      cases us with
      | nil => exact ifF ⟨_, [], rfl, hSe, Nat.zero_le _, (fun x h => by cases h), CGe⟩
      | cons z zs =>
        refine ifT ?_
        exact ⟨_, rfl, _, rfl, _, rfl, pl, S, v, z :: zs, 12 + i, ts, ks, ss, n, rfl, CGe.1, hSe, nS, by simp, CGe.dct P15 hS (.of hv15), hSv15.mono (CGe.tup P15 hS), hn1, by omega, by omega, by omega, by omega, huE, fun xs' G2 h1 h2 h3 h4 => ⟨_, xs', rfl, h1, by omega, h3, CGe.trans h4⟩⟩
    obtain ⟨y10, us, rfl, hSG, lus, hu, CG⟩ := hp
    have so2 : so.toNat ≤ 2 := by omega
    have lus' : us.length ≤ 21 := by omega
    have hu3 : ∀ x ∈ us, Th3 G x := fun x hx => (hu x hx).t3 (by omega)
    have tG : ∀ {c : Addr} {kvs : List (Key × V)}, H15 c = some (.dK kvs) → G c = some (.dK kvs) := fun {c kvs} e => CG.2 c _ (pool_ne P15 e (by intro _ z; cases z)) (fun z => by rw [z, hS] at e; cases e) e
    have htG := tG ht15
    have hkG := tG hk15
    have hvG := tG hv15
    have hKG := hK15.mono (CG.tup P15 hS)
    have hSvG := hSv15.mono (CG.tup P15 hS)
    clear hxT hS CG P15 ht15 hk15 hv15 hK15 hSv15 lrf lus hu tG so2
    -- a list of them
    refine ⟨_, rfl, S, us, rfl, .inl (.of hSG), fun hd hhd => ?_⟩
    have s1 := same_upd (o := .lst us) hhd
    have hdG := upd_same (H := G) (a := hd) (o := .lst us)
    have nhd : hd ≠ S := (ne_of_none hSG hhd).symm
    generalize upd G hd (.lst us) = G1 at s1 hdG ⊢
    generalize hσ9 : List.set _ 12 _ = σ9
    have hh9 : σ9 = [some (V.ref p0), some (.ref pl), some (.int so), some (.ref t), some (.ref k), some (.ref v), some (.ref pal), some (.int (1 + mm)), some (.ref S), some (.ref Sh), y10, some .non, some (.bl true), none, none, none] := (by rw [← hσ9]; rfl)
    clear hσ9
    subst hh9
    have ht1 := s1 _ _ htG
    have hk1 := s1 _ _ hkG
    have hv1 := s1 _ _ hvG
    have hK1 := hKG.mono fun _ _ e => s1 _ _ e
    have hSv1 := hSvG.mono fun _ _ e => s1 _ _ e
    have hS1 := s1 _ _ hSG
    have hu1 : ∀ x ∈ us, Th3 G1 x := fun x hx => (hu3 x hx).kp (Kp.same s1)
    clear htG hkG hvG hKG hSvG hSG hu3 s1
    -- the end: what is told is what is due
    have fin : ∀ {R : VK} {G' : Hp} {r : Addr} {ru : List V}, Same G1 G' → ((∃ dd, (∀ (H : Hp) (r : Addr), H r = some (.tup ru) → Dp K H (.ref r) dd) ∧ SeqAt.shaped dd = true ∧ PyData.eqv dd dd = true)) → G' r = some (.tup ru) →
        ((¬ (1 ≤ us.length ∧ us.length ≤ 12) → ru = [.str "steps", .non]) ∧ (1 ≤ us.length → us.length ≤ 12 → (∀ u i, runV G1 ts ss us sz0 0 = .inl (u, i) → ru = [.str u, .int (i : Nat)]) ∧ (∀ sz u, runV G1 ts ss us sz0 0 = .inr sz → us.getLast? = some u → ru = szV (szOf sz (stV G1 u).name)))) →
        (∀ (r' : Addr) (G2 : Hp) (dd : PyData), Dp K G2 (.ref r) dd → Dp K G2 (.ref r') dd → SeqAt.shaped dd = true → PyData.eqv dd dd = true → Same G1 G2 → R (.ref r') G2) → spDue [.ref t, .ref v, .ref S] G' R E0 := fun {R G' r ru} s hd0 hr0 he hR => by
      obtain ⟨dd, hdd, dsh, deq⟩ := hd0
      have er : runV G' ts ss us sz0 0 = runV G1 ts ss us sz0 0 := runV_kp (Kp.same s) hu1
      refine ⟨t, v, S, us, ts, ks, ss, mt, n, rfl, s _ _ ht1, s _ _ hv1, hT, hSv1.mono (fun _ _ e => s _ _ e), s _ _ hS1, fun x hx => (hu1 x hx).kp (Kp.same s), by omega, fun h r' H' hr' s' => ?_, fun a1 a2 => ⟨fun u i e r' H' hr' s' => ?_, fun sz u e eu r' H' hr' s' => ?_⟩⟩
      · have := he.1 h
        subst this
        exact hR r' H' dd (hdd _ _ (s' _ _ hr0)) (hdd _ _ hr') dsh deq (s.trans s')
      · have := (he.2 a1 a2).1 u i (er.symm.trans e)
        subst this
        exact hR r' H' dd (hdd _ _ (s' _ _ hr0)) (hdd _ _ hr') dsh deq (s.trans s')
      · have hum : u ∈ us := List.mem_of_getLast? eu
        have hf := runV_form (er.symm.trans e) u hum
        have := (he.2 a1 a2).2 sz u (er.symm.trans e) eu
        rw [stV_kp hf (hu1 u hum) (Kp.same s)] at hr'
        subst this
        exact hR r' H' dd (hdd _ _ (s' _ _ hr0)) (hdd _ _ hr') dsh deq (s.trans s')
    have eqh : ∀ {G' : Hp}, Same G1 G' → NEq K G' 1 (.ref hd) (.ref S) true := fun {G'} s => by
      have := NEq.lst (K := K) (n := 0) (e := fun _ => true) nhd (s _ _ hdG) (s _ _ hS1) rfl (fun j x y h1 h2 => by
        rw [h1] at h2
        cases h2
        exact neq_self ((hu1 x (List.mem_of_getElem? h1)).th.kp (Kp.same s)))
      rw [show (List.range us.length).all (fun _ => true) = true from List.all_eq_true.mpr fun _ _ => rfl] at this
      exact this
    -- the program
    refine ⟨_, rfl, _, rfl, _, rfl, fun x dx fx fdx ndx => mk_schema (.of ht1) (.of hk1) (.of hv1) hT hK1 hSv1 hm1 hm5 hn1 (by omega) fx fdx ndx fun G2 hx s2 => ?_⟩
    have e2 : runV G2 ts ss us sz0 0 = runV G1 ts ss us sz0 0 := runV_kp (Kp.same s2) hu1
    refine ⟨_, rfl, fun pr dp fp fdp ndp => mk_progX hx (s2 _ _ hdG) (fun x hx => (hu1 x hx).kp (Kp.same s2)) (by omega) fp fdp ndp (fun h G3 s3 => ?_) (fun a1 a2 u i e G3 s3 => ?_) (fun a1 a2 sz u e eu G3 l' hp s3 => ?_)⟩
    · intro xd G4 hxd hxd4 s4
      have s14 := (s2.trans s3).trans s4
      refine ⟨true, T.exm_5_5, fun _ ea hea => ?_, fun z => Bool.noConfusion z⟩
      refine ⟨_, rfl, rfl, rfl, xd, _, _, rfl, hxd4, rfl, _, rfl, rfl, rfl, xd, _, _, rfl, hxd4, rfl, by show 2 ≤ sizeLine; decide, fun r2 hr2 => ?_⟩
      have s5 := same_upd (o := .tup [.str "steps", .non]) hr2
      have e5 := upd_same (H := G4) (a := r2) (o := .tup [.str "steps", .non])
      have hxd5 := s5 _ _ hxd4
      have s15 := s14.trans s5
      generalize upd G4 r2 (.tup [.str "steps", .non]) = G5 at s5 e5 hxd5 s15 ⊢
      refine ⟨_, rfl, xd, _, _, _, true, rfl, rfl, hxd5, rfl, fun u hu => hu, T.kit_5_2, true, rfl, ifT ?_⟩
      refine ⟨_, rfl, xd, _, _, _, true, rfl, rfl, hxd5, rfl, fun u hu => hu, T.kit_5_ValueError, true, rfl, ifT ?_⟩
      refine ⟨_, rfl, xd, _, _, _, false, rfl, rfl, hxd5, rfl, fun u hu => hu, T.kif_5_4, false, rfl, ?_⟩
      refine ⟨_, rfl, _, rfl, _, rfl, _, rfl, ?_⟩
      unfold tNil
      dsimp only
      exact fin s15 (told_at (e := .none) (parts_low "steps" (by simp)) rfl rfl (fun _ => .non)) e5 ⟨fun _ => rfl, fun a1 a2 => absurd ⟨a1, a2⟩ h⟩ fun r' G6 dd d1 d2 sh deq s6 => ⟨dd, dd, d1, d2, sh, sh, true, by rw [deq], ifT ⟨_, rfl, true, rfl, ifT ⟨_, rfl, _, rfl, 1, true, by decide, (fun p e z => nhd (V.ref.inj (e.trans z.symm))), eqh s6, q _⟩⟩⟩
    · intro xd G4 hxd hxd4 s4
      have s14 := (s2.trans s3).trans s4
      refine ⟨true, T.exm_5_5, fun _ ea hea => ?_, fun z => Bool.noConfusion z⟩
      refine ⟨_, rfl, rfl, rfl, xd, _, _, rfl, hxd4, rfl, _, rfl, rfl, rfl, xd, _, _, rfl, hxd4, rfl, by show 2 ≤ sizeLine; decide, fun r2 hr2 => ?_⟩
      have s5 := same_upd (o := .tup [.str u, .int (i : Nat)]) hr2
      have e5 := upd_same (H := G4) (a := r2) (o := .tup [.str u, .int (i : Nat)])
      have hxd5 := s5 _ _ hxd4
      have s15 := s14.trans s5
      generalize upd G4 r2 (.tup [.str u, .int (i : Nat)]) = G5 at s5 e5 hxd5 s15 ⊢
      refine ⟨_, rfl, xd, _, _, _, true, rfl, rfl, hxd5, rfl, fun u hu => hu, T.kit_5_2, true, rfl, ifT ?_⟩
      refine ⟨_, rfl, xd, _, _, _, true, rfl, rfl, hxd5, rfl, fun u hu => hu, T.kit_5_ValueError, true, rfl, ifT ?_⟩
      refine ⟨_, rfl, xd, _, _, _, false, rfl, rfl, hxd5, rfl, fun u hu => hu, T.kif_5_4, false, rfl, ?_⟩
      refine ⟨_, rfl, _, rfl, _, rfl, _, rfl, ?_⟩
      unfold tNil
      dsimp only
      exact fin s15 (told_at (e := .int (i : Nat)) (parts_low u (List.mem_cons_of_mem _ (runV_low e))) rfl rfl (fun _ => .int _)) e5 ⟨fun h => absurd ⟨a1, a2⟩ h, fun _ _ => ⟨(fun u' i' e' => by rw [e2, e'] at e; cases e; rfl), (fun sz u' e' _ => by rw [e2, e'] at e; cases e)⟩⟩ fun r' G6 dd d1 d2 sh deq s6 => ⟨dd, dd, d1, d2, sh, sh, true, by rw [deq], ifT ⟨_, rfl, true, rfl, ifT ⟨_, rfl, _, rfl, 1, true, by decide, (fun p e z => nhd (V.ref.inj (e.trans z.symm))), eqh s6, q _⟩⟩⟩
    · refine ⟨_, rfl, pr, _, dp, _, _, rfl, hp, T.cl_30, T.no_30_width, fldp_w _ _ _, ?_⟩
      refine ⟨_, rfl, pr, _, dp, _, _, rfl, hp, T.cl_30, T.no_30_part_count, fldp_p _ _ _, ?_⟩
      refine ⟨_, rfl, pr, _, dp, _, _, rfl, hp, T.cl_30, T.no_30_call_count, fldp_c _ _ _, by show 3 ≤ sizeLine; decide, fun r2 hr2 => ?_⟩
      have hum : u ∈ us := List.mem_of_getLast? eu
      have e1 := e2.symm.trans e
      have ev : stV G2 u = stV G1 u := stV_kp (runV_form e1 u hum) (hu1 u hum) (Kp.same s2)
      have s5 := (s2.trans s3).trans (same_upd (o := .tup (szV (szOf sz (stV G2 u).name))) hr2)
      have e5 := upd_same (H := G3) (a := r2) (o := .tup (szV (szOf sz (stV G2 u).name)))
      have s5 : Same G1 (upd G3 r2 (.tup (szV (szOf sz (stV G2 u).name)))) := s5
      refine ⟨_, rfl, _, rfl, _, rfl, _, rfl, ?_⟩
      unfold tNil
      dsimp only
      exact fin s5 (told_sz _) e5 ⟨fun h => absurd ⟨a1, a2⟩ h, fun _ _ => ⟨(fun u' i' e' => by rw [e1] at e'; cases e'), (fun sz' u' e' eu' => by
        rw [e1] at e'
        cases e'
        rw [eu] at eu'
        cases eu'
        rw [ev])⟩⟩ fun r' G6 dd d1 d2 sh deq s6 => ⟨dd, dd, d1, d2, sh, sh, true, by rw [deq], ifT ⟨_, rfl, true, rfl, ifT ⟨_, rfl, _, rfl, 1, true, by decide, (fun p e z => nhd (V.ref.inj (e.trans z.symm))), eqh s6, q _⟩⟩⟩
end
theorem all_mk {P : Program} {w : World} {K : PySem.W.Frag} {h : Heap} {mg : Str → Option Value} {fa : Addr} (X : K.In h) (G : h.Ns mainGlobals mg) (hfa : mg "law" = some (.ref fa))
    {f1300 : Addr} {od1300 an1300 : Option Addr} {sl1300 : Array (Option Value)} {oc1300 kV1300 dc1300 pm1300 cd1300 ct1300 : Value}
    {f1500 : Addr} {od1500 an1500 : Option Addr} {sl1500 : Array (Option Value)} {oc1500 kV1500 dc1500 pm1500 cd1500 ct1500 : Value}
    {f9 : Addr} {od9 an9 : Option Addr} {sl9 : Array (Option Value)} {oc9 kV9 dc9 pm9 cd9 ct9 : Value}
    {f10 : Addr} {od10 an10 : Option Addr} {sl10 : Array (Option Value)} {oc10 kV10 dc10 pm10 cd10 ct10 : Value}
    {f11 : Addr} {od11 an11 : Option Addr} {sl11 : Array (Option Value)} {oc11 kV11 dc11 pm11 cd11 ct11 : Value}
    {f36 : Addr} {od36 an36 : Option Addr} {sl36 : Array (Option Value)} {oc36 kV36 dc36 pm36 cd36 ct36 : Value}
    {f37 : Addr} {od37 an37 : Option Addr} {sl37 : Array (Option Value)} {oc37 kV37 dc37 pm37 cd37 ct37 : Value}
    {f38 : Addr} {od38 an38 : Option Addr} {sl38 : Array (Option Value)} {oc38 kV38 dc38 pm38 cd38 ct38 : Value}
    {f39 : Addr} {od39 an39 : Option Addr} {sl39 : Array (Option Value)} {oc39 kV39 dc39 pm39 cd39 ct39 : Value}
    {f40 : Addr} {od40 an40 : Option Addr} {sl40 : Array (Option Value)} {oc40 kV40 dc40 pm40 cd40 ct40 : Value}
    {f41 : Addr} {od41 an41 : Option Addr} {sl41 : Array (Option Value)} {oc41 kV41 dc41 pm41 cd41 ct41 : Value}
    {f42 : Addr} {od42 an42 : Option Addr} {sl42 : Array (Option Value)} {oc42 kV42 dc42 pm42 cd42 ct42 : Value}
    {f43 : Addr} {od43 an43 : Option Addr} {sl43 : Array (Option Value)} {oc43 kV43 dc43 pm43 cd43 ct43 : Value}
    {f44 : Addr} {od44 an44 : Option Addr} {sl44 : Array (Option Value)} {oc44 kV44 dc44 pm44 cd44 ct44 : Value}
    {f45 : Addr} {od45 an45 : Option Addr} {sl45 : Array (Option Value)} {oc45 kV45 dc45 pm45 cd45 ct45 : Value}
    {f46 : Addr} {od46 an46 : Option Addr} {sl46 : Array (Option Value)} {oc46 kV46 dc46 pm46 cd46 ct46 : Value}
    {f5700 : Addr} {od5700 an5700 : Option Addr} {sl5700 : Array (Option Value)} {oc5700 kV5700 dc5700 pm5700 cd5700 ct5700 : Value}
    {f5706 : Addr} {od5706 an5706 : Option Addr} {sl5706 : Array (Option Value)} {oc5706 kV5706 dc5706 pm5706 cd5706 ct5706 : Value}
    {f5708 : Addr} {od5708 an5708 : Option Addr} {sl5708 : Array (Option Value)} {oc5708 kV5708 dc5708 pm5708 cd5708 ct5708 : Value}
    {f5710 : Addr} {od5710 an5710 : Option Addr} {sl5710 : Array (Option Value)} {oc5710 kV5710 dc5710 pm5710 cd5710 ct5710 : Value}
    {f19 : Addr} {od19 an19 : Option Addr} {sl19 : Array (Option Value)} {oc19 kV19 dc19 pm19 cd19 ct19 : Value}
    {f20 : Addr} {od20 an20 : Option Addr} {sl20 : Array (Option Value)} {oc20 kV20 dc20 pm20 cd20 ct20 : Value}
    {f21 : Addr} {od21 an21 : Option Addr} {sl21 : Array (Option Value)} {oc21 kV21 dc21 pm21 cd21 ct21 : Value}
    {f22 : Addr} {od22 an22 : Option Addr} {sl22 : Array (Option Value)} {oc22 kV22 dc22 pm22 cd22 ct22 : Value}
    {f23 : Addr} {od23 an23 : Option Addr} {sl23 : Array (Option Value)} {oc23 kV23 dc23 pm23 cd23 ct23 : Value}
    {f24 : Addr} {od24 an24 : Option Addr} {sl24 : Array (Option Value)} {oc24 kV24 dc24 pm24 cd24 ct24 : Value}
    {f25 : Addr} {od25 an25 : Option Addr} {sl25 : Array (Option Value)} {oc25 kV25 dc25 pm25 cd25 ct25 : Value}
    {f26 : Addr} {od26 an26 : Option Addr} {sl26 : Array (Option Value)} {oc26 kV26 dc26 pm26 cd26 ct26 : Value}
    {f27 : Addr} {od27 an27 : Option Addr} {sl27 : Array (Option Value)} {oc27 kV27 dc27 pm27 cd27 ct27 : Value}
    {f28 : Addr} {od28 an28 : Option Addr} {sl28 : Array (Option Value)} {oc28 kV28 dc28 pm28 cd28 ct28 : Value}
    {f29 : Addr} {od29 an29 : Option Addr} {sl29 : Array (Option Value)} {oc29 kV29 dc29 pm29 cd29 ct29 : Value}
    {f4000 : Addr} {od4000 an4000 : Option Addr} {sl4000 : Array (Option Value)} {oc4000 kV4000 dc4000 pm4000 cd4000 ct4000 : Value}
    {f49 : Addr} {od49 an49 : Option Addr} {sl49 : Array (Option Value)} {oc49 kV49 dc49 pm49 cd49 ct49 : Value}
    {f50 : Addr} {od50 an50 : Option Addr} {sl50 : Array (Option Value)} {oc50 kV50 dc50 pm50 cd50 ct50 : Value}
    {f51 : Addr} {od51 an51 : Option Addr} {sl51 : Array (Option Value)} {oc51 kV51 dc51 pm51 cd51 ct51 : Value}
    {f52 : Addr} {od52 an52 : Option Addr} {sl52 : Array (Option Value)} {oc52 kV52 dc52 pm52 cd52 ct52 : Value}
    {f53 : Addr} {od53 an53 : Option Addr} {sl53 : Array (Option Value)} {oc53 kV53 dc53 pm53 cd53 ct53 : Value}
    {f54 : Addr} {od54 an54 : Option Addr} {sl54 : Array (Option Value)} {oc54 kV54 dc54 pm54 cd54 ct54 : Value}
    {f55 : Addr} {od55 an55 : Option Addr} {sl55 : Array (Option Value)} {oc55 kV55 dc55 pm55 cd55 ct55 : Value}
    {f56 : Addr} {od56 an56 : Option Addr} {sl56 : Array (Option Value)} {oc56 kV56 dc56 pm56 cd56 ct56 : Value}
    {f57 : Addr} {od57 an57 : Option Addr} {sl57 : Array (Option Value)} {oc57 kV57 dc57 pm57 cd57 ct57 : Value}
    {f58 : Addr} {od58 an58 : Option Addr} {sl58 : Array (Option Value)} {oc58 kV58 dc58 pm58 cd58 ct58 : Value}
    {f59 : Addr} {od59 an59 : Option Addr} {sl59 : Array (Option Value)} {oc59 kV59 dc59 pm59 cd59 ct59 : Value}
    {f60 : Addr} {od60 an60 : Option Addr} {sl60 : Array (Option Value)} {oc60 kV60 dc60 pm60 cd60 ct60 : Value}
    {f61 : Addr} {od61 an61 : Option Addr} {sl61 : Array (Option Value)} {oc61 kV61 dc61 pm61 cd61 ct61 : Value}
    {f62 : Addr} {od62 an62 : Option Addr} {sl62 : Array (Option Value)} {oc62 kV62 dc62 pm62 cd62 ct62 : Value}
    {f63 : Addr} {od63 an63 : Option Addr} {sl63 : Array (Option Value)} {oc63 kV63 dc63 pm63 cd63 ct63 : Value}
    {f64 : Addr} {od64 an64 : Option Addr} {sl64 : Array (Option Value)} {oc64 kV64 dc64 pm64 cd64 ct64 : Value}
    {f65 : Addr} {od65 an65 : Option Addr} {sl65 : Array (Option Value)} {oc65 kV65 dc65 pm65 cd65 ct65 : Value}
    {f66 : Addr} {od66 an66 : Option Addr} {sl66 : Array (Option Value)} {oc66 kV66 dc66 pm66 cd66 ct66 : Value}
    {f67 : Addr} {od67 an67 : Option Addr} {sl67 : Array (Option Value)} {oc67 kV67 dc67 pm67 cd67 ct67 : Value}
    {f68 : Addr} {od68 an68 : Option Addr} {sl68 : Array (Option Value)} {oc68 kV68 dc68 pm68 cd68 ct68 : Value}
    {f69 : Addr} {od69 an69 : Option Addr} {sl69 : Array (Option Value)} {oc69 kV69 dc69 pm69 cd69 ct69 : Value}
    {f70 : Addr} {od70 an70 : Option Addr} {sl70 : Array (Option Value)} {oc70 kV70 dc70 pm70 cd70 ct70 : Value}
    {f71 : Addr} {od71 an71 : Option Addr} {sl71 : Array (Option Value)} {oc71 kV71 dc71 pm71 cd71 ct71 : Value}
    {f72 : Addr} {od72 an72 : Option Addr} {sl72 : Array (Option Value)} {oc72 kV72 dc72 pm72 cd72 ct72 : Value}
    {f73 : Addr} {od73 an73 : Option Addr} {sl73 : Array (Option Value)} {oc73 kV73 dc73 pm73 cd73 ct73 : Value}
    {f74 : Addr} {od74 an74 : Option Addr} {sl74 : Array (Option Value)} {oc74 kV74 dc74 pm74 cd74 ct74 : Value}
    {f75 : Addr} {od75 an75 : Option Addr} {sl75 : Array (Option Value)} {oc75 kV75 dc75 pm75 cd75 ct75 : Value}
    {f76 : Addr} {od76 an76 : Option Addr} {sl76 : Array (Option Value)} {oc76 kV76 dc76 pm76 cd76 ct76 : Value}
    {f77 : Addr} {od77 an77 : Option Addr} {sl77 : Array (Option Value)} {oc77 kV77 dc77 pm77 cd77 ct77 : Value}
    {f78 : Addr} {od78 an78 : Option Addr} {sl78 : Array (Option Value)} {oc78 kV78 dc78 pm78 cd78 ct78 : Value}
    {f79 : Addr} {od79 an79 : Option Addr} {sl79 : Array (Option Value)} {oc79 kV79 dc79 pm79 cd79 ct79 : Value}
    {f2 : Addr}
    {nm_2 qn_2 : Str} {N_2 : Addr} {bs_2 : List Value} {sn_2 : List Str} {sub_2 : List Value} {ab_2 : Bool} {col_2 : Option Bool} {dd_2 : Option Addr} {m0_2 m1_2 m2_2 m3_2 m5_2 : Option Value}
    {f3 : Addr}
    {nm_3 qn_3 : Str} {N_3 : Addr} {bs_3 : List Value} {sn_3 : List Str} {sub_3 : List Value} {ab_3 : Bool} {col_3 : Option Bool} {dd_3 : Option Addr} {m0_3 m1_3 m2_3 m3_3 m5_3 : Option Value}
    {f4 : Addr}
    {nm_4 qn_4 : Str} {N_4 : Addr} {bs_4 : List Value} {sn_4 : List Str} {sub_4 : List Value} {ab_4 : Bool} {col_4 : Option Bool} {dd_4 : Option Addr} {m0_4 m1_4 m2_4 m3_4 m5_4 : Option Value}
    {f5 : Addr}
    {nm_5 qn_5 : Str} {N_5 : Addr} {bs_5 : List Value} {sn_5 : List Str} {sub_5 : List Value} {ab_5 : Bool} {col_5 : Option Bool} {dd_5 : Option Addr} {m0_5 m1_5 m2_5 m3_5 m5_5 : Option Value}
    {f47 : Addr}
    {f30 : Addr}
    {tw90017_start : Tok}
    {tw90017_call : Tok}
    {tw90017_both : Tok}
    {tw90017_pair : Tok}
    {tw90017_where : Tok}
    {tw90017_take : Tok}
    {ew90017 : Array DictEntry} {nw90017 : Nat}
    {f90017 : Addr}
    {tw90018_start : Tok}
    {tw90018_call : Tok}
    {tw90018_both : Tok}
    {tw90018_pair : Tok}
    {tw90018_where : Tok}
    {tw90018_take : Tok}
    {ew90018 : Array DictEntry} {nw90018 : Nat}
    {f90018 : Addr}
    (ac_2 : PySem.W.nsIn K mainGlobals "CappedError" = some (some (.ref f2)))
    (ac_3 : PySem.W.nsIn K mainGlobals "UnknownName" = some (some (.ref f3)))
    (ac_4 : PySem.W.nsIn K mainGlobals "InvalidSchema" = some (some (.ref f4)))
    (ac_5 : PySem.W.nsIn K mainGlobals "InvalidProgram" = some (some (.ref f5)))
    (ac_47 : PySem.W.nsIn K mainGlobals "Schema" = some (some (.ref f47)))
    (ac_30 : PySem.W.nsIn K mainGlobals "Program" = some (some (.ref f30)))
    (ac_90017 : PySem.W.nsIn K mainGlobals "_LENGTHS" = some (some (.ref f90017)))
    (ac_90018 : PySem.W.nsIn K mainGlobals "_NAMES" = some (some (.ref f90018)))
    (fi_3 : PySem.W.findIn K (.ref f3) "__init__" = some (some (.ref f1300)))
    (fi_5 : PySem.W.findIn K (.ref f5) "__init__" = some (some (.ref f1500)))
    (fi_47 : PySem.W.findIn K (.ref f47) "__init__" = some (some (.ref f5700)))
    (fi_30 : PySem.W.findIn K (.ref f30) "__init__" = some (some (.ref f4000)))
    (ma_5706 : PySem.W.findIn K (.ref f47) "service_names" = some (some (.ref f5706)))
    (ma_5708 : PySem.W.findIn K (.ref f47) "width_of" = some (some (.ref f5708)))
    (ma_5710 : PySem.W.findIn K (.ref f47) "service_of" = some (some (.ref f5710)))
    (l1300 : K.lookup f1300 = some ⟨oc1300, od1300, .func (PySem.W.fnOf "__init__" "UnknownName.__init__" (defArgs s_UnknownName___init__) (defBody s_UnknownName___init__) (defScope s_UnknownName___init__) .none kV1300 dc1300 pm1300 an1300 cd1300 ct1300), sl1300⟩) (c1300 : PySem.W.codeIn K cd1300 "UnknownName.__init__" = true) (k1300 : PySem.W.keepIn K (.ref f1300) = true)
    (l1500 : K.lookup f1500 = some ⟨oc1500, od1500, .func (PySem.W.fnOf "__init__" "InvalidProgram.__init__" (defArgs s_InvalidProgram___init__) (defBody s_InvalidProgram___init__) (defScope s_InvalidProgram___init__) .none kV1500 dc1500 pm1500 an1500 cd1500 ct1500), sl1500⟩) (c1500 : PySem.W.codeIn K cd1500 "InvalidProgram.__init__" = true) (k1500 : PySem.W.keepIn K (.ref f1500) = true)
    (a9 : PySem.W.nsIn K mainGlobals "is_plain_int" = some (some (.ref f9))) (l9 : K.lookup f9 = some ⟨oc9, od9, .func (PySem.W.fnOf "is_plain_int" "is_plain_int" (defArgs s_is_plain_int) (defBody s_is_plain_int) (defScope s_is_plain_int) .none kV9 dc9 pm9 an9 cd9 ct9), sl9⟩) (c9 : PySem.W.codeIn K cd9 "is_plain_int" = true) (k9 : PySem.W.keepIn K (.ref f9) = true)
    (a10 : PySem.W.nsIn K mainGlobals "is_word" = some (some (.ref f10))) (l10 : K.lookup f10 = some ⟨oc10, od10, .func (PySem.W.fnOf "is_word" "is_word" (defArgs s_is_word) (defBody s_is_word) (defScope s_is_word) .none kV10 dc10 pm10 an10 cd10 ct10), sl10⟩) (c10 : PySem.W.codeIn K cd10 "is_word" = true) (k10 : PySem.W.keepIn K (.ref f10) = true)
    (a11 : PySem.W.nsIn K mainGlobals "is_value" = some (some (.ref f11))) (l11 : K.lookup f11 = some ⟨oc11, od11, .func (PySem.W.fnOf "is_value" "is_value" (defArgs s_is_value) (defBody s_is_value) (defScope s_is_value) .none kV11 dc11 pm11 an11 cd11 ct11), sl11⟩) (c11 : PySem.W.codeIn K cd11 "is_value" = true) (k11 : PySem.W.keepIn K (.ref f11) = true)
    (a36 : PySem.W.nsIn K mainGlobals "_is_count" = some (some (.ref f36))) (l36 : K.lookup f36 = some ⟨oc36, od36, .func (PySem.W.fnOf "_is_count" "_is_count" (defArgs s__is_count) (defBody s__is_count) (defScope s__is_count) .none kV36 dc36 pm36 an36 cd36 ct36), sl36⟩) (c36 : PySem.W.codeIn K cd36 "_is_count" = true) (k36 : PySem.W.keepIn K (.ref f36) = true)
    (a37 : PySem.W.nsIn K mainGlobals "_is_name_in" = some (some (.ref f37))) (l37 : K.lookup f37 = some ⟨oc37, od37, .func (PySem.W.fnOf "_is_name_in" "_is_name_in" (defArgs s__is_name_in) (defBody s__is_name_in) (defScope s__is_name_in) .none kV37 dc37 pm37 an37 cd37 ct37), sl37⟩) (c37 : PySem.W.codeIn K cd37 "_is_name_in" = true) (k37 : PySem.W.keepIn K (.ref f37) = true)
    (a38 : PySem.W.nsIn K mainGlobals "_are_columns" = some (some (.ref f38))) (l38 : K.lookup f38 = some ⟨oc38, od38, .func (PySem.W.fnOf "_are_columns" "_are_columns" (defArgs s__are_columns) (defBody s__are_columns) (defScope s__are_columns) .none kV38 dc38 pm38 an38 cd38 ct38), sl38⟩) (c38 : PySem.W.codeIn K cd38 "_are_columns" = true) (k38 : PySem.W.keepIn K (.ref f38) = true)
    (a39 : PySem.W.nsIn K mainGlobals "_is_key" = some (some (.ref f39))) (l39 : K.lookup f39 = some ⟨oc39, od39, .func (PySem.W.fnOf "_is_key" "_is_key" (defArgs s__is_key) (defBody s__is_key) (defScope s__is_key) .none kV39 dc39 pm39 an39 cd39 ct39), sl39⟩) (c39 : PySem.W.codeIn K cd39 "_is_key" = true) (k39 : PySem.W.keepIn K (.ref f39) = true)
    (a40 : PySem.W.nsIn K mainGlobals "_is_service" = some (some (.ref f40))) (l40 : K.lookup f40 = some ⟨oc40, od40, .func (PySem.W.fnOf "_is_service" "_is_service" (defArgs s__is_service) (defBody s__is_service) (defScope s__is_service) .none kV40 dc40 pm40 an40 cd40 ct40), sl40⟩) (c40 : PySem.W.codeIn K cd40 "_is_service" = true) (k40 : PySem.W.keepIn K (.ref f40) = true)
    (a41 : PySem.W.nsIn K mainGlobals "_is_whole_service" = some (some (.ref f41))) (l41 : K.lookup f41 = some ⟨oc41, od41, .func (PySem.W.fnOf "_is_whole_service" "_is_whole_service" (defArgs s__is_whole_service) (defBody s__is_whole_service) (defScope s__is_whole_service) .none kV41 dc41 pm41 an41 cd41 ct41), sl41⟩) (c41 : PySem.W.codeIn K cd41 "_is_whole_service" = true) (k41 : PySem.W.keepIn K (.ref f41) = true)
    (a42 : PySem.W.nsIn K mainGlobals "_check_tables" = some (some (.ref f42))) (l42 : K.lookup f42 = some ⟨oc42, od42, .func (PySem.W.fnOf "_check_tables" "_check_tables" (defArgs s__check_tables) (defBody s__check_tables) (defScope s__check_tables) .none kV42 dc42 pm42 an42 cd42 ct42), sl42⟩) (c42 : PySem.W.codeIn K cd42 "_check_tables" = true) (k42 : PySem.W.keepIn K (.ref f42) = true)
    (a43 : PySem.W.nsIn K mainGlobals "_check_keys" = some (some (.ref f43))) (l43 : K.lookup f43 = some ⟨oc43, od43, .func (PySem.W.fnOf "_check_keys" "_check_keys" (defArgs s__check_keys) (defBody s__check_keys) (defScope s__check_keys) .none kV43 dc43 pm43 an43 cd43 ct43), sl43⟩) (c43 : PySem.W.codeIn K cd43 "_check_keys" = true) (k43 : PySem.W.keepIn K (.ref f43) = true)
    (a44 : PySem.W.nsIn K mainGlobals "_check_services" = some (some (.ref f44))) (l44 : K.lookup f44 = some ⟨oc44, od44, .func (PySem.W.fnOf "_check_services" "_check_services" (defArgs s__check_services) (defBody s__check_services) (defScope s__check_services) .none kV44 dc44 pm44 an44 cd44 ct44), sl44⟩) (c44 : PySem.W.codeIn K cd44 "_check_services" = true) (k44 : PySem.W.keepIn K (.ref f44) = true)
    (a45 : PySem.W.nsIn K mainGlobals "_check_capped" = some (some (.ref f45))) (l45 : K.lookup f45 = some ⟨oc45, od45, .func (PySem.W.fnOf "_check_capped" "_check_capped" (defArgs s__check_capped) (defBody s__check_capped) (defScope s__check_capped) .none kV45 dc45 pm45 an45 cd45 ct45), sl45⟩) (c45 : PySem.W.codeIn K cd45 "_check_capped" = true) (k45 : PySem.W.keepIn K (.ref f45) = true)
    (a46 : PySem.W.nsIn K mainGlobals "_copied" = some (some (.ref f46))) (l46 : K.lookup f46 = some ⟨oc46, od46, .func (PySem.W.fnOf "_copied" "_copied" (defArgs s__copied) (defBody s__copied) (defScope s__copied) .none kV46 dc46 pm46 an46 cd46 ct46), sl46⟩) (c46 : PySem.W.codeIn K cd46 "_copied" = true) (k46 : PySem.W.keepIn K (.ref f46) = true)
    (l5700 : K.lookup f5700 = some ⟨oc5700, od5700, .func (PySem.W.fnOf "__init__" "Schema.__init__" (defArgs s_Schema___init__) (defBody s_Schema___init__) (defScope s_Schema___init__) .none kV5700 dc5700 pm5700 an5700 cd5700 ct5700), sl5700⟩) (c5700 : PySem.W.codeIn K cd5700 "Schema.__init__" = true) (k5700 : PySem.W.keepIn K (.ref f5700) = true)
    (l5706 : K.lookup f5706 = some ⟨oc5706, od5706, .func (PySem.W.fnOf "service_names" "Schema.service_names" (defArgs s_Schema_service_names) (defBody s_Schema_service_names) (defScope s_Schema_service_names) .none kV5706 dc5706 pm5706 an5706 cd5706 ct5706), sl5706⟩) (c5706 : PySem.W.codeIn K cd5706 "Schema.service_names" = true) (k5706 : PySem.W.keepIn K (.ref f5706) = true)
    (l5708 : K.lookup f5708 = some ⟨oc5708, od5708, .func (PySem.W.fnOf "width_of" "Schema.width_of" (defArgs s_Schema_width_of) (defBody s_Schema_width_of) (defScope s_Schema_width_of) .none kV5708 dc5708 pm5708 an5708 cd5708 ct5708), sl5708⟩) (c5708 : PySem.W.codeIn K cd5708 "Schema.width_of" = true) (k5708 : PySem.W.keepIn K (.ref f5708) = true)
    (l5710 : K.lookup f5710 = some ⟨oc5710, od5710, .func (PySem.W.fnOf "service_of" "Schema.service_of" (defArgs s_Schema_service_of) (defBody s_Schema_service_of) (defScope s_Schema_service_of) .none kV5710 dc5710 pm5710 an5710 cd5710 ct5710), sl5710⟩) (c5710 : PySem.W.codeIn K cd5710 "Schema.service_of" = true) (k5710 : PySem.W.keepIn K (.ref f5710) = true)
    (a19 : PySem.W.nsIn K mainGlobals "items_of" = some (some (.ref f19))) (l19 : K.lookup f19 = some ⟨oc19, od19, .func (PySem.W.fnOf "items_of" "items_of" (defArgs s_items_of) (defBody s_items_of) (defScope s_items_of) .none kV19 dc19 pm19 an19 cd19 ct19), sl19⟩) (c19 : PySem.W.codeIn K cd19 "items_of" = true) (k19 : PySem.W.keepIn K (.ref f19) = true)
    (a20 : PySem.W.nsIn K mainGlobals "_is_index" = some (some (.ref f20))) (l20 : K.lookup f20 = some ⟨oc20, od20, .func (PySem.W.fnOf "_is_index" "_is_index" (defArgs s__is_index) (defBody s__is_index) (defScope s__is_index) .none kV20 dc20 pm20 an20 cd20 ct20), sl20⟩) (c20 : PySem.W.codeIn K cd20 "_is_index" = true) (k20 : PySem.W.keepIn K (.ref f20) = true)
    (a21 : PySem.W.nsIn K mainGlobals "_is_item" = some (some (.ref f21))) (l21 : K.lookup f21 = some ⟨oc21, od21, .func (PySem.W.fnOf "_is_item" "_is_item" (defArgs s__is_item) (defBody s__is_item) (defScope s__is_item) .none kV21 dc21 pm21 an21 cd21 ct21), sl21⟩) (c21 : PySem.W.codeIn K cd21 "_is_item" = true) (k21 : PySem.W.keepIn K (.ref f21) = true)
    (a22 : PySem.W.nsIn K mainGlobals "_has_length_and_names" = some (some (.ref f22))) (l22 : K.lookup f22 = some ⟨oc22, od22, .func (PySem.W.fnOf "_has_length_and_names" "_has_length_and_names" (defArgs s__has_length_and_names) (defBody s__has_length_and_names) (defScope s__has_length_and_names) .none kV22 dc22 pm22 an22 cd22 ct22), sl22⟩) (c22 : PySem.W.codeIn K cd22 "_has_length_and_names" = true) (k22 : PySem.W.keepIn K (.ref f22) = true)
    (a23 : PySem.W.nsIn K mainGlobals "_has_form" = some (some (.ref f23))) (l23 : K.lookup f23 = some ⟨oc23, od23, .func (PySem.W.fnOf "_has_form" "_has_form" (defArgs s__has_form) (defBody s__has_form) (defScope s__has_form) .none kV23 dc23 pm23 an23 cd23 ct23), sl23⟩) (c23 : PySem.W.codeIn K cd23 "_has_form" = true) (k23 : PySem.W.keepIn K (.ref f23) = true)
    (a24 : PySem.W.nsIn K mainGlobals "_used" = some (some (.ref f24))) (l24 : K.lookup f24 = some ⟨oc24, od24, .func (PySem.W.fnOf "_used" "_used" (defArgs s__used) (defBody s__used) (defScope s__used) .none kV24 dc24 pm24 an24 cd24 ct24), sl24⟩) (c24 : PySem.W.codeIn K cd24 "_used" = true) (k24 : PySem.W.keepIn K (.ref f24) = true)
    (a25 : PySem.W.nsIn K mainGlobals "_has_names" = some (some (.ref f25))) (l25 : K.lookup f25 = some ⟨oc25, od25, .func (PySem.W.fnOf "_has_names" "_has_names" (defArgs s__has_names) (defBody s__has_names) (defScope s__has_names) .none kV25 dc25 pm25 an25 cd25 ct25), sl25⟩) (c25 : PySem.W.codeIn K cd25 "_has_names" = true) (k25 : PySem.W.keepIn K (.ref f25) = true)
    (a26 : PySem.W.nsIn K mainGlobals "_has_items" = some (some (.ref f26))) (l26 : K.lookup f26 = some ⟨oc26, od26, .func (PySem.W.fnOf "_has_items" "_has_items" (defArgs s__has_items) (defBody s__has_items) (defScope s__has_items) .none kV26 dc26 pm26 an26 cd26 ct26), sl26⟩) (c26 : PySem.W.codeIn K cd26 "_has_items" = true) (k26 : PySem.W.keepIn K (.ref f26) = true)
    (a27 : PySem.W.nsIn K mainGlobals "_size" = some (some (.ref f27))) (l27 : K.lookup f27 = some ⟨oc27, od27, .func (PySem.W.fnOf "_size" "_size" (defArgs s__size) (defBody s__size) (defScope s__size) .none kV27 dc27 pm27 an27 cd27 ct27), sl27⟩) (c27 : PySem.W.codeIn K cd27 "_size" = true) (k27 : PySem.W.keepIn K (.ref f27) = true)
    (a28 : PySem.W.nsIn K mainGlobals "_joins_equal_widths" = some (some (.ref f28))) (l28 : K.lookup f28 = some ⟨oc28, od28, .func (PySem.W.fnOf "_joins_equal_widths" "_joins_equal_widths" (defArgs s__joins_equal_widths) (defBody s__joins_equal_widths) (defScope s__joins_equal_widths) .none kV28 dc28 pm28 an28 cd28 ct28), sl28⟩) (c28 : PySem.W.codeIn K cd28 "_joins_equal_widths" = true) (k28 : PySem.W.keepIn K (.ref f28) = true)
    (a29 : PySem.W.nsIn K mainGlobals "_wrong_part" = some (some (.ref f29))) (l29 : K.lookup f29 = some ⟨oc29, od29, .func (PySem.W.fnOf "_wrong_part" "_wrong_part" (defArgs s__wrong_part) (defBody s__wrong_part) (defScope s__wrong_part) .none kV29 dc29 pm29 an29 cd29 ct29), sl29⟩) (c29 : PySem.W.codeIn K cd29 "_wrong_part" = true) (k29 : PySem.W.keepIn K (.ref f29) = true)
    (l4000 : K.lookup f4000 = some ⟨oc4000, od4000, .func (PySem.W.fnOf "__init__" "Program.__init__" (defArgs s_Program___init__) (defBody s_Program___init__) (defScope s_Program___init__) .none kV4000 dc4000 pm4000 an4000 cd4000 ct4000), sl4000⟩) (c4000 : PySem.W.codeIn K cd4000 "Program.__init__" = true) (k4000 : PySem.W.keepIn K (.ref f4000) = true)
    (a49 : PySem.W.nsIn K mainGlobals "_law_pool" = some (some (.ref f49))) (l49 : K.lookup f49 = some ⟨oc49, od49, .func (PySem.W.fnOf "_law_pool" "_law_pool" (defArgs s__law_pool) (defBody s__law_pool) (defScope s__law_pool) .none kV49 dc49 pm49 an49 cd49 ct49), sl49⟩) (c49 : PySem.W.codeIn K cd49 "_law_pool" = true) (k49 : PySem.W.keepIn K (.ref f49) = true)
    (a50 : PySem.W.nsIn K mainGlobals "_law_mixed" = some (some (.ref f50))) (l50 : K.lookup f50 = some ⟨oc50, od50, .func (PySem.W.fnOf "_law_mixed" "_law_mixed" (defArgs s__law_mixed) (defBody s__law_mixed) (defScope s__law_mixed) .none kV50 dc50 pm50 an50 cd50 ct50), sl50⟩) (c50 : PySem.W.codeIn K cd50 "_law_mixed" = true) (k50 : PySem.W.keepIn K (.ref f50) = true)
    (a51 : PySem.W.nsIn K mainGlobals "_law_draw" = some (some (.ref f51))) (l51 : K.lookup f51 = some ⟨oc51, od51, .func (PySem.W.fnOf "_law_draw" "_law_draw" (defArgs s__law_draw) (defBody s__law_draw) (defScope s__law_draw) .none kV51 dc51 pm51 an51 cd51 ct51), sl51⟩) (c51 : PySem.W.codeIn K cd51 "_law_draw" = true) (k51 : PySem.W.keepIn K (.ref f51) = true)
    (a52 : PySem.W.nsIn K mainGlobals "_law_word" = some (some (.ref f52))) (l52 : K.lookup f52 = some ⟨oc52, od52, .func (PySem.W.fnOf "_law_word" "_law_word" (defArgs s__law_word) (defBody s__law_word) (defScope s__law_word) .none kV52 dc52 pm52 an52 cd52 ct52), sl52⟩) (c52 : PySem.W.codeIn K cd52 "_law_word" = true) (k52 : PySem.W.keepIn K (.ref f52) = true)
    (a53 : PySem.W.nsIn K mainGlobals "_law_names" = some (some (.ref f53))) (l53 : K.lookup f53 = some ⟨oc53, od53, .func (PySem.W.fnOf "_law_names" "_law_names" (defArgs s__law_names) (defBody s__law_names) (defScope s__law_names) .none kV53 dc53 pm53 an53 cd53 ct53), sl53⟩) (c53 : PySem.W.codeIn K cd53 "_law_names" = true) (k53 : PySem.W.keepIn K (.ref f53) = true)
    (a54 : PySem.W.nsIn K mainGlobals "_law_columns" = some (some (.ref f54))) (l54 : K.lookup f54 = some ⟨oc54, od54, .func (PySem.W.fnOf "_law_columns" "_law_columns" (defArgs s__law_columns) (defBody s__law_columns) (defScope s__law_columns) .none kV54 dc54 pm54 an54 cd54 ct54), sl54⟩) (c54 : PySem.W.codeIn K cd54 "_law_columns" = true) (k54 : PySem.W.keepIn K (.ref f54) = true)
    (a55 : PySem.W.nsIn K mainGlobals "_law_tables" = some (some (.ref f55))) (l55 : K.lookup f55 = some ⟨oc55, od55, .func (PySem.W.fnOf "_law_tables" "_law_tables" (defArgs s__law_tables) (defBody s__law_tables) (defScope s__law_tables) .none kV55 dc55 pm55 an55 cd55 ct55), sl55⟩) (c55 : PySem.W.codeIn K cd55 "_law_tables" = true) (k55 : PySem.W.keepIn K (.ref f55) = true)
    (a56 : PySem.W.nsIn K mainGlobals "_law_keys" = some (some (.ref f56))) (l56 : K.lookup f56 = some ⟨oc56, od56, .func (PySem.W.fnOf "_law_keys" "_law_keys" (defArgs s__law_keys) (defBody s__law_keys) (defScope s__law_keys) .none kV56 dc56 pm56 an56 cd56 ct56), sl56⟩) (c56 : PySem.W.codeIn K cd56 "_law_keys" = true) (k56 : PySem.W.keepIn K (.ref f56) = true)
    (a57 : PySem.W.nsIn K mainGlobals "_law_is_whole" = some (some (.ref f57))) (l57 : K.lookup f57 = some ⟨oc57, od57, .func (PySem.W.fnOf "_law_is_whole" "_law_is_whole" (defArgs s__law_is_whole) (defBody s__law_is_whole) (defScope s__law_is_whole) .none kV57 dc57 pm57 an57 cd57 ct57), sl57⟩) (c57 : PySem.W.codeIn K cd57 "_law_is_whole" = true) (k57 : PySem.W.keepIn K (.ref f57) = true)
    (a58 : PySem.W.nsIn K mainGlobals "_law_services" = some (some (.ref f58))) (l58 : K.lookup f58 = some ⟨oc58, od58, .func (PySem.W.fnOf "_law_services" "_law_services" (defArgs s__law_services) (defBody s__law_services) (defScope s__law_services) .none kV58 dc58 pm58 an58 cd58 ct58), sl58⟩) (c58 : PySem.W.codeIn K cd58 "_law_services" = true) (k58 : PySem.W.keepIn K (.ref f58) = true)
    (a59 : PySem.W.nsIn K mainGlobals "_law_schema_parts" = some (some (.ref f59))) (l59 : K.lookup f59 = some ⟨oc59, od59, .func (PySem.W.fnOf "_law_schema_parts" "_law_schema_parts" (defArgs s__law_schema_parts) (defBody s__law_schema_parts) (defScope s__law_schema_parts) .none kV59 dc59 pm59 an59 cd59 ct59), sl59⟩) (c59 : PySem.W.codeIn K cd59 "_law_schema_parts" = true) (k59 : PySem.W.keepIn K (.ref f59) = true)
    (a60 : PySem.W.nsIn K mainGlobals "_law_pick" = some (some (.ref f60))) (l60 : K.lookup f60 = some ⟨oc60, od60, .func (PySem.W.fnOf "_law_pick" "_law_pick" (defArgs s__law_pick) (defBody s__law_pick) (defScope s__law_pick) .none kV60 dc60 pm60 an60 cd60 ct60), sl60⟩) (c60 : PySem.W.codeIn K cd60 "_law_pick" = true) (k60 : PySem.W.keepIn K (.ref f60) = true)
    (a61 : PySem.W.nsIn K mainGlobals "_law_late" = some (some (.ref f61))) (l61 : K.lookup f61 = some ⟨oc61, od61, .func (PySem.W.fnOf "_law_late" "_law_late" (defArgs s__law_late) (defBody s__law_late) (defScope s__law_late) .none kV61 dc61 pm61 an61 cd61 ct61), sl61⟩) (c61 : PySem.W.codeIn K cd61 "_law_late" = true) (k61 : PySem.W.keepIn K (.ref f61) = true)
    (a62 : PySem.W.nsIn K mainGlobals "_law_item" = some (some (.ref f62))) (l62 : K.lookup f62 = some ⟨oc62, od62, .func (PySem.W.fnOf "_law_item" "_law_item" (defArgs s__law_item) (defBody s__law_item) (defScope s__law_item) .none kV62 dc62 pm62 an62 cd62 ct62), sl62⟩) (c62 : PySem.W.codeIn K cd62 "_law_item" = true) (k62 : PySem.W.keepIn K (.ref f62) = true)
    (a63 : PySem.W.nsIn K mainGlobals "_law_call_step" = some (some (.ref f63))) (l63 : K.lookup f63 = some ⟨oc63, od63, .func (PySem.W.fnOf "_law_call_step" "_law_call_step" (defArgs s__law_call_step) (defBody s__law_call_step) (defScope s__law_call_step) .none kV63 dc63 pm63 an63 cd63 ct63), sl63⟩) (c63 : PySem.W.codeIn K cd63 "_law_call_step" = true) (k63 : PySem.W.keepIn K (.ref f63) = true)
    (a64 : PySem.W.nsIn K mainGlobals "_law_join_step" = some (some (.ref f64))) (l64 : K.lookup f64 = some ⟨oc64, od64, .func (PySem.W.fnOf "_law_join_step" "_law_join_step" (defArgs s__law_join_step) (defBody s__law_join_step) (defScope s__law_join_step) .none kV64 dc64 pm64 an64 cd64 ct64), sl64⟩) (c64 : PySem.W.codeIn K cd64 "_law_join_step" = true) (k64 : PySem.W.keepIn K (.ref f64) = true)
    (a65 : PySem.W.nsIn K mainGlobals "_law_cut_step" = some (some (.ref f65))) (l65 : K.lookup f65 = some ⟨oc65, od65, .func (PySem.W.fnOf "_law_cut_step" "_law_cut_step" (defArgs s__law_cut_step) (defBody s__law_cut_step) (defScope s__law_cut_step) .none kV65 dc65 pm65 an65 cd65 ct65), sl65⟩) (c65 : PySem.W.codeIn K cd65 "_law_cut_step" = true) (k65 : PySem.W.keepIn K (.ref f65) = true)
    (a66 : PySem.W.nsIn K mainGlobals "_law_steps" = some (some (.ref f66))) (l66 : K.lookup f66 = some ⟨oc66, od66, .func (PySem.W.fnOf "_law_steps" "_law_steps" (defArgs s__law_steps) (defBody s__law_steps) (defScope s__law_steps) .none kV66 dc66 pm66 an66 cd66 ct66), sl66⟩) (c66 : PySem.W.codeIn K cd66 "_law_steps" = true) (k66 : PySem.W.keepIn K (.ref f66) = true)
    (a67 : PySem.W.nsIn K mainGlobals "_law_wrong" = some (some (.ref f67))) (l67 : K.lookup f67 = some ⟨oc67, od67, .func (PySem.W.fnOf "_law_wrong" "_law_wrong" (defArgs s__law_wrong) (defBody s__law_wrong) (defScope s__law_wrong) .none kV67 dc67 pm67 an67 cd67 ct67), sl67⟩) (c67 : PySem.W.codeIn K cd67 "_law_wrong" = true) (k67 : PySem.W.keepIn K (.ref f67) = true)
    (a68 : PySem.W.nsIn K mainGlobals "_law_more" = some (some (.ref f68))) (l68 : K.lookup f68 = some ⟨oc68, od68, .func (PySem.W.fnOf "_law_more" "_law_more" (defArgs s__law_more) (defBody s__law_more) (defScope s__law_more) .none kV68 dc68 pm68 an68 cd68 ct68), sl68⟩) (c68 : PySem.W.codeIn K cd68 "_law_more" = true) (k68 : PySem.W.keepIn K (.ref f68) = true)
    (a69 : PySem.W.nsIn K mainGlobals "_law_spoil" = some (some (.ref f69))) (l69 : K.lookup f69 = some ⟨oc69, od69, .func (PySem.W.fnOf "_law_spoil" "_law_spoil" (defArgs s__law_spoil) (defBody s__law_spoil) (defScope s__law_spoil) .none kV69 dc69 pm69 an69 cd69 ct69), sl69⟩) (c69 : PySem.W.codeIn K cd69 "_law_spoil" = true) (k69 : PySem.W.keepIn K (.ref f69) = true)
    (a70 : PySem.W.nsIn K mainGlobals "_law_is_integer" = some (some (.ref f70))) (l70 : K.lookup f70 = some ⟨oc70, od70, .func (PySem.W.fnOf "_law_is_integer" "_law_is_integer" (defArgs s__law_is_integer) (defBody s__law_is_integer) (defScope s__law_is_integer) .none kV70 dc70 pm70 an70 cd70 ct70), sl70⟩) (c70 : PySem.W.codeIn K cd70 "_law_is_integer" = true) (k70 : PySem.W.keepIn K (.ref f70) = true)
    (a71 : PySem.W.nsIn K mainGlobals "_law_is_word" = some (some (.ref f71))) (l71 : K.lookup f71 = some ⟨oc71, od71, .func (PySem.W.fnOf "_law_is_word" "_law_is_word" (defArgs s__law_is_word) (defBody s__law_is_word) (defScope s__law_is_word) .none kV71 dc71 pm71 an71 cd71 ct71), sl71⟩) (c71 : PySem.W.codeIn K cd71 "_law_is_word" = true) (k71 : PySem.W.keepIn K (.ref f71) = true)
    (a72 : PySem.W.nsIn K mainGlobals "_law_is_item" = some (some (.ref f72))) (l72 : K.lookup f72 = some ⟨oc72, od72, .func (PySem.W.fnOf "_law_is_item" "_law_is_item" (defArgs s__law_is_item) (defBody s__law_is_item) (defScope s__law_is_item) .none kV72 dc72 pm72 an72 cd72 ct72), sl72⟩) (c72 : PySem.W.codeIn K cd72 "_law_is_item" = true) (k72 : PySem.W.keepIn K (.ref f72) = true)
    (a73 : PySem.W.nsIn K mainGlobals "_law_are_items" = some (some (.ref f73))) (l73 : K.lookup f73 = some ⟨oc73, od73, .func (PySem.W.fnOf "_law_are_items" "_law_are_items" (defArgs s__law_are_items) (defBody s__law_are_items) (defScope s__law_are_items) .none kV73 dc73 pm73 an73 cd73 ct73), sl73⟩) (c73 : PySem.W.codeIn K cd73 "_law_are_items" = true) (k73 : PySem.W.keepIn K (.ref f73) = true)
    (a74 : PySem.W.nsIn K mainGlobals "_law_form" = some (some (.ref f74))) (l74 : K.lookup f74 = some ⟨oc74, od74, .func (PySem.W.fnOf "_law_form" "_law_form" (defArgs s__law_form) (defBody s__law_form) (defScope s__law_form) .none kV74 dc74 pm74 an74 cd74 ct74), sl74⟩) (c74 : PySem.W.codeIn K cd74 "_law_form" = true) (k74 : PySem.W.keepIn K (.ref f74) = true)
    (a75 : PySem.W.nsIn K mainGlobals "_law_name_fault" = some (some (.ref f75))) (l75 : K.lookup f75 = some ⟨oc75, od75, .func (PySem.W.fnOf "_law_name_fault" "_law_name_fault" (defArgs s__law_name_fault) (defBody s__law_name_fault) (defScope s__law_name_fault) .none kV75 dc75 pm75 an75 cd75 ct75), sl75⟩) (c75 : PySem.W.codeIn K cd75 "_law_name_fault" = true) (k75 : PySem.W.keepIn K (.ref f75) = true)
    (a76 : PySem.W.nsIn K mainGlobals "_law_items_fault" = some (some (.ref f76))) (l76 : K.lookup f76 = some ⟨oc76, od76, .func (PySem.W.fnOf "_law_items_fault" "_law_items_fault" (defArgs s__law_items_fault) (defBody s__law_items_fault) (defScope s__law_items_fault) .none kV76 dc76 pm76 an76 cd76 ct76), sl76⟩) (c76 : PySem.W.codeIn K cd76 "_law_items_fault" = true) (k76 : PySem.W.keepIn K (.ref f76) = true)
    (a77 : PySem.W.nsIn K mainGlobals "_law_shape" = some (some (.ref f77))) (l77 : K.lookup f77 = some ⟨oc77, od77, .func (PySem.W.fnOf "_law_shape" "_law_shape" (defArgs s__law_shape) (defBody s__law_shape) (defScope s__law_shape) .none kV77 dc77 pm77 an77 cd77 ct77), sl77⟩) (c77 : PySem.W.codeIn K cd77 "_law_shape" = true) (k77 : PySem.W.keepIn K (.ref f77) = true)
    (a78 : PySem.W.nsIn K mainGlobals "_law_due" = some (some (.ref f78))) (l78 : K.lookup f78 = some ⟨oc78, od78, .func (PySem.W.fnOf "_law_due" "_law_due" (defArgs s__law_due) (defBody s__law_due) (defScope s__law_due) .none kV78 dc78 pm78 an78 cd78 ct78), sl78⟩) (c78 : PySem.W.codeIn K cd78 "_law_due" = true) (k78 : PySem.W.keepIn K (.ref f78) = true)
    (a79 : PySem.W.nsIn K mainGlobals "law" = some (some (.ref f79))) (l79 : K.lookup f79 = some ⟨oc79, od79, .func (PySem.W.fnOf "law" "law" (defArgs s_law) (defBody s_law) (defScope s_law) .none kV79 dc79 pm79 an79 cd79 ct79), sl79⟩) (c79 : PySem.W.codeIn K cd79 "law" = true) (k79 : PySem.W.keepIn K (.ref f79) = true)
    (xl_2 : K.lookup f2 = some (excClassObj nm_2 qn_2 f2 N_2 bs_2 [.type "ValueError", .type "Exception", .type "BaseException", .type "object"] true sn_2 sub_2 ab_2 col_2 dd_2 m0_2 m1_2 m2_2 m3_2 m5_2 "ValueError.__new__"))
    (xs_2 : PySem.W.findIn K (.ref f2) "__setattr__" = some (some (.builtin "object.__setattr__")))
    (xe_2 : PySem.W.subIn K (.ref f2) (.type "BaseException") = some true)
    (xt_2 : PySem.W.typeIn K (.ref f2) = some (.type "type"))
    (xk_2 : PySem.W.keepIn K (.ref f2) = true)
    (ya_2 : PySem.W.findIn K (.ref f2) "__getattribute__" = some (some (.builtin "BaseException.__getattribute__")))
    (yg_2 : PySem.W.findIn K (.ref f2) "__getattr__" = some none)
    (yh_2 : PySem.W.hasDictIn K f2 = true)
    (za_2 : PySem.W.findIn K (.ref f2) "__class__" = some (some (.builtin "object.__class__")))
    (zn_2 : PySem.W.specialIn K (.builtin "object.__class__") "__get__" = some (some (.builtin "getset_descriptor.__get__")))
    (zt_2 : PySem.W.takesIn K (.builtin "object.__class__") = some true)
    (zm_2 : PySem.W.mroIn K f2 (.type "object") = some true)
    (xl_3 : K.lookup f3 = some (excClassObj nm_3 qn_3 f3 N_3 bs_3 [.ref f2, .type "ValueError", .type "Exception", .type "BaseException", .type "object"] true sn_3 sub_3 ab_3 col_3 dd_3 m0_3 m1_3 m2_3 m3_3 m5_3 "ValueError.__new__"))
    (xs_3 : PySem.W.findIn K (.ref f3) "__setattr__" = some (some (.builtin "object.__setattr__")))
    (xe_3 : PySem.W.subIn K (.ref f3) (.type "BaseException") = some true)
    (xt_3 : PySem.W.typeIn K (.ref f3) = some (.type "type"))
    (xk_3 : PySem.W.keepIn K (.ref f3) = true)
    (ya_3 : PySem.W.findIn K (.ref f3) "__getattribute__" = some (some (.builtin "BaseException.__getattribute__")))
    (yg_3 : PySem.W.findIn K (.ref f3) "__getattr__" = some none)
    (yh_3 : PySem.W.hasDictIn K f3 = true)
    (za_3 : PySem.W.findIn K (.ref f3) "__class__" = some (some (.builtin "object.__class__")))
    (zn_3 : PySem.W.specialIn K (.builtin "object.__class__") "__get__" = some (some (.builtin "getset_descriptor.__get__")))
    (zt_3 : PySem.W.takesIn K (.builtin "object.__class__") = some true)
    (zm_3 : PySem.W.mroIn K f3 (.type "object") = some true)
    (ty_3 : PySem.W.typeIn K (.ref f1300) = some (.type "function"))
    (na_3_name : PySem.W.findIn K (.ref f3) "name" = some none)
    (xl_4 : K.lookup f4 = some (excClassObj nm_4 qn_4 f4 N_4 bs_4 [.ref f2, .type "ValueError", .type "Exception", .type "BaseException", .type "object"] true sn_4 sub_4 ab_4 col_4 dd_4 m0_4 m1_4 m2_4 m3_4 m5_4 "ValueError.__new__"))
    (xs_4 : PySem.W.findIn K (.ref f4) "__setattr__" = some (some (.builtin "object.__setattr__")))
    (xe_4 : PySem.W.subIn K (.ref f4) (.type "BaseException") = some true)
    (xt_4 : PySem.W.typeIn K (.ref f4) = some (.type "type"))
    (xk_4 : PySem.W.keepIn K (.ref f4) = true)
    (ya_4 : PySem.W.findIn K (.ref f4) "__getattribute__" = some (some (.builtin "BaseException.__getattribute__")))
    (yg_4 : PySem.W.findIn K (.ref f4) "__getattr__" = some none)
    (yh_4 : PySem.W.hasDictIn K f4 = true)
    (za_4 : PySem.W.findIn K (.ref f4) "__class__" = some (some (.builtin "object.__class__")))
    (zn_4 : PySem.W.specialIn K (.builtin "object.__class__") "__get__" = some (some (.builtin "getset_descriptor.__get__")))
    (zt_4 : PySem.W.takesIn K (.builtin "object.__class__") = some true)
    (zm_4 : PySem.W.mroIn K f4 (.type "object") = some true)
    (na_4_part : PySem.W.findIn K (.ref f4) "part" = some none)
    (na_4_name : PySem.W.findIn K (.ref f4) "name" = some none)
    (xl_5 : K.lookup f5 = some (excClassObj nm_5 qn_5 f5 N_5 bs_5 [.ref f2, .type "ValueError", .type "Exception", .type "BaseException", .type "object"] true sn_5 sub_5 ab_5 col_5 dd_5 m0_5 m1_5 m2_5 m3_5 m5_5 "ValueError.__new__"))
    (xs_5 : PySem.W.findIn K (.ref f5) "__setattr__" = some (some (.builtin "object.__setattr__")))
    (xe_5 : PySem.W.subIn K (.ref f5) (.type "BaseException") = some true)
    (xt_5 : PySem.W.typeIn K (.ref f5) = some (.type "type"))
    (xk_5 : PySem.W.keepIn K (.ref f5) = true)
    (ya_5 : PySem.W.findIn K (.ref f5) "__getattribute__" = some (some (.builtin "BaseException.__getattribute__")))
    (yg_5 : PySem.W.findIn K (.ref f5) "__getattr__" = some none)
    (yh_5 : PySem.W.hasDictIn K f5 = true)
    (za_5 : PySem.W.findIn K (.ref f5) "__class__" = some (some (.builtin "object.__class__")))
    (zn_5 : PySem.W.specialIn K (.builtin "object.__class__") "__get__" = some (some (.builtin "getset_descriptor.__get__")))
    (zt_5 : PySem.W.takesIn K (.builtin "object.__class__") = some true)
    (zm_5 : PySem.W.mroIn K f5 (.type "object") = some true)
    (ty_5 : PySem.W.typeIn K (.ref f1500) = some (.type "function"))
    (na_5_part : PySem.W.findIn K (.ref f5) "part" = some none)
    (na_5_at : PySem.W.findIn K (.ref f5) "at" = some none)
    (pg_47 : PySem.W.plainGet K f47 Str.empty = true)
    (hd_47 : PySem.W.hasDictIn K f47 = true)
    (po_47 : PySem.W.plainOver K f47 = true)
    (sa_47 : PySem.W.findIn K (.ref f47) "__setattr__" = some (some (.builtin "object.__setattr__")))
    (mk_47 : PySem.W.makesIn K f47 = true)
    (is_5700 : PySem.W.isFn K (.ref f5700) = true)
    (kc_47 : PySem.W.keepIn K (.ref f47) = true)
    (na_47__tables : PySem.W.findIn K (.ref f47) "_tables" = some none)
    (na_47__keys : PySem.W.findIn K (.ref f47) "_keys" = some none)
    (na_47__services : PySem.W.findIn K (.ref f47) "_services" = some none)
    (pg_30 : PySem.W.plainGet K f30 Str.empty = true)
    (hd_30 : PySem.W.hasDictIn K f30 = true)
    (po_30 : PySem.W.plainOver K f30 = true)
    (sa_30 : PySem.W.findIn K (.ref f30) "__setattr__" = some (some (.builtin "object.__setattr__")))
    (mk_30 : PySem.W.makesIn K f30 = true)
    (is_4000 : PySem.W.isFn K (.ref f4000) = true)
    (kc_30 : PySem.W.keepIn K (.ref f30) = true)
    (na_30_schema : PySem.W.findIn K (.ref f30) "schema" = some none)
    (na_30_width : PySem.W.findIn K (.ref f30) "width" = some none)
    (na_30_part_count : PySem.W.findIn K (.ref f30) "part_count" = some none)
    (na_30_call_count : PySem.W.findIn K (.ref f30) "call_count" = some none)
    (na_30__steps : PySem.W.findIn K (.ref f30) "_steps" = some none)
    (wv_90017_start : PySem.W.nsIn K f90017 "start" = some (some (.int 2 tw90017_start)))
    (wv_90017_call : PySem.W.nsIn K f90017 "call" = some (some (.int 5 tw90017_call)))
    (wv_90017_both : PySem.W.nsIn K f90017 "both" = some (some (.int 4 tw90017_both)))
    (wv_90017_pair : PySem.W.nsIn K f90017 "pair" = some (some (.int 4 tw90017_pair)))
    (wv_90017_where : PySem.W.nsIn K f90017 "where" = some (some (.int 5 tw90017_where)))
    (wv_90017_take : PySem.W.nsIn K f90017 "take" = some (some (.int 4 tw90017_take)))
    (wl_90017 : K.lookup f90017 = some ⟨.type "dict", none, .dict ew90017 nw90017, #[]⟩)
    (wk_90017 : PySem.W.KeysLit w.params ew90017.toList)
    (wm_90017 : (f90017 == sysModules) = false)
    (wy_90017 : ew90017.toList.map (fun e => keyTx e.key) = (["start", "call", "both", "pair", "where", "take"] : List Str))
    (wv_90018_start : PySem.W.nsIn K f90018 "start" = some (some (.int 1 tw90018_start)))
    (wv_90018_call : PySem.W.nsIn K f90018 "call" = some (some (.int 3 tw90018_call)))
    (wv_90018_both : PySem.W.nsIn K f90018 "both" = some (some (.int 3 tw90018_both)))
    (wv_90018_pair : PySem.W.nsIn K f90018 "pair" = some (some (.int 3 tw90018_pair)))
    (wv_90018_where : PySem.W.nsIn K f90018 "where" = some (some (.int 2 tw90018_where)))
    (wv_90018_take : PySem.W.nsIn K f90018 "take" = some (some (.int 2 tw90018_take)))
    (wl_90018 : K.lookup f90018 = some ⟨.type "dict", none, .dict ew90018 nw90018, #[]⟩)
    (wk_90018 : PySem.W.KeysLit w.params ew90018.toList)
    (wm_90018 : (f90018 == sysModules) = false)
    (oa_47 : PySem.W.findIn K (.ref f47) "__class__" = some (some (.builtin "object.__class__")))
    (on_47 : PySem.W.specialIn K (.builtin "object.__class__") "__get__" = some (some (.builtin "getset_descriptor.__get__")))
    (ot_47 : PySem.W.takesIn K (.builtin "object.__class__") = some true)
    (om_47 : PySem.W.mroIn K f47 (.type "object") = some true)
    (oa_30 : PySem.W.findIn K (.ref f30) "__class__" = some (some (.builtin "object.__class__")))
    (on_30 : PySem.W.specialIn K (.builtin "object.__class__") "__get__" = some (some (.builtin "getset_descriptor.__get__")))
    (ot_30 : PySem.W.takesIn K (.builtin "object.__class__") = some true)
    (om_30 : PySem.W.mroIn K f30 (.type "object") = some true)
    (es_5_2 : PySem.W.subIn K (.ref f5) (.ref f2) = some true)
    (es_5_4 : PySem.W.kitOne K (.ref f5) (.ref f4) = some false)
    (es_5_ValueError : PySem.W.kitOne K (.ref f5) (.type "ValueError") = some true)
    (es_5_5 : PySem.W.subIn K (.ref f5) (.ref f5) = some true)
    (mi_5706 : PySem.W.isFn K (.ref f5706) = true)
    (mi_5708 : PySem.W.isFn K (.ref f5708) = true)
    (mi_5710 : PySem.W.isFn K (.ref f5710) = true)
    (z_ValueError : PySem.W.nsIn K mainGlobals "ValueError" = some none)
    (z_abs : PySem.W.nsIn K mainGlobals "abs" = some none)
    (z_all : PySem.W.nsIn K mainGlobals "all" = some none)
    (z_bool : PySem.W.nsIn K mainGlobals "bool" = some none)
    (z_enumerate : PySem.W.nsIn K mainGlobals "enumerate" = some none)
    (z_int : PySem.W.nsIn K mainGlobals "int" = some none)
    (z_isinstance : PySem.W.nsIn K mainGlobals "isinstance" = some none)
    (z_len : PySem.W.nsIn K mainGlobals "len" = some none)
    (z_list : PySem.W.nsIn K mainGlobals "list" = some none)
    (z_max : PySem.W.nsIn K mainGlobals "max" = some none)
    (z_range : PySem.W.nsIn K mainGlobals "range" = some none)
    (z_sorted : PySem.W.nsIn K mainGlobals "sorted" = some none)
    (z_str : PySem.W.nsIn K mainGlobals "str" = some none)
    (z_tuple : PySem.W.nsIn K mainGlobals "tuple" = some none)
    {t_LONGEST_WORD : Tok} (v_LONGEST_WORD : PySem.W.nsIn K mainGlobals "LONGEST_WORD" = some (some (.int (8) t_LONGEST_WORD)))
    {t_GREATEST_VALUE : Tok} (v_GREATEST_VALUE : PySem.W.nsIn K mainGlobals "GREATEST_VALUE" = some (some (.int (999999999999999999999999999999) t_GREATEST_VALUE)))
    {t_MOST_STEPS : Tok} (v_MOST_STEPS : PySem.W.nsIn K mainGlobals "MOST_STEPS" = some (some (.int (12) t_MOST_STEPS)))
    {t_MOST_WIDTH_programs : Tok} (v_MOST_WIDTH_programs : PySem.W.nsIn K mainGlobals "MOST_WIDTH_programs" = some (some (.int (12) t_MOST_WIDTH_programs)))
    {t_MOST_PARTS : Tok} (v_MOST_PARTS : PySem.W.nsIn K mainGlobals "MOST_PARTS" = some (some (.int (16) t_MOST_PARTS)))
    {t_MOST_CALLS : Tok} (v_MOST_CALLS : PySem.W.nsIn K mainGlobals "MOST_CALLS" = some (some (.int (4) t_MOST_CALLS)))
    {t_MOST_TABLES : Tok} (v_MOST_TABLES : PySem.W.nsIn K mainGlobals "MOST_TABLES" = some (some (.int (5) t_MOST_TABLES)))
    {t_MOST_WIDTH_schemas : Tok} (v_MOST_WIDTH_schemas : PySem.W.nsIn K mainGlobals "MOST_WIDTH_schemas" = some (some (.int (4) t_MOST_WIDTH_schemas)))
    {t_MOST_SERVICES : Tok} (v_MOST_SERVICES : PySem.W.nsIn K mainGlobals "MOST_SERVICES" = some (some (.int (8) t_MOST_SERVICES)))
    {t_MOST_CAP : Tok} (v_MOST_CAP : PySem.W.nsIn K mainGlobals "MOST_CAP" = some (some (.int (4) t_MOST_CAP)))
    : ∃ fd : FuncData, (∀ (s : Shared) (v : Value), BindsTo s fd ⟨[v], []⟩ [("_law_script", v)]) ∧ ∀ base : Heap, K.In base → base.Ns mainGlobals mg → FnOk P w K mg base CX0 12 fa fd ["_law_script"] (spLaw K) := by
  have e := hfa.symm.trans (PySem.W.mg_of X G a79)
  cases e
  have F1300 := fun_mk (st := s_UnknownName___init__) l1300 c1300 k1300
  have b1300 := F1300.binds (ps := ["self", "name"]) fun _ _ _ _ _ _ us hl => match us, hl with | [_, _], _ => rfl
  have F1500 := fun_mk (st := s_InvalidProgram___init__) l1500 c1500 k1500
  have b1500 := F1500.binds (ps := ["self", "part", "at"]) fun _ _ _ _ _ _ us hl => match us, hl with | [_, _, _], _ => rfl
  have F9 := fun_mk (st := s_is_plain_int) l9 c9 k9
  have b9 := F9.binds (ps := ["thing"]) fun _ _ _ _ _ _ us hl => match us, hl with | [_], _ => rfl
  have F10 := fun_mk (st := s_is_word) l10 c10 k10
  have b10 := F10.binds (ps := ["thing"]) fun _ _ _ _ _ _ us hl => match us, hl with | [_], _ => rfl
  have F11 := fun_mk (st := s_is_value) l11 c11 k11
  have b11 := F11.binds (ps := ["thing"]) fun _ _ _ _ _ _ us hl => match us, hl with | [_], _ => rfl
  have F36 := fun_mk (st := s__is_count) l36 c36 k36
  have b36 := F36.binds (ps := ["thing", "most"]) fun _ _ _ _ _ _ us hl => match us, hl with | [_, _], _ => rfl
  have F37 := fun_mk (st := s__is_name_in) l37 c37 k37
  have b37 := F37.binds (ps := ["thing", "names"]) fun _ _ _ _ _ _ us hl => match us, hl with | [_, _], _ => rfl
  have F38 := fun_mk (st := s__are_columns) l38 c38 k38
  have b38 := F38.binds (ps := ["thing", "width"]) fun _ _ _ _ _ _ us hl => match us, hl with | [_, _], _ => rfl
  have F39 := fun_mk (st := s__is_key) l39 c39 k39
  have b39 := F39.binds (ps := ["thing", "width"]) fun _ _ _ _ _ _ us hl => match us, hl with | [_, _], _ => rfl
  have F40 := fun_mk (st := s__is_service) l40 c40 k40
  have b40 := F40.binds (ps := ["thing", "tables"]) fun _ _ _ _ _ _ us hl => match us, hl with | [_, _], _ => rfl
  have F41 := fun_mk (st := s__is_whole_service) l41 c41 k41
  have b41 := F41.binds (ps := ["service", "tables", "keys"]) fun _ _ _ _ _ _ us hl => match us, hl with | [_, _, _], _ => rfl
  have F42 := fun_mk (st := s__check_tables) l42 c42 k42
  have b42 := F42.binds (ps := ["tables"]) fun _ _ _ _ _ _ us hl => match us, hl with | [_], _ => rfl
  have F43 := fun_mk (st := s__check_keys) l43 c43 k43
  have b43 := F43.binds (ps := ["keys", "tables"]) fun _ _ _ _ _ _ us hl => match us, hl with | [_, _], _ => rfl
  have F44 := fun_mk (st := s__check_services) l44 c44 k44
  have b44 := F44.binds (ps := ["services", "tables"]) fun _ _ _ _ _ _ us hl => match us, hl with | [_, _], _ => rfl
  have F45 := fun_mk (st := s__check_capped) l45 c45 k45
  have b45 := F45.binds (ps := ["services", "tables", "keys"]) fun _ _ _ _ _ _ us hl => match us, hl with | [_, _, _], _ => rfl
  have F46 := fun_mk (st := s__copied) l46 c46 k46
  have b46 := F46.binds (ps := ["things"]) fun _ _ _ _ _ _ us hl => match us, hl with | [_], _ => rfl
  have F5700 := fun_mk (st := s_Schema___init__) l5700 c5700 k5700
  have b5700 := F5700.binds (ps := ["self", "tables", "keys", "services"]) fun _ _ _ _ _ _ us hl => match us, hl with | [_, _, _, _], _ => rfl
  have F5706 := fun_mk (st := s_Schema_service_names) l5706 c5706 k5706
  have b5706 := F5706.binds (ps := ["self"]) fun _ _ _ _ _ _ us hl => match us, hl with | [_], _ => rfl
  have F5708 := fun_mk (st := s_Schema_width_of) l5708 c5708 k5708
  have b5708 := F5708.binds (ps := ["self", "table"]) fun _ _ _ _ _ _ us hl => match us, hl with | [_, _], _ => rfl
  have F5710 := fun_mk (st := s_Schema_service_of) l5710 c5710 k5710
  have b5710 := F5710.binds (ps := ["self", "name"]) fun _ _ _ _ _ _ us hl => match us, hl with | [_, _], _ => rfl
  have F19 := fun_mk (st := s_items_of) l19 c19 k19
  have b19 := F19.binds (ps := ["step"]) fun _ _ _ _ _ _ us hl => match us, hl with | [_], _ => rfl
  have F20 := fun_mk (st := s__is_index) l20 c20 k20
  have b20 := F20.binds (ps := ["thing"]) fun _ _ _ _ _ _ us hl => match us, hl with | [_], _ => rfl
  have F21 := fun_mk (st := s__is_item) l21 c21 k21
  have b21 := F21.binds (ps := ["thing"]) fun _ _ _ _ _ _ us hl => match us, hl with | [_], _ => rfl
  have F22 := fun_mk (st := s__has_length_and_names) l22 c22 k22
  have b22 := F22.binds (ps := ["step"]) fun _ _ _ _ _ _ us hl => match us, hl with | [_], _ => rfl
  have F23 := fun_mk (st := s__has_form) l23 c23 k23
  have b23 := F23.binds (ps := ["step"]) fun _ _ _ _ _ _ us hl => match us, hl with | [_], _ => rfl
  have F24 := fun_mk (st := s__used) l24 c24 k24
  have b24 := F24.binds (ps := ["step"]) fun _ _ _ _ _ _ us hl => match us, hl with | [_], _ => rfl
  have F25 := fun_mk (st := s__has_names) l25 c25 k25
  have b25 := F25.binds (ps := ["schema", "step", "sizes"]) fun _ _ _ _ _ _ us hl => match us, hl with | [_, _, _], _ => rfl
  have F26 := fun_mk (st := s__has_items) l26 c26 k26
  have b26 := F26.binds (ps := ["schema", "step", "sizes"]) fun _ _ _ _ _ _ us hl => match us, hl with | [_, _, _], _ => rfl
  have F27 := fun_mk (st := s__size) l27 c27 k27
  have b27 := F27.binds (ps := ["schema", "step", "sizes"]) fun _ _ _ _ _ _ us hl => match us, hl with | [_, _, _], _ => rfl
  have F28 := fun_mk (st := s__joins_equal_widths) l28 c28 k28
  have b28 := F28.binds (ps := ["step", "sizes"]) fun _ _ _ _ _ _ us hl => match us, hl with | [_, _], _ => rfl
  have F29 := fun_mk (st := s__wrong_part) l29 c29 k29
  have b29 := F29.binds (ps := ["schema", "step", "sizes"]) fun _ _ _ _ _ _ us hl => match us, hl with | [_, _, _], _ => rfl
  have F4000 := fun_mk (st := s_Program___init__) l4000 c4000 k4000
  have b4000 := F4000.binds (ps := ["self", "schema", "steps"]) fun _ _ _ _ _ _ us hl => match us, hl with | [_, _, _], _ => rfl
  have F49 := fun_mk (st := s__law_pool) l49 c49 k49
  have b49 := F49.binds (ps := ["_law_script"]) fun _ _ _ _ _ _ us hl => match us, hl with | [_], _ => rfl
  have F50 := fun_mk (st := s__law_mixed) l50 c50 k50
  have b50 := F50.binds (ps := ["_law_seed", "_law_count"]) fun _ _ _ _ _ _ us hl => match us, hl with | [_, _], _ => rfl
  have F51 := fun_mk (st := s__law_draw) l51 c51 k51
  have b51 := F51.binds (ps := ["_law_pool_here", "_law_many"]) fun _ _ _ _ _ _ us hl => match us, hl with | [_, _], _ => rfl
  have F52 := fun_mk (st := s__law_word) l52 c52 k52
  have b52 := F52.binds (ps := ["_law_pool_here", "_law_many"]) fun _ _ _ _ _ _ us hl => match us, hl with | [_, _], _ => rfl
  have F53 := fun_mk (st := s__law_names) l53 c53 k53
  have b53 := F53.binds (ps := ["_law_pool_here", "_law_many"]) fun _ _ _ _ _ _ us hl => match us, hl with | [_, _], _ => rfl
  have F54 := fun_mk (st := s__law_columns) l54 c54 k54
  have b54 := F54.binds (ps := ["_law_pool_here", "_law_width", "_law_low", "_law_high"]) fun _ _ _ _ _ _ us hl => match us, hl with | [_, _, _, _], _ => rfl
  have F55 := fun_mk (st := s__law_tables) l55 c55 k55
  have b55 := F55.binds (ps := ["_law_pool_here", "_law_many", "_law_widest"]) fun _ _ _ _ _ _ us hl => match us, hl with | [_, _, _], _ => rfl
  have F56 := fun_mk (st := s__law_keys) l56 c56 k56
  have b56 := F56.binds (ps := ["_law_pool_here", "_law_tables_here"]) fun _ _ _ _ _ _ us hl => match us, hl with | [_, _], _ => rfl
  have F57 := fun_mk (st := s__law_is_whole) l57 c57 k57
  have b57 := F57.binds (ps := ["_law_tables_here", "_law_keys_here", "_law_told"]) fun _ _ _ _ _ _ us hl => match us, hl with | [_, _, _], _ => rfl
  have F58 := fun_mk (st := s__law_services) l58 c58 k58
  have b58 := F58.binds (ps := ["_law_pool_here", "_law_tables_here", "_law_keys_here", "_law_caps", "_law_more_here"]) fun _ _ _ _ _ _ us hl => match us, hl with | [_, _, _, _, _], _ => rfl
  have F59 := fun_mk (st := s__law_schema_parts) l59 c59 k59
  have b59 := F59.binds (ps := ["_law_pool_here", "_law_many", "_law_widest", "_law_caps", "_law_more_here"]) fun _ _ _ _ _ _ us hl => match us, hl with | [_, _, _, _, _], _ => rfl
  have F60 := fun_mk (st := s__law_pick) l60 c60 k60
  have b60 := F60.binds (ps := ["_law_pool_here", "_law_row"]) fun _ _ _ _ _ _ us hl => match us, hl with | [_, _], _ => rfl
  have F61 := fun_mk (st := s__law_late) l61 c61 k61
  have b61 := F61.binds (ps := ["_law_pool_here", "_law_row"]) fun _ _ _ _ _ _ us hl => match us, hl with | [_, _], _ => rfl
  have F62 := fun_mk (st := s__law_item) l62 c62 k62
  have b62 := F62.binds (ps := ["_law_pool_here", "_law_width", "_law_palette"]) fun _ _ _ _ _ _ us hl => match us, hl with | [_, _, _], _ => rfl
  have F63 := fun_mk (st := s__law_call_step) l63 c63 k63
  have b63 := F63.binds (ps := ["_law_pool_here", "_law_tables_here", "_law_services_here", "_law_shapes", "_law_name", "_law_palette", "_law_limits"]) fun _ _ _ _ _ _ us hl => match us, hl with | [_, _, _, _, _, _, _], _ => rfl
  have F64 := fun_mk (st := s__law_join_step) l64 c64 k64
  have b64 := F64.binds (ps := ["_law_pool_here", "_law_shapes", "_law_name", "_law_kind", "_law_limits"]) fun _ _ _ _ _ _ us hl => match us, hl with | [_, _, _, _, _], _ => rfl
  have F65 := fun_mk (st := s__law_cut_step) l65 c65 k65
  have b65 := F65.binds (ps := ["_law_pool_here", "_law_shapes", "_law_name", "_law_palette"]) fun _ _ _ _ _ _ us hl => match us, hl with | [_, _, _, _], _ => rfl
  have F66 := fun_mk (st := s__law_steps) l66 c66 k66
  have b66 := F66.binds (ps := ["_law_pool_here", "_law_tables_here", "_law_services_here", "_law_palette", "_law_many", "_law_limits"]) fun _ _ _ _ _ _ us hl => match us, hl with | [_, _, _, _, _, _], _ => rfl
  have F67 := fun_mk (st := s__law_wrong) l67 c67 k67
  have b67 := F67.binds (ps := ["_law_pool_here", "_law_step", "_law_names_here"]) fun _ _ _ _ _ _ us hl => match us, hl with | [_, _, _], _ => rfl
  have F68 := fun_mk (st := s__law_more) l68 c68 k68
  have b68 := F68.binds (ps := ["_law_pool_here", "_law_steps_here", "_law_services_here"]) fun _ _ _ _ _ _ us hl => match us, hl with | [_, _, _], _ => rfl
  have F69 := fun_mk (st := s__law_spoil) l69 c69 k69
  have b69 := F69.binds (ps := ["_law_pool_here", "_law_steps_here", "_law_services_here"]) fun _ _ _ _ _ _ us hl => match us, hl with | [_, _, _], _ => rfl
  have F70 := fun_mk (st := s__law_is_integer) l70 c70 k70
  have b70 := F70.binds (ps := ["_law_thing"]) fun _ _ _ _ _ _ us hl => match us, hl with | [_], _ => rfl
  have F71 := fun_mk (st := s__law_is_word) l71 c71 k71
  have b71 := F71.binds (ps := ["_law_thing"]) fun _ _ _ _ _ _ us hl => match us, hl with | [_], _ => rfl
  have F72 := fun_mk (st := s__law_is_item) l72 c72 k72
  have b72 := F72.binds (ps := ["_law_thing"]) fun _ _ _ _ _ _ us hl => match us, hl with | [_], _ => rfl
  have F73 := fun_mk (st := s__law_are_items) l73 c73 k73
  have b73 := F73.binds (ps := ["_law_thing"]) fun _ _ _ _ _ _ us hl => match us, hl with | [_], _ => rfl
  have F74 := fun_mk (st := s__law_form) l74 c74 k74
  have b74 := F74.binds (ps := ["_law_step"]) fun _ _ _ _ _ _ us hl => match us, hl with | [_], _ => rfl
  have F75 := fun_mk (st := s__law_name_fault) l75 c75 k75
  have b75 := F75.binds (ps := ["_law_services_here", "_law_step", "_law_shapes"]) fun _ _ _ _ _ _ us hl => match us, hl with | [_, _, _], _ => rfl
  have F76 := fun_mk (st := s__law_items_fault) l76 c76 k76
  have b76 := F76.binds (ps := ["_law_services_here", "_law_step", "_law_shapes"]) fun _ _ _ _ _ _ us hl => match us, hl with | [_, _, _], _ => rfl
  have F77 := fun_mk (st := s__law_shape) l77 c77 k77
  have b77 := F77.binds (ps := ["_law_tables_here", "_law_services_here", "_law_step", "_law_shapes"]) fun _ _ _ _ _ _ us hl => match us, hl with | [_, _, _, _], _ => rfl
  have F78 := fun_mk (st := s__law_due) l78 c78 k78
  have b78 := F78.binds (ps := ["_law_tables_here", "_law_services_here", "_law_steps_here"]) fun _ _ _ _ _ _ us hl => match us, hl with | [_, _, _], _ => rfl
  have F79 := fun_mk (st := s_law) l79 c79 k79
  have b79 := F79.binds (ps := ["_law_script"]) fun _ _ _ _ _ _ us hl => match us, hl with | [_], _ => rfl
  let aa : Nat → Addr := fun i => match i with
    | 2 => f2
    | 3 => f3
    | 4 => f4
    | 5 => f5
    | 9 => f9
    | 10 => f10
    | 11 => f11
    | 19 => f19
    | 20 => f20
    | 21 => f21
    | 22 => f22
    | 23 => f23
    | 24 => f24
    | 25 => f25
    | 26 => f26
    | 27 => f27
    | 28 => f28
    | 29 => f29
    | 30 => f30
    | 36 => f36
    | 37 => f37
    | 38 => f38
    | 39 => f39
    | 40 => f40
    | 41 => f41
    | 42 => f42
    | 43 => f43
    | 44 => f44
    | 45 => f45
    | 46 => f46
    | 47 => f47
    | 49 => f49
    | 50 => f50
    | 51 => f51
    | 52 => f52
    | 53 => f53
    | 54 => f54
    | 55 => f55
    | 56 => f56
    | 57 => f57
    | 58 => f58
    | 59 => f59
    | 60 => f60
    | 61 => f61
    | 62 => f62
    | 63 => f63
    | 64 => f64
    | 65 => f65
    | 66 => f66
    | 67 => f67
    | 68 => f68
    | 69 => f69
    | 70 => f70
    | 71 => f71
    | 72 => f72
    | 73 => f73
    | 74 => f74
    | 75 => f75
    | 76 => f76
    | 77 => f77
    | 78 => f78
    | 79 => fa
    | 1300 => f1300
    | 1500 => f1500
    | 4000 => f4000
    | 5700 => f5700
    | 5706 => f5706
    | 5708 => f5708
    | 5710 => f5710
    | 90017 => f90017
    | 90018 => f90018
    | _ => 0
  let dd : Nat → FuncData := fun i => match i with
    | 9 => PySem.W.fnOf "is_plain_int" "is_plain_int" (defArgs s_is_plain_int) (defBody s_is_plain_int) (defScope s_is_plain_int) .none kV9 dc9 pm9 an9 cd9 ct9
    | 10 => PySem.W.fnOf "is_word" "is_word" (defArgs s_is_word) (defBody s_is_word) (defScope s_is_word) .none kV10 dc10 pm10 an10 cd10 ct10
    | 11 => PySem.W.fnOf "is_value" "is_value" (defArgs s_is_value) (defBody s_is_value) (defScope s_is_value) .none kV11 dc11 pm11 an11 cd11 ct11
    | 19 => PySem.W.fnOf "items_of" "items_of" (defArgs s_items_of) (defBody s_items_of) (defScope s_items_of) .none kV19 dc19 pm19 an19 cd19 ct19
    | 20 => PySem.W.fnOf "_is_index" "_is_index" (defArgs s__is_index) (defBody s__is_index) (defScope s__is_index) .none kV20 dc20 pm20 an20 cd20 ct20
    | 21 => PySem.W.fnOf "_is_item" "_is_item" (defArgs s__is_item) (defBody s__is_item) (defScope s__is_item) .none kV21 dc21 pm21 an21 cd21 ct21
    | 22 => PySem.W.fnOf "_has_length_and_names" "_has_length_and_names" (defArgs s__has_length_and_names) (defBody s__has_length_and_names) (defScope s__has_length_and_names) .none kV22 dc22 pm22 an22 cd22 ct22
    | 23 => PySem.W.fnOf "_has_form" "_has_form" (defArgs s__has_form) (defBody s__has_form) (defScope s__has_form) .none kV23 dc23 pm23 an23 cd23 ct23
    | 24 => PySem.W.fnOf "_used" "_used" (defArgs s__used) (defBody s__used) (defScope s__used) .none kV24 dc24 pm24 an24 cd24 ct24
    | 25 => PySem.W.fnOf "_has_names" "_has_names" (defArgs s__has_names) (defBody s__has_names) (defScope s__has_names) .none kV25 dc25 pm25 an25 cd25 ct25
    | 26 => PySem.W.fnOf "_has_items" "_has_items" (defArgs s__has_items) (defBody s__has_items) (defScope s__has_items) .none kV26 dc26 pm26 an26 cd26 ct26
    | 27 => PySem.W.fnOf "_size" "_size" (defArgs s__size) (defBody s__size) (defScope s__size) .none kV27 dc27 pm27 an27 cd27 ct27
    | 28 => PySem.W.fnOf "_joins_equal_widths" "_joins_equal_widths" (defArgs s__joins_equal_widths) (defBody s__joins_equal_widths) (defScope s__joins_equal_widths) .none kV28 dc28 pm28 an28 cd28 ct28
    | 29 => PySem.W.fnOf "_wrong_part" "_wrong_part" (defArgs s__wrong_part) (defBody s__wrong_part) (defScope s__wrong_part) .none kV29 dc29 pm29 an29 cd29 ct29
    | 36 => PySem.W.fnOf "_is_count" "_is_count" (defArgs s__is_count) (defBody s__is_count) (defScope s__is_count) .none kV36 dc36 pm36 an36 cd36 ct36
    | 37 => PySem.W.fnOf "_is_name_in" "_is_name_in" (defArgs s__is_name_in) (defBody s__is_name_in) (defScope s__is_name_in) .none kV37 dc37 pm37 an37 cd37 ct37
    | 38 => PySem.W.fnOf "_are_columns" "_are_columns" (defArgs s__are_columns) (defBody s__are_columns) (defScope s__are_columns) .none kV38 dc38 pm38 an38 cd38 ct38
    | 39 => PySem.W.fnOf "_is_key" "_is_key" (defArgs s__is_key) (defBody s__is_key) (defScope s__is_key) .none kV39 dc39 pm39 an39 cd39 ct39
    | 40 => PySem.W.fnOf "_is_service" "_is_service" (defArgs s__is_service) (defBody s__is_service) (defScope s__is_service) .none kV40 dc40 pm40 an40 cd40 ct40
    | 41 => PySem.W.fnOf "_is_whole_service" "_is_whole_service" (defArgs s__is_whole_service) (defBody s__is_whole_service) (defScope s__is_whole_service) .none kV41 dc41 pm41 an41 cd41 ct41
    | 42 => PySem.W.fnOf "_check_tables" "_check_tables" (defArgs s__check_tables) (defBody s__check_tables) (defScope s__check_tables) .none kV42 dc42 pm42 an42 cd42 ct42
    | 43 => PySem.W.fnOf "_check_keys" "_check_keys" (defArgs s__check_keys) (defBody s__check_keys) (defScope s__check_keys) .none kV43 dc43 pm43 an43 cd43 ct43
    | 44 => PySem.W.fnOf "_check_services" "_check_services" (defArgs s__check_services) (defBody s__check_services) (defScope s__check_services) .none kV44 dc44 pm44 an44 cd44 ct44
    | 45 => PySem.W.fnOf "_check_capped" "_check_capped" (defArgs s__check_capped) (defBody s__check_capped) (defScope s__check_capped) .none kV45 dc45 pm45 an45 cd45 ct45
    | 46 => PySem.W.fnOf "_copied" "_copied" (defArgs s__copied) (defBody s__copied) (defScope s__copied) .none kV46 dc46 pm46 an46 cd46 ct46
    | 49 => PySem.W.fnOf "_law_pool" "_law_pool" (defArgs s__law_pool) (defBody s__law_pool) (defScope s__law_pool) .none kV49 dc49 pm49 an49 cd49 ct49
    | 50 => PySem.W.fnOf "_law_mixed" "_law_mixed" (defArgs s__law_mixed) (defBody s__law_mixed) (defScope s__law_mixed) .none kV50 dc50 pm50 an50 cd50 ct50
    | 51 => PySem.W.fnOf "_law_draw" "_law_draw" (defArgs s__law_draw) (defBody s__law_draw) (defScope s__law_draw) .none kV51 dc51 pm51 an51 cd51 ct51
    | 52 => PySem.W.fnOf "_law_word" "_law_word" (defArgs s__law_word) (defBody s__law_word) (defScope s__law_word) .none kV52 dc52 pm52 an52 cd52 ct52
    | 53 => PySem.W.fnOf "_law_names" "_law_names" (defArgs s__law_names) (defBody s__law_names) (defScope s__law_names) .none kV53 dc53 pm53 an53 cd53 ct53
    | 54 => PySem.W.fnOf "_law_columns" "_law_columns" (defArgs s__law_columns) (defBody s__law_columns) (defScope s__law_columns) .none kV54 dc54 pm54 an54 cd54 ct54
    | 55 => PySem.W.fnOf "_law_tables" "_law_tables" (defArgs s__law_tables) (defBody s__law_tables) (defScope s__law_tables) .none kV55 dc55 pm55 an55 cd55 ct55
    | 56 => PySem.W.fnOf "_law_keys" "_law_keys" (defArgs s__law_keys) (defBody s__law_keys) (defScope s__law_keys) .none kV56 dc56 pm56 an56 cd56 ct56
    | 57 => PySem.W.fnOf "_law_is_whole" "_law_is_whole" (defArgs s__law_is_whole) (defBody s__law_is_whole) (defScope s__law_is_whole) .none kV57 dc57 pm57 an57 cd57 ct57
    | 58 => PySem.W.fnOf "_law_services" "_law_services" (defArgs s__law_services) (defBody s__law_services) (defScope s__law_services) .none kV58 dc58 pm58 an58 cd58 ct58
    | 59 => PySem.W.fnOf "_law_schema_parts" "_law_schema_parts" (defArgs s__law_schema_parts) (defBody s__law_schema_parts) (defScope s__law_schema_parts) .none kV59 dc59 pm59 an59 cd59 ct59
    | 60 => PySem.W.fnOf "_law_pick" "_law_pick" (defArgs s__law_pick) (defBody s__law_pick) (defScope s__law_pick) .none kV60 dc60 pm60 an60 cd60 ct60
    | 61 => PySem.W.fnOf "_law_late" "_law_late" (defArgs s__law_late) (defBody s__law_late) (defScope s__law_late) .none kV61 dc61 pm61 an61 cd61 ct61
    | 62 => PySem.W.fnOf "_law_item" "_law_item" (defArgs s__law_item) (defBody s__law_item) (defScope s__law_item) .none kV62 dc62 pm62 an62 cd62 ct62
    | 63 => PySem.W.fnOf "_law_call_step" "_law_call_step" (defArgs s__law_call_step) (defBody s__law_call_step) (defScope s__law_call_step) .none kV63 dc63 pm63 an63 cd63 ct63
    | 64 => PySem.W.fnOf "_law_join_step" "_law_join_step" (defArgs s__law_join_step) (defBody s__law_join_step) (defScope s__law_join_step) .none kV64 dc64 pm64 an64 cd64 ct64
    | 65 => PySem.W.fnOf "_law_cut_step" "_law_cut_step" (defArgs s__law_cut_step) (defBody s__law_cut_step) (defScope s__law_cut_step) .none kV65 dc65 pm65 an65 cd65 ct65
    | 66 => PySem.W.fnOf "_law_steps" "_law_steps" (defArgs s__law_steps) (defBody s__law_steps) (defScope s__law_steps) .none kV66 dc66 pm66 an66 cd66 ct66
    | 67 => PySem.W.fnOf "_law_wrong" "_law_wrong" (defArgs s__law_wrong) (defBody s__law_wrong) (defScope s__law_wrong) .none kV67 dc67 pm67 an67 cd67 ct67
    | 68 => PySem.W.fnOf "_law_more" "_law_more" (defArgs s__law_more) (defBody s__law_more) (defScope s__law_more) .none kV68 dc68 pm68 an68 cd68 ct68
    | 69 => PySem.W.fnOf "_law_spoil" "_law_spoil" (defArgs s__law_spoil) (defBody s__law_spoil) (defScope s__law_spoil) .none kV69 dc69 pm69 an69 cd69 ct69
    | 70 => PySem.W.fnOf "_law_is_integer" "_law_is_integer" (defArgs s__law_is_integer) (defBody s__law_is_integer) (defScope s__law_is_integer) .none kV70 dc70 pm70 an70 cd70 ct70
    | 71 => PySem.W.fnOf "_law_is_word" "_law_is_word" (defArgs s__law_is_word) (defBody s__law_is_word) (defScope s__law_is_word) .none kV71 dc71 pm71 an71 cd71 ct71
    | 72 => PySem.W.fnOf "_law_is_item" "_law_is_item" (defArgs s__law_is_item) (defBody s__law_is_item) (defScope s__law_is_item) .none kV72 dc72 pm72 an72 cd72 ct72
    | 73 => PySem.W.fnOf "_law_are_items" "_law_are_items" (defArgs s__law_are_items) (defBody s__law_are_items) (defScope s__law_are_items) .none kV73 dc73 pm73 an73 cd73 ct73
    | 74 => PySem.W.fnOf "_law_form" "_law_form" (defArgs s__law_form) (defBody s__law_form) (defScope s__law_form) .none kV74 dc74 pm74 an74 cd74 ct74
    | 75 => PySem.W.fnOf "_law_name_fault" "_law_name_fault" (defArgs s__law_name_fault) (defBody s__law_name_fault) (defScope s__law_name_fault) .none kV75 dc75 pm75 an75 cd75 ct75
    | 76 => PySem.W.fnOf "_law_items_fault" "_law_items_fault" (defArgs s__law_items_fault) (defBody s__law_items_fault) (defScope s__law_items_fault) .none kV76 dc76 pm76 an76 cd76 ct76
    | 77 => PySem.W.fnOf "_law_shape" "_law_shape" (defArgs s__law_shape) (defBody s__law_shape) (defScope s__law_shape) .none kV77 dc77 pm77 an77 cd77 ct77
    | 78 => PySem.W.fnOf "_law_due" "_law_due" (defArgs s__law_due) (defBody s__law_due) (defScope s__law_due) .none kV78 dc78 pm78 an78 cd78 ct78
    | 79 => PySem.W.fnOf "law" "law" (defArgs s_law) (defBody s_law) (defScope s_law) .none kV79 dc79 pm79 an79 cd79 ct79
    | 1300 => PySem.W.fnOf "__init__" "UnknownName.__init__" (defArgs s_UnknownName___init__) (defBody s_UnknownName___init__) (defScope s_UnknownName___init__) .none kV1300 dc1300 pm1300 an1300 cd1300 ct1300
    | 1500 => PySem.W.fnOf "__init__" "InvalidProgram.__init__" (defArgs s_InvalidProgram___init__) (defBody s_InvalidProgram___init__) (defScope s_InvalidProgram___init__) .none kV1500 dc1500 pm1500 an1500 cd1500 ct1500
    | 4000 => PySem.W.fnOf "__init__" "Program.__init__" (defArgs s_Program___init__) (defBody s_Program___init__) (defScope s_Program___init__) .none kV4000 dc4000 pm4000 an4000 cd4000 ct4000
    | 5700 => PySem.W.fnOf "__init__" "Schema.__init__" (defArgs s_Schema___init__) (defBody s_Schema___init__) (defScope s_Schema___init__) .none kV5700 dc5700 pm5700 an5700 cd5700 ct5700
    | 5706 => PySem.W.fnOf "service_names" "Schema.service_names" (defArgs s_Schema_service_names) (defBody s_Schema_service_names) (defScope s_Schema_service_names) .none kV5706 dc5706 pm5706 an5706 cd5706 ct5706
    | 5708 => PySem.W.fnOf "width_of" "Schema.width_of" (defArgs s_Schema_width_of) (defBody s_Schema_width_of) (defScope s_Schema_width_of) .none kV5708 dc5708 pm5708 an5708 cd5708 ct5708
    | 5710 => PySem.W.fnOf "service_of" "Schema.service_of" (defArgs s_Schema_service_of) (defBody s_Schema_service_of) (defScope s_Schema_service_of) .none kV5710 dc5710 pm5710 an5710 cd5710 ct5710
    | _ => PySem.W.fnOf "law" "law" (defArgs s_law) (defBody s_law) (defScope s_law) .none kV79 dc79 pm79 an79 cd79 ct79
  have T : Txt K mg aa dd := { F1300 := F1300, b1300 := b1300, F1500 := F1500, b1500 := b1500, F9 := F9, b9 := b9, g9 := PySem.W.mg_of X G a9, F10 := F10, b10 := b10, g10 := PySem.W.mg_of X G a10, F11 := F11, b11 := b11, g11 := PySem.W.mg_of X G a11, F36 := F36, b36 := b36, g36 := PySem.W.mg_of X G a36, F37 := F37, b37 := b37, g37 := PySem.W.mg_of X G a37, F38 := F38, b38 := b38, g38 := PySem.W.mg_of X G a38, F39 := F39, b39 := b39, g39 := PySem.W.mg_of X G a39, F40 := F40, b40 := b40, g40 := PySem.W.mg_of X G a40, F41 := F41, b41 := b41, g41 := PySem.W.mg_of X G a41, F42 := F42, b42 := b42, g42 := PySem.W.mg_of X G a42, F43 := F43, b43 := b43, g43 := PySem.W.mg_of X G a43, F44 := F44, b44 := b44, g44 := PySem.W.mg_of X G a44, F45 := F45, b45 := b45, g45 := PySem.W.mg_of X G a45, F46 := F46, b46 := b46, g46 := PySem.W.mg_of X G a46, F5700 := F5700, b5700 := b5700, F5706 := F5706, b5706 := b5706, F5708 := F5708, b5708 := b5708, F5710 := F5710, b5710 := b5710, F19 := F19, b19 := b19, g19 := PySem.W.mg_of X G a19, F20 := F20, b20 := b20, g20 := PySem.W.mg_of X G a20, F21 := F21, b21 := b21, g21 := PySem.W.mg_of X G a21, F22 := F22, b22 := b22, g22 := PySem.W.mg_of X G a22, F23 := F23, b23 := b23, g23 := PySem.W.mg_of X G a23, F24 := F24, b24 := b24, g24 := PySem.W.mg_of X G a24, F25 := F25, b25 := b25, g25 := PySem.W.mg_of X G a25, F26 := F26, b26 := b26, g26 := PySem.W.mg_of X G a26, F27 := F27, b27 := b27, g27 := PySem.W.mg_of X G a27, F28 := F28, b28 := b28, g28 := PySem.W.mg_of X G a28, F29 := F29, b29 := b29, g29 := PySem.W.mg_of X G a29, F4000 := F4000, b4000 := b4000, F49 := F49, b49 := b49, g49 := PySem.W.mg_of X G a49, F50 := F50, b50 := b50, g50 := PySem.W.mg_of X G a50, F51 := F51, b51 := b51, g51 := PySem.W.mg_of X G a51, F52 := F52, b52 := b52, g52 := PySem.W.mg_of X G a52, F53 := F53, b53 := b53, g53 := PySem.W.mg_of X G a53, F54 := F54, b54 := b54, g54 := PySem.W.mg_of X G a54, F55 := F55, b55 := b55, g55 := PySem.W.mg_of X G a55, F56 := F56, b56 := b56, g56 := PySem.W.mg_of X G a56, F57 := F57, b57 := b57, g57 := PySem.W.mg_of X G a57, F58 := F58, b58 := b58, g58 := PySem.W.mg_of X G a58, F59 := F59, b59 := b59, g59 := PySem.W.mg_of X G a59, F60 := F60, b60 := b60, g60 := PySem.W.mg_of X G a60, F61 := F61, b61 := b61, g61 := PySem.W.mg_of X G a61, F62 := F62, b62 := b62, g62 := PySem.W.mg_of X G a62, F63 := F63, b63 := b63, g63 := PySem.W.mg_of X G a63, F64 := F64, b64 := b64, g64 := PySem.W.mg_of X G a64, F65 := F65, b65 := b65, g65 := PySem.W.mg_of X G a65, F66 := F66, b66 := b66, g66 := PySem.W.mg_of X G a66, F67 := F67, b67 := b67, g67 := PySem.W.mg_of X G a67, F68 := F68, b68 := b68, g68 := PySem.W.mg_of X G a68, F69 := F69, b69 := b69, g69 := PySem.W.mg_of X G a69, F70 := F70, b70 := b70, g70 := PySem.W.mg_of X G a70, F71 := F71, b71 := b71, g71 := PySem.W.mg_of X G a71, F72 := F72, b72 := b72, g72 := PySem.W.mg_of X G a72, F73 := F73, b73 := b73, g73 := PySem.W.mg_of X G a73, F74 := F74, b74 := b74, g74 := PySem.W.mg_of X G a74, F75 := F75, b75 := b75, g75 := PySem.W.mg_of X G a75, F76 := F76, b76 := b76, g76 := PySem.W.mg_of X G a76, F77 := F77, b77 := b77, g77 := PySem.W.mg_of X G a77, F78 := F78, b78 := b78, g78 := PySem.W.mg_of X G a78, F79 := F79, b79 := b79, g79 := PySem.W.mg_of X G a79, cg_2 := PySem.W.mg_of X G ac_2, x_2 := ⟨⟨_, _, _, _, _, _, _, _, _, _, _, _, _, _, _, xl_2, rfl⟩, xs_2, xe_2, xt_2, xk_2⟩, xf_2 := ⟨ya_2, yg_2, xe_2, yh_2⟩, xi_2 := ⟨ya_2, yg_2, xe_2, yh_2, za_2, zn_2, zt_2, zm_2⟩, cg_3 := PySem.W.mg_of X G ac_3, x_3 := ⟨⟨_, _, _, _, _, _, _, _, _, _, _, _, _, _, _, xl_3, rfl⟩, xs_3, xe_3, xt_3, xk_3⟩, xf_3 := ⟨ya_3, yg_3, xe_3, yh_3⟩, xi_3 := ⟨ya_3, yg_3, xe_3, yh_3, za_3, zn_3, zt_3, zm_3⟩, in_3 := fi_3, ti_3 := ty_3, no_3_name := na_3_name, cg_4 := PySem.W.mg_of X G ac_4, x_4 := ⟨⟨_, _, _, _, _, _, _, _, _, _, _, _, _, _, _, xl_4, rfl⟩, xs_4, xe_4, xt_4, xk_4⟩, xf_4 := ⟨ya_4, yg_4, xe_4, yh_4⟩, xi_4 := ⟨ya_4, yg_4, xe_4, yh_4, za_4, zn_4, zt_4, zm_4⟩, no_4_part := na_4_part, no_4_name := na_4_name, cg_5 := PySem.W.mg_of X G ac_5, x_5 := ⟨⟨_, _, _, _, _, _, _, _, _, _, _, _, _, _, _, xl_5, rfl⟩, xs_5, xe_5, xt_5, xk_5⟩, xf_5 := ⟨ya_5, yg_5, xe_5, yh_5⟩, xi_5 := ⟨ya_5, yg_5, xe_5, yh_5, za_5, zn_5, zt_5, zm_5⟩, in_5 := fi_5, ti_5 := ty_5, no_5_part := na_5_part, no_5_at := na_5_at, cg_47 := PySem.W.mg_of X G ac_47, cl_47 := ⟨pg_47, hd_47, po_47, sa_47⟩, M_47 := ⟨mk_47, fi_47, is_5700, kc_47⟩, no_47__tables := na_47__tables, no_47__keys := na_47__keys, no_47__services := na_47__services, cg_30 := PySem.W.mg_of X G ac_30, cl_30 := ⟨pg_30, hd_30, po_30, sa_30⟩, M_30 := ⟨mk_30, fi_30, is_4000, kc_30⟩, no_30_schema := na_30_schema, no_30_width := na_30_width, no_30_part_count := na_30_part_count, no_30_call_count := na_30_call_count, no_30__steps := na_30__steps, wg__LENGTHS := PySem.W.mg_of X G ac_90017, wg__NAMES := PySem.W.mg_of X G ac_90018, ic_47 := ⟨⟨pg_47, hd_47, po_47, sa_47⟩, oa_47, on_47, ot_47, om_47, kit_self _⟩, ic_30 := ⟨⟨pg_30, hd_30, po_30, sa_30⟩, oa_30, on_30, ot_30, om_30, kit_self _⟩, kit_5_2 := kit_ref yh_2 xt_2 es_5_2, kif_5_4 := es_5_4, kit_5_ValueError := es_5_ValueError, exm_5_5 := PySem.W.exm_ref xe_5 yh_5 xt_5 es_5_5, m_5706 := ⟨ma_5706, mi_5706, k5706⟩, m_5708 := ⟨ma_5708, mi_5708, k5708⟩, m_5710 := ⟨ma_5710, mi_5710, k5710⟩, z_ValueError := PySem.W.mg_none_of X G z_ValueError, z_abs := PySem.W.mg_none_of X G z_abs, z_all := PySem.W.mg_none_of X G z_all, z_bool := PySem.W.mg_none_of X G z_bool, z_enumerate := PySem.W.mg_none_of X G z_enumerate, z_int := PySem.W.mg_none_of X G z_int, z_isinstance := PySem.W.mg_none_of X G z_isinstance, z_len := PySem.W.mg_none_of X G z_len, z_list := PySem.W.mg_none_of X G z_list, z_max := PySem.W.mg_none_of X G z_max, z_range := PySem.W.mg_none_of X G z_range, z_sorted := PySem.W.mg_none_of X G z_sorted, z_str := PySem.W.mg_none_of X G z_str, z_tuple := PySem.W.mg_none_of X G z_tuple, c_LONGEST_WORD := ⟨_, PySem.W.mg_of X G v_LONGEST_WORD⟩, c_GREATEST_VALUE := ⟨_, PySem.W.mg_of X G v_GREATEST_VALUE⟩, c_MOST_STEPS := ⟨_, PySem.W.mg_of X G v_MOST_STEPS⟩, c_MOST_WIDTH_programs := ⟨_, PySem.W.mg_of X G v_MOST_WIDTH_programs⟩, c_MOST_PARTS := ⟨_, PySem.W.mg_of X G v_MOST_PARTS⟩, c_MOST_CALLS := ⟨_, PySem.W.mg_of X G v_MOST_CALLS⟩, c_MOST_TABLES := ⟨_, PySem.W.mg_of X G v_MOST_TABLES⟩, c_MOST_WIDTH_schemas := ⟨_, PySem.W.mg_of X G v_MOST_WIDTH_schemas⟩, c_MOST_SERVICES := ⟨_, PySem.W.mg_of X G v_MOST_SERVICES⟩, c_MOST_CAP := ⟨_, PySem.W.mg_of X G v_MOST_CAP⟩ }
  have W0 : TxtW K w aa := by
    refine ⟨⟨_, _, wl_90017, wk_90017, wm_90017⟩, fun x hx => ?_, fun x hx => ?_⟩
    · simp only [kinds, List.mem_cons, List.not_mem_nil, or_false] at hx
      rcases hx with rfl | rfl | rfl | rfl | rfl | rfl
      · exact ⟨_, wv_90017_start⟩
      · exact ⟨_, wv_90017_call⟩
      · exact ⟨_, wv_90017_both⟩
      · exact ⟨_, wv_90017_pair⟩
      · exact ⟨_, wv_90017_where⟩
      · exact ⟨_, wv_90017_take⟩
    · simp only [kinds, List.mem_cons, List.not_mem_nil, or_false] at hx
      rcases hx with rfl | rfl | rfl | rfl | rfl | rfl
      · exact ⟨_, _, _, wl_90018, wk_90018, wv_90018_start, ⟨_, rfl⟩⟩
      · exact ⟨_, _, _, wl_90018, wk_90018, wv_90018_call, ⟨_, rfl⟩⟩
      · exact ⟨_, _, _, wl_90018, wk_90018, wv_90018_both, ⟨_, rfl⟩⟩
      · exact ⟨_, _, _, wl_90018, wk_90018, wv_90018_pair, ⟨_, rfl⟩⟩
      · exact ⟨_, _, _, wl_90018, wk_90018, wv_90018_where, ⟨_, rfl⟩⟩
      · exact ⟨_, _, _, wl_90018, wk_90018, wv_90018_take, ⟨_, rfl⟩⟩
  have W : TxtN K w aa := ⟨W0, fun z hz => ns_no wl_90017 wk_90017 wy_90017 (kind_no hz)⟩
  exact ⟨_, fun s v => .of_eq rfl, fun base _ _ => ok_law T W⟩
end My
open PySem PySem.W PyProof.Rows
set_option maxRecDepth 100000 in
set_option maxHeartbeats 0 in
theorem PySem.Challenge.cw_cappedcalls_k13_programs_refused_holds : PySem.Challenge.rw_cappedcalls_k13_programs_refused.Holds := by
  w_on; o_law; k_head; (case hw => w_witness2)
  k_fill
  refine L2.walk_of (l := PySem.Challenge.rw_cappedcalls_k13_programs_refused) (n := 63) (k := 12) (x := "_law_script") (CX := fun _ => L2.CX0) (sp := fun w => My.spLaw _) rfl (by decide) rfl ⟨rfl, by decide, by decide⟩ (fun w h Y => PySem.W.kIn_of Y) ?F (fun _ _ a ns hl _ hS => ⟨a, ns, rfl, hS, hl, fun _ => rfl⟩) (fun _ _ _ _ _ h => h)
  case F =>
    intro w mg fa h KX G hmg
    refine' My.all_mk KX G hmg ?ac_2 ?ac_3 ?ac_4 ?ac_5 ?ac_47 ?ac_30 ?ac_90017 ?ac_90018 ?fi_3 ?fi_5 ?fi_47 ?fi_30 ?ma_5706 ?ma_5708 ?ma_5710 ?l1300 ?c1300 ?k1300 ?l1500 ?c1500 ?k1500 ?a9 ?l9 ?c9 ?k9 ?a10 ?l10 ?c10 ?k10 ?a11 ?l11 ?c11 ?k11 ?a36 ?l36 ?c36 ?k36 ?a37 ?l37 ?c37 ?k37 ?a38 ?l38 ?c38 ?k38 ?a39 ?l39 ?c39 ?k39 ?a40 ?l40 ?c40 ?k40 ?a41 ?l41 ?c41 ?k41 ?a42 ?l42 ?c42 ?k42 ?a43 ?l43 ?c43 ?k43 ?a44 ?l44 ?c44 ?k44 ?a45 ?l45 ?c45 ?k45 ?a46 ?l46 ?c46 ?k46 ?l5700 ?c5700 ?k5700 ?l5706 ?c5706 ?k5706 ?l5708 ?c5708 ?k5708 ?l5710 ?c5710 ?k5710 ?a19 ?l19 ?c19 ?k19 ?a20 ?l20 ?c20 ?k20 ?a21 ?l21 ?c21 ?k21 ?a22 ?l22 ?c22 ?k22 ?a23 ?l23 ?c23 ?k23 ?a24 ?l24 ?c24 ?k24 ?a25 ?l25 ?c25 ?k25 ?a26 ?l26 ?c26 ?k26 ?a27 ?l27 ?c27 ?k27 ?a28 ?l28 ?c28 ?k28 ?a29 ?l29 ?c29 ?k29 ?l4000 ?c4000 ?k4000 ?a49 ?l49 ?c49 ?k49 ?a50 ?l50 ?c50 ?k50 ?a51 ?l51 ?c51 ?k51 ?a52 ?l52 ?c52 ?k52 ?a53 ?l53 ?c53 ?k53 ?a54 ?l54 ?c54 ?k54 ?a55 ?l55 ?c55 ?k55 ?a56 ?l56 ?c56 ?k56 ?a57 ?l57 ?c57 ?k57 ?a58 ?l58 ?c58 ?k58 ?a59 ?l59 ?c59 ?k59 ?a60 ?l60 ?c60 ?k60 ?a61 ?l61 ?c61 ?k61 ?a62 ?l62 ?c62 ?k62 ?a63 ?l63 ?c63 ?k63 ?a64 ?l64 ?c64 ?k64 ?a65 ?l65 ?c65 ?k65 ?a66 ?l66 ?c66 ?k66 ?a67 ?l67 ?c67 ?k67 ?a68 ?l68 ?c68 ?k68 ?a69 ?l69 ?c69 ?k69 ?a70 ?l70 ?c70 ?k70 ?a71 ?l71 ?c71 ?k71 ?a72 ?l72 ?c72 ?k72 ?a73 ?l73 ?c73 ?k73 ?a74 ?l74 ?c74 ?k74 ?a75 ?l75 ?c75 ?k75 ?a76 ?l76 ?c76 ?k76 ?a77 ?l77 ?c77 ?k77 ?a78 ?l78 ?c78 ?k78 ?a79 ?l79 ?c79 ?k79 ?xl_2 ?xs_2 ?xe_2 ?xt_2 ?xk_2 ?ya_2 ?yg_2 ?yh_2 ?za_2 ?zn_2 ?zt_2 ?zm_2 ?xl_3 ?xs_3 ?xe_3 ?xt_3 ?xk_3 ?ya_3 ?yg_3 ?yh_3 ?za_3 ?zn_3 ?zt_3 ?zm_3 ?ty_3 ?na_3_name ?xl_4 ?xs_4 ?xe_4 ?xt_4 ?xk_4 ?ya_4 ?yg_4 ?yh_4 ?za_4 ?zn_4 ?zt_4 ?zm_4 ?na_4_part ?na_4_name ?xl_5 ?xs_5 ?xe_5 ?xt_5 ?xk_5 ?ya_5 ?yg_5 ?yh_5 ?za_5 ?zn_5 ?zt_5 ?zm_5 ?ty_5 ?na_5_part ?na_5_at ?pg_47 ?hd_47 ?po_47 ?sa_47 ?mk_47 ?is_5700 ?kc_47 ?na_47__tables ?na_47__keys ?na_47__services ?pg_30 ?hd_30 ?po_30 ?sa_30 ?mk_30 ?is_4000 ?kc_30 ?na_30_schema ?na_30_width ?na_30_part_count ?na_30_call_count ?na_30__steps ?wv_90017_start ?wv_90017_call ?wv_90017_both ?wv_90017_pair ?wv_90017_where ?wv_90017_take ?wl_90017 ?wk_90017 ?wm_90017 ?wy_90017 ?wv_90018_start ?wv_90018_call ?wv_90018_both ?wv_90018_pair ?wv_90018_where ?wv_90018_take ?wl_90018 ?wk_90018 ?wm_90018 ?oa_47 ?on_47 ?ot_47 ?om_47 ?oa_30 ?on_30 ?ot_30 ?om_30 ?es_5_2 ?es_5_4 ?es_5_ValueError ?es_5_5 ?mi_5706 ?mi_5708 ?mi_5710 ?z_ValueError ?z_abs ?z_all ?z_bool ?z_enumerate ?z_int ?z_isinstance ?z_len ?z_list ?z_max ?z_range ?z_sorted ?z_str ?z_tuple ?v_LONGEST_WORD ?v_GREATEST_VALUE ?v_MOST_STEPS ?v_MOST_WIDTH_programs ?v_MOST_PARTS ?v_MOST_CALLS ?v_MOST_TABLES ?v_MOST_WIDTH_schemas ?v_MOST_SERVICES ?v_MOST_CAP
    (case ac_2 => k_is)
    (case ac_3 => k_is)
    (case ac_4 => k_is)
    (case ac_5 => k_is)
    (case ac_47 => k_is)
    (case ac_30 => k_is)
    (case ac_90017 => k_is)
    (case ac_90018 => k_is)
    (case fi_3 => k_is)
    (case fi_5 => k_is)
    (case fi_47 => k_is)
    (case fi_30 => k_is)
    (case ma_5706 => k_is)
    (case ma_5708 => k_is)
    (case ma_5710 => k_is)
    (case l1300 => k_is)
    (case c1300 => k_is)
    (case k1300 => k_is)
    (case l1500 => k_is)
    (case c1500 => k_is)
    (case k1500 => k_is)
    (case a9 => k_is)
    (case l9 => k_is)
    (case c9 => k_is)
    (case k9 => k_is)
    (case a10 => k_is)
    (case l10 => k_is)
    (case c10 => k_is)
    (case k10 => k_is)
    (case a11 => k_is)
    (case l11 => k_is)
    (case c11 => k_is)
    (case k11 => k_is)
    (case a36 => k_is)
    (case l36 => k_is)
    (case c36 => k_is)
    (case k36 => k_is)
    (case a37 => k_is)
    (case l37 => k_is)
    (case c37 => k_is)
    (case k37 => k_is)
    (case a38 => k_is)
    (case l38 => k_is)
    (case c38 => k_is)
    (case k38 => k_is)
    (case a39 => k_is)
    (case l39 => k_is)
    (case c39 => k_is)
    (case k39 => k_is)
    (case a40 => k_is)
    (case l40 => k_is)
    (case c40 => k_is)
    (case k40 => k_is)
    (case a41 => k_is)
    (case l41 => k_is)
    (case c41 => k_is)
    (case k41 => k_is)
    (case a42 => k_is)
    (case l42 => k_is)
    (case c42 => k_is)
    (case k42 => k_is)
    (case a43 => k_is)
    (case l43 => k_is)
    (case c43 => k_is)
    (case k43 => k_is)
    (case a44 => k_is)
    (case l44 => k_is)
    (case c44 => k_is)
    (case k44 => k_is)
    (case a45 => k_is)
    (case l45 => k_is)
    (case c45 => k_is)
    (case k45 => k_is)
    (case a46 => k_is)
    (case l46 => k_is)
    (case c46 => k_is)
    (case k46 => k_is)
    (case l5700 => k_is)
    (case c5700 => k_is)
    (case k5700 => k_is)
    (case l5706 => k_is)
    (case c5706 => k_is)
    (case k5706 => k_is)
    (case l5708 => k_is)
    (case c5708 => k_is)
    (case k5708 => k_is)
    (case l5710 => k_is)
    (case c5710 => k_is)
    (case k5710 => k_is)
    (case a19 => k_is)
    (case l19 => k_is)
    (case c19 => k_is)
    (case k19 => k_is)
    (case a20 => k_is)
    (case l20 => k_is)
    (case c20 => k_is)
    (case k20 => k_is)
    (case a21 => k_is)
    (case l21 => k_is)
    (case c21 => k_is)
    (case k21 => k_is)
    (case a22 => k_is)
    (case l22 => k_is)
    (case c22 => k_is)
    (case k22 => k_is)
    (case a23 => k_is)
    (case l23 => k_is)
    (case c23 => k_is)
    (case k23 => k_is)
    (case a24 => k_is)
    (case l24 => k_is)
    (case c24 => k_is)
    (case k24 => k_is)
    (case a25 => k_is)
    (case l25 => k_is)
    (case c25 => k_is)
    (case k25 => k_is)
    (case a26 => k_is)
    (case l26 => k_is)
    (case c26 => k_is)
    (case k26 => k_is)
    (case a27 => k_is)
    (case l27 => k_is)
    (case c27 => k_is)
    (case k27 => k_is)
    (case a28 => k_is)
    (case l28 => k_is)
    (case c28 => k_is)
    (case k28 => k_is)
    (case a29 => k_is)
    (case l29 => k_is)
    (case c29 => k_is)
    (case k29 => k_is)
    (case l4000 => k_is)
    (case c4000 => k_is)
    (case k4000 => k_is)
    (case a49 => k_is)
    (case l49 => k_is)
    (case c49 => k_is)
    (case k49 => k_is)
    (case a50 => k_is)
    (case l50 => k_is)
    (case c50 => k_is)
    (case k50 => k_is)
    (case a51 => k_is)
    (case l51 => k_is)
    (case c51 => k_is)
    (case k51 => k_is)
    (case a52 => k_is)
    (case l52 => k_is)
    (case c52 => k_is)
    (case k52 => k_is)
    (case a53 => k_is)
    (case l53 => k_is)
    (case c53 => k_is)
    (case k53 => k_is)
    (case a54 => k_is)
    (case l54 => k_is)
    (case c54 => k_is)
    (case k54 => k_is)
    (case a55 => k_is)
    (case l55 => k_is)
    (case c55 => k_is)
    (case k55 => k_is)
    (case a56 => k_is)
    (case l56 => k_is)
    (case c56 => k_is)
    (case k56 => k_is)
    (case a57 => k_is)
    (case l57 => k_is)
    (case c57 => k_is)
    (case k57 => k_is)
    (case a58 => k_is)
    (case l58 => k_is)
    (case c58 => k_is)
    (case k58 => k_is)
    (case a59 => k_is)
    (case l59 => k_is)
    (case c59 => k_is)
    (case k59 => k_is)
    (case a60 => k_is)
    (case l60 => k_is)
    (case c60 => k_is)
    (case k60 => k_is)
    (case a61 => k_is)
    (case l61 => k_is)
    (case c61 => k_is)
    (case k61 => k_is)
    (case a62 => k_is)
    (case l62 => k_is)
    (case c62 => k_is)
    (case k62 => k_is)
    (case a63 => k_is)
    (case l63 => k_is)
    (case c63 => k_is)
    (case k63 => k_is)
    (case a64 => k_is)
    (case l64 => k_is)
    (case c64 => k_is)
    (case k64 => k_is)
    (case a65 => k_is)
    (case l65 => k_is)
    (case c65 => k_is)
    (case k65 => k_is)
    (case a66 => k_is)
    (case l66 => k_is)
    (case c66 => k_is)
    (case k66 => k_is)
    (case a67 => k_is)
    (case l67 => k_is)
    (case c67 => k_is)
    (case k67 => k_is)
    (case a68 => k_is)
    (case l68 => k_is)
    (case c68 => k_is)
    (case k68 => k_is)
    (case a69 => k_is)
    (case l69 => k_is)
    (case c69 => k_is)
    (case k69 => k_is)
    (case a70 => k_is)
    (case l70 => k_is)
    (case c70 => k_is)
    (case k70 => k_is)
    (case a71 => k_is)
    (case l71 => k_is)
    (case c71 => k_is)
    (case k71 => k_is)
    (case a72 => k_is)
    (case l72 => k_is)
    (case c72 => k_is)
    (case k72 => k_is)
    (case a73 => k_is)
    (case l73 => k_is)
    (case c73 => k_is)
    (case k73 => k_is)
    (case a74 => k_is)
    (case l74 => k_is)
    (case c74 => k_is)
    (case k74 => k_is)
    (case a75 => k_is)
    (case l75 => k_is)
    (case c75 => k_is)
    (case k75 => k_is)
    (case a76 => k_is)
    (case l76 => k_is)
    (case c76 => k_is)
    (case k76 => k_is)
    (case a77 => k_is)
    (case l77 => k_is)
    (case c77 => k_is)
    (case k77 => k_is)
    (case a78 => k_is)
    (case l78 => k_is)
    (case c78 => k_is)
    (case k78 => k_is)
    (case a79 => k_is)
    (case l79 => k_is)
    (case c79 => k_is)
    (case k79 => k_is)
    (case xl_2 => k_is)
    (case xs_2 => k_is)
    (case xe_2 => k_is)
    (case xt_2 => k_is)
    (case xk_2 => k_is)
    (case ya_2 => k_is)
    (case yg_2 => k_is)
    (case yh_2 => k_is)
    (case za_2 => k_is)
    (case zn_2 => k_is)
    (case zt_2 => k_is)
    (case zm_2 => k_is)
    (case xl_3 => k_is)
    (case xs_3 => k_is)
    (case xe_3 => k_is)
    (case xt_3 => k_is)
    (case xk_3 => k_is)
    (case ya_3 => k_is)
    (case yg_3 => k_is)
    (case yh_3 => k_is)
    (case za_3 => k_is)
    (case zn_3 => k_is)
    (case zt_3 => k_is)
    (case zm_3 => k_is)
    (case ty_3 => k_is)
    (case na_3_name => k_is)
    (case xl_4 => k_is)
    (case xs_4 => k_is)
    (case xe_4 => k_is)
    (case xt_4 => k_is)
    (case xk_4 => k_is)
    (case ya_4 => k_is)
    (case yg_4 => k_is)
    (case yh_4 => k_is)
    (case za_4 => k_is)
    (case zn_4 => k_is)
    (case zt_4 => k_is)
    (case zm_4 => k_is)
    (case na_4_part => k_is)
    (case na_4_name => k_is)
    (case xl_5 => k_is)
    (case xs_5 => k_is)
    (case xe_5 => k_is)
    (case xt_5 => k_is)
    (case xk_5 => k_is)
    (case ya_5 => k_is)
    (case yg_5 => k_is)
    (case yh_5 => k_is)
    (case za_5 => k_is)
    (case zn_5 => k_is)
    (case zt_5 => k_is)
    (case zm_5 => k_is)
    (case ty_5 => k_is)
    (case na_5_part => k_is)
    (case na_5_at => k_is)
    (case pg_47 => k_is)
    (case hd_47 => k_is)
    (case po_47 => k_is)
    (case sa_47 => k_is)
    (case mk_47 => k_is)
    (case is_5700 => k_is)
    (case kc_47 => k_is)
    (case na_47__tables => k_is)
    (case na_47__keys => k_is)
    (case na_47__services => k_is)
    (case pg_30 => k_is)
    (case hd_30 => k_is)
    (case po_30 => k_is)
    (case sa_30 => k_is)
    (case mk_30 => k_is)
    (case is_4000 => k_is)
    (case kc_30 => k_is)
    (case na_30_schema => k_is)
    (case na_30_width => k_is)
    (case na_30_part_count => k_is)
    (case na_30_call_count => k_is)
    (case na_30__steps => k_is)
    (case wv_90017_start => k_is)
    (case wv_90017_call => k_is)
    (case wv_90017_both => k_is)
    (case wv_90017_pair => k_is)
    (case wv_90017_where => k_is)
    (case wv_90017_take => k_is)
    (case wl_90017 => k_is)
    (case wk_90017 => exact ⟨⟨_, _, rfl, rfl⟩, ⟨_, _, rfl, rfl⟩, ⟨_, _, rfl, rfl⟩, ⟨_, _, rfl, rfl⟩, ⟨_, _, rfl, rfl⟩, ⟨_, _, rfl, rfl⟩,  trivial⟩)
    (case wm_90017 => rfl)
    (case wy_90017 => rfl)
    (case wv_90018_start => k_is)
    (case wv_90018_call => k_is)
    (case wv_90018_both => k_is)
    (case wv_90018_pair => k_is)
    (case wv_90018_where => k_is)
    (case wv_90018_take => k_is)
    (case wl_90018 => k_is)
    (case wk_90018 => exact ⟨⟨_, _, rfl, rfl⟩, ⟨_, _, rfl, rfl⟩, ⟨_, _, rfl, rfl⟩, ⟨_, _, rfl, rfl⟩, ⟨_, _, rfl, rfl⟩, ⟨_, _, rfl, rfl⟩,  trivial⟩)
    (case wm_90018 => rfl)
    (case oa_47 => k_is)
    (case on_47 => k_is)
    (case ot_47 => k_is)
    (case om_47 => k_is)
    (case oa_30 => k_is)
    (case on_30 => k_is)
    (case ot_30 => k_is)
    (case om_30 => k_is)
    (case es_5_2 => first | rfl | k_is)
    (case es_5_4 => first | rfl | k_is)
    (case es_5_ValueError => first | rfl | k_is)
    (case es_5_5 => first | rfl | k_is)
    (case mi_5706 => k_is)
    (case mi_5708 => k_is)
    (case mi_5710 => k_is)
    (case z_ValueError => k_is)
    (case z_abs => k_is)
    (case z_all => k_is)
    (case z_bool => k_is)
    (case z_enumerate => k_is)
    (case z_int => k_is)
    (case z_isinstance => k_is)
    (case z_len => k_is)
    (case z_list => k_is)
    (case z_max => k_is)
    (case z_range => k_is)
    (case z_sorted => k_is)
    (case z_str => k_is)
    (case z_tuple => k_is)
    (case v_LONGEST_WORD => k_is)
    (case v_GREATEST_VALUE => k_is)
    (case v_MOST_STEPS => k_is)
    (case v_MOST_WIDTH_programs => k_is)
    (case v_MOST_PARTS => k_is)
    (case v_MOST_CALLS => k_is)
    (case v_MOST_TABLES => k_is)
    (case v_MOST_WIDTH_schemas => k_is)
    (case v_MOST_SERVICES => k_is)
    (case v_MOST_CAP => k_is)

