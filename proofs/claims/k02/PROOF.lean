import PyProof.Rows.All
import Wide.All
import OpenK.AllK
import Wide.FinOn
import HandS.ForMost
import HandS.Star
import HandS.IsInst
import HandS.Codes
import HandS.FStr
import HandS.Zip
import HandS.RaiseMore
import HandS.Style
import HandS.Walk
import HandS.TupAny
import HandS.Exc
import HandS.ExcOwn
import HandS.ExcInit
import HandS.ExcField
import HandS.WordsExc
import KE.KExcIs
import KE.RegKIsAll
import PySem.Challenge.RW_newestrow_k02_tables_refused
import HandS.ExcIs
set_option Elab.async false
set_option linter.all false
set_option maxRecDepth 100000
set_option maxHeartbeats 8000000
/-! Own layer: stable parts of the abstract heap, data, draws. -/
namespace Nw
open PySem L2

/-- from (H, G) to (H', G'): G is the stable part of H (never written), b the one old object that may change -/
structure Xt (b : Option Addr) (H G H' G' : Hp) : Prop where
  sub0 : Same G H
  gg : Same G G'
  sub : Same G' H'
  hh : ∀ a o, b ≠ some a → H a = some o → H' a = some o
  th : ∀ a, H a ≠ none → H' a ≠ none
  nw : ∀ a o, G' a = some o → G a = some o ∨ H a = none
section
variable {b : Option Addr} {H G H1 G1 H2 G2 : Hp} {p l : Addr} {o o' : HO}
theorem Xt.refl (s : Same G H) : Xt b H G H G := ⟨s, fun _ _ h => h, s, fun _ _ _ h => h, fun _ h => h, fun _ _ h => .inl h⟩
theorem Xt.trans (x : Xt b H G H1 G1) (y : Xt b H1 G1 H2 G2) : Xt b H G H2 G2 :=
  ⟨x.sub0, fun a o h => y.gg a o (x.gg a o h), y.sub, fun a o n h => y.hh a o n (x.hh a o n h), fun a h => y.th a (x.th a h), fun a o h => by
    rcases y.nw a o h with h | h
    · exact x.nw a o h
    · cases e : H a with
      | none => exact .inr rfl
      | some u => exact absurd h (x.th a (by rw [e]; exact fun z => by cases z))⟩
theorem Xt.of (x : Xt none H G H1 G1) : Xt b H G H1 G1 := ⟨x.sub0, x.gg, x.sub, fun a o _ h => x.hh a o (fun z => by cases z) h, x.th, x.nw⟩
theorem upd_same_ {H : Hp} {p : Addr} {o : HO} (h : H p = none) : Same H (upd H p o) := fun a u e => by rw [upd_ne (ne_of_none e h)]; exact e
theorem Xt.fresh (x : Xt b H G H1 G1) (h : H1 p = none) : H p = none := by
  cases e : H p with
  | none => rfl
  | some u => exact absurd h (x.th p (by rw [e]; exact fun z => by cases z))
/-- a new object, stable from now on -/
theorem Xt.new (s : Same G H) (h : H p = none) : Xt b H G (upd H p o) (upd G p o) := by
  have hg : G p = none := s.free h
  refine ⟨s, upd_same_ hg, fun a u e => ?_, fun a u _ e => upd_same_ h a u e, fun a e => ?_, fun a u e => ?_⟩
  · by_cases q : a = p
    · subst q; rw [upd_same] at e ⊢; exact e
    · rw [upd_ne q] at e ⊢; exact s a u e
  · by_cases q : a = p
    · subst q; rw [upd_same]; exact fun z => by cases z
    · rw [upd_ne q]; exact e
  · by_cases q : a = p
    · subst q; exact .inr h
    · rw [upd_ne q] at e; exact .inl e
/-- a new object that may change yet -/
theorem Xt.tmp (s : Same G H) (h : H p = none) : Xt b H G (upd H p o) G := by
  refine ⟨s, fun _ _ h => h, fun a u e => upd_same_ h a u (s a u e), fun a u _ e => upd_same_ h a u e, fun a e => ?_, fun a u e => .inl e⟩
  by_cases q : a = p
  · subst q; rw [upd_same]; exact fun z => by cases z
  · rw [upd_ne q]; exact e
/-- an own object (made behind H) is changed -/
theorem Xt.set (x : Xt b H G H1 G1) (h : H l = none) (hg : G1 l = none) : Xt b H G (upd H1 l o) G1 := by
  refine ⟨x.sub0, x.gg, fun a u e => ?_, fun a u n e => ?_, fun a e => ?_, x.nw⟩
  · rw [upd_ne (ne_of_none e hg)]; exact x.sub a u e
  · rw [upd_ne (ne_of_none e h)]; exact x.hh a u n e
  · by_cases q : a = l
    · subst q; rw [upd_same]; exact fun z => by cases z
    · rw [upd_ne q]; exact x.th a e
/-- the one old object is changed -/
theorem Xt.put {b : Addr} (x : Xt (some b) H G H1 G1) (hg : G1 b = none) : Xt (some b) H G (upd H1 b o) G1 := by
  refine ⟨x.sub0, x.gg, fun a u e => ?_, fun a u n e => ?_, fun a e => ?_, x.nw⟩
  · rw [upd_ne (ne_of_none e hg)]; exact x.sub a u e
  · rw [upd_ne (fun q => n (by rw [q]))]; exact x.hh a u n e
  · by_cases q : a = b
    · subst q; rw [upd_same]; exact fun z => by cases z
    · rw [upd_ne q]; exact x.th a e
/-- an own object becomes stable -/
theorem Xt.fix (x : Xt b H G H1 G1) (h : H l = none) (hl : H1 l = some o) : Xt b H G H1 (upd G1 l o) := by
  have g1 : Same G1 (upd G1 l o) := fun a u e => by
    by_cases q : a = l
    · subst q; rw [upd_same, ← hl]; exact x.sub a u e
    · rw [upd_ne q]; exact e
  refine ⟨x.sub0, fun a u e => g1 a u (x.gg a u e), fun a u e => ?_, x.hh, x.th, fun a u e => ?_⟩
  · by_cases q : a = l
    · subst q; rw [upd_same] at e; rw [hl]; exact e
    · rw [upd_ne q] at e; exact x.sub a u e
  · by_cases q : a = l
    · subst q; exact .inr h
    · rw [upd_ne q] at e; exact x.nw a u e
/-- what is not stable and old stays so -/
theorem Xt.non (x : Xt b H G H1 G1) (h : H l ≠ none) (hg : G l = none) : G1 l = none := by
  cases e : G1 l with
  | none => rfl
  | some u =>
    rcases x.nw l u e with z | z
    · rw [hg] at z; cases z
    · exact absurd z h
theorem Xt.alloc (x : Xt b H G H1 G1) (h : H1 p = none) : Xt b H G (upd H1 p o) (upd G1 p o) := x.trans (Xt.new x.sub h)
theorem Xt.allocT (x : Xt b H G H1 G1) (h : H1 p = none) : Xt b H G (upd H1 p o) G1 := x.trans (Xt.tmp x.sub h)
end
theorem ne_none_of {H : Hp} {a : Addr} {o : HO} (h : H a = some o) : H a ≠ none := by rw [h]; exact fun z => by cases z
theorem none_of_ne {G : Hp} {l p : Addr} {o : HO} (h : G l = none) (n : l ≠ p) : upd G p o l = none := by rw [upd_ne n]; exact h

/-! ### data in the stable part -/
mutual
inductive D (G : Hp) : V → PyData → Prop
  | non : D G .non .none
  | bl (b : Bool) : D G (.bl b) (.bool b)
  | int (i : Int) : D G (.int i) (.int i)
  | str (x : Str) : D G (.str x) (.str x)
  | lst {a : Addr} {xs : List V} {ds : List PyData} : G a = some (.lst xs) → DA G xs ds → D G (.ref a) (.list ds)
  | tup {a : Addr} {xs : List V} {ds : List PyData} : G a = some (.tup xs) → DA G xs ds → D G (.ref a) (.tuple ds)
inductive DA (G : Hp) : List V → List PyData → Prop
  | nil : DA G [] []
  | cons {v : V} {vs : List V} {d : PyData} {ds : List PyData} : D G v d → DA G vs ds → DA G (v :: vs) (d :: ds)
end
section
variable {G G' H : Hp} {K : PySem.W.Frag}
mutual
theorem D.mono (s : Same G G') : ∀ {d : PyData} {v : V}, D G v d → D G' v d
  | _, _, .non => .non
  | _, _, .bl b => .bl b
  | _, _, .int i => .int i
  | _, _, .str x => .str x
  | _, _, .lst h a => .lst (s _ _ h) (DA.mono s a)
  | _, _, .tup h a => .tup (s _ _ h) (DA.mono s a)
theorem DA.mono (s : Same G G') : ∀ {ds : List PyData} {vs : List V}, DA G vs ds → DA G' vs ds
  | _, _, .nil => .nil
  | _, _, .cons h a => .cons (D.mono s h) (DA.mono s a)
end
mutual
theorem D.dp (s : Same G H) : ∀ {d : PyData} {v : V}, D G v d → Dp K H v d
  | _, _, .non => .non
  | _, _, .bl b => .bl b
  | _, _, .int i => .int i
  | _, _, .str x => .str x
  | _, _, .lst h a => .lst (SqL.of (s _ _ h)) (DA.dp s a)
  | _, _, .tup h a => .tup (SqT.of (s _ _ h)) (DA.dp s a)
theorem DA.dp (s : Same G H) : ∀ {ds : List PyData} {vs : List V}, DA G vs ds → DpAll K H vs ds
  | _, _, .nil => .nil
  | _, _, .cons h a => .cons (D.dp s h) (DA.dp s a)
end
theorem DA.length : ∀ {ds : List PyData} {vs : List V}, DA G vs ds → vs.length = ds.length
  | _, _, .nil => rfl
  | _, _, .cons _ a => by rw [List.length_cons, List.length_cons, DA.length a]
theorem DA.get : ∀ {ds : List PyData} {vs : List V} {i : Nat} {v : V}, DA G vs ds → vs[i]? = some v → ∃ d, ds[i]? = some d ∧ D G v d
  | _, _, i, v, .nil, h => by simp at h
  | _, _, 0, v, .cons h a, e => by simp at e; subst e; exact ⟨_, rfl, h⟩
  | _, _, i + 1, v, .cons h a, e => by
    obtain ⟨d, h1, h2⟩ := DA.get (i := i) (v := v) a (by simpa using e)
    exact ⟨d, by simpa using h1, h2⟩
theorem DA.at : ∀ {ds : List PyData} {vs : List V} {i : Nat} {d : PyData}, DA G vs ds → ds[i]? = some d → ∃ v, vs[i]? = some v ∧ D G v d
  | _, _, i, v, .nil, h => by simp at h
  | _, _, 0, v, .cons h a, e => by simp at e; subst e; exact ⟨_, rfl, h⟩
  | _, _, i + 1, v, .cons h a, e => by
    obtain ⟨d, h1, h2⟩ := DA.at (i := i) (d := v) a (by simpa using e)
    exact ⟨d, by simpa using h1, h2⟩
theorem DA.append : ∀ {ds es : List PyData} {vs ws : List V}, DA G vs ds → DA G ws es → DA G (vs ++ ws) (ds ++ es)
  | _, _, _, _, .nil, b => b
  | _, _, _, _, .cons h a, b => .cons h (DA.append a b)
theorem DA.one {v : V} {d : PyData} (h : D G v d) : DA G [v] [d] := .cons h .nil
theorem DA.take : ∀ {ds : List PyData} {vs : List V} (n : Nat), DA G vs ds → DA G (vs.take n) (ds.take n)
  | _, _, 0, _ => .nil
  | _, _, _ + 1, .nil => .nil
  | _, _, n + 1, .cons h a => .cons h (DA.take n a)
theorem DA.drop : ∀ {ds : List PyData} {vs : List V} (n : Nat), DA G vs ds → DA G (vs.drop n) (ds.drop n)
  | _, _, 0, r => r
  | _, _, _ + 1, .nil => .nil
  | _, _, n + 1, .cons _ a => DA.drop n a
theorem DA.reverse {ds : List PyData} {vs : List V} (a : DA G vs ds) : DA G vs.reverse ds.reverse := by
  induction vs generalizing ds with
  | nil => cases a; exact .nil
  | cons v vs ih =>
    cases a with
    | cons h a => rw [List.reverse_cons, List.reverse_cons]; exact (ih a).append (.one h)
theorem DA.ints : ∀ {ns : List Int} {vs : List V}, DA G vs (ns.map .int) → vs = ns.map V.int
  | [], _, .nil => rfl
  | n :: ns, _, .cons h a => by
    cases h
    rw [DA.ints a] <;> rfl
theorem DA.ofInts : ∀ (ns : List Int), DA G (ns.map V.int) (ns.map .int)
  | [] => .nil
  | n :: ns => .cons (.int n) (DA.ofInts ns)
theorem DA.strs : ∀ {ns : List Str} {vs : List V}, DA G vs (ns.map .str) → vs = ns.map V.str
  | [], _, .nil => rfl
  | n :: ns, _, .cons h a => by
    cases h
    rw [DA.strs a] <;> rfl
theorem DA.ofStrs : ∀ (ns : List Str), DA G (ns.map V.str) (ns.map .str)
  | [] => .nil
  | n :: ns => .cons (.str n) (DA.ofStrs ns)
theorem D.list_inv {v : V} {ds : List PyData} (h : D G v (.list ds)) : ∃ a xs, v = .ref a ∧ G a = some (.lst xs) ∧ DA G xs ds := by
  cases h with
  | lst h a => exact ⟨_, _, rfl, h, a⟩
theorem D.tup_inv {v : V} {ds : List PyData} (h : D G v (.tuple ds)) : ∃ a xs, v = .ref a ∧ G a = some (.tup xs) ∧ DA G xs ds := by
  cases h with
  | tup h a => exact ⟨_, _, rfl, h, a⟩
end

/-! ### the bag of draws -/
/-- the bag at b, from which at most c numbers were drawn -/
def Bag (H : Hp) (b : Addr) (c : Int) : Prop := ∃ x y z : Int, H b = some (.lst [.int x, .int y, .int z]) ∧ 0 ≤ y ∧ y < 8000000000000000000 ∧ 0 ≤ z ∧ z ≤ c
theorem Bag.mono {H : Hp} {b : Addr} {c d : Int} (h : Bag H b c) (e : c ≤ d) : Bag H b d := by
  obtain ⟨x, y, z, h1, h2, h3, h4, h5⟩ := h
  exact ⟨x, y, z, h1, h2, h3, h4, Int.le_trans h5 e⟩
theorem Bag.ne {H : Hp} {b : Addr} {c : Int} (h : Bag H b c) : H b ≠ none := by
  obtain ⟨x, y, z, h1, _⟩ := h
  exact ne_none_of h1
theorem Bag.keep {H G H' G' : Hp} {b : Addr} {c : Int} (h : Bag H b c) (x : Xt none H G H' G') : Bag H' b c := by
  obtain ⟨x1, y, z, h1, h2⟩ := h
  exact ⟨x1, y, z, x.hh b _ (fun z => by cases z) h1, h2⟩
theorem Bag.new {H : Hp} {b p : Addr} {c : Int} {o : HO} (h : Bag H b c) (hp : H p = none) : Bag (upd H p o) b c := by
  obtain ⟨x1, y, z, h1, h2⟩ := h
  exact ⟨x1, y, z, upd_same_ hp _ _ h1, h2⟩
theorem Bag.upd {H : Hp} {b p : Addr} {c : Int} {o : HO} (h : Bag H b c) (hp : b ≠ p) : Bag (upd H p o) b c := by
  obtain ⟨x1, y, z, h1, h2⟩ := h
  exact ⟨x1, y, z, by rw [upd_ne hp]; exact h1, h2⟩

/-- the law's helpers that draw -/
def spTake : Sp := fun vs H Q _ => ∃ (b : Addr) (n c : Int), vs = [.ref b, .int n] ∧ 0 < n ∧ n ≤ 1000000 ∧ Bag H b c ∧ c ≤ 1000000 ∧
  ∀ r x y z : Int, 0 ≤ r → r < n → Bag (upd H b (.lst [.int x, .int y, .int z])) b (c + 1) → Q (.int r) (upd H b (.lst [.int x, .int y, .int z]))
/-- _law_of: an item -/
def spOf : Sp := fun vs H Q _ => ∃ (b a : Addr) (xs : List V) (c : Int), vs = [.ref b, .ref a] ∧ H a = some (.lst xs) ∧ a ≠ b ∧ xs ≠ [] ∧ xs.length ≤ 1000000 ∧ Bag H b c ∧ c ≤ 1000000 ∧
  ∀ (v : V) (i : Nat) (x y z : Int), xs[i]? = some v → Bag (upd H b (.lst [.int x, .int y, .int z])) b (c + 1) → Q v (upd H b (.lst [.int x, .int y, .int z]))
/-- _law_bag: a new bag -/
def spBag (K : PySem.W.Frag) : Sp := fun vs H Q _ => ∃ (a : Addr) (ns : List Int) (i : Int), vs = [.ref a, .int i] ∧ SqL K H a (ns.map V.int) ∧ 0 ≤ i ∧ i ≤ 1000 ∧
  ∀ (p : Addr) (x y z : Int), H p = none → Bag (upd H p (.lst [.int x, .int y, .int z])) p 0 → Q (.ref p) (upd H p (.lst [.int x, .int y, .int z]))
end Nw
/-! Own layer: an own class's len, repr, in, ==, !=. -/
namespace PySem.W
open PySem PySem.Calls PyProof.Rows Builtin
section
variable {prog : Program} {w : World} {A : Around} {E : Value → Shared → Prop} {s : Shared} {K : Frag} {x C L f : Addr} {h₀ : Heap} {m : Str → Option Value} {ox : Obj} {od : Option Obj} {b tb : Value}
theorem nw_ifBoundB {M : Model} {name : Str} {id : String} {args : List Value} {Q : Option Value → Shared → Prop} (X : K.In s.heap) (I : InstAt s.heap x ox C od) (hs : findIn K (.ref C) name = some (some (.builtin id)))
    (hb : ∀ self, bindSpecial (.builtin id) self = pure (.builtin id, [self])) (h : wpAny M A (call (.builtin id) (.ref x :: args)) (fun v => Q (some v)) E s) : wpAny M A (callSpecialIfBound? (.ref x) name args) Q E s := by
  simp only [callSpecialIfBound?, bindSpecialIfBound?]
  refine wpAny_holding (wpAny_bind (wpAny_bind (wpAny_bind (I.type.here ((looks_findIn X hs).here ?_)))))
  refine wpAny_bind (wpAny_askSetting (wpAny_ite ?_))
  have fin : wpAny M A (call (.builtin id) ([.ref x] ++ args) >>= fun v => pure (some v)) Q E s := wpAny_bind (wpAny_mono h (fun v s' h' => wpAny_pure h') fun _ _ h' => h')
  split
  · exact wpAny_bind ((Looks.of_pure (hb _)).here (wpAny_pure (by exact fin)))
  · exact wpAny_tryCatch (wpAny_bind ((Looks.of_pure (hb _)).here (wpAny_pure (by exact fin))))
theorem nw_objNe {Q : Value → Shared → Prop} (hu : A.in1.units < cLine) (X : K.In s.heap) (I : InstAt s.heap x ox C od) (hm : mroIn K C (.type "object") = some true) (hs : findIn K (.ref C) "__eq__" = some (some (.ref f))) (hf : isFn K (.ref f) = true)
    (h : wpAny (model prog w) A.in1 (call (.ref f) [.ref x, b]) (fun v s' => ∃ r, v = .bool r ∧ Q (.bool (!r)) s') E s) : wpAny (model prog w) A (call (.builtin "object.__ne__") [.ref x, b]) Q E s := by
  refine wpAny_call (codeAny_call_builtin PySem.F.cmp_object.ne.plain PySem.F.cmpEntry_ne (check_slot (i := "object.__ne__") (owner := "object") (n := "__ne__") PySem.F.cmpKind_ne PySem.F.cmpSplit_ne (I.type.andThen (looks_mroIn X hm)) (PySem.F.cmpArgs_ne _ _) ?_))
  unfold Builtin.«object.__ne__»
  repeat (first
    | with_reducible refine wpAny_cRoomFor hu ?_
    | (refine wpAny_bind (m := callSpecialIfBound? (.ref x) (Str.ofString "__eq__") [b])
        (ifBound_K X I hs hf (wpAny_mono h (fun r s' hr => by
          obtain ⟨r, rfl, hq⟩ := hr
          repeat (first | exact hq | exact wpAny_pure hq | exact wpAny_truthy_bool hq | (refine wpAny_bind (m := truthy (.bool _)) (wpAny_truthy_bool ?_)) | wp_step)) fun _ _ e => e)))
    | wp_step)
theorem nw_ne {Q : Value → Shared → Prop} (hu : A.in1.units < cLine) (F : Fr h₀ L s.heap m) (X₀ : K.In h₀) (I : InstAt s.heap x ox C od) (hb : Looks (model prog w) s.heap (typeOf b) tb) (hn : notFirst K C tb = true)
    (hne : findIn K (.ref C) "__ne__" = some (some (.builtin "object.__ne__"))) (hm : mroIn K C (.type "object") = some true) (hs : findIn K (.ref C) "__eq__" = some (some (.ref f))) (hf : isFn K (.ref f) = true)
    (h : wpAny (model prog w) A.in1 (call (.ref f) [.ref x, b]) (fun v s' => ∃ r, v = .bool r ∧ Q (.bool (!r)) s') E s) : wpAny (model prog w) A (richCompare .NotEq (.ref x) b) Q E s := by
  have X := X₀.keeps F.keep
  have hu0 : A.units < cLine := Nat.lt_of_le_of_lt (Nat.le_succ _) hu
  have one : wpAny (model prog w) A (tryCompare (.ref x) (cmpInfo .NotEq).2.1 b) (fun r s' => ∃ v, r = some v ∧ Q v s') E s := by
    unfold tryCompare
    refine wpAny_bind (nw_ifBoundB X I hne PySem.F.cmp_object.ne.bind (nw_objNe hu X I hm hs hf (wpAny_mono h (fun v s' hv => ?_) fun _ _ e => e)))
    obtain ⟨r, rfl, hq⟩ := hv
    exact ⟨r, rfl, wpAny_pure ⟨_, rfl, hq⟩⟩
  unfold richCompare
  simp only [oneThing_ref]
  refine wpAny_holding (wpAny_bind (wpAny_cRoomFor hu0 ?_))
  refine wpAny_bind (I.type.here (wpAny_bind (hb.here ?_)))
  split
  · rename_i q
    have e : subIn K tb (.ref C) = some false := by
      rcases Bool.or_eq_true_iff.mp hn with e | e
      · rw [beq_iff_eq.mp e] at q; simp at q
      · exact beq_iff_eq.mp e
    refine wpAny_bind ((looks_subIn X e).here ?_)
    simp only [Bool.false_eq_true, if_false]
    refine wpAny_bind (wpAny_mono one (fun r s' z => ?_) fun _ _ e => e)
    obtain ⟨v, rfl, hq⟩ := z
    exact wpAny_pure hq
  · refine wpAny_bind (wpAny_pure ?_)
    simp only [Bool.false_eq_true, if_false]
    refine wpAny_bind (wpAny_mono one (fun r s' z => ?_) fun _ _ e => e)
    obtain ⟨v, rfl, hq⟩ := z
    exact wpAny_pure hq
end
end PySem.W
namespace Nw
open PySem L2 PySem.Spec PyProof.Rows
/-- a special method of the class at C, by its promise -/
structure Own (P : Program) (w : World) (K : PySem.W.Frag) (mg : Str → Option Value) (base : Heap) (k : Nat) (C : Addr) (m : Str) (sp : Sp) : Prop where
  ex : ∃ (f : Addr) (fd : FuncData) (ps : List Str), FnOk P w K mg base CX0 k f fd ps sp ∧ PySem.W.findIn K (.ref C) m = some (some (.ref f)) ∧ PySem.W.isFn K (.ref f) = true ∧ Binds K fd ps []
section
variable {X : Cx} {k : Nat} {C : Addr} {sp : Sp}
theorem Env0.at {X : Cx} {pins : List (Addr × Obj)} {σ : L2.St} {H : Hp} {s : Shared} (I : Inv X pins σ H s) {A : Around} (h : A.frames = X.A.frames) : Env0 X.prog X.w X.K X.mg X.base A X.stack s H := by
  have e := I.env0
  exact ⟨by rw [h]; exact e.frames, e.mod, e.bs, e.bsz, e.funs, e.frf, e.hok, e.bare⟩
/-- the method's call, somewhere below X -/
theorem own_call {m : Str} (O : Own X.prog X.w X.K X.mg X.base k C m sp) {A : Around} (hr : Room k A) (hfr : A.frames = X.A.frames) {pins : List (Addr × Obj)} {σ : L2.St} {H : Hp} {s : Shared} (I : Inv X pins σ H s) {us : List Value} {vs : List V} {Q : VK} {R : Value → Shared → Prop} (r : Vals vs us)
    (h : sp vs H Q E0) (hq : ∀ u s', EP X pins σ Q u s' → R u s') :
    ∃ f, PySem.W.findIn X.K (.ref C) m = some (some (.ref f)) ∧ PySem.W.isFn X.K (.ref f) = true ∧ wpAny (model X.prog X.w) A (call (.ref f) us) R X.xe s := by
  obtain ⟨f, fd, ps, F, h1, h2, hb⟩ := O.ex
  refine ⟨f, h1, h2, ?_⟩
  have hl : us.length = ps.length := by rw [← r.length]; exact F.len _ _ _ _ h
  have b := hb s us I.kIn (by rw [List.append_nil]; exact hl)
  rw [List.append_nil] at b
  refine wpAny_call (codeAny_mono (F.run A X.stack s H ⟨us, []⟩ us vs Q E0 hr (Env0.at I hfr) b r h) fun r s' hq' => ?_)
  cases r with
  | error e => exact hq'.elim
  | ok fl =>
    cases fl with
    | ret u => exact hq u s' (I.after hq')
    | next => exact False.elim hq'
    | brk => exact False.elim hq'
    | cont => exact False.elim hq'
def rLenO (C : Addr) (sp : Sp) : List V → Hp → VK → Prop := fun xs H Q => ∃ (a dx : Addr) (fs : List (Str × V)), xs = [.ref a] ∧ H a = some (.ins C dx fs) ∧ sp [.ref a] H (fun v H' => ∃ n : Int, v = .int n ∧ 0 ≤ n ∧ n < 2 ^ 63 ∧ Q (.int n) H') E0
theorem call_lenO (O : Own X.prog X.w X.K X.mg X.base k C "__len__" sp) (hr : Room (k + 1) X.A) : CallR X (.builtin "len") (rLenO C sp) := by
  intro pins s σ H xs us Q I r h
  obtain ⟨a, dx, fs, rfl, ha, hsp⟩ := h
  obtain ⟨u, rfl, r1⟩ := vals1 r
  cases r1
  obtain ⟨mA, J, _⟩ := ins_get I.hok ha
  obtain ⟨od, J, _⟩ := J.look
  obtain ⟨m, hF⟩ := I.fr
  obtain ⟨f, h1, h2, h3⟩ := own_call (A := X.A.in1) (us := [Value.ref a]) (vs := [V.ref a]) (R := PySem.W.LenBack (EP X pins σ Q)) O hr.in1 rfl I (.cons rfl .nil) hsp fun u s' hu => by
    obtain ⟨v, H', I', rv, n, rfl, n0, n1, q⟩ := hu
    obtain ⟨t, rfl⟩ := rv
    exact ⟨⟨n0, n1⟩, .int n, H', I'.tok _, ⟨_, rfl⟩, q⟩
  exact PySem.W.len_K hF I.ok.mod.kin J h1 h2 h3
def rReprO (C : Addr) (sp : Sp) : List V → Hp → VK → Prop := fun xs H Q => ∃ (a dx : Addr) (fs : List (Str × V)), xs = [.ref a] ∧ H a = some (.ins C dx fs) ∧ sp [.ref a] H (fun v H' => ∃ z : Str, v = .str z ∧ Q (.str z) H') E0
theorem call_reprO (O : Own X.prog X.w X.K X.mg X.base k C "__repr__" sp) (hr : Room (k + 1) X.A) : CallR X (.builtin "repr") (rReprO C sp) := by
  intro pins s σ H xs us Q I r h
  obtain ⟨a, dx, fs, rfl, ha, hsp⟩ := h
  obtain ⟨u, rfl, r1⟩ := vals1 r
  cases r1
  obtain ⟨mA, J, _⟩ := ins_get I.hok ha
  obtain ⟨od, J, _⟩ := J.look
  obtain ⟨m, hF⟩ := I.fr
  obtain ⟨f, h1, h2, h3⟩ := own_call (A := X.A.in1) (us := [Value.ref a]) (vs := [V.ref a]) (R := PySem.W.StrBack (EP X pins σ Q)) O hr.in1 rfl I (.cons rfl .nil) hsp fun u s' hu => by
    obtain ⟨v, H', I', rv, z, rfl, q⟩ := hu
    obtain ⟨t, rfl⟩ := rv
    exact ⟨.str z, H', I', ⟨_, rfl⟩, q⟩
  exact PySem.W.repr_K (hr.in1).units0 hF I.ok.mod.kin J h1 h2 h3
/-- y in x, x an instance -/
def rInO (C : Addr) (sp : Sp) (neg : Bool) : R2 := fun y x H Q => ∃ (a dx : Addr) (fs : List (Str × V)), x = .ref a ∧ H a = some (.ins C dx fs) ∧ sp [.ref a, y] H (fun v H' => ∃ r : Bool, v = .bl r ∧ Q (.bl (if neg then !r else r)) H') E0
theorem op_inO (O : Own X.prog X.w X.K X.mg X.base k C "__contains__" sp) (hr : Room k X.A) : OpR X (compareOp .In) (rInO C sp false) := by
  intro pins s σ H y x v u Q I ry rx h
  obtain ⟨a, dx, fs, rfl, ha, hsp⟩ := h
  cases rx
  obtain ⟨mA, J, _⟩ := ins_get I.hok ha
  obtain ⟨od, J, _⟩ := J.look
  obtain ⟨m, hF⟩ := I.fr
  obtain ⟨f, h1, h2, h3⟩ := own_call (A := X.A) (us := [Value.ref a, v]) (vs := [V.ref a, y]) (R := fun r s' => wpAny (model X.prog X.w) X.A (truthy r) (fun b => EP X pins σ Q (.bool b)) X.xe s') O hr rfl I (.cons rfl (.cons ry .nil)) hsp fun u s' hu => by
    obtain ⟨v, H', I', rv, z, rfl, q⟩ := hu
    cases rv
    exact wpAny_truthy_bool ⟨.bl z, H', I', rfl, q⟩
  exact PySem.W.in_K hF I.ok.mod.kin J h1 h2 h3
/-- x == y, x != y by an own __eq__ -/
def rEqO (C : Addr) (sp : Sp) (neg : Bool) : R2 := fun x y H Q => ∃ (a dx : Addr) (fs : List (Str × V)), x = .ref a ∧ H a = some (.ins C dx fs) ∧ sp [.ref a, y] H (fun v H' => ∃ r : Bool, v = .bl r ∧ Q (.bl (if neg then !r else r)) H') E0
/-- the right side's type: none that C is a base of -/
structure NoFirst (K : PySem.W.Frag) (C : Addr) : Prop where
  non : PySem.W.notFirst K C (.type "NoneType") = true
  bl : PySem.W.notFirst K C (.type "bool") = true
  int : PySem.W.notFirst K C (.type "int") = true
  str : PySem.W.notFirst K C (.type "str") = true
  lst : PySem.W.notFirst K C (.type "list") = true
  tup : PySem.W.notFirst K C (.type "tuple") = true
  ne : PySem.W.findIn K (.ref C) "__ne__" = some (some (.builtin "object.__ne__"))
  mro : PySem.W.mroIn K C (.type "object") = some true
def plainV (K : PySem.W.Frag) (C : Addr) (H : Hp) : V → Prop
  | .non => True
  | .bl _ => True
  | .int _ => True
  | .str _ => True
  | .ref a => (∃ xs, H a = some (.lst xs)) ∨ (∃ xs, H a = some (.tup xs)) ∨ ∃ dx fs, H a = some (.ins C dx fs)
  | _ => False
theorem looks_plain (N : NoFirst X.K C) {pins : List (Addr × Obj)} {σ : L2.St} {H : Hp} {s : Shared} (I : Inv X pins σ H s) {y : V} {v : Value} (ry : RelV y v) (h : plainV X.K C H y) {M : Model} :
    ∃ tb, PySem.W.Looks M s.heap (typeOf v) tb ∧ PySem.W.notFirst X.K C tb = true := by
  have go : ∀ {t : Value}, TyX X.K H y t → PySem.W.Looks M s.heap (typeOf v) t := fun {t} ty => by
    obtain ⟨P, Z, p, _⟩ := kit_of I ry ty
    exact Z.ty M s.heap I.kIn p
  cases y with
  | non => exact ⟨_, go (.base .non), N.non⟩
  | bl b => exact ⟨_, go (.base (.bl b)), N.bl⟩
  | int i => exact ⟨_, go (.base (.int i)), N.int⟩
  | str z => exact ⟨_, go (.base (.str z)), N.str⟩
  | ref a =>
    rcases h with ⟨xs, h⟩ | ⟨xs, h⟩ | ⟨dx, fs, h⟩
    · exact ⟨_, go (.base (.lst h)), N.lst⟩
    · exact ⟨_, go (.base (.tup h)), N.tup⟩
    · cases ry
      obtain ⟨mA, J, _⟩ := ins_get I.hok h
      obtain ⟨od, J, _⟩ := J.look
      exact ⟨.ref C, J.type, by simp [PySem.W.notFirst]⟩
  | byt b => exact h.elim
  | flt b => exact h.elim
  | ty n => exact h.elim
theorem op_eqO (O : Own X.prog X.w X.K X.mg X.base k C "__eq__" sp) (N : NoFirst X.K C) (hr : Room k X.A) : OpR X (compareOp .Eq) (fun x y H Q => plainV X.K C H y ∧ rEqO C sp false x y H Q) := by
  intro pins s σ H x y v u Q I rx ry h
  obtain ⟨hy, a, dx, fs, rfl, ha, hsp⟩ := h
  cases rx
  obtain ⟨mA, J, _⟩ := ins_get I.hok ha
  obtain ⟨od, J, _⟩ := J.look
  obtain ⟨m, hF⟩ := I.fr
  obtain ⟨tb, l1, l2⟩ := looks_plain (M := model X.prog X.w) N I ry hy
  obtain ⟨f, h1, h2, h3⟩ := own_call (A := X.A) (us := [Value.ref a, u]) (vs := [V.ref a, y]) (R := PySem.W.CmpBack (EP X pins σ Q)) O hr rfl I (.cons rfl (.cons ry .nil)) hsp fun u s' hu => by
    obtain ⟨v, H', I', rv, z, rfl, q⟩ := hu
    cases rv
    exact ⟨.bl z, H', I', rfl, q⟩
  show wpAny (model X.prog X.w) X.A (richCompare .Eq _ _) _ _ _
  exact PySem.W.cmp_K (op := .Eq) hr.units0 hF I.ok.mod.kin J l1 l2 h1 h2 h3
theorem op_neO (O : Own X.prog X.w X.K X.mg X.base k C "__eq__" sp) (N : NoFirst X.K C) (hr : Room (k + 1) X.A) : OpR X (compareOp .NotEq) (fun x y H Q => plainV X.K C H y ∧ rEqO C sp true x y H Q) := by
  intro pins s σ H x y v u Q I rx ry h
  obtain ⟨hy, a, dx, fs, rfl, ha, hsp⟩ := h
  cases rx
  obtain ⟨mA, J, _⟩ := ins_get I.hok ha
  obtain ⟨od, J, _⟩ := J.look
  obtain ⟨m, hF⟩ := I.fr
  obtain ⟨tb, l1, l2⟩ := looks_plain (M := model X.prog X.w) N I ry hy
  obtain ⟨f, h1, h2, h3⟩ := own_call (A := X.A.in1) (us := [Value.ref a, u]) (vs := [V.ref a, y]) (R := fun v s' => ∃ r, v = .bool r ∧ EP X pins σ Q (.bool (!r)) s') O hr.in1 rfl I (.cons rfl (.cons ry .nil)) hsp fun u s' hu => by
    obtain ⟨v, H', I', rv, z, rfl, q⟩ := hu
    cases rv
    exact ⟨z, rfl, .bl (!z), H', I', rfl, q⟩
  show wpAny (model X.prog X.w) X.A (richCompare .NotEq _ _) _ _ _
  exact PySem.W.nw_ne (hr.in1).units0 hF I.ok.mod.kin J l1 l2 N.ne N.mro h1 h2 h3
end
end Nw
/-! Own layer: comprehensions that make data. -/
namespace Nw
open PySem L2 PySem.Spec PyProof.Rows RZ
theorem small_line {n : Nat} (h : n ≤ 100000) : n ≤ sizeLine := Nat.le_trans h (by decide)
theorem small_lt {n : Nat} (h : n < 100000) : n < sizeLine := Nat.lt_of_lt_of_le h (by decide)
theorem getElem?_lt {α : Type} {l : List α} {i : Nat} {x : α} (h : l[i]? = some x) : i < l.length := (List.getElem?_eq_some_iff.mp h).1
theorem take_succ_of {α : Type} {l : List α} {i : Nat} {x : α} (h : l[i]? = some x) : l.take (i + 1) = l.take i ++ [x] := by
  rw [List.take_add_one, h]; rfl
theorem walk_zipT {K : PySem.W.Frag} {a b : Addr} {xs ys : List V} {n : Nat} (hn : n = min xs.length ys.length) : Walk (ItzT K a b) n (fun H => SqT K H a xs ∧ SqT K H b ys) (YPair (fun i => xs[i]?) (fun i => ys[i]?)) := by
  subst hn
  refine ⟨fun i _ hi q => ?_, fun _ q => ⟨xs, ys, q.1, q.2, by omega⟩, fun i H v H' _ q y => ?_⟩
  · have h1 : i < xs.length := by omega
    have h2 : i < ys.length := by omega
    exact ⟨xs, ys, xs[i], ys[i], q.1, q.2, by simp [h1], by simp [h2]⟩
  · obtain ⟨T, x, z, h1, h2, h3, h4, h5⟩ := y
    exact ⟨T, x, z, h1, h2, h3, h4 xs q.1, h5 ys q.2⟩
theorem map_eraseIdx {α β : Type} (f : α → β) : ∀ (l : List α) (i : Nat), (l.map f).eraseIdx i = (l.eraseIdx i).map f
  | [], _ => rfl
  | _ :: _, 0 => rfl
  | a :: l, i + 1 => by
    show f a :: (l.map f).eraseIdx i = f a :: (l.eraseIdx i).map f
    rw [map_eraseIdx f l i]
theorem perm_eraseIdx {α : Type} : ∀ {l : List α} {i : Nat} {x : α}, l[i]? = some x → (x :: l.eraseIdx i).Perm l
  | [], i, x, h => by simp at h
  | a :: l, 0, x, h => by simp at h; subst h; exact .refl _
  | a :: l, i + 1, x, h => by
    have ih := perm_eraseIdx (l := l) (i := i) (x := x) (by simpa using h)
    exact (List.Perm.swap a x (l.eraseIdx i)).trans (ih.cons a)
/-- a comprehension without a test whose i-th item is the datum ds[i]; b: what may change meanwhile, R: what is kept of that by turns -/
theorem lc_data {J : It} {n : Nat} {Gp : Hp → Prop} {Y : Nat → Hp → V → Hp → Prop} (w : Walk J n Gp Y) {b : Option Addr} {R : Nat → Hp → Prop} {g : TG} {te : TE} {vs : List Nat} {σ : L2.St} {H G : Hp} {Dl : Addr} {Qd : Hp → Prop}
    (ds : List PyData) (hn : ds.length = n) (hz : n < 100000) (hD : H Dl = none) (s : Same G H) (hb : b ≠ some Dl) (hR0 : R 0 H) (hR : ∀ i H o, R i H → R i (upd H Dl o))
    (hG : ∀ i H1 G1, Xt b H G H1 G1 → R i H1 → Gp H1)
    (hs : ∀ i x H1 G1 H2 d, ds[i]? = some d → Xt b H G H1 G1 → R i H1 → Y i H1 x H2 → ∀ Qy : VK, (∀ y H4 G4, Xt b H1 G1 H4 G4 → R (i + 1) H4 → D G4 y d → Qy y H4) → g x (wipe σ vs) H2 fun σ2 H3 => wipe σ2 vs = wipe σ vs ∧ te σ2 H3 Qy)
    (hd : ∀ H1 G1 xs, Xt b H G H1 G1 → R n H1 → H1 Dl = some (.lst xs) → G1 Dl = none → DA G1 xs ds → Qd H1) :
    ∃ W : Nat → Nat → Hp → Prop, (∃ m, W 0 m (upd H Dl (.lst []))) ∧ ∀ i m H, W i m H →
      (J.stop i H ∧ Qd H) ∨ (J.go i H ∧ ∃ Nx : Hp → Prop, (∀ H', Nx H' → ∃ m', m' < m ∧ W (i + 1) m' H') ∧ ∀ x H', J.yld i H x H' → g x (wipe σ vs) H' fun σ2 H2 => wipe σ2 vs = wipe σ vs ∧ tYes σ2 H2 fun b H3 =>
        if b = true then te σ2 H3 fun y H4 => ∃ acc, H4 Dl = some (.lst acc) ∧ acc.length < sizeLine ∧ Nx (upd H4 Dl (.lst (acc ++ [y]))) else Nx H3) := by
  have hgD : G Dl = none := s.free hD
  refine lc_it w (Qd := Qd) (fun i H1 => ∃ G1 xs, Xt b H G H1 G1 ∧ R i H1 ∧ H1 Dl = some (.lst xs) ∧ G1 Dl = none ∧ DA G1 xs (ds.take i)) ⟨G, [], Xt.tmp s hD, hR 0 H _ hR0, upd_same, hgD, .nil⟩ (fun i H1 hi ⟨G1, xs, x, r, _⟩ => hG i H1 G1 x r) ?_ ?_
  · rintro i x H1 H2 hi ⟨G1, xs, X1, r, hl, hg, da⟩ hy
    have hi' : i < ds.length := by omega
    have hdi : ds[i]? = some ds[i] := List.getElem?_eq_getElem hi'
    have hl0 : H1 Dl ≠ none := ne_none_of hl
    refine hs i x H1 G1 H2 ds[i] hdi X1 r hy (fun y H4 => ∃ acc, H4 Dl = some (.lst acc) ∧ acc.length < sizeLine ∧ ∃ G1 xs, Xt b H G (upd H4 Dl (.lst (acc ++ [y]))) G1 ∧ R (i + 1) (upd H4 Dl (.lst (acc ++ [y]))) ∧ upd H4 Dl (.lst (acc ++ [y])) Dl = some (.lst xs) ∧ G1 Dl = none ∧ DA G1 xs (ds.take (i + 1))) fun y H4 G4 X4 r4 d4 => ?_
    have l1 : xs.length < sizeLine := by
      have := da.length
      rw [List.length_take] at this
      exact small_lt (by omega)
    refine ⟨xs, X4.hh Dl _ hb hl, l1, G4, xs ++ [y], (X1.trans X4).set hD (X4.non hl0 hg), hR _ _ _ r4, upd_same, X4.non hl0 hg, ?_⟩
    rw [take_succ_of hdi]
    exact (da.mono X4.gg).append (.one d4)
  · rintro H1 ⟨G1, xs, X1, r, hl, hg, da⟩
    rw [show ds.take n = ds from List.take_of_length_le (by omega)] at da
    exact hd H1 G1 xs X1 r hl hg da
/-! ### rules whose reading speaks of K, told with K itself (within a comprehension) -/
section
variable {X : Cx} {K : PySem.W.Frag}
theorem pa_starK {e : Expr} {es : List Expr} {te : TE} {t : TA} {p : Pos} (hK : X.K = K) (he : PE X e te) (hr : PA X es t) (hs : starEach (.Starred e p :: es) X.env = (true, eval e X.env) :: starEach es X.env := by rfl) : PA X (.Starred e p :: es) (StX.tStar K te t) := by
  subst hK; exact StX.pa_star he hr hs
theorem pe_fldK {e : Expr} {f : Str} {ta : TE} {pos : Pos} (hK : X.K = K) (he : PE X e ta) (hb : attributeBase e f X.env (eval e X.env) = eval e X.env) : PE X (.Attribute e f pos) (tFld K ta f) := by
  subst hK; exact pe_fld he hb
theorem ix_tupK (hK : X.K = K) : IxR X (rIxT K) := by subst hK; exact ix_tup
theorem ix_listK (hK : X.K = K) : IxR X (rIxL K) := by subst hK; exact ix_list
theorem op_in_seqK (hK : X.K = K) : OpR X (compareOp .In) (rIn K false) := by subst hK; exact op_in_seq
theorem op_notIn_seqK (hK : X.K = K) : OpR X (compareOp .NotIn) (rIn K true) := by subst hK; exact op_notIn_seq
theorem op_catTK (hK : X.K = K) : OpR X (binaryOp .Add) (rCatT K) := by subst hK; exact op_catT
theorem op_eqDK (hK : X.K = K) (hu : X.A.units + 64 < cLine) : OpR X (compareOp .Eq) (rEqD K) := by subst hK; exact op_eqD hu
theorem op_neDK (hK : X.K = K) (hu : X.A.units + 64 < cLine) : OpR X (compareOp .NotEq) (rNeD K) := by subst hK; exact op_neD hu
end
end Nw
namespace Nw
open PySem L2 PySem.Spec PyProof.Rows RZ
/-- a comprehension of two loops without tests: the i-th turn of the outer one gives the data dss[i] -/
theorem lc2_data {J : It} {n : Nat} {Gp : Hp → Prop} {Y : Nat → Hp → V → Hp → Prop} (w : Walk J n Gp Y) {g g1 : TG} {wi1 : TI} {te : TE} {vs vs1 : List Nat} {σ : L2.St} {H G : Hp} {Dl : Addr} {Qd : Hp → Prop}
    (dss : List (List PyData)) (hn : dss.length = n) (hz : dss.flatten.length < 100000) (hD : H Dl = none) (s : Same G H)
    (hG : ∀ H1 G1, Xt none H G H1 G1 → Gp H1)
    (hs : ∀ i x H1 G1 H2 ds, dss[i]? = some ds → Xt none H G H1 G1 → Y i H1 x H2 → ∀ Qi : L2.St → It → Hp → Prop,
      (∀ (σ2 : L2.St) (J1 : It) (H4 G4 : Hp) (Gp1 : Hp → Prop) (Y1 : Nat → Hp → V → Hp → Prop), Xt none H1 G1 H4 G4 → Walk J1 ds.length Gp1 Y1 → (∀ H5 G5, Xt (some Dl) H4 G4 H5 G5 → Gp1 H5) →
        (∀ j y H5 G5 H6 d, ds[j]? = some d → Xt (some Dl) H4 G4 H5 G5 → Y1 j H5 y H6 → ∀ Qy : VK, (∀ z H7 G7, Xt none H5 G5 H7 G7 → D G7 z d → Qy z H7) → g1 y (wipe σ2 vs1) H6 fun σ3 H7 => wipe σ3 vs1 = wipe σ2 vs1 ∧ te σ3 H7 Qy) → Qi σ2 J1 H4) →
      g x (wipe σ vs) H2 fun σ2 H3 => wipe σ2 vs = wipe σ vs ∧ wi1 σ2 H3 (Qi σ2))
    (hd : ∀ H1 G1 xs, Xt none H G H1 G1 → H1 Dl = some (.lst xs) → G1 Dl = none → DA G1 xs dss.flatten → Qd H1) :
    ∃ W : Nat → Nat → Hp → Prop, (∃ m, W 0 m (upd H Dl (.lst []))) ∧ ∀ i m H, W i m H →
      (J.stop i H ∧ Qd H) ∨ (J.go i H ∧ ∃ Nx : Hp → Prop, (∀ H', Nx H' → ∃ m', m' < m ∧ W (i + 1) m' H') ∧ ∀ x H', J.yld i H x H' → g x (wipe σ vs) H' fun σ2 H2 => wipe σ2 vs = wipe σ vs ∧ tYes σ2 H2 fun b H3 =>
        if b = true then wi1 σ2 H3 fun J1 H4 => ∃ W1 : Nat → Nat → Hp → Prop, (∃ m, W1 0 m H4) ∧ ∀ j k H, W1 j k H →
          (J1.stop j H ∧ Nx H) ∨ (J1.go j H ∧ ∃ Nx1 : Hp → Prop, (∀ H', Nx1 H' → ∃ k', k' < k ∧ W1 (j + 1) k' H') ∧ ∀ x H', J1.yld j H x H' → g1 x (wipe σ2 vs1) H' fun σ3 H5 => wipe σ3 vs1 = wipe σ2 vs1 ∧ tYes σ3 H5 fun b H6 =>
            if b = true then te σ3 H6 fun y H7 => ∃ acc, H7 Dl = some (.lst acc) ∧ acc.length < sizeLine ∧ Nx1 (upd H7 Dl (.lst (acc ++ [y]))) else Nx1 H6)
        else Nx H3) := by
  have hgD : G Dl = none := s.free hD
  have nb : ∀ a : Addr, (none : Option Addr) ≠ some a := fun a q => by cases q
  let Pv : Nat → Hp → Prop := fun i H1 => ∃ G1 xs, Xt none H G H1 G1 ∧ H1 Dl = some (.lst xs) ∧ G1 Dl = none ∧ DA G1 xs (dss.take i).flatten
  have sub : ∀ i, i ≤ dss.length → (dss.take i).flatten.length ≤ dss.flatten.length := fun i _ => by
    have e : (dss.take i).flatten ++ (dss.drop i).flatten = dss.flatten := by rw [← List.flatten_append, List.take_append_drop]
    rw [← e, List.length_append]; omega
  refine ⟨fun i m H1 => m = n - i ∧ i ≤ n ∧ Pv i H1, ⟨n, by simp, Nat.zero_le _, G, [], Xt.tmp s hD, upd_same, hgD, .nil⟩, ?_⟩
  rintro i m H1 ⟨rfl, hi, G1, xs, X1, hl, hg, da⟩
  by_cases hlt : i < n
  · refine .inr ⟨w.goes i H1 hlt (hG H1 G1 X1), Pv (i + 1), fun H' p' => ⟨n - (i + 1), by omega, rfl, hlt, p'⟩, fun x H2 hy => ?_⟩
    have hi' : i < dss.length := by omega
    have hdi : dss[i]? = some dss[i] := List.getElem?_eq_getElem hi'
    have et : (dss.take (i + 1)).flatten = (dss.take i).flatten ++ dss[i] := by rw [take_succ_of hdi, List.flatten_append]; simp
    have hlen := sub (i + 1) hi'
    rw [et, List.length_append] at hlen
    refine hs i x H1 G1 H2 dss[i] hdi X1 (w.yields i H1 x H2 hlt (hG H1 G1 X1) hy) (fun σ2 J1 H4 => ∃ W1 : Nat → Nat → Hp → Prop, (∃ m, W1 0 m H4) ∧ ∀ j k H, W1 j k H →
          (J1.stop j H ∧ Pv (i + 1) H) ∨ (J1.go j H ∧ ∃ Nx1 : Hp → Prop, (∀ H', Nx1 H' → ∃ k', k' < k ∧ W1 (j + 1) k' H') ∧ ∀ x H', J1.yld j H x H' → g1 x (wipe σ2 vs1) H' fun σ3 H5 => wipe σ3 vs1 = wipe σ2 vs1 ∧ tYes σ3 H5 fun b H6 =>
            if b = true then te σ3 H6 fun y H7 => ∃ acc, H7 Dl = some (.lst acc) ∧ acc.length < sizeLine ∧ Nx1 (upd H7 Dl (.lst (acc ++ [y]))) else Nx1 H6)) ?_
    intro σ2 J1 H4 G4 Gp1 Y1 X4 w1 hG1 hs1
    have hl4 := X4.hh Dl _ (nb _) hl
    have hg4 := X4.non (ne_none_of hl) hg
    refine ⟨fun j k H5 => k = dss[i].length - j ∧ j ≤ dss[i].length ∧ ∃ G5 ys, Xt (some Dl) H4 G4 H5 G5 ∧ Xt none H G H5 G5 ∧ H5 Dl = some (.lst (xs ++ ys)) ∧ G5 Dl = none ∧ DA G5 ys (dss[i].take j), ⟨dss[i].length, by simp, Nat.zero_le _, G4, [], Xt.refl X4.sub, X1.trans X4, by rw [hl4, List.append_nil], hg4, .nil⟩, ?_⟩
    rintro j k H5 ⟨rfl, hj, G5, ys, X5, X5', h5, g5, da5⟩
    by_cases hjl : j < dss[i].length
    · refine .inr ⟨w1.goes j H5 hjl (hG1 H5 G5 X5), fun H' => j + 1 ≤ dss[i].length ∧ ∃ G5 ys, Xt (some Dl) H4 G4 H' G5 ∧ Xt none H G H' G5 ∧ H' Dl = some (.lst (xs ++ ys)) ∧ G5 Dl = none ∧ DA G5 ys (dss[i].take (j + 1)), fun H' p' => ⟨dss[i].length - (j + 1), by omega, rfl, p'.1, p'.2⟩, fun y H6 hy1 => ?_⟩
      have hdj : dss[i][j]? = some dss[i][j] := List.getElem?_eq_getElem hjl
      refine hs1 j y H5 G5 H6 dss[i][j] hdj X5 (w1.yields j H5 y H6 hjl (hG1 H5 G5 X5) hy1) (fun z H7 => ∃ acc, H7 Dl = some (.lst acc) ∧ acc.length < sizeLine ∧ j + 1 ≤ dss[i].length ∧ ∃ G5 ys, Xt (some Dl) H4 G4 (upd H7 Dl (.lst (acc ++ [z]))) G5 ∧ Xt none H G (upd H7 Dl (.lst (acc ++ [z]))) G5 ∧ upd H7 Dl (.lst (acc ++ [z])) Dl = some (.lst (xs ++ ys)) ∧ G5 Dl = none ∧ DA G5 ys (dss[i].take (j + 1))) fun z H7 G7 X7 dz => ?_
      have h7 := X7.hh Dl _ (nb _) h5
      have g7 := X7.non (ne_none_of h5) g5
      have l1 := da.length
      have l2 := da5.length
      rw [List.length_take] at l2
      refine ⟨xs ++ ys, h7, small_lt (by rw [List.length_append]; omega), hjl, G7, ys ++ [z], (X5.trans X7.of).put g7, (X5'.trans X7).set hD g7, by rw [upd_same, List.append_assoc], g7, ?_⟩
      rw [take_succ_of hdj]
      exact (da5.mono X7.gg).append (.one dz)
    · have e : j = dss[i].length := by omega
      subst e
      rw [List.take_length] at da5
      refine .inl ⟨w1.stops H5 (hG1 H5 G5 X5), G5, xs ++ ys, X5', h5, g5, ?_⟩
      rw [et]
      exact (da.mono (Xt.gg (X4.of.trans X5 : Xt (some Dl) H1 G1 H5 G5))).append da5
  · have e : i = n := by omega
    subst e
    refine .inl ⟨w.stops H1 (hG H1 G1 X1), hd H1 G1 xs X1 hl hg ?_⟩
    rw [show dss.take i = dss from List.take_of_length_le (by omega)] at da
    exact da
end Nw
namespace Nw
open PySem L2 PySem.Spec PyProof.Rows RZ
section
variable {X : Cx} {K : PySem.W.Frag}
theorem op_catAK (hK : X.K = K) : OpR X (binaryOp .Add) (rCatA K) := by subst hK; exact op_catA
theorem op_eqOK {k : Nat} {C : Addr} {sp : Sp} (hK : X.K = K) (O : Own X.prog X.w X.K X.mg X.base k C "__eq__" sp) (N : NoFirst X.K C) (hr : Room k X.A) : OpR X (compareOp .Eq) (fun x y H Q => plainV K C H y ∧ rEqO C sp false x y H Q) := by subst hK; exact op_eqO O N hr
theorem op_neOK {k : Nat} {C : Addr} {sp : Sp} (hK : X.K = K) (O : Own X.prog X.w X.K X.mg X.base k C "__eq__" sp) (N : NoFirst X.K C) (hr : Room (k + 1) X.A) : OpR X (compareOp .NotEq) (fun x y H Q => plainV K C H y ∧ rEqO C sp true x y H Q) := by subst hK; exact op_neO O N hr
theorem sl_tupAK (hK : X.K = K) : SlR X (rSlA K) := by subst hK; exact sl_tupA
theorem sl_listK (hK : X.K = K) : SlR X (rSlL K) := by subst hK; exact sl_list
end
theorem flat_take_le {α β : Type} (f : α → List β) (l : List α) (j : Nat) : ((l.take j).map f).flatten.length ≤ (l.map f).flatten.length := by
  have e : ((l.take j).map f).flatten ++ ((l.drop j).map f).flatten = (l.map f).flatten := by rw [← List.flatten_append, ← List.map_append, List.take_append_drop]
  rw [← e, List.length_append]; omega
/-- a part of a list or tuple of data -/
def cutD (ds : List PyData) (lo hi : Option Int) : List PyData := (ds.drop (HT.sIx ds.length 0 lo)).take (HT.sIx ds.length ds.length hi - HT.sIx ds.length 0 lo)
section
variable {K : PySem.W.Frag} {G H : Hp} {x y : V} {ds es : List PyData} {xs : List V} {Q : VK} {lo hi : Option Int}
theorem DA.cut (h : DA G xs ds) (lo hi : Option Int) : DA G (cutV xs lo hi) (cutD ds lo hi) := by
  unfold cutV cutD
  rw [h.length]
  exact (h.drop _).take _
theorem cat_data (hx : D G x (.tuple ds)) (hy : D G y (.tuple es)) (s : Same G H) (hl : ds.length + es.length ≤ 100000) (k : ∀ q H' G', Xt none H G H' G' → D G' q (.tuple (ds ++ es)) → Q q H') : rCatA K x y H Q := by
  obtain ⟨a, xs, rfl, ha, da⟩ := hx.tup_inv
  obtain ⟨b, ys, rfl, hb, db⟩ := hy.tup_inv
  refine ⟨a, b, xs, ys, rfl, rfl, SqT.of (s _ _ ha), SqT.of (s _ _ hb), by rw [da.length, db.length]; exact small_line hl, fun e => ?_, fun n e => ?_, fun n n2 p hp => ?_⟩
  · subst e
    cases da
    exact k _ H G (Xt.refl s) (by simpa using hy)
  · subst e
    cases db
    exact k _ H G (Xt.refl s) (by simpa using hx)
  · exact k _ _ _ (Xt.new s hp) (.tup upd_same ((da.append db).mono (upd_same_ (s.free hp))))
theorem slT_data (hx : D G x (.tuple ds)) (s : Same G H) (k : ∀ q H' G', Xt none H G H' G' → D G' q (.tuple (cutD ds lo hi)) → Q q H') : rSlA K x lo hi H Q := by
  obtain ⟨a, xs, rfl, ha, da⟩ := id hx.tup_inv
  refine ⟨a, xs, rfl, SqT.of (s _ _ ha), fun e => ?_, fun _ p hp => k _ _ _ (Xt.new s hp) (.tup upd_same ((da.cut lo hi).mono (upd_same_ (s.free hp))))⟩
  have e2 : cutD ds lo hi = ds := by
    unfold cutD
    rw [← da.length, e.1, e.2, List.drop_zero, da.length]
    simp
  refine k _ H G (Xt.refl s) ?_
  rw [e2]
  exact hx
theorem slL_data (hx : D G x (.list ds)) (s : Same G H) (k : ∀ q H' G', Xt none H G H' G' → D G' q (.list (cutD ds lo hi)) → Q q H') : rSlL K x lo hi H Q := by
  obtain ⟨a, xs, rfl, ha, da⟩ := hx.list_inv
  exact ⟨a, xs, rfl, SqL.of (s _ _ ha), fun p hp => k _ _ _ (Xt.new s hp) (.lst upd_same ((da.cut lo hi).mono (upd_same_ (s.free hp))))⟩
theorem catL_data (hx : D G x (.list ds)) (hy : D G y (.list es)) (s : Same G H) (hl : ds.length + es.length ≤ 100000) (k : ∀ q H' G', Xt none H G H' G' → D G' q (.list (ds ++ es)) → Q q H') : rCat x y H Q := by
  obtain ⟨a, xs, rfl, ha, da⟩ := hx.list_inv
  obtain ⟨b, ys, rfl, hb, db⟩ := hy.list_inv
  exact ⟨a, b, xs, ys, rfl, rfl, s _ _ ha, s _ _ hb, by rw [da.length, db.length]; exact small_line hl, fun p hp => k _ _ _ (Xt.new s hp) (.lst upd_same ((da.append db).mono (upd_same_ (s.free hp))))⟩
/-- a tuple, a list that is made of data -/
theorem D.newT {p : Addr} (da : DA G xs ds) (s : Same G H) (hp : H p = none) : D (upd G p (.tup xs)) (.ref p) (.tuple ds) := .tup upd_same (da.mono (upd_same_ (s.free hp)))
theorem D.newL {p : Addr} (da : DA G xs ds) (s : Same G H) (hp : H p = none) : D (upd G p (.lst xs)) (.ref p) (.list ds) := .lst upd_same (da.mono (upd_same_ (s.free hp)))
end
end Nw
/-! Own errors: a def that raises, a class whose making raises, isinstance of what was caught. -/
namespace Nw
open PySem L2 PySem.Spec PyProof.Rows RZ
section
variable {P : Program} {w : World} {K : PySem.W.Frag} {mg : Str → Option Value} {base : Heap}
/-- a def that may raise, by its body -/
theorem fnX {x qual : Str} {st : Stmt} {f : Addr} {fd : FuncData} {N ps : List Str} {k : Nat} {sp : Sp} (F : C8.Fun K x qual st f fd) (S : FnScope N ps (C8.fnScope st)) (len : ∀ vs H Q E, sp vs H Q E → vs.length = ps.length)
    (body : ∀ (cdv : Value) (A : Around) (outer : List Env) (s : Shared) (H : Hp) (vs : List V) (Q : VK) (E : XK), Room k (A.deeper (envOfC qual (C8.fnScope st) s.heap.objs.size f cdv)) → sp vs H Q E →
      ∃ t, PSs (cxOf (L2.CX P w) P w K mg base N qual (C8.fnScope st) f cdv A outer s H E) (C8.fnBody st) t ∧
        t { nx := fun _ H' => Q .non H', rt := Q } (start N vs) H) :
    FnOk P w K mg base (L2.CX P w) (k + 1) f fd ps sp := by
  obtain ⟨oc, od, dV, kV, doc, pm, an, cdv, ct, osl, rfl, lk, hcd⟩ := F.ex
  refine fn_of lk hcd S len (fun A outer s H vs Q E hr hsp => ?_)
  exact body cdv A outer s H vs Q E hr hsp
end
section
variable {X : Cx} {CX : CXT} {k : Nat} {f C : Addr} {fd : FuncData} {ps : List Str} {sp : Sp} {E : L2.St → XK} {x : Str} {p pos : Pos} {e : Expr} {es : List Expr} {t : TA}
/-- C(..) where the making may raise: what it may let out is told by the slots -/
def tMakeS (C : Addr) (sp : Sp) (E : L2.St → XK) (t : TA) : TE := fun σ H Q => t σ H fun vs H1 =>
  ∀ x dx, H1 x = none → H1 dx = none → dx ≠ x → sp (.ref x :: vs) (upd (upd H1 dx (.own x)) x (.ins C dx [])) (fun v H2 => v = .non ∧ Q (.ref x) H2) (E σ)
/-- what passes at these slots passes at them with the two new objects beside -/
theorem make_run {pins : List (Addr × Obj)} {σ : L2.St} {H : Hp} {s : Shared} {Q : VK} {us : List Value} {vs : List V} (M : Mk X.K C f) (F : FnOk X.prog X.w X.K X.mg X.base CX k f fd ps sp) (hr : Room (k + 1) X.A) (hb : Binds X.K fd ps [])
    (hx : PassesAt CX X σ (E σ)) (I : Inv X pins σ H s) (r : Vals vs us)
    (h : ∀ x dx, H x = none → H dx = none → dx ≠ x → sp (.ref x :: vs) (upd (upd H dx (.own x)) x (.ins C dx [])) (fun v H2 => v = .non ∧ Q (.ref x) H2) (E σ)) :
    wpAny (model X.prog X.w) X.A (call (.ref C) us) (EP X pins σ Q) X.xe s := by
  let n := s.heap.objs.size
  have hq := h (n + 1) n (I.hok.fresh (Nat.le_succ _)) (I.hok.fresh (Nat.le_refl _)) (Nat.ne_of_lt (Nat.lt_succ_self _))
  have J := Inv.made (C := C) I
  have rr : Vals (V.ref (n + 1) :: vs) (Value.ref (n + 1) :: us) := .cons rfl r
  have hl : (Value.ref (n + 1) :: us).length = ps.length := by rw [← rr.length]; exact F.len _ _ _ _ hq
  have hbind := hb _ (Value.ref (n + 1) :: us) J.kIn (by rw [List.append_nil]; exact hl)
  rw [List.append_nil] at hbind
  have go := F.run _ X.stack _ _ ⟨Value.ref (n + 1) :: us, []⟩ _ _ _ (E σ) (hr.make C us []) (J.env0.make C us []) hbind rr hq
  refine wpAny_call (make_map (f := f) I.kIn M.makes M.init (beq_iff_eq.mp M.fn) (codeAny_mono go ?_))
  intro r s' hq'
  match r, hq' with
  | .error er, hq' => exact hx pins _ _ er s' J hq'
  | .ok (.ret u), hq' =>
    obtain ⟨v, H', J2, rv, ev, q⟩ := J.after hq'
    subst ev
    exact ⟨rv, V.ref (n + 1), H', J2, rfl, q⟩
  | .ok .next, hq' => exact hq'.elim
  | .ok .brk, hq' => exact hq'.elim
  | .ok .cont, hq' => exact hq'.elim
theorem pe_makeS (M : Mk X.K C f) (F : FnOk X.prog X.w X.K X.mg X.base CX k f fd ps sp) (hr : Room (k + 1) X.A) (hg : Gl X x) (hm : X.mg x = some (.ref C)) (hb : Binds X.K fd ps []) (hx : ∀ σ, PassesAt CX X σ (E σ)) (ha : PA X (e :: es) t)
    (hdb : (x == ("__debug__" : Str)) = false := by decide) (he : starEach (e :: es) X.env = (false, eval e X.env) :: starEach es X.env := by rfl)
    (hpl : (backTo pos (starEach es X.env)).any (·.1) = false := by rfl) : PE X (.Call (.Name x p) (e :: es) [] pos) (tMakeS C sp E t) := by
  constructor
  intro pins s σ H Q I h
  apply wpAny_Call_Name_kw (ld_glob I hg hm ?_ hdb)
  apply PySem.W.callWith_K (h₀ := X.base) I.ok.mod.kin M.kp (thn (ha.run pos pins s σ H _ I h) ?_) he hpl
  rintro us s1 ⟨vs, H1, I1, r, q⟩
  exact ⟨I1.kIn, make_run M F hr hb (hx σ) I1 r q⟩
end
/-- what a class of errors must say so that isinstance asks its instances rightly -/
structure ErrC (K : PySem.W.Frag) (D : Addr) : Prop where
  cl : (PySem.W.clsIn K D).isSome = true
  ga : PySem.W.findIn K (.ref D) "__getattribute__" = some (some (.builtin "BaseException.__getattribute__"))
  gt : PySem.W.findIn K (.ref D) "__getattr__" = some none
  sub : PySem.W.subIn K (.ref D) (.type "BaseException") = some true
  ha : PySem.W.findIn K (.ref D) "__class__" = some (some (.builtin "object.__class__"))
  hn : PySem.W.specialIn K (.builtin "object.__class__") "__get__" = some (some (.builtin "getset_descriptor.__get__"))
  tk : PySem.W.takesIn K (.builtin "object.__class__") = some true
  mr : PySem.W.mroIn K D (.type "object") = some true
section
variable {X : Cx} {a D : Addr} {oe : Obj} {cls : Value} {d : Option Addr} {pn : List (Addr × Obj)}
theorem err_at {pins : List (Addr × Obj)} {σ : L2.St} {H : Hp} {s : Shared} {dd : Addr} {fs : List (Str × V)} (hz : Zc cls d oe) (hf : ∃ vs, oe.data = .fields vs) (ec : cls = .ref D) (ed : d = some dd) (I : Inv (X.suite a ((a, oe) :: pn)) pins σ H s)
    (hd : H dd = some (.xd fs)) : ∃ od, PySem.W.InstAt s.heap a oe D (some od) := by
  subst ec
  subst ed
  obtain ⟨ga, _⟩ := I.pin (a, oe) (List.mem_append_left _ List.mem_cons_self)
  obtain ⟨vs, hv⟩ := hf
  have hx : ObjOk X.prog X.w H s.heap dd (.xd fs) := I.hok dd _ hd
  obtain ⟨mA, hns, _⟩ := hx
  obtain ⟨od, ho, _⟩ := lookIn_ns hns
  refine ⟨od, ga, hz.1, ?_, ?_⟩
  · unfold PySem.W.notCls
    rw [hv] <;> rfl
  · rw [hz.2]
    exact ho
/-- isinstance(e, c) of what the suite holds, with its own dict -/
def rIsX (K : PySem.W.Frag) (D a : Addr) (cls : Value) (d : Option Addr) : List V → Hp → VK → Prop := fun xs H Q => cls = .ref D ∧ ∃ (c : V) (cv : Value) (b : Bool) (dd : Addr) (fs : List (Str × V)),
  xs = [.ref a, c] ∧ ClsV c cv ∧ d = some dd ∧ H dd = some (.xd fs) ∧ PySem.W.kitOne K (.ref D) cv = some b ∧ Q (.bl b) H
theorem call_isX (c : ErrC X.K D) (hz : Zc cls d oe) (hf : ∃ vs, oe.data = .fields vs) : CallR (X.suite a ((a, oe) :: pn)) (.builtin "isinstance") (rIsX X.K D a cls d) := by
  intro pins s σ H xs us Q I r h
  obtain ⟨ec, cV, cv, b, dd, fs, rfl, hcv, ed, hd, e, q⟩ := h
  obtain ⟨u1, u2, rfl, r1, r2⟩ := vals2 r
  cases r1
  have e2 := hcv.eq r2
  subst e2
  obtain ⟨od, J⟩ := err_at hz hf ec ed I hd
  exact PySem.W.kia_one (PySem.W.kitx_exc (ox := oe) (od := some od) c.cl c.ga c.gt c.sub c.ha c.hn c.tk c.mr) I.kIn J e (fun z => nomatch z) fun tk => ⟨.bl b, H, I.tok tk, rfl, q⟩
/-- isinstance(e, (c1, ..)), the tuple just laid -/
def rIsXT (K : PySem.W.Frag) (D a : Addr) (cls : Value) (d : Option Addr) : List V → Hp → VK → Prop := fun xs H Q => cls = .ref D ∧ ∃ (tp : Addr) (cs : List V) (ws : List Value) (b : Bool) (dd : Addr) (fs : List (Str × V)),
  xs = [.ref a, .ref tp] ∧ H tp = some (.tup cs) ∧ Paired ClsV cs ws ∧ d = some dd ∧ H dd = some (.xd fs) ∧ PySem.W.kitAny K (.ref D) ws = some b ∧ Q (.bl b) H
theorem call_isXT (c : ErrC X.K D) (hz : Zc cls d oe) (hf : ∃ vs, oe.data = .fields vs) : CallR (X.suite a ((a, oe) :: pn)) (.builtin "isinstance") (rIsXT X.K D a cls d) := by
  intro pins s σ H xs us Q I r h
  obtain ⟨ec, tp, cs, ws, b, dd, fs, rfl, hT, hcv, ed, hd, e, q⟩ := h
  obtain ⟨u1, u2, rfl, r1, r2⟩ := vals2 r
  cases r1
  cases (show u2 = Value.ref tp from r2)
  obtain ⟨od, J⟩ := err_at hz hf ec ed I hd
  obtain ⟨_, its, rv, o, h1, h2, n, h3⟩ := (show ObjOk X.prog X.w H s.heap tp (.tup cs) from I.hok tp _ hT)
  have e3 := ClsV.all hcv rv
  subst e3
  obtain ⟨oc, od', dt, sl⟩ := o
  simp only at h2 h3
  subst h2 h3
  exact PySem.W.kia_tup (PySem.W.kitx_exc (ox := oe) (od := some od) c.cl c.ga c.gt c.sub c.ha c.hn c.tk c.mr) I.kIn J h1 e (fun z => nomatch z) fun tk => ⟨.bl b, H, I.tok tk, rfl, q⟩
end
end Nw
/-! Tables: the data, what each def promises. -/
namespace Nw
open PySem L2 PySem.Spec PyProof.Rows RZ
theorem DA.bools {G : Hp} : ∀ {ns : List Bool} {vs : List V}, DA G vs (ns.map .bool) → vs = ns.map V.bl
  | [], _, .nil => rfl
  | n :: ns, _, .cons h a => by
    cases h
    rw [DA.bools a] <;> rfl
theorem inV_strs (z : Str) : ∀ l : List Str, inV (.str z) (l.map V.str) = decide (z ∈ l)
  | [] => rfl
  | a :: l => by
    show (eqV (.str a) (.str z) || inV (.str z) (l.map V.str)) = _
    rw [inV_strs z l]
    have e : eqV (.str a) (.str z) = decide (z = a) := by
      show decide (_ = _) = _
      by_cases h : z = a
      · subst h; simp
      · rw [decide_eq_false h]; simp; exact fun q => h q.symm
    rw [e]
    by_cases h : z = a
    · subst h; simp
    · simp [h]
/-- what is plain: a flat thing, a list, a tuple -/
def plain0 (H : Hp) : V → Prop
  | .non => True
  | .bl _ => True
  | .int _ => True
  | .str _ => True
  | .ref a => (∃ xs, H a = some (.lst xs)) ∨ (∃ xs, H a = some (.tup xs))
  | _ => False
theorem D.plain {G H : Hp} (s : Same G H) {v : V} {d : PyData} (h : D G v d) : plain0 H v := by
  cases h with
  | non => trivial
  | bl b => trivial
  | int i => trivial
  | str x => trivial
  | lst h a => exact .inl ⟨_, s _ _ h⟩
  | tup h a => exact .inr ⟨_, s _ _ h⟩
theorem plain0.mono {H H' : Hp} (s : Same H H') {v : V} (h : plain0 H v) : plain0 H' v := by
  cases v with
  | ref a =>
    rcases h with ⟨xs, h⟩ | ⟨xs, h⟩
    · exact .inl ⟨_, s _ _ h⟩
    · exact .inr ⟨_, s _ _ h⟩
  | _ => exact h
theorem plain0.v {K : PySem.W.Frag} {C : Addr} {H : Hp} {v : V} (h : plain0 H v) : plainV K C H v := by
  cases v with
  | ref a => exact h.elim (fun h => .inl h) fun h => .inr (.inl h)
  | _ => exact h
def LET : Str := "abcdefghijklmnopqrstuvwxyz"
def letter (c : Nat) : Bool := decide (c ∈ LET.cps.toList)
def isWordS (s : Str) : Bool := decide (1 ≤ s.length) && decide (s.length ≤ 8) && s.cps.toList.all letter
def isWord : V → Bool
  | .str s => isWordS s
  | _ => false
def isInt : V → Bool
  | .int _ => true
  | _ => false
def RES : List Str := ["and", "or", "not", "true", "false", "name", "where", "nothing", "change"]
def isCol : PyData → Bool
  | .tuple [.str n, .int t] => isWordS n && !decide (n ∈ RES) && decide (1 ≤ t) && decide (t ≤ 3)
  | _ => false
def spWord : Sp := fun vs H Q _ => ∃ (v : V) (G : Hp), vs = [v] ∧ plain0 H v ∧ Same G H ∧ (∀ z, v = .str z → z.length ≤ 10000) ∧ ∀ H', Xt none H G H' G → Q (.bl (isWord v)) H'
def spIsInt : Sp := fun vs H Q _ => ∃ v : V, vs = [v] ∧ plain0 H v ∧ Q (.bl (isInt v)) H
def tupLen : PyData → Int → Bool
  | .tuple ds, n => decide (((ds.length : Nat) : Int) = n)
  | _, _ => false
def spTupOf : Sp := fun vs H Q _ => ∃ (v : V) (n : Int) (d : PyData) (G : Hp), vs = [v, .int n] ∧ D G v d ∧ Same G H ∧ Q (.bl (tupLen d n)) H
def shortD : PyData → Prop
  | .tuple [.str n, _] => n.length ≤ 10000
  | _ => True
def spCol : Sp := fun vs H Q _ => ∃ (v : V) (d : PyData) (G : Hp), vs = [v] ∧ D G v d ∧ shortD d ∧ Same G H ∧ ∀ H', Xt none H G H' G → Q (.bl (isCol d)) H'

abbrev Col := Str × Int
def dCol (c : Col) : PyData := .tuple [.str c.1, .int c.2]
def dCols (cols : List Col) : List PyData := cols.map dCol
def n10 : List Str := ["a", "b", "x", "put", "mark", "total", "look", "zz", "end", "table"]
def n11 : List Str := "other" :: n10
/-- columns with names of a list of words -/
structure Good (N : List Str) (cols : List Col) : Prop where
  len : 1 ≤ cols.length ∧ cols.length ≤ 3
  names : ∀ c ∈ cols, c.1 ∈ N
  tops : ∀ c ∈ cols, 1 ≤ c.2 ∧ c.2 ≤ 3
  nd : (cols.map (·.1)).Nodup
theorem n11_word : ∀ n ∈ n11, isWordS n = true ∧ n ∉ RES ∧ n.length ≤ 10000 := by decide +kernel
theorem n10_n11 : ∀ n ∈ n10, n ∈ n11 := fun n h => List.mem_cons_of_mem _ h
/-- _law_columns -/
def spColumns : Sp := fun vs H Q _ => ∃ (b : Addr) (c : Int) (G : Hp), vs = [.ref b] ∧ Bag H b c ∧ c ≤ 100000 ∧ G b = none ∧ Same G H ∧
  ∀ (p : Addr) (cols : List Col) (xs : List V) (H' G' : Hp), Xt (some b) H G H' G' → Bag H' b (c + 10) → Good n10 cols → G' p = some (.lst xs) → DA G' xs (dCols cols) → Q (.ref p) H'

/-- all values, ascending -/
def stepV (found : List (List Int)) (top : Int) : List (List Int) := (found.map fun row => (List.range (top + 1).toNat).map fun v => row ++ [((v : Nat) : Int)]).flatten
def allV (tops : List Int) : List (List Int) := tops.foldl stepV [[]]
def dRow (r : List Int) : PyData := .tuple (r.map .int)
def dRows (rs : List (List Int)) : List PyData := rs.map dRow
/-- a new list, own, of these data -/
def OwnL (H G : Hp) (ds : List PyData) (Q : VK) : Prop := ∀ (p : Addr) (xs : List V) (H' G' : Hp), Xt none H G H' G' → H p = none → H' p = some (.lst xs) → G' p = none → DA G' xs ds → Q (.ref p) H'
def spValues : Sp := fun vs H Q _ => ∃ (a : Addr) (xs : List V) (cols : List Col) (G : Hp), vs = [.ref a] ∧ G a = some (.lst xs) ∧ DA G xs (dCols cols) ∧ Good n10 cols ∧ Same G H ∧ OwnL H G (dRows (allV (cols.map (·.2)))) Q
/-- a table's fields -/
def tf (cx tx : Addr) : List (Str × V) := [("columns", .ref cx), ("tops", .ref tx)]
theorem ct_ : (("tops" : Str) == ("columns" : Str)) = false := by decide +kernel
theorem tf_c (cx tx : Addr) : (tf cx tx).lookup ("columns" : Str) = some (.ref cx) := by
  simp [tf, List.lookup]
theorem tf_t (cx tx : Addr) : (tf cx tx).lookup ("tops" : Str) = some (.ref tx) := by
  simp [tf, List.lookup, ct_]
theorem tf_put (cx tx : Addr) : putF "tops" (.ref tx) (putF "columns" (.ref cx) []) = tf cx tx := by
  show (if ("columns" : Str) = "tops" then [(("columns" : Str), V.ref tx)] else (("columns" : Str), V.ref cx) :: putF "tops" (V.ref tx) []) = tf cx tx
  rw [if_neg (by decide +kernel)]
  rfl
theorem tf_no (cx tx : Addr) {m : Str} (h1 : m ≠ "columns") (h2 : m ≠ "tops") : (tf cx tx).lookup m = none := by
  unfold tf
  rw [List.lookup_cons, List.lookup_cons]
  have e1 : (m == ("columns" : Str)) = false := by simpa using h1
  have e2 : (m == ("tops" : Str)) = false := by simpa using h2
  rw [e1, e2]
  rfl
/-- a table, stable -/
def TabAt (C : Addr) (G : Hp) (x : Addr) (cols : List Col) : Prop := ∃ dx cx tx : Addr, G x = some (.ins C dx (tf cx tx)) ∧ G dx = some (.own x) ∧ G cx = some (.tup (cols.map fun c => .str c.1)) ∧ G tx = some (.tup (cols.map fun c => .int c.2))
theorem TabAt.mono {C : Addr} {G G' : Hp} {x : Addr} {cols : List Col} (s : Same G G') (h : TabAt C G x cols) : TabAt C G' x cols := by
  obtain ⟨dx, cx, tx, h1, h2, h3, h4⟩ := h
  exact ⟨dx, cx, tx, s _ _ h1, s _ _ h2, s _ _ h3, s _ _ h4⟩
/-- Table.__init__ of good columns -/
def spInit (C : Addr) : Sp := fun vs H Q _ => ∃ (x dx a : Addr) (xs : List V) (cols : List Col) (H0 G : Hp), vs = [.ref x, .ref a] ∧ H0 x = none ∧ H0 dx = none ∧ dx ≠ x ∧ H = upd (upd H0 dx (.own x)) x (.ins C dx []) ∧
  H0 a = some (.lst xs) ∧ DA G xs (dCols cols) ∧ Good n11 cols ∧ Same G H0 ∧ ∀ H' G', Xt none H0 G H' G' → TabAt C G' x cols → Q .non H'
end Nw
namespace Nw
open PySem L2 PySem.Spec PyProof.Rows RZ
def top (i : Nat) : Stmt := PySem.Challenge.pw_newestrow_k02_tables_refused.main.body.getD i (.Pass ⟨0, 0, 0, 0⟩)
abbrev s__wall : Stmt := top 0
abbrev N__wall : List Str := ["k"]
abbrev P__wall : List Str := ["k"]
theorem sc__wall : FnScope N__wall P__wall (C8.fnScope s__wall) := C8.fnScope_by (by decide +kernel)
abbrev s_copied : Stmt := top 2
abbrev N_copied : List Str := ["field", "part", "key"]
abbrev P_copied : List Str := ["field"]
theorem sc_copied : FnScope N_copied P_copied (C8.fnScope s_copied) := C8.fnScope_by (by decide +kernel)
abbrev s_BadTable____init__ : Stmt := inClass (top 4) 0
abbrev N_BadTable____init__ : List Str := ["self", "at"]
abbrev P_BadTable____init__ : List Str := ["self", "at"]
theorem sc_BadTable____init__ : FnScope N_BadTable____init__ P_BadTable____init__ (C8.fnScope s_BadTable____init__) := C8.fnScope_by (by decide +kernel)
abbrev s_BadCondition____init__ : Stmt := inClass (top 5) 0
abbrev N_BadCondition____init__ : List Str := ["self", "at"]
abbrev P_BadCondition____init__ : List Str := ["self", "at"]
theorem sc_BadCondition____init__ : FnScope N_BadCondition____init__ P_BadCondition____init__ (C8.fnScope s_BadCondition____init__) := C8.fnScope_by (by decide +kernel)
abbrev s_BadMix____init__ : Stmt := inClass (top 6) 0
abbrev N_BadMix____init__ : List Str := ["self", "at"]
abbrev P_BadMix____init__ : List Str := ["self", "at"]
theorem sc_BadMix____init__ : FnScope N_BadMix____init__ P_BadMix____init__ (C8.fnScope s_BadMix____init__) := C8.fnScope_by (by decide +kernel)
abbrev s_is_integer : Stmt := top 8
abbrev N_is_integer : List Str := ["thing"]
abbrev P_is_integer : List Str := ["thing"]
theorem sc_is_integer : FnScope N_is_integer P_is_integer (C8.fnScope s_is_integer) := C8.fnScope_by (by decide +kernel)
abbrev s_is_tuple_of : Stmt := top 9
abbrev N_is_tuple_of : List Str := ["thing", "many"]
abbrev P_is_tuple_of : List Str := ["thing", "many"]
theorem sc_is_tuple_of : FnScope N_is_tuple_of P_is_tuple_of (C8.fnScope s_is_tuple_of) := C8.fnScope_by (by decide +kernel)
abbrev s_is_word : Stmt := top 12
abbrev N_is_word : List Str := ["thing", "letter"]
abbrev P_is_word : List Str := ["thing"]
theorem sc_is_word : FnScope N_is_word P_is_word (C8.fnScope s_is_word) := C8.fnScope_by (by decide +kernel)
abbrev s_is_column : Stmt := top 15
abbrev N_is_column : List Str := ["thing", "name", "top"]
abbrev P_is_column : List Str := ["thing"]
theorem sc_is_column : FnScope N_is_column P_is_column (C8.fnScope s_is_column) := C8.fnScope_by (by decide +kernel)
abbrev s_Table____init__ : Stmt := inClass (top 16) 0
abbrev N_Table____init__ : List Str := ["self", "columns", "names", "at", "column", "_", "top"]
abbrev P_Table____init__ : List Str := ["self", "columns"]
theorem sc_Table____init__ : FnScope N_Table____init__ P_Table____init__ (C8.fnScope s_Table____init__) := C8.fnScope_by (by decide +kernel)
abbrev s_Table__all_values : Stmt := inClass (top 16) 1
abbrev N_Table__all_values : List Str := ["self"]
abbrev P_Table__all_values : List Str := ["self"]
theorem sc_Table__all_values : FnScope N_Table__all_values P_Table__all_values (C8.fnScope s_Table__all_values) := C8.fnScope_by (by decide +kernel)
abbrev s_Table____len__ : Stmt := inClass (top 16) 2
abbrev N_Table____len__ : List Str := ["self"]
abbrev P_Table____len__ : List Str := ["self"]
theorem sc_Table____len__ : FnScope N_Table____len__ P_Table____len__ (C8.fnScope s_Table____len__) := C8.fnScope_by (by decide +kernel)
abbrev s_Table____contains__ : Stmt := inClass (top 16) 3
abbrev N_Table____contains__ : List Str := ["self", "thing", "value", "top"]
abbrev P_Table____contains__ : List Str := ["self", "thing"]
theorem sc_Table____contains__ : FnScope N_Table____contains__ P_Table____contains__ (C8.fnScope s_Table____contains__) := C8.fnScope_by (by decide +kernel)
abbrev s_Table____eq__ : Stmt := inClass (top 16) 4
abbrev N_Table____eq__ : List Str := ["self", "other"]
abbrev P_Table____eq__ : List Str := ["self", "other"]
theorem sc_Table____eq__ : FnScope N_Table____eq__ P_Table____eq__ (C8.fnScope s_Table____eq__) := C8.fnScope_by (by decide +kernel)
abbrev s_Table____repr__ : Stmt := inClass (top 16) 5
abbrev N_Table____repr__ : List Str := ["self", "columns", "name", "top"]
abbrev P_Table____repr__ : List Str := ["self"]
theorem sc_Table____repr__ : FnScope N_Table____repr__ P_Table____repr__ (C8.fnScope s_Table____repr__) := C8.fnScope_by (by decide +kernel)
abbrev s__law_bag : Stmt := top 18
abbrev N__law_bag : List Str := ["_law_script", "_law_at", "_law_cell", "_law_digits"]
abbrev P__law_bag : List Str := ["_law_script", "_law_at"]
theorem sc__law_bag : FnScope N__law_bag P__law_bag (C8.fnScope s__law_bag) := C8.fnScope_by (by decide +kernel)
abbrev s__law_take : Stmt := top 19
abbrev N__law_take : List Str := ["_law_bag_here", "_law_many", "_law_digit", "_law_mixed"]
abbrev P__law_take : List Str := ["_law_bag_here", "_law_many"]
theorem sc__law_take : FnScope N__law_take P__law_take (C8.fnScope s__law_take) := C8.fnScope_by (by decide +kernel)
abbrev s__law_of : Stmt := top 20
abbrev N__law_of : List Str := ["_law_bag_here", "_law_some"]
abbrev P__law_of : List Str := ["_law_bag_here", "_law_some"]
theorem sc__law_of : FnScope N__law_of P__law_of (C8.fnScope s__law_of) := C8.fnScope_by (by decide +kernel)
abbrev s__law_columns : Stmt := top 21
abbrev N__law_columns : List Str := ["_law_bag_here", "_law_left", "_law_found", "_law_turn"]
abbrev P__law_columns : List Str := ["_law_bag_here"]
theorem sc__law_columns : FnScope N__law_columns P__law_columns (C8.fnScope s__law_columns) := C8.fnScope_by (by decide +kernel)
abbrev s__law_entry : Stmt := top 22
abbrev N__law_entry : List Str := ["_law_bag_here", "_law_name", "_law_odd", "_law_wrong", "_law_top", "_law_some"]
abbrev P__law_entry : List Str := ["_law_bag_here"]
theorem sc__law_entry : FnScope N__law_entry P__law_entry (C8.fnScope s__law_entry) := C8.fnScope_by (by decide +kernel)
abbrev s__law_is_column : Stmt := top 23
abbrev N__law_is_column : List Str := ["_law_entry_here", "_law_name", "_law_top", "_law_letter"]
abbrev P__law_is_column : List Str := ["_law_entry_here"]
theorem sc__law_is_column : FnScope N__law_is_column P__law_is_column (C8.fnScope s__law_is_column) := C8.fnScope_by (by decide +kernel)
abbrev s__law_due : Stmt := top 24
abbrev N__law_due : List Str := ["_law_entries_here", "_law_at", "_law_entry_here", "_law_one"]
abbrev P__law_due : List Str := ["_law_entries_here"]
theorem sc__law_due : FnScope N__law_due P__law_due (C8.fnScope s__law_due) := C8.fnScope_by (by decide +kernel)
abbrev s__law_told : Stmt := top 25
abbrev N__law_told : List Str := ["_law_entries_here", "e", "_law_wrong"]
abbrev P__law_told : List Str := ["_law_entries_here"]
theorem sc__law_told : FnScope N__law_told P__law_told (C8.fnScope s__law_told) := C8.fnScope_by (by decide +kernel)
abbrev s__law_entries : Stmt := top 26
abbrev N__law_entries : List Str := ["_law_bag_here", "_law_turn"]
abbrev P__law_entries : List Str := ["_law_bag_here"]
theorem sc__law_entries : FnScope N__law_entries P__law_entries (C8.fnScope s__law_entries) := C8.fnScope_by (by decide +kernel)
abbrev s_law : Stmt := top 27
abbrev N_law : List Str := ["_law_script", "_law_at", "_law_bag_here", "_law_turn", "_law_columns_here", "_law_spot", "_law_entries_here"]
abbrev P_law : List Str := ["_law_script"]
theorem sc_law : FnScope N_law P_law (C8.fnScope s_law) := C8.fnScope_by (by decide +kernel)
/-- what the top leaves of names -/
structure Names (K : PySem.W.Frag) (mg : Str → Option Value) : Prop where
  n_len : mg "len" = none
  n_range : mg "range" = none
  n_abs : mg "abs" = none
  n_int : mg "int" = none
  n_str : mg "str" = none
  n_bool : mg "bool" = none
  n_tuple : mg "tuple" = none
  n_list : mg "list" = none
  n_isinstance : mg "isinstance" = none
  n_all : mg "all" = none
  n_any : mg "any" = none
  n_max : mg "max" = none
  n_min : mg "min" = none
  n_enumerate : mg "enumerate" = none
  n_zip : mg "zip" = none
  n_repr : mg "repr" = none
  g_LETTERS : ∃ u, mg "LETTERS" = some u ∧ RelV (.str LET) u
  g_RESERVED : ∃ (a : Addr), (∃ u, mg "RESERVED" = some u ∧ RelV (.ref a) u) ∧ ∀ H : Hp, SqT K H a (RES.map V.str)
section
variable {P : Program} {w : World} {K : PySem.W.Frag} {mg : Str → Option Value} {base : Heap}
theorem take {f : Addr} {fd : FuncData} (F : C8.Def K mg "_law_take" s__law_take f fd) (b : Binds K fd P__law_take []) (T : Names K mg) : C8.Cal P w K mg base 1 "_law_take" spTake [] := by
  refine C8.cal0 (N := N__law_take) F b .nil sc__law_take (fun vs H Q E h => ?_) (fun cdv A outer s H vs Q E hr h => ?_)
  · obtain ⟨b, n, c, rfl, _⟩ := h
    rfl
  · obtain ⟨b, n, c, rfl, n0, n1, ⟨x, y, z, hb, y0, y1, z0, z1⟩, c1, k⟩ := h
    have hu := hu_of hr
    refine ⟨_, (pss_cons (ps_if (pt_cmpR op_gt (pe_ix ix_list (pv 0) pe_int (fun _ _ => rfl)) pe_int (nomark _)) (pss_cons (ps_set (i := 2) sc__law_take.nd rfl (Or.inl rfl) (pe_op op_mod (pe_callTy call_int1 (by rfl) T.n_int (by decide +kernel) (pa_cons (pe_ix ix_list (pv 0) pe_int (fun _ _ => rfl)) pa_nil)) (pv 1)))
 (pss_cons (ps_asg (pe_op op_fdivN (pe_ix ix_list (pv 0) pe_int (fun _ _ => rfl)) (pv 1)) (pg_sub (pv 0) pe_int set_list))
 (pss_one (ps_ret (pv 2))))) pss_nil)
 (pss_cons (ps_asg (pe_op op_add (pe_ix ix_list (pv 0) pe_int (fun _ _ => rfl)) pe_int) (pg_sub (pv 0) pe_int set_list))
 (pss_cons (ps_set (i := 3) sc__law_take.nd rfl (Or.inl rfl) (pe_op op_mod (pe_callTy call_int1 (by rfl) T.n_int (by decide +kernel) (pa_cons (pe_op op_pow (pe_op op_add (pe_ix ix_list (pv 0) pe_int (fun _ _ => rfl)) (pe_op op_mul pe_int (pe_ix ix_list (pv 0) pe_int (fun _ _ => rfl)))) pe_int) pa_nil)) pe_int))
 (pss_cons (ps_set (i := 3) sc__law_take.nd rfl (Or.inl rfl) (pe_op op_mod (pe_callTy call_int1 (by rfl) T.n_int (by decide +kernel) (pa_cons (pe_op op_pow (pe_op op_add (pv 3) (pe_op op_mul pe_int (pe_ix ix_list (pv 0) pe_int (fun _ _ => rfl)))) pe_int) pa_nil)) pe_int))
 (pss_one (ps_ret (pe_op op_mod (pe_callTy call_int1 (by rfl) T.n_int (by decide +kernel) (pa_cons (pe_op op_fdiv (pv 3) pe_int) pa_nil)) (pv 1)))))))), ?_⟩
    refine ⟨_, rfl, b, _, _, _, rfl, rfl, SqL.of hb, rfl, _, _, rfl, rfl, _, rfl, ?_⟩
    have bag' : ∀ x' y' z' : Int, 0 ≤ y' → y' < 8000000000000000000 → 0 ≤ z' → z' ≤ c + 1 → Bag (upd H b (.lst [.int x', .int y', .int z'])) b (c + 1) := fun x' y' z' h1 h2 h3 h4 => ⟨x', y', z', upd_same, h1, h2, h3, h4⟩
    refine ite2 (fun hx => ?_) (fun hx => ?_)
    · refine ⟨_, rfl, b, _, _, _, rfl, rfl, SqL.of hb, rfl, .inl ⟨_, rfl, ?_⟩⟩
      refine ⟨_, rfl, _, _, rfl, rfl, n0, ?_⟩
      refine ⟨_, rfl, b, _, _, _, rfl, rfl, SqL.of hb, rfl, _, rfl, _, _, rfl, rfl, ⟨by omega, by omega⟩, ?_⟩
      refine ⟨_, rfl, b, _, _, _, rfl, rfl, hb, rfl, ?_⟩
      refine ⟨_, rfl, ?_⟩
      exact k (x % n) (x.fdiv n) y z (Int.emod_nonneg _ (by omega)) (Int.emod_lt_of_pos _ n0) (bag' _ _ _ y0 y1 z0 (by omega))
    · refine ⟨_, rfl, b, _, _, _, rfl, rfl, SqL.of hb, rfl, _, _, rfl, rfl, ?_⟩
      refine ⟨_, rfl, b, _, _, _, rfl, rfl, hb, rfl, ?_⟩
      have hb' := @upd_same H b (HO.lst [V.int x, V.int y, V.int (z + 1)])
      refine ⟨_, rfl, b, _, _, _, rfl, rfl, SqL.of hb', rfl, _, rfl, b, _, _, _, rfl, rfl, SqL.of hb', rfl, ?_⟩
      refine ⟨_, _, rfl, rfl, .inl ⟨by decide, by decide⟩, _, _, rfl, rfl, _, _, rfl, rfl, ⟨by decide, by decide, ?_⟩, .inl ⟨_, rfl, ?_⟩⟩
      · show (y + 1000033 * (z + 1)).natAbs < 2 ^ 64
        omega
      refine ⟨_, _, rfl, rfl, (by show (0 : Int) < 2305843009213693921; decide), ?_⟩
      have m0 := Int.emod_nonneg ((y + 1000033 * (z + 1)) ^ Int.toNat 3) (by decide : (2305843009213693921 : Int) ≠ 0)
      have m1 := Int.emod_lt_of_pos ((y + 1000033 * (z + 1)) ^ Int.toNat 3) (by decide : (0 : Int) < 2305843009213693921)
      refine ⟨_, rfl, _, rfl, b, _, _, _, rfl, rfl, SqL.of hb', rfl, _, _, rfl, rfl, .inl ⟨by decide, by decide⟩, _, _, rfl, rfl, _, _, rfl, rfl, ⟨by decide, by decide, ?_⟩, .inl ⟨_, rfl, ?_⟩⟩
      · revert m0 m1
        generalize (y + 1000033 * (z + 1)) ^ Int.toNat 3 % 2305843009213693921 = m
        intro m0 m1
        omega
      refine ⟨_, _, rfl, rfl, (by show (0 : Int) < 2305843009213693951; decide), ?_⟩
      refine ⟨_, rfl, _, _, rfl, rfl, ⟨by decide, by decide⟩, .inl ⟨_, rfl, ?_⟩⟩
      refine ⟨_, rfl, _, _, rfl, rfl, n0, ?_⟩
      exact k _ x y (z + 1) (Int.emod_nonneg _ (by omega)) (Int.emod_lt_of_pos _ n0) (bag' _ _ _ y0 y1 (by omega) (by omega))
theorem bag {f : Addr} {fd : FuncData} (F : C8.Def K mg "_law_bag" s__law_bag f fd) (b : Binds K fd P__law_bag []) (T : Names K mg) : C8.Cal P w K mg base 1 "_law_bag" (spBag K) [] := by
  refine C8.cal0 (N := N__law_bag) F b .nil sc__law_bag (fun vs H Q E h => ?_) (fun cdv A outer s H vs Q E hr h => ?_)
  · obtain ⟨a, ns, i, rfl, _⟩ := h
    rfl
  · obtain ⟨a, ns, i, rfl, hS, i0, i1, k⟩ := h
    have hu := hu_of hr
    refine ⟨_, (C8.pss_cut (ps_set (i := 2) sc__law_bag.nd rfl (Or.inl rfl) (pe_ifExp (pt_cmpR op_lt (pv 1) (pe_callB call_len_seq (by rfl) T.n_len PySem.boot_len (pa_cons (pv 0) pa_nil)) (nomark _)) (pe_ix ix_list (pv 0) (pv 1) (fun _ _ => rfl)) pe_int))
 (C8.pss_cut (ps_set (i := 3) sc__law_bag.nd rfl (Or.inl rfl) (pe_ifExp (pt_cmpR op_ge (pe_callB call_abs (by rfl) T.n_abs (by decide +kernel) (pa_cons (pv 2) pa_nil)) (pe_op op_pow pe_int pe_int) (nomark _)) (pe_callB call_abs (by rfl) T.n_abs (by decide +kernel) (pa_cons (pv 2) pa_nil)) pe_int))
 (pss_one (ps_ret (pe_lst (pa_cons (pv 3) (pa_cons (pe_op op_add (pe_op op_add (pe_op op_mul (pe_op op_mod (pe_callTy call_int1 (by rfl) T.n_int (by decide +kernel) (pa_cons (pv 2) pa_nil)) pe_int) pe_int) (pe_op op_mul pe_int (pv 1))) pe_int) (pa_cons pe_int pa_nil)))))))), ?_⟩
    refine ⟨fun σ' H' => ∃ x : Int, σ' = [some (.ref a), some (.int i), some (.int x), none] ∧ H' = H, ?_, ?_⟩
    · refine ⟨_, rfl, _, rfl, a, _, rfl, .inl hS, _, _, rfl, rfl, _, rfl, ?_⟩
      rw [List.length_map]
      refine ite2 (fun c => ?_) (fun c => ?_)
      · have c' : i < (ns.length : Int) := by simpa using c
        have hj : i.toNat < ns.length := by omega
        have e : ((i.toNat : Nat) : Int) = i := by omega
        refine ⟨_, rfl, _, rfl, a, _, i, .int (ns.getD i.toNat 0), rfl, rfl, hS, ?_, _, rfl, rfl⟩
        have q := atI_nat (xs := ns.map V.int) (j := i.toNat) (v := .int (ns.getD i.toNat 0)) (by simp [hj])
        rw [e] at q
        exact q
      · exact ⟨_, rfl, rfl⟩
    rintro σ' H' ⟨x, rfl, rfl⟩
    refine ⟨fun σ' H2 => ∃ y : Int, σ' = [some (.ref a), some (.int i), some (.int x), some (.int y)] ∧ H2 = H', ?_, ?_⟩
    · refine ⟨_, rfl, _, rfl, _, _, rfl, rfl, ⟨by decide, by decide, by decide⟩, _, _, rfl, rfl, _, rfl, ?_⟩
      refine ite2 (fun c => ?_) (fun c => ?_)
      · exact ⟨_, rfl, _, rfl, _, rfl, rfl⟩
      · exact ⟨_, rfl, rfl⟩
    rintro σ' H2 ⟨y, rfl, rfl⟩
    refine ⟨_, rfl, _, rfl, .inl ⟨_, rfl, ?_⟩⟩
    have m0 := Int.emod_nonneg x (by decide : (2305843009213693951 : Int) ≠ 0)
    have m1 := Int.emod_lt_of_pos x (by decide : (0 : Int) < 2305843009213693951)
    refine ⟨_, _, rfl, rfl, (by show (0 : Int) < 2305843009213693951; decide), _, _, rfl, rfl, .inr ⟨by decide, by decide⟩, _, rfl, _, _, rfl, rfl, .inl ⟨by decide, by decide⟩, _, _, rfl, rfl, _, _, rfl, rfl, (by show 3 ≤ sizeLine; decide), fun p hp => ?_⟩
    exact k p _ _ _ hp ⟨_, _, _, upd_same, by omega, by omega, by omega, by omega⟩
theorem of_ {f : Addr} {fd : FuncData} (F : C8.Def K mg "_law_of" s__law_of f fd) (b : Binds K fd P__law_of []) (T : Names K mg) (c__law_take : C8.Cal P w K mg base 1 "_law_take" spTake []) : C8.Cal P w K mg base 2 "_law_of" spOf [] := by
  refine C8.cal0 (N := N__law_of) F b .nil sc__law_of (fun vs H Q E h => ?_) (fun cdv A outer s H vs Q E hr h => ?_)
  · obtain ⟨b, a, xs, c, rfl, _⟩ := h
    rfl
  · obtain ⟨b, a, xs, c, rfl, ha, hab, hne, hlen, hB, c1, k⟩ := h
    have hu := hu_of hr
    refine ⟨_, (pss_one (ps_ret (pe_ix ix_list (pv 1) (C8.pe_c c__law_take hr (by decide) rfl (pa_cons (pv 0) (pa_cons (pe_callB call_len_seq (by rfl) T.n_len PySem.boot_len (pa_cons (pv 1) pa_nil)) pa_nil))) (fun _ _ => rfl)))), ?_⟩
    have h0 : 0 < xs.length := List.length_pos_iff.mpr hne
    refine ⟨_, rfl, _, rfl, _, rfl, a, _, rfl, .inl (SqL.of ha), b, _, c, rfl, by omega, by omega, hB, c1, fun r x y z r0 r1 hB' => ?_⟩
    have hr1 : r.toNat < xs.length := by omega
    have e : ((r.toNat : Nat) : Int) = r := by omega
    refine ⟨a, xs, r, xs[r.toNat], rfl, rfl, SqL.of ?_, ?_, ?_⟩
    · rw [upd_ne hab]; exact ha
    · have q := atI_nat (xs := xs) (j := r.toNat) (v := xs[r.toNat]) (by simp [hr1])
      rw [e] at q
      exact q
    · exact k _ r.toNat x y z (by simp [hr1]) hB'
theorem columns {f : Addr} {fd : FuncData} (F : C8.Def K mg "_law_columns" s__law_columns f fd) (b : Binds K fd P__law_columns []) (T : Names K mg) (c__law_take : C8.Cal P w K mg base 1 "_law_take" spTake []) : C8.Cal P w K mg base 2 "_law_columns" spColumns [] := by
  refine C8.cal0 (N := N__law_columns) F b .nil sc__law_columns (fun vs H Q E h => ?_) (fun cdv A outer s H vs Q E hr h => ?_)
  · obtain ⟨b, c, G, rfl, _⟩ := h
    rfl
  · obtain ⟨b, c, G, rfl, hB, hc, gb, sG, k⟩ := h
    have hu := hu_of hr
    refine ⟨_, (pss_cons (ps_par (i := 1) (j := 2) (by rfl) sc__law_columns.nd rfl rfl (by decide) rfl rfl (pa_cons (pe_lst (pa_cons pe_str (pa_cons pe_str (pa_cons pe_str (pa_cons pe_str (pa_cons pe_str (pa_cons pe_str (pa_cons pe_str (pa_cons pe_str (pa_cons pe_str (pa_cons pe_str pa_nil))))))))))) (pa_cons (pe_lst pa_nil) pa_nil)) (by rfl))
 (pss_cons (ps_for PassesOwn.never rfl (pi_range1 rfl T.n_range (pa_cons (pe_op op_add pe_int (C8.pe_c c__law_take hr (by decide) rfl (pa_cons (pv 0) (pa_cons pe_int pa_nil)))) pa_nil)) (pg_name (i := 3) sc__law_columns.nd rfl (Or.inl rfl)) (pss_one (ps_expr (pe_bm PySem.F.plainAttrs_list PySem.F.slot_list_append PySem.F.type_list_append mt_append (pv 2) (pa_cons (pe_tup (pa_cons (pe_bm PySem.F.plainAttrs_list PySem.F.slot_list_pop PySem.F.type_list_pop mt_popAt (pv 1) (pa_cons (C8.pe_c c__law_take hr (by decide) rfl (pa_cons (pv 0) (pa_cons (pe_callB call_len_seq (by rfl) T.n_len PySem.boot_len (pa_cons (pv 1) pa_nil)) pa_nil))) pa_nil)) (pa_cons (pe_op op_add pe_int (C8.pe_c c__law_take hr (by decide) rfl (pa_cons (pv 0) (pa_cons pe_int pa_nil)))) pa_nil))) pa_nil)))))
 (pss_one (ps_ret (pv 2))))), ?_⟩
    refine ⟨(by show 10 ≤ sizeLine; decide), fun l hl => ⟨Nat.zero_le _, fun f hf => ⟨_, _, rfl, ?_⟩⟩⟩
    have X1 := Xt.tmp (b := some b) (o := .lst (n10.map V.str)) sG hl
    have X2 := X1.allocT (o := .lst []) hf
    have nlf : l ≠ f := fun q => by rw [q, upd_same] at hf; cases hf
    have nbl : b ≠ l := fun q => hB.ne (by rw [q]; exact hl)
    have hf0 := X1.fresh hf
    have nbf : b ≠ f := fun q => hB.ne (by rw [q]; exact hf0)
    have gl : G l = none := sG.free hl
    have gf : G f = none := sG.free hf0
    have hB2 : Bag (upd (upd H l (.lst (n10.map V.str))) f (.lst [])) b c := (hB.upd nbl).upd nbf
    refine ⟨_, rfl, b, 3, c, rfl, by omega, by omega, hB2, by omega, fun r x y z r0 r1 hB3 => ⟨_, _, rfl, rfl, 1 + r, rfl, by omega, by omega, ?_⟩⟩
    refine for_range (n := (1 + r).toNat) (fun i σ' H' => ∃ (G' : Hp) (v : Option V) (left : List Str) (cols : List Col) (xs : List V), σ' = [some (.ref b), some (.ref l), some (.ref f), v] ∧ Xt (some b) H G H' G' ∧ Bag H' b (c + 1 + 2 * i) ∧
      H' l = some (.lst (left.map V.str)) ∧ H' f = some (.lst xs) ∧ G' b = none ∧ G' l = none ∧ G' f = none ∧ DA G' xs (dCols cols) ∧ cols.length = i ∧ (cols.map (·.1) ++ left).Perm n10 ∧ ∀ c ∈ cols, 1 ≤ c.2 ∧ c.2 ≤ 3) ?_ ?_ ?_
    · refine ⟨G, none, n10, [], [], rfl, X2.put gb, hB3.mono (by omega), ?_, ?_, gb, gl, gf, .nil, rfl, .refl _, fun c h => by cases h⟩
      · rw [upd_ne nbl.symm, upd_ne nlf, upd_same]; rfl
      · rw [upd_ne nbf.symm, upd_same]
    · rintro i σ' H' hi ⟨G', v, left, cols, xs, rfl, X, hB4, h1, h2, g1, g2, g3, da, len, perm, tops⟩
      have hi3 : i < 3 := by omega
      have hleft : left.length = 10 - i := by
        have := perm.length_eq
        rw [List.length_append, List.length_map, len] at this
        have e : n10.length = 10 := rfl
        omega
      refine ⟨_, rfl, .inl ⟨rfl, _, SqL.of h2⟩, _, rfl, .inl ⟨rfl, _, SqL.of h1⟩, _, rfl, _, rfl, _, _, rfl, .inl (SqL.of h1), b, _, _, rfl, ?_, ?_, hB4, by omega, fun r2 x2 y2 z2 r20 r21 hB5 => ?_⟩
      · rw [List.length_map]; omega
      · rw [List.length_map]; omega
      have hk : r2.toNat < left.length := by rw [List.length_map] at r21; omega
      obtain ⟨nm, hnm⟩ : ∃ nm, left[r2.toNat]? = some nm := ⟨left[r2.toNat], List.getElem?_eq_getElem hk⟩
      have X5 := X.put (o := .lst [.int x2, .int y2, .int z2]) g1
      refine ⟨l, _, r2, r2.toNat, .str nm, rfl, rfl, by rw [upd_ne nbl.symm]; exact h1, by omega, by omega, seqIndex_of r20 r21, by rw [List.getElem?_map, hnm]; rfl, ?_⟩
      have X6 := X5.set (o := .lst ((left.map V.str).eraseIdx r2.toNat)) hl g2
      have hB6 := hB5.upd (p := l) (o := .lst ((left.map V.str).eraseIdx r2.toNat)) nbl
      refine ⟨_, rfl, b, 3, _, rfl, by omega, by omega, hB6, by omega, fun r3 x3 y3 z3 r30 r31 hB7 => ⟨_, _, rfl, rfl, (by show 2 ≤ sizeLine; decide), fun t ht => ?_⟩⟩
      have X7 := X6.put (o := .lst [.int x3, .int y3, .int z3]) g1
      have X8 := X7.alloc (o := .tup [.str nm, .int (1 + r3)]) ht
      have ntb : b ≠ t := fun q => by subst q; exact hB7.ne ht
      have hf7 : (upd (upd (upd H' b (.lst [.int x2, .int y2, .int z2])) l (.lst ((left.map V.str).eraseIdx r2.toNat))) b (.lst [.int x3, .int y3, .int z3])) f = some (.lst xs) := by
        rw [upd_ne nbf.symm, upd_ne nlf.symm, upd_ne nbf.symm]; exact h2
      have ntf : f ≠ t := fun q => by subst q; exact ne_none_of hf7 ht
      have ntl : l ≠ t := fun q => by
        rw [← q, upd_ne nbl.symm, upd_same] at ht; cases ht
      refine ⟨f, xs, _, rfl, rfl, by rw [upd_ne ntf]; exact hf7, small_lt (by have := da.length; rw [dCols, List.length_map, len] at this; omega), ?_⟩
      have g3' : (upd G' t (.tup [.str nm, .int (1 + r3)])) f = none := none_of_ne g3 ntf
      refine ⟨_, _, left.eraseIdx r2.toNat, cols ++ [(nm, 1 + r3)], _, rfl, X8.set (hf0) g3', ((hB7.upd ntb).upd nbf).mono (by omega), ?_, upd_same, none_of_ne g1 ntb, none_of_ne g2 ntl, g3', ?_, by rw [List.length_append, len]; rfl, ?_, ?_⟩
      · rw [upd_ne nlf, upd_ne ntl, upd_ne nbl.symm, upd_same, map_eraseIdx]
      · rw [dCols, List.map_append]
        refine (da.mono (upd_same_ (X7.sub.free ht))).append (.one (.tup upd_same (.cons (.str _) (.cons (.int _) .nil))))
      · refine List.Perm.trans ?_ perm
        rw [List.map_append, List.append_assoc]
        refine List.Perm.append_left _ ?_
        exact perm_eraseIdx hnm
      · intro c hc
        rcases List.mem_append.mp hc with h | h
        · exact tops c h
        · rw [List.mem_singleton] at h
          subst h
          show 1 ≤ 1 + r3 ∧ 1 + r3 ≤ 3
          omega
    · rintro σ' H' ⟨G', v, left, cols, xs, rfl, X, hB4, h1, h2, g1, g2, g3, da, len, perm, tops⟩
      have hn : (1 + r).toNat ≤ 3 ∧ 1 ≤ (1 + r).toNat := by omega
      have nd : (cols.map (·.1) ++ left).Nodup := perm.nodup_iff.mpr (by decide +kernel)
      refine ⟨_, rfl, k f cols xs H' _ (X.fix hf0 h2) (hB4.mono (by omega)) ⟨by omega, fun c hc => ?_, tops, ?_⟩ upd_same (da.mono (upd_same_ g3))⟩
      · exact perm.subset (List.mem_append_left _ (List.mem_map_of_mem hc))
      · exact (List.nodup_append.mp nd).1
end
end Nw
namespace Nw
open PySem L2 PySem.Spec PyProof.Rows RZ
section
variable {P : Program} {w : World} {K : PySem.W.Frag} {mg : Str → Option Value} {base : Heap}
theorem isInteger {f : Addr} {fd : FuncData} (F : C8.Def K mg "is_integer" s_is_integer f fd) (b : Binds K fd P_is_integer []) (T : Names K mg) : C8.Cal P w K mg base 1 "is_integer" spIsInt [] := by
  refine C8.cal0 (N := N_is_integer) F b .nil sc_is_integer (fun vs H Q E h => ?_) (fun cdv A outer s H vs Q E hr h => ?_)
  · obtain ⟨v, rfl, _⟩ := h
    rfl
  · obtain ⟨v, rfl, hp, k⟩ := h
    refine ⟨_, (pss_one (ps_ret (pe_and (pe_callB call_isi (by rfl) T.n_isinstance (by decide +kernel) (pa_cons (pv 0) (pa_cons (pe_bltn (v := .ty "int") (u := .type "int") (by rfl) T.n_int (by decide +kernel) rfl) pa_nil))) (pe_one (pe_not (pe_callB call_isi (by rfl) T.n_isinstance (by decide +kernel) (pa_cons (pv 0) (pa_cons (pe_bltn (v := .ty "bool") (u := .type "bool") (by rfl) T.n_bool (by decide +kernel) rfl) pa_nil)))))))), ?_⟩
    cases v with
    | non => exact ⟨_, rfl, _, _, _, _, false, rfl, .ty _, .base .non, kit_ty (by decide +kernel), _, rfl, iteF k⟩
    | bl q => exact ⟨_, rfl, _, _, _, _, true, rfl, .ty _, .base (.bl q), kit_ty (by decide +kernel), _, rfl, iteT ⟨_, rfl, _, _, _, _, true, rfl, .ty _, .base (.bl q), kit_ty (by decide +kernel), _, rfl, k⟩⟩
    | int i => exact ⟨_, rfl, _, _, _, _, true, rfl, .ty _, .base (.int i), kit_ty (by decide +kernel), _, rfl, iteT ⟨_, rfl, _, _, _, _, false, rfl, .ty _, .base (.int i), kit_ty (by decide +kernel), _, rfl, k⟩⟩
    | str z => exact ⟨_, rfl, _, _, _, _, false, rfl, .ty _, .base (.str z), kit_ty (by decide +kernel), _, rfl, iteF k⟩
    | ref a =>
      rcases hp with ⟨xs, h⟩ | ⟨xs, h⟩
      · exact ⟨_, rfl, _, _, _, _, false, rfl, .ty _, .base (.lst h), kit_ty (by decide +kernel), _, rfl, iteF k⟩
      · exact ⟨_, rfl, _, _, _, _, false, rfl, .ty _, .base (.tup h), kit_ty (by decide +kernel), _, rfl, iteF k⟩
    | byt q => exact hp.elim
    | flt q => exact hp.elim
    | ty n => exact hp.elim
theorem isTupleOf {f : Addr} {fd : FuncData} (F : C8.Def K mg "is_tuple_of" s_is_tuple_of f fd) (b : Binds K fd P_is_tuple_of []) (T : Names K mg) : C8.Cal P w K mg base 1 "is_tuple_of" spTupOf [] := by
  refine C8.cal0 (N := N_is_tuple_of) F b .nil sc_is_tuple_of (fun vs H Q E h => ?_) (fun cdv A outer s H vs Q E hr h => ?_)
  · obtain ⟨v, n, d, G, rfl, _⟩ := h
    rfl
  · obtain ⟨v, n, d, G, rfl, hd, sG, k⟩ := h
    refine ⟨_, (pss_one (ps_ret (pe_and (pe_callB call_isi (by rfl) T.n_isinstance (by decide +kernel) (pa_cons (pv 0) (pa_cons (pe_bltn (v := .ty "tuple") (u := .type "tuple") (by rfl) T.n_tuple (by decide +kernel) rfl) pa_nil))) (pe_one (pe_cmpR op_eq (pe_callB call_len_seq (by rfl) T.n_len PySem.boot_len (pa_cons (pv 0) pa_nil)) (pv 1) (nomark _)))))), ?_⟩
    cases hd with
    | non => exact ⟨_, rfl, _, _, _, _, false, rfl, .ty _, .base .non, kit_ty (by decide +kernel), _, rfl, iteF k⟩
    | bl q => exact ⟨_, rfl, _, _, _, _, false, rfl, .ty _, .base (.bl q), kit_ty (by decide +kernel), _, rfl, iteF k⟩
    | int i => exact ⟨_, rfl, _, _, _, _, false, rfl, .ty _, .base (.int i), kit_ty (by decide +kernel), _, rfl, iteF k⟩
    | str z => exact ⟨_, rfl, _, _, _, _, false, rfl, .ty _, .base (.str z), kit_ty (by decide +kernel), _, rfl, iteF k⟩
    | lst h da => exact ⟨_, rfl, _, _, _, _, false, rfl, .ty _, .base (.lst (sG _ _ h)), kit_ty (by decide +kernel), _, rfl, iteF k⟩
    | @tup a xs ds h da =>
      refine ⟨_, rfl, _, _, _, _, true, rfl, .ty _, .base (.tup (sG _ _ h)), kit_ty (by decide +kernel), _, rfl, iteT ⟨_, rfl, a, _, rfl, .inr (SqT.of (sG _ _ h)), _, rfl, rfl, ?_⟩⟩
      have e : decide (V.int ((xs.length : Nat) : Int) = V.int n) = tupLen (.tuple ds) n := by
        rw [da.length]
        show _ = decide (((ds.length : Nat) : Int) = n)
        by_cases c : ((ds.length : Nat) : Int) = n
        · rw [c, decide_eq_true rfl, decide_eq_true rfl]
        · rw [decide_eq_false c, decide_eq_false (fun q => c (by injection q))]
      rw [← e] at k
      exact k
theorem isWord_ {f : Addr} {fd : FuncData} (F : C8.Def K mg "is_word" s_is_word f fd) (b : Binds K fd P_is_word []) (T : Names K mg) : C8.Cal P w K mg base 1 "is_word" spWord [] := by
  refine C8.cal0 (N := N_is_word) F b .nil sc_is_word (fun vs H Q E h => ?_) (fun cdv A outer s H vs Q E hr h => ?_)
  · obtain ⟨v, G, rfl, _⟩ := h
    rfl
  · obtain ⟨v, G, rfl, hp, sG, hz, k⟩ := h
    refine ⟨_, (pss_one (ps_ret (pe_and (pe_callB call_isi (by rfl) T.n_isinstance (by decide +kernel) (pa_cons (pv 0) (pa_cons (pe_bltn (v := .ty "str") (u := .type "str") (by rfl) T.n_str (by decide +kernel) rfl) pa_nil))) (pe_and (pe_chain op_le op_le pe_int (pe_callB call_len_str (by rfl) T.n_len PySem.boot_len (pa_cons (pv 0) pa_nil)) pe_int) (pe_one (pe_callB (cr_all rfl) (by rfl) T.n_all (by decide +kernel) (pa_cons (pe_lc (own := [("letter", 1)]) (g := (gName 1)) (tt := tYes) rfl sc_is_word.nd (pi_str (pv 0)) (blkOk_by (own := [("letter", 1)]) (N := N_is_word) (sc := C8.fnScope s_is_word) (by decide +kernel)) (fun _ _ _ _ _ => (pg_name (i := 1) sc_is_word.nd rfl (Or.inl rfl))) (fun _ _ _ _ _ => pts_nil) (fun _ _ _ _ _ => (pe_cmpR op_in_sign (pv 1) (C8.pe_gc rfl T.g_LETTERS) (by rfl)))) pa_nil))))))), ?_⟩
    have k0 := k H (Xt.refl sG)
    cases v with
    | non => exact ⟨_, rfl, _, _, _, _, false, rfl, .ty _, .base .non, kit_ty (by decide +kernel), _, rfl, iteF k0⟩
    | bl q => exact ⟨_, rfl, _, _, _, _, false, rfl, .ty _, .base (.bl q), kit_ty (by decide +kernel), _, rfl, iteF k0⟩
    | int i => exact ⟨_, rfl, _, _, _, _, false, rfl, .ty _, .base (.int i), kit_ty (by decide +kernel), _, rfl, iteF k0⟩
    | ref a =>
      rcases hp with ⟨xs, h⟩ | ⟨xs, h⟩
      · exact ⟨_, rfl, _, _, _, _, false, rfl, .ty _, .base (.lst h), kit_ty (by decide +kernel), _, rfl, iteF k0⟩
      · exact ⟨_, rfl, _, _, _, _, false, rfl, .ty _, .base (.tup h), kit_ty (by decide +kernel), _, rfl, iteF k0⟩
    | byt q => exact hp.elim
    | flt q => exact hp.elim
    | ty n => exact hp.elim
    | str z =>
      have hz' : z.length ≤ 10000 := hz z rfl
      refine ⟨_, rfl, _, _, _, _, true, rfl, .ty _, .base (.str z), kit_ty (by decide +kernel), _, rfl, iteT ?_⟩
      refine ⟨_, rfl, z, rfl, small_line (by omega), _, _, rfl, rfl, _, rfl, ?_⟩
      by_cases c1 : 1 ≤ z.length
      · rw [decide_eq_true (by omega : (1 : Int) ≤ (z.length : Int))]
        refine iteT ⟨_, _, rfl, rfl, _, rfl, ?_⟩
        by_cases c2 : z.length ≤ 8
        · rw [decide_eq_true (by omega : (z.length : Int) ≤ 8)]
          refine iteT ⟨_, rfl, z, rfl, fun Dl hD => ?_⟩
          refine lc_data (b := none) (R := fun _ _ => True) (G := G) walk_str (z.cps.toList.map fun c => .bool (letter c)) (by simp) (by show z.length < 100000; omega) hD sG (fun q => by cases q) trivial (fun _ _ _ _ => trivial) (fun _ _ _ _ _ => trivial) ?_ ?_
          · intro i x H1 G1 H2 d hd X1 _ ⟨e, c, hc, ex⟩ Qy hq
            subst e ex
            have ed : d = .bool (letter c) := by
              rw [List.getElem?_map, Array.getElem?_toList, hc] at hd
              exact (Option.some.inj hd).symm
            subst ed
            exact ⟨rfl, _, rfl, c, LET, rfl, rfl, hq _ _ _ (Xt.refl X1.sub) trivial (.bl _)⟩
          · intro H1 G1 xs X1 _ hl hg da
            have e := DA.bools (ns := z.cps.toList.map letter) (by rw [List.map_map]; exact da)
            refine ⟨Dl, _, rfl, SqL.of (by rw [hl, e]), ?_⟩
            have X2 : Xt none H G H1 G := ⟨X1.sub0, fun _ _ h => h, fun a o h => X1.sub a o (X1.gg a o h), X1.hh, X1.th, fun a o h => .inl h⟩
            have q := k H1 X2
            have e2 : isWord (.str z) = (z.cps.toList.map letter).all id := by
              show (decide (1 ≤ z.length) && decide (z.length ≤ 8) && z.cps.toList.all letter) = _
              rw [decide_eq_true c1, decide_eq_true c2, List.all_map]
              rfl
            rw [e2] at q
            exact q
        · rw [decide_eq_false (by omega : ¬ (z.length : Int) ≤ 8)]
          refine iteF ?_
          have e2 : isWord (.str z) = false := by
            show (decide (1 ≤ z.length) && decide (z.length ≤ 8) && z.cps.toList.all letter) = _
            rw [decide_eq_false c2]; simp
          rw [e2] at k0
          exact k0
      · rw [decide_eq_false (by omega : ¬ (1 : Int) ≤ (z.length : Int))]
        refine iteF ⟨_, rfl, iteF ?_⟩
        have e2 : isWord (.str z) = false := by
          show (decide (1 ≤ z.length) && decide (z.length ≤ 8) && z.cps.toList.all letter) = _
          rw [decide_eq_false c1]; simp
        rw [e2] at k0
        exact k0
theorem isColumn {f : Addr} {fd : FuncData} (F : C8.Def K mg "is_column" s_is_column f fd) (b : Binds K fd P_is_column []) (T : Names K mg) (c_is_word : C8.Cal P w K mg base 1 "is_word" spWord []) (c_is_integer : C8.Cal P w K mg base 1 "is_integer" spIsInt []) (c_is_tuple_of : C8.Cal P w K mg base 1 "is_tuple_of" spTupOf []) : C8.Cal P w K mg base 2 "is_column" spCol [] := by
  refine C8.cal0 (N := N_is_column) F b .nil sc_is_column (fun vs H Q E h => ?_) (fun cdv A outer s H vs Q E hr h => ?_)
  · obtain ⟨v, d, G, rfl, _⟩ := h
    rfl
  · obtain ⟨v, d, G, rfl, hd, hsh, sG, k⟩ := h
    obtain ⟨ra, ru, rs⟩ := T.g_RESERVED
    have T_ := T
    have g_RESERVED := ru
    refine ⟨_, (pss_cons (ps_if (pt_not (pt_val (C8.pe_c c_is_tuple_of hr (by decide) rfl (pa_cons (pv 0) (pa_cons pe_int pa_nil))))) (pss_one (ps_ret pe_bl)) pss_nil)
 (pss_cons (ps_asg (pv 0) (pg_tup rfl (pgs_cons (pg_name (i := 1) sc_is_column.nd rfl (Or.inl rfl)) (pgs_cons (pg_name (i := 2) sc_is_column.nd rfl (Or.inl rfl)) pgs_nil))))
 (pss_one (ps_ret (pe_and (C8.pe_c c_is_word hr (by decide) rfl (pa_cons (pv 1) pa_nil)) (pe_and (pe_cmpR op_notIn_seq (pv 1) (C8.pe_gc rfl g_RESERVED) (by rfl)) (pe_and (C8.pe_c c_is_integer hr (by decide) rfl (pa_cons (pv 2) pa_nil)) (pe_one (pe_chain op_le op_le pe_int (pv 2) pe_int))))))))), ?_⟩
    have k0 := k H (Xt.refl sG)
    refine ⟨_, rfl, v, 2, d, G, rfl, hd, sG, _, rfl, ?_⟩
    cases hd with
    | non => exact k0
    | bl q => exact k0
    | int i => exact k0
    | str z => exact k0
    | lst h da => exact k0
    | @tup a xs ds h da =>
      have hT := sG _ _ h
      by_cases c2 : ds.length = 2
      · have e2 : tupLen (.tuple ds) 2 = true := by
          show decide _ = true
          rw [c2]; rfl
        rw [e2]
        refine iteF ?_
        match ds, xs, da, c2 with
        | [d1, d2], [x1, x2], .cons h1 (.cons h2 .nil), _ =>
          refine ⟨_, rfl, a, _, rfl, SqT.of hT, rfl, _, _, rfl, _, _, rfl, rfl, ?_⟩
          have short : ∀ z, x1 = .str z → z.length ≤ 10000 := fun z e => by
            subst e; cases h1; exact hsh
          refine ⟨_, rfl, x1, G, rfl, h1.plain sG, sG, short, fun H1 X1 => ⟨_, rfl, ?_⟩⟩
          have k1 := k H1 X1
          cases hw : isWord x1 with
          | false =>
            refine iteF ?_
            have e3 : isCol (.tuple [d1, d2]) = false := by
              cases h1 with
              | str z =>
                have : isWordS z = false := hw
                cases d2 <;> simp [isCol, this]
              | _ => rfl
            rw [e3] at k1
            exact k1
          | true =>
            cases h1 with
            | str z =>
              have hw' : isWordS z = true := hw
              refine iteT ⟨_, rfl, ra, _, rfl, .inr (rs H1), rfl, (by decide +kernel), _, rfl, ?_⟩
              rw [inV_strs]
              by_cases hr : z ∈ RES
              · rw [decide_eq_true hr]
                refine iteF ?_
                have e3 : isCol (.tuple [.str z, d2]) = false := by cases d2 <;> simp [isCol, hr]
                rw [e3] at k1
                exact k1
              · rw [decide_eq_false hr]
                refine iteT ⟨_, rfl, x2, rfl, (h2.plain X1.sub), _, rfl, ?_⟩
                cases h2 with
                | int i =>
                  refine iteT ⟨_, rfl, _, _, rfl, rfl, _, rfl, ?_⟩
                  have e3 : isCol (.tuple [.str z, .int i]) = (decide (1 ≤ i) && decide (i ≤ 3)) := by simp [isCol, hw', hr]
                  rw [e3] at k1
                  refine ite2 (fun c3 => ?_) (fun c3 => ?_)
                  · rw [decide_eq_true (of_decide_eq_true c3)] at k1
                    exact ⟨_, _, rfl, rfl, k1⟩
                  · rw [decide_eq_false (fun q => c3 (decide_eq_true q))] at k1
                    exact k1
                | _ =>
                  refine iteF ?_
                  exact k1
            | non => cases hw
            | bl q => cases hw
            | int i => cases hw
            | lst _ _ => cases hw
            | tup _ _ => cases hw
      · have e2 : tupLen (.tuple ds) 2 = false := decide_eq_false (fun q => c2 (by omega))
        rw [e2]
        refine iteT ?_
        have e3 : isCol (.tuple ds) = false := by
          match ds, c2 with
          | [], _ => rfl
          | [.str _], _ => rfl
          | [.none], _ => rfl
          | [.bool _], _ => rfl
          | [.int _], _ => rfl
          | [.list _], _ => rfl
          | [.tuple _], _ => rfl
          | [.dict _], _ => rfl
          | _ :: _ :: _ :: _, _ => simp [isCol]
          | [_, _], c2 => exact absurd rfl c2
        rw [e3] at k0
        exact k0
end
end Nw
namespace Nw
open PySem L2 PySem.Spec PyProof.Rows RZ
theorem isCol_good {c : Col} (h : c.1 ∈ n11) (h1 : 1 ≤ c.2 ∧ c.2 ≤ 3) : isCol (dCol c) = true ∧ shortD (dCol c) := by
  obtain ⟨w1, w2, w3⟩ := n11_word c.1 h
  refine ⟨?_, w3⟩
  show (isWordS c.1 && !decide (c.1 ∈ RES) && decide (1 ≤ c.2) && decide (c.2 ≤ 3)) = true
  rw [w1, decide_eq_false w2, decide_eq_true h1.1, decide_eq_true h1.2]
  rfl
theorem col_inv {G : Hp} {y : V} {c : Col} (h : D G y (dCol c)) : ∃ t, y = .ref t ∧ G t = some (.tup [.str c.1, .int c.2]) := by
  obtain ⟨t, ws, rfl, ht, da⟩ := h.tup_inv
  cases da with
  | cons h1 da =>
    cases da with
    | cons h2 da =>
      cases da
      cases h1
      cases h2
      exact ⟨t, rfl, ht⟩
theorem cols_at {G : Hp} {xs : List V} {cols : List Col} {i : Nat} {y : V} (da : DA G xs (dCols cols)) (h : xs[i]? = some y) : ∃ c t, cols[i]? = some c ∧ y = .ref t ∧ G t = some (.tup [.str c.1, .int c.2]) := by
  obtain ⟨d, h1, h2⟩ := da.get h
  rw [dCols, List.getElem?_map] at h1
  cases e : cols[i]? with
  | none => rw [e] at h1; cases h1
  | some c =>
    rw [e] at h1
    obtain rfl := Option.some.inj h1
    obtain ⟨t, h3, h4⟩ := col_inv h2
    exact ⟨c, t, rfl, h3, h4⟩
theorem flat_strs (l : List Str) : (l.map V.str).all flatV = true := by
  rw [List.all_map]
  exact List.all_eq_true.mpr fun _ _ => rfl
/-- G alone goes back to a smaller part -/
theorem Xt.back {b : Option Addr} {H G H1 G1 : Hp} (x : Xt b H G H1 G1) : Xt b H G H1 G := ⟨x.sub0, fun _ _ h => h, fun a o h => x.sub a o (x.gg a o h), x.hh, x.th, fun a o h => .inl h⟩
theorem nodup_new {α : Type} : ∀ {l : List α} {i : Nat} {x : α}, l.Nodup → l[i]? = some x → x ∉ l.take i
  | [], i, x, _, e => by simp at e
  | a :: l, 0, x, _, _ => by simp
  | a :: l, i + 1, x, h, e => by
    have h2 := List.nodup_cons.mp h
    have e2 : l[i]? = some x := by simpa using e
    have ih := nodup_new h2.2 e2
    intro q
    rw [List.take_succ_cons] at q
    rcases List.mem_cons.mp q with q | q
    · subst q; exact h2.1 (List.mem_of_getElem? e2)
    · exact ih q
end Nw
/-! Lists of entries: the first wrong one. -/
namespace Nw
open PySem L2 PySem.Spec PyProof.Rows RZ
def nameOf : PyData → Str
  | .tuple [.str n, .int _] => n
  | _ => ""
theorem isCol_inv {d : PyData} (h : isCol d = true) : ∃ c : Col, d = dCol c := by
  unfold isCol at h
  split at h
  · rename_i n t
    exact ⟨(n, t), rfl⟩
  · cases h
/-- the first wrong one, i of them are right, with these names -/
def badFrom (seen : List Str) (i : Nat) : List PyData → Option Int
  | [] => none
  | d :: r => if isCol d = true ∧ nameOf d ∉ seen then badFrom (seen ++ [nameOf d]) (i + 1) r else some ((i : Nat) : Int)
def wrongAt (ds : List PyData) : Option Int := if 1 ≤ ds.length ∧ ds.length ≤ 3 then badFrom [] 0 ds else some (-1)
theorem badFrom_ok {seen : List Str} {i : Nat} {d : PyData} {r : List PyData} (h : isCol d = true) (n : nameOf d ∉ seen) : badFrom seen i (d :: r) = badFrom (seen ++ [nameOf d]) (i + 1) r := if_pos ⟨h, n⟩
theorem badFrom_col {seen : List Str} {i : Nat} {d : PyData} {r : List PyData} (h : isCol d = false) : badFrom seen i (d :: r) = some ((i : Nat) : Int) := if_neg fun q => by rw [h] at q; cases q.1
theorem badFrom_name {seen : List Str} {i : Nat} {d : PyData} {r : List PyData} (n : nameOf d ∈ seen) : badFrom seen i (d :: r) = some ((i : Nat) : Int) := if_neg fun q => q.2 n
theorem drop_cons {α : Type} : ∀ {l : List α} {i : Nat} {x : α}, l[i]? = some x → l.drop i = x :: l.drop (i + 1)
  | [], i, x, h => by simp at h
  | a :: l, 0, x, h => by
    have : a = x := by simpa using h
    subst this; rfl
  | a :: l, i + 1, x, h => by
    have := drop_cons (l := l) (i := i) (x := x) (by simpa using h)
    simpa using this
/-! ### errors -/
def spCopied : Sp := fun vs H Q _ => ∃ i : Int, vs = [.int i] ∧ Q (.int i) H
/-- an error's own making: at -/
def spErr (C : Addr) : Sp := fun vs H Q _ => ∃ (x : Addr) (i : Int), vs = [.ref x, .int i] ∧ H x = some (exo x C none) ∧ ∀ dx, H dx = none → dx ≠ x → Q .non (upd (upd H dx (exd dx [("at", .int i)])) x (exo x C (some dx)))
theorem err_heap {H : Hp} {e d : Addr} {o1 o2 o3 o4 : HO} (he : H e = none) (ne : d ≠ e) : upd (del (upd (upd (upd H e o1) d o2) e o3) e) d o4 = upd H d o4 := by
  funext b
  by_cases q : b = d
  · subst q; rw [upd_same, upd_same]
  · rw [upd_ne q, upd_ne q]
    by_cases q2 : b = e
    · subst q2; rw [del_same, he]
    · rw [del_ne q2, upd_ne q2, upd_ne q, upd_ne q2]
/-- what the handler finds: the heap as it was, and the error's own dict -/
def xdAt (i : Int) : HO := .xd [(("at" : Str), .int i)]
def spInitX (C CE : Addr) : Sp := fun vs H Q E => ∃ (x dx a : Addr) (ds : List PyData) (H0 G : Hp), vs = [.ref x, .ref a] ∧ H0 x = none ∧ H0 dx = none ∧ dx ≠ x ∧ H = upd (upd H0 dx (.own x)) x (.ins C dx []) ∧
  D G (.ref a) (.list ds) ∧ ds.length ≤ 100 ∧ (∀ d ∈ ds, shortD d) ∧ Same G H0 ∧
  (wrongAt ds = none → ∀ H' G', Xt none H0 G H' G' → Q .non H') ∧ (∀ i, wrongAt ds = some i → ∀ H' G' d, Xt none H0 G H' G' → H' d = none → E (.ref CE) (some d) (upd H' d (xdAt i)))
end Nw
namespace Nw
open PySem L2 PySem.Spec PyProof.Rows RZ
def spAllValues (C : Addr) : Sp := fun vs H Q _ => ∃ (x : Addr) (cols : List Col) (G : Hp), vs = [.ref x] ∧ TabAt C G x cols ∧ Good n11 cols ∧ Same G H ∧ OwnL H G (dRows (allV (cols.map (·.2)))) Q
def spLenT (C : Addr) : Sp := fun vs H Q _ => ∃ (x : Addr) (cols : List Col) (G : Hp), vs = [.ref x] ∧ TabAt C G x cols ∧ Same G H ∧ Q (.int ((cols.length : Nat) : Int)) H
/-- is it values of these tops -/
def isIn : List Int → List PyData → Bool
  | [], [] => true
  | t :: ts, .int v :: vs => decide (0 ≤ v) && decide (v ≤ t) && isIn ts vs
  | _, _ => false
def inTab (tops : List Int) : PyData → Bool
  | .tuple vs => isIn tops vs
  | _ => false
def spIn (C : Addr) : Sp := fun vs H Q _ => ∃ (x : Addr) (cols : List Col) (v : V) (d : PyData) (G : Hp), vs = [.ref x, v] ∧ TabAt C G x cols ∧ Good n11 cols ∧ D G v d ∧ Same G H ∧ ∀ H', Xt none H G H' G → Q (.bl (inTab (cols.map (·.2)) d)) H'
/-- == of tables: another thing, or a table -/
inductive Other (C : Addr) (G : Hp) : V → Option (List Col) → Prop
  | data {v : V} {d : PyData} : D G v d → Other C G v none
  | tab {y : Addr} {cols : List Col} : TabAt C G y cols → Good n11 cols → Other C G (.ref y) (some cols)
def spEq_ (C : Addr) : Sp := fun vs H Q _ => ∃ (x : Addr) (cols : List Col) (v : V) (o : Option (List Col)) (G : Hp), vs = [.ref x, v] ∧ TabAt C G x cols ∧ Good n11 cols ∧ Other C G v o ∧ Same G H ∧ Q (.bl (decide (o = some cols))) H
/-- the text of a table -/
def colText (c : Col) : Str := Str.empty ++ c.1 ++ "=" ++ toString c.2
def tabText (cols : List Col) : Str := Str.empty ++ "Table(" ++ Txt.join ", " (cols.map colText) ++ ")"
def spRepr (C : Addr) : Sp := fun vs H Q _ => ∃ (x : Addr) (cols : List Col) (G : Hp), vs = [.ref x] ∧ TabAt C G x cols ∧ Good n11 cols ∧ Same G H ∧ ∀ H', Xt none H G H' G → Q (.str (tabText cols)) H'
theorem stepV_len {found : List (List Int)} {t : Int} (h : 1 ≤ t ∧ t ≤ 3) : (stepV found t).length ≤ 4 * found.length := by
  unfold stepV
  induction found with
  | nil => simp
  | cons a l ih =>
    rw [List.map_cons, List.flatten_cons, List.length_append, List.length_map, List.length_range, List.length_cons]
    omega
theorem allV_len : ∀ {tops : List Int} {found : List (List Int)}, (∀ t ∈ tops, 1 ≤ t ∧ t ≤ 3) → (tops.foldl stepV found).length ≤ 4 ^ tops.length * found.length
  | [], found, _ => by simp
  | t :: ts, found, h => by
    have ih := allV_len (tops := ts) (found := stepV found t) fun x hx => h x (List.mem_cons_of_mem _ hx)
    have h1 := stepV_len (found := found) (h t List.mem_cons_self)
    rw [List.foldl_cons, List.length_cons]
    calc _ ≤ 4 ^ ts.length * (stepV found t).length := ih
      _ ≤ 4 ^ ts.length * (4 * found.length) := Nat.mul_le_mul_left _ h1
      _ = 4 ^ (ts.length + 1) * found.length := by rw [Nat.pow_succ, Nat.mul_assoc]
theorem allV_small {tops : List Int} {i : Nat} (hl : tops.length ≤ 3) (h : ∀ t ∈ tops, 1 ≤ t ∧ t ≤ 3) : (allV (tops.take i)).length ≤ 64 := by
  have := allV_len (tops := tops.take i) (found := [[]]) fun t ht => h t (List.mem_of_mem_take ht)
  have l : (tops.take i).length ≤ 3 := by rw [List.length_take]; omega
  have p : 4 ^ (tops.take i).length ≤ 4 ^ 3 := Nat.pow_le_pow_right (by decide) l
  unfold allV
  simp at this
  have e : (4 : Nat) ^ 3 = 64 := by decide
  simp at p
  omega
theorem allV_succ {tops : List Int} {i : Nat} {t : Int} (h : tops[i]? = some t) : allV (tops.take (i + 1)) = stepV (allV (tops.take i)) t := by
  unfold allV
  rw [take_succ_of h, List.foldl_append]
  rfl
theorem D.row {G : Hp} {v : V} {r : List Int} (h : D G v (dRow r)) : ∃ t, v = .ref t ∧ G t = some (.tup (r.map V.int)) := by
  obtain ⟨t, ws, rfl, ht, da⟩ := h.tup_inv
  exact ⟨t, rfl, by rw [ht, da.ints]⟩
theorem D.ofRow {G : Hp} {t : Addr} {r : List Int} (h : G t = some (.tup (r.map V.int))) : D G (.ref t) (dRow r) := .tup h (DA.ofInts r)
theorem rows_at {G : Hp} {xs : List V} {rs : List (List Int)} {i : Nat} {y : V} (da : DA G xs (dRows rs)) (h : xs[i]? = some y) : ∃ r t, rs[i]? = some r ∧ y = .ref t ∧ G t = some (.tup (r.map V.int)) := by
  obtain ⟨d, h1, h2⟩ := da.get h
  rw [dRows, List.getElem?_map] at h1
  cases e : rs[i]? with
  | none => rw [e] at h1; cases h1
  | some r =>
    rw [e] at h1
    obtain rfl := Option.some.inj h1
    obtain ⟨t, h3, h4⟩ := h2.row
    exact ⟨r, t, rfl, h3, h4⟩
theorem dRows_step (found : List (List Int)) (t : Int) : (found.map fun row => ((List.range (t + 1).toNat).map fun v => dRow (row ++ [((v : Nat) : Int)]))).flatten = dRows (stepV found t) := by
  unfold dRows stepV
  rw [List.map_flatten, List.map_map]
  congr 1
  refine List.map_congr_left fun r _ => ?_
  show _ = List.map dRow _
  rw [List.map_map]
  rfl
theorem stepV_mem {found : List (List Int)} {t : Int} {r : List Int} (h : r ∈ stepV found t) : ∃ q v, q ∈ found ∧ r = q ++ [v] ∧ 0 ≤ v ∧ v ≤ t := by
  unfold stepV at h
  obtain ⟨l, hl, hr⟩ := List.mem_flatten.mp h
  obtain ⟨q, hq, rfl⟩ := List.mem_map.mp hl
  obtain ⟨v, hv, rfl⟩ := List.mem_map.mp hr
  have := List.mem_range.mp hv
  exact ⟨q, _, hq, rfl, by omega, by omega⟩
theorem allV_row : ∀ {tops : List Int} {found : List (List Int)} {n : Nat}, (∀ r ∈ found, r.length = n) → ∀ r ∈ tops.foldl stepV found, r.length = n + tops.length
  | [], found, n, h, r, hr => h r hr
  | t :: ts, found, n, h, r, hr => by
    have := allV_row (tops := ts) (found := stepV found t) (n := n + 1) (fun r hr => by
      obtain ⟨q, v, hq, rfl, _⟩ := stepV_mem hr
      rw [List.length_append, h q hq]; rfl) r hr
    rw [this, List.length_cons]; omega
def isOne : Int → PyData → Bool
  | t, .int v => decide (0 ≤ v) && decide (v ≤ t)
  | _, _ => false
theorem isIn_zip : ∀ (ts : List Int) (ds : List PyData), ts.length = ds.length → (List.zipWith isOne ts ds).all id = isIn ts ds
  | [], [], _ => rfl
  | [], _ :: _, h => by cases h
  | _ :: _, [], h => by cases h
  | t :: ts, d :: ds, h => by
    have ih := isIn_zip ts ds (by simpa using h)
    rw [List.zipWith_cons_cons, List.all_cons, ih]
    cases d <;> simp [isIn, isOne]
/-! ### == of data -/
theorem layAll_map {α : Type} (f : α → PyData) (n : Nat) : ∀ (l : List α), (∀ a ∈ l, (f a).canLay0 = true ∧ (f a).depth ≤ n) → PyData.canLayAll0 (l.map f) = true ∧ PyData.depthAll (l.map f) ≤ n
  | [], _ => ⟨rfl, Nat.zero_le _⟩
  | a :: l, h => by
    have ih := layAll_map f n l fun x hx => h x (List.mem_cons_of_mem _ hx)
    have h1 := h a List.mem_cons_self
    rw [List.map_cons]
    refine ⟨?_, ?_⟩
    · show ((f a).canLay0 && PyData.canLayAll0 (l.map f)) = true
      rw [h1.1, ih.1]; rfl
    · show max (f a).depth (PyData.depthAll (l.map f)) ≤ n
      exact Nat.max_le.mpr ⟨h1.2, ih.2⟩
theorem shaped_tup {ds : List PyData} (h : PyData.canLayAll0 ds = true ∧ PyData.depthAll ds ≤ 63) : SeqAt.shaped (.tuple ds) = true := by
  show ((PyData.tuple ds).canLay0 && decide ((PyData.tuple ds).depth ≤ 64)) = true
  have h1 : (PyData.tuple ds).canLay0 = true := h.1
  have h2 : (PyData.tuple ds).depth ≤ 64 := by show PyData.depthAll ds + 1 ≤ 64; omega
  rw [h1, decide_eq_true h2]; rfl
theorem shaped_lst {ds : List PyData} (h : PyData.canLayAll0 ds = true ∧ PyData.depthAll ds ≤ 63) : SeqAt.shaped (.list ds) = true := by
  show ((PyData.list ds).canLay0 && decide ((PyData.list ds).depth ≤ 64)) = true
  have h1 : (PyData.list ds).canLay0 = true := h.1
  have h2 : (PyData.list ds).depth ≤ 64 := by show PyData.depthAll ds + 1 ≤ 64; omega
  rw [h1, decide_eq_true h2]; rfl
theorem eqvAll_map {α : Type} [DecidableEq α] (f : α → PyData) (hf : ∀ a b, PyData.eqv (f a) (f b) = decide (a = b)) : ∀ (l m : List α), PyData.eqvAll (l.map f) (m.map f) = decide (l = m)
  | [], [] => by simp [PyData.eqvAll]
  | [], b :: m => by simp [PyData.eqvAll]
  | a :: l, [] => by simp [PyData.eqvAll]
  | a :: l, b :: m => by
    rw [List.map_cons, List.map_cons]
    show (PyData.eqv (f a) (f b) && PyData.eqvAll (l.map f) (m.map f)) = _
    rw [hf, eqvAll_map f hf l m]
    by_cases h1 : a = b
    · by_cases h2 : l = m
      · simp [h1, h2]
      · simp [h1, h2]
    · simp [h1]
theorem eqv_strs (l m : List Str) : PyData.eqv (.tuple (l.map .str)) (.tuple (m.map .str)) = decide (l = m) := by
  refine eqvAll_map PyData.str (fun a b => ?_) l m
  show (a == b) = decide (a = b)
  by_cases h : a = b
  · subst h; simp
  · rw [decide_eq_false h]; simpa using h
theorem eqv_ints_ (l m : List Int) : PyData.eqvAll (l.map .int) (m.map .int) = decide (l = m) := by
  refine eqvAll_map PyData.int (fun a b => ?_) l m
  show (a == b) = decide (a = b)
  by_cases h : a = b
  · subst h; simp
  · rw [decide_eq_false h]; simpa using h
theorem eqv_ints (l m : List Int) : PyData.eqv (.tuple (l.map .int)) (.tuple (m.map .int)) = decide (l = m) := eqv_ints_ l m
theorem eqv_rows (l m : List (List Int)) : PyData.eqv (.list (dRows l)) (.list (dRows m)) = decide (l = m) := eqvAll_map dRow (fun a b => eqv_ints a b) l m
theorem n11_ok : ∀ n ∈ n11, (PyData.str n).canLay0 = true := by decide +kernel
theorem sh_names {cols : List Col} (h : ∀ c ∈ cols, c.1 ∈ n11) : SeqAt.shaped (.tuple ((cols.map (·.1)).map .str)) = true :=
  shaped_tup (layAll_map _ 63 _ fun a ha => by
    obtain ⟨c, hc, rfl⟩ := List.mem_map.mp ha
    exact ⟨n11_ok _ (h c hc), Nat.zero_le _⟩)
theorem sh_ints (l : List Int) : SeqAt.shaped (.tuple (l.map .int)) = true := shaped_tup (layAll_map _ 63 _ fun a _ => ⟨rfl, Nat.zero_le _⟩)
theorem sh_rows (l : List (List Int)) : SeqAt.shaped (.list (dRows l)) = true := shaped_lst (layAll_map _ 63 _ fun r _ => by
  have h := layAll_map PyData.int 0 r fun a _ => ⟨rfl, Nat.zero_le _⟩
  refine ⟨h.1, ?_⟩
  show PyData.depthAll (r.map .int) + 1 ≤ 63
  omega)
theorem cols_ext : ∀ {l m : List Col}, l.map (·.1) = m.map (·.1) → l.map (·.2) = m.map (·.2) → l = m
  | [], [], _, _ => rfl
  | [], _ :: _, h, _ => by cases h
  | _ :: _, [], h, _ => by cases h
  | (a, b) :: l, (c, d) :: m, h1, h2 => by
    simp only [List.map_cons, List.cons.injEq] at h1 h2
    rw [h1.1, h2.1, cols_ext h1.2 h2.2]
/-! ### texts -/
theorem tops3 {t : Int} (h : 1 ≤ t ∧ t ≤ 3) : t = 1 ∨ t = 2 ∨ t = 3 := by omega
theorem colText_len : ∀ n ∈ n11, ∀ t ∈ ([1, 2, 3] : List Int), (Str.empty ++ n).length ≤ 10 ∧ (Str.empty ++ n ++ "=").length ≤ 10 ∧ (colText (n, t)).length ≤ 10 ∧ ((toString t : String) : Str).length ≤ 10 ∧ t.natAbs.log2 < 1920 ∧ n.length ≤ 10 := by decide +kernel
theorem colText_ok {c : Col} (h : c.1 ∈ n11) (ht : 1 ≤ c.2 ∧ c.2 ≤ 3) : (Str.empty ++ c.1).length ≤ 10 ∧ (Str.empty ++ c.1 ++ "=").length ≤ 10 ∧ (colText c).length ≤ 10 ∧ ((toString c.2 : String) : Str).length ≤ 10 ∧ c.2.natAbs.log2 < 1920 ∧ c.1.length ≤ 10 :=
  colText_len c.1 h c.2 (by rcases tops3 ht with e | e | e <;> rw [e] <;> decide)
theorem piled_le (n : Nat) : ∀ (l : List Str), (∀ y ∈ l, y.length ≤ n) → piled l ≤ (n + 2) * l.length
  | [], _ => Nat.zero_le _
  | y :: l, h => by
    have ih := piled_le n l fun z hz => h z (List.mem_cons_of_mem _ hz)
    have h1 := h y List.mem_cons_self
    rw [piled_cons, List.length_cons, Nat.mul_succ]
    omega
theorem sum_le (n : Nat) : ∀ (l : List Str), (∀ y ∈ l, y.length ≤ n) → (l.map (·.length)).sum ≤ n * l.length
  | [], _ => Nat.zero_le _
  | y :: l, h => by
    have ih := sum_le n l fun z hz => h z (List.mem_cons_of_mem _ hz)
    have h1 := h y List.mem_cons_self
    rw [List.map_cons, List.sum_cons, List.length_cons, Nat.mul_succ]
    omega
theorem join_small {l : List Str} (h : ∀ y ∈ l, y.length ≤ 10) (hl : l.length ≤ 3) : (Txt.join ", " l).length ≤ 40 := by
  rw [TL.join_eq]
  by_cases e : l = []
  · subst e; decide +kernel
  · have := join_length_add l e
    have := piled_le 10 l h
    omega
end Nw
namespace Nw
open PySem L2 PySem.Spec PyProof.Rows RZ
/-- _law_odd: data none of which are values of the tops -/
def spOdd : Sp := fun vs H Q _ => ∃ (v : V) (tx : Addr) (tops r : List Int) (i : Nat) (G : Hp), vs = [v, .ref tx, .int ((i : Nat) : Int)] ∧ D G v (.tuple (r.map .int)) ∧ G tx = some (.tup (tops.map V.int)) ∧ r.length = tops.length ∧ i < tops.length ∧ tops.length ≤ 3 ∧ (∀ t ∈ tops, t ≤ 3) ∧ Same G H ∧
  ∀ (p : Addr) (xs : List V) (ds : List PyData) (H' G' : Hp), Xt none H G H' G' → G' p = some (.lst xs) → DA G' xs ds → ds.length ≤ 100 → (∀ d ∈ ds, inTab tops d = false) → Q (.ref p) H'
theorem isIn_len : ∀ (ts : List Int) (ds : List PyData), ts.length ≠ ds.length → isIn ts ds = false
  | [], [], hn => absurd rfl hn
  | [], _ :: _, _ => rfl
  | _ :: _, [], _ => rfl
  | t :: ts, d :: ds, hn => by
    have q := isIn_len ts ds (fun e => hn (by rw [List.length_cons, List.length_cons, e]))
    cases d <;> simp [isIn, q]
/-- no value for the top t -/
def bad (t : Int) : PyData → Bool
  | .int v => !(decide (0 ≤ v) && decide (v ≤ t))
  | _ => true
theorem isIn_bad : ∀ {ts : List Int} {ds : List PyData} {i : Nat} {t : Int} {d : PyData}, ts[i]? = some t → ds[i]? = some d → bad t d = true → isIn ts ds = false
  | [], _, i, t, d, h, _, _ => by simp at h
  | _ :: _, [], i, t, d, _, h, _ => by simp at h
  | t :: ts, d :: ds, 0, t', d', h1, h2, hb => by
    simp at h1 h2
    subst h1; subst h2
    cases d with
    | int v =>
      have hb' : (!(decide (0 ≤ v) && decide (v ≤ t))) = true := hb
      show (decide (0 ≤ v) && decide (v ≤ t) && isIn ts ds) = false
      cases hq : (decide (0 ≤ v) && decide (v ≤ t)) with
      | false => rfl
      | true => rw [hq] at hb'; cases hb'
    | _ => rfl
  | t :: ts, d :: ds, i + 1, t', d', h1, h2, hb => by
    have q := isIn_bad (ts := ts) (ds := ds) (i := i) (by simpa using h1) (by simpa using h2) hb
    cases d <;> simp [isIn, q]
theorem cutD_take (ds : List PyData) (i : Nat) : cutD ds none (some ((i : Nat) : Int)) = ds.take i := by
  unfold cutD
  rw [HT.sIx_none, HT.sIx_nat, List.drop_zero, Nat.sub_zero]
  by_cases h : i ≤ ds.length
  · rw [Nat.min_eq_left h]
  · rw [Nat.min_eq_right (by omega), List.take_length, List.take_of_length_le (by omega)]
theorem cutD_drop (ds : List PyData) (i : Nat) : cutD ds (some ((i : Nat) : Int)) none = ds.drop i := by
  unfold cutD
  rw [HT.sIx_none, HT.sIx_nat]
  by_cases h : i ≤ ds.length
  · rw [Nat.min_eq_left h, List.take_of_length_le (by rw [List.length_drop]; omega)]
  · rw [Nat.min_eq_right (by omega), List.drop_of_length_le (Nat.le_refl _), List.drop_of_length_le (by omega), List.take_nil]
theorem cutD_init (ds : List PyData) : (cutD ds none (some (-1))).length = ds.length - 1 := by
  unfold cutD
  rw [HT.sIx_none, List.drop_zero, Nat.sub_zero, List.length_take]
  show min ((-1 : Int) + (ds.length : Int)).toNat ds.length = _
  omega
theorem put_at {ds : List PyData} {d : PyData} {i : Nat} (h : i < ds.length) : (ds.take i ++ [d] ++ ds.drop (i + 1))[i]? = some d := by
  rw [List.append_assoc, List.getElem?_append_right (by rw [List.length_take]; omega), List.length_take, Nat.min_eq_left (by omega), Nat.sub_self]
  rfl
/-! ### other columns -/
def dL (o : List Col) : PyData := .list (dCols o)
def spOthers : Sp := fun vs H Q _ => ∃ (b a : Addr) (c : Int) (cols : List Col) (G : Hp), vs = [.ref b, .ref a] ∧ D G (.ref a) (dL cols) ∧ Good n10 cols ∧ Bag H b c ∧ c ≤ 100000 ∧ G b = none ∧ Same G H ∧
  ∀ (p : Addr) (xs : List V) (oths : List (List Col)) (H' G' : Hp), Xt (some b) H G H' G' → Bag H' b (c + 1) → G' p = some (.lst xs) → DA G' xs (oths.map dL) → oths.length ≤ 100 → (∀ o ∈ oths, Good n11 o ∧ o ≠ cols) → Q (.ref p) H'
theorem nodup_set {α : Type} : ∀ {l : List α} {i : Nat} {x : α}, l.Nodup → x ∉ l → (l.set i x).Nodup
  | [], _, _, _, _ => by simp
  | a :: l, 0, x, h, hx => by
    rw [List.set_cons_zero]
    exact List.nodup_cons.mpr ⟨fun q => hx (List.mem_cons_of_mem _ q), (List.nodup_cons.mp h).2⟩
  | a :: l, i + 1, x, h, hx => by
    rw [List.set_cons_succ]
    have h2 := List.nodup_cons.mp h
    refine List.nodup_cons.mpr ⟨fun q => ?_, nodup_set h2.2 fun q => hx (List.mem_cons_of_mem _ q)⟩
    rcases List.mem_or_eq_of_mem_set q with q | q
    · exact h2.1 q
    · exact hx (q ▸ List.mem_cons_self)
theorem other_n10 : ("other" : Str) ∉ n10 := by decide +kernel
theorem good_names {cols : List Col} (g : Good n10 cols) : ("other" : Str) ∉ cols.map (·.1) := fun h => by
  obtain ⟨c, hc, e⟩ := List.mem_map.mp h
  exact other_n10 (e ▸ g.names c hc)
theorem good11 {cols : List Col} (g : Good n10 cols) : Good n11 cols := ⟨g.len, fun c h => n10_n11 _ (g.names c h), g.tops, g.nd⟩
theorem set_parts {cols : List Col} {i : Nat} {c' : Col} (hi : i < cols.length) : cols.take i ++ [c'] ++ cols.drop (i + 1) = cols.set i c' := by
  rw [List.set_eq_take_append_cons_drop, if_pos hi, List.append_assoc]
  rfl
theorem set_ne {cols : List Col} {i : Nat} {c c' : Col} (h : cols[i]? = some c) (hn : c' ≠ c) : cols.set i c' ≠ cols := fun e => by
  have hi := getElem?_lt h
  have q : (cols.set i c')[i]? = some c' := by rw [List.getElem?_set_self hi]
  rw [e, h] at q
  exact hn (Option.some.inj q).symm
theorem good_set {cols : List Col} {i : Nat} {c c' : Col} (g : Good n10 cols) (h : cols[i]? = some c) (h1 : c' = (("other" : Str), c.2) ∨ c' = (c.1, c.2 % 3 + 1)) : Good n11 (cols.set i c') ∧ cols.set i c' ≠ cols := by
  have hc := List.mem_of_getElem? h
  have ht := g.tops c hc
  have hi := getElem?_lt h
  have hn : c.1 ≠ "other" := fun e => other_n10 (e ▸ g.names c hc)
  refine ⟨⟨by rw [List.length_set]; exact g.len, fun d hd => ?_, fun d hd => ?_, ?_⟩, set_ne h ?_⟩
  · rcases List.mem_or_eq_of_mem_set hd with q | q
    · exact n10_n11 _ (g.names d q)
    · subst q
      rcases h1 with h1 | h1
      · rw [h1]; exact List.mem_cons_self
      · rw [h1]; exact n10_n11 _ (g.names c hc)
  · rcases List.mem_or_eq_of_mem_set hd with q | q
    · exact g.tops d q
    · subst q
      rcases h1 with h1 | h1
      · rw [h1]; exact ht
      · rw [h1]; show 1 ≤ c.2 % 3 + 1 ∧ c.2 % 3 + 1 ≤ 3; omega
  · rw [List.map_set]
    rcases h1 with h1 | h1
    · rw [h1]; exact nodup_set g.nd (good_names g)
    · rw [h1]
      have e : (cols.map (·.1)).set i c.1 = cols.map (·.1) := by
        have q : cols.set i c = cols := by
          refine List.ext_getElem? fun j => ?_
          by_cases hj : i = j
          · subst hj; rw [List.getElem?_set_self hi, h]
          · rw [List.getElem?_set_ne hj]
        rw [← List.map_set, q]
      rw [e]; exact g.nd
  · rcases h1 with h1 | h1
    · rw [h1]; exact fun e => hn (by rw [← e])
    · rw [h1]; exact fun e => by
        have q : c.2 % 3 + 1 = c.2 := congrArg (·.2) e
        omega
theorem good_more {cols : List Col} (g : Good n10 cols) (hl : cols.length < 3) : Good n11 (cols ++ [(("other" : Str), (1 : Int))]) ∧ cols ++ [(("other" : Str), (1 : Int))] ≠ cols := by
  refine ⟨⟨by rw [List.length_append, List.length_singleton]; omega, fun d hd => ?_, fun d hd => ?_, ?_⟩, fun e => ?_⟩
  · rcases List.mem_append.mp hd with q | q
    · exact n10_n11 _ (g.names d q)
    · rw [List.mem_singleton] at q; subst q; exact List.mem_cons_self
  · rcases List.mem_append.mp hd with q | q
    · exact g.tops d q
    · rw [List.mem_singleton] at q; subst q; exact ⟨by decide, by decide⟩
  · rw [List.map_append]
    refine List.nodup_append.mpr ⟨g.nd, by simp, fun x hx y hy => ?_⟩
    simp at hy
    subst hy
    exact fun e => good_names g (e ▸ hx)
  · have := congrArg List.length e
    simp at this
theorem good_rev {cols : List Col} (g : Good n10 cols) (hl : 1 < cols.length) : Good n11 cols.reverse ∧ cols.reverse ≠ cols := by
  refine ⟨⟨by rw [List.length_reverse]; exact g.len, fun d hd => n10_n11 _ (g.names d (List.mem_reverse.mp hd)), fun d hd => g.tops d (List.mem_reverse.mp hd), ?_⟩, fun e => ?_⟩
  · rw [List.map_reverse]
    exact (List.reverse_perm _).nodup_iff.mpr g.nd
  · have l3 := g.len.2
    have nd := g.nd
    match cols, hl, l3 with
    | [a, b], _, _ =>
      simp at e
      rw [e.1] at nd
      simp at nd
    | [a, b, c], _, _ =>
      simp at e
      rw [e.1] at nd
      simp at nd
    | a :: b :: c :: d :: r, _, l3 => simp at l3
theorem good_tail {cols : List Col} (g : Good n10 cols) (hl : 1 < cols.length) : Good n11 (cols.drop 1) ∧ cols.drop 1 ≠ cols := by
  refine ⟨⟨by rw [List.length_drop]; have := g.len; omega, fun d hd => n10_n11 _ (g.names d (List.mem_of_mem_drop hd)), fun d hd => g.tops d (List.mem_of_mem_drop hd), ?_⟩, fun e => ?_⟩
  · rw [List.map_drop]
    exact g.nd.sublist (List.drop_sublist _ _)
  · have := congrArg List.length e
    rw [List.length_drop] at this
    omega
theorem cxD {G : Hp} {cx : Addr} {cols : List Col} (h : G cx = some (.tup (cols.map fun c => .str c.1))) : D G (.ref cx) (.tuple ((cols.map (·.1)).map .str)) :=
  .tup h (by rw [show (cols.map fun c => V.str c.1) = (cols.map (·.1)).map V.str by rw [List.map_map]; rfl]; exact DA.ofStrs _)
theorem txD {G : Hp} {tx : Addr} {cols : List Col} (h : G tx = some (.tup (cols.map fun c => .int c.2))) : D G (.ref tx) (.tuple ((cols.map (·.2)).map .int)) :=
  .tup h (by rw [show (cols.map fun c => V.int c.2) = (cols.map (·.2)).map V.int by rw [List.map_map]; rfl]; exact DA.ofInts _)
/-- [name for name, top in columns] and the like: what the walk over a stable list of columns gives -/
theorem lc_cols {K : PySem.W.Frag} {te : TE} {vs : List Nat} {σ : L2.St} {H G : Hp} {Dl a : Addr} {Qd : Hp → Prop} {g : TG} {cs : List V} {cols : List Col} (f : Col → PyData) (ha : G a = some (.lst cs)) (da : DA G cs (dCols cols)) (hl3 : cols.length ≤ 3) (hD : H Dl = none) (s : Same G H)
    (hs : ∀ (c : Col) (t : Addr) (H1 G1 : Hp), c ∈ cols → Xt none H G H1 G1 → G1 t = some (.tup [.str c.1, .int c.2]) → ∀ Qy : VK, (∀ y H4 G4, Xt none H1 G1 H4 G4 → D G4 y (f c) → Qy y H4) → g (.ref t) (wipe σ vs) H1 fun σ2 H3 => wipe σ2 vs = wipe σ vs ∧ te σ2 H3 Qy)
    (hd : ∀ H1 G1 xs, Xt none H G H1 G1 → H1 Dl = some (.lst xs) → G1 Dl = none → DA G1 xs (cols.map f) → Qd H1) :
    ∃ W : Nat → Nat → Hp → Prop, (∃ m, W 0 m (upd H Dl (.lst []))) ∧ ∀ i m H, W i m H →
      ((Itl K a).stop i H ∧ Qd H) ∨ ((Itl K a).go i H ∧ ∃ Nx : Hp → Prop, (∀ H', Nx H' → ∃ m', m' < m ∧ W (i + 1) m' H') ∧ ∀ x H', (Itl K a).yld i H x H' → g x (wipe σ vs) H' fun σ2 H2 => wipe σ2 vs = wipe σ vs ∧ tYes σ2 H2 fun b H3 =>
        if b = true then te σ2 H3 fun y H4 => ∃ acc, H4 Dl = some (.lst acc) ∧ acc.length < sizeLine ∧ Nx (upd H4 Dl (.lst (acc ++ [y]))) else Nx H3) := by
  have hcl : cs.length = cols.length := by rw [da.length, dCols, List.length_map]
  refine lc_data (b := none) (R := fun _ _ => True) (G := G) (te := te) (walk_list (xs := cs)) (cols.map f) (by rw [List.length_map, hcl]) (by omega) hD s (fun q => by cases q) trivial (fun _ _ _ _ => trivial) (fun i H4 G4 X4 _ => SqL.of (X4.sub _ _ (X4.gg _ _ ha))) ?_ (fun H1 G1 xs X _ => hd H1 G1 xs X)
  rintro i y H1 G1 H2 d hd X1 _ ⟨rfl, hy⟩ Qy hq
  obtain ⟨c, t, hc, rfl, ht⟩ := cols_at (da.mono X1.gg) hy
  rw [List.getElem?_map, hc] at hd
  obtain rfl := Option.some.inj hd
  exact hs c t _ G1 (List.mem_of_getElem? hc) X1 ht Qy fun y H4 G4 X4 d4 => hq y H4 G4 X4 trivial d4
theorem isIn_snoc : ∀ {ts : List Int} {ds : List PyData} {t v : Int}, isIn ts ds = true → 0 ≤ v → v ≤ t → isIn (ts ++ [t]) (ds ++ [.int v]) = true
  | [], [], t, v, _, h0, h1 => by
    show (decide (0 ≤ v) && decide (v ≤ t) && isIn [] []) = true
    rw [decide_eq_true h0, decide_eq_true h1]; rfl
  | [], _ :: _, _, _, h, _, _ => by cases h
  | _ :: _, [], _, _, h, _, _ => by cases h
  | a :: ts, d :: ds, t, v, h, h0, h1 => by
    cases d with
    | int w =>
      have h' : (decide (0 ≤ w) && decide (w ≤ a) && isIn ts ds) = true := h
      rw [Bool.and_eq_true] at h'
      show (decide (0 ≤ w) && decide (w ≤ a) && isIn (ts ++ [t]) (ds ++ [.int v])) = true
      rw [h'.1, isIn_snoc h'.2 h0 h1]; rfl
    | _ => cases h
theorem allV_in_ : ∀ {tops t0 : List Int} {found : List (List Int)}, (∀ r ∈ found, isIn t0 (r.map .int) = true) → ∀ r ∈ tops.foldl stepV found, isIn (t0 ++ tops) (r.map .int) = true
  | [], t0, found, h, r, hr => by rw [List.append_nil]; exact h r hr
  | t :: ts, t0, found, h, r, hr => by
    have := allV_in_ (tops := ts) (t0 := t0 ++ [t]) (found := stepV found t) (fun r hr => by
      obtain ⟨q, v, hq, rfl, h0, h1⟩ := stepV_mem hr
      rw [List.map_append]
      exact isIn_snoc (h q hq) h0 h1) r hr
    rw [List.append_assoc] at this
    exact this
theorem allV_in {tops : List Int} {r : List Int} (h : r ∈ allV tops) : inTab tops (dRow r) = true := by
  have := allV_in_ (tops := tops) (t0 := []) (found := [[]]) (fun r hr => by simp at hr; subst hr; rfl) r h
  exact this
theorem n11_empty : ∀ n ∈ n11, Str.empty ++ n = n := by decide +kernel
theorem tab_empty : Str.empty ++ ("Table(" : Str) = "Table(" := by decide +kernel
theorem law_text {cols : List Col} (h : ∀ c ∈ cols, c.1 ∈ n11) : tabText cols = ("Table(" : Str) ++ Txt.join ", " (cols.map fun c => c.1 ++ "=" ++ ((toString c.2 : String) : Str)) ++ ")" := by
  have e : cols.map colText = cols.map fun c => c.1 ++ "=" ++ ((toString c.2 : String) : Str) :=
    List.map_congr_left fun c hc => by
      show Str.empty ++ c.1 ++ "=" ++ _ = _
      rw [n11_empty c.1 (h c hc)]
  unfold tabText
  rw [tab_empty, e]
theorem allV_pos {tops : List Int} (h : ∀ t ∈ tops, 1 ≤ t) : allV tops ≠ [] := by
  have key : ∀ (ts : List Int) (found : List (List Int)), (∀ t ∈ ts, 1 ≤ t) → found ≠ [] → ts.foldl stepV found ≠ [] := by
    intro ts
    induction ts with
    | nil => intro found _ hf; exact hf
    | cons t ts ih =>
      intro found ht hf
      refine ih _ (fun x hx => ht x (List.mem_cons_of_mem _ hx)) ?_
      have h1 := ht t List.mem_cons_self
      cases found with
      | nil => exact absurd rfl hf
      | cons r rs =>
        intro e
        have := congrArg List.length e
        unfold stepV at this
        rw [List.map_cons, List.flatten_cons, List.length_append, List.length_map, List.length_range] at this
        simp at this
        omega
  exact key tops [[]] h (by simp)
end Nw
namespace Nw
open PySem L2 PySem.Spec PyProof.Rows RZ
/-- what the top leaves of the class Table -/
structure TabC (K : PySem.W.Frag) (mg : Str → Option Value) (C : Addr) : Prop where
  cl : Cls K C
  nC : NoAttr K C "columns"
  nT : NoAttr K C "tops"
section
variable {P : Program} {w : World} {K : PySem.W.Frag} {mg : Str → Option Value} {base : Heap}
theorem copied_ {f : Addr} {fd : FuncData} (F : C8.Def K mg "copied" s_copied f fd) (b : Binds K fd P_copied []) (T : Names K mg) (n_dict : mg "dict" = none) : C8.Cal P w K mg base 1 "copied" spCopied [] := by
  refine C8.cal0 (N := N_copied) F b .nil sc_copied (fun vs H Q E h => ?_) (fun cdv A outer s H vs Q E hr h => ?_)
  · obtain ⟨i, rfl, _⟩ := h
    rfl
  · obtain ⟨i, rfl, k⟩ := h
    refine ⟨_, pss_cons (ps_if (pt_val (pe_callB call_isi (by rfl) T.n_isinstance (by decide +kernel) (pa_cons (pv 0) (pa_cons (pe_bltn (v := .ty "list") (u := .type "list") (by rfl) T.n_list (by decide +kernel) rfl) pa_nil)))) (pss_one ps_never) pss_nil)
      (pss_cons (ps_if (pt_val (pe_callB call_isi (by rfl) T.n_isinstance (by decide +kernel) (pa_cons (pv 0) (pa_cons (pe_bltn (v := .ty "tuple") (u := .type "tuple") (by rfl) T.n_tuple (by decide +kernel) rfl) pa_nil)))) (pss_one ps_never) pss_nil)
      (pss_cons (ps_if (pt_val (pe_callB call_isi (by rfl) T.n_isinstance (by decide +kernel) (pa_cons (pv 0) (pa_cons (pe_bltn (v := .ty "dict") (u := .type "dict") (by rfl) n_dict (by decide +kernel) rfl) pa_nil)))) (pss_one ps_never) pss_nil)
      (pss_one (ps_ret (pv 0))))), ?_⟩
    refine ⟨_, rfl, _, _, _, _, false, rfl, .ty _, .base (.int i), kit_ty (by decide +kernel), _, rfl, iteF ?_⟩
    refine ⟨_, rfl, _, _, _, _, false, rfl, .ty _, .base (.int i), kit_ty (by decide +kernel), _, rfl, iteF ?_⟩
    refine ⟨_, rfl, _, _, _, _, false, rfl, .ty _, .base (.int i), kit_ty (by decide +kernel), _, rfl, iteF ?_⟩
    exact ⟨_, rfl, k⟩
theorem errInit {f C : Addr} {fd : FuncData} (F : C8.Fun K "__init__" "BadTable.__init__" s_BadTable____init__ f fd) (OC : OexC K C) (nA : PySem.W.findIn K (.ref C) "at" = some none) (c_copied : C8.Cal P w K mg base 1 "copied" spCopied []) :
    FnOk P w K mg base C8.CX0 2 f fd P_BadTable____init__ (spErr C) := by
  refine C8.fn0 (N := N_BadTable____init__) F sc_BadTable____init__ (fun vs H Q E h => ?_) (fun cdv A outer s H vs Q E hr h => ?_)
  · obtain ⟨x, i, rfl, _⟩ := h
    rfl
  · obtain ⟨x, i, rfl, hx, k⟩ := h
    refine ⟨_, pss_one (ps_ost (pv 0) (C8.pe_c c_copied hr (by decide) rfl (pa_cons (pv 1) pa_nil))), ?_⟩
    exact ⟨_, rfl, i, rfl, _, rfl, x, C, rfl, OC, nA, .inl ⟨hx, fun dx hd ne => k dx hd ne⟩⟩
theorem tInitX {f fE C CE : Addr} {fd fdE : FuncData} (F : C8.Fun K "__init__" "Table.__init__" s_Table____init__ f fd) (T : Names K mg) (TC : TabC K mg C) (c_is_column : C8.Cal P w K mg base 2 "is_column" spCol [])
    (OC : OexC K CE) (iC : PySem.W.findIn K (.ref CE) "__init__" = some (some (.ref fE))) (tI : PySem.W.typeIn K (.ref fE) = some (.type "function")) (FE : FnOk P w K mg base C8.CX0 2 fE fdE P_BadTable____init__ (spErr CE)) (bE : Binds K fdE P_BadTable____init__ []) (gE : mg "BadTable" = some (.ref CE)) :
    FnOk P w K mg base (L2.CX P w) 4 f fd P_Table____init__ (spInitX C CE) := by
  refine fnX (N := N_Table____init__) F sc_Table____init__ (fun vs H Q E h => ?_) (fun cdv A outer s H vs Q E hr h => ?_)
  · obtain ⟨x, dx, a, ds, H0, G, rfl, _⟩ := h
    rfl
  · obtain ⟨x, dx, a, ds, H0, G, rfl, nx, ndx, nex, hH, hds, h100, hsh, sG, kQ, kE⟩ := h
    have hu := hu_of hr
    refine ⟨_, (pss_cons (ps_if (pt_not (pt_chain op_le op_le pe_int (pe_callB call_len_seq (by rfl) T.n_len PySem.boot_len (pa_cons (pv 1) pa_nil)) pe_int)) (pss_one (ps_raise rfl (takes_of rfl rfl rfl rfl) (pmk_oex OC iC tI FE hr bE .nil C8.pass0 rfl gE (pa_cons (pe_un un_neg pe_int) pa_nil)))) pss_nil)
 (pss_cons (ps_set (i := 2) sc_Table____init__.nd rfl (Or.inl rfl) (pe_lst pa_nil))
 (pss_cons (ps_for (passes_of rfl) rfl (pi_enum (by rfl) T.n_enumerate (pa_cons (pv 1) pa_nil)) (pg_tup rfl (pgs_cons (pg_name (i := 3) sc_Table____init__.nd rfl (Or.inl rfl)) (pgs_cons (pg_name (i := 4) sc_Table____init__.nd rfl (Or.inl rfl)) pgs_nil))) (pss_cons (ps_if (PW.pt (pw_or (pt_not (pt_val (C8.pe_c c_is_column hr (by decide) rfl (pa_cons (pv 4) pa_nil)))) (pw_or1 (pt_cmpR op_in_seq (pe_ix ix_tup (pv 4) pe_int (fun _ _ => rfl)) (pv 2) (by rfl))))) (pss_one (ps_raise rfl (takes_of rfl rfl rfl rfl) (pmk_oex OC iC tI FE hr bE .nil C8.pass0 rfl gE (pa_cons (pv 3) pa_nil)))) pss_nil)
 (pss_one (ps_expr (pe_bm PySem.F.plainAttrs_list PySem.F.slot_list_append PySem.F.type_list_append mt_append (pv 2) (pa_cons (pe_ix ix_tup (pv 4) pe_int (fun _ _ => rfl)) pa_nil))))))
 (pss_cons (ps_fld (pv 0) (pe_callTy call_tuple_of (by rfl) T.n_tuple (by decide +kernel) (pa_cons (pv 2) pa_nil)) rfl)
 (pss_one (ps_fld (pv 0) (pe_callTy call_tuple_of (by rfl) T.n_tuple (by decide +kernel) (pa_cons (pe_lc (own := [("_", 5), ("top", 6)]) (g := (gTup K 2 (gCons (gName 5) (gCons (gName 6) gNil)))) (tt := tYes) rfl sc_Table____init__.nd (pi_list (pv 1)) (blkOk_by (own := [("_", 5), ("top", 6)]) (N := N_Table____init__) (sc := C8.fnScope s_Table____init__) (by decide +kernel)) (fun _ _ _ _ _ => (pg_tup rfl (pgs_cons (pg_name (i := 5) sc_Table____init__.nd rfl (Or.inl rfl)) (pgs_cons (pg_name (i := 6) sc_Table____init__.nd rfl (Or.inl rfl)) pgs_nil)))) (fun _ _ _ _ _ => pts_nil) (fun _ _ _ _ _ => (pv 6))) pa_nil)) rfl)))))), ?_⟩
    obtain ⟨a_, xs, e0, ga, da⟩ := id hds.list_inv
    cases e0
    have hdx0 : upd H0 dx (.own x) x = none := by rw [upd_ne nex.symm]; exact nx
    have X0 : Xt none H0 G H G := by rw [hH]; exact (Xt.tmp sG ndx).allocT hdx0
    have hX : H x = some (.ins C dx []) := by rw [hH]; exact upd_same
    have hDX : H dx = some (.own x) := by rw [hH, upd_ne nex]; exact upd_same
    have gx : G x = none := sG.free nx
    have gdx : G dx = none := sG.free ndx
    have hl : xs.length = ds.length := da.length
    have hA := X0.sub _ _ ga
    have raise : ∀ (i : Int) (H1 G1 : Hp), wrongAt ds = some i → Xt none H0 G H1 G1 → ∀ e, H1 e = none → spErr CE (.ref e :: ([.int i] ++ [])) (upd H1 e (exo e CE none)) (fun v H2 => v = .non ∧ ∃ (d : Addr) (fs : List (Str × V)), H2 e = some (exo e CE (some d)) ∧ H2 d = some (exd d fs) ∧ H1 d = none ∧ E (.ref CE) (some d) (upd (del H2 e) d (.xd fs))) (fun _ _ _ => False) := by
      intro i H1 G1 hb X1 e he
      refine ⟨e, i, rfl, upd_same, fun dx' hd' ne' => ⟨rfl, dx', [("at", .int i)], upd_same, by rw [upd_ne ne']; exact upd_same, ?_, ?_⟩⟩
      · rw [upd_ne ne'] at hd'; exact hd'
      · rw [err_heap he ne']
        exact kE i hb H1 G1 dx' X1 (by rw [upd_ne ne'] at hd'; exact hd')
    clear hH
    refine ⟨_, rfl, a, _, rfl, .inl (SqL.of hA), _, _, rfl, rfl, _, rfl, ?_⟩
    have bad1 : ¬ (1 ≤ ds.length ∧ ds.length ≤ 3) → wrongAt ds = some (-1) := fun q => if_neg q
    rcases Nat.lt_or_ge ds.length 1 with c1 | c1
    · rw [decide_eq_false (by omega : ¬ (1 : Int) ≤ ((xs.length : Nat) : Int))]
      exact iteF ⟨_, rfl, iteT ⟨_, rfl, (by show 1 ≤ 1000; decide), fun e he => raise _ H G (bad1 (by omega)) X0 e he⟩⟩
    rw [decide_eq_true (by omega : (1 : Int) ≤ ((xs.length : Nat) : Int))]
    refine iteT ⟨_, _, rfl, rfl, _, rfl, ?_⟩
    rcases Nat.lt_or_ge 3 ds.length with c3 | c3
    · rw [decide_eq_false (by omega : ¬ ((xs.length : Nat) : Int) ≤ 3)]
      exact iteT ⟨_, rfl, (by show 1 ≤ 1000; decide), fun e he => raise _ H G (bad1 (by omega)) X0 e he⟩
    rw [decide_eq_true (by omega : ((xs.length : Nat) : Int) ≤ 3)]
    have bad2 : wrongAt ds = badFrom [] 0 ds := if_pos ⟨c1, c3⟩
    clear bad1
    refine iteF ⟨Nat.zero_le _, fun nl hnl => ?_⟩
    have X1 := X0.allocT (o := .lst []) hnl
    have nl0 := X0.fresh hnl
    have n1 : x ≠ nl := fun q => by subst q; rw [hX] at hnl; cases hnl
    have n2 : dx ≠ nl := fun q => by subst q; rw [hDX] at hnl; cases hnl
    have n3 : a ≠ nl := fun q => by subst q; rw [hA] at hnl; cases hnl
    refine ⟨_, rfl, a, xs, rfl, SqL.of (by rw [upd_ne n3]; exact hA), for_it (walk_enum (xs := xs)) (fun i σ' H' => ∃ (G' : Hp) (v3 v4 : Option V) (cols : List Col), σ' = [some (.ref x), some (.ref a), some (.ref nl), v3, v4, none, none] ∧ Xt none H0 G H' G' ∧
      H' nl = some (.lst ((cols.map (·.1)).map V.str)) ∧ H' x = some (.ins C dx []) ∧ H' dx = some (.own x) ∧ G' nl = none ∧ G' x = none ∧ G' dx = none ∧ ds.take i = dCols cols ∧ wrongAt ds = badFrom (cols.map (·.1)) i (ds.drop i)) ?_ ?_ ?_ ?_⟩
    · exact ⟨G, none, none, [], rfl, X1, upd_same, by rw [upd_ne n1]; exact hX, by rw [upd_ne n2]; exact hDX, X0.sub.free hnl, gx, gdx, rfl, bad2⟩
    · rintro i σ' H' hi ⟨G', v3, v4, cols, rfl, X, h1, h2, h3, _⟩
      exact SqL.of (X.sub _ _ (X.gg _ _ ga))
    · rintro i y σ' H1 H2 hi ⟨G', v3, v4, cols, rfl, X, h1, h2, h3, g1, g2, g3, hc, hb⟩ ⟨T_, u1, u2, rfl, hT, rfl, e1, e2⟩
      obtain ⟨d, hd, dy⟩ := (da.mono X.gg).get e2
      obtain rfl := Option.some.inj e1
      rw [drop_cons hd] at hb
      have X2 := X.allocT (o := .tup [.int ((i : Nat) : Int), u2]) hT
      refine ⟨T_, _, rfl, SqT.of upd_same, rfl, _, _, rfl, _, _, rfl, rfl, ?_⟩
      refine ⟨_, rfl, u2, d, G', rfl, dy, hsh d (List.mem_of_getElem? hd), X2.sub, fun H3 X3 => ⟨_, rfl, ?_⟩⟩
      have XX := X2.trans X3
      have k3 : ∀ b o, H1 b = some o → H3 b = some o := fun b o e => X3.hh b o (fun q => by cases q) (upd_same_ hT b o e)
      cases ic : isCol d with
      | false =>
        rw [badFrom_col ic] at hb
        exact iteT ⟨_, rfl, (by show 1 ≤ 1000; decide), fun e he => raise _ H3 _ hb XX e he⟩
      | true =>
        obtain ⟨c, rfl⟩ := isCol_inv ic
        obtain ⟨t, rfl, ht⟩ := col_inv dy
        have ht3 := X3.sub _ _ ht
        refine iteF ⟨_, rfl, t, _, _, _, rfl, rfl, SqT.of ht3, rfl, _, rfl, nl, _, rfl, .inl (SqL.of (k3 _ _ h1)), rfl, flat_strs _, _, rfl, ?_⟩
        rw [inV_strs]
        by_cases cn : c.1 ∈ cols.map (·.1)
        · rw [decide_eq_true cn]
          rw [badFrom_name (d := dCol c) (by exact cn)] at hb
          exact iteT ⟨_, rfl, (by show 1 ≤ 1000; decide), fun e he => raise _ H3 _ hb XX e he⟩
        · rw [decide_eq_false cn]
          rw [badFrom_ok ic (by exact cn)] at hb
          have hcl : cols.length ≤ 3 := by
            have := congrArg List.length hc
            rw [dCols, List.length_map, List.length_take] at this
            omega
          refine iteF ⟨_, rfl, .inl ⟨rfl, _, SqL.of (k3 _ _ h1)⟩, _, rfl, t, _, _, _, rfl, rfl, SqT.of ht3, rfl, nl, _, _, rfl, rfl, k3 _ _ h1, small_lt (by rw [List.length_map, List.length_map]; omega), ?_⟩
          refine ⟨G', _, _, cols ++ [c], rfl, XX.set nl0 g1, ?_, by rw [upd_ne n1]; exact k3 _ _ h2, by rw [upd_ne n2]; exact k3 _ _ h3, g1, g2, g3, ?_, ?_⟩
          · rw [upd_same, List.map_append, List.map_append]
            rfl
          · rw [take_succ_of hd, hc, dCols, dCols, List.map_append]; rfl
          · rw [List.map_append]
            exact hb
    · rintro σ' H1 ⟨G', v3, v4, cols, rfl, X, h1, h2, h3, g1, g2, g3, hc, hb⟩
      rw [List.take_of_length_le (by omega)] at hc
      rw [List.drop_eq_nil_of_le (by omega)] at hb
      have hb0 : wrongAt ds = none := hb
      have k := kQ hb0
      subst hc
      have hlc : xs.length = cols.length := by rw [hl, dCols, List.length_map]
      have hl3 : cols.length ≤ 3 := by rw [dCols, List.length_map] at c3; exact c3
      have h4 := X.sub _ _ (X.gg _ _ ga)
      refine ⟨_, rfl, nl, _, rfl, .inl ⟨SqL.of h1, fun cx hcx => ?_⟩⟩
      have m1 : x ≠ cx := fun q => by subst q; rw [h2] at hcx; cases hcx
      have m2 : dx ≠ cx := fun q => by subst q; rw [h3] at hcx; cases hcx
      have m3 : a ≠ cx := fun q => by subst q; rw [h4] at hcx; cases hcx
      have X2 := X.alloc (o := .tup ((cols.map (·.1)).map V.str)) hcx
      have g2' := none_of_ne (o := HO.tup ((cols.map (·.1)).map V.str)) g2 m1
      have g3' := none_of_ne (o := HO.tup ((cols.map (·.1)).map V.str)) g3 m2
      refine ⟨_, rfl, x, C, dx, _, rfl, by rw [upd_ne m1]; exact h2, TC.cl, TC.nC, (by show 0 < 1000; decide), ?_⟩
      have X3 := X2.set (o := .ins C dx (putF "columns" (.ref cx) [])) nx g2'
      have da3 := da.mono (fun _ _ h => X3.gg _ _ h)
      have ga3 := X3.gg _ _ ga
      have hDX3 : (upd (upd H1 cx (.tup ((cols.map (·.1)).map V.str))) x (.ins C dx (putF "columns" (.ref cx) []))) dx = some (.own x) := by
        rw [upd_ne nex, upd_ne m2]; exact h3
      refine ⟨_, rfl, a, rfl, ⟨_, SqL.of (X3.sub _ _ ga3)⟩, fun Dl hD => ?_⟩
      refine lc_cols (fun c => .int c.2) ga3 da3 hl3 hD X3.sub (fun c t H2 G2 _ X2 ht Qy hq => ⟨t, _, rfl, SqT.of (X2.sub _ _ ht), rfl, _, _, rfl, _, _, rfl, rfl, rfl, _, rfl, hq _ _ _ (Xt.refl X2.sub) (.int _)⟩) ?_
      intro H4 G4 ys X4 hl4 hg4 da4
      refine ⟨Dl, _, rfl, .inl ⟨SqL.of hl4, fun tx htx => ?_⟩⟩
      have hX4 := X4.hh x _ (fun q => by cases q) (upd_same)
      have hDX4 := X4.hh dx _ (fun q => by cases q) hDX3
      have m4 : x ≠ tx := fun q => by subst q; rw [hX4] at htx; cases htx
      have m5 : dx ≠ tx := fun q => by subst q; rw [hDX4] at htx; cases htx
      refine ⟨_, rfl, x, C, dx, _, rfl, by rw [upd_ne m4]; exact hX4, TC.cl, TC.nT, (by show 1 < 1000; decide), ?_⟩
      have gx4 := X4.non (ne_none_of (upd_same)) g2'
      have X5 := (X3.trans X4).alloc (o := .tup ys) htx
      have X6 := X5.set (o := .ins C dx (putF "tops" (.ref tx) (putF "columns" (.ref cx) []))) nx (none_of_ne gx4 m4)
      exact k _ _ X6
end
end Nw
namespace Nw
open PySem L2 PySem.Spec PyProof.Rows RZ
def toldV : Option Int → V
  | none => .non
  | some i => .int i
def spTold : Sp := fun vs H Q _ => ∃ (a : Addr) (ds : List PyData) (G : Hp), vs = [.ref a] ∧ D G (.ref a) (.list ds) ∧ ds.length ≤ 100 ∧ (∀ d ∈ ds, shortD d) ∧ Same G H ∧
  ∀ H' G', Xt none H G H' G' → Q (toldV (wrongAt ds)) H'
/-- the suite: what stands in it of the error at a -/
def tsTold (K : PySem.W.Frag) (CE CC CM CN : Addr) : Addr → Value → Option Addr → TS := fun a cls d =>
  tSeq (tAsg (tOrV (tCB (rIsXT K CE a cls d) (tCons (tVar 1) (tCons (tTup (tCons (tC (.ref CC)) (tCons (tC (.ref CM)) tNil))) tNil))) (tNotV (tCB (rIsX K CE a cls d) (tCons (tVar 1) (tCons (tC (.ref CN)) tNil))))) (gName 2))
    (tRet (tIf (tOr (tB (tVar 2)) (tB (tCB (rIsi K) (tCons (tXf a cls d CE "at" (tVar 1)) (tCons (tC (.ty "bool")) tNil))))) (tC (.str "wrong")) (tXf a cls d CE "at" (tVar 1))))
/-- what the top leaves of the errors -/
structure ErrT (K : PySem.W.Frag) (mg : Str → Option Value) (CE CC CM CN : Addr) : Prop where
  ec : ErrC K CE
  xc : XfC K CE
  nA : PySem.W.findIn K (.ref CE) "at" = some none
  gE : mg "BadTable" = some (.ref CE)
  gC : mg "BadCondition" = some (.ref CC)
  gM : mg "BadMix" = some (.ref CM)
  gN : mg "NewestrowError" = some (.ref CN)
  ex : PySem.W.exmOne K (.ref CE) (.ref CE) = some true
  kA : PySem.W.kitAny K (.ref CE) [.ref CC, .ref CM] = some false
  kN : PySem.W.kitOne K (.ref CE) (.ref CN) = some true
section
variable {P : Program} {w : World} {K : PySem.W.Frag} {mg : Str → Option Value} {base : Heap}
theorem told {f fT C CE CC CM CN : Addr} {fd fdT : FuncData} (F : C8.Def K mg "_law_told" s__law_told f fd) (b : Binds K fd P__law_told []) (T : Names K mg) (TE : ErrT K mg CE CC CM CN)
    (M : Mk K C fT) (FT : FnOk P w K mg base (L2.CX P w) 4 fT fdT P_Table____init__ (spInitX C CE)) (bT : Binds K fdT P_Table____init__ []) (gT : mg "Table" = some (.ref C)) : C8.Cal P w K mg base 6 "_law_told" spTold [] := by
  refine C8.cal0 (N := N__law_told) F b .nil sc__law_told (fun vs H Q E h => ?_) (fun cdv A outer s H vs Q E hr h => ?_)
  · obtain ⟨a, ds, G, rfl, _⟩ := h
    rfl
  · obtain ⟨a, ds, G, rfl, hds, h100, hsh, sG, k⟩ := h
    refine ⟨_, pss_cons (ps_try_as (i := 1) (tb := fun W => tDrop (tMakeS C (spInitX C CE) (WE W) (tCons (tVar 0) tNil))) (ts := tsTold K CE CC CM CN) (Wout := fun _ _ _ _ => False) rfl rfl sc__law_told.nd rfl rfl ⟨rfl, by decide, Or.inl TE.gE⟩ takes0
          (fun W pn xe tk _ => pss_one (ps_expr (by exact (pe_makeS M FT hr rfl gT bT (fun σ => passAt tk σ) (by exact (pa_cons (pv 0) pa_nil))))))
          (fun a oe cls d pn hz hf => pss_cons (ps_set (i := 2) sc__law_told.nd rfl (Or.inl rfl) (by exact (pe_or (pe_callB (call_isXT TE.ec hz hf) (by rfl) T.n_isinstance (by decide +kernel) (pa_cons (pv 1) (pa_cons (pe_tup (pa_cons (C8.pe_gc rfl ⟨_, TE.gC, rfl⟩) (pa_cons (C8.pe_gc rfl ⟨_, TE.gM, rfl⟩) pa_nil))) pa_nil))) (pe_one (pe_not (pe_callB (call_isX TE.ec hz hf) (by rfl) T.n_isinstance (by decide +kernel) (pa_cons (pv 1) (pa_cons (C8.pe_gc rfl ⟨_, TE.gN, rfl⟩) pa_nil))))))))
            (pss_one (ps_ret (by exact (pe_ifExp (PW.pt (pw_or (pt_val (pv 2)) (pw_or1 (pt_val (pe_callB call_isi (by rfl) T.n_isinstance (by decide +kernel) (pa_cons (pe_xf TE.xc TE.nA hz hf (pv 1)) (pa_cons (pe_bltn (v := .ty "bool") (u := .type "bool") (by rfl) T.n_bool (by decide +kernel) rfl) pa_nil))))))) pe_str (pe_xf TE.xc TE.nA hz hf (pv 1))))))))
      (pss_one (ps_ret pe_non)), ?_⟩
    refine ⟨_, rfl, fun x dx nx ndx nex => ⟨x, dx, a, ds, H, G, rfl, nx, ndx, nex, rfl, hds, h100, hsh, sG, fun hb H' G' X => ⟨rfl, ?_⟩, fun i hb H' G' d X hd => ?_⟩⟩
    · have q := k H' G' X
      rw [hb] at q
      exact q
    · have hne : H' d = none := hd
      have Xd : Xt none H G (upd H' d (xdAt i)) G' := X.allocT hd
      have q := k _ _ Xd
      rw [hb] at q
      refine ⟨true, TE.ex, fun _ a0 ha0 => ?_, fun z => by cases z⟩
      refine ⟨_, rfl, (by show 2 ≤ sizeLine; decide), fun tp htp => ?_⟩
      have ntp : d ≠ tp := fun z => by subst z; rw [upd_same] at htp; cases htp
      have hdd : upd (upd H' d (xdAt i)) tp (.tup [.ref CC, .ref CM]) d = some (xdAt i) := by rw [upd_ne ntp, upd_same]
      have Xt2 := Xd.allocT (o := .tup [.ref CC, .ref CM]) htp
      have q2 := k _ _ Xt2
      rw [hb] at q2
      have lk : List.lookup ("at" : Str) [(("at" : Str), V.int i)] = some (.int i) := by simp [List.lookup]
      refine ⟨rfl, tp, [.ref CC, .ref CM], [.ref CC, .ref CM], false, d, _, rfl, upd_same, .cons (.own CC) (.cons (.own CM) .nil), rfl, hdd, TE.kA, _, rfl, iteF ?_⟩
      refine ⟨_, rfl, rfl, .ref CN, .ref CN, true, d, _, rfl, .own CN, rfl, hdd, TE.kN, _, rfl, ?_⟩
      refine ⟨_, rfl, _, rfl, iteF ?_⟩
      exact ⟨_, rfl, rfl, rfl, d, _, _, rfl, hdd, lk, _, _, _, _, false, rfl, .ty _, .base (.int i), kit_ty (by decide +kernel), _, rfl, iteF ⟨_, rfl, rfl, rfl, d, _, _, rfl, hdd, lk, q2⟩⟩
end
end Nw
namespace Nw
open PySem L2 PySem.Spec PyProof.Rows RZ
theorem isCol_str {z : Str} {t : Int} : isCol (.tuple [.str z, .int t]) = (isWordS z && !decide (z ∈ RES) && decide (1 ≤ t) && decide (t ≤ 3)) := rfl
theorem isCol_len {ds : List PyData} (c2 : ds.length ≠ 2) : isCol (.tuple ds) = false := by
  match ds, c2 with
  | [], _ => rfl
  | [.str _], _ => rfl
  | [.none], _ => rfl
  | [.bool _], _ => rfl
  | [.int _], _ => rfl
  | [.list _], _ => rfl
  | [.tuple _], _ => rfl
  | [.dict _], _ => rfl
  | _ :: _ :: _ :: _, _ => simp [isCol]
  | [_, _], c2 => exact absurd rfl c2
section
variable {P : Program} {w : World} {K : PySem.W.Frag} {mg : Str → Option Value} {base : Heap}
theorem lIsColumn {f : Addr} {fd : FuncData} (F : C8.Def K mg "_law_is_column" s__law_is_column f fd) (b : Binds K fd P__law_is_column []) (T : Names K mg) : C8.Cal P w K mg base 1 "_law_is_column" spCol [] := by
  refine C8.cal0 (N := N__law_is_column) F b .nil sc__law_is_column (fun vs H Q E h => ?_) (fun cdv A outer s H vs Q E hr h => ?_)
  · obtain ⟨v, d, G, rfl, _⟩ := h
    rfl
  · obtain ⟨v, d, G, rfl, hd, hsh, sG, k⟩ := h
    refine ⟨_, (pss_cons (ps_if (PW.pt (pw_or (pt_not (pt_val (pe_callB call_isi (by rfl) T.n_isinstance (by decide +kernel) (pa_cons (pv 0) (pa_cons (pe_bltn (v := .ty "tuple") (u := .type "tuple") (by rfl) T.n_tuple (by decide +kernel) rfl) pa_nil))))) (pw_or (pt_cmpR op_ne (pe_callB call_len_seq (by rfl) T.n_len PySem.boot_len (pa_cons (pv 0) pa_nil)) pe_int (nomark _)) (pw_or1 (pt_not (pt_val (pe_callB call_isi (by rfl) T.n_isinstance (by decide +kernel) (pa_cons (pe_ix ix_tup (pv 0) pe_int (fun _ _ => rfl)) (pa_cons (pe_bltn (v := .ty "str") (u := .type "str") (by rfl) T.n_str (by decide +kernel) rfl) pa_nil))))))))) (pss_one (ps_ret pe_bl)) pss_nil)
 (pss_cons (ps_asg (pv 0) (pg_tup rfl (pgs_cons (pg_name (i := 1) sc__law_is_column.nd rfl (Or.inl rfl)) (pgs_cons (pg_name (i := 2) sc__law_is_column.nd rfl (Or.inl rfl)) pgs_nil))))
 (pss_cons (ps_if (PW.pt (pw_or (pt_cmpR op_in_seq (pv 1) (pe_tup (pa_cons pe_str (pa_cons pe_str (pa_cons pe_str (pa_cons pe_str (pa_cons pe_str (pa_cons pe_str (pa_cons pe_str (pa_cons pe_str (pa_cons pe_str pa_nil)))))))))) (by rfl)) (pw_or1 (pt_not (pt_chain op_lt op_lt pe_int (pe_callB call_len_str (by rfl) T.n_len PySem.boot_len (pa_cons (pv 1) pa_nil)) pe_int))))) (pss_one (ps_ret pe_bl)) pss_nil)
 (pss_cons (ps_if (pt_not (pt_val (pe_callB (cr_all rfl) (by rfl) T.n_all (by decide +kernel) (pa_cons (pe_lc (own := [("_law_letter", 3)]) (g := (gName 3)) (tt := tYes) rfl sc__law_is_column.nd (pi_str (pv 1)) (blkOk_by (own := [("_law_letter", 3)]) (N := N__law_is_column) (sc := C8.fnScope s__law_is_column) (by decide +kernel)) (fun _ _ _ _ _ => (pg_name (i := 3) sc__law_is_column.nd rfl (Or.inl rfl))) (fun _ _ _ _ _ => pts_nil) (fun _ _ _ _ _ => (pe_cmpR op_in_sign (pv 3) pe_str (by rfl)))) pa_nil)))) (pss_one (ps_ret pe_bl)) pss_nil)
 (pss_one (ps_ret (pe_and (pe_callB call_isi (by rfl) T.n_isinstance (by decide +kernel) (pa_cons (pv 2) (pa_cons (pe_bltn (v := .ty "int") (u := .type "int") (by rfl) T.n_int (by decide +kernel) rfl) pa_nil))) (pe_and (pe_not (pe_callB call_isi (by rfl) T.n_isinstance (by decide +kernel) (pa_cons (pv 2) (pa_cons (pe_bltn (v := .ty "bool") (u := .type "bool") (by rfl) T.n_bool (by decide +kernel) rfl) pa_nil)))) (pe_one (pe_chain op_le op_le pe_int (pv 2) pe_int)))))))))), ?_⟩
    have k0 := k H (Xt.refl sG)
    cases hd with
    | non => exact ⟨_, rfl, _, _, _, _, false, rfl, .ty _, .base .non, kit_ty (by decide +kernel), _, rfl, k0⟩
    | bl q => exact ⟨_, rfl, _, _, _, _, false, rfl, .ty _, .base (.bl q), kit_ty (by decide +kernel), _, rfl, k0⟩
    | int i => exact ⟨_, rfl, _, _, _, _, false, rfl, .ty _, .base (.int i), kit_ty (by decide +kernel), _, rfl, k0⟩
    | str z => exact ⟨_, rfl, _, _, _, _, false, rfl, .ty _, .base (.str z), kit_ty (by decide +kernel), _, rfl, k0⟩
    | lst h da => exact ⟨_, rfl, _, _, _, _, false, rfl, .ty _, .base (.lst (sG _ _ h)), kit_ty (by decide +kernel), _, rfl, k0⟩
    | @tup a xs ds h da =>
      refine ⟨_, rfl, _, _, _, _, true, rfl, .ty _, .base (.tup (sG _ _ h)), kit_ty (by decide +kernel), _, rfl, ?_⟩
      have hT := sG _ _ h
      refine iteF ⟨_, rfl, a, _, rfl, .inr (SqT.of hT), rfl, _, rfl, ?_⟩
      have hl := da.length
      by_cases c2 : ds.length = 2
      · have e2 : (!decide (V.int ((xs.length : Nat) : Int) = V.int 2)) = false := by
          rw [hl, c2]; rfl
        rw [e2]
        refine iteF ?_
        match ds, xs, da, c2 with
        | [d1, d2], [x1, x2], .cons h1 (.cons h2 .nil), _ =>
          refine ⟨_, rfl, a, _, _, x1, rfl, rfl, SqT.of hT, rfl, ?_⟩
          cases h1 with
          | non => exact ⟨_, _, _, _, false, rfl, .ty _, .base .non, kit_ty (by decide +kernel), _, rfl, iteT k0⟩
          | bl q => exact ⟨_, _, _, _, false, rfl, .ty _, .base (.bl q), kit_ty (by decide +kernel), _, rfl, iteT k0⟩
          | int i => exact ⟨_, _, _, _, false, rfl, .ty _, .base (.int i), kit_ty (by decide +kernel), _, rfl, iteT k0⟩
          | lst h' _ => exact ⟨_, _, _, _, false, rfl, .ty _, .base (.lst (sG _ _ h')), kit_ty (by decide +kernel), _, rfl, iteT k0⟩
          | tup h' _ => exact ⟨_, _, _, _, false, rfl, .ty _, .base (.tup (sG _ _ h')), kit_ty (by decide +kernel), _, rfl, iteT k0⟩
          | str z =>
            have hz : z.length ≤ 10000 := hsh
            refine ⟨_, _, _, _, true, rfl, .ty _, .base (.str z), kit_ty (by decide +kernel), _, rfl, iteF ?_⟩
            refine ⟨_, rfl, a, _, rfl, SqT.of hT, rfl, _, _, rfl, _, _, rfl, rfl, ?_⟩
            refine ⟨_, rfl, (by show 9 ≤ sizeLine; decide), fun q hq => ?_⟩
            have X1 := Xt.tmp (b := none) (o := .tup (RES.map V.str)) sG hq
            refine ⟨q, RES.map V.str, rfl, .inr (SqT.of upd_same), rfl, (by decide +kernel), _, rfl, ?_⟩
            have k1 := k _ X1
            have sG1 := X1.sub
            rw [inV_strs]
            by_cases hr : z ∈ RES
            · rw [decide_eq_true hr]
              have e3 : isCol (.tuple [.str z, d2]) = false := by cases d2 <;> simp [isCol, hr]
              rw [e3] at k1
              exact iteT k1
            rw [decide_eq_false hr]
            refine iteF ⟨_, rfl, z, rfl, small_line (by omega), _, _, rfl, rfl, _, rfl, ?_⟩
            have wf : (1 ≤ z.length → z.length ≤ 8 → z.cps.toList.all letter = false) → isCol (.tuple [.str z, d2]) = false := fun q => by
              have hw : isWordS z = false := by
                show (decide (1 ≤ z.length) && decide (z.length ≤ 8) && z.cps.toList.all letter) = false
                by_cases p1 : 1 ≤ z.length
                · by_cases p2 : z.length ≤ 8
                  · rw [q p1 p2]; simp
                  · rw [decide_eq_false p2]; simp
                · rw [decide_eq_false p1]; simp
              cases d2 <;> simp [isCol, hw]
            rcases Nat.lt_or_ge z.length 1 with c1 | c1
            · rw [decide_eq_false (by omega : ¬ (0 : Int) < (z.length : Int))]
              rw [wf (fun q => absurd q (by omega))] at k1
              exact iteF ⟨_, rfl, iteT k1⟩
            rw [decide_eq_true (by omega : (0 : Int) < (z.length : Int))]
            refine iteT ⟨_, _, rfl, rfl, _, rfl, ?_⟩
            rcases Nat.lt_or_ge 8 z.length with c8 | c8
            · rw [decide_eq_false (by omega : ¬ (z.length : Int) < 9)]
              rw [wf (fun _ q => absurd q (by omega))] at k1
              exact iteT k1
            rw [decide_eq_true (by omega : (z.length : Int) < 9)]
            refine iteF ⟨_, rfl, z, rfl, fun Dl hD => ?_⟩
            refine lc_data (b := none) (R := fun _ _ => True) (G := G) walk_str (z.cps.toList.map fun c => .bool (letter c)) (by simp) (by show z.length < 100000; omega) hD sG1 (fun q => by cases q) trivial (fun _ _ _ _ => trivial) (fun _ _ _ _ _ => trivial) ?_ ?_
            · intro i x H1 G1 H2 d hd X1 _ ⟨e, c, hc, ex⟩ Qy hq
              subst e ex
              have ed : d = .bool (letter c) := by
                rw [List.getElem?_map, Array.getElem?_toList, hc] at hd
                exact (Option.some.inj hd).symm
              subst ed
              exact ⟨rfl, _, rfl, c, LET, rfl, rfl, hq _ _ _ (Xt.refl X1.sub) trivial (.bl _)⟩
            intro H2 G2 xs X2 _ hl hg da
            have e := DA.bools (ns := z.cps.toList.map letter) (by rw [List.map_map]; exact da)
            have k2 := k H2 (X1.trans X2).back
            refine ⟨Dl, _, rfl, SqL.of (by rw [hl, e]), _, rfl, ?_⟩
            rw [show (z.cps.toList.map letter).all id = z.cps.toList.all letter by rw [List.all_map]; rfl]
            cases ea : z.cps.toList.all letter with
            | false =>
              rw [wf (fun _ _ => ea)] at k2
              exact iteT k2
            | true =>
              have hw : isWordS z = true := by
                show (decide (1 ≤ z.length) && decide (z.length ≤ 8) && z.cps.toList.all letter) = true
                rw [ea, decide_eq_true c1, decide_eq_true c8]; rfl
              refine iteF ?_
              have g2 := fun {a o} (h : G a = some o) => X2.sub _ _ (X2.gg _ _ h)
              cases h2 with
              | non => exact ⟨_, rfl, _, _, _, _, false, rfl, .ty _, .base .non, kit_ty (by decide +kernel), _, rfl, iteF k2⟩
              | bl q => exact ⟨_, rfl, _, _, _, _, true, rfl, .ty _, .base (.bl q), kit_ty (by decide +kernel), _, rfl, iteT ⟨_, rfl, _, _, _, _, true, rfl, .ty _, .base (.bl q), kit_ty (by decide +kernel), _, rfl, _, rfl, iteF k2⟩⟩
              | str q => exact ⟨_, rfl, _, _, _, _, false, rfl, .ty _, .base (.str q), kit_ty (by decide +kernel), _, rfl, iteF k2⟩
              | lst h' _ => exact ⟨_, rfl, _, _, _, _, false, rfl, .ty _, .base (.lst (g2 h')), kit_ty (by decide +kernel), _, rfl, iteF k2⟩
              | tup h' _ => exact ⟨_, rfl, _, _, _, _, false, rfl, .ty _, .base (.tup (g2 h')), kit_ty (by decide +kernel), _, rfl, iteF k2⟩
              | int t =>
                refine ⟨_, rfl, _, _, _, _, true, rfl, .ty _, .base (.int t), kit_ty (by decide +kernel), _, rfl, iteT ⟨_, rfl, _, _, _, _, false, rfl, .ty _, .base (.int t), kit_ty (by decide +kernel), _, rfl, _, rfl, iteT ?_⟩⟩
                rw [isCol_str, hw, decide_eq_false hr] at k2
                refine ⟨_, rfl, _, _, rfl, rfl, _, rfl, ?_⟩
                refine ite2 (fun c3 => ?_) (fun c3 => ?_)
                · rw [decide_eq_true (of_decide_eq_true c3)] at k2
                  exact ⟨_, _, rfl, rfl, k2⟩
                · rw [decide_eq_false (fun q => c3 (decide_eq_true q))] at k2
                  exact k2
      · have e2 : (!decide (V.int ((xs.length : Nat) : Int) = V.int 2)) = true := by
          rw [hl, decide_eq_false (fun q => c2 (by injection q with q; omega))]; rfl
        rw [e2]
        rw [isCol_len c2] at k0
        exact iteT k0
def spDue : Sp := fun vs H Q _ => ∃ (a : Addr) (ds : List PyData) (G : Hp), vs = [.ref a] ∧ D G (.ref a) (.list ds) ∧ ds.length ≤ 100 ∧ (∀ d ∈ ds, shortD d) ∧ Same G H ∧
  ∀ H' G', Xt none H G H' G' → Q (toldV (wrongAt ds)) H'
theorem lDue {f : Addr} {fd : FuncData} (F : C8.Def K mg "_law_due" s__law_due f fd) (b : Binds K fd P__law_due []) (T : Names K mg) (c__law_is_column : C8.Cal P w K mg base 1 "_law_is_column" spCol []) : C8.Cal P w K mg base 2 "_law_due" spDue [] := by
  refine C8.cal0 (N := N__law_due) F b .nil sc__law_due (fun vs H Q E h => ?_) (fun cdv A outer s H vs Q E hr h => ?_)
  · obtain ⟨a, ds, G, rfl, _⟩ := h
    rfl
  · obtain ⟨a, ds, G, rfl, hds, h100, hsh, sG, k⟩ := h
    refine ⟨_, (pss_cons (ps_if (pt_not (pt_chain op_le op_le pe_int (pe_callB call_len_seq (by rfl) T.n_len PySem.boot_len (pa_cons (pv 0) pa_nil)) pe_int)) (pss_one (ps_ret (pe_un un_neg pe_int))) pss_nil)
 (pss_cons (ps_for PassesOwn.never rfl (pi_enum (by rfl) T.n_enumerate (pa_cons (pv 0) pa_nil)) (pg_tup rfl (pgs_cons (pg_name (i := 1) sc__law_due.nd rfl (Or.inl rfl)) (pgs_cons (pg_name (i := 2) sc__law_due.nd rfl (Or.inl rfl)) pgs_nil))) (pss_one (ps_if (PW.pt (pw_or (pt_not (pt_val (C8.pe_c c__law_is_column hr (by decide) rfl (pa_cons (pv 2) pa_nil)))) (pw_or1 (pt_cmpR op_in_seq (pe_ix ix_tup (pv 2) pe_int (fun _ _ => rfl)) (pe_lc (own := [("_law_one", 3)]) (g := (gName 3)) (tt := tYes) rfl sc__law_due.nd (pi_list (pe_slice (sl_listK (K := K) rfl) (pv 0) po_none (po_some (pv 1)))) (blkOk_by (own := [("_law_one", 3)]) (N := N__law_due) (sc := C8.fnScope s__law_due) (by decide +kernel)) (fun _ _ _ _ _ => (pg_name (i := 3) sc__law_due.nd rfl (Or.inl rfl))) (fun _ _ _ _ _ => pts_nil) (fun _ _ _ _ _ => (pe_ix (ix_tupK (K := K) rfl) (pv 3) pe_int (fun _ _ => rfl)))) (by rfl))))) (pss_one (ps_ret (pv 1))) pss_nil)))
 (pss_one (ps_ret pe_non)))), ?_⟩
    obtain ⟨a_, xs, e0, ga, da⟩ := id hds.list_inv
    cases e0
    have hl : xs.length = ds.length := da.length
    have hA := sG _ _ ga
    have k0 := k H G (Xt.refl sG)
    have bad1 : ¬ (1 ≤ ds.length ∧ ds.length ≤ 3) → wrongAt ds = some (-1) := fun q => if_neg q
    refine ⟨_, rfl, a, _, rfl, .inl (SqL.of hA), _, _, rfl, rfl, _, rfl, ?_⟩
    rcases Nat.lt_or_ge ds.length 1 with c1 | c1
    · rw [decide_eq_false (by omega : ¬ (1 : Int) ≤ ((xs.length : Nat) : Int))]
      rw [bad1 (by omega)] at k0
      exact iteF ⟨_, rfl, iteT ⟨_, rfl, k0⟩⟩
    rw [decide_eq_true (by omega : (1 : Int) ≤ ((xs.length : Nat) : Int))]
    refine iteT ⟨_, _, rfl, rfl, _, rfl, ?_⟩
    rcases Nat.lt_or_ge 3 ds.length with c3 | c3
    · rw [decide_eq_false (by omega : ¬ ((xs.length : Nat) : Int) ≤ 3)]
      rw [bad1 (by omega)] at k0
      exact iteT ⟨_, rfl, k0⟩
    rw [decide_eq_true (by omega : ((xs.length : Nat) : Int) ≤ 3)]
    have bad2 : wrongAt ds = badFrom [] 0 ds := if_pos ⟨c1, c3⟩
    refine iteF ⟨_, rfl, a, xs, rfl, SqL.of hA, for_it (walk_enum (xs := xs)) (fun i σ' H' => ∃ (G' : Hp) (v1 v2 : Option V) (cols : List Col), σ' = [some (.ref a), v1, v2, none] ∧ Xt none H G H' G' ∧ ds.take i = dCols cols ∧ wrongAt ds = badFrom (cols.map (·.1)) i (ds.drop i)) ?_ ?_ ?_ ?_⟩
    · exact ⟨G, none, none, [], rfl, Xt.refl sG, rfl, bad2⟩
    · rintro i σ' H' hi ⟨G', v1, v2, cols, rfl, X, _⟩
      exact SqL.of (X.sub _ _ (X.gg _ _ ga))
    · rintro i y σ' H1 H2 hi ⟨G', v1, v2, cols, rfl, X, hc, hb⟩ ⟨T_, u1, u2, rfl, hT, rfl, e1, e2⟩
      obtain ⟨d, hd, dy⟩ := (da.mono X.gg).get e2
      obtain rfl := Option.some.inj e1
      rw [drop_cons hd] at hb
      have X2 := X.allocT (o := .tup [.int ((i : Nat) : Int), u2]) hT
      refine ⟨T_, _, rfl, SqT.of upd_same, rfl, _, _, rfl, _, _, rfl, rfl, ?_⟩
      refine ⟨_, rfl, u2, d, G', rfl, dy, hsh d (List.mem_of_getElem? hd), X2.sub, fun H3 X3 => ⟨_, rfl, ?_⟩⟩
      have XX := X2.trans X3
      have k1 := k _ _ XX
      cases ic : isCol d with
      | false =>
        rw [badFrom_col ic] at hb
        rw [hb] at k1
        exact iteT ⟨_, rfl, k1⟩
      | true =>
        obtain ⟨c, rfl⟩ := isCol_inv ic
        obtain ⟨t, rfl, ht⟩ := col_inv dy
        have ht3 := X3.sub _ _ ht
        have ga3 := XX.gg _ _ ga
        refine iteF ⟨_, rfl, t, _, _, _, rfl, rfl, SqT.of ht3, rfl, ?_⟩
        refine ⟨_, rfl, _, rfl, _, rfl, ?_⟩
        refine slL_data (hds.mono XX.gg) XX.sub fun q H4 G4 X4 dq => ?_
        rw [cutD_take, hc] at dq
        obtain ⟨q_, qs, e0, hq, daq⟩ := id dq.list_inv
        cases e0
        have hcl : cols.length ≤ 3 := by
          have := congrArg List.length hc
          rw [dCols, List.length_map, List.length_take] at this
          omega
        refine ⟨_, rfl, ⟨qs, SqL.of (X4.sub _ _ hq)⟩, fun Dl hD => ?_⟩
        refine lc_cols (fun c => .str c.1) hq daq hcl hD X4.sub (fun c t H2 G2 _ X2 ht Qy hq => ⟨rfl, _, rfl, t, _, _, _, rfl, rfl, SqT.of (X2.sub _ _ ht), rfl, hq _ _ _ (Xt.refl X2.sub) (.str _)⟩) ?_
        intro H5 G5 ys X5 hl5 hg5 da5
        have e5 := DA.strs (ns := cols.map (·.1)) (by rw [List.map_map]; exact da5)
        have Y := (XX.trans X4).trans X5
        have k2 := k _ _ Y
        refine ⟨Dl, (cols.map (·.1)).map V.str, rfl, .inl (SqL.of (by rw [hl5, e5])), rfl, flat_strs _, _, rfl, ?_⟩
        rw [inV_strs]
        by_cases cn : c.1 ∈ cols.map (·.1)
        · rw [decide_eq_true cn]
          rw [badFrom_name (d := dCol c) (by exact cn)] at hb
          rw [hb] at k2
          exact iteT ⟨_, rfl, k2⟩
        · rw [decide_eq_false cn]
          rw [badFrom_ok ic (by exact cn)] at hb
          refine iteF ⟨_, _, _, cols ++ [c], rfl, Y, ?_, ?_⟩
          · rw [take_succ_of hd, hc, dCols, dCols, List.map_append]; rfl
          · rw [List.map_append]
            exact hb
    · rintro σ' H1 ⟨G', v1, v2, cols, rfl, X, hc, hb⟩
      rw [List.drop_eq_nil_of_le (by omega)] at hb
      have k1 := k _ _ X
      rw [show wrongAt ds = none from hb] at k1
      exact k1
end
end Nw
namespace Nw
open PySem L2 PySem.Spec PyProof.Rows RZ
def n7 : List Str := ["a", "b", "x", "total", "abcdefgh", "put", "table"]
def n14 : List Str := ["", "abcdefghi", "and", "or", "not", "true", "false", "name", "where", "nothing", "change", "A", "a1", "a b"]
theorem n7_short : ∀ n ∈ n7, n.length ≤ 10000 := by decide +kernel
/-- a text, if it is one, is short -/
def okS : PyData → Prop
  | .str n => n.length ≤ 10000
  | _ => True
theorem shortD_pair {d e : PyData} (h : okS d) : shortD (.tuple [d, e]) := by
  cases d <;> first | exact h | trivial
def odds : List PyData := n14.map .str ++ [.none, .int 1, .bool true, .tuple [.str "a"], .list [.str "a"]]
theorem n14_short : ∀ n ∈ n14, n.length ≤ 10000 := by decide +kernel
theorem odds_ok : ∀ d ∈ odds, okS d := fun d h => by
  rcases List.mem_append.mp h with h | h
  · obtain ⟨n, hn, rfl⟩ := List.mem_map.mp h
    exact n14_short n hn
  · simp only [List.mem_cons, List.mem_nil_iff, or_false] at h
    rcases h with rfl | rfl | rfl | rfl | rfl <;> trivial
def spEntry : Sp := fun vs H Q _ => ∃ (b : Addr) (c : Int) (G : Hp), vs = [.ref b] ∧ Bag H b c ∧ c ≤ 100000 ∧ G b = none ∧ Same G H ∧
  ∀ (v : V) (d : PyData) (H' G' : Hp), Xt (some b) H G H' G' → Bag H' b (c + 10) → D G' v d → shortD d → Q v H'
/-- _law_of over a list that was just written out, of data -/
theorem of_disp {H G H1 G1 : Hp} {b l : Addr} {c : Int} {xs : List V} {ds : List PyData} {Q : VK} (X : Xt (some b) H G H1 G1) (hB : Bag H1 b c) (hc : c ≤ 1000000) (gb : G1 b = none) (hl : H1 l = none) (da : DA G1 xs ds) (hne : xs ≠ []) (hlen : xs.length ≤ 1000000)
    (k : ∀ v d H2, d ∈ ds → D G1 v d → Xt (some b) H G H2 G1 → Bag H2 b (c + 1) → Q v H2) : spOf [.ref b, .ref l] (upd H1 l (.lst xs)) Q C8.E0 := by
  have nl : l ≠ b := fun q => by subst q; exact hB.ne hl
  have X1 := X.allocT (o := .lst xs) hl
  refine ⟨b, l, xs, c, rfl, upd_same, nl, hne, hlen, hB.upd nl.symm, hc, fun v i x y z hv hB1 => ?_⟩
  obtain ⟨d, hd, dv⟩ := da.get hv
  exact k v d _ (List.mem_of_getElem? hd) dv (X1.put gb) hB1
theorem D.str_inv {G : Hp} {v : V} {n : Str} (h : D G v (.str n)) : v = .str n := by
  cases h
  rfl
section
variable {P : Program} {w : World} {K : PySem.W.Frag} {mg : Str → Option Value} {base : Heap}
theorem entry {f : Addr} {fd : FuncData} (F : C8.Def K mg "_law_entry" s__law_entry f fd) (b : Binds K fd P__law_entry []) (T : Names K mg) (c__law_take : C8.Cal P w K mg base 1 "_law_take" spTake []) (c__law_of : C8.Cal P w K mg base 2 "_law_of" spOf []) : C8.Cal P w K mg base 3 "_law_entry" spEntry [] := by
  refine C8.cal0 (N := N__law_entry) F b .nil sc__law_entry (fun vs H Q E h => ?_) (fun cdv A outer s H vs Q E hr h => ?_)
  · obtain ⟨b, c, G, rfl, _⟩ := h
    rfl
  · obtain ⟨b, c, G, rfl, hB, hc, gb, sG, k⟩ := h
    have hu := hu_of hr
    refine ⟨_, (pss_cons (ps_set (i := 1) sc__law_entry.nd rfl (Or.inl rfl) (C8.pe_c c__law_of hr (by decide) rfl (pa_cons (pv 0) (pa_cons (pe_lst (pa_cons pe_str (pa_cons pe_str (pa_cons pe_str (pa_cons pe_str (pa_cons pe_str (pa_cons pe_str (pa_cons pe_str pa_nil)))))))) pa_nil))))
 (pss_cons (ps_set (i := 2) sc__law_entry.nd rfl (Or.inl rfl) (C8.pe_c c__law_of hr (by decide) rfl (pa_cons (pv 0) (pa_cons (pe_lst (pa_cons pe_str (pa_cons pe_str (pa_cons pe_str (pa_cons pe_str (pa_cons pe_str (pa_cons pe_str (pa_cons pe_str (pa_cons pe_str (pa_cons pe_str (pa_cons pe_str (pa_cons pe_str (pa_cons pe_str (pa_cons pe_str (pa_cons pe_str (pa_cons pe_non (pa_cons pe_int (pa_cons pe_bl (pa_cons (pe_tup (pa_cons pe_str pa_nil)) (pa_cons (pe_lst (pa_cons pe_str pa_nil)) pa_nil)))))))))))))))))))) pa_nil))))
 (pss_cons (ps_set (i := 3) sc__law_entry.nd rfl (Or.inl rfl) (C8.pe_c c__law_of hr (by decide) rfl (pa_cons (pv 0) (pa_cons (pe_lst (pa_cons pe_int (pa_cons pe_int (pa_cons (pe_un un_neg pe_int) (pa_cons pe_non (pa_cons pe_bl (pa_cons pe_bl (pa_cons pe_str (pa_cons (pe_tup (pa_cons pe_int pa_nil)) (pa_cons (pe_op op_pow pe_int pe_int) pa_nil)))))))))) pa_nil))))
 (pss_cons (ps_set (i := 4) sc__law_entry.nd rfl (Or.inl rfl) (pe_op op_add pe_int (C8.pe_c c__law_take hr (by decide) rfl (pa_cons (pv 0) (pa_cons pe_int pa_nil)))))
 (pss_cons (ps_set (i := 5) sc__law_entry.nd rfl (Or.inl rfl) (pe_lst (pa_cons (pe_tup (pa_cons (pv 1) (pa_cons (pv 4) pa_nil))) (pa_cons (pe_tup (pa_cons (pv 1) (pa_cons (pv 4) pa_nil))) (pa_cons (pe_tup (pa_cons (pv 1) (pa_cons (pv 4) pa_nil))) (pa_cons (pe_tup (pa_cons (pv 2) (pa_cons (pv 4) pa_nil))) (pa_cons (pe_tup (pa_cons (pv 1) (pa_cons (pv 3) pa_nil))) (pa_cons (pe_lst (pa_cons (pv 1) (pa_cons (pv 4) pa_nil))) (pa_cons (pe_tup (pa_cons (pv 1) pa_nil)) (pa_cons (pe_tup (pa_cons (pv 1) (pa_cons (pv 4) (pa_cons (pv 4) pa_nil)))) pa_nil))))))))))
 (pss_one (ps_ret (C8.pe_c c__law_of hr (by decide) rfl (pa_cons (pv 0) (pa_cons (pe_op op_cat (pv 5) (pe_lst (pa_cons pe_non (pa_cons (pv 1) (pa_cons (pe_tup pa_nil) (pa_cons (pv 4) pa_nil)))))) pa_nil)))))))))), ?_⟩
    -- name
    refine ⟨_, rfl, (by show 7 ≤ sizeLine; decide), fun l hl => ?_⟩
    refine of_disp (xs := n7.map V.str) (ds := n7.map .str) (Xt.refl sG) hB (by omega) gb hl (DA.ofStrs _) (by decide) (by decide) (fun v d H1 hd dv X1 hB1 => ?_)
    obtain ⟨n, hn, rfl⟩ := List.mem_map.mp hd
    obtain rfl := dv.str_inv
    have sn := n7_short n hn
    clear hd dv hl l
    -- odd
    refine ⟨_, rfl, (by show 1 ≤ sizeLine; decide), fun t1 h1 => ⟨(by show 1 ≤ sizeLine; decide), fun t2 h2 => ⟨(by show 19 ≤ sizeLine; decide), fun l hl => ?_⟩⟩⟩
    have n1 : b ≠ t1 := fun q => by subst q; exact hB1.ne h1
    have Y1 := X1.alloc (o := .tup [.str "a"]) h1
    have C1 := hB1.upd (p := t1) (o := .tup [.str "a"]) n1
    have n2 : b ≠ t2 := fun q => by subst q; exact C1.ne h2
    have Y2 := Y1.alloc (o := .lst [.str "a"]) h2
    have C2 := C1.upd (p := t2) (o := .lst [.str "a"]) n2
    have a1 : D _ (.ref t1) (.tuple [.str "a"]) := D.newT (xs := [.str "a"]) (.one (.str _)) X1.sub h1
    have a2 : D _ (.ref t2) (.list [.str "a"]) := D.newL (xs := [.str "a"]) (.one (.str _)) Y1.sub h2
    refine of_disp (xs := n14.map V.str ++ [.non, .int 1, .bl true, .ref t1, .ref t2]) (ds := odds) Y2 C2 (by omega) (none_of_ne (none_of_ne gb n1) n2) hl ((DA.ofStrs _).append (.cons .non (.cons (.int 1) (.cons (.bl true) (.cons (a1.mono (upd_same_ (Y1.sub.free h2))) (.one a2)))))) (fun q => by cases q) (by show 19 ≤ 1000000; decide) (fun vo dO H2 hd dvo X2 hB2 => ?_)
    have okO := odds_ok dO hd
    have gb2 := none_of_ne (o := HO.lst [.str "a"]) (none_of_ne (o := HO.tup [.str "a"]) gb n1) n2
    revert gb2 X2 dvo
    generalize upd (upd G t1 (.tup [.str "a"])) t2 (.lst [.str "a"]) = G2
    intro dvo X2 gb2
    clear hd a1 a2 Y2 C2 Y1 C1 n1 n2 h1 h2 hl hB1 X1 l
    -- wrong
    refine ⟨_, rfl, _, rfl, (by show 1 ≤ sizeLine; decide), fun t1 h1 => ⟨_, _, rfl, rfl, ⟨by decide, by decide, by decide⟩, (by show 9 ≤ sizeLine; decide), fun l hl => ?_⟩⟩
    have n1 : b ≠ t1 := fun q => by subst q; exact hB2.ne h1
    have Y1 := X2.alloc (o := .tup [.int 1]) h1
    have C1 := hB2.upd (p := t1) (o := .tup [.int 1]) n1
    have s1 : Same G2 (upd G2 t1 (.tup [.int 1])) := upd_same_ (X2.sub.free h1)
    have a1 : D _ (.ref t1) (.tuple [.int 1]) := D.newT (xs := [.int 1]) (.one (.int _)) X2.sub h1
    refine of_disp (xs := [.int 0, .int 4, .int (-1), .non, .bl true, .bl false, .str "1", .ref t1, .int (10 ^ Int.toNat 20)]) (ds := [.int 0, .int 4, .int (-1), .none, .bool true, .bool false, .str "1", .tuple [.int 1], .int (10 ^ Int.toNat 20)]) Y1 C1 (by omega) (none_of_ne gb2 n1) hl
      (.cons (.int _) (.cons (.int _) (.cons (.int _) (.cons .non (.cons (.bl _) (.cons (.bl _) (.cons (.str _) (.cons a1 (.one (.int _)))))))))) (fun q => by cases q) (by show 9 ≤ 1000000; decide) (fun vw dw H3 hd dvw X3 hB3 => ?_)
    have gb3 := none_of_ne (o := HO.tup [.int 1]) gb2 n1
    have dvo3 := dvo.mono s1
    revert gb3 X3 dvw dvo3
    generalize upd G2 t1 (.tup [.int 1]) = G3
    intro dvw X3 gb3 dvo3
    clear hd a1 Y1 C1 n1 h1 hl hB2 X2 l s1 dvo gb2
    -- top
    refine ⟨_, rfl, b, 3, _, rfl, by decide, by decide, hB3, by omega, fun r x y z r0 r1 hB4 => ?_⟩
    have X4 := X3.put (o := .lst [.int x, .int y, .int z]) gb3
    refine ⟨_, _, rfl, rfl, ?_⟩
    revert X4 hB4
    generalize upd H3 b (.lst [.int x, .int y, .int z]) = H4
    intro hB4 X4
    show gName 4 (V.int (1 + r)) _ _ _
    generalize (1 + r : Int) = tp
    have X_0 := X4
    have B_0 := hB4
    have g_0 := gb3
    have o_0 := dvo3
    have w_0 := dvw
    have acc_0 : DA G3 [] [] := .nil
    refine ⟨_, rfl, _, rfl, (by show 2 ≤ sizeLine; decide), fun p1 hp1 => ?_⟩
    have m1 : b ≠ p1 := fun q => by subst q; exact B_0.ne hp1
    have s1 := upd_same_ (o := .tup [.str n, .int tp]) (X_0.sub.free hp1)
    have e1 : D _ (.ref p1) (.tuple [.str n, .int tp]) := D.newT (xs := [.str n, .int tp]) (.cons (.str _) (.cons (.int _) .nil)) X_0.sub hp1
    have X_1 := X_0.alloc (o := .tup [.str n, .int tp]) hp1
    have B_1 := B_0.upd (p := p1) (o := .tup [.str n, .int tp]) m1
    have g_1 := none_of_ne (o := HO.tup [.str n, .int tp]) g_0 m1
    have o_1 := o_0.mono s1
    have w_1 := w_0.mono s1
    have acc_1 := (acc_0.mono s1).append (.one e1)
    clear X_0 B_0 g_0 o_0 w_0 acc_0 e1 s1 m1
    refine ⟨_, rfl, _, rfl, (by show 2 ≤ sizeLine; decide), fun p2 hp2 => ?_⟩
    have m2 : b ≠ p2 := fun q => by subst q; exact B_1.ne hp2
    have s2 := upd_same_ (o := .tup [.str n, .int tp]) (X_1.sub.free hp2)
    have e2 : D _ (.ref p2) (.tuple [.str n, .int tp]) := D.newT (xs := [.str n, .int tp]) (.cons (.str _) (.cons (.int _) .nil)) X_1.sub hp2
    have X_2 := X_1.alloc (o := .tup [.str n, .int tp]) hp2
    have B_2 := B_1.upd (p := p2) (o := .tup [.str n, .int tp]) m2
    have g_2 := none_of_ne (o := HO.tup [.str n, .int tp]) g_1 m2
    have o_2 := o_1.mono s2
    have w_2 := w_1.mono s2
    have acc_2 := (acc_1.mono s2).append (.one e2)
    clear X_1 B_1 g_1 o_1 w_1 acc_1 e2 s2 m2
    refine ⟨_, rfl, _, rfl, (by show 2 ≤ sizeLine; decide), fun p3 hp3 => ?_⟩
    have m3 : b ≠ p3 := fun q => by subst q; exact B_2.ne hp3
    have s3 := upd_same_ (o := .tup [.str n, .int tp]) (X_2.sub.free hp3)
    have e3 : D _ (.ref p3) (.tuple [.str n, .int tp]) := D.newT (xs := [.str n, .int tp]) (.cons (.str _) (.cons (.int _) .nil)) X_2.sub hp3
    have X_3 := X_2.alloc (o := .tup [.str n, .int tp]) hp3
    have B_3 := B_2.upd (p := p3) (o := .tup [.str n, .int tp]) m3
    have g_3 := none_of_ne (o := HO.tup [.str n, .int tp]) g_2 m3
    have o_3 := o_2.mono s3
    have w_3 := w_2.mono s3
    have acc_3 := (acc_2.mono s3).append (.one e3)
    clear X_2 B_2 g_2 o_2 w_2 acc_2 e3 s3 m3
    refine ⟨_, rfl, _, rfl, (by show 2 ≤ sizeLine; decide), fun p4 hp4 => ?_⟩
    have m4 : b ≠ p4 := fun q => by subst q; exact B_3.ne hp4
    have s4 := upd_same_ (o := .tup [vo, .int tp]) (X_3.sub.free hp4)
    have e4 : D _ (.ref p4) (.tuple [dO, .int tp]) := D.newT (xs := [vo, .int tp]) (.cons (o_3) (.cons (.int _) .nil)) X_3.sub hp4
    have X_4 := X_3.alloc (o := .tup [vo, .int tp]) hp4
    have B_4 := B_3.upd (p := p4) (o := .tup [vo, .int tp]) m4
    have g_4 := none_of_ne (o := HO.tup [vo, .int tp]) g_3 m4
    have o_4 := o_3.mono s4
    have w_4 := w_3.mono s4
    have acc_4 := (acc_3.mono s4).append (.one e4)
    clear X_3 B_3 g_3 o_3 w_3 acc_3 e4 s4 m4
    refine ⟨_, rfl, _, rfl, (by show 2 ≤ sizeLine; decide), fun p5 hp5 => ?_⟩
    have m5 : b ≠ p5 := fun q => by subst q; exact B_4.ne hp5
    have s5 := upd_same_ (o := .tup [.str n, vw]) (X_4.sub.free hp5)
    have e5 : D _ (.ref p5) (.tuple [.str n, dw]) := D.newT (xs := [.str n, vw]) (.cons (.str _) (.cons (w_4) .nil)) X_4.sub hp5
    have X_5 := X_4.alloc (o := .tup [.str n, vw]) hp5
    have B_5 := B_4.upd (p := p5) (o := .tup [.str n, vw]) m5
    have g_5 := none_of_ne (o := HO.tup [.str n, vw]) g_4 m5
    have o_5 := o_4.mono s5
    have w_5 := w_4.mono s5
    have acc_5 := (acc_4.mono s5).append (.one e5)
    clear X_4 B_4 g_4 o_4 w_4 acc_4 e5 s5 m5
    refine ⟨_, rfl, _, rfl, (by show 2 ≤ sizeLine; decide), fun p6 hp6 => ?_⟩
    have m6 : b ≠ p6 := fun q => by subst q; exact B_5.ne hp6
    have s6 := upd_same_ (o := .lst [.str n, .int tp]) (X_5.sub.free hp6)
    have e6 : D _ (.ref p6) (.list [.str n, .int tp]) := D.newL (xs := [.str n, .int tp]) (.cons (.str _) (.cons (.int _) .nil)) X_5.sub hp6
    have X_6 := X_5.alloc (o := .lst [.str n, .int tp]) hp6
    have B_6 := B_5.upd (p := p6) (o := .lst [.str n, .int tp]) m6
    have g_6 := none_of_ne (o := HO.lst [.str n, .int tp]) g_5 m6
    have o_6 := o_5.mono s6
    have w_6 := w_5.mono s6
    have acc_6 := (acc_5.mono s6).append (.one e6)
    clear X_5 B_5 g_5 o_5 w_5 acc_5 e6 s6 m6
    refine ⟨_, rfl, (by show 1 ≤ sizeLine; decide), fun p7 hp7 => ?_⟩
    have m7 : b ≠ p7 := fun q => by subst q; exact B_6.ne hp7
    have s7 := upd_same_ (o := .tup [.str n]) (X_6.sub.free hp7)
    have e7 : D _ (.ref p7) (.tuple [.str n]) := D.newT (xs := [.str n]) (.cons (.str _) .nil) X_6.sub hp7
    have X_7 := X_6.alloc (o := .tup [.str n]) hp7
    have B_7 := B_6.upd (p := p7) (o := .tup [.str n]) m7
    have g_7 := none_of_ne (o := HO.tup [.str n]) g_6 m7
    have o_7 := o_6.mono s7
    have w_7 := w_6.mono s7
    have acc_7 := (acc_6.mono s7).append (.one e7)
    clear X_6 B_6 g_6 o_6 w_6 acc_6 e7 s7 m7
    refine ⟨_, rfl, _, rfl, _, rfl, (by show 3 ≤ sizeLine; decide), fun p8 hp8 => ?_⟩
    have m8 : b ≠ p8 := fun q => by subst q; exact B_7.ne hp8
    have s8 := upd_same_ (o := .tup [.str n, .int tp, .int tp]) (X_7.sub.free hp8)
    have e8 : D _ (.ref p8) (.tuple [.str n, .int tp, .int tp]) := D.newT (xs := [.str n, .int tp, .int tp]) (.cons (.str _) (.cons (.int _) (.cons (.int _) .nil))) X_7.sub hp8
    have X_8 := X_7.alloc (o := .tup [.str n, .int tp, .int tp]) hp8
    have B_8 := B_7.upd (p := p8) (o := .tup [.str n, .int tp, .int tp]) m8
    have g_8 := none_of_ne (o := HO.tup [.str n, .int tp, .int tp]) g_7 m8
    have o_8 := o_7.mono s8
    have w_8 := w_7.mono s8
    have acc_8 := (acc_7.mono s8).append (.one e8)
    clear X_7 B_7 g_7 o_7 w_7 acc_7 e8 s8 m8
    refine ⟨(by show 8 ≤ sizeLine; decide), fun ps hps => ?_⟩
    have ms : b ≠ ps := fun q => by subst q; exact B_8.ne hps
    have e9 : D _ (.ref ps) (.list [.tuple [.str n, .int tp], .tuple [.str n, .int tp], .tuple [.str n, .int tp], .tuple [dO, .int tp], .tuple [.str n, dw], .list [.str n, .int tp], .tuple [.str n], .tuple [.str n, .int tp, .int tp]]) := D.newL (xs := [.ref p1, .ref p2, .ref p3, .ref p4, .ref p5, .ref p6, .ref p7, .ref p8]) acc_8 X_8.sub hps
    have X_9 := X_8.alloc (o := .lst [.ref p1, .ref p2, .ref p3, .ref p4, .ref p5, .ref p6, .ref p7, .ref p8]) hps
    have B_9 := B_8.upd (p := ps) (o := .lst [.ref p1, .ref p2, .ref p3, .ref p4, .ref p5, .ref p6, .ref p7, .ref p8]) ms
    have g_9 := none_of_ne (o := HO.lst [.ref p1, .ref p2, .ref p3, .ref p4, .ref p5, .ref p6, .ref p7, .ref p8]) g_8 ms
    clear X_8 B_8 g_8 o_8 w_8 acc_8
    refine ⟨_, rfl, _, rfl, _, rfl, Nat.zero_le _, fun pe hpe => ?_⟩
    have me : b ≠ pe := fun q => by subst q; exact B_9.ne hpe
    have s10 := upd_same_ (o := .tup []) (X_9.sub.free hpe)
    have e10 : D _ (.ref pe) (.tuple []) := D.newT (xs := []) .nil X_9.sub hpe
    have X_10 := X_9.alloc (o := .tup []) hpe
    have B_10 := B_9.upd (p := pe) (o := .tup []) me
    have g_10 := none_of_ne (o := HO.tup []) g_9 me
    refine ⟨_, rfl, (by show 4 ≤ sizeLine; decide), fun pf hpf => ?_⟩
    have mf : b ≠ pf := fun q => by subst q; exact B_10.ne hpf
    have s11 := upd_same_ (o := .lst [.non, .str n, .ref pe, .int tp]) (X_10.sub.free hpf)
    have e11 : D _ (.ref pf) (.list [.none, .str n, .tuple [], .int tp]) := D.newL (xs := [.non, .str n, .ref pe, .int tp]) (.cons .non (.cons (.str _) (.cons e10 (.one (.int _))))) X_10.sub hpf
    have X_11 := X_10.alloc (o := .lst [.non, .str n, .ref pe, .int tp]) hpf
    have B_11 := B_10.upd (p := pf) (o := .lst [.non, .str n, .ref pe, .int tp]) mf
    have g_11 := none_of_ne (o := HO.lst [.non, .str n, .ref pe, .int tp]) g_10 mf
    refine catL_data ((e9.mono s10).mono s11) e11 X_11.sub (by show 12 ≤ 100000; decide) fun q H12 G12 X12 dq => ?_
    have X_12 := X_11.trans X12.of
    have B_12 := B_11.keep X12
    have g_12 := X12.non B_11.ne g_11
    obtain ⟨qa, qs, rfl, hq, dqs⟩ := dq.list_inv
    have ql : qs.length = 12 := dqs.length
    have nq : qa ≠ b := fun z => by subst z; rw [g_12] at hq; cases hq
    refine ⟨b, qa, qs, _, rfl, X_12.sub _ _ hq, nq, (fun z => by rw [z] at ql; cases ql), by omega, B_12, by omega, fun v i x y z hv hB5 => ?_⟩
    obtain ⟨d, hd, dv⟩ := dqs.get hv
    refine k v d _ _ (X_12.put g_12) (hB5.mono (by omega)) dv ?_
    have hm := List.mem_of_getElem? hd
    simp only [List.cons_append, List.nil_append, List.mem_cons, List.mem_nil_iff, or_false] at hm
    rcases hm with rfl | rfl | rfl | rfl | rfl | rfl | rfl | rfl | rfl | rfl | rfl | rfl
    · exact sn
    · exact sn
    · exact sn
    · exact shortD_pair okO
    · exact sn
    all_goals trivial
def spEntries : Sp := fun vs H Q _ => ∃ (b : Addr) (c : Int) (G : Hp), vs = [.ref b] ∧ Bag H b c ∧ c ≤ 90000 ∧ G b = none ∧ Same G H ∧
  ∀ (p : Addr) (ds : List PyData) (H' G' : Hp), Xt (some b) H G H' G' → Bag H' b (c + 60) → D G' (.ref p) (.list ds) → ds.length ≤ 5 → (∀ d ∈ ds, shortD d) → Q (.ref p) H'
def i9 : List Int := [0, 1, 1, 2, 2, 3, 3, 4, 5]
theorem i9_le : ∀ i ∈ i9, 0 ≤ i ∧ i ≤ 5 := by decide +kernel
theorem D.int_inv {G : Hp} {v : V} {n : Int} (h : D G v (.int n)) : v = .int n := by
  cases h
  rfl
theorem entries {f : Addr} {fd : FuncData} (F : C8.Def K mg "_law_entries" s__law_entries f fd) (b : Binds K fd P__law_entries []) (T : Names K mg) (c__law_of : C8.Cal P w K mg base 2 "_law_of" spOf []) (c__law_entry : C8.Cal P w K mg base 3 "_law_entry" spEntry []) : C8.Cal P w K mg base 4 "_law_entries" spEntries [] := by
  refine C8.cal0 (N := N__law_entries) F b .nil sc__law_entries (fun vs H Q E h => ?_) (fun cdv A outer s H vs Q E hr h => ?_)
  · obtain ⟨b, c, G, rfl, _⟩ := h
    rfl
  · obtain ⟨b, c, G, rfl, hB, hc, gb, sG, k⟩ := h
    refine ⟨_, (pss_one (ps_ret (pe_lc (own := [("_law_turn", 1)]) (g := (gName 1)) (tt := tYes) rfl sc__law_entries.nd (pi_range1 rfl T.n_range (pa_cons (C8.pe_c c__law_of hr (by decide) rfl (pa_cons (pv 0) (pa_cons (pe_lst (pa_cons pe_int (pa_cons pe_int (pa_cons pe_int (pa_cons pe_int (pa_cons pe_int (pa_cons pe_int (pa_cons pe_int (pa_cons pe_int (pa_cons pe_int pa_nil)))))))))) pa_nil))) pa_nil)) (blkOk_by (own := [("_law_turn", 1)]) (N := N__law_entries) (sc := C8.fnScope s__law_entries) (by decide +kernel)) (fun _ _ _ _ _ => (pg_name (i := 1) sc__law_entries.nd rfl (Or.inl rfl))) (fun _ _ _ _ _ => pts_nil) (fun _ _ _ _ _ => (C8.pe_c c__law_entry (by exact hr) (by decide) rfl (pa_cons (pv 0) pa_nil)))))), ?_⟩
    refine ⟨_, rfl, (by show 9 ≤ sizeLine; decide), fun l hl => ?_⟩
    refine of_disp (xs := i9.map V.int) (ds := i9.map .int) (Xt.refl sG) hB (by omega) gb hl (DA.ofInts _) (by decide) (by decide) (fun v d H1 hd dv X1 hB1 => ?_)
    obtain ⟨n, hn, rfl⟩ := List.mem_map.mp hd
    obtain rfl := dv.int_inv
    have sn := i9_le n hn
    refine ⟨_, rfl, by omega, by omega, fun Dl hD => ?_⟩
    have nD : b ≠ Dl := fun q => by subst q; exact hB1.ne hD
    have nDs : some b ≠ some Dl := fun q => nD (Option.some.inj q)
    have gD : G Dl = none := X1.sub.free hD
    refine lc_it (Qd := _) walk_range (fun i H' => ∃ (G' : Hp) (xs : List V) (ds : List PyData), Xt (some b) H1 G H' G' ∧ Bag H' b (c + 1 + 10 * (i : Int)) ∧ G' b = none ∧ H' Dl = some (.lst xs) ∧ G' Dl = none ∧ DA G' xs ds ∧ ds.length = i ∧ ∀ d ∈ ds, shortD d) ?_ ?_ ?_ ?_
    · exact ⟨G, [], [], (Xt.refl X1.sub).allocT hD, (hB1.upd nD).mono (by omega), gb, upd_same, gD, .nil, rfl, fun d h => by cases h⟩
    · exact fun _ _ _ _ => trivial
    · rintro i y H2 H3 hi ⟨G2, xs, ds, X, hB2, g2, h2, gD2, da, hlen, sh⟩ ⟨rfl, rfl⟩
      have hi5 : (i : Int) < 5 := by omega
      refine ⟨rfl, _, rfl, b, _, G2, rfl, hB2, by omega, g2, X.sub, fun v d H4 G4 X4 hB4 dv sd => ?_⟩
      have h4 := X4.hh Dl _ nDs h2
      have g4 := X4.non (ne_none_of h2) gD2
      have l1 := da.length
      refine ⟨xs, h4, small_lt (by omega), G4, xs ++ [v], ds ++ [d], (X.trans X4).set hD g4, (hB4.upd nD).mono (by push_cast; omega), X4.non hB2.ne g2, upd_same, g4, (da.mono X4.gg).append (.one dv), by rw [List.length_append, hlen]; rfl, ?_⟩
      intro e he
      rcases List.mem_append.mp he with he | he
      · exact sh e he
      · rw [List.mem_singleton.mp he]
        exact sd
    · rintro H2 ⟨G2, xs, ds, X, hB2, g2, h2, gD2, da, hlen, sh⟩
      refine k Dl ds H2 _ ((X1.trans X).fix (X1.fresh hD) h2) (hB2.mono (by omega)) (.lst upd_same (da.mono (upd_same_ gD2))) (by omega) sh
end
end Nw
namespace Nw
open PySem L2 PySem.Spec PyProof.Rows RZ
theorem noPart {σ : L2.St} {H : Hp} {Q : Option Int → Hp → Prop} (h : Q none H) : tNoPart σ H Q := h
def spLaw (K : PySem.W.Frag) : Sp := fun vs H Q _ => ∃ (a : Addr) (ns : List Int), vs = [.ref a] ∧ SqL K H a (ns.map V.int) ∧ ns.length ≤ 63 ∧ ∀ H', Q (.bl true) H'
def toldD : Option Int → PyData
  | none => .none
  | some i => .int i
theorem told_d (G : Hp) (r : Option Int) : D G (toldV r) (toldD r) := by
  cases r with
  | none => exact .non
  | some i => exact .int i
theorem told_sh (r : Option Int) : SeqAt.shaped (toldD r) = true := by
  cases r <;> rfl
theorem told_eqv (r : Option Int) : PyData.eqv (toldD r) (toldD r) = true := by
  cases r with
  | none => rfl
  | some i =>
    show (i == i) = true
    simp
/-- short lists of short entries -/
def okL (d : PyData) : Prop := ∃ ds, d = .list ds ∧ ds.length ≤ 100 ∧ ∀ e ∈ ds, shortD e
theorem cols_short {cols : List Col} (g : Good n10 cols) : ∀ d ∈ dCols cols, shortD d := fun d h => by
  obtain ⟨c, hc, rfl⟩ := List.mem_map.mp h
  exact (isCol_good (n10_n11 _ (g.names c hc)) (g.tops c hc)).2
theorem twice_bad {cols : List Col} (g : Good n10 cols) {c : Col} {r : List PyData} (hc : c ∈ cols) (hr : r.length ≤ 1) : wrongAt ([dCol c, dCol (c.1, 1)] ++ r) = some 1 := by
  have h : isCol (dCol c) = true := (isCol_good (n10_n11 _ (g.names c hc)) (g.tops c hc)).1
  have e1 : wrongAt ([dCol c, dCol (c.1, 1)] ++ r) = badFrom [] 0 ([dCol c, dCol (c.1, 1)] ++ r) := if_pos ⟨by simp, by simp; omega⟩
  rw [e1]
  have e2 : badFrom [] 0 ([dCol c, dCol (c.1, 1)] ++ r) = badFrom ([] ++ [nameOf (dCol c)]) 1 (dCol (c.1, 1) :: r) := badFrom_ok h (by simp)
  rw [e2]
  exact badFrom_name (by show c.1 ∈ [c.1]; exact List.mem_singleton.mpr rfl)
section
variable {P : Program} {w : World} {K : PySem.W.Frag} {mg : Str → Option Value} {base : Heap}
theorem lLaw {f : Addr} {fd : FuncData} (F : C8.Def K mg "law" s_law f fd) (T : Names K mg)
    (c__law_bag : C8.Cal P w K mg base 1 "_law_bag" (spBag K) []) (c__law_columns : C8.Cal P w K mg base 2 "_law_columns" spColumns []) (c__law_take : C8.Cal P w K mg base 1 "_law_take" spTake [])
    (c__law_entries : C8.Cal P w K mg base 4 "_law_entries" spEntries []) (c__law_told : C8.Cal P w K mg base 6 "_law_told" spTold []) (c__law_due : C8.Cal P w K mg base 2 "_law_due" spDue []) :
    FnOk P w K mg base C8.CX0 7 f fd ["_law_script"] (spLaw K) := by
  refine C8.fn0 F.fn sc_law (fun vs H Q E h => ?_) (fun cdv A outer s H vs Q E hr h => ?_)
  · obtain ⟨a, ns, rfl, _⟩ := h
    rfl
  · obtain ⟨a, ns, rfl, hS, hlen, k⟩ := h
    have hu := hu_of hr
    refine ⟨_, (pss_cons (ps_for PassesOwn.never rfl (pi_range1 rfl T.n_range (pa_cons (pe_callB (call_max2 rfl) (by rfl) T.n_max (by decide +kernel) (pa_cons pe_int (pa_cons (pe_callB (call_min2 rfl) (by rfl) T.n_min (by decide +kernel) (pa_cons pe_int (pa_cons (pe_callB call_len_seq (by rfl) T.n_len PySem.boot_len (pa_cons (pv 0) pa_nil)) pa_nil))) pa_nil))) pa_nil)) (pg_name (i := 1) sc_law.nd rfl (Or.inl rfl)) (pss_cons (ps_set (i := 2) sc_law.nd rfl (Or.inl rfl) (C8.pe_c c__law_bag hr (by decide) rfl (pa_cons (pv 0) (pa_cons (pv 1) pa_nil))))
 (pss_cons (ps_for PassesOwn.never rfl (pi_range1 rfl T.n_range (pa_cons pe_int pa_nil)) (pg_name (i := 3) sc_law.nd rfl (Or.inl rfl)) (pss_cons (ps_set (i := 6) sc_law.nd rfl (Or.inl rfl) (C8.pe_c c__law_entries hr (by decide) rfl (pa_cons (pv 2) pa_nil)))
 (pss_one (ps_if (pt_cmpR (op_neD hr.units) (C8.pe_c c__law_told hr (by decide) rfl (pa_cons (pv 6) pa_nil)) (C8.pe_c c__law_due hr (by decide) rfl (pa_cons (pv 6) pa_nil)) (nomark _)) (pss_one (ps_ret pe_bl)) pss_nil))))
 (pss_cons (ps_set (i := 4) sc_law.nd rfl (Or.inl rfl) (C8.pe_c c__law_columns hr (by decide) rfl (pa_cons (pv 2) pa_nil)))
 (pss_cons (ps_set (i := 5) sc_law.nd rfl (Or.inl rfl) (C8.pe_c c__law_take hr (by decide) rfl (pa_cons (pv 2) (pa_cons (pe_callB call_len_seq (by rfl) T.n_len PySem.boot_len (pa_cons (pv 4) pa_nil)) pa_nil))))
 (pss_cons (ps_for PassesOwn.never rfl (pi_tup (pe_tup (pa_cons (pe_lst pa_nil) (pa_cons (pe_op op_cat (pv 4) (pe_op op_rep (pe_lst (pa_cons (pe_tup (pa_cons pe_str (pa_cons pe_int pa_nil))) pa_nil)) pe_int)) (pa_cons (pe_op op_cat (pe_op op_cat (pe_slice (sl_listK (K := K) rfl) (pv 4) po_none (po_some (pv 5))) (pe_lst (pa_cons pe_non pa_nil))) (pe_slice (sl_listK (K := K) rfl) (pv 4) (po_some (pe_op op_add (pv 5) pe_int)) po_none)) (pa_cons (pv 4) pa_nil)))))) (pg_name (i := 6) sc_law.nd rfl (Or.inl rfl)) (pss_one (ps_if (pt_cmpR (op_neD hr.units) (C8.pe_c c__law_told hr (by decide) rfl (pa_cons (pe_callTy call_list_of (by rfl) T.n_list (by decide +kernel) (pa_cons (pv 6) pa_nil)) pa_nil)) (C8.pe_c c__law_due hr (by decide) rfl (pa_cons (pv 6) pa_nil)) (nomark _)) (pss_one (ps_ret pe_bl)) pss_nil)))
 (pss_one (ps_if (PW.pt (pw_and (pt_cmpR op_gt (pe_callB call_len_seq (by rfl) T.n_len PySem.boot_len (pa_cons (pv 4) pa_nil)) pe_int (nomark _)) (pw_and1 (pt_cmpR (op_neD hr.units) (C8.pe_c c__law_told hr (by decide) rfl (pa_cons (pe_op op_cat (pe_lst (pa_cons (pe_ix ix_list (pv 4) pe_int (fun _ _ => rfl)) (pa_cons (pe_tup (pa_cons (pe_ix ix_tup (pe_ix ix_list (pv 4) pe_int (fun _ _ => rfl)) pe_int (fun _ _ => rfl)) (pa_cons pe_int pa_nil))) pa_nil))) (pe_slice (sl_listK (K := K) rfl) (pv 4) (po_some pe_int) po_none)) pa_nil)) pe_int (nomark _))))) (pss_one (ps_ret pe_bl)) pss_nil))))))))
 (pss_one (ps_ret pe_bl))), ?_⟩
    have small : ∀ n : Int, (if (if n < 4 then n else 4) > 1 then (if n < 4 then n else 4) else 1) ≤ 4 := fun n => by split <;> split <;> omega
    have big : ∀ n : Int, 1 ≤ (if (if n < 4 then n else 4) > 1 then (if n < 4 then n else 4) else 1) := fun n => by split <;> omega
    refine ⟨_, rfl, a, _, rfl, .inl hS, _, _, rfl, _, _, rfl, _, rfl, Int.le_trans (by decide) (big _), Int.lt_of_le_of_lt (small _) (by decide), ?_⟩
    refine for_it walk_range (fun i σ' H' => ∃ v1 v2 v3 v4 v5 v6 : Option V, σ' = [some (.ref a), v1, v2, v3, v4, v5, v6] ∧ Same H H') ?_ ?_ ?_ ?_
    · exact ⟨none, none, none, none, none, none, rfl, fun _ _ h => h⟩
    · exact fun _ _ _ _ _ => trivial
    · rintro i y σ' H1 H2 hi ⟨v1, v2, v3, v4, v5, v6, rfl, s1⟩ ⟨rfl, rfl⟩
      have hi4 : (i : Int) ≤ 4 := by
        have := small (((ns.map V.int).length : Nat) : Int)
        omega
      refine ⟨_, rfl, _, rfl, a, ns, _, rfl, s1.seq hS, by omega, by omega, fun b x y z hp hB => ?_⟩
      have X0 : Xt (some b) (upd H2 b (.lst [.int x, .int y, .int z])) H2 (upd H2 b (.lst [.int x, .int y, .int z])) H2 := Xt.refl (upd_same_ hp)
      revert X0 hB
      generalize upd H2 b (.lst [.int x, .int y, .int z]) = Hb
      intro hB X0
      -- entries
      refine ⟨_, rfl, by decide, by decide, ?_⟩
      refine for_it walk_range (fun j σ' H' => ∃ (G' : Hp) (v3 v6 : Option V), σ' = [some (.ref a), some (.int (0 + (i : Int))), some (.ref b), v3, v4, v5, v6] ∧ Xt (some b) Hb H2 H' G' ∧ Bag H' b (60 * (j : Int)) ∧ G' b = none) ?_ ?_ ?_ ?_
      · exact ⟨H2, _, _, rfl, X0, hB, hp⟩
      · exact fun _ _ _ _ _ => trivial
      · rintro j y2 σ' H3 H4 hj ⟨G3, v3', v6', rfl, X, hB3, g3⟩ ⟨rfl, rfl⟩
        have hj8 : (j : Int) < 8 := by
          have : ((8 : Int).toNat) = 8 := rfl
          omega
        refine ⟨_, rfl, b, _, G3, rfl, hB3, by omega, g3, X.sub, fun p ds H5 G5 X5 hB5 dp l5 sh => ?_⟩
        have g5 : G5 b = none := X5.non hB3.ne g3
        refine ⟨_, rfl, p, ds, G5, rfl, dp, by omega, sh, X5.sub, fun H6 G6 X6 => ?_⟩
        refine ⟨_, rfl, p, ds, G6, rfl, dp.mono X6.gg, by omega, sh, X6.sub, fun H7 G7 X7 => ?_⟩
        refine ⟨_, _, (told_d G7 _).dp X7.sub, (told_d G7 _).dp X7.sub, told_sh _, told_sh _, _, rfl, ?_⟩
        rw [told_eqv]
        refine iteF ?_
        have Y := X6.trans X7
        exact ⟨G7, _, _, rfl, (X.trans X5).trans Y.of, ((hB5.keep X6).keep X7).mono (by push_cast; omega), Y.non hB5.ne g5⟩
      rintro σ' H3 ⟨G3, v3', v6', rfl, X, hB3, g3⟩
      have e8 : ((8 : Int).toNat : Int) = 8 := rfl
      -- columns, a place
      refine ⟨_, rfl, b, _, G3, rfl, hB3, by omega, g3, X.sub, fun p cols cs H4 G4 X4 hB4 good gp dp => ?_⟩
      have g4 : G4 b = none := X4.non hB3.ne g3
      have hcl : cs.length = cols.length := by rw [dp.length, dCols, List.length_map]
      have hl1 := good.len.1
      have hl3 := good.len.2
      refine ⟨_, rfl, _, rfl, p, cs, rfl, .inl (SqL.of (X4.sub _ _ gp)), b, _, _, rfl, by omega, by omega, hB4, by omega, fun r x1 y1 z1 r0 r1 hB5 => ?_⟩
      have X5 := (X.trans X4).put (o := .lst [.int x1, .int y1, .int z1]) g4
      revert X5 hB5
      generalize upd H4 b (.lst [.int x1, .int y1, .int z1]) = H5
      intro hB5 X5
      have dcols : D G4 (.ref p) (.list (dCols cols)) := .lst gp dp
      have lC : (dCols cols).length ≤ 3 := by rw [dCols, List.length_map]; exact hl3
      have shC := cols_short good
      -- the lists
      refine ⟨Nat.zero_le _, fun l0 hl0 => ?_⟩
      have Y1 := (Xt.refl (b := none) X5.sub).alloc (o := .lst []) hl0
      have acc1 : DA (upd G4 l0 (.lst [])) [.ref l0] [.list []] := .one (D.newL (xs := []) .nil X5.sub hl0)
      refine ⟨_, rfl, (by show 2 ≤ sizeLine; decide), fun t1 ht1 => ?_⟩
      have Y2 := Y1.alloc (o := .tup [.str "new", .int 1]) ht1
      have acc2 := acc1.mono (upd_same_ (o := .tup [.str "new", .int 1]) (Y1.sub.free ht1))
      have dt : D _ (.ref t1) (dCol ("new", 1)) := D.newT (xs := [.str "new", .int 1]) (.cons (.str _) (.one (.int _))) Y1.sub ht1
      refine ⟨(by show 1 ≤ sizeLine; decide), fun la hla => ?_⟩
      have Y3 := Y2.allocT (o := .lst [.ref t1]) hla
      refine ⟨la, 3, [.ref t1], rfl, rfl, upd_same, by decide, by decide, (by show 3 ≤ sizeLine; decide), fun lb hlb => ?_⟩
      have Y4 := Y3.alloc (o := .lst [.ref t1, .ref t1, .ref t1]) hlb
      have sb := upd_same_ (o := .lst [.ref t1, .ref t1, .ref t1]) (Y3.sub.free hlb)
      have acc4 := acc2.mono sb
      have dlb : D _ (.ref lb) (.list [dCol ("new", 1), dCol ("new", 1), dCol ("new", 1)]) := D.newL (xs := [.ref t1, .ref t1, .ref t1]) (.cons dt (.cons dt (.one dt))) Y3.sub hlb
      refine catL_data (dcols.mono Y4.gg) dlb Y4.sub (by show (dCols cols).length + 3 ≤ 100000; omega) fun q1 H6 G6 Z6 dq1 => ?_
      have Y6 := Y4.trans Z6
      have acc6 := (acc4.mono Z6.gg).append (.one dq1)
      clear Y1 Y2 Y3 Y4 acc1 acc2 acc4 dt dlb sb hl0 ht1 hla hlb Z6 dq1
      refine ⟨_, rfl, _, rfl, _, rfl, ?_⟩
      refine slL_data (dcols.mono Y6.gg) Y6.sub fun q2 H7 G7 Z7 dq2 => ?_
      have er : r = ((r.toNat : Nat) : Int) := by omega
      rw [er, cutD_take] at dq2
      have Y7 := Y6.trans Z7
      have acc7 := acc6.mono Z7.gg
      refine ⟨(by show 1 ≤ sizeLine; decide), fun lc hlc => ?_⟩
      have Y8 := Y7.alloc (o := .lst [.non]) hlc
      have s8 := upd_same_ (o := .lst [.non]) (Y7.sub.free hlc)
      have dlc : D _ (.ref lc) (.list [.none]) := D.newL (xs := [.non]) (.one .non) Y7.sub hlc
      have acc8 := acc7.mono s8
      have lT : ((dCols cols).take r.toNat).length ≤ 3 := by rw [List.length_take]; omega
      refine catL_data (dq2.mono s8) dlc Y8.sub (by rw [List.length_singleton]; omega) fun q3 H9 G9 Z9 dq3 => ?_
      have Y9 := Y8.trans Z9
      have acc9 := acc8.mono Z9.gg
      refine ⟨_, rfl, _, rfl, _, _, rfl, rfl, _, rfl, ?_⟩
      refine noPart ?_
      refine slL_data (dcols.mono Y9.gg) Y9.sub fun q4 H10 G10 Z10 dq4 => ?_
      rw [show r + 1 = ((r.toNat + 1 : Nat) : Int) by omega, cutD_drop] at dq4
      have Y10 := Y9.trans Z10
      have acc10 := acc9.mono Z10.gg
      have lD : ((dCols cols).drop (r.toNat + 1)).length ≤ 3 := by rw [List.length_drop]; omega
      refine catL_data (dq3.mono Z10.gg) dq4 Y10.sub (by rw [List.length_append, List.length_singleton]; omega) fun q5 H11 G11 Z11 dq5 => ?_
      have Y11 := Y10.trans Z11
      have acc11 := ((acc10.mono Z11.gg).append (.one dq5)).append (.one (dcols.mono Y11.gg))
      clear Y6 Y7 Y8 Y9 Y10 acc6 acc7 acc8 acc9 acc10 Z7 Z9 Z10 Z11 dq2 dq3 dq4 dlc s8 dq5 hlc
      refine ⟨_, rfl, (by show 4 ≤ sizeLine; decide), fun tt htt => ?_⟩
      have Y12 := Y11.alloc (o := .tup [.ref l0, q1, q5, .ref p]) htt
      have acc := acc11.mono (upd_same_ (o := .tup [.ref l0, q1, q5, .ref p]) (Y11.sub.free htt))
      have gtt : upd G11 tt (.tup [.ref l0, q1, q5, .ref p]) tt = some (.tup [.ref l0, q1, q5, .ref p]) := upd_same
      revert Y12 acc gtt
      generalize upd G11 tt (.tup [.ref l0, q1, q5, .ref p]) = G12
      intro Y12 acc gtt
      have oks : ∀ d ∈ ([.list []] ++ [.list (dCols cols ++ [dCol ("new", 1), dCol ("new", 1), dCol ("new", 1)])] ++ [.list ((dCols cols).take r.toNat ++ [.none] ++ (dCols cols).drop (r.toNat + 1))] ++ [.list (dCols cols)] : List PyData), okL d := by
        intro d hd
        simp only [List.cons_append, List.nil_append, List.mem_cons, List.mem_nil_iff, or_false] at hd
        rcases hd with rfl | rfl | rfl | rfl
        · exact ⟨[], rfl, by decide, fun e he => by cases he⟩
        · refine ⟨_, rfl, by rw [List.length_append]; show _ + 3 ≤ 100; omega, fun e he => ?_⟩
          rcases List.mem_append.mp he with he | he
          · exact shC e he
          · simp only [List.mem_cons, List.mem_nil_iff, or_false] at he
            rcases he with rfl | rfl | rfl <;> (show (("new" : String) : Str).length ≤ 10000; decide +kernel)
        · refine ⟨_, rfl, by rw [List.length_append, List.length_append, List.length_singleton]; omega, fun e he => ?_⟩
          rcases List.mem_append.mp he with he | he
          · rcases List.mem_append.mp he with he | he
            · exact shC e (List.mem_of_mem_take he)
            · rw [List.mem_singleton.mp he]; trivial
          · exact shC e (List.mem_of_mem_drop he)
        · exact ⟨_, rfl, by omega, shC⟩
      refine ⟨tt, rfl, ⟨_, SqT.of (Y12.sub _ _ gtt)⟩, for_it (walk_tup (xs := [.ref l0, q1, q5, .ref p])) (fun j σ' H' => ∃ (G' : Hp) (v6 : Option V), σ' = [some (.ref a), some (.int (0 + (i : Int))), some (.ref b), v3', some (.ref p), some (.int r), v6] ∧ Xt none H5 G4 H' G' ∧ Same G12 G') ?_ ?_ ?_ ?_⟩
      · exact ⟨G12, _, rfl, Y12, fun _ _ h => h⟩
      · rintro j σ' H' hj ⟨G', v6, rfl, Y, s12⟩
        exact SqT.of (Y.sub _ _ (s12 _ _ gtt))
      · rintro j y σ' H13 H14 hj ⟨G13, v6, rfl, Y, s12⟩ ⟨rfl, hy⟩
        obtain ⟨d, hd, dy⟩ := (acc.mono s12).get hy
        obtain ⟨ds, rfl, dl, sh⟩ := oks d (List.mem_of_getElem? hd)
        obtain ⟨ya, ys, rfl, gy, dys⟩ := id dy.list_inv
        refine ⟨_, rfl, ya, ys, rfl, .inl (SqL.of (Y.sub _ _ gy)), fun l hl => ?_⟩
        have Y2 := Y.alloc (o := .lst ys) hl
        refine ⟨l, ds, upd G13 l (.lst ys), rfl, D.newL dys Y.sub hl, dl, sh, Y2.sub, fun H15 G15 Z1 => ?_⟩
        have Y3 := Y2.trans Z1
        have s13 : Same G13 G15 := fun u o h => Z1.gg u o (upd_same_ (Y.sub.free hl) u o h)
        refine ⟨_, rfl, ya, ds, G15, rfl, dy.mono s13, dl, sh, Y3.sub, fun H16 G16 Z2 => ?_⟩
        refine ⟨_, _, (told_d G16 _).dp Z2.sub, (told_d G16 _).dp Z2.sub, told_sh _, told_sh _, _, rfl, ?_⟩
        rw [told_eqv]
        refine iteF ?_
        exact ⟨G16, _, rfl, Y3.trans Z2, fun u o h => Z2.gg u o (s13 u o (s12 u o h))⟩
      clear Y11 acc11 Y12 acc gtt oks htt
      rintro σ' H13 ⟨G13, v6, rfl, Y, s12⟩
      clear s12
      have gp3 := Y.gg _ _ gp
      have hp3 := Y.sub _ _ gp3
      have endS : ∀ H' G', Xt none H5 G4 H' G' → Same H H' := fun H' G' Z u o h => Z.sub u o (Z.gg u o (X4.gg u o (X.gg u o (s1 u o h))))
      refine ⟨_, rfl, p, cs, rfl, .inl (SqL.of hp3), _, _, rfl, rfl, _, rfl, ?_⟩
      refine ite2 (fun c1 => ?_) (fun c1 => ?_)
      · have c2 : 1 < cs.length := by
          have := of_decide_eq_true c1
          omega
        have h0 : cs[0]? = some (cs[0]'(by omega)) := List.getElem?_eq_getElem _
        obtain ⟨c0, t0, hc0, et0, ht0⟩ := cols_at (dp.mono Y.gg) h0
        rw [et0] at h0
        have at0 := atI_nat (xs := cs) (j := 0) h0
        have hm0 := List.mem_of_getElem? hc0
        refine ⟨_, rfl, p, _, _, _, rfl, rfl, SqL.of hp3, at0, ?_⟩
        refine ⟨_, rfl, p, _, _, _, rfl, rfl, SqL.of hp3, at0, t0, _, _, _, rfl, rfl, SqT.of (Y.sub _ _ ht0), rfl, (by show 2 ≤ sizeLine; decide), fun t2 ht2 => ?_⟩
        have Y2 := Y.alloc (o := .tup [.str c0.1, .int 1]) ht2
        have s2 := upd_same_ (o := .tup [.str c0.1, .int 1]) (Y.sub.free ht2)
        have d2 : D _ (.ref t2) (dCol (c0.1, 1)) := D.newT (xs := [.str c0.1, .int 1]) (.cons (.str _) (.one (.int _))) Y.sub ht2
        have d0 : D _ (.ref t0) (dCol c0) := (show D G13 (.ref t0) (dCol c0) from .tup ht0 (.cons (.str _) (.one (.int _)))).mono s2
        refine ⟨(by show 2 ≤ sizeLine; decide), fun l4 hl4 => ?_⟩
        have Y3 := Y2.alloc (o := .lst [.ref t0, .ref t2]) hl4
        have d4 : D _ (.ref l4) (.list [dCol c0, dCol (c0.1, 1)]) := D.newL (xs := [.ref t0, .ref t2]) (.cons d0 (.one d2)) Y2.sub hl4
        refine ⟨_, rfl, _, rfl, ?_⟩
        refine noPart ?_
        refine slL_data (dcols.mono Y3.gg) Y3.sub fun q5 H14 G14 Z5 dq5 => ?_
        rw [show (2 : Int) = ((2 : Nat) : Int) from rfl, cutD_drop] at dq5
        have lE : ((dCols cols).drop 2).length ≤ 1 := by rw [List.length_drop]; omega
        refine catL_data (d4.mono Z5.gg) dq5 (Y3.trans Z5).sub (by show 2 + _ ≤ 100000; omega) fun q6 H15 G15 Z6 dq6 => ?_
        have Y4 := (Y3.trans Z5).trans Z6
        obtain ⟨qa, qs, rfl, hq, dqs⟩ := id dq6.list_inv
        refine ⟨qa, _, G15, rfl, dq6, by rw [List.length_append]; show 2 + _ ≤ 100; omega, fun e he => ?_, Y4.sub, fun H16 G16 Z7 => ?_⟩
        · rcases List.mem_append.mp he with he | he
          · simp only [List.mem_cons, List.mem_nil_iff, or_false] at he
            have sh0 := shC (dCol c0) (List.mem_map.mpr ⟨c0, hm0, rfl⟩)
            rcases he with rfl | rfl
            · exact sh0
            · exact sh0
          · exact shC e (List.mem_of_mem_drop he)
        rw [twice_bad good hm0 lE]
        refine ⟨.int 1, .int 1, (show D G16 (toldV (some 1)) (.int 1) from .int 1).dp Z7.sub, (show D G16 (.int 1) (.int 1) from .int 1).dp Z7.sub, rfl, rfl, _, rfl, ?_⟩
        refine iteF ?_
        exact ⟨_, _, _, _, _, _, rfl, endS _ _ (Y4.trans Z7)⟩
      · exact ⟨_, _, _, _, _, _, rfl, endS _ _ Y⟩
    · rintro σ' H1 ⟨v1, v2, v3, v4, v5, v6, rfl, s1⟩
      exact k _
end
end Nw
namespace Nw
open PySem L2 PySem.Spec PyProof.Rows RZ
/-! ### what the top has written -/
theorem all_mk {P : Program} {w : World} {K : PySem.W.Frag} {h : Heap} {mg : Str → Option Value} {fa C R CE CC CM CN NE : Addr} {f_d0 f_d1 f_d2 f_d3 f_d4 f_d5 f_d6 f_d7 f_d8 f_d9 f_d10 f_d11 f_d12 f_d13 f_d14 f_m0 f_e0 : Addr} (X : K.In h) (G : h.Ns mainGlobals mg) (hfa : mg "law" = some (.ref fa))
    {od_d0 an_d0 od_d1 an_d1 od_d2 an_d2 od_d3 an_d3 od_d4 an_d4 od_d5 an_d5 od_d6 an_d6 od_d7 an_d7 od_d8 an_d8 od_d9 an_d9 od_d10 an_d10 od_d11 an_d11 od_d12 an_d12 od_d13 an_d13 od_d14 an_d14 od_m0 an_m0 od_e0 an_e0 odR : Option Addr} {sl_d0 sl_d1 sl_d2 sl_d3 sl_d4 sl_d5 sl_d6 sl_d7 sl_d8 sl_d9 sl_d10 sl_d11 sl_d12 sl_d13 sl_d14 sl_m0 sl_e0 slR : Array (Option Value)} {oc_d0 kV_d0 dc_d0 pm_d0 cd_d0 ct_d0 oc_d1 kV_d1 dc_d1 pm_d1 cd_d1 ct_d1 oc_d2 kV_d2 dc_d2 pm_d2 cd_d2 ct_d2 oc_d3 kV_d3 dc_d3 pm_d3 cd_d3 ct_d3 oc_d4 kV_d4 dc_d4 pm_d4 cd_d4 ct_d4 oc_d5 kV_d5 dc_d5 pm_d5 cd_d5 ct_d5 oc_d6 kV_d6 dc_d6 pm_d6 cd_d6 ct_d6 oc_d7 kV_d7 dc_d7 pm_d7 cd_d7 ct_d7 oc_d8 kV_d8 dc_d8 pm_d8 cd_d8 ct_d8 oc_d9 kV_d9 dc_d9 pm_d9 cd_d9 ct_d9 oc_d10 kV_d10 dc_d10 pm_d10 cd_d10 ct_d10 oc_d11 kV_d11 dc_d11 pm_d11 cd_d11 ct_d11 oc_d12 kV_d12 dc_d12 pm_d12 cd_d12 ct_d12 oc_d13 kV_d13 dc_d13 pm_d13 cd_d13 ct_d13 oc_d14 kV_d14 dc_d14 pm_d14 cd_d14 ct_d14 oc_m0 kV_m0 dc_m0 pm_m0 cd_m0 ct_m0 oc_e0 kV_e0 dc_e0 pm_e0 cd_e0 ct_e0 uL ocR : Value} {nmE qE : Str} {bsE bmE subE : List Value} {snE : List Str} {abE : Bool} {colE : Option Bool} {ddE : Option Addr} {m0 m1 m2 m3 m5 : Option Value} {itsR : Array Value} {nR : Nat}
    (g_CN : PySem.W.nsIn K mainGlobals "NewestrowError" = some (some (.ref CN)))
    (g_CM : PySem.W.nsIn K mainGlobals "BadMix" = some (some (.ref CM)))
    (g_CC : PySem.W.nsIn K mainGlobals "BadCondition" = some (some (.ref CC)))
    (g_CE : PySem.W.nsIn K mainGlobals "BadTable" = some (some (.ref CE)))
    (a_d0 : PySem.W.nsIn K mainGlobals "copied" = some (some (.ref f_d0)))
    (l_d0 : K.lookup f_d0 = some ⟨oc_d0, od_d0, .func (PySem.W.fnOf "copied" "copied" (C8.fnArgs s_copied) (C8.fnBody s_copied) (C8.fnScope s_copied) .none kV_d0 dc_d0 pm_d0 an_d0 cd_d0 ct_d0), sl_d0⟩)
    (c_d0 : PySem.W.codeIn K cd_d0 "copied" = true)
    (k_d0 : PySem.W.keepIn K (.ref f_d0) = true)
    (a_d1 : PySem.W.nsIn K mainGlobals "is_word" = some (some (.ref f_d1)))
    (l_d1 : K.lookup f_d1 = some ⟨oc_d1, od_d1, .func (PySem.W.fnOf "is_word" "is_word" (C8.fnArgs s_is_word) (C8.fnBody s_is_word) (C8.fnScope s_is_word) .none kV_d1 dc_d1 pm_d1 an_d1 cd_d1 ct_d1), sl_d1⟩)
    (c_d1 : PySem.W.codeIn K cd_d1 "is_word" = true)
    (k_d1 : PySem.W.keepIn K (.ref f_d1) = true)
    (a_d2 : PySem.W.nsIn K mainGlobals "is_integer" = some (some (.ref f_d2)))
    (l_d2 : K.lookup f_d2 = some ⟨oc_d2, od_d2, .func (PySem.W.fnOf "is_integer" "is_integer" (C8.fnArgs s_is_integer) (C8.fnBody s_is_integer) (C8.fnScope s_is_integer) .none kV_d2 dc_d2 pm_d2 an_d2 cd_d2 ct_d2), sl_d2⟩)
    (c_d2 : PySem.W.codeIn K cd_d2 "is_integer" = true)
    (k_d2 : PySem.W.keepIn K (.ref f_d2) = true)
    (a_d3 : PySem.W.nsIn K mainGlobals "is_tuple_of" = some (some (.ref f_d3)))
    (l_d3 : K.lookup f_d3 = some ⟨oc_d3, od_d3, .func (PySem.W.fnOf "is_tuple_of" "is_tuple_of" (C8.fnArgs s_is_tuple_of) (C8.fnBody s_is_tuple_of) (C8.fnScope s_is_tuple_of) .none kV_d3 dc_d3 pm_d3 an_d3 cd_d3 ct_d3), sl_d3⟩)
    (c_d3 : PySem.W.codeIn K cd_d3 "is_tuple_of" = true)
    (k_d3 : PySem.W.keepIn K (.ref f_d3) = true)
    (a_d4 : PySem.W.nsIn K mainGlobals "is_column" = some (some (.ref f_d4)))
    (l_d4 : K.lookup f_d4 = some ⟨oc_d4, od_d4, .func (PySem.W.fnOf "is_column" "is_column" (C8.fnArgs s_is_column) (C8.fnBody s_is_column) (C8.fnScope s_is_column) .none kV_d4 dc_d4 pm_d4 an_d4 cd_d4 ct_d4), sl_d4⟩)
    (c_d4 : PySem.W.codeIn K cd_d4 "is_column" = true)
    (k_d4 : PySem.W.keepIn K (.ref f_d4) = true)
    (a_d5 : PySem.W.nsIn K mainGlobals "_law_bag" = some (some (.ref f_d5)))
    (l_d5 : K.lookup f_d5 = some ⟨oc_d5, od_d5, .func (PySem.W.fnOf "_law_bag" "_law_bag" (C8.fnArgs s__law_bag) (C8.fnBody s__law_bag) (C8.fnScope s__law_bag) .none kV_d5 dc_d5 pm_d5 an_d5 cd_d5 ct_d5), sl_d5⟩)
    (c_d5 : PySem.W.codeIn K cd_d5 "_law_bag" = true)
    (k_d5 : PySem.W.keepIn K (.ref f_d5) = true)
    (a_d6 : PySem.W.nsIn K mainGlobals "_law_take" = some (some (.ref f_d6)))
    (l_d6 : K.lookup f_d6 = some ⟨oc_d6, od_d6, .func (PySem.W.fnOf "_law_take" "_law_take" (C8.fnArgs s__law_take) (C8.fnBody s__law_take) (C8.fnScope s__law_take) .none kV_d6 dc_d6 pm_d6 an_d6 cd_d6 ct_d6), sl_d6⟩)
    (c_d6 : PySem.W.codeIn K cd_d6 "_law_take" = true)
    (k_d6 : PySem.W.keepIn K (.ref f_d6) = true)
    (a_d7 : PySem.W.nsIn K mainGlobals "_law_of" = some (some (.ref f_d7)))
    (l_d7 : K.lookup f_d7 = some ⟨oc_d7, od_d7, .func (PySem.W.fnOf "_law_of" "_law_of" (C8.fnArgs s__law_of) (C8.fnBody s__law_of) (C8.fnScope s__law_of) .none kV_d7 dc_d7 pm_d7 an_d7 cd_d7 ct_d7), sl_d7⟩)
    (c_d7 : PySem.W.codeIn K cd_d7 "_law_of" = true)
    (k_d7 : PySem.W.keepIn K (.ref f_d7) = true)
    (a_d8 : PySem.W.nsIn K mainGlobals "_law_columns" = some (some (.ref f_d8)))
    (l_d8 : K.lookup f_d8 = some ⟨oc_d8, od_d8, .func (PySem.W.fnOf "_law_columns" "_law_columns" (C8.fnArgs s__law_columns) (C8.fnBody s__law_columns) (C8.fnScope s__law_columns) .none kV_d8 dc_d8 pm_d8 an_d8 cd_d8 ct_d8), sl_d8⟩)
    (c_d8 : PySem.W.codeIn K cd_d8 "_law_columns" = true)
    (k_d8 : PySem.W.keepIn K (.ref f_d8) = true)
    (a_d9 : PySem.W.nsIn K mainGlobals "_law_entry" = some (some (.ref f_d9)))
    (l_d9 : K.lookup f_d9 = some ⟨oc_d9, od_d9, .func (PySem.W.fnOf "_law_entry" "_law_entry" (C8.fnArgs s__law_entry) (C8.fnBody s__law_entry) (C8.fnScope s__law_entry) .none kV_d9 dc_d9 pm_d9 an_d9 cd_d9 ct_d9), sl_d9⟩)
    (c_d9 : PySem.W.codeIn K cd_d9 "_law_entry" = true)
    (k_d9 : PySem.W.keepIn K (.ref f_d9) = true)
    (a_d10 : PySem.W.nsIn K mainGlobals "_law_is_column" = some (some (.ref f_d10)))
    (l_d10 : K.lookup f_d10 = some ⟨oc_d10, od_d10, .func (PySem.W.fnOf "_law_is_column" "_law_is_column" (C8.fnArgs s__law_is_column) (C8.fnBody s__law_is_column) (C8.fnScope s__law_is_column) .none kV_d10 dc_d10 pm_d10 an_d10 cd_d10 ct_d10), sl_d10⟩)
    (c_d10 : PySem.W.codeIn K cd_d10 "_law_is_column" = true)
    (k_d10 : PySem.W.keepIn K (.ref f_d10) = true)
    (a_d11 : PySem.W.nsIn K mainGlobals "_law_due" = some (some (.ref f_d11)))
    (l_d11 : K.lookup f_d11 = some ⟨oc_d11, od_d11, .func (PySem.W.fnOf "_law_due" "_law_due" (C8.fnArgs s__law_due) (C8.fnBody s__law_due) (C8.fnScope s__law_due) .none kV_d11 dc_d11 pm_d11 an_d11 cd_d11 ct_d11), sl_d11⟩)
    (c_d11 : PySem.W.codeIn K cd_d11 "_law_due" = true)
    (k_d11 : PySem.W.keepIn K (.ref f_d11) = true)
    (a_d12 : PySem.W.nsIn K mainGlobals "_law_told" = some (some (.ref f_d12)))
    (l_d12 : K.lookup f_d12 = some ⟨oc_d12, od_d12, .func (PySem.W.fnOf "_law_told" "_law_told" (C8.fnArgs s__law_told) (C8.fnBody s__law_told) (C8.fnScope s__law_told) .none kV_d12 dc_d12 pm_d12 an_d12 cd_d12 ct_d12), sl_d12⟩)
    (c_d12 : PySem.W.codeIn K cd_d12 "_law_told" = true)
    (k_d12 : PySem.W.keepIn K (.ref f_d12) = true)
    (a_d13 : PySem.W.nsIn K mainGlobals "_law_entries" = some (some (.ref f_d13)))
    (l_d13 : K.lookup f_d13 = some ⟨oc_d13, od_d13, .func (PySem.W.fnOf "_law_entries" "_law_entries" (C8.fnArgs s__law_entries) (C8.fnBody s__law_entries) (C8.fnScope s__law_entries) .none kV_d13 dc_d13 pm_d13 an_d13 cd_d13 ct_d13), sl_d13⟩)
    (c_d13 : PySem.W.codeIn K cd_d13 "_law_entries" = true)
    (k_d13 : PySem.W.keepIn K (.ref f_d13) = true)
    (a_d14 : PySem.W.nsIn K mainGlobals "law" = some (some (.ref f_d14)))
    (l_d14 : K.lookup f_d14 = some ⟨oc_d14, od_d14, .func (PySem.W.fnOf "law" "law" (C8.fnArgs s_law) (C8.fnBody s_law) (C8.fnScope s_law) .none kV_d14 dc_d14 pm_d14 an_d14 cd_d14 ct_d14), sl_d14⟩)
    (c_d14 : PySem.W.codeIn K cd_d14 "law" = true)
    (k_d14 : PySem.W.keepIn K (.ref f_d14) = true)
    (aC : PySem.W.nsIn K mainGlobals "Table" = some (some (.ref C)))
    (a_m0 : PySem.W.findIn K (.ref C) "__init__" = some (some (.ref f_m0)))
    (i_m0 : PySem.W.isFn K (.ref f_m0) = true)
    (l_m0 : K.lookup f_m0 = some ⟨oc_m0, od_m0, .func (PySem.W.fnOf "__init__" "Table.__init__" (C8.fnArgs s_Table____init__) (C8.fnBody s_Table____init__) (C8.fnScope s_Table____init__) .none kV_m0 dc_m0 pm_m0 an_m0 cd_m0 ct_m0), sl_m0⟩)
    (c_m0 : PySem.W.codeIn K cd_m0 "Table.__init__" = true)
    (k_m0 : PySem.W.keepIn K (.ref f_m0) = true)
    (a_e0 : PySem.W.findIn K (.ref CE) "__init__" = some (some (.ref f_e0)))
    (t_e0 : PySem.W.typeIn K (.ref f_e0) = some (.type "function"))
    (l_e0 : K.lookup f_e0 = some ⟨oc_e0, od_e0, .func (PySem.W.fnOf "__init__" "BadTable.__init__" (C8.fnArgs s_BadTable____init__) (C8.fnBody s_BadTable____init__) (C8.fnScope s_BadTable____init__) .none kV_e0 dc_e0 pm_e0 an_e0 cd_e0 ct_e0), sl_e0⟩)
    (c_e0 : PySem.W.codeIn K cd_e0 "BadTable.__init__" = true)
    (pg : PySem.W.plainGet K C Str.empty = true)
    (hd : PySem.W.hasDictIn K C = true)
    (po : PySem.W.plainOver K C = true)
    (sa : PySem.W.findIn K (.ref C) "__setattr__" = some (some (.builtin "object.__setattr__")))
    (mk : PySem.W.makesIn K C = true)
    (kc : PySem.W.keepIn K (.ref C) = true)
    (xL : K.lookup CE = some (excClassObj nmE qE CE NE bsE bmE true snE subE abE colE ddE m0 m1 m2 m3 m5 "ValueError.__new__"))
    (esa : PySem.W.findIn K (.ref CE) "__setattr__" = some (some (.builtin "object.__setattr__")))
    (eex : PySem.W.subIn K (.ref CE) (.type "BaseException") = some true)
    (ety : PySem.W.typeIn K (.ref CE) = some (.type "type"))
    (ekc : PySem.W.keepIn K (.ref CE) = true)
    (ecl : PySem.W.isClsIn K CE = true)
    (ega : PySem.W.findIn K (.ref CE) "__getattribute__" = some (some (.builtin "BaseException.__getattribute__")))
    (egt : PySem.W.findIn K (.ref CE) "__getattr__" = some none)
    (eha : PySem.W.findIn K (.ref CE) "__class__" = some (some (.builtin "object.__class__")))
    (emr : PySem.W.mroIn K CE (.type "object") = some true)
    (ehd : PySem.W.hasDictIn K CE = true)
    (enA : PySem.W.findIn K (.ref CE) "at" = some none)
    (ess : PySem.W.subIn K (.ref CE) (.ref CE) = some true)
    (kA : PySem.W.kitAny K (.ref CE) [.ref CC, .ref CM] = some false)
    (kN : PySem.W.kitOne K (.ref CE) (.ref CN) = some true)
    (nC : PySem.W.findIn K (.ref C) "columns" = some none)
    (nT : PySem.W.findIn K (.ref C) "tops" = some none)
    (hn : PySem.W.specialIn K (.builtin "object.__class__") "__get__" = some (some (.builtin "getset_descriptor.__get__")))
    (htk : PySem.W.takesIn K (.builtin "object.__class__") = some true)
    (gL : PySem.W.nsIn K mainGlobals "LETTERS" = some (some uL))
    (gR : PySem.W.nsIn K mainGlobals "RESERVED" = some (some (.ref R)))
    (lR : K.lookup R = some ⟨ocR, odR, .seq itsR nR, slR⟩)
    (z_len : PySem.W.nsIn K mainGlobals "len" = some none)
    (z_range : PySem.W.nsIn K mainGlobals "range" = some none)
    (z_abs : PySem.W.nsIn K mainGlobals "abs" = some none)
    (z_int : PySem.W.nsIn K mainGlobals "int" = some none)
    (z_str : PySem.W.nsIn K mainGlobals "str" = some none)
    (z_bool : PySem.W.nsIn K mainGlobals "bool" = some none)
    (z_tuple : PySem.W.nsIn K mainGlobals "tuple" = some none)
    (z_list : PySem.W.nsIn K mainGlobals "list" = some none)
    (z_isinstance : PySem.W.nsIn K mainGlobals "isinstance" = some none)
    (z_all : PySem.W.nsIn K mainGlobals "all" = some none)
    (z_any : PySem.W.nsIn K mainGlobals "any" = some none)
    (z_max : PySem.W.nsIn K mainGlobals "max" = some none)
    (z_min : PySem.W.nsIn K mainGlobals "min" = some none)
    (z_enumerate : PySem.W.nsIn K mainGlobals "enumerate" = some none)
    (z_zip : PySem.W.nsIn K mainGlobals "zip" = some none)
    (z_repr : PySem.W.nsIn K mainGlobals "repr" = some none)
    (z_dict : PySem.W.nsIn K mainGlobals "dict" = some none)
    (rL : RelV (.str LET) uL)
    (eR : ocR = .type "tuple")
    (zR : itsR.size ≤ sizeLine)
    (vR : Vals (RES.map V.str) itsR.toList)
    (bE : PySem.HandSPX.refsVE bmE = true)
    :
    ∃ fd : FuncData, (∀ (s : Shared) (v : Value), BindsTo s fd ⟨[v], []⟩ [("_law_script", v)]) ∧ ∀ base : Heap, K.In base → base.Ns mainGlobals mg → FnOk P w K mg base C8.CX0 7 fa fd ["_law_script"] (spLaw K) := by
  have e := hfa.symm.trans (PySem.W.mg_of X G a_d14)
  cases e
  have T : Names K mg := ⟨PySem.W.mg_none_of X G z_len, PySem.W.mg_none_of X G z_range, PySem.W.mg_none_of X G z_abs, PySem.W.mg_none_of X G z_int, PySem.W.mg_none_of X G z_str, PySem.W.mg_none_of X G z_bool, PySem.W.mg_none_of X G z_tuple, PySem.W.mg_none_of X G z_list, PySem.W.mg_none_of X G z_isinstance, PySem.W.mg_none_of X G z_all, PySem.W.mg_none_of X G z_any, PySem.W.mg_none_of X G z_max, PySem.W.mg_none_of X G z_min, PySem.W.mg_none_of X G z_enumerate, PySem.W.mg_none_of X G z_zip, PySem.W.mg_none_of X G z_repr, ⟨_, PySem.W.mg_of X G gL, rL⟩, R, ⟨_, PySem.W.mg_of X G gR, rfl⟩, fun H => .inr ⟨_, itsR, nR, lR, eR, rfl, zR, vR⟩⟩
  have TC : TabC K mg C := ⟨⟨pg, hd, po, sa⟩, nC, nT⟩
  have gC := PySem.W.mg_of X G aC
  have F_d0 : C8.Def K mg "copied" s_copied f_d0 _ := ⟨⟨oc_d0, od_d0, .none, kV_d0, dc_d0, pm_d0, an_d0, cd_d0, ct_d0, sl_d0, rfl, l_d0, c_d0⟩, PySem.W.mg_of X G a_d0, k_d0⟩
  have b_d0 : Binds K _ P_copied [] := F_d0.fn.binds rfl fun _ _ _ _ _ _ us hl => match us, hl with | [_], _ => rfl
  have F_d1 : C8.Def K mg "is_word" s_is_word f_d1 _ := ⟨⟨oc_d1, od_d1, .none, kV_d1, dc_d1, pm_d1, an_d1, cd_d1, ct_d1, sl_d1, rfl, l_d1, c_d1⟩, PySem.W.mg_of X G a_d1, k_d1⟩
  have b_d1 : Binds K _ P_is_word [] := F_d1.fn.binds rfl fun _ _ _ _ _ _ us hl => match us, hl with | [_], _ => rfl
  have F_d2 : C8.Def K mg "is_integer" s_is_integer f_d2 _ := ⟨⟨oc_d2, od_d2, .none, kV_d2, dc_d2, pm_d2, an_d2, cd_d2, ct_d2, sl_d2, rfl, l_d2, c_d2⟩, PySem.W.mg_of X G a_d2, k_d2⟩
  have b_d2 : Binds K _ P_is_integer [] := F_d2.fn.binds rfl fun _ _ _ _ _ _ us hl => match us, hl with | [_], _ => rfl
  have F_d3 : C8.Def K mg "is_tuple_of" s_is_tuple_of f_d3 _ := ⟨⟨oc_d3, od_d3, .none, kV_d3, dc_d3, pm_d3, an_d3, cd_d3, ct_d3, sl_d3, rfl, l_d3, c_d3⟩, PySem.W.mg_of X G a_d3, k_d3⟩
  have b_d3 : Binds K _ P_is_tuple_of [] := F_d3.fn.binds rfl fun _ _ _ _ _ _ us hl => match us, hl with | [_, _], _ => rfl
  have F_d4 : C8.Def K mg "is_column" s_is_column f_d4 _ := ⟨⟨oc_d4, od_d4, .none, kV_d4, dc_d4, pm_d4, an_d4, cd_d4, ct_d4, sl_d4, rfl, l_d4, c_d4⟩, PySem.W.mg_of X G a_d4, k_d4⟩
  have b_d4 : Binds K _ P_is_column [] := F_d4.fn.binds rfl fun _ _ _ _ _ _ us hl => match us, hl with | [_], _ => rfl
  have F_d5 : C8.Def K mg "_law_bag" s__law_bag f_d5 _ := ⟨⟨oc_d5, od_d5, .none, kV_d5, dc_d5, pm_d5, an_d5, cd_d5, ct_d5, sl_d5, rfl, l_d5, c_d5⟩, PySem.W.mg_of X G a_d5, k_d5⟩
  have b_d5 : Binds K _ P__law_bag [] := F_d5.fn.binds rfl fun _ _ _ _ _ _ us hl => match us, hl with | [_, _], _ => rfl
  have F_d6 : C8.Def K mg "_law_take" s__law_take f_d6 _ := ⟨⟨oc_d6, od_d6, .none, kV_d6, dc_d6, pm_d6, an_d6, cd_d6, ct_d6, sl_d6, rfl, l_d6, c_d6⟩, PySem.W.mg_of X G a_d6, k_d6⟩
  have b_d6 : Binds K _ P__law_take [] := F_d6.fn.binds rfl fun _ _ _ _ _ _ us hl => match us, hl with | [_, _], _ => rfl
  have F_d7 : C8.Def K mg "_law_of" s__law_of f_d7 _ := ⟨⟨oc_d7, od_d7, .none, kV_d7, dc_d7, pm_d7, an_d7, cd_d7, ct_d7, sl_d7, rfl, l_d7, c_d7⟩, PySem.W.mg_of X G a_d7, k_d7⟩
  have b_d7 : Binds K _ P__law_of [] := F_d7.fn.binds rfl fun _ _ _ _ _ _ us hl => match us, hl with | [_, _], _ => rfl
  have F_d8 : C8.Def K mg "_law_columns" s__law_columns f_d8 _ := ⟨⟨oc_d8, od_d8, .none, kV_d8, dc_d8, pm_d8, an_d8, cd_d8, ct_d8, sl_d8, rfl, l_d8, c_d8⟩, PySem.W.mg_of X G a_d8, k_d8⟩
  have b_d8 : Binds K _ P__law_columns [] := F_d8.fn.binds rfl fun _ _ _ _ _ _ us hl => match us, hl with | [_], _ => rfl
  have F_d9 : C8.Def K mg "_law_entry" s__law_entry f_d9 _ := ⟨⟨oc_d9, od_d9, .none, kV_d9, dc_d9, pm_d9, an_d9, cd_d9, ct_d9, sl_d9, rfl, l_d9, c_d9⟩, PySem.W.mg_of X G a_d9, k_d9⟩
  have b_d9 : Binds K _ P__law_entry [] := F_d9.fn.binds rfl fun _ _ _ _ _ _ us hl => match us, hl with | [_], _ => rfl
  have F_d10 : C8.Def K mg "_law_is_column" s__law_is_column f_d10 _ := ⟨⟨oc_d10, od_d10, .none, kV_d10, dc_d10, pm_d10, an_d10, cd_d10, ct_d10, sl_d10, rfl, l_d10, c_d10⟩, PySem.W.mg_of X G a_d10, k_d10⟩
  have b_d10 : Binds K _ P__law_is_column [] := F_d10.fn.binds rfl fun _ _ _ _ _ _ us hl => match us, hl with | [_], _ => rfl
  have F_d11 : C8.Def K mg "_law_due" s__law_due f_d11 _ := ⟨⟨oc_d11, od_d11, .none, kV_d11, dc_d11, pm_d11, an_d11, cd_d11, ct_d11, sl_d11, rfl, l_d11, c_d11⟩, PySem.W.mg_of X G a_d11, k_d11⟩
  have b_d11 : Binds K _ P__law_due [] := F_d11.fn.binds rfl fun _ _ _ _ _ _ us hl => match us, hl with | [_], _ => rfl
  have F_d12 : C8.Def K mg "_law_told" s__law_told f_d12 _ := ⟨⟨oc_d12, od_d12, .none, kV_d12, dc_d12, pm_d12, an_d12, cd_d12, ct_d12, sl_d12, rfl, l_d12, c_d12⟩, PySem.W.mg_of X G a_d12, k_d12⟩
  have b_d12 : Binds K _ P__law_told [] := F_d12.fn.binds rfl fun _ _ _ _ _ _ us hl => match us, hl with | [_], _ => rfl
  have F_d13 : C8.Def K mg "_law_entries" s__law_entries f_d13 _ := ⟨⟨oc_d13, od_d13, .none, kV_d13, dc_d13, pm_d13, an_d13, cd_d13, ct_d13, sl_d13, rfl, l_d13, c_d13⟩, PySem.W.mg_of X G a_d13, k_d13⟩
  have b_d13 : Binds K _ P__law_entries [] := F_d13.fn.binds rfl fun _ _ _ _ _ _ us hl => match us, hl with | [_], _ => rfl
  have F_d14 : C8.Def K mg "law" s_law fa _ := ⟨⟨oc_d14, od_d14, .none, kV_d14, dc_d14, pm_d14, an_d14, cd_d14, ct_d14, sl_d14, rfl, l_d14, c_d14⟩, PySem.W.mg_of X G a_d14, k_d14⟩
  have F_m0 : C8.Fun K "__init__" "Table.__init__" s_Table____init__ f_m0 _ := ⟨oc_m0, od_m0, .none, kV_m0, dc_m0, pm_m0, an_m0, cd_m0, ct_m0, sl_m0, rfl, l_m0, c_m0⟩
  have b_m0 : Binds K _ P_Table____init__ [] := F_m0.binds rfl fun _ _ _ _ _ _ us hl => match us, hl with | [_, _], _ => rfl
  have F_e0 : C8.Fun K "__init__" "BadTable.__init__" s_BadTable____init__ f_e0 _ := ⟨oc_e0, od_e0, .none, kV_e0, dc_e0, pm_e0, an_e0, cd_e0, ct_e0, sl_e0, rfl, l_e0, c_e0⟩
  have b_e0 : Binds K _ P_BadTable____init__ [] := F_e0.binds rfl fun _ _ _ _ _ _ us hl => match us, hl with | [_, _], _ => rfl
  refine ⟨PySem.W.fnOf "law" "law" (C8.fnArgs s_law) (C8.fnBody s_law) (C8.fnScope s_law) .none kV_d14 dc_d14 pm_d14 an_d14 cd_d14 ct_d14, fun s v => .of_eq rfl, fun base _ _ => ?_⟩
  have n_dict : mg "dict" = none := PySem.W.mg_none_of X G z_dict
  have c_take : C8.Cal P w K mg base 1 "_law_take" spTake [] := take F_d6 b_d6 T
  have c_bag : C8.Cal P w K mg base 1 "_law_bag" (spBag K) [] := bag F_d5 b_d5 T
  have c_of : C8.Cal P w K mg base 2 "_law_of" spOf [] := of_ F_d7 b_d7 T c_take
  have c_columns : C8.Cal P w K mg base 2 "_law_columns" spColumns [] := columns F_d8 b_d8 T c_take
  have c_int : C8.Cal P w K mg base 1 "is_integer" spIsInt [] := isInteger F_d2 b_d2 T
  have c_tup : C8.Cal P w K mg base 1 "is_tuple_of" spTupOf [] := isTupleOf F_d3 b_d3 T
  have c_word : C8.Cal P w K mg base 1 "is_word" spWord [] := isWord_ F_d1 b_d1 T
  have c_col : C8.Cal P w K mg base 2 "is_column" spCol [] := isColumn F_d4 b_d4 T c_word c_int c_tup
  have c_copied : C8.Cal P w K mg base 1 "copied" spCopied [] := copied_ F_d0 b_d0 T n_dict
  have OC : OexC K CE := ⟨⟨nmE, qE, NE, bsE, bmE, snE, subE, abE, colE, ddE, m0, m1, m2, m3, m5, xL, bE⟩, esa, eex, ety, ekc⟩
  have EC : ErrC K CE := ⟨ecl, ega, egt, eex, eha, hn, htk, emr⟩
  have gE := PySem.W.mg_of X G g_CE
  have TE : ErrT K mg CE CC CM CN := ⟨EC, ⟨ega, egt, eex, ehd⟩, enA, gE, PySem.W.mg_of X G g_CC, PySem.W.mg_of X G g_CM, PySem.W.mg_of X G g_CN, PySem.W.exm_ref eex ehd ety ess, kA, kN⟩
  have FE : FnOk P w K mg base C8.CX0 2 f_e0 _ P_BadTable____init__ (spErr CE) := errInit F_e0 OC enA c_copied
  have FT : FnOk P w K mg base (L2.CX P w) 4 f_m0 _ P_Table____init__ (spInitX C CE) := tInitX F_m0 T TC c_col OC a_e0 t_e0 FE b_e0 gE
  have c_told : C8.Cal P w K mg base 6 "_law_told" spTold [] := told F_d12 b_d12 T TE ⟨mk, a_m0, i_m0, kc⟩ FT b_m0 gC
  have c_isc : C8.Cal P w K mg base 1 "_law_is_column" spCol [] := lIsColumn F_d10 b_d10 T
  have c_due : C8.Cal P w K mg base 2 "_law_due" spDue [] := lDue F_d11 b_d11 T c_isc
  have c_entry : C8.Cal P w K mg base 3 "_law_entry" spEntry [] := entry F_d9 b_d9 T c_take c_of
  have c_entries : C8.Cal P w K mg base 4 "_law_entries" spEntries [] := entries F_d13 b_d13 T c_of c_entry
  exact lLaw F_d14 T c_bag c_columns c_take c_entries c_told c_due
theorem walk {l : PySem.W.OpenLaw} {q : Program} {loose : List Str} {XP : (Str → Option Value) → Heap → Prop} {YP : World → Heap → Prop} {d : DefRec} {K : Params → PySem.W.Frag} (hn : l.most = some 63) (hdf : d.params.defaults = [])
    (hY : ∀ (w : World) (h : Heap), YP w h → (K w.params).In h)
    (F : ∀ (w : World) (mg : Str → Option Value) (fa : Addr) (h : Heap), (K w.params).In h → h.Ns mainGlobals mg → mg d.name = some (.ref fa) →
      ∃ fd : FuncData, (∀ (s : Shared) (u : Value), BindsTo s fd ⟨[u], []⟩ [("_law_script", u)]) ∧ ∀ base : Heap, (K w.params).In base → base.Ns mainGlobals mg → FnOk l.prog w (K w.params) mg base C8.CX0 7 fa fd ["_law_script"] (spLaw (K w.params))) :
    PySem.W.WalkO q loose XP YP l.row.toRowW d [] (fun f vs => PySem.call f vs) :=
  L2.walk_of (n := 63) (k := 7) (x := "_law_script") (CX := fun _ => C8.CX0) (sp := fun w => spLaw (K w.params)) hn (by decide) hdf ⟨rfl, by decide, by decide⟩ hY F (fun _ _ a ns hl _ hS => ⟨a, ns, rfl, hS, hl, fun _ => rfl⟩) fun _ _ _ _ _ z => z
end Nw
open PySem PySem.W PyProof.Rows in
set_option maxRecDepth 100000 in
set_option maxHeartbeats 0 in
theorem PySem.Challenge.cw_newestrow_k02_tables_refused_holds : PySem.Challenge.rw_newestrow_k02_tables_refused.Holds := by
  w_on; o_law; k_head; (case hw => w_witness2)
  k_fill
  refine Nw.walk (l := PySem.Challenge.rw_newestrow_k02_tables_refused) rfl rfl (fun w h Y => PySem.W.kIn_of Y) ?F
  case F =>
    intro w mg fa h KX G hmg
    refine' Nw.all_mk KX G hmg ?g_CN ?g_CM ?g_CC ?g_CE ?a_d0 ?l_d0 ?c_d0 ?k_d0 ?a_d1 ?l_d1 ?c_d1 ?k_d1 ?a_d2 ?l_d2 ?c_d2 ?k_d2 ?a_d3 ?l_d3 ?c_d3 ?k_d3 ?a_d4 ?l_d4 ?c_d4 ?k_d4 ?a_d5 ?l_d5 ?c_d5 ?k_d5 ?a_d6 ?l_d6 ?c_d6 ?k_d6 ?a_d7 ?l_d7 ?c_d7 ?k_d7 ?a_d8 ?l_d8 ?c_d8 ?k_d8 ?a_d9 ?l_d9 ?c_d9 ?k_d9 ?a_d10 ?l_d10 ?c_d10 ?k_d10 ?a_d11 ?l_d11 ?c_d11 ?k_d11 ?a_d12 ?l_d12 ?c_d12 ?k_d12 ?a_d13 ?l_d13 ?c_d13 ?k_d13 ?a_d14 ?l_d14 ?c_d14 ?k_d14 ?aC ?a_m0 ?i_m0 ?l_m0 ?c_m0 ?k_m0 ?a_e0 ?t_e0 ?l_e0 ?c_e0 ?pg ?hd ?po ?sa ?mk ?kc ?xL ?esa ?eex ?ety ?ekc ?ecl ?ega ?egt ?eha ?emr ?ehd ?enA ?ess ?kA ?kN ?nC ?nT ?hn ?htk ?gL ?gR ?lR ?z_len ?z_range ?z_abs ?z_int ?z_str ?z_bool ?z_tuple ?z_list ?z_isinstance ?z_all ?z_any ?z_max ?z_min ?z_enumerate ?z_zip ?z_repr ?z_dict ?rL ?eR ?zR ?vR ?bE
    (case g_CN => k_is)
    (case g_CM => k_is)
    (case g_CC => k_is)
    (case g_CE => k_is)
    (case a_d0 => k_is)
    (case l_d0 => k_is)
    (case c_d0 => k_is)
    (case k_d0 => k_is)
    (case a_d1 => k_is)
    (case l_d1 => k_is)
    (case c_d1 => k_is)
    (case k_d1 => k_is)
    (case a_d2 => k_is)
    (case l_d2 => k_is)
    (case c_d2 => k_is)
    (case k_d2 => k_is)
    (case a_d3 => k_is)
    (case l_d3 => k_is)
    (case c_d3 => k_is)
    (case k_d3 => k_is)
    (case a_d4 => k_is)
    (case l_d4 => k_is)
    (case c_d4 => k_is)
    (case k_d4 => k_is)
    (case a_d5 => k_is)
    (case l_d5 => k_is)
    (case c_d5 => k_is)
    (case k_d5 => k_is)
    (case a_d6 => k_is)
    (case l_d6 => k_is)
    (case c_d6 => k_is)
    (case k_d6 => k_is)
    (case a_d7 => k_is)
    (case l_d7 => k_is)
    (case c_d7 => k_is)
    (case k_d7 => k_is)
    (case a_d8 => k_is)
    (case l_d8 => k_is)
    (case c_d8 => k_is)
    (case k_d8 => k_is)
    (case a_d9 => k_is)
    (case l_d9 => k_is)
    (case c_d9 => k_is)
    (case k_d9 => k_is)
    (case a_d10 => k_is)
    (case l_d10 => k_is)
    (case c_d10 => k_is)
    (case k_d10 => k_is)
    (case a_d11 => k_is)
    (case l_d11 => k_is)
    (case c_d11 => k_is)
    (case k_d11 => k_is)
    (case a_d12 => k_is)
    (case l_d12 => k_is)
    (case c_d12 => k_is)
    (case k_d12 => k_is)
    (case a_d13 => k_is)
    (case l_d13 => k_is)
    (case c_d13 => k_is)
    (case k_d13 => k_is)
    (case a_d14 => k_is)
    (case l_d14 => k_is)
    (case c_d14 => k_is)
    (case k_d14 => k_is)
    (case aC => k_is)
    (case a_m0 => k_is)
    (case i_m0 => k_is)
    (case l_m0 => k_is)
    (case c_m0 => k_is)
    (case k_m0 => k_is)
    (case a_e0 => k_is)
    (case t_e0 => k_is)
    (case l_e0 => k_is)
    (case c_e0 => k_is)
    (case pg => k_is)
    (case hd => k_is)
    (case po => k_is)
    (case sa => k_is)
    (case mk => k_is)
    (case kc => k_is)
    (case xL => k_is)
    (case esa => k_is)
    (case eex => k_is)
    (case ety => k_is)
    (case ekc => k_is)
    (case ecl => k_is)
    (case ega => k_is)
    (case egt => k_is)
    (case eha => k_is)
    (case emr => k_is)
    (case ehd => k_is)
    (case enA => k_is)
    (case ess => k_is)
    (case kA => kit_is)
    (case kN => kit_is)
    (case nC => k_is)
    (case nT => k_is)
    (case hn => k_is)
    (case htk => k_is)
    (case gL => k_is)
    (case gR => k_is)
    (case lR => k_is)
    (case z_len => k_is)
    (case z_range => k_is)
    (case z_abs => k_is)
    (case z_int => k_is)
    (case z_str => k_is)
    (case z_bool => k_is)
    (case z_tuple => k_is)
    (case z_list => k_is)
    (case z_isinstance => k_is)
    (case z_all => k_is)
    (case z_any => k_is)
    (case z_max => k_is)
    (case z_min => k_is)
    (case z_enumerate => k_is)
    (case z_zip => k_is)
    (case z_repr => k_is)
    (case z_dict => k_is)
    (case rL => exact ⟨_, rfl⟩)
    (case eR => rfl)
    (case zR => decide)
    (case vR => exact .cons ⟨_, rfl⟩ (.cons ⟨_, rfl⟩ (.cons ⟨_, rfl⟩ (.cons ⟨_, rfl⟩ (.cons ⟨_, rfl⟩ (.cons ⟨_, rfl⟩ (.cons ⟨_, rfl⟩ (.cons ⟨_, rfl⟩ (.cons ⟨_, rfl⟩ (.nil))))))))))
    (case bE => decide)
