import PyProof.Rows.All
import Wide.All
import OpenK.AllK
import Wide.FinOn
import HandS.ForMost
import HandS.Star
import HandS.IsInst
import HandS.Codes
import HandS.FStr
import HandS.Zip
import HandS.RaiseMore
import HandS.Style
import HandS.Walk
import HandS.TupAny
import PySem.Challenge.RW_newestrow_k01_tables_made
set_option Elab.async false
set_option linter.all false
set_option maxRecDepth 100000
set_option maxHeartbeats 8000000
/-! Own layer: stable parts of the abstract heap, data, draws. -/
namespace Nw
open PySem L2

/-- from (H, G) to (H', G'): G is the stable part of H (never written), b the one old object that may change -/
structure Xt (b : Option Addr) (H G H' G' : Hp) : Prop where
  sub0 : Same G H
  gg : Same G G'
  sub : Same G' H'
  hh : ∀ a o, b ≠ some a → H a = some o → H' a = some o
  th : ∀ a, H a ≠ none → H' a ≠ none
  nw : ∀ a o, G' a = some o → G a = some o ∨ H a = none
section
variable {b : Option Addr} {H G H1 G1 H2 G2 : Hp} {p l : Addr} {o o' : HO}
theorem Xt.refl (s : Same G H) : Xt b H G H G := ⟨s, fun _ _ h => h, s, fun _ _ _ h => h, fun _ h => h, fun _ _ h => .inl h⟩
theorem Xt.trans (x : Xt b H G H1 G1) (y : Xt b H1 G1 H2 G2) : Xt b H G H2 G2 :=
  ⟨x.sub0, fun a o h => y.gg a o (x.gg a o h), y.sub, fun a o n h => y.hh a o n (x.hh a o n h), fun a h => y.th a (x.th a h), fun a o h => by
    rcases y.nw a o h with h | h
    · exact x.nw a o h
    · cases e : H a with
      | none => exact .inr rfl
      | some u => exact absurd h (x.th a (by rw [e]; exact fun z => by cases z))⟩
theorem Xt.of (x : Xt none H G H1 G1) : Xt b H G H1 G1 := ⟨x.sub0, x.gg, x.sub, fun a o _ h => x.hh a o (fun z => by cases z) h, x.th, x.nw⟩
theorem upd_same_ {H : Hp} {p : Addr} {o : HO} (h : H p = none) : Same H (upd H p o) := fun a u e => by rw [upd_ne (ne_of_none e h)]; exact e
theorem Xt.fresh (x : Xt b H G H1 G1) (h : H1 p = none) : H p = none := by
  cases e : H p with
  | none => rfl
  | some u => exact absurd h (x.th p (by rw [e]; exact fun z => by cases z))
/-- a new object, stable from now on -/
theorem Xt.new (s : Same G H) (h : H p = none) : Xt b H G (upd H p o) (upd G p o) := by
  have hg : G p = none := s.free h
  refine ⟨s, upd_same_ hg, fun a u e => ?_, fun a u _ e => upd_same_ h a u e, fun a e => ?_, fun a u e => ?_⟩
  · by_cases q : a = p
    · subst q; rw [upd_same] at e ⊢; exact e
    · rw [upd_ne q] at e ⊢; exact s a u e
  · by_cases q : a = p
    · subst q; rw [upd_same]; exact fun z => by cases z
    · rw [upd_ne q]; exact e
  · by_cases q : a = p
    · subst q; exact .inr h
    · rw [upd_ne q] at e; exact .inl e
/-- a new object that may change yet -/
theorem Xt.tmp (s : Same G H) (h : H p = none) : Xt b H G (upd H p o) G := by
  refine ⟨s, fun _ _ h => h, fun a u e => upd_same_ h a u (s a u e), fun a u _ e => upd_same_ h a u e, fun a e => ?_, fun a u e => .inl e⟩
  by_cases q : a = p
  · subst q; rw [upd_same]; exact fun z => by cases z
  · rw [upd_ne q]; exact e
/-- an own object (made behind H) is changed -/
theorem Xt.set (x : Xt b H G H1 G1) (h : H l = none) (hg : G1 l = none) : Xt b H G (upd H1 l o) G1 := by
  refine ⟨x.sub0, x.gg, fun a u e => ?_, fun a u n e => ?_, fun a e => ?_, x.nw⟩
  · rw [upd_ne (ne_of_none e hg)]; exact x.sub a u e
  · rw [upd_ne (ne_of_none e h)]; exact x.hh a u n e
  · by_cases q : a = l
    · subst q; rw [upd_same]; exact fun z => by cases z
    · rw [upd_ne q]; exact x.th a e
/-- the one old object is changed -/
theorem Xt.put {b : Addr} (x : Xt (some b) H G H1 G1) (hg : G1 b = none) : Xt (some b) H G (upd H1 b o) G1 := by
  refine ⟨x.sub0, x.gg, fun a u e => ?_, fun a u n e => ?_, fun a e => ?_, x.nw⟩
  · rw [upd_ne (ne_of_none e hg)]; exact x.sub a u e
  · rw [upd_ne (fun q => n (by rw [q]))]; exact x.hh a u n e
  · by_cases q : a = b
    · subst q; rw [upd_same]; exact fun z => by cases z
    · rw [upd_ne q]; exact x.th a e
/-- an own object becomes stable -/
theorem Xt.fix (x : Xt b H G H1 G1) (h : H l = none) (hl : H1 l = some o) : Xt b H G H1 (upd G1 l o) := by
  have g1 : Same G1 (upd G1 l o) := fun a u e => by
    by_cases q : a = l
    · subst q; rw [upd_same, ← hl]; exact x.sub a u e
    · rw [upd_ne q]; exact e
  refine ⟨x.sub0, fun a u e => g1 a u (x.gg a u e), fun a u e => ?_, x.hh, x.th, fun a u e => ?_⟩
  · by_cases q : a = l
    · subst q; rw [upd_same] at e; rw [hl]; exact e
    · rw [upd_ne q] at e; exact x.sub a u e
  · by_cases q : a = l
    · subst q; exact .inr h
    · rw [upd_ne q] at e; exact x.nw a u e
/-- what is not stable and old stays so -/
theorem Xt.non (x : Xt b H G H1 G1) (h : H l ≠ none) (hg : G l = none) : G1 l = none := by
  cases e : G1 l with
  | none => rfl
  | some u =>
    rcases x.nw l u e with z | z
    · rw [hg] at z; cases z
    · exact absurd z h
theorem Xt.alloc (x : Xt b H G H1 G1) (h : H1 p = none) : Xt b H G (upd H1 p o) (upd G1 p o) := x.trans (Xt.new x.sub h)
theorem Xt.allocT (x : Xt b H G H1 G1) (h : H1 p = none) : Xt b H G (upd H1 p o) G1 := x.trans (Xt.tmp x.sub h)
end
theorem ne_none_of {H : Hp} {a : Addr} {o : HO} (h : H a = some o) : H a ≠ none := by rw [h]; exact fun z => by cases z
theorem none_of_ne {G : Hp} {l p : Addr} {o : HO} (h : G l = none) (n : l ≠ p) : upd G p o l = none := by rw [upd_ne n]; exact h

/-! ### data in the stable part -/
mutual
inductive D (G : Hp) : V → PyData → Prop
  | non : D G .non .none
  | bl (b : Bool) : D G (.bl b) (.bool b)
  | int (i : Int) : D G (.int i) (.int i)
  | str (x : Str) : D G (.str x) (.str x)
  | lst {a : Addr} {xs : List V} {ds : List PyData} : G a = some (.lst xs) → DA G xs ds → D G (.ref a) (.list ds)
  | tup {a : Addr} {xs : List V} {ds : List PyData} : G a = some (.tup xs) → DA G xs ds → D G (.ref a) (.tuple ds)
inductive DA (G : Hp) : List V → List PyData → Prop
  | nil : DA G [] []
  | cons {v : V} {vs : List V} {d : PyData} {ds : List PyData} : D G v d → DA G vs ds → DA G (v :: vs) (d :: ds)
end
section
variable {G G' H : Hp} {K : PySem.W.Frag}
mutual
theorem D.mono (s : Same G G') : ∀ {d : PyData} {v : V}, D G v d → D G' v d
  | _, _, .non => .non
  | _, _, .bl b => .bl b
  | _, _, .int i => .int i
  | _, _, .str x => .str x
  | _, _, .lst h a => .lst (s _ _ h) (DA.mono s a)
  | _, _, .tup h a => .tup (s _ _ h) (DA.mono s a)
theorem DA.mono (s : Same G G') : ∀ {ds : List PyData} {vs : List V}, DA G vs ds → DA G' vs ds
  | _, _, .nil => .nil
  | _, _, .cons h a => .cons (D.mono s h) (DA.mono s a)
end
mutual
theorem D.dp (s : Same G H) : ∀ {d : PyData} {v : V}, D G v d → Dp K H v d
  | _, _, .non => .non
  | _, _, .bl b => .bl b
  | _, _, .int i => .int i
  | _, _, .str x => .str x
  | _, _, .lst h a => .lst (SqL.of (s _ _ h)) (DA.dp s a)
  | _, _, .tup h a => .tup (SqT.of (s _ _ h)) (DA.dp s a)
theorem DA.dp (s : Same G H) : ∀ {ds : List PyData} {vs : List V}, DA G vs ds → DpAll K H vs ds
  | _, _, .nil => .nil
  | _, _, .cons h a => .cons (D.dp s h) (DA.dp s a)
end
theorem DA.length : ∀ {ds : List PyData} {vs : List V}, DA G vs ds → vs.length = ds.length
  | _, _, .nil => rfl
  | _, _, .cons _ a => by rw [List.length_cons, List.length_cons, DA.length a]
theorem DA.get : ∀ {ds : List PyData} {vs : List V} {i : Nat} {v : V}, DA G vs ds → vs[i]? = some v → ∃ d, ds[i]? = some d ∧ D G v d
  | _, _, i, v, .nil, h => by simp at h
  | _, _, 0, v, .cons h a, e => by simp at e; subst e; exact ⟨_, rfl, h⟩
  | _, _, i + 1, v, .cons h a, e => by
    obtain ⟨d, h1, h2⟩ := DA.get (i := i) (v := v) a (by simpa using e)
    exact ⟨d, by simpa using h1, h2⟩
theorem DA.at : ∀ {ds : List PyData} {vs : List V} {i : Nat} {d : PyData}, DA G vs ds → ds[i]? = some d → ∃ v, vs[i]? = some v ∧ D G v d
  | _, _, i, v, .nil, h => by simp at h
  | _, _, 0, v, .cons h a, e => by simp at e; subst e; exact ⟨_, rfl, h⟩
  | _, _, i + 1, v, .cons h a, e => by
    obtain ⟨d, h1, h2⟩ := DA.at (i := i) (d := v) a (by simpa using e)
    exact ⟨d, by simpa using h1, h2⟩
theorem DA.append : ∀ {ds es : List PyData} {vs ws : List V}, DA G vs ds → DA G ws es → DA G (vs ++ ws) (ds ++ es)
  | _, _, _, _, .nil, b => b
  | _, _, _, _, .cons h a, b => .cons h (DA.append a b)
theorem DA.one {v : V} {d : PyData} (h : D G v d) : DA G [v] [d] := .cons h .nil
theorem DA.take : ∀ {ds : List PyData} {vs : List V} (n : Nat), DA G vs ds → DA G (vs.take n) (ds.take n)
  | _, _, 0, _ => .nil
  | _, _, _ + 1, .nil => .nil
  | _, _, n + 1, .cons h a => .cons h (DA.take n a)
theorem DA.drop : ∀ {ds : List PyData} {vs : List V} (n : Nat), DA G vs ds → DA G (vs.drop n) (ds.drop n)
  | _, _, 0, r => r
  | _, _, _ + 1, .nil => .nil
  | _, _, n + 1, .cons _ a => DA.drop n a
theorem DA.reverse {ds : List PyData} {vs : List V} (a : DA G vs ds) : DA G vs.reverse ds.reverse := by
  induction vs generalizing ds with
  | nil => cases a; exact .nil
  | cons v vs ih =>
    cases a with
    | cons h a => rw [List.reverse_cons, List.reverse_cons]; exact (ih a).append (.one h)
theorem DA.ints : ∀ {ns : List Int} {vs : List V}, DA G vs (ns.map .int) → vs = ns.map V.int
  | [], _, .nil => rfl
  | n :: ns, _, .cons h a => by
    cases h
    rw [DA.ints a] <;> rfl
theorem DA.ofInts : ∀ (ns : List Int), DA G (ns.map V.int) (ns.map .int)
  | [] => .nil
  | n :: ns => .cons (.int n) (DA.ofInts ns)
theorem DA.strs : ∀ {ns : List Str} {vs : List V}, DA G vs (ns.map .str) → vs = ns.map V.str
  | [], _, .nil => rfl
  | n :: ns, _, .cons h a => by
    cases h
    rw [DA.strs a] <;> rfl
theorem DA.ofStrs : ∀ (ns : List Str), DA G (ns.map V.str) (ns.map .str)
  | [] => .nil
  | n :: ns => .cons (.str n) (DA.ofStrs ns)
theorem D.list_inv {v : V} {ds : List PyData} (h : D G v (.list ds)) : ∃ a xs, v = .ref a ∧ G a = some (.lst xs) ∧ DA G xs ds := by
  cases h with
  | lst h a => exact ⟨_, _, rfl, h, a⟩
theorem D.tup_inv {v : V} {ds : List PyData} (h : D G v (.tuple ds)) : ∃ a xs, v = .ref a ∧ G a = some (.tup xs) ∧ DA G xs ds := by
  cases h with
  | tup h a => exact ⟨_, _, rfl, h, a⟩
end

/-! ### the bag of draws -/
/-- the bag at b, from which at most c numbers were drawn -/
def Bag (H : Hp) (b : Addr) (c : Int) : Prop := ∃ x y z : Int, H b = some (.lst [.int x, .int y, .int z]) ∧ 0 ≤ y ∧ y < 8000000000000000000 ∧ 0 ≤ z ∧ z ≤ c
theorem Bag.mono {H : Hp} {b : Addr} {c d : Int} (h : Bag H b c) (e : c ≤ d) : Bag H b d := by
  obtain ⟨x, y, z, h1, h2, h3, h4, h5⟩ := h
  exact ⟨x, y, z, h1, h2, h3, h4, Int.le_trans h5 e⟩
theorem Bag.ne {H : Hp} {b : Addr} {c : Int} (h : Bag H b c) : H b ≠ none := by
  obtain ⟨x, y, z, h1, _⟩ := h
  exact ne_none_of h1
theorem Bag.keep {H G H' G' : Hp} {b : Addr} {c : Int} (h : Bag H b c) (x : Xt none H G H' G') : Bag H' b c := by
  obtain ⟨x1, y, z, h1, h2⟩ := h
  exact ⟨x1, y, z, x.hh b _ (fun z => by cases z) h1, h2⟩
theorem Bag.new {H : Hp} {b p : Addr} {c : Int} {o : HO} (h : Bag H b c) (hp : H p = none) : Bag (upd H p o) b c := by
  obtain ⟨x1, y, z, h1, h2⟩ := h
  exact ⟨x1, y, z, upd_same_ hp _ _ h1, h2⟩
theorem Bag.upd {H : Hp} {b p : Addr} {c : Int} {o : HO} (h : Bag H b c) (hp : b ≠ p) : Bag (upd H p o) b c := by
  obtain ⟨x1, y, z, h1, h2⟩ := h
  exact ⟨x1, y, z, by rw [upd_ne hp]; exact h1, h2⟩

/-- the law's helpers that draw -/
def spTake : Sp := fun vs H Q _ => ∃ (b : Addr) (n c : Int), vs = [.ref b, .int n] ∧ 0 < n ∧ n ≤ 1000000 ∧ Bag H b c ∧ c ≤ 1000000 ∧
  ∀ r x y z : Int, 0 ≤ r → r < n → Bag (upd H b (.lst [.int x, .int y, .int z])) b (c + 1) → Q (.int r) (upd H b (.lst [.int x, .int y, .int z]))
/-- _law_of: an item -/
def spOf : Sp := fun vs H Q _ => ∃ (b a : Addr) (xs : List V) (c : Int), vs = [.ref b, .ref a] ∧ H a = some (.lst xs) ∧ a ≠ b ∧ xs ≠ [] ∧ xs.length ≤ 1000000 ∧ Bag H b c ∧ c ≤ 1000000 ∧
  ∀ (v : V) (i : Nat) (x y z : Int), xs[i]? = some v → Bag (upd H b (.lst [.int x, .int y, .int z])) b (c + 1) → Q v (upd H b (.lst [.int x, .int y, .int z]))
/-- _law_bag: a new bag -/
def spBag (K : PySem.W.Frag) : Sp := fun vs H Q _ => ∃ (a : Addr) (ns : List Int) (i : Int), vs = [.ref a, .int i] ∧ SqL K H a (ns.map V.int) ∧ 0 ≤ i ∧ i ≤ 1000 ∧
  ∀ (p : Addr) (x y z : Int), H p = none → Bag (upd H p (.lst [.int x, .int y, .int z])) p 0 → Q (.ref p) (upd H p (.lst [.int x, .int y, .int z]))
end Nw
/-! Own layer: an own class's len, repr, in, ==, !=. -/
namespace PySem.W
open PySem PySem.Calls PyProof.Rows Builtin
section
variable {prog : Program} {w : World} {A : Around} {E : Value → Shared → Prop} {s : Shared} {K : Frag} {x C L f : Addr} {h₀ : Heap} {m : Str → Option Value} {ox : Obj} {od : Option Obj} {b tb : Value}
theorem nw_ifBoundB {M : Model} {name : Str} {id : String} {args : List Value} {Q : Option Value → Shared → Prop} (X : K.In s.heap) (I : InstAt s.heap x ox C od) (hs : findIn K (.ref C) name = some (some (.builtin id)))
    (hb : ∀ self, bindSpecial (.builtin id) self = pure (.builtin id, [self])) (h : wpAny M A (call (.builtin id) (.ref x :: args)) (fun v => Q (some v)) E s) : wpAny M A (callSpecialIfBound? (.ref x) name args) Q E s := by
  simp only [callSpecialIfBound?, bindSpecialIfBound?]
  refine wpAny_holding (wpAny_bind (wpAny_bind (wpAny_bind (I.type.here ((looks_findIn X hs).here ?_)))))
  refine wpAny_bind (wpAny_askSetting (wpAny_ite ?_))
  have fin : wpAny M A (call (.builtin id) ([.ref x] ++ args) >>= fun v => pure (some v)) Q E s := wpAny_bind (wpAny_mono h (fun v s' h' => wpAny_pure h') fun _ _ h' => h')
  split
  · exact wpAny_bind ((Looks.of_pure (hb _)).here (wpAny_pure (by exact fin)))
  · exact wpAny_tryCatch (wpAny_bind ((Looks.of_pure (hb _)).here (wpAny_pure (by exact fin))))
theorem nw_objNe {Q : Value → Shared → Prop} (hu : A.in1.units < cLine) (X : K.In s.heap) (I : InstAt s.heap x ox C od) (hm : mroIn K C (.type "object") = some true) (hs : findIn K (.ref C) "__eq__" = some (some (.ref f))) (hf : isFn K (.ref f) = true)
    (h : wpAny (model prog w) A.in1 (call (.ref f) [.ref x, b]) (fun v s' => ∃ r, v = .bool r ∧ Q (.bool (!r)) s') E s) : wpAny (model prog w) A (call (.builtin "object.__ne__") [.ref x, b]) Q E s := by
  refine wpAny_call (codeAny_call_builtin PySem.F.cmp_object.ne.plain PySem.F.cmpEntry_ne (check_slot (i := "object.__ne__") (owner := "object") (n := "__ne__") PySem.F.cmpKind_ne PySem.F.cmpSplit_ne (I.type.andThen (looks_mroIn X hm)) (PySem.F.cmpArgs_ne _ _) ?_))
  unfold Builtin.«object.__ne__»
  repeat (first
    | with_reducible refine wpAny_cRoomFor hu ?_
    | (refine wpAny_bind (m := callSpecialIfBound? (.ref x) (Str.ofString "__eq__") [b])
        (ifBound_K X I hs hf (wpAny_mono h (fun r s' hr => by
          obtain ⟨r, rfl, hq⟩ := hr
          repeat (first | exact hq | exact wpAny_pure hq | exact wpAny_truthy_bool hq | (refine wpAny_bind (m := truthy (.bool _)) (wpAny_truthy_bool ?_)) | wp_step)) fun _ _ e => e)))
    | wp_step)
theorem nw_ne {Q : Value → Shared → Prop} (hu : A.in1.units < cLine) (F : Fr h₀ L s.heap m) (X₀ : K.In h₀) (I : InstAt s.heap x ox C od) (hb : Looks (model prog w) s.heap (typeOf b) tb) (hn : notFirst K C tb = true)
    (hne : findIn K (.ref C) "__ne__" = some (some (.builtin "object.__ne__"))) (hm : mroIn K C (.type "object") = some true) (hs : findIn K (.ref C) "__eq__" = some (some (.ref f))) (hf : isFn K (.ref f) = true)
    (h : wpAny (model prog w) A.in1 (call (.ref f) [.ref x, b]) (fun v s' => ∃ r, v = .bool r ∧ Q (.bool (!r)) s') E s) : wpAny (model prog w) A (richCompare .NotEq (.ref x) b) Q E s := by
  have X := X₀.keeps F.keep
  have hu0 : A.units < cLine := Nat.lt_of_le_of_lt (Nat.le_succ _) hu
  have one : wpAny (model prog w) A (tryCompare (.ref x) (cmpInfo .NotEq).2.1 b) (fun r s' => ∃ v, r = some v ∧ Q v s') E s := by
    unfold tryCompare
    refine wpAny_bind (nw_ifBoundB X I hne PySem.F.cmp_object.ne.bind (nw_objNe hu X I hm hs hf (wpAny_mono h (fun v s' hv => ?_) fun _ _ e => e)))
    obtain ⟨r, rfl, hq⟩ := hv
    exact ⟨r, rfl, wpAny_pure ⟨_, rfl, hq⟩⟩
  unfold richCompare
  simp only [oneThing_ref]
  refine wpAny_holding (wpAny_bind (wpAny_cRoomFor hu0 ?_))
  refine wpAny_bind (I.type.here (wpAny_bind (hb.here ?_)))
  split
  · rename_i q
    have e : subIn K tb (.ref C) = some false := by
      rcases Bool.or_eq_true_iff.mp hn with e | e
      · rw [beq_iff_eq.mp e] at q; simp at q
      · exact beq_iff_eq.mp e
    refine wpAny_bind ((looks_subIn X e).here ?_)
    simp only [Bool.false_eq_true, if_false]
    refine wpAny_bind (wpAny_mono one (fun r s' z => ?_) fun _ _ e => e)
    obtain ⟨v, rfl, hq⟩ := z
    exact wpAny_pure hq
  · refine wpAny_bind (wpAny_pure ?_)
    simp only [Bool.false_eq_true, if_false]
    refine wpAny_bind (wpAny_mono one (fun r s' z => ?_) fun _ _ e => e)
    obtain ⟨v, rfl, hq⟩ := z
    exact wpAny_pure hq
end
end PySem.W
namespace Nw
open PySem L2 PySem.Spec PyProof.Rows
/-- a special method of the class at C, by its promise -/
structure Own (P : Program) (w : World) (K : PySem.W.Frag) (mg : Str → Option Value) (base : Heap) (k : Nat) (C : Addr) (m : Str) (sp : Sp) : Prop where
  ex : ∃ (f : Addr) (fd : FuncData) (ps : List Str), FnOk P w K mg base CX0 k f fd ps sp ∧ PySem.W.findIn K (.ref C) m = some (some (.ref f)) ∧ PySem.W.isFn K (.ref f) = true ∧ Binds K fd ps []
section
variable {X : Cx} {k : Nat} {C : Addr} {sp : Sp}
theorem Env0.at {X : Cx} {pins : List (Addr × Obj)} {σ : L2.St} {H : Hp} {s : Shared} (I : Inv X pins σ H s) {A : Around} (h : A.frames = X.A.frames) : Env0 X.prog X.w X.K X.mg X.base A X.stack s H := by
  have e := I.env0
  exact ⟨by rw [h]; exact e.frames, e.mod, e.bs, e.bsz, e.funs, e.frf, e.hok, e.bare⟩
/-- the method's call, somewhere below X -/
theorem own_call {m : Str} (O : Own X.prog X.w X.K X.mg X.base k C m sp) {A : Around} (hr : Room k A) (hfr : A.frames = X.A.frames) {pins : List (Addr × Obj)} {σ : L2.St} {H : Hp} {s : Shared} (I : Inv X pins σ H s) {us : List Value} {vs : List V} {Q : VK} {R : Value → Shared → Prop} (r : Vals vs us)
    (h : sp vs H Q E0) (hq : ∀ u s', EP X pins σ Q u s' → R u s') :
    ∃ f, PySem.W.findIn X.K (.ref C) m = some (some (.ref f)) ∧ PySem.W.isFn X.K (.ref f) = true ∧ wpAny (model X.prog X.w) A (call (.ref f) us) R X.xe s := by
  obtain ⟨f, fd, ps, F, h1, h2, hb⟩ := O.ex
  refine ⟨f, h1, h2, ?_⟩
  have hl : us.length = ps.length := by rw [← r.length]; exact F.len _ _ _ _ h
  have b := hb s us I.kIn (by rw [List.append_nil]; exact hl)
  rw [List.append_nil] at b
  refine wpAny_call (codeAny_mono (F.run A X.stack s H ⟨us, []⟩ us vs Q E0 hr (Env0.at I hfr) b r h) fun r s' hq' => ?_)
  cases r with
  | error e => exact hq'.elim
  | ok fl =>
    cases fl with
    | ret u => exact hq u s' (I.after hq')
    | next => exact False.elim hq'
    | brk => exact False.elim hq'
    | cont => exact False.elim hq'
def rLenO (C : Addr) (sp : Sp) : List V → Hp → VK → Prop := fun xs H Q => ∃ (a dx : Addr) (fs : List (Str × V)), xs = [.ref a] ∧ H a = some (.ins C dx fs) ∧ sp [.ref a] H (fun v H' => ∃ n : Int, v = .int n ∧ 0 ≤ n ∧ n < 2 ^ 63 ∧ Q (.int n) H') E0
theorem call_lenO (O : Own X.prog X.w X.K X.mg X.base k C "__len__" sp) (hr : Room (k + 1) X.A) : CallR X (.builtin "len") (rLenO C sp) := by
  intro pins s σ H xs us Q I r h
  obtain ⟨a, dx, fs, rfl, ha, hsp⟩ := h
  obtain ⟨u, rfl, r1⟩ := vals1 r
  cases r1
  obtain ⟨mA, J, _⟩ := ins_get I.hok ha
  obtain ⟨od, J, _⟩ := J.look
  obtain ⟨m, hF⟩ := I.fr
  obtain ⟨f, h1, h2, h3⟩ := own_call (A := X.A.in1) (us := [Value.ref a]) (vs := [V.ref a]) (R := PySem.W.LenBack (EP X pins σ Q)) O hr.in1 rfl I (.cons rfl .nil) hsp fun u s' hu => by
    obtain ⟨v, H', I', rv, n, rfl, n0, n1, q⟩ := hu
    obtain ⟨t, rfl⟩ := rv
    exact ⟨⟨n0, n1⟩, .int n, H', I'.tok _, ⟨_, rfl⟩, q⟩
  exact PySem.W.len_K hF I.ok.mod.kin J h1 h2 h3
def rReprO (C : Addr) (sp : Sp) : List V → Hp → VK → Prop := fun xs H Q => ∃ (a dx : Addr) (fs : List (Str × V)), xs = [.ref a] ∧ H a = some (.ins C dx fs) ∧ sp [.ref a] H (fun v H' => ∃ z : Str, v = .str z ∧ Q (.str z) H') E0
theorem call_reprO (O : Own X.prog X.w X.K X.mg X.base k C "__repr__" sp) (hr : Room (k + 1) X.A) : CallR X (.builtin "repr") (rReprO C sp) := by
  intro pins s σ H xs us Q I r h
  obtain ⟨a, dx, fs, rfl, ha, hsp⟩ := h
  obtain ⟨u, rfl, r1⟩ := vals1 r
  cases r1
  obtain ⟨mA, J, _⟩ := ins_get I.hok ha
  obtain ⟨od, J, _⟩ := J.look
  obtain ⟨m, hF⟩ := I.fr
  obtain ⟨f, h1, h2, h3⟩ := own_call (A := X.A.in1) (us := [Value.ref a]) (vs := [V.ref a]) (R := PySem.W.StrBack (EP X pins σ Q)) O hr.in1 rfl I (.cons rfl .nil) hsp fun u s' hu => by
    obtain ⟨v, H', I', rv, z, rfl, q⟩ := hu
    obtain ⟨t, rfl⟩ := rv
    exact ⟨.str z, H', I', ⟨_, rfl⟩, q⟩
  exact PySem.W.repr_K (hr.in1).units0 hF I.ok.mod.kin J h1 h2 h3
/-- y in x, x an instance -/
def rInO (C : Addr) (sp : Sp) (neg : Bool) : R2 := fun y x H Q => ∃ (a dx : Addr) (fs : List (Str × V)), x = .ref a ∧ H a = some (.ins C dx fs) ∧ sp [.ref a, y] H (fun v H' => ∃ r : Bool, v = .bl r ∧ Q (.bl (if neg then !r else r)) H') E0
theorem op_inO (O : Own X.prog X.w X.K X.mg X.base k C "__contains__" sp) (hr : Room k X.A) : OpR X (compareOp .In) (rInO C sp false) := by
  intro pins s σ H y x v u Q I ry rx h
  obtain ⟨a, dx, fs, rfl, ha, hsp⟩ := h
  cases rx
  obtain ⟨mA, J, _⟩ := ins_get I.hok ha
  obtain ⟨od, J, _⟩ := J.look
  obtain ⟨m, hF⟩ := I.fr
  obtain ⟨f, h1, h2, h3⟩ := own_call (A := X.A) (us := [Value.ref a, v]) (vs := [V.ref a, y]) (R := fun r s' => wpAny (model X.prog X.w) X.A (truthy r) (fun b => EP X pins σ Q (.bool b)) X.xe s') O hr rfl I (.cons rfl (.cons ry .nil)) hsp fun u s' hu => by
    obtain ⟨v, H', I', rv, z, rfl, q⟩ := hu
    cases rv
    exact wpAny_truthy_bool ⟨.bl z, H', I', rfl, q⟩
  exact PySem.W.in_K hF I.ok.mod.kin J h1 h2 h3
/-- x == y, x != y by an own __eq__ -/
def rEqO (C : Addr) (sp : Sp) (neg : Bool) : R2 := fun x y H Q => ∃ (a dx : Addr) (fs : List (Str × V)), x = .ref a ∧ H a = some (.ins C dx fs) ∧ sp [.ref a, y] H (fun v H' => ∃ r : Bool, v = .bl r ∧ Q (.bl (if neg then !r else r)) H') E0
/-- the right side's type: none that C is a base of -/
structure NoFirst (K : PySem.W.Frag) (C : Addr) : Prop where
  non : PySem.W.notFirst K C (.type "NoneType") = true
  bl : PySem.W.notFirst K C (.type "bool") = true
  int : PySem.W.notFirst K C (.type "int") = true
  str : PySem.W.notFirst K C (.type "str") = true
  lst : PySem.W.notFirst K C (.type "list") = true
  tup : PySem.W.notFirst K C (.type "tuple") = true
  ne : PySem.W.findIn K (.ref C) "__ne__" = some (some (.builtin "object.__ne__"))
  mro : PySem.W.mroIn K C (.type "object") = some true
def plainV (K : PySem.W.Frag) (C : Addr) (H : Hp) : V → Prop
  | .non => True
  | .bl _ => True
  | .int _ => True
  | .str _ => True
  | .ref a => (∃ xs, H a = some (.lst xs)) ∨ (∃ xs, H a = some (.tup xs)) ∨ ∃ dx fs, H a = some (.ins C dx fs)
  | _ => False
theorem looks_plain (N : NoFirst X.K C) {pins : List (Addr × Obj)} {σ : L2.St} {H : Hp} {s : Shared} (I : Inv X pins σ H s) {y : V} {v : Value} (ry : RelV y v) (h : plainV X.K C H y) {M : Model} :
    ∃ tb, PySem.W.Looks M s.heap (typeOf v) tb ∧ PySem.W.notFirst X.K C tb = true := by
  have go : ∀ {t : Value}, TyX X.K H y t → PySem.W.Looks M s.heap (typeOf v) t := fun {t} ty => by
    obtain ⟨P, Z, p, _⟩ := kit_of I ry ty
    exact Z.ty M s.heap I.kIn p
  cases y with
  | non => exact ⟨_, go (.base .non), N.non⟩
  | bl b => exact ⟨_, go (.base (.bl b)), N.bl⟩
  | int i => exact ⟨_, go (.base (.int i)), N.int⟩
  | str z => exact ⟨_, go (.base (.str z)), N.str⟩
  | ref a =>
    rcases h with ⟨xs, h⟩ | ⟨xs, h⟩ | ⟨dx, fs, h⟩
    · exact ⟨_, go (.base (.lst h)), N.lst⟩
    · exact ⟨_, go (.base (.tup h)), N.tup⟩
    · cases ry
      obtain ⟨mA, J, _⟩ := ins_get I.hok h
      obtain ⟨od, J, _⟩ := J.look
      exact ⟨.ref C, J.type, by simp [PySem.W.notFirst]⟩
  | byt b => exact h.elim
  | flt b => exact h.elim
  | ty n => exact h.elim
theorem op_eqO (O : Own X.prog X.w X.K X.mg X.base k C "__eq__" sp) (N : NoFirst X.K C) (hr : Room k X.A) : OpR X (compareOp .Eq) (fun x y H Q => plainV X.K C H y ∧ rEqO C sp false x y H Q) := by
  intro pins s σ H x y v u Q I rx ry h
  obtain ⟨hy, a, dx, fs, rfl, ha, hsp⟩ := h
  cases rx
  obtain ⟨mA, J, _⟩ := ins_get I.hok ha
  obtain ⟨od, J, _⟩ := J.look
  obtain ⟨m, hF⟩ := I.fr
  obtain ⟨tb, l1, l2⟩ := looks_plain (M := model X.prog X.w) N I ry hy
  obtain ⟨f, h1, h2, h3⟩ := own_call (A := X.A) (us := [Value.ref a, u]) (vs := [V.ref a, y]) (R := PySem.W.CmpBack (EP X pins σ Q)) O hr rfl I (.cons rfl (.cons ry .nil)) hsp fun u s' hu => by
    obtain ⟨v, H', I', rv, z, rfl, q⟩ := hu
    cases rv
    exact ⟨.bl z, H', I', rfl, q⟩
  show wpAny (model X.prog X.w) X.A (richCompare .Eq _ _) _ _ _
  exact PySem.W.cmp_K (op := .Eq) hr.units0 hF I.ok.mod.kin J l1 l2 h1 h2 h3
theorem op_neO (O : Own X.prog X.w X.K X.mg X.base k C "__eq__" sp) (N : NoFirst X.K C) (hr : Room (k + 1) X.A) : OpR X (compareOp .NotEq) (fun x y H Q => plainV X.K C H y ∧ rEqO C sp true x y H Q) := by
  intro pins s σ H x y v u Q I rx ry h
  obtain ⟨hy, a, dx, fs, rfl, ha, hsp⟩ := h
  cases rx
  obtain ⟨mA, J, _⟩ := ins_get I.hok ha
  obtain ⟨od, J, _⟩ := J.look
  obtain ⟨m, hF⟩ := I.fr
  obtain ⟨tb, l1, l2⟩ := looks_plain (M := model X.prog X.w) N I ry hy
  obtain ⟨f, h1, h2, h3⟩ := own_call (A := X.A.in1) (us := [Value.ref a, u]) (vs := [V.ref a, y]) (R := fun v s' => ∃ r, v = .bool r ∧ EP X pins σ Q (.bool (!r)) s') O hr.in1 rfl I (.cons rfl (.cons ry .nil)) hsp fun u s' hu => by
    obtain ⟨v, H', I', rv, z, rfl, q⟩ := hu
    cases rv
    exact ⟨z, rfl, .bl (!z), H', I', rfl, q⟩
  show wpAny (model X.prog X.w) X.A (richCompare .NotEq _ _) _ _ _
  exact PySem.W.nw_ne (hr.in1).units0 hF I.ok.mod.kin J l1 l2 N.ne N.mro h1 h2 h3
end
end Nw
/-! Own layer: comprehensions that make data. -/
namespace Nw
open PySem L2 PySem.Spec PyProof.Rows RZ
theorem small_line {n : Nat} (h : n ≤ 100000) : n ≤ sizeLine := Nat.le_trans h (by decide)
theorem small_lt {n : Nat} (h : n < 100000) : n < sizeLine := Nat.lt_of_lt_of_le h (by decide)
theorem getElem?_lt {α : Type} {l : List α} {i : Nat} {x : α} (h : l[i]? = some x) : i < l.length := (List.getElem?_eq_some_iff.mp h).1
theorem take_succ_of {α : Type} {l : List α} {i : Nat} {x : α} (h : l[i]? = some x) : l.take (i + 1) = l.take i ++ [x] := by
  rw [List.take_add_one, h]; rfl
theorem walk_zipT {K : PySem.W.Frag} {a b : Addr} {xs ys : List V} {n : Nat} (hn : n = min xs.length ys.length) : Walk (ItzT K a b) n (fun H => SqT K H a xs ∧ SqT K H b ys) (YPair (fun i => xs[i]?) (fun i => ys[i]?)) := by
  subst hn
  refine ⟨fun i _ hi q => ?_, fun _ q => ⟨xs, ys, q.1, q.2, by omega⟩, fun i H v H' _ q y => ?_⟩
  · have h1 : i < xs.length := by omega
    have h2 : i < ys.length := by omega
    exact ⟨xs, ys, xs[i], ys[i], q.1, q.2, by simp [h1], by simp [h2]⟩
  · obtain ⟨T, x, z, h1, h2, h3, h4, h5⟩ := y
    exact ⟨T, x, z, h1, h2, h3, h4 xs q.1, h5 ys q.2⟩
theorem map_eraseIdx {α β : Type} (f : α → β) : ∀ (l : List α) (i : Nat), (l.map f).eraseIdx i = (l.eraseIdx i).map f
  | [], _ => rfl
  | _ :: _, 0 => rfl
  | a :: l, i + 1 => by
    show f a :: (l.map f).eraseIdx i = f a :: (l.eraseIdx i).map f
    rw [map_eraseIdx f l i]
theorem perm_eraseIdx {α : Type} : ∀ {l : List α} {i : Nat} {x : α}, l[i]? = some x → (x :: l.eraseIdx i).Perm l
  | [], i, x, h => by simp at h
  | a :: l, 0, x, h => by simp at h; subst h; exact .refl _
  | a :: l, i + 1, x, h => by
    have ih := perm_eraseIdx (l := l) (i := i) (x := x) (by simpa using h)
    exact (List.Perm.swap a x (l.eraseIdx i)).trans (ih.cons a)
/-- a comprehension without a test whose i-th item is the datum ds[i]; b: what may change meanwhile, R: what is kept of that by turns -/
theorem lc_data {J : It} {n : Nat} {Gp : Hp → Prop} {Y : Nat → Hp → V → Hp → Prop} (w : Walk J n Gp Y) {b : Option Addr} {R : Nat → Hp → Prop} {g : TG} {te : TE} {vs : List Nat} {σ : L2.St} {H G : Hp} {Dl : Addr} {Qd : Hp → Prop}
    (ds : List PyData) (hn : ds.length = n) (hz : n < 100000) (hD : H Dl = none) (s : Same G H) (hb : b ≠ some Dl) (hR0 : R 0 H) (hR : ∀ i H o, R i H → R i (upd H Dl o))
    (hG : ∀ i H1 G1, Xt b H G H1 G1 → R i H1 → Gp H1)
    (hs : ∀ i x H1 G1 H2 d, ds[i]? = some d → Xt b H G H1 G1 → R i H1 → Y i H1 x H2 → ∀ Qy : VK, (∀ y H4 G4, Xt b H1 G1 H4 G4 → R (i + 1) H4 → D G4 y d → Qy y H4) → g x (wipe σ vs) H2 fun σ2 H3 => wipe σ2 vs = wipe σ vs ∧ te σ2 H3 Qy)
    (hd : ∀ H1 G1 xs, Xt b H G H1 G1 → R n H1 → H1 Dl = some (.lst xs) → G1 Dl = none → DA G1 xs ds → Qd H1) :
    ∃ W : Nat → Nat → Hp → Prop, (∃ m, W 0 m (upd H Dl (.lst []))) ∧ ∀ i m H, W i m H →
      (J.stop i H ∧ Qd H) ∨ (J.go i H ∧ ∃ Nx : Hp → Prop, (∀ H', Nx H' → ∃ m', m' < m ∧ W (i + 1) m' H') ∧ ∀ x H', J.yld i H x H' → g x (wipe σ vs) H' fun σ2 H2 => wipe σ2 vs = wipe σ vs ∧ tYes σ2 H2 fun b H3 =>
        if b = true then te σ2 H3 fun y H4 => ∃ acc, H4 Dl = some (.lst acc) ∧ acc.length < sizeLine ∧ Nx (upd H4 Dl (.lst (acc ++ [y]))) else Nx H3) := by
  have hgD : G Dl = none := s.free hD
  refine lc_it w (Qd := Qd) (fun i H1 => ∃ G1 xs, Xt b H G H1 G1 ∧ R i H1 ∧ H1 Dl = some (.lst xs) ∧ G1 Dl = none ∧ DA G1 xs (ds.take i)) ⟨G, [], Xt.tmp s hD, hR 0 H _ hR0, upd_same, hgD, .nil⟩ (fun i H1 hi ⟨G1, xs, x, r, _⟩ => hG i H1 G1 x r) ?_ ?_
  · rintro i x H1 H2 hi ⟨G1, xs, X1, r, hl, hg, da⟩ hy
    have hi' : i < ds.length := by omega
    have hdi : ds[i]? = some ds[i] := List.getElem?_eq_getElem hi'
    have hl0 : H1 Dl ≠ none := ne_none_of hl
    refine hs i x H1 G1 H2 ds[i] hdi X1 r hy (fun y H4 => ∃ acc, H4 Dl = some (.lst acc) ∧ acc.length < sizeLine ∧ ∃ G1 xs, Xt b H G (upd H4 Dl (.lst (acc ++ [y]))) G1 ∧ R (i + 1) (upd H4 Dl (.lst (acc ++ [y]))) ∧ upd H4 Dl (.lst (acc ++ [y])) Dl = some (.lst xs) ∧ G1 Dl = none ∧ DA G1 xs (ds.take (i + 1))) fun y H4 G4 X4 r4 d4 => ?_
    have l1 : xs.length < sizeLine := by
      have := da.length
      rw [List.length_take] at this
      exact small_lt (by omega)
    refine ⟨xs, X4.hh Dl _ hb hl, l1, G4, xs ++ [y], (X1.trans X4).set hD (X4.non hl0 hg), hR _ _ _ r4, upd_same, X4.non hl0 hg, ?_⟩
    rw [take_succ_of hdi]
    exact (da.mono X4.gg).append (.one d4)
  · rintro H1 ⟨G1, xs, X1, r, hl, hg, da⟩
    rw [show ds.take n = ds from List.take_of_length_le (by omega)] at da
    exact hd H1 G1 xs X1 r hl hg da
/-! ### rules whose reading speaks of K, told with K itself (within a comprehension) -/
section
variable {X : Cx} {K : PySem.W.Frag}
theorem pa_starK {e : Expr} {es : List Expr} {te : TE} {t : TA} {p : Pos} (hK : X.K = K) (he : PE X e te) (hr : PA X es t) (hs : starEach (.Starred e p :: es) X.env = (true, eval e X.env) :: starEach es X.env := by rfl) : PA X (.Starred e p :: es) (StX.tStar K te t) := by
  subst hK; exact StX.pa_star he hr hs
theorem pe_fldK {e : Expr} {f : Str} {ta : TE} {pos : Pos} (hK : X.K = K) (he : PE X e ta) (hb : attributeBase e f X.env (eval e X.env) = eval e X.env) : PE X (.Attribute e f pos) (tFld K ta f) := by
  subst hK; exact pe_fld he hb
theorem ix_tupK (hK : X.K = K) : IxR X (rIxT K) := by subst hK; exact ix_tup
theorem ix_listK (hK : X.K = K) : IxR X (rIxL K) := by subst hK; exact ix_list
theorem op_in_seqK (hK : X.K = K) : OpR X (compareOp .In) (rIn K false) := by subst hK; exact op_in_seq
theorem op_notIn_seqK (hK : X.K = K) : OpR X (compareOp .NotIn) (rIn K true) := by subst hK; exact op_notIn_seq
theorem op_catTK (hK : X.K = K) : OpR X (binaryOp .Add) (rCatT K) := by subst hK; exact op_catT
theorem op_eqDK (hK : X.K = K) (hu : X.A.units + 64 < cLine) : OpR X (compareOp .Eq) (rEqD K) := by subst hK; exact op_eqD hu
theorem op_neDK (hK : X.K = K) (hu : X.A.units + 64 < cLine) : OpR X (compareOp .NotEq) (rNeD K) := by subst hK; exact op_neD hu
end
end Nw
namespace Nw
open PySem L2 PySem.Spec PyProof.Rows RZ
/-- a comprehension of two loops without tests: the i-th turn of the outer one gives the data dss[i] -/
theorem lc2_data {J : It} {n : Nat} {Gp : Hp → Prop} {Y : Nat → Hp → V → Hp → Prop} (w : Walk J n Gp Y) {g g1 : TG} {wi1 : TI} {te : TE} {vs vs1 : List Nat} {σ : L2.St} {H G : Hp} {Dl : Addr} {Qd : Hp → Prop}
    (dss : List (List PyData)) (hn : dss.length = n) (hz : dss.flatten.length < 100000) (hD : H Dl = none) (s : Same G H)
    (hG : ∀ H1 G1, Xt none H G H1 G1 → Gp H1)
    (hs : ∀ i x H1 G1 H2 ds, dss[i]? = some ds → Xt none H G H1 G1 → Y i H1 x H2 → ∀ Qi : L2.St → It → Hp → Prop,
      (∀ (σ2 : L2.St) (J1 : It) (H4 G4 : Hp) (Gp1 : Hp → Prop) (Y1 : Nat → Hp → V → Hp → Prop), Xt none H1 G1 H4 G4 → Walk J1 ds.length Gp1 Y1 → (∀ H5 G5, Xt (some Dl) H4 G4 H5 G5 → Gp1 H5) →
        (∀ j y H5 G5 H6 d, ds[j]? = some d → Xt (some Dl) H4 G4 H5 G5 → Y1 j H5 y H6 → ∀ Qy : VK, (∀ z H7 G7, Xt none H5 G5 H7 G7 → D G7 z d → Qy z H7) → g1 y (wipe σ2 vs1) H6 fun σ3 H7 => wipe σ3 vs1 = wipe σ2 vs1 ∧ te σ3 H7 Qy) → Qi σ2 J1 H4) →
      g x (wipe σ vs) H2 fun σ2 H3 => wipe σ2 vs = wipe σ vs ∧ wi1 σ2 H3 (Qi σ2))
    (hd : ∀ H1 G1 xs, Xt none H G H1 G1 → H1 Dl = some (.lst xs) → G1 Dl = none → DA G1 xs dss.flatten → Qd H1) :
    ∃ W : Nat → Nat → Hp → Prop, (∃ m, W 0 m (upd H Dl (.lst []))) ∧ ∀ i m H, W i m H →
      (J.stop i H ∧ Qd H) ∨ (J.go i H ∧ ∃ Nx : Hp → Prop, (∀ H', Nx H' → ∃ m', m' < m ∧ W (i + 1) m' H') ∧ ∀ x H', J.yld i H x H' → g x (wipe σ vs) H' fun σ2 H2 => wipe σ2 vs = wipe σ vs ∧ tYes σ2 H2 fun b H3 =>
        if b = true then wi1 σ2 H3 fun J1 H4 => ∃ W1 : Nat → Nat → Hp → Prop, (∃ m, W1 0 m H4) ∧ ∀ j k H, W1 j k H →
          (J1.stop j H ∧ Nx H) ∨ (J1.go j H ∧ ∃ Nx1 : Hp → Prop, (∀ H', Nx1 H' → ∃ k', k' < k ∧ W1 (j + 1) k' H') ∧ ∀ x H', J1.yld j H x H' → g1 x (wipe σ2 vs1) H' fun σ3 H5 => wipe σ3 vs1 = wipe σ2 vs1 ∧ tYes σ3 H5 fun b H6 =>
            if b = true then te σ3 H6 fun y H7 => ∃ acc, H7 Dl = some (.lst acc) ∧ acc.length < sizeLine ∧ Nx1 (upd H7 Dl (.lst (acc ++ [y]))) else Nx1 H6)
        else Nx H3) := by
  have hgD : G Dl = none := s.free hD
  have nb : ∀ a : Addr, (none : Option Addr) ≠ some a := fun a q => by cases q
  let Pv : Nat → Hp → Prop := fun i H1 => ∃ G1 xs, Xt none H G H1 G1 ∧ H1 Dl = some (.lst xs) ∧ G1 Dl = none ∧ DA G1 xs (dss.take i).flatten
  have sub : ∀ i, i ≤ dss.length → (dss.take i).flatten.length ≤ dss.flatten.length := fun i _ => by
    have e : (dss.take i).flatten ++ (dss.drop i).flatten = dss.flatten := by rw [← List.flatten_append, List.take_append_drop]
    rw [← e, List.length_append]; omega
  refine ⟨fun i m H1 => m = n - i ∧ i ≤ n ∧ Pv i H1, ⟨n, by simp, Nat.zero_le _, G, [], Xt.tmp s hD, upd_same, hgD, .nil⟩, ?_⟩
  rintro i m H1 ⟨rfl, hi, G1, xs, X1, hl, hg, da⟩
  by_cases hlt : i < n
  · refine .inr ⟨w.goes i H1 hlt (hG H1 G1 X1), Pv (i + 1), fun H' p' => ⟨n - (i + 1), by omega, rfl, hlt, p'⟩, fun x H2 hy => ?_⟩
    have hi' : i < dss.length := by omega
    have hdi : dss[i]? = some dss[i] := List.getElem?_eq_getElem hi'
    have et : (dss.take (i + 1)).flatten = (dss.take i).flatten ++ dss[i] := by rw [take_succ_of hdi, List.flatten_append]; simp
    have hlen := sub (i + 1) hi'
    rw [et, List.length_append] at hlen
    refine hs i x H1 G1 H2 dss[i] hdi X1 (w.yields i H1 x H2 hlt (hG H1 G1 X1) hy) (fun σ2 J1 H4 => ∃ W1 : Nat → Nat → Hp → Prop, (∃ m, W1 0 m H4) ∧ ∀ j k H, W1 j k H →
          (J1.stop j H ∧ Pv (i + 1) H) ∨ (J1.go j H ∧ ∃ Nx1 : Hp → Prop, (∀ H', Nx1 H' → ∃ k', k' < k ∧ W1 (j + 1) k' H') ∧ ∀ x H', J1.yld j H x H' → g1 x (wipe σ2 vs1) H' fun σ3 H5 => wipe σ3 vs1 = wipe σ2 vs1 ∧ tYes σ3 H5 fun b H6 =>
            if b = true then te σ3 H6 fun y H7 => ∃ acc, H7 Dl = some (.lst acc) ∧ acc.length < sizeLine ∧ Nx1 (upd H7 Dl (.lst (acc ++ [y]))) else Nx1 H6)) ?_
    intro σ2 J1 H4 G4 Gp1 Y1 X4 w1 hG1 hs1
    have hl4 := X4.hh Dl _ (nb _) hl
    have hg4 := X4.non (ne_none_of hl) hg
    refine ⟨fun j k H5 => k = dss[i].length - j ∧ j ≤ dss[i].length ∧ ∃ G5 ys, Xt (some Dl) H4 G4 H5 G5 ∧ Xt none H G H5 G5 ∧ H5 Dl = some (.lst (xs ++ ys)) ∧ G5 Dl = none ∧ DA G5 ys (dss[i].take j), ⟨dss[i].length, by simp, Nat.zero_le _, G4, [], Xt.refl X4.sub, X1.trans X4, by rw [hl4, List.append_nil], hg4, .nil⟩, ?_⟩
    rintro j k H5 ⟨rfl, hj, G5, ys, X5, X5', h5, g5, da5⟩
    by_cases hjl : j < dss[i].length
    · refine .inr ⟨w1.goes j H5 hjl (hG1 H5 G5 X5), fun H' => j + 1 ≤ dss[i].length ∧ ∃ G5 ys, Xt (some Dl) H4 G4 H' G5 ∧ Xt none H G H' G5 ∧ H' Dl = some (.lst (xs ++ ys)) ∧ G5 Dl = none ∧ DA G5 ys (dss[i].take (j + 1)), fun H' p' => ⟨dss[i].length - (j + 1), by omega, rfl, p'.1, p'.2⟩, fun y H6 hy1 => ?_⟩
      have hdj : dss[i][j]? = some dss[i][j] := List.getElem?_eq_getElem hjl
      refine hs1 j y H5 G5 H6 dss[i][j] hdj X5 (w1.yields j H5 y H6 hjl (hG1 H5 G5 X5) hy1) (fun z H7 => ∃ acc, H7 Dl = some (.lst acc) ∧ acc.length < sizeLine ∧ j + 1 ≤ dss[i].length ∧ ∃ G5 ys, Xt (some Dl) H4 G4 (upd H7 Dl (.lst (acc ++ [z]))) G5 ∧ Xt none H G (upd H7 Dl (.lst (acc ++ [z]))) G5 ∧ upd H7 Dl (.lst (acc ++ [z])) Dl = some (.lst (xs ++ ys)) ∧ G5 Dl = none ∧ DA G5 ys (dss[i].take (j + 1))) fun z H7 G7 X7 dz => ?_
      have h7 := X7.hh Dl _ (nb _) h5
      have g7 := X7.non (ne_none_of h5) g5
      have l1 := da.length
      have l2 := da5.length
      rw [List.length_take] at l2
      refine ⟨xs ++ ys, h7, small_lt (by rw [List.length_append]; omega), hjl, G7, ys ++ [z], (X5.trans X7.of).put g7, (X5'.trans X7).set hD g7, by rw [upd_same, List.append_assoc], g7, ?_⟩
      rw [take_succ_of hdj]
      exact (da5.mono X7.gg).append (.one dz)
    · have e : j = dss[i].length := by omega
      subst e
      rw [List.take_length] at da5
      refine .inl ⟨w1.stops H5 (hG1 H5 G5 X5), G5, xs ++ ys, X5', h5, g5, ?_⟩
      rw [et]
      exact (da.mono (Xt.gg (X4.of.trans X5 : Xt (some Dl) H1 G1 H5 G5))).append da5
  · have e : i = n := by omega
    subst e
    refine .inl ⟨w.stops H1 (hG H1 G1 X1), hd H1 G1 xs X1 hl hg ?_⟩
    rw [show dss.take i = dss from List.take_of_length_le (by omega)] at da
    exact da
end Nw
namespace Nw
open PySem L2 PySem.Spec PyProof.Rows RZ
section
variable {X : Cx} {K : PySem.W.Frag}
theorem op_catAK (hK : X.K = K) : OpR X (binaryOp .Add) (rCatA K) := by subst hK; exact op_catA
theorem op_eqOK {k : Nat} {C : Addr} {sp : Sp} (hK : X.K = K) (O : Own X.prog X.w X.K X.mg X.base k C "__eq__" sp) (N : NoFirst X.K C) (hr : Room k X.A) : OpR X (compareOp .Eq) (fun x y H Q => plainV K C H y ∧ rEqO C sp false x y H Q) := by subst hK; exact op_eqO O N hr
theorem op_neOK {k : Nat} {C : Addr} {sp : Sp} (hK : X.K = K) (O : Own X.prog X.w X.K X.mg X.base k C "__eq__" sp) (N : NoFirst X.K C) (hr : Room (k + 1) X.A) : OpR X (compareOp .NotEq) (fun x y H Q => plainV K C H y ∧ rEqO C sp true x y H Q) := by subst hK; exact op_neO O N hr
theorem sl_tupAK (hK : X.K = K) : SlR X (rSlA K) := by subst hK; exact sl_tupA
theorem sl_listK (hK : X.K = K) : SlR X (rSlL K) := by subst hK; exact sl_list
end
theorem flat_take_le {α β : Type} (f : α → List β) (l : List α) (j : Nat) : ((l.take j).map f).flatten.length ≤ (l.map f).flatten.length := by
  have e : ((l.take j).map f).flatten ++ ((l.drop j).map f).flatten = (l.map f).flatten := by rw [← List.flatten_append, ← List.map_append, List.take_append_drop]
  rw [← e, List.length_append]; omega
/-- a part of a list or tuple of data -/
def cutD (ds : List PyData) (lo hi : Option Int) : List PyData := (ds.drop (HT.sIx ds.length 0 lo)).take (HT.sIx ds.length ds.length hi - HT.sIx ds.length 0 lo)
section
variable {K : PySem.W.Frag} {G H : Hp} {x y : V} {ds es : List PyData} {xs : List V} {Q : VK} {lo hi : Option Int}
theorem DA.cut (h : DA G xs ds) (lo hi : Option Int) : DA G (cutV xs lo hi) (cutD ds lo hi) := by
  unfold cutV cutD
  rw [h.length]
  exact (h.drop _).take _
theorem cat_data (hx : D G x (.tuple ds)) (hy : D G y (.tuple es)) (s : Same G H) (hl : ds.length + es.length ≤ 100000) (k : ∀ q H' G', Xt none H G H' G' → D G' q (.tuple (ds ++ es)) → Q q H') : rCatA K x y H Q := by
  obtain ⟨a, xs, rfl, ha, da⟩ := hx.tup_inv
  obtain ⟨b, ys, rfl, hb, db⟩ := hy.tup_inv
  refine ⟨a, b, xs, ys, rfl, rfl, SqT.of (s _ _ ha), SqT.of (s _ _ hb), by rw [da.length, db.length]; exact small_line hl, fun e => ?_, fun n e => ?_, fun n n2 p hp => ?_⟩
  · subst e
    cases da
    exact k _ H G (Xt.refl s) (by simpa using hy)
  · subst e
    cases db
    exact k _ H G (Xt.refl s) (by simpa using hx)
  · exact k _ _ _ (Xt.new s hp) (.tup upd_same ((da.append db).mono (upd_same_ (s.free hp))))
theorem slT_data (hx : D G x (.tuple ds)) (s : Same G H) (k : ∀ q H' G', Xt none H G H' G' → D G' q (.tuple (cutD ds lo hi)) → Q q H') : rSlA K x lo hi H Q := by
  obtain ⟨a, xs, rfl, ha, da⟩ := id hx.tup_inv
  refine ⟨a, xs, rfl, SqT.of (s _ _ ha), fun e => ?_, fun _ p hp => k _ _ _ (Xt.new s hp) (.tup upd_same ((da.cut lo hi).mono (upd_same_ (s.free hp))))⟩
  have e2 : cutD ds lo hi = ds := by
    unfold cutD
    rw [← da.length, e.1, e.2, List.drop_zero, da.length]
    simp
  refine k _ H G (Xt.refl s) ?_
  rw [e2]
  exact hx
theorem slL_data (hx : D G x (.list ds)) (s : Same G H) (k : ∀ q H' G', Xt none H G H' G' → D G' q (.list (cutD ds lo hi)) → Q q H') : rSlL K x lo hi H Q := by
  obtain ⟨a, xs, rfl, ha, da⟩ := hx.list_inv
  exact ⟨a, xs, rfl, SqL.of (s _ _ ha), fun p hp => k _ _ _ (Xt.new s hp) (.lst upd_same ((da.cut lo hi).mono (upd_same_ (s.free hp))))⟩
theorem catL_data (hx : D G x (.list ds)) (hy : D G y (.list es)) (s : Same G H) (hl : ds.length + es.length ≤ 100000) (k : ∀ q H' G', Xt none H G H' G' → D G' q (.list (ds ++ es)) → Q q H') : rCat x y H Q := by
  obtain ⟨a, xs, rfl, ha, da⟩ := hx.list_inv
  obtain ⟨b, ys, rfl, hb, db⟩ := hy.list_inv
  exact ⟨a, b, xs, ys, rfl, rfl, s _ _ ha, s _ _ hb, by rw [da.length, db.length]; exact small_line hl, fun p hp => k _ _ _ (Xt.new s hp) (.lst upd_same ((da.append db).mono (upd_same_ (s.free hp))))⟩
/-- a tuple, a list that is made of data -/
theorem D.newT {p : Addr} (da : DA G xs ds) (s : Same G H) (hp : H p = none) : D (upd G p (.tup xs)) (.ref p) (.tuple ds) := .tup upd_same (da.mono (upd_same_ (s.free hp)))
theorem D.newL {p : Addr} (da : DA G xs ds) (s : Same G H) (hp : H p = none) : D (upd G p (.lst xs)) (.ref p) (.list ds) := .lst upd_same (da.mono (upd_same_ (s.free hp)))
end
end Nw
/-! Tables: the data, what each def promises. -/
namespace Nw
open PySem L2 PySem.Spec PyProof.Rows RZ
theorem DA.bools {G : Hp} : ∀ {ns : List Bool} {vs : List V}, DA G vs (ns.map .bool) → vs = ns.map V.bl
  | [], _, .nil => rfl
  | n :: ns, _, .cons h a => by
    cases h
    rw [DA.bools a] <;> rfl
theorem inV_strs (z : Str) : ∀ l : List Str, inV (.str z) (l.map V.str) = decide (z ∈ l)
  | [] => rfl
  | a :: l => by
    show (eqV (.str a) (.str z) || inV (.str z) (l.map V.str)) = _
    rw [inV_strs z l]
    have e : eqV (.str a) (.str z) = decide (z = a) := by
      show decide (_ = _) = _
      by_cases h : z = a
      · subst h; simp
      · rw [decide_eq_false h]; simp; exact fun q => h q.symm
    rw [e]
    by_cases h : z = a
    · subst h; simp
    · simp [h]
/-- what is plain: a flat thing, a list, a tuple -/
def plain0 (H : Hp) : V → Prop
  | .non => True
  | .bl _ => True
  | .int _ => True
  | .str _ => True
  | .ref a => (∃ xs, H a = some (.lst xs)) ∨ (∃ xs, H a = some (.tup xs))
  | _ => False
theorem D.plain {G H : Hp} (s : Same G H) {v : V} {d : PyData} (h : D G v d) : plain0 H v := by
  cases h with
  | non => trivial
  | bl b => trivial
  | int i => trivial
  | str x => trivial
  | lst h a => exact .inl ⟨_, s _ _ h⟩
  | tup h a => exact .inr ⟨_, s _ _ h⟩
theorem plain0.mono {H H' : Hp} (s : Same H H') {v : V} (h : plain0 H v) : plain0 H' v := by
  cases v with
  | ref a =>
    rcases h with ⟨xs, h⟩ | ⟨xs, h⟩
    · exact .inl ⟨_, s _ _ h⟩
    · exact .inr ⟨_, s _ _ h⟩
  | _ => exact h
theorem plain0.v {K : PySem.W.Frag} {C : Addr} {H : Hp} {v : V} (h : plain0 H v) : plainV K C H v := by
  cases v with
  | ref a => exact h.elim (fun h => .inl h) fun h => .inr (.inl h)
  | _ => exact h
def LET : Str := "abcdefghijklmnopqrstuvwxyz"
def letter (c : Nat) : Bool := decide (c ∈ LET.cps.toList)
def isWordS (s : Str) : Bool := decide (1 ≤ s.length) && decide (s.length ≤ 8) && s.cps.toList.all letter
def isWord : V → Bool
  | .str s => isWordS s
  | _ => false
def isInt : V → Bool
  | .int _ => true
  | _ => false
def RES : List Str := ["and", "or", "not", "true", "false", "name", "where", "nothing", "change"]
def isCol : PyData → Bool
  | .tuple [.str n, .int t] => isWordS n && !decide (n ∈ RES) && decide (1 ≤ t) && decide (t ≤ 3)
  | _ => false
def spWord : Sp := fun vs H Q _ => ∃ (v : V) (G : Hp), vs = [v] ∧ plain0 H v ∧ Same G H ∧ (∀ z, v = .str z → z.length ≤ 10000) ∧ ∀ H', Xt none H G H' G → Q (.bl (isWord v)) H'
def spIsInt : Sp := fun vs H Q _ => ∃ v : V, vs = [v] ∧ plain0 H v ∧ Q (.bl (isInt v)) H
def tupLen : PyData → Int → Bool
  | .tuple ds, n => decide (((ds.length : Nat) : Int) = n)
  | _, _ => false
def spTupOf : Sp := fun vs H Q _ => ∃ (v : V) (n : Int) (d : PyData) (G : Hp), vs = [v, .int n] ∧ D G v d ∧ Same G H ∧ Q (.bl (tupLen d n)) H
def shortD : PyData → Prop
  | .tuple [.str n, _] => n.length ≤ 10000
  | _ => True
def spCol : Sp := fun vs H Q _ => ∃ (v : V) (d : PyData) (G : Hp), vs = [v] ∧ D G v d ∧ shortD d ∧ Same G H ∧ ∀ H', Xt none H G H' G → Q (.bl (isCol d)) H'

abbrev Col := Str × Int
def dCol (c : Col) : PyData := .tuple [.str c.1, .int c.2]
def dCols (cols : List Col) : List PyData := cols.map dCol
def n10 : List Str := ["a", "b", "x", "put", "mark", "total", "look", "zz", "end", "table"]
def n11 : List Str := "other" :: n10
/-- columns with names of a list of words -/
structure Good (N : List Str) (cols : List Col) : Prop where
  len : 1 ≤ cols.length ∧ cols.length ≤ 3
  names : ∀ c ∈ cols, c.1 ∈ N
  tops : ∀ c ∈ cols, 1 ≤ c.2 ∧ c.2 ≤ 3
  nd : (cols.map (·.1)).Nodup
theorem n11_word : ∀ n ∈ n11, isWordS n = true ∧ n ∉ RES ∧ n.length ≤ 10000 := by decide +kernel
theorem n10_n11 : ∀ n ∈ n10, n ∈ n11 := fun n h => List.mem_cons_of_mem _ h
/-- _law_columns -/
def spColumns : Sp := fun vs H Q _ => ∃ (b : Addr) (c : Int) (G : Hp), vs = [.ref b] ∧ Bag H b c ∧ c ≤ 100000 ∧ G b = none ∧ Same G H ∧
  ∀ (p : Addr) (cols : List Col) (xs : List V) (H' G' : Hp), Xt (some b) H G H' G' → Bag H' b (c + 10) → Good n10 cols → G' p = some (.lst xs) → DA G' xs (dCols cols) → Q (.ref p) H'

/-- all values, ascending -/
def stepV (found : List (List Int)) (top : Int) : List (List Int) := (found.map fun row => (List.range (top + 1).toNat).map fun v => row ++ [((v : Nat) : Int)]).flatten
def allV (tops : List Int) : List (List Int) := tops.foldl stepV [[]]
def dRow (r : List Int) : PyData := .tuple (r.map .int)
def dRows (rs : List (List Int)) : List PyData := rs.map dRow
/-- a new list, own, of these data -/
def OwnL (H G : Hp) (ds : List PyData) (Q : VK) : Prop := ∀ (p : Addr) (xs : List V) (H' G' : Hp), Xt none H G H' G' → H p = none → H' p = some (.lst xs) → G' p = none → DA G' xs ds → Q (.ref p) H'
def spValues : Sp := fun vs H Q _ => ∃ (a : Addr) (xs : List V) (cols : List Col) (G : Hp), vs = [.ref a] ∧ G a = some (.lst xs) ∧ DA G xs (dCols cols) ∧ Good n10 cols ∧ Same G H ∧ OwnL H G (dRows (allV (cols.map (·.2)))) Q
/-- a table's fields -/
def tf (cx tx : Addr) : List (Str × V) := [("columns", .ref cx), ("tops", .ref tx)]
theorem ct_ : (("tops" : Str) == ("columns" : Str)) = false := by decide +kernel
theorem tf_c (cx tx : Addr) : (tf cx tx).lookup ("columns" : Str) = some (.ref cx) := by
  simp [tf, List.lookup]
theorem tf_t (cx tx : Addr) : (tf cx tx).lookup ("tops" : Str) = some (.ref tx) := by
  simp [tf, List.lookup, ct_]
theorem tf_put (cx tx : Addr) : putF "tops" (.ref tx) (putF "columns" (.ref cx) []) = tf cx tx := by
  show (if ("columns" : Str) = "tops" then [(("columns" : Str), V.ref tx)] else (("columns" : Str), V.ref cx) :: putF "tops" (V.ref tx) []) = tf cx tx
  rw [if_neg (by decide +kernel)]
  rfl
theorem tf_no (cx tx : Addr) {m : Str} (h1 : m ≠ "columns") (h2 : m ≠ "tops") : (tf cx tx).lookup m = none := by
  unfold tf
  rw [List.lookup_cons, List.lookup_cons]
  have e1 : (m == ("columns" : Str)) = false := by simpa using h1
  have e2 : (m == ("tops" : Str)) = false := by simpa using h2
  rw [e1, e2]
  rfl
/-- a table, stable -/
def TabAt (C : Addr) (G : Hp) (x : Addr) (cols : List Col) : Prop := ∃ dx cx tx : Addr, G x = some (.ins C dx (tf cx tx)) ∧ G dx = some (.own x) ∧ G cx = some (.tup (cols.map fun c => .str c.1)) ∧ G tx = some (.tup (cols.map fun c => .int c.2))
theorem TabAt.mono {C : Addr} {G G' : Hp} {x : Addr} {cols : List Col} (s : Same G G') (h : TabAt C G x cols) : TabAt C G' x cols := by
  obtain ⟨dx, cx, tx, h1, h2, h3, h4⟩ := h
  exact ⟨dx, cx, tx, s _ _ h1, s _ _ h2, s _ _ h3, s _ _ h4⟩
/-- Table.__init__ of good columns -/
def spInit (C : Addr) : Sp := fun vs H Q _ => ∃ (x dx a : Addr) (xs : List V) (cols : List Col) (H0 G : Hp), vs = [.ref x, .ref a] ∧ H0 x = none ∧ H0 dx = none ∧ dx ≠ x ∧ H = upd (upd H0 dx (.own x)) x (.ins C dx []) ∧
  H0 a = some (.lst xs) ∧ DA G xs (dCols cols) ∧ Good n11 cols ∧ Same G H0 ∧ ∀ H' G', Xt none H0 G H' G' → TabAt C G' x cols → Q .non H'
end Nw
namespace Nw
open PySem L2 PySem.Spec PyProof.Rows RZ
def top (i : Nat) : Stmt := PySem.Challenge.pw_newestrow_k01_tables_made.main.body.getD i (.Pass ⟨0, 0, 0, 0⟩)
abbrev s_copied : Stmt := top 1
abbrev N_copied : List Str := ["field", "part", "key"]
abbrev P_copied : List Str := ["field"]
theorem sc_copied : FnScope N_copied P_copied (C8.fnScope s_copied) := C8.fnScope_by (by decide +kernel)
abbrev s_BadTable____init__ : Stmt := inClass (top 3) 0
abbrev N_BadTable____init__ : List Str := ["self", "at"]
abbrev P_BadTable____init__ : List Str := ["self", "at"]
theorem sc_BadTable____init__ : FnScope N_BadTable____init__ P_BadTable____init__ (C8.fnScope s_BadTable____init__) := C8.fnScope_by (by decide +kernel)
abbrev s_is_integer : Stmt := top 5
abbrev N_is_integer : List Str := ["thing"]
abbrev P_is_integer : List Str := ["thing"]
theorem sc_is_integer : FnScope N_is_integer P_is_integer (C8.fnScope s_is_integer) := C8.fnScope_by (by decide +kernel)
abbrev s_is_tuple_of : Stmt := top 6
abbrev N_is_tuple_of : List Str := ["thing", "many"]
abbrev P_is_tuple_of : List Str := ["thing", "many"]
theorem sc_is_tuple_of : FnScope N_is_tuple_of P_is_tuple_of (C8.fnScope s_is_tuple_of) := C8.fnScope_by (by decide +kernel)
abbrev s_is_word : Stmt := top 9
abbrev N_is_word : List Str := ["thing", "letter"]
abbrev P_is_word : List Str := ["thing"]
theorem sc_is_word : FnScope N_is_word P_is_word (C8.fnScope s_is_word) := C8.fnScope_by (by decide +kernel)
abbrev s_is_column : Stmt := top 12
abbrev N_is_column : List Str := ["thing", "name", "top"]
abbrev P_is_column : List Str := ["thing"]
theorem sc_is_column : FnScope N_is_column P_is_column (C8.fnScope s_is_column) := C8.fnScope_by (by decide +kernel)
abbrev s_Table____init__ : Stmt := inClass (top 13) 0
abbrev N_Table____init__ : List Str := ["self", "columns", "names", "at", "column", "_", "top"]
abbrev P_Table____init__ : List Str := ["self", "columns"]
theorem sc_Table____init__ : FnScope N_Table____init__ P_Table____init__ (C8.fnScope s_Table____init__) := C8.fnScope_by (by decide +kernel)
abbrev s_Table__all_values : Stmt := inClass (top 13) 1
abbrev N_Table__all_values : List Str := ["self", "found", "top", "values", "value"]
abbrev P_Table__all_values : List Str := ["self"]
theorem sc_Table__all_values : FnScope N_Table__all_values P_Table__all_values (C8.fnScope s_Table__all_values) := C8.fnScope_by (by decide +kernel)
abbrev s_Table____len__ : Stmt := inClass (top 13) 2
abbrev N_Table____len__ : List Str := ["self"]
abbrev P_Table____len__ : List Str := ["self"]
theorem sc_Table____len__ : FnScope N_Table____len__ P_Table____len__ (C8.fnScope s_Table____len__) := C8.fnScope_by (by decide +kernel)
abbrev s_Table____contains__ : Stmt := inClass (top 13) 3
abbrev N_Table____contains__ : List Str := ["self", "thing", "value", "top"]
abbrev P_Table____contains__ : List Str := ["self", "thing"]
theorem sc_Table____contains__ : FnScope N_Table____contains__ P_Table____contains__ (C8.fnScope s_Table____contains__) := C8.fnScope_by (by decide +kernel)
abbrev s_Table____eq__ : Stmt := inClass (top 13) 4
abbrev N_Table____eq__ : List Str := ["self", "other"]
abbrev P_Table____eq__ : List Str := ["self", "other"]
theorem sc_Table____eq__ : FnScope N_Table____eq__ P_Table____eq__ (C8.fnScope s_Table____eq__) := C8.fnScope_by (by decide +kernel)
abbrev s_Table____repr__ : Stmt := inClass (top 13) 5
abbrev N_Table____repr__ : List Str := ["self", "columns", "name", "top"]
abbrev P_Table____repr__ : List Str := ["self"]
theorem sc_Table____repr__ : FnScope N_Table____repr__ P_Table____repr__ (C8.fnScope s_Table____repr__) := C8.fnScope_by (by decide +kernel)
abbrev s__law_bag : Stmt := top 15
abbrev N__law_bag : List Str := ["_law_script", "_law_at", "_law_cell", "_law_digits"]
abbrev P__law_bag : List Str := ["_law_script", "_law_at"]
theorem sc__law_bag : FnScope N__law_bag P__law_bag (C8.fnScope s__law_bag) := C8.fnScope_by (by decide +kernel)
abbrev s__law_take : Stmt := top 16
abbrev N__law_take : List Str := ["_law_bag_here", "_law_many", "_law_digit", "_law_mixed"]
abbrev P__law_take : List Str := ["_law_bag_here", "_law_many"]
theorem sc__law_take : FnScope N__law_take P__law_take (C8.fnScope s__law_take) := C8.fnScope_by (by decide +kernel)
abbrev s__law_of : Stmt := top 17
abbrev N__law_of : List Str := ["_law_bag_here", "_law_some"]
abbrev P__law_of : List Str := ["_law_bag_here", "_law_some"]
theorem sc__law_of : FnScope N__law_of P__law_of (C8.fnScope s__law_of) := C8.fnScope_by (by decide +kernel)
abbrev s__law_columns : Stmt := top 18
abbrev N__law_columns : List Str := ["_law_bag_here", "_law_left", "_law_found", "_law_turn"]
abbrev P__law_columns : List Str := ["_law_bag_here"]
theorem sc__law_columns : FnScope N__law_columns P__law_columns (C8.fnScope s__law_columns) := C8.fnScope_by (by decide +kernel)
abbrev s__law_values : Stmt := top 19
abbrev N__law_values : List Str := ["_law_columns_here", "_law_found", "_law_name", "_law_top", "_law_longer", "_law_row", "_law_value"]
abbrev P__law_values : List Str := ["_law_columns_here"]
theorem sc__law_values : FnScope N__law_values P__law_values (C8.fnScope s__law_values) := C8.fnScope_by (by decide +kernel)
abbrev s__law_odd : Stmt := top 20
abbrev N__law_odd : List Str := ["_law_values_here", "_law_tops", "_law_at", "_law_found", "_law_thing"]
abbrev P__law_odd : List Str := ["_law_values_here", "_law_tops", "_law_at"]
theorem sc__law_odd : FnScope N__law_odd P__law_odd (C8.fnScope s__law_odd) := C8.fnScope_by (by decide +kernel)
abbrev s__law_others : Stmt := top 21
abbrev N__law_others : List Str := ["_law_bag_here", "_law_columns_here", "_law_at", "_law_name", "_law_top", "_law_found", "_law_column"]
abbrev P__law_others : List Str := ["_law_bag_here", "_law_columns_here"]
theorem sc__law_others : FnScope N__law_others P__law_others (C8.fnScope s__law_others) := C8.fnScope_by (by decide +kernel)
abbrev s__law_right : Stmt := top 22
abbrev N__law_right : List Str := ["_law_bag_here", "_law_columns_here", "_law_handed", "_law_told", "_law_due", "_law_name", "_law_top", "_law_found", "_law_values_here", "_law_thing", "_law_other", "_law_others_here"]
abbrev P__law_right : List Str := ["_law_bag_here", "_law_columns_here"]
theorem sc__law_right : FnScope N__law_right P__law_right (C8.fnScope s__law_right) := C8.fnScope_by (by decide +kernel)
abbrev s_law : Stmt := top 23
abbrev N_law : List Str := ["_law_script", "_law_at", "_law_bag_here", "_law_turn"]
abbrev P_law : List Str := ["_law_script"]
theorem sc_law : FnScope N_law P_law (C8.fnScope s_law) := C8.fnScope_by (by decide +kernel)
/-- what the top leaves of names -/
structure Names (K : PySem.W.Frag) (mg : Str → Option Value) : Prop where
  n_len : mg "len" = none
  n_range : mg "range" = none
  n_abs : mg "abs" = none
  n_int : mg "int" = none
  n_str : mg "str" = none
  n_bool : mg "bool" = none
  n_tuple : mg "tuple" = none
  n_list : mg "list" = none
  n_isinstance : mg "isinstance" = none
  n_all : mg "all" = none
  n_any : mg "any" = none
  n_max : mg "max" = none
  n_min : mg "min" = none
  n_enumerate : mg "enumerate" = none
  n_zip : mg "zip" = none
  n_repr : mg "repr" = none
  g_LETTERS : ∃ u, mg "LETTERS" = some u ∧ RelV (.str LET) u
  g_RESERVED : ∃ (a : Addr), (∃ u, mg "RESERVED" = some u ∧ RelV (.ref a) u) ∧ ∀ H : Hp, SqT K H a (RES.map V.str)
section
variable {P : Program} {w : World} {K : PySem.W.Frag} {mg : Str → Option Value} {base : Heap}
theorem take {f : Addr} {fd : FuncData} (F : C8.Def K mg "_law_take" s__law_take f fd) (b : Binds K fd P__law_take []) (T : Names K mg) : C8.Cal P w K mg base 1 "_law_take" spTake [] := by
  refine C8.cal0 (N := N__law_take) F b .nil sc__law_take (fun vs H Q E h => ?_) (fun cdv A outer s H vs Q E hr h => ?_)
  · obtain ⟨b, n, c, rfl, _⟩ := h
    rfl
  · obtain ⟨b, n, c, rfl, n0, n1, ⟨x, y, z, hb, y0, y1, z0, z1⟩, c1, k⟩ := h
    have hu := hu_of hr
    refine ⟨_, (pss_cons (ps_if (pt_cmpR op_gt (pe_ix ix_list (pv 0) pe_int (fun _ _ => rfl)) pe_int (nomark _)) (pss_cons (ps_set (i := 2) sc__law_take.nd rfl (Or.inl rfl) (pe_op op_mod (pe_callTy call_int1 (by rfl) T.n_int (by decide +kernel) (pa_cons (pe_ix ix_list (pv 0) pe_int (fun _ _ => rfl)) pa_nil)) (pv 1)))
 (pss_cons (ps_asg (pe_op op_fdivN (pe_ix ix_list (pv 0) pe_int (fun _ _ => rfl)) (pv 1)) (pg_sub (pv 0) pe_int set_list))
 (pss_one (ps_ret (pv 2))))) pss_nil)
 (pss_cons (ps_asg (pe_op op_add (pe_ix ix_list (pv 0) pe_int (fun _ _ => rfl)) pe_int) (pg_sub (pv 0) pe_int set_list))
 (pss_cons (ps_set (i := 3) sc__law_take.nd rfl (Or.inl rfl) (pe_op op_mod (pe_callTy call_int1 (by rfl) T.n_int (by decide +kernel) (pa_cons (pe_op op_pow (pe_op op_add (pe_ix ix_list (pv 0) pe_int (fun _ _ => rfl)) (pe_op op_mul pe_int (pe_ix ix_list (pv 0) pe_int (fun _ _ => rfl)))) pe_int) pa_nil)) pe_int))
 (pss_cons (ps_set (i := 3) sc__law_take.nd rfl (Or.inl rfl) (pe_op op_mod (pe_callTy call_int1 (by rfl) T.n_int (by decide +kernel) (pa_cons (pe_op op_pow (pe_op op_add (pv 3) (pe_op op_mul pe_int (pe_ix ix_list (pv 0) pe_int (fun _ _ => rfl)))) pe_int) pa_nil)) pe_int))
 (pss_one (ps_ret (pe_op op_mod (pe_callTy call_int1 (by rfl) T.n_int (by decide +kernel) (pa_cons (pe_op op_fdiv (pv 3) pe_int) pa_nil)) (pv 1)))))))), ?_⟩
    refine ⟨_, rfl, b, _, _, _, rfl, rfl, SqL.of hb, rfl, _, _, rfl, rfl, _, rfl, ?_⟩
    have bag' : ∀ x' y' z' : Int, 0 ≤ y' → y' < 8000000000000000000 → 0 ≤ z' → z' ≤ c + 1 → Bag (upd H b (.lst [.int x', .int y', .int z'])) b (c + 1) := fun x' y' z' h1 h2 h3 h4 => ⟨x', y', z', upd_same, h1, h2, h3, h4⟩
    refine ite2 (fun hx => ?_) (fun hx => ?_)
    · refine ⟨_, rfl, b, _, _, _, rfl, rfl, SqL.of hb, rfl, .inl ⟨_, rfl, ?_⟩⟩
      refine ⟨_, rfl, _, _, rfl, rfl, n0, ?_⟩
      refine ⟨_, rfl, b, _, _, _, rfl, rfl, SqL.of hb, rfl, _, rfl, _, _, rfl, rfl, ⟨by omega, by omega⟩, ?_⟩
      refine ⟨_, rfl, b, _, _, _, rfl, rfl, hb, rfl, ?_⟩
      refine ⟨_, rfl, ?_⟩
      exact k (x % n) (x.fdiv n) y z (Int.emod_nonneg _ (by omega)) (Int.emod_lt_of_pos _ n0) (bag' _ _ _ y0 y1 z0 (by omega))
    · refine ⟨_, rfl, b, _, _, _, rfl, rfl, SqL.of hb, rfl, _, _, rfl, rfl, ?_⟩
      refine ⟨_, rfl, b, _, _, _, rfl, rfl, hb, rfl, ?_⟩
      have hb' := @upd_same H b (HO.lst [V.int x, V.int y, V.int (z + 1)])
      refine ⟨_, rfl, b, _, _, _, rfl, rfl, SqL.of hb', rfl, _, rfl, b, _, _, _, rfl, rfl, SqL.of hb', rfl, ?_⟩
      refine ⟨_, _, rfl, rfl, .inl ⟨by decide, by decide⟩, _, _, rfl, rfl, _, _, rfl, rfl, ⟨by decide, by decide, ?_⟩, .inl ⟨_, rfl, ?_⟩⟩
      · show (y + 1000033 * (z + 1)).natAbs < 2 ^ 64
        omega
      refine ⟨_, _, rfl, rfl, (by show (0 : Int) < 2305843009213693921; decide), ?_⟩
      have m0 := Int.emod_nonneg ((y + 1000033 * (z + 1)) ^ Int.toNat 3) (by decide : (2305843009213693921 : Int) ≠ 0)
      have m1 := Int.emod_lt_of_pos ((y + 1000033 * (z + 1)) ^ Int.toNat 3) (by decide : (0 : Int) < 2305843009213693921)
      refine ⟨_, rfl, _, rfl, b, _, _, _, rfl, rfl, SqL.of hb', rfl, _, _, rfl, rfl, .inl ⟨by decide, by decide⟩, _, _, rfl, rfl, _, _, rfl, rfl, ⟨by decide, by decide, ?_⟩, .inl ⟨_, rfl, ?_⟩⟩
      · revert m0 m1
        generalize (y + 1000033 * (z + 1)) ^ Int.toNat 3 % 2305843009213693921 = m
        intro m0 m1
        omega
      refine ⟨_, _, rfl, rfl, (by show (0 : Int) < 2305843009213693951; decide), ?_⟩
      refine ⟨_, rfl, _, _, rfl, rfl, ⟨by decide, by decide⟩, .inl ⟨_, rfl, ?_⟩⟩
      refine ⟨_, rfl, _, _, rfl, rfl, n0, ?_⟩
      exact k _ x y (z + 1) (Int.emod_nonneg _ (by omega)) (Int.emod_lt_of_pos _ n0) (bag' _ _ _ y0 y1 (by omega) (by omega))
theorem bag {f : Addr} {fd : FuncData} (F : C8.Def K mg "_law_bag" s__law_bag f fd) (b : Binds K fd P__law_bag []) (T : Names K mg) : C8.Cal P w K mg base 1 "_law_bag" (spBag K) [] := by
  refine C8.cal0 (N := N__law_bag) F b .nil sc__law_bag (fun vs H Q E h => ?_) (fun cdv A outer s H vs Q E hr h => ?_)
  · obtain ⟨a, ns, i, rfl, _⟩ := h
    rfl
  · obtain ⟨a, ns, i, rfl, hS, i0, i1, k⟩ := h
    have hu := hu_of hr
    refine ⟨_, (C8.pss_cut (ps_set (i := 2) sc__law_bag.nd rfl (Or.inl rfl) (pe_ifExp (pt_cmpR op_lt (pv 1) (pe_callB call_len_seq (by rfl) T.n_len PySem.boot_len (pa_cons (pv 0) pa_nil)) (nomark _)) (pe_ix ix_list (pv 0) (pv 1) (fun _ _ => rfl)) pe_int))
 (C8.pss_cut (ps_set (i := 3) sc__law_bag.nd rfl (Or.inl rfl) (pe_ifExp (pt_cmpR op_ge (pe_callB call_abs (by rfl) T.n_abs (by decide +kernel) (pa_cons (pv 2) pa_nil)) (pe_op op_pow pe_int pe_int) (nomark _)) (pe_callB call_abs (by rfl) T.n_abs (by decide +kernel) (pa_cons (pv 2) pa_nil)) pe_int))
 (pss_one (ps_ret (pe_lst (pa_cons (pv 3) (pa_cons (pe_op op_add (pe_op op_add (pe_op op_mul (pe_op op_mod (pe_callTy call_int1 (by rfl) T.n_int (by decide +kernel) (pa_cons (pv 2) pa_nil)) pe_int) pe_int) (pe_op op_mul pe_int (pv 1))) pe_int) (pa_cons pe_int pa_nil)))))))), ?_⟩
    refine ⟨fun σ' H' => ∃ x : Int, σ' = [some (.ref a), some (.int i), some (.int x), none] ∧ H' = H, ?_, ?_⟩
    · refine ⟨_, rfl, _, rfl, a, _, rfl, .inl hS, _, _, rfl, rfl, _, rfl, ?_⟩
      rw [List.length_map]
      refine ite2 (fun c => ?_) (fun c => ?_)
      · have c' : i < (ns.length : Int) := by simpa using c
        have hj : i.toNat < ns.length := by omega
        have e : ((i.toNat : Nat) : Int) = i := by omega
        refine ⟨_, rfl, _, rfl, a, _, i, .int (ns.getD i.toNat 0), rfl, rfl, hS, ?_, _, rfl, rfl⟩
        have q := atI_nat (xs := ns.map V.int) (j := i.toNat) (v := .int (ns.getD i.toNat 0)) (by simp [hj])
        rw [e] at q
        exact q
      · exact ⟨_, rfl, rfl⟩
    rintro σ' H' ⟨x, rfl, rfl⟩
    refine ⟨fun σ' H2 => ∃ y : Int, σ' = [some (.ref a), some (.int i), some (.int x), some (.int y)] ∧ H2 = H', ?_, ?_⟩
    · refine ⟨_, rfl, _, rfl, _, _, rfl, rfl, ⟨by decide, by decide, by decide⟩, _, _, rfl, rfl, _, rfl, ?_⟩
      refine ite2 (fun c => ?_) (fun c => ?_)
      · exact ⟨_, rfl, _, rfl, _, rfl, rfl⟩
      · exact ⟨_, rfl, rfl⟩
    rintro σ' H2 ⟨y, rfl, rfl⟩
    refine ⟨_, rfl, _, rfl, .inl ⟨_, rfl, ?_⟩⟩
    have m0 := Int.emod_nonneg x (by decide : (2305843009213693951 : Int) ≠ 0)
    have m1 := Int.emod_lt_of_pos x (by decide : (0 : Int) < 2305843009213693951)
    refine ⟨_, _, rfl, rfl, (by show (0 : Int) < 2305843009213693951; decide), _, _, rfl, rfl, .inr ⟨by decide, by decide⟩, _, rfl, _, _, rfl, rfl, .inl ⟨by decide, by decide⟩, _, _, rfl, rfl, _, _, rfl, rfl, (by show 3 ≤ sizeLine; decide), fun p hp => ?_⟩
    exact k p _ _ _ hp ⟨_, _, _, upd_same, by omega, by omega, by omega, by omega⟩
theorem of_ {f : Addr} {fd : FuncData} (F : C8.Def K mg "_law_of" s__law_of f fd) (b : Binds K fd P__law_of []) (T : Names K mg) (c__law_take : C8.Cal P w K mg base 1 "_law_take" spTake []) : C8.Cal P w K mg base 2 "_law_of" spOf [] := by
  refine C8.cal0 (N := N__law_of) F b .nil sc__law_of (fun vs H Q E h => ?_) (fun cdv A outer s H vs Q E hr h => ?_)
  · obtain ⟨b, a, xs, c, rfl, _⟩ := h
    rfl
  · obtain ⟨b, a, xs, c, rfl, ha, hab, hne, hlen, hB, c1, k⟩ := h
    have hu := hu_of hr
    refine ⟨_, (pss_one (ps_ret (pe_ix ix_list (pv 1) (C8.pe_c c__law_take hr (by decide) rfl (pa_cons (pv 0) (pa_cons (pe_callB call_len_seq (by rfl) T.n_len PySem.boot_len (pa_cons (pv 1) pa_nil)) pa_nil))) (fun _ _ => rfl)))), ?_⟩
    have h0 : 0 < xs.length := List.length_pos_iff.mpr hne
    refine ⟨_, rfl, _, rfl, _, rfl, a, _, rfl, .inl (SqL.of ha), b, _, c, rfl, by omega, by omega, hB, c1, fun r x y z r0 r1 hB' => ?_⟩
    have hr1 : r.toNat < xs.length := by omega
    have e : ((r.toNat : Nat) : Int) = r := by omega
    refine ⟨a, xs, r, xs[r.toNat], rfl, rfl, SqL.of ?_, ?_, ?_⟩
    · rw [upd_ne hab]; exact ha
    · have q := atI_nat (xs := xs) (j := r.toNat) (v := xs[r.toNat]) (by simp [hr1])
      rw [e] at q
      exact q
    · exact k _ r.toNat x y z (by simp [hr1]) hB'
theorem columns {f : Addr} {fd : FuncData} (F : C8.Def K mg "_law_columns" s__law_columns f fd) (b : Binds K fd P__law_columns []) (T : Names K mg) (c__law_take : C8.Cal P w K mg base 1 "_law_take" spTake []) : C8.Cal P w K mg base 2 "_law_columns" spColumns [] := by
  refine C8.cal0 (N := N__law_columns) F b .nil sc__law_columns (fun vs H Q E h => ?_) (fun cdv A outer s H vs Q E hr h => ?_)
  · obtain ⟨b, c, G, rfl, _⟩ := h
    rfl
  · obtain ⟨b, c, G, rfl, hB, hc, gb, sG, k⟩ := h
    have hu := hu_of hr
    refine ⟨_, (pss_cons (ps_par (i := 1) (j := 2) (by rfl) sc__law_columns.nd rfl rfl (by decide) rfl rfl (pa_cons (pe_lst (pa_cons pe_str (pa_cons pe_str (pa_cons pe_str (pa_cons pe_str (pa_cons pe_str (pa_cons pe_str (pa_cons pe_str (pa_cons pe_str (pa_cons pe_str (pa_cons pe_str pa_nil))))))))))) (pa_cons (pe_lst pa_nil) pa_nil)) (by rfl))
 (pss_cons (ps_for PassesOwn.never rfl (pi_range1 rfl T.n_range (pa_cons (pe_op op_add pe_int (C8.pe_c c__law_take hr (by decide) rfl (pa_cons (pv 0) (pa_cons pe_int pa_nil)))) pa_nil)) (pg_name (i := 3) sc__law_columns.nd rfl (Or.inl rfl)) (pss_one (ps_expr (pe_bm PySem.F.plainAttrs_list PySem.F.slot_list_append PySem.F.type_list_append mt_append (pv 2) (pa_cons (pe_tup (pa_cons (pe_bm PySem.F.plainAttrs_list PySem.F.slot_list_pop PySem.F.type_list_pop mt_popAt (pv 1) (pa_cons (C8.pe_c c__law_take hr (by decide) rfl (pa_cons (pv 0) (pa_cons (pe_callB call_len_seq (by rfl) T.n_len PySem.boot_len (pa_cons (pv 1) pa_nil)) pa_nil))) pa_nil)) (pa_cons (pe_op op_add pe_int (C8.pe_c c__law_take hr (by decide) rfl (pa_cons (pv 0) (pa_cons pe_int pa_nil)))) pa_nil))) pa_nil)))))
 (pss_one (ps_ret (pv 2))))), ?_⟩
    refine ⟨(by show 10 ≤ sizeLine; decide), fun l hl => ⟨Nat.zero_le _, fun f hf => ⟨_, _, rfl, ?_⟩⟩⟩
    have X1 := Xt.tmp (b := some b) (o := .lst (n10.map V.str)) sG hl
    have X2 := X1.allocT (o := .lst []) hf
    have nlf : l ≠ f := fun q => by rw [q, upd_same] at hf; cases hf
    have nbl : b ≠ l := fun q => hB.ne (by rw [q]; exact hl)
    have hf0 := X1.fresh hf
    have nbf : b ≠ f := fun q => hB.ne (by rw [q]; exact hf0)
    have gl : G l = none := sG.free hl
    have gf : G f = none := sG.free hf0
    have hB2 : Bag (upd (upd H l (.lst (n10.map V.str))) f (.lst [])) b c := (hB.upd nbl).upd nbf
    refine ⟨_, rfl, b, 3, c, rfl, by omega, by omega, hB2, by omega, fun r x y z r0 r1 hB3 => ⟨_, _, rfl, rfl, 1 + r, rfl, by omega, by omega, ?_⟩⟩
    refine for_range (n := (1 + r).toNat) (fun i σ' H' => ∃ (G' : Hp) (v : Option V) (left : List Str) (cols : List Col) (xs : List V), σ' = [some (.ref b), some (.ref l), some (.ref f), v] ∧ Xt (some b) H G H' G' ∧ Bag H' b (c + 1 + 2 * i) ∧
      H' l = some (.lst (left.map V.str)) ∧ H' f = some (.lst xs) ∧ G' b = none ∧ G' l = none ∧ G' f = none ∧ DA G' xs (dCols cols) ∧ cols.length = i ∧ (cols.map (·.1) ++ left).Perm n10 ∧ ∀ c ∈ cols, 1 ≤ c.2 ∧ c.2 ≤ 3) ?_ ?_ ?_
    · refine ⟨G, none, n10, [], [], rfl, X2.put gb, hB3.mono (by omega), ?_, ?_, gb, gl, gf, .nil, rfl, .refl _, fun c h => by cases h⟩
      · rw [upd_ne nbl.symm, upd_ne nlf, upd_same]; rfl
      · rw [upd_ne nbf.symm, upd_same]
    · rintro i σ' H' hi ⟨G', v, left, cols, xs, rfl, X, hB4, h1, h2, g1, g2, g3, da, len, perm, tops⟩
      have hi3 : i < 3 := by omega
      have hleft : left.length = 10 - i := by
        have := perm.length_eq
        rw [List.length_append, List.length_map, len] at this
        have e : n10.length = 10 := rfl
        omega
      refine ⟨_, rfl, .inl ⟨rfl, _, SqL.of h2⟩, _, rfl, .inl ⟨rfl, _, SqL.of h1⟩, _, rfl, _, rfl, _, _, rfl, .inl (SqL.of h1), b, _, _, rfl, ?_, ?_, hB4, by omega, fun r2 x2 y2 z2 r20 r21 hB5 => ?_⟩
      · rw [List.length_map]; omega
      · rw [List.length_map]; omega
      have hk : r2.toNat < left.length := by rw [List.length_map] at r21; omega
      obtain ⟨nm, hnm⟩ : ∃ nm, left[r2.toNat]? = some nm := ⟨left[r2.toNat], List.getElem?_eq_getElem hk⟩
      have X5 := X.put (o := .lst [.int x2, .int y2, .int z2]) g1
      refine ⟨l, _, r2, r2.toNat, .str nm, rfl, rfl, by rw [upd_ne nbl.symm]; exact h1, by omega, by omega, seqIndex_of r20 r21, by rw [List.getElem?_map, hnm]; rfl, ?_⟩
      have X6 := X5.set (o := .lst ((left.map V.str).eraseIdx r2.toNat)) hl g2
      have hB6 := hB5.upd (p := l) (o := .lst ((left.map V.str).eraseIdx r2.toNat)) nbl
      refine ⟨_, rfl, b, 3, _, rfl, by omega, by omega, hB6, by omega, fun r3 x3 y3 z3 r30 r31 hB7 => ⟨_, _, rfl, rfl, (by show 2 ≤ sizeLine; decide), fun t ht => ?_⟩⟩
      have X7 := X6.put (o := .lst [.int x3, .int y3, .int z3]) g1
      have X8 := X7.alloc (o := .tup [.str nm, .int (1 + r3)]) ht
      have ntb : b ≠ t := fun q => by subst q; exact hB7.ne ht
      have hf7 : (upd (upd (upd H' b (.lst [.int x2, .int y2, .int z2])) l (.lst ((left.map V.str).eraseIdx r2.toNat))) b (.lst [.int x3, .int y3, .int z3])) f = some (.lst xs) := by
        rw [upd_ne nbf.symm, upd_ne nlf.symm, upd_ne nbf.symm]; exact h2
      have ntf : f ≠ t := fun q => by subst q; exact ne_none_of hf7 ht
      have ntl : l ≠ t := fun q => by
        rw [← q, upd_ne nbl.symm, upd_same] at ht; cases ht
      refine ⟨f, xs, _, rfl, rfl, by rw [upd_ne ntf]; exact hf7, small_lt (by have := da.length; rw [dCols, List.length_map, len] at this; omega), ?_⟩
      have g3' : (upd G' t (.tup [.str nm, .int (1 + r3)])) f = none := none_of_ne g3 ntf
      refine ⟨_, _, left.eraseIdx r2.toNat, cols ++ [(nm, 1 + r3)], _, rfl, X8.set (hf0) g3', ((hB7.upd ntb).upd nbf).mono (by omega), ?_, upd_same, none_of_ne g1 ntb, none_of_ne g2 ntl, g3', ?_, by rw [List.length_append, len]; rfl, ?_, ?_⟩
      · rw [upd_ne nlf, upd_ne ntl, upd_ne nbl.symm, upd_same, map_eraseIdx]
      · rw [dCols, List.map_append]
        refine (da.mono (upd_same_ (X7.sub.free ht))).append (.one (.tup upd_same (.cons (.str _) (.cons (.int _) .nil))))
      · refine List.Perm.trans ?_ perm
        rw [List.map_append, List.append_assoc]
        refine List.Perm.append_left _ ?_
        exact perm_eraseIdx hnm
      · intro c hc
        rcases List.mem_append.mp hc with h | h
        · exact tops c h
        · rw [List.mem_singleton] at h
          subst h
          show 1 ≤ 1 + r3 ∧ 1 + r3 ≤ 3
          omega
    · rintro σ' H' ⟨G', v, left, cols, xs, rfl, X, hB4, h1, h2, g1, g2, g3, da, len, perm, tops⟩
      have hn : (1 + r).toNat ≤ 3 ∧ 1 ≤ (1 + r).toNat := by omega
      have nd : (cols.map (·.1) ++ left).Nodup := perm.nodup_iff.mpr (by decide +kernel)
      refine ⟨_, rfl, k f cols xs H' _ (X.fix hf0 h2) (hB4.mono (by omega)) ⟨by omega, fun c hc => ?_, tops, ?_⟩ upd_same (da.mono (upd_same_ g3))⟩
      · exact perm.subset (List.mem_append_left _ (List.mem_map_of_mem hc))
      · exact (List.nodup_append.mp nd).1
end
end Nw
namespace Nw
open PySem L2 PySem.Spec PyProof.Rows RZ
section
variable {P : Program} {w : World} {K : PySem.W.Frag} {mg : Str → Option Value} {base : Heap}
theorem isInteger {f : Addr} {fd : FuncData} (F : C8.Def K mg "is_integer" s_is_integer f fd) (b : Binds K fd P_is_integer []) (T : Names K mg) : C8.Cal P w K mg base 1 "is_integer" spIsInt [] := by
  refine C8.cal0 (N := N_is_integer) F b .nil sc_is_integer (fun vs H Q E h => ?_) (fun cdv A outer s H vs Q E hr h => ?_)
  · obtain ⟨v, rfl, _⟩ := h
    rfl
  · obtain ⟨v, rfl, hp, k⟩ := h
    refine ⟨_, (pss_one (ps_ret (pe_and (pe_callB call_isi (by rfl) T.n_isinstance (by decide +kernel) (pa_cons (pv 0) (pa_cons (pe_bltn (v := .ty "int") (u := .type "int") (by rfl) T.n_int (by decide +kernel) rfl) pa_nil))) (pe_one (pe_not (pe_callB call_isi (by rfl) T.n_isinstance (by decide +kernel) (pa_cons (pv 0) (pa_cons (pe_bltn (v := .ty "bool") (u := .type "bool") (by rfl) T.n_bool (by decide +kernel) rfl) pa_nil)))))))), ?_⟩
    cases v with
    | non => exact ⟨_, rfl, _, _, _, _, false, rfl, .ty _, .base .non, kit_ty (by decide +kernel), _, rfl, iteF k⟩
    | bl q => exact ⟨_, rfl, _, _, _, _, true, rfl, .ty _, .base (.bl q), kit_ty (by decide +kernel), _, rfl, iteT ⟨_, rfl, _, _, _, _, true, rfl, .ty _, .base (.bl q), kit_ty (by decide +kernel), _, rfl, k⟩⟩
    | int i => exact ⟨_, rfl, _, _, _, _, true, rfl, .ty _, .base (.int i), kit_ty (by decide +kernel), _, rfl, iteT ⟨_, rfl, _, _, _, _, false, rfl, .ty _, .base (.int i), kit_ty (by decide +kernel), _, rfl, k⟩⟩
    | str z => exact ⟨_, rfl, _, _, _, _, false, rfl, .ty _, .base (.str z), kit_ty (by decide +kernel), _, rfl, iteF k⟩
    | ref a =>
      rcases hp with ⟨xs, h⟩ | ⟨xs, h⟩
      · exact ⟨_, rfl, _, _, _, _, false, rfl, .ty _, .base (.lst h), kit_ty (by decide +kernel), _, rfl, iteF k⟩
      · exact ⟨_, rfl, _, _, _, _, false, rfl, .ty _, .base (.tup h), kit_ty (by decide +kernel), _, rfl, iteF k⟩
    | byt q => exact hp.elim
    | flt q => exact hp.elim
    | ty n => exact hp.elim
theorem isTupleOf {f : Addr} {fd : FuncData} (F : C8.Def K mg "is_tuple_of" s_is_tuple_of f fd) (b : Binds K fd P_is_tuple_of []) (T : Names K mg) : C8.Cal P w K mg base 1 "is_tuple_of" spTupOf [] := by
  refine C8.cal0 (N := N_is_tuple_of) F b .nil sc_is_tuple_of (fun vs H Q E h => ?_) (fun cdv A outer s H vs Q E hr h => ?_)
  · obtain ⟨v, n, d, G, rfl, _⟩ := h
    rfl
  · obtain ⟨v, n, d, G, rfl, hd, sG, k⟩ := h
    refine ⟨_, (pss_one (ps_ret (pe_and (pe_callB call_isi (by rfl) T.n_isinstance (by decide +kernel) (pa_cons (pv 0) (pa_cons (pe_bltn (v := .ty "tuple") (u := .type "tuple") (by rfl) T.n_tuple (by decide +kernel) rfl) pa_nil))) (pe_one (pe_cmpR op_eq (pe_callB call_len_seq (by rfl) T.n_len PySem.boot_len (pa_cons (pv 0) pa_nil)) (pv 1) (nomark _)))))), ?_⟩
    cases hd with
    | non => exact ⟨_, rfl, _, _, _, _, false, rfl, .ty _, .base .non, kit_ty (by decide +kernel), _, rfl, iteF k⟩
    | bl q => exact ⟨_, rfl, _, _, _, _, false, rfl, .ty _, .base (.bl q), kit_ty (by decide +kernel), _, rfl, iteF k⟩
    | int i => exact ⟨_, rfl, _, _, _, _, false, rfl, .ty _, .base (.int i), kit_ty (by decide +kernel), _, rfl, iteF k⟩
    | str z => exact ⟨_, rfl, _, _, _, _, false, rfl, .ty _, .base (.str z), kit_ty (by decide +kernel), _, rfl, iteF k⟩
    | lst h da => exact ⟨_, rfl, _, _, _, _, false, rfl, .ty _, .base (.lst (sG _ _ h)), kit_ty (by decide +kernel), _, rfl, iteF k⟩
    | @tup a xs ds h da =>
      refine ⟨_, rfl, _, _, _, _, true, rfl, .ty _, .base (.tup (sG _ _ h)), kit_ty (by decide +kernel), _, rfl, iteT ⟨_, rfl, a, _, rfl, .inr (SqT.of (sG _ _ h)), _, rfl, rfl, ?_⟩⟩
      have e : decide (V.int ((xs.length : Nat) : Int) = V.int n) = tupLen (.tuple ds) n := by
        rw [da.length]
        show _ = decide (((ds.length : Nat) : Int) = n)
        by_cases c : ((ds.length : Nat) : Int) = n
        · rw [c, decide_eq_true rfl, decide_eq_true rfl]
        · rw [decide_eq_false c, decide_eq_false (fun q => c (by injection q))]
      rw [← e] at k
      exact k
theorem isWord_ {f : Addr} {fd : FuncData} (F : C8.Def K mg "is_word" s_is_word f fd) (b : Binds K fd P_is_word []) (T : Names K mg) : C8.Cal P w K mg base 1 "is_word" spWord [] := by
  refine C8.cal0 (N := N_is_word) F b .nil sc_is_word (fun vs H Q E h => ?_) (fun cdv A outer s H vs Q E hr h => ?_)
  · obtain ⟨v, G, rfl, _⟩ := h
    rfl
  · obtain ⟨v, G, rfl, hp, sG, hz, k⟩ := h
    refine ⟨_, (pss_one (ps_ret (pe_and (pe_callB call_isi (by rfl) T.n_isinstance (by decide +kernel) (pa_cons (pv 0) (pa_cons (pe_bltn (v := .ty "str") (u := .type "str") (by rfl) T.n_str (by decide +kernel) rfl) pa_nil))) (pe_and (pe_chain op_le op_le pe_int (pe_callB call_len_str (by rfl) T.n_len PySem.boot_len (pa_cons (pv 0) pa_nil)) pe_int) (pe_one (pe_callB (cr_all rfl) (by rfl) T.n_all (by decide +kernel) (pa_cons (pe_lc (own := [("letter", 1)]) (g := (gName 1)) (tt := tYes) rfl sc_is_word.nd (pi_str (pv 0)) (blkOk_by (own := [("letter", 1)]) (N := N_is_word) (sc := C8.fnScope s_is_word) (by decide +kernel)) (fun _ _ _ _ _ => (pg_name (i := 1) sc_is_word.nd rfl (Or.inl rfl))) (fun _ _ _ _ _ => pts_nil) (fun _ _ _ _ _ => (pe_cmpR op_in_sign (pv 1) (C8.pe_gc rfl T.g_LETTERS) (by rfl)))) pa_nil))))))), ?_⟩
    have k0 := k H (Xt.refl sG)
    cases v with
    | non => exact ⟨_, rfl, _, _, _, _, false, rfl, .ty _, .base .non, kit_ty (by decide +kernel), _, rfl, iteF k0⟩
    | bl q => exact ⟨_, rfl, _, _, _, _, false, rfl, .ty _, .base (.bl q), kit_ty (by decide +kernel), _, rfl, iteF k0⟩
    | int i => exact ⟨_, rfl, _, _, _, _, false, rfl, .ty _, .base (.int i), kit_ty (by decide +kernel), _, rfl, iteF k0⟩
    | ref a =>
      rcases hp with ⟨xs, h⟩ | ⟨xs, h⟩
      · exact ⟨_, rfl, _, _, _, _, false, rfl, .ty _, .base (.lst h), kit_ty (by decide +kernel), _, rfl, iteF k0⟩
      · exact ⟨_, rfl, _, _, _, _, false, rfl, .ty _, .base (.tup h), kit_ty (by decide +kernel), _, rfl, iteF k0⟩
    | byt q => exact hp.elim
    | flt q => exact hp.elim
    | ty n => exact hp.elim
    | str z =>
      have hz' : z.length ≤ 10000 := hz z rfl
      refine ⟨_, rfl, _, _, _, _, true, rfl, .ty _, .base (.str z), kit_ty (by decide +kernel), _, rfl, iteT ?_⟩
      refine ⟨_, rfl, z, rfl, small_line (by omega), _, _, rfl, rfl, _, rfl, ?_⟩
      by_cases c1 : 1 ≤ z.length
      · rw [decide_eq_true (by omega : (1 : Int) ≤ (z.length : Int))]
        refine iteT ⟨_, _, rfl, rfl, _, rfl, ?_⟩
        by_cases c2 : z.length ≤ 8
        · rw [decide_eq_true (by omega : (z.length : Int) ≤ 8)]
          refine iteT ⟨_, rfl, z, rfl, fun Dl hD => ?_⟩
          refine lc_data (b := none) (R := fun _ _ => True) (G := G) walk_str (z.cps.toList.map fun c => .bool (letter c)) (by simp) (by show z.length < 100000; omega) hD sG (fun q => by cases q) trivial (fun _ _ _ _ => trivial) (fun _ _ _ _ _ => trivial) ?_ ?_
          · intro i x H1 G1 H2 d hd X1 _ ⟨e, c, hc, ex⟩ Qy hq
            subst e ex
            have ed : d = .bool (letter c) := by
              rw [List.getElem?_map, Array.getElem?_toList, hc] at hd
              exact (Option.some.inj hd).symm
            subst ed
            exact ⟨rfl, _, rfl, c, LET, rfl, rfl, hq _ _ _ (Xt.refl X1.sub) trivial (.bl _)⟩
          · intro H1 G1 xs X1 _ hl hg da
            have e := DA.bools (ns := z.cps.toList.map letter) (by rw [List.map_map]; exact da)
            refine ⟨Dl, _, rfl, SqL.of (by rw [hl, e]), ?_⟩
            have X2 : Xt none H G H1 G := ⟨X1.sub0, fun _ _ h => h, fun a o h => X1.sub a o (X1.gg a o h), X1.hh, X1.th, fun a o h => .inl h⟩
            have q := k H1 X2
            have e2 : isWord (.str z) = (z.cps.toList.map letter).all id := by
              show (decide (1 ≤ z.length) && decide (z.length ≤ 8) && z.cps.toList.all letter) = _
              rw [decide_eq_true c1, decide_eq_true c2, List.all_map]
              rfl
            rw [e2] at q
            exact q
        · rw [decide_eq_false (by omega : ¬ (z.length : Int) ≤ 8)]
          refine iteF ?_
          have e2 : isWord (.str z) = false := by
            show (decide (1 ≤ z.length) && decide (z.length ≤ 8) && z.cps.toList.all letter) = _
            rw [decide_eq_false c2]; simp
          rw [e2] at k0
          exact k0
      · rw [decide_eq_false (by omega : ¬ (1 : Int) ≤ (z.length : Int))]
        refine iteF ⟨_, rfl, iteF ?_⟩
        have e2 : isWord (.str z) = false := by
          show (decide (1 ≤ z.length) && decide (z.length ≤ 8) && z.cps.toList.all letter) = _
          rw [decide_eq_false c1]; simp
        rw [e2] at k0
        exact k0
theorem isColumn {f : Addr} {fd : FuncData} (F : C8.Def K mg "is_column" s_is_column f fd) (b : Binds K fd P_is_column []) (T : Names K mg) (c_is_word : C8.Cal P w K mg base 1 "is_word" spWord []) (c_is_integer : C8.Cal P w K mg base 1 "is_integer" spIsInt []) (c_is_tuple_of : C8.Cal P w K mg base 1 "is_tuple_of" spTupOf []) : C8.Cal P w K mg base 2 "is_column" spCol [] := by
  refine C8.cal0 (N := N_is_column) F b .nil sc_is_column (fun vs H Q E h => ?_) (fun cdv A outer s H vs Q E hr h => ?_)
  · obtain ⟨v, d, G, rfl, _⟩ := h
    rfl
  · obtain ⟨v, d, G, rfl, hd, hsh, sG, k⟩ := h
    obtain ⟨ra, ru, rs⟩ := T.g_RESERVED
    have T_ := T
    have g_RESERVED := ru
    refine ⟨_, (pss_cons (ps_if (pt_not (pt_val (C8.pe_c c_is_tuple_of hr (by decide) rfl (pa_cons (pv 0) (pa_cons pe_int pa_nil))))) (pss_one (ps_ret pe_bl)) pss_nil)
 (pss_cons (ps_asg (pv 0) (pg_tup rfl (pgs_cons (pg_name (i := 1) sc_is_column.nd rfl (Or.inl rfl)) (pgs_cons (pg_name (i := 2) sc_is_column.nd rfl (Or.inl rfl)) pgs_nil))))
 (pss_one (ps_ret (pe_and (C8.pe_c c_is_word hr (by decide) rfl (pa_cons (pv 1) pa_nil)) (pe_and (pe_cmpR op_notIn_seq (pv 1) (C8.pe_gc rfl g_RESERVED) (by rfl)) (pe_and (C8.pe_c c_is_integer hr (by decide) rfl (pa_cons (pv 2) pa_nil)) (pe_one (pe_chain op_le op_le pe_int (pv 2) pe_int))))))))), ?_⟩
    have k0 := k H (Xt.refl sG)
    refine ⟨_, rfl, v, 2, d, G, rfl, hd, sG, _, rfl, ?_⟩
    cases hd with
    | non => exact k0
    | bl q => exact k0
    | int i => exact k0
    | str z => exact k0
    | lst h da => exact k0
    | @tup a xs ds h da =>
      have hT := sG _ _ h
      by_cases c2 : ds.length = 2
      · have e2 : tupLen (.tuple ds) 2 = true := by
          show decide _ = true
          rw [c2]; rfl
        rw [e2]
        refine iteF ?_
        match ds, xs, da, c2 with
        | [d1, d2], [x1, x2], .cons h1 (.cons h2 .nil), _ =>
          refine ⟨_, rfl, a, _, rfl, SqT.of hT, rfl, _, _, rfl, _, _, rfl, rfl, ?_⟩
          have short : ∀ z, x1 = .str z → z.length ≤ 10000 := fun z e => by
            subst e; cases h1; exact hsh
          refine ⟨_, rfl, x1, G, rfl, h1.plain sG, sG, short, fun H1 X1 => ⟨_, rfl, ?_⟩⟩
          have k1 := k H1 X1
          cases hw : isWord x1 with
          | false =>
            refine iteF ?_
            have e3 : isCol (.tuple [d1, d2]) = false := by
              cases h1 with
              | str z =>
                have : isWordS z = false := hw
                cases d2 <;> simp [isCol, this]
              | _ => rfl
            rw [e3] at k1
            exact k1
          | true =>
            cases h1 with
            | str z =>
              have hw' : isWordS z = true := hw
              refine iteT ⟨_, rfl, ra, _, rfl, .inr (rs H1), rfl, (by decide +kernel), _, rfl, ?_⟩
              rw [inV_strs]
              by_cases hr : z ∈ RES
              · rw [decide_eq_true hr]
                refine iteF ?_
                have e3 : isCol (.tuple [.str z, d2]) = false := by cases d2 <;> simp [isCol, hr]
                rw [e3] at k1
                exact k1
              · rw [decide_eq_false hr]
                refine iteT ⟨_, rfl, x2, rfl, (h2.plain X1.sub), _, rfl, ?_⟩
                cases h2 with
                | int i =>
                  refine iteT ⟨_, rfl, _, _, rfl, rfl, _, rfl, ?_⟩
                  have e3 : isCol (.tuple [.str z, .int i]) = (decide (1 ≤ i) && decide (i ≤ 3)) := by simp [isCol, hw', hr]
                  rw [e3] at k1
                  refine ite2 (fun c3 => ?_) (fun c3 => ?_)
                  · rw [decide_eq_true (of_decide_eq_true c3)] at k1
                    exact ⟨_, _, rfl, rfl, k1⟩
                  · rw [decide_eq_false (fun q => c3 (decide_eq_true q))] at k1
                    exact k1
                | _ =>
                  refine iteF ?_
                  exact k1
            | non => cases hw
            | bl q => cases hw
            | int i => cases hw
            | lst _ _ => cases hw
            | tup _ _ => cases hw
      · have e2 : tupLen (.tuple ds) 2 = false := decide_eq_false (fun q => c2 (by omega))
        rw [e2]
        refine iteT ?_
        have e3 : isCol (.tuple ds) = false := by
          match ds, c2 with
          | [], _ => rfl
          | [.str _], _ => rfl
          | [.none], _ => rfl
          | [.bool _], _ => rfl
          | [.int _], _ => rfl
          | [.list _], _ => rfl
          | [.tuple _], _ => rfl
          | [.dict _], _ => rfl
          | _ :: _ :: _ :: _, _ => simp [isCol]
          | [_, _], c2 => exact absurd rfl c2
        rw [e3] at k0
        exact k0
end
end Nw
namespace Nw
open PySem L2 PySem.Spec PyProof.Rows RZ
theorem isCol_good {c : Col} (h : c.1 ∈ n11) (h1 : 1 ≤ c.2 ∧ c.2 ≤ 3) : isCol (dCol c) = true ∧ shortD (dCol c) := by
  obtain ⟨w1, w2, w3⟩ := n11_word c.1 h
  refine ⟨?_, w3⟩
  show (isWordS c.1 && !decide (c.1 ∈ RES) && decide (1 ≤ c.2) && decide (c.2 ≤ 3)) = true
  rw [w1, decide_eq_false w2, decide_eq_true h1.1, decide_eq_true h1.2]
  rfl
theorem col_inv {G : Hp} {y : V} {c : Col} (h : D G y (dCol c)) : ∃ t, y = .ref t ∧ G t = some (.tup [.str c.1, .int c.2]) := by
  obtain ⟨t, ws, rfl, ht, da⟩ := h.tup_inv
  cases da with
  | cons h1 da =>
    cases da with
    | cons h2 da =>
      cases da
      cases h1
      cases h2
      exact ⟨t, rfl, ht⟩
theorem cols_at {G : Hp} {xs : List V} {cols : List Col} {i : Nat} {y : V} (da : DA G xs (dCols cols)) (h : xs[i]? = some y) : ∃ c t, cols[i]? = some c ∧ y = .ref t ∧ G t = some (.tup [.str c.1, .int c.2]) := by
  obtain ⟨d, h1, h2⟩ := da.get h
  rw [dCols, List.getElem?_map] at h1
  cases e : cols[i]? with
  | none => rw [e] at h1; cases h1
  | some c =>
    rw [e] at h1
    obtain rfl := Option.some.inj h1
    obtain ⟨t, h3, h4⟩ := col_inv h2
    exact ⟨c, t, rfl, h3, h4⟩
theorem flat_strs (l : List Str) : (l.map V.str).all flatV = true := by
  rw [List.all_map]
  exact List.all_eq_true.mpr fun _ _ => rfl
/-- G alone goes back to a smaller part -/
theorem Xt.back {b : Option Addr} {H G H1 G1 : Hp} (x : Xt b H G H1 G1) : Xt b H G H1 G := ⟨x.sub0, fun _ _ h => h, fun a o h => x.sub a o (x.gg a o h), x.hh, x.th, fun a o h => .inl h⟩
theorem nodup_new {α : Type} : ∀ {l : List α} {i : Nat} {x : α}, l.Nodup → l[i]? = some x → x ∉ l.take i
  | [], i, x, _, e => by simp at e
  | a :: l, 0, x, _, _ => by simp
  | a :: l, i + 1, x, h, e => by
    have h2 := List.nodup_cons.mp h
    have e2 : l[i]? = some x := by simpa using e
    have ih := nodup_new h2.2 e2
    intro q
    rw [List.take_succ_cons] at q
    rcases List.mem_cons.mp q with q | q
    · subst q; exact h2.1 (List.mem_of_getElem? e2)
    · exact ih q
end Nw
namespace Nw
open PySem L2 PySem.Spec PyProof.Rows RZ
/-- what the top leaves of the class Table -/
structure TabC (K : PySem.W.Frag) (mg : Str → Option Value) (C : Addr) : Prop where
  cl : Cls K C
  nC : NoAttr K C "columns"
  nT : NoAttr K C "tops"
section
variable {P : Program} {w : World} {K : PySem.W.Frag} {mg : Str → Option Value} {base : Heap}
theorem tInit {f C : Addr} {fd : FuncData} (F : C8.Fun K "__init__" "Table.__init__" s_Table____init__ f fd) (b : Binds K fd P_Table____init__ []) (M : Mk K C f) (hm : mg "Table" = some (.ref C)) (T : Names K mg) (TC : TabC K mg C) (c_is_column : C8.Cal P w K mg base 2 "is_column" spCol []) : C8.Mak P w K mg base 3 "Table" C (spInit C) [] := by
  refine C8.mak0 (N := N_Table____init__) M hm F b .nil sc_Table____init__ (fun vs H Q E h => ?_) (fun cdv A outer s H vs Q E hr h => ?_)
  · obtain ⟨x, dx, a, xs, cols, H0, G, rfl, _⟩ := h
    rfl
  · obtain ⟨x, dx, a, xs, cols, H0, G, rfl, nx, ndx, nex, hH, ha, da, good, sG, k⟩ := h
    have hu := hu_of hr
    refine ⟨_, (pss_cons (ps_if (pt_not (pt_chain op_le op_le pe_int (pe_callB call_len_seq (by rfl) T.n_len PySem.boot_len (pa_cons (pv 1) pa_nil)) pe_int)) (pss_one ps_never) pss_nil)
 (pss_cons (ps_set (i := 2) sc_Table____init__.nd rfl (Or.inl rfl) (pe_lst pa_nil))
 (pss_cons (ps_for PassesOwn.never rfl (pi_enum (by rfl) T.n_enumerate (pa_cons (pv 1) pa_nil)) (pg_tup rfl (pgs_cons (pg_name (i := 3) sc_Table____init__.nd rfl (Or.inl rfl)) (pgs_cons (pg_name (i := 4) sc_Table____init__.nd rfl (Or.inl rfl)) pgs_nil))) (pss_cons (ps_if (PW.pt (pw_or (pt_not (pt_val (C8.pe_c c_is_column hr (by decide) rfl (pa_cons (pv 4) pa_nil)))) (pw_or1 (pt_cmpR op_in_seq (pe_ix ix_tup (pv 4) pe_int (fun _ _ => rfl)) (pv 2) (by rfl))))) (pss_one ps_never) pss_nil)
 (pss_one (ps_expr (pe_bm PySem.F.plainAttrs_list PySem.F.slot_list_append PySem.F.type_list_append mt_append (pv 2) (pa_cons (pe_ix ix_tup (pv 4) pe_int (fun _ _ => rfl)) pa_nil))))))
 (pss_cons (ps_fld (pv 0) (pe_callTy call_tuple_of (by rfl) T.n_tuple (by decide +kernel) (pa_cons (pv 2) pa_nil)) rfl)
 (pss_one (ps_fld (pv 0) (pe_callTy call_tuple_of (by rfl) T.n_tuple (by decide +kernel) (pa_cons (pe_lc (own := [("_", 5), ("top", 6)]) (g := (gTup K 2 (gCons (gName 5) (gCons (gName 6) gNil)))) (tt := tYes) rfl sc_Table____init__.nd (pi_list (pv 1)) (blkOk_by (own := [("_", 5), ("top", 6)]) (N := N_Table____init__) (sc := C8.fnScope s_Table____init__) (by decide +kernel)) (fun _ _ _ _ _ => (pg_tup rfl (pgs_cons (pg_name (i := 5) sc_Table____init__.nd rfl (Or.inl rfl)) (pgs_cons (pg_name (i := 6) sc_Table____init__.nd rfl (Or.inl rfl)) pgs_nil)))) (fun _ _ _ _ _ => pts_nil) (fun _ _ _ _ _ => (pv 6))) pa_nil)) rfl)))))), ?_⟩
    have hdx0 : upd H0 dx (.own x) x = none := by rw [upd_ne nex.symm]; exact nx
    have X0 : Xt none H0 G H G := by rw [hH]; exact (Xt.tmp sG ndx).allocT hdx0
    have hX : H x = some (.ins C dx []) := by rw [hH]; exact upd_same
    have hDX : H dx = some (.own x) := by rw [hH, upd_ne nex]; exact upd_same
    have hA := X0.hh a _ (fun q => by cases q) ha
    have gx : G x = none := sG.free nx
    have gdx : G dx = none := sG.free ndx
    have hl : xs.length = cols.length := by rw [da.length, dCols, List.length_map]
    have hl1 := good.len.1
    have hl3 := good.len.2
    clear hH
    refine ⟨_, rfl, a, _, rfl, .inl (SqL.of hA), _, _, rfl, rfl, _, rfl, ?_⟩
    rw [decide_eq_true (by omega : (1 : Int) ≤ ((xs.length : Nat) : Int))]
    refine iteT ⟨_, _, rfl, rfl, _, rfl, ?_⟩
    rw [decide_eq_true (by omega : ((xs.length : Nat) : Int) ≤ 3)]
    refine iteF ⟨Nat.zero_le _, fun nl hnl => ?_⟩
    have X1 := X0.allocT (o := .lst []) hnl
    have nl0 := X0.fresh hnl
    have n1 : x ≠ nl := fun q => by subst q; rw [hX] at hnl; cases hnl
    have n2 : dx ≠ nl := fun q => by subst q; rw [hDX] at hnl; cases hnl
    have n3 : a ≠ nl := fun q => by subst q; rw [hA] at hnl; cases hnl
    refine ⟨_, rfl, a, xs, rfl, SqL.of (by rw [upd_ne n3]; exact hA), for_it (walk_enum (xs := xs)) (fun i σ' H' => ∃ (G' : Hp) (v3 v4 : Option V), σ' = [some (.ref x), some (.ref a), some (.ref nl), v3, v4, none, none] ∧ Xt none H0 G H' G' ∧
      H' nl = some (.lst (((cols.map (·.1)).take i).map V.str)) ∧ H' x = some (.ins C dx []) ∧ H' dx = some (.own x) ∧ H' a = some (.lst xs) ∧ G' nl = none ∧ G' x = none ∧ G' dx = none ∧ DA G' xs (dCols cols)) ?_ ?_ ?_ ?_⟩
    · exact ⟨G, none, none, rfl, X1, upd_same, by rw [upd_ne n1]; exact hX, by rw [upd_ne n2]; exact hDX, by rw [upd_ne n3]; exact hA, X0.sub.free hnl, gx, gdx, da⟩
    · rintro i σ' H' hi ⟨G', v3, v4, rfl, X, h1, h2, h3, h4, _⟩
      exact SqL.of h4
    · rintro i y σ' H1 H2 hi ⟨G', v3, v4, rfl, X, h1, h2, h3, h4, g1, g2, g3, da'⟩ ⟨T_, u1, u2, rfl, hT, rfl, e1, e2⟩
      obtain ⟨c, t, hc, rfl, ht⟩ := cols_at da' e2
      obtain rfl := Option.some.inj e1
      have hcm : c ∈ cols := List.mem_of_getElem? hc
      obtain ⟨q1, q2⟩ := isCol_good (good.names c hcm) (good.tops c hcm)
      have X2 := X.allocT (o := .tup [.int ((i : Nat) : Int), .ref t]) hT
      have hn1 : c.1 ∉ (cols.map (·.1)).take i := nodup_new good.nd (by rw [List.getElem?_map, hc]; rfl)
      refine ⟨T_, _, rfl, SqT.of upd_same, rfl, _, _, rfl, _, _, rfl, rfl, ?_⟩
      refine ⟨_, rfl, .ref t, dCol c, G', rfl, .tup ht (.cons (.str _) (.cons (.int _) .nil)), q2, X2.sub, fun H3 X3 => ⟨_, rfl, ?_⟩⟩
      rw [q1]
      have k3 : ∀ b o, H1 b = some o → H3 b = some o := fun b o e => X3.hh b o (fun q => by cases q) (upd_same_ hT b o e)
      refine iteF ⟨_, rfl, t, _, _, _, rfl, rfl, SqT.of (X3.sub _ _ ht), rfl, _, rfl, nl, _, rfl, .inl (SqL.of (k3 _ _ h1)), rfl, flat_strs _, _, rfl, ?_⟩
      rw [inV_strs, decide_eq_false hn1]
      refine iteF ⟨_, rfl, .inl ⟨rfl, _, SqL.of (k3 _ _ h1)⟩, _, rfl, t, _, _, _, rfl, rfl, SqT.of (X3.sub _ _ ht), rfl, nl, _, _, rfl, rfl, k3 _ _ h1, small_lt (by rw [List.length_map, List.length_take, List.length_map]; omega), ?_⟩
      refine ⟨G', _, _, rfl, (X2.trans X3).set nl0 g1, ?_, by rw [upd_ne n1]; exact k3 _ _ h2, by rw [upd_ne n2]; exact k3 _ _ h3, by rw [upd_ne n3]; exact k3 _ _ h4, g1, g2, g3, da'⟩
      rw [upd_same, take_succ_of (x := c.1) (by rw [List.getElem?_map, hc]; rfl), List.map_append]
      rfl
    · rintro σ' H1 ⟨G', v3, v4, rfl, X, h1, h2, h3, h4, g1, g2, g3, da'⟩
      rw [show (cols.map (·.1)).take xs.length = cols.map (·.1) from List.take_of_length_le (by rw [List.length_map]; omega)] at h1
      refine ⟨_, rfl, nl, _, rfl, .inl ⟨SqL.of h1, fun cx hcx => ?_⟩⟩
      have m1 : x ≠ cx := fun q => by subst q; rw [h2] at hcx; cases hcx
      have m2 : dx ≠ cx := fun q => by subst q; rw [h3] at hcx; cases hcx
      have m3 : a ≠ cx := fun q => by subst q; rw [h4] at hcx; cases hcx
      have X2 := X.alloc (o := .tup ((cols.map (·.1)).map V.str)) hcx
      have g2' := none_of_ne (o := HO.tup ((cols.map (·.1)).map V.str)) g2 m1
      have g3' := none_of_ne (o := HO.tup ((cols.map (·.1)).map V.str)) g3 m2
      refine ⟨_, rfl, x, C, dx, _, rfl, by rw [upd_ne m1]; exact h2, TC.cl, TC.nC, (by show 0 < 1000; decide), ?_⟩
      have X3 := X2.set (o := .ins C dx (putF "columns" (.ref cx) [])) nx g2'
      have s3 : Same G' (upd G' cx (.tup ((cols.map (·.1)).map V.str))) := upd_same_ (X.sub.free hcx)
      have hA3 : (upd (upd H1 cx (.tup ((cols.map (·.1)).map V.str))) x (.ins C dx (putF "columns" (.ref cx) []))) a = some (.lst xs) := by
        have : a ≠ x := fun q => by subst q; rw [h2] at h4; cases h4
        rw [upd_ne this, upd_ne m3]; exact h4
      have hDX3 : (upd (upd H1 cx (.tup ((cols.map (·.1)).map V.str))) x (.ins C dx (putF "columns" (.ref cx) []))) dx = some (.own x) := by
        rw [upd_ne nex, upd_ne m2]; exact h3
      refine ⟨_, rfl, a, rfl, ⟨_, SqL.of hA3⟩, fun Dl hD => ?_⟩
      refine lc_data (b := none) (R := fun _ _ => True) (walk_list (xs := xs)) (cols.map fun c => .int c.2) (by rw [List.length_map, hl]) (by omega) hD X3.sub (fun q => by cases q) trivial (fun _ _ _ _ => trivial) (fun i H4 G4 X4 _ => SqL.of (X4.hh _ _ (fun q => by cases q) hA3)) ?_ ?_
      · rintro i y H4 G4 H5 d hd X4 _ ⟨rfl, hy⟩ Qy hq
        obtain ⟨c, t, hc, rfl, ht⟩ := cols_at (da'.mono s3) hy
        rw [List.getElem?_map, hc] at hd
        obtain rfl := Option.some.inj hd
        exact ⟨t, _, rfl, SqT.of (X4.sub _ _ (X4.gg _ _ ht)), rfl, _, _, rfl, _, _, rfl, rfl, rfl, _, rfl, hq _ _ _ (Xt.refl X4.sub) trivial (.int _)⟩
      · intro H4 G4 ys X4 _ hl4 hg4 da4
        have e4 := DA.ints (ns := cols.map (·.2)) (by rw [List.map_map]; exact da4)
        refine ⟨Dl, _, rfl, .inl ⟨SqL.of hl4, fun tx htx => ?_⟩⟩
        have hX4 := X4.hh x _ (fun q => by cases q) (upd_same)
        have hDX4 := X4.hh dx _ (fun q => by cases q) hDX3
        have m4 : x ≠ tx := fun q => by subst q; rw [hX4] at htx; cases htx
        have m5 : dx ≠ tx := fun q => by subst q; rw [hDX4] at htx; cases htx
        refine ⟨_, rfl, x, C, dx, _, rfl, by rw [upd_ne m4]; exact hX4, TC.cl, TC.nT, (by show 1 < 1000; decide), ?_⟩
        have gx4 := X4.non (ne_none_of (upd_same)) g2'
        have gd4 := X4.non (ne_none_of hDX3) g3'
        have X5 := (X3.trans X4).alloc (o := .tup ys) htx
        have X6 := X5.set (o := .ins C dx (putF "tops" (.ref tx) (putF "columns" (.ref cx) []))) nx (none_of_ne gx4 m4)
        rw [tf_put] at X6 ⊢
        have X7 := X6.fix nx upd_same
        have X8 := X7.fix (l := dx) (o := .own x) ndx (by rw [upd_ne nex, upd_ne m5]; exact hDX4)
        refine k _ _ X8 ⟨dx, cx, tx, by rw [upd_ne nex.symm, upd_same], upd_same, ?_, ?_⟩
        · have hc4 := X4.gg cx _ upd_same
          rw [upd_ne m2.symm, upd_ne m1.symm, upd_ne (ne_of_none (X4.sub _ _ hc4) htx), hc4, List.map_map]; rfl
        · rw [upd_ne m5.symm, upd_ne m4.symm, upd_same, e4, List.map_map]; rfl
end
end Nw
namespace Nw
open PySem L2 PySem.Spec PyProof.Rows RZ
def spAllValues (C : Addr) : Sp := fun vs H Q _ => ∃ (x : Addr) (cols : List Col) (G : Hp), vs = [.ref x] ∧ TabAt C G x cols ∧ Good n11 cols ∧ Same G H ∧ OwnL H G (dRows (allV (cols.map (·.2)))) Q
def spLenT (C : Addr) : Sp := fun vs H Q _ => ∃ (x : Addr) (cols : List Col) (G : Hp), vs = [.ref x] ∧ TabAt C G x cols ∧ Same G H ∧ Q (.int ((cols.length : Nat) : Int)) H
/-- is it values of these tops -/
def isIn : List Int → List PyData → Bool
  | [], [] => true
  | t :: ts, .int v :: vs => decide (0 ≤ v) && decide (v ≤ t) && isIn ts vs
  | _, _ => false
def inTab (tops : List Int) : PyData → Bool
  | .tuple vs => isIn tops vs
  | _ => false
def spIn (C : Addr) : Sp := fun vs H Q _ => ∃ (x : Addr) (cols : List Col) (v : V) (d : PyData) (G : Hp), vs = [.ref x, v] ∧ TabAt C G x cols ∧ Good n11 cols ∧ D G v d ∧ Same G H ∧ ∀ H', Xt none H G H' G → Q (.bl (inTab (cols.map (·.2)) d)) H'
/-- == of tables: another thing, or a table -/
inductive Other (C : Addr) (G : Hp) : V → Option (List Col) → Prop
  | data {v : V} {d : PyData} : D G v d → Other C G v none
  | tab {y : Addr} {cols : List Col} : TabAt C G y cols → Good n11 cols → Other C G (.ref y) (some cols)
def spEq_ (C : Addr) : Sp := fun vs H Q _ => ∃ (x : Addr) (cols : List Col) (v : V) (o : Option (List Col)) (G : Hp), vs = [.ref x, v] ∧ TabAt C G x cols ∧ Good n11 cols ∧ Other C G v o ∧ Same G H ∧ Q (.bl (decide (o = some cols))) H
/-- the text of a table -/
def colText (c : Col) : Str := Str.empty ++ c.1 ++ "=" ++ toString c.2
def tabText (cols : List Col) : Str := Str.empty ++ "Table(" ++ Txt.join ", " (cols.map colText) ++ ")"
def spRepr (C : Addr) : Sp := fun vs H Q _ => ∃ (x : Addr) (cols : List Col) (G : Hp), vs = [.ref x] ∧ TabAt C G x cols ∧ Good n11 cols ∧ Same G H ∧ ∀ H', Xt none H G H' G → Q (.str (tabText cols)) H'
theorem stepV_len {found : List (List Int)} {t : Int} (h : 1 ≤ t ∧ t ≤ 3) : (stepV found t).length ≤ 4 * found.length := by
  unfold stepV
  induction found with
  | nil => simp
  | cons a l ih =>
    rw [List.map_cons, List.flatten_cons, List.length_append, List.length_map, List.length_range, List.length_cons]
    omega
theorem allV_len : ∀ {tops : List Int} {found : List (List Int)}, (∀ t ∈ tops, 1 ≤ t ∧ t ≤ 3) → (tops.foldl stepV found).length ≤ 4 ^ tops.length * found.length
  | [], found, _ => by simp
  | t :: ts, found, h => by
    have ih := allV_len (tops := ts) (found := stepV found t) fun x hx => h x (List.mem_cons_of_mem _ hx)
    have h1 := stepV_len (found := found) (h t List.mem_cons_self)
    rw [List.foldl_cons, List.length_cons]
    calc _ ≤ 4 ^ ts.length * (stepV found t).length := ih
      _ ≤ 4 ^ ts.length * (4 * found.length) := Nat.mul_le_mul_left _ h1
      _ = 4 ^ (ts.length + 1) * found.length := by rw [Nat.pow_succ, Nat.mul_assoc]
theorem allV_small {tops : List Int} {i : Nat} (hl : tops.length ≤ 3) (h : ∀ t ∈ tops, 1 ≤ t ∧ t ≤ 3) : (allV (tops.take i)).length ≤ 64 := by
  have := allV_len (tops := tops.take i) (found := [[]]) fun t ht => h t (List.mem_of_mem_take ht)
  have l : (tops.take i).length ≤ 3 := by rw [List.length_take]; omega
  have p : 4 ^ (tops.take i).length ≤ 4 ^ 3 := Nat.pow_le_pow_right (by decide) l
  unfold allV
  simp at this
  have e : (4 : Nat) ^ 3 = 64 := by decide
  simp at p
  omega
theorem allV_succ {tops : List Int} {i : Nat} {t : Int} (h : tops[i]? = some t) : allV (tops.take (i + 1)) = stepV (allV (tops.take i)) t := by
  unfold allV
  rw [take_succ_of h, List.foldl_append]
  rfl
theorem D.row {G : Hp} {v : V} {r : List Int} (h : D G v (dRow r)) : ∃ t, v = .ref t ∧ G t = some (.tup (r.map V.int)) := by
  obtain ⟨t, ws, rfl, ht, da⟩ := h.tup_inv
  exact ⟨t, rfl, by rw [ht, da.ints]⟩
theorem D.ofRow {G : Hp} {t : Addr} {r : List Int} (h : G t = some (.tup (r.map V.int))) : D G (.ref t) (dRow r) := .tup h (DA.ofInts r)
theorem rows_at {G : Hp} {xs : List V} {rs : List (List Int)} {i : Nat} {y : V} (da : DA G xs (dRows rs)) (h : xs[i]? = some y) : ∃ r t, rs[i]? = some r ∧ y = .ref t ∧ G t = some (.tup (r.map V.int)) := by
  obtain ⟨d, h1, h2⟩ := da.get h
  rw [dRows, List.getElem?_map] at h1
  cases e : rs[i]? with
  | none => rw [e] at h1; cases h1
  | some r =>
    rw [e] at h1
    obtain rfl := Option.some.inj h1
    obtain ⟨t, h3, h4⟩ := h2.row
    exact ⟨r, t, rfl, h3, h4⟩
theorem dRows_step (found : List (List Int)) (t : Int) : (found.map fun row => ((List.range (t + 1).toNat).map fun v => dRow (row ++ [((v : Nat) : Int)]))).flatten = dRows (stepV found t) := by
  unfold dRows stepV
  rw [List.map_flatten, List.map_map]
  congr 1
  refine List.map_congr_left fun r _ => ?_
  show _ = List.map dRow _
  rw [List.map_map]
  rfl
theorem stepV_mem {found : List (List Int)} {t : Int} {r : List Int} (h : r ∈ stepV found t) : ∃ q v, q ∈ found ∧ r = q ++ [v] ∧ 0 ≤ v ∧ v ≤ t := by
  unfold stepV at h
  obtain ⟨l, hl, hr⟩ := List.mem_flatten.mp h
  obtain ⟨q, hq, rfl⟩ := List.mem_map.mp hl
  obtain ⟨v, hv, rfl⟩ := List.mem_map.mp hr
  have := List.mem_range.mp hv
  exact ⟨q, _, hq, rfl, by omega, by omega⟩
theorem allV_row : ∀ {tops : List Int} {found : List (List Int)} {n : Nat}, (∀ r ∈ found, r.length = n) → ∀ r ∈ tops.foldl stepV found, r.length = n + tops.length
  | [], found, n, h, r, hr => h r hr
  | t :: ts, found, n, h, r, hr => by
    have := allV_row (tops := ts) (found := stepV found t) (n := n + 1) (fun r hr => by
      obtain ⟨q, v, hq, rfl, _⟩ := stepV_mem hr
      rw [List.length_append, h q hq]; rfl) r hr
    rw [this, List.length_cons]; omega
def isOne : Int → PyData → Bool
  | t, .int v => decide (0 ≤ v) && decide (v ≤ t)
  | _, _ => false
theorem isIn_zip : ∀ (ts : List Int) (ds : List PyData), ts.length = ds.length → (List.zipWith isOne ts ds).all id = isIn ts ds
  | [], [], _ => rfl
  | [], _ :: _, h => by cases h
  | _ :: _, [], h => by cases h
  | t :: ts, d :: ds, h => by
    have ih := isIn_zip ts ds (by simpa using h)
    rw [List.zipWith_cons_cons, List.all_cons, ih]
    cases d <;> simp [isIn, isOne]
/-! ### == of data -/
theorem layAll_map {α : Type} (f : α → PyData) (n : Nat) : ∀ (l : List α), (∀ a ∈ l, (f a).canLay0 = true ∧ (f a).depth ≤ n) → PyData.canLayAll0 (l.map f) = true ∧ PyData.depthAll (l.map f) ≤ n
  | [], _ => ⟨rfl, Nat.zero_le _⟩
  | a :: l, h => by
    have ih := layAll_map f n l fun x hx => h x (List.mem_cons_of_mem _ hx)
    have h1 := h a List.mem_cons_self
    rw [List.map_cons]
    refine ⟨?_, ?_⟩
    · show ((f a).canLay0 && PyData.canLayAll0 (l.map f)) = true
      rw [h1.1, ih.1]; rfl
    · show max (f a).depth (PyData.depthAll (l.map f)) ≤ n
      exact Nat.max_le.mpr ⟨h1.2, ih.2⟩
theorem shaped_tup {ds : List PyData} (h : PyData.canLayAll0 ds = true ∧ PyData.depthAll ds ≤ 63) : SeqAt.shaped (.tuple ds) = true := by
  show ((PyData.tuple ds).canLay0 && decide ((PyData.tuple ds).depth ≤ 64)) = true
  have h1 : (PyData.tuple ds).canLay0 = true := h.1
  have h2 : (PyData.tuple ds).depth ≤ 64 := by show PyData.depthAll ds + 1 ≤ 64; omega
  rw [h1, decide_eq_true h2]; rfl
theorem shaped_lst {ds : List PyData} (h : PyData.canLayAll0 ds = true ∧ PyData.depthAll ds ≤ 63) : SeqAt.shaped (.list ds) = true := by
  show ((PyData.list ds).canLay0 && decide ((PyData.list ds).depth ≤ 64)) = true
  have h1 : (PyData.list ds).canLay0 = true := h.1
  have h2 : (PyData.list ds).depth ≤ 64 := by show PyData.depthAll ds + 1 ≤ 64; omega
  rw [h1, decide_eq_true h2]; rfl
theorem eqvAll_map {α : Type} [DecidableEq α] (f : α → PyData) (hf : ∀ a b, PyData.eqv (f a) (f b) = decide (a = b)) : ∀ (l m : List α), PyData.eqvAll (l.map f) (m.map f) = decide (l = m)
  | [], [] => by simp [PyData.eqvAll]
  | [], b :: m => by simp [PyData.eqvAll]
  | a :: l, [] => by simp [PyData.eqvAll]
  | a :: l, b :: m => by
    rw [List.map_cons, List.map_cons]
    show (PyData.eqv (f a) (f b) && PyData.eqvAll (l.map f) (m.map f)) = _
    rw [hf, eqvAll_map f hf l m]
    by_cases h1 : a = b
    · by_cases h2 : l = m
      · simp [h1, h2]
      · simp [h1, h2]
    · simp [h1]
theorem eqv_strs (l m : List Str) : PyData.eqv (.tuple (l.map .str)) (.tuple (m.map .str)) = decide (l = m) := by
  refine eqvAll_map PyData.str (fun a b => ?_) l m
  show (a == b) = decide (a = b)
  by_cases h : a = b
  · subst h; simp
  · rw [decide_eq_false h]; simpa using h
theorem eqv_ints_ (l m : List Int) : PyData.eqvAll (l.map .int) (m.map .int) = decide (l = m) := by
  refine eqvAll_map PyData.int (fun a b => ?_) l m
  show (a == b) = decide (a = b)
  by_cases h : a = b
  · subst h; simp
  · rw [decide_eq_false h]; simpa using h
theorem eqv_ints (l m : List Int) : PyData.eqv (.tuple (l.map .int)) (.tuple (m.map .int)) = decide (l = m) := eqv_ints_ l m
theorem eqv_rows (l m : List (List Int)) : PyData.eqv (.list (dRows l)) (.list (dRows m)) = decide (l = m) := eqvAll_map dRow (fun a b => eqv_ints a b) l m
theorem n11_ok : ∀ n ∈ n11, (PyData.str n).canLay0 = true := by decide +kernel
theorem sh_names {cols : List Col} (h : ∀ c ∈ cols, c.1 ∈ n11) : SeqAt.shaped (.tuple ((cols.map (·.1)).map .str)) = true :=
  shaped_tup (layAll_map _ 63 _ fun a ha => by
    obtain ⟨c, hc, rfl⟩ := List.mem_map.mp ha
    exact ⟨n11_ok _ (h c hc), Nat.zero_le _⟩)
theorem sh_ints (l : List Int) : SeqAt.shaped (.tuple (l.map .int)) = true := shaped_tup (layAll_map _ 63 _ fun a _ => ⟨rfl, Nat.zero_le _⟩)
theorem sh_rows (l : List (List Int)) : SeqAt.shaped (.list (dRows l)) = true := shaped_lst (layAll_map _ 63 _ fun r _ => by
  have h := layAll_map PyData.int 0 r fun a _ => ⟨rfl, Nat.zero_le _⟩
  refine ⟨h.1, ?_⟩
  show PyData.depthAll (r.map .int) + 1 ≤ 63
  omega)
theorem cols_ext : ∀ {l m : List Col}, l.map (·.1) = m.map (·.1) → l.map (·.2) = m.map (·.2) → l = m
  | [], [], _, _ => rfl
  | [], _ :: _, h, _ => by cases h
  | _ :: _, [], h, _ => by cases h
  | (a, b) :: l, (c, d) :: m, h1, h2 => by
    simp only [List.map_cons, List.cons.injEq] at h1 h2
    rw [h1.1, h2.1, cols_ext h1.2 h2.2]
/-! ### texts -/
theorem tops3 {t : Int} (h : 1 ≤ t ∧ t ≤ 3) : t = 1 ∨ t = 2 ∨ t = 3 := by omega
theorem colText_len : ∀ n ∈ n11, ∀ t ∈ ([1, 2, 3] : List Int), (Str.empty ++ n).length ≤ 10 ∧ (Str.empty ++ n ++ "=").length ≤ 10 ∧ (colText (n, t)).length ≤ 10 ∧ ((toString t : String) : Str).length ≤ 10 ∧ t.natAbs.log2 < 1920 ∧ n.length ≤ 10 := by decide +kernel
theorem colText_ok {c : Col} (h : c.1 ∈ n11) (ht : 1 ≤ c.2 ∧ c.2 ≤ 3) : (Str.empty ++ c.1).length ≤ 10 ∧ (Str.empty ++ c.1 ++ "=").length ≤ 10 ∧ (colText c).length ≤ 10 ∧ ((toString c.2 : String) : Str).length ≤ 10 ∧ c.2.natAbs.log2 < 1920 ∧ c.1.length ≤ 10 :=
  colText_len c.1 h c.2 (by rcases tops3 ht with e | e | e <;> rw [e] <;> decide)
theorem piled_le (n : Nat) : ∀ (l : List Str), (∀ y ∈ l, y.length ≤ n) → piled l ≤ (n + 2) * l.length
  | [], _ => Nat.zero_le _
  | y :: l, h => by
    have ih := piled_le n l fun z hz => h z (List.mem_cons_of_mem _ hz)
    have h1 := h y List.mem_cons_self
    rw [piled_cons, List.length_cons, Nat.mul_succ]
    omega
theorem sum_le (n : Nat) : ∀ (l : List Str), (∀ y ∈ l, y.length ≤ n) → (l.map (·.length)).sum ≤ n * l.length
  | [], _ => Nat.zero_le _
  | y :: l, h => by
    have ih := sum_le n l fun z hz => h z (List.mem_cons_of_mem _ hz)
    have h1 := h y List.mem_cons_self
    rw [List.map_cons, List.sum_cons, List.length_cons, Nat.mul_succ]
    omega
theorem join_small {l : List Str} (h : ∀ y ∈ l, y.length ≤ 10) (hl : l.length ≤ 3) : (Txt.join ", " l).length ≤ 40 := by
  rw [TL.join_eq]
  by_cases e : l = []
  · subst e; decide +kernel
  · have := join_length_add l e
    have := piled_le 10 l h
    omega
end Nw
namespace Nw
open PySem L2 PySem.Spec PyProof.Rows RZ
/-- isinstance against the class at C -/
structure IsC (K : PySem.W.Frag) (C : Addr) : Prop where
  non : PySem.W.kitOne K (.type "NoneType") (.ref C) = some false
  bl : PySem.W.kitOne K (.type "bool") (.ref C) = some false
  int : PySem.W.kitOne K (.type "int") (.ref C) = some false
  str : PySem.W.kitOne K (.type "str") (.ref C) = some false
  lst : PySem.W.kitOne K (.type "list") (.ref C) = some false
  tup : PySem.W.kitOne K (.type "tuple") (.ref C) = some false
  ha : PySem.W.findIn K (.ref C) "__class__" = some (some (.builtin "object.__class__"))
  hn : PySem.W.specialIn K (.builtin "object.__class__") "__get__" = some (some (.builtin "getset_descriptor.__get__"))
  htk : PySem.W.takesIn K (.builtin "object.__class__") = some true
  hm : PySem.W.mroIn K C (.type "object") = some true
section
variable {P : Program} {w : World} {K : PySem.W.Frag} {mg : Str → Option Value} {base : Heap}
theorem tAll {f C : Addr} {fd : FuncData} (F : C8.Fun K "all_values" "Table.all_values" s_Table__all_values f fd) (b : Binds K fd P_Table__all_values []) (TC : TabC K mg C) (me : Meth K C "all_values" f) (T : Names K mg) : C8.Met P w K mg base 1 C "all_values" (spAllValues C) [] := by
  refine C8.met0 (N := N_Table__all_values) TC.cl me F b sc_Table__all_values (fun vs H Q E h => ?_) (fun cdv A outer s H vs Q E hr h => ?_)
  · obtain ⟨x, cols, G, rfl, _⟩ := h
    rfl
  · obtain ⟨x, cols, G, rfl, tab, good, sG, k⟩ := h
    have hu := hu_of hr
    refine ⟨_, (pss_cons (ps_set (i := 1) sc_Table__all_values.nd rfl (Or.inl rfl) (pe_lst (pa_cons (pe_tup pa_nil) pa_nil)))
 (pss_cons (ps_for PassesOwn.never rfl (pi_tup (pe_fld (pv 0) rfl)) (pg_name (i := 2) sc_Table__all_values.nd rfl (Or.inr rfl)) (pss_one (ps_setLc2 (i := 1) (own := [("values", 3), ("value", 4)]) (vs1 := [4]) (g := (gName 3)) (g1 := (gName 4)) (tt := tYes) (tt1 := tYes) rfl sc_Table__all_values.nd rfl rfl (sw_true rfl rfl rfl (by decide +kernel)) (pi_list (pv 1)) (blkOk_by (own := [("values", 3), ("value", 4)]) (N := N_Table__all_values) (sc := C8.fnScope s_Table__all_values) (by decide +kernel)) (by decide) (fun _ _ _ _ _ => (pg_name (i := 3) sc_Table__all_values.nd rfl (Or.inl rfl))) (fun _ _ _ _ _ => pts_nil) (fun _ _ _ _ _ => (pi_range1 rfl T.n_range (pa_cons (pe_op op_add (pv 2) pe_int) pa_nil))) (fun _ _ _ _ _ => (pg_name (i := 4) sc_Table__all_values.nd rfl (Or.inl rfl))) (fun _ _ _ _ _ => pts_nil) (fun _ _ _ _ _ => (pe_tup (pa_starK (K := K) rfl (pv 3) (pa_cons (pv 4) pa_nil)))))))
 (pss_one (ps_ret (pv 1))))), ?_⟩
    obtain ⟨dx, cx, tx, t1, t2, t3, t4⟩ := id tab
    have htops : ∀ t ∈ cols.map (·.2), 1 ≤ t ∧ t ≤ 3 := fun t ht => by
      obtain ⟨c, hc, rfl⟩ := List.mem_map.mp ht
      exact good.tops c hc
    have hlen : (cols.map (·.2)).length ≤ 3 := by rw [List.length_map]; exact good.len.2
    refine ⟨Nat.zero_le _, fun t0 ht0 => ⟨(by show 1 ≤ sizeLine; decide), fun fl hfl => ?_⟩⟩
    have X1 := Xt.new (b := none) (o := .tup []) sG ht0
    have X2 := X1.allocT (o := .lst [.ref t0]) hfl
    have hfl0 := X1.fresh hfl
    have nf : t0 ≠ fl := fun q => by subst q; rw [upd_same] at hfl; cases hfl
    have gfl : (upd G t0 (.tup [])) fl = none := X1.sub.free hfl
    refine ⟨_, rfl, x, C, dx, _, _, rfl, X2.sub _ _ (X2.gg _ _ t1), TC.cl, TC.nT, tf_t _ _, tx, rfl, ⟨_, SqT.of (X2.sub _ _ (X2.gg _ _ t4))⟩, for_it (walk_tup (xs := cols.map fun c => .int c.2)) (fun i σ' H' => ∃ (G' : Hp) (v2 : Option V) (fl : Addr) (xs : List V), σ' = [some (.ref x), some (.ref fl), v2, none, none] ∧ Xt none H G H' G' ∧
      H fl = none ∧ H' fl = some (.lst xs) ∧ G' fl = none ∧ DA G' xs (dRows (allV ((cols.map (·.2)).take i)))) ?_ ?_ ?_ ?_⟩
    · exact ⟨_, none, fl, [.ref t0], rfl, X2, hfl0, upd_same, gfl, .one (.ofRow (r := []) upd_same)⟩
    · rintro i σ' H' hi ⟨G', v2, fl, xs, rfl, X, _⟩
      exact SqT.of (X.sub _ _ (X.gg _ _ t4))
    · rintro i y σ' H1 H2 hi ⟨G', v2, fl, xs, rfl, X, f0, f1, f2, da⟩ ⟨rfl, hy⟩
      obtain ⟨c, hc, rfl⟩ : ∃ c, cols[i]? = some c ∧ y = .int c.2 := by
        rw [List.getElem?_map] at hy
        cases e : cols[i]? with
        | none => rw [e] at hy; cases hy
        | some c => rw [e] at hy; exact ⟨c, rfl, (Option.some.inj hy).symm⟩
      have htc := good.tops c (List.mem_of_getElem? hc)
      have hti : (cols.map (·.2))[i]? = some c.2 := by rw [List.getElem?_map, hc]; rfl
      have small := allV_small (i := i) hlen htops
      have small2 := allV_small (i := i + 1) hlen htops
      have rl : ∀ r ∈ allV ((cols.map (·.2)).take i), r.length ≤ 3 := fun r hr => by
        have := allV_row (n := 0) (fun r hr => by simp at hr; subst hr; rfl) r hr
        rw [this, List.length_take]; omega
      refine ⟨_, rfl, fl, rfl, ⟨xs, SqL.of f1⟩, fun Dl hD => ?_⟩
      have hxl : xs.length = (allV ((cols.map (·.2)).take i)).length := by rw [da.length, dRows, List.length_map]
      refine lc2_data (walk_list (xs := xs)) ((allV ((cols.map (·.2)).take i)).map fun row => (List.range (c.2 + 1).toNat).map fun v => dRow (row ++ [((v : Nat) : Int)])) (by rw [List.length_map, hxl]) ?_ hD X.sub (fun H4 G4 X4 => SqL.of (X4.hh _ _ (fun q => by cases q) f1)) ?_ ?_
      · rw [dRows_step, dRows, List.length_map, ← allV_succ hti]; omega
      · rintro j y H3 G3 H4 ds hds X3 ⟨rfl, hy⟩ Qi hQ
        obtain ⟨r, t, hr, rfl, ht⟩ := rows_at da hy
        rw [List.getElem?_map, hr] at hds
        obtain rfl := Option.some.inj hds
        have hrl := rl r (List.mem_of_getElem? hr)
        refine ⟨rfl, _, rfl, _, _, rfl, rfl, c.2 + 1, rfl, by omega, by omega, hQ _ _ _ G3 (fun _ => True) _ (Xt.refl X3.sub) (by rw [List.length_map, List.length_range]; exact walk_range) (fun _ _ _ => trivial) ?_⟩
        rintro m y2 H5 G5 H6 d hd X5 ⟨rfl, rfl⟩ Qy hq
        rw [List.getElem?_map] at hd
        have hm : m < (c.2 + 1).toNat := by
          cases e : (List.range (c.2 + 1).toNat)[m]? with
          | none => rw [e] at hd; cases hd
          | some v => have := getElem?_lt e; rwa [List.length_range] at this
        rw [List.getElem?_range hm] at hd
        obtain rfl := Option.some.inj hd
        have ht5 := X5.gg _ _ (X3.gg _ _ ht)
        refine ⟨rfl, _, rfl, t, _, rfl, .inl (SqT.of (X5.sub _ _ ht5)), _, rfl, small_line (by simp; omega), fun p hp => hq (.ref p) _ _ (Xt.new X5.sub hp) (.ofRow (r := r ++ [((m : Nat) : Int)]) ?_)⟩
        rw [upd_same, List.map_append]
        show some (HO.tup (r.map V.int ++ [V.int (0 + ((m : Nat) : Int))])) = _
        rw [Int.zero_add]
        rfl
      · intro H3 G3 ys X3 h3 g3 da3
        rw [dRows_step, ← allV_succ hti] at da3
        exact ⟨G3, _, Dl, ys, rfl, X.trans X3, X.fresh hD, h3, g3, da3⟩
    · rintro σ' H1 ⟨G', v2, fl, xs, rfl, X, f0, f1, f2, da⟩
      rw [show (cols.map (·.2)).take (cols.map fun c => V.int c.2).length = cols.map (·.2) from List.take_of_length_le (by simp)] at da
      exact ⟨_, rfl, k fl xs H1 G' X f0 f1 f2 da⟩
theorem tLen {f C : Addr} {fd : FuncData} (F : C8.Fun K "__len__" "Table.__len__" s_Table____len__ f fd) (b : Binds K fd P_Table____len__ []) (TC : TabC K mg C) (h1 : PySem.W.findIn K (.ref C) "__len__" = some (some (.ref f))) (h2 : PySem.W.isFn K (.ref f) = true) (T : Names K mg) : Own P w K mg base 1 C "__len__" (spLenT C) := by
  refine ⟨f, fd, _, C8.fn0 (N := N_Table____len__) F sc_Table____len__ (fun vs H Q E h => ?_) (fun cdv A outer s H vs Q E hr h => ?_), h1, h2, b⟩
  · obtain ⟨x, cols, G, rfl, _⟩ := h
    rfl
  · obtain ⟨x, cols, G, rfl, ⟨dx, cx, tx, t1, t2, t3, t4⟩, sG, k⟩ := h
    refine ⟨_, (pss_one (ps_ret (pe_callB call_len_seq (by rfl) T.n_len PySem.boot_len (pa_cons (pe_fld (pv 0) rfl) pa_nil)))), ?_⟩
    refine ⟨_, rfl, x, C, dx, _, _, rfl, sG _ _ t1, TC.cl, TC.nC, tf_c _ _, cx, _, rfl, .inr (SqT.of (sG _ _ t3)), ?_⟩
    rw [List.length_map]
    exact k
theorem tContains {f C : Addr} {fd : FuncData} (F : C8.Fun K "__contains__" "Table.__contains__" s_Table____contains__ f fd) (b : Binds K fd P_Table____contains__ []) (TC : TabC K mg C) (h1 : PySem.W.findIn K (.ref C) "__contains__" = some (some (.ref f))) (h2 : PySem.W.isFn K (.ref f) = true) (T : Names K mg)
    (c_is_integer : C8.Cal P w K mg base 1 "is_integer" spIsInt []) (c_is_tuple_of : C8.Cal P w K mg base 1 "is_tuple_of" spTupOf []) : Own P w K mg base 2 C "__contains__" (spIn C) := by
  refine ⟨f, fd, _, C8.fn0 (N := N_Table____contains__) F sc_Table____contains__ (fun vs H Q E h => ?_) (fun cdv A outer s H vs Q E hr h => ?_), h1, h2, b⟩
  · obtain ⟨x, cols, v, d, G, rfl, _⟩ := h
    rfl
  · obtain ⟨x, cols, v, d, G, rfl, ⟨dx, cx, tx, t1, t2, t3, t4⟩, good, hd, sG, k⟩ := h
    refine ⟨_, (pss_cons (ps_if (pt_not (pt_val (C8.pe_c c_is_tuple_of hr (by decide) rfl (pa_cons (pv 1) (pa_cons (pe_callB call_len_seq (by rfl) T.n_len PySem.boot_len (pa_cons (pe_fld (pv 0) rfl) pa_nil)) pa_nil))))) (pss_one (ps_ret pe_bl)) pss_nil)
 (pss_one (ps_ret (pe_callB (cr_all rfl) (by rfl) T.n_all (by decide +kernel) (pa_cons (pe_lc (own := [("value", 2), ("top", 3)]) (g := (gTup K 2 (gCons (gName 2) (gCons (gName 3) gNil)))) (tt := tYes) rfl sc_Table____contains__.nd (RZ.pi_zipA (by rfl) T.n_zip (pa_cons (pv 1) (pa_cons (pe_fld (pv 0) rfl) pa_nil))) (blkOk_by (own := [("value", 2), ("top", 3)]) (N := N_Table____contains__) (sc := C8.fnScope s_Table____contains__) (by decide +kernel)) (fun _ _ _ _ _ => (pg_tup rfl (pgs_cons (pg_name (i := 2) sc_Table____contains__.nd rfl (Or.inl rfl)) (pgs_cons (pg_name (i := 3) sc_Table____contains__.nd rfl (Or.inl rfl)) pgs_nil)))) (fun _ _ _ _ _ => pts_nil) (fun _ _ _ _ _ => (pe_and (C8.pe_c c_is_integer (by exact hr) (by decide) rfl (pa_cons (pv 2) pa_nil)) (pe_one (pe_chain op_le op_le pe_int (pv 2) (pv 3)))))) pa_nil))))), ?_⟩
    have k0 := k H (Xt.refl sG)
    refine ⟨_, rfl, _, rfl, x, C, dx, _, _, rfl, sG _ _ t1, TC.cl, TC.nT, tf_t _ _, tx, _, rfl, .inr (SqT.of (sG _ _ t4)), v, _, d, G, rfl, hd, sG, _, rfl, ?_⟩
    cases hd with
    | non => exact k0
    | bl q => exact k0
    | int i => exact k0
    | str z => exact k0
    | lst h da => exact k0
    | @tup a xs ds h da =>
      have hl := da.length
      have len_ne : ∀ (ts : List Int) (ds : List PyData), ts.length ≠ ds.length → isIn ts ds = false := by
        intro ts
        induction ts with
        | nil => intro ds hn; cases ds with
          | nil => exact absurd rfl hn
          | cons _ _ => rfl
        | cons t ts ih =>
          intro ds hn
          cases ds with
          | nil => rfl
          | cons d ds =>
            have q := ih ds (fun e => hn (by rw [List.length_cons, List.length_cons, e]))
            cases d <;> simp [isIn, q]
      by_cases c2 : xs.length = cols.length
      · have e2 : tupLen (.tuple ds) (((cols.map fun c => V.int c.2).length : Nat) : Int) = true := decide_eq_true (by rw [List.length_map, ← hl, c2])
        rw [e2]
        refine iteF ?_
        refine ⟨_, rfl, _, rfl, x, C, dx, _, _, rfl, sG _ _ t1, TC.cl, TC.nT, tf_t _ _, a, tx, xs, _, rfl, .inr ⟨SqT.of (sG _ _ h), SqT.of (sG _ _ t4), fun Dl hD => ?_⟩⟩
        have l3 := good.len.2
        refine lc_data (b := none) (R := fun _ _ => True) (G := G) (walk_zipT (n := xs.length) (by rw [List.length_map, c2]; omega)) (List.zipWith (fun t d => .bool (isOne t d)) (cols.map (·.2)) ds) (by rw [List.length_zipWith, List.length_map, ← hl, c2]; omega) (by omega) hD sG (fun q => by cases q) trivial (fun _ _ _ _ => trivial) (fun i H4 G4 X4 _ => ⟨SqT.of (X4.sub _ _ (X4.gg _ _ h)), SqT.of (X4.sub _ _ (X4.gg _ _ t4))⟩) ?_ ?_
        · rintro i y H1 G1 H2 d hd X1 _ ⟨T_, u1, u2, rfl, hT, rfl, e1, e2⟩ Qy hq
          obtain ⟨dv, hdv, du⟩ := da.get e1
          obtain ⟨c, hc, rfl⟩ : ∃ c, cols[i]? = some c ∧ u2 = .int c.2 := by
            have e2' : (cols.map fun c => V.int c.2)[i]? = some u2 := e2
            rw [List.getElem?_map] at e2'
            cases e : cols[i]? with
            | none => rw [e] at e2'; cases e2'
            | some c => rw [e] at e2'; exact ⟨c, rfl, (Option.some.inj e2').symm⟩
          have ed : d = .bool (isOne c.2 dv) := by
            rw [List.getElem?_zipWith, List.getElem?_map, hc, hdv] at hd
            exact (Option.some.inj hd).symm
          subst ed
          have X2 := Xt.tmp (b := none) (o := .tup [u1, .int c.2]) X1.sub hT
          have du1 := du.mono X1.gg
          refine ⟨T_, _, rfl, SqT.of upd_same, rfl, _, _, rfl, _, _, rfl, rfl, rfl, _, rfl, u1, rfl, du1.plain X2.sub, _, rfl, ?_⟩
          cases du1 with
          | int v =>
            refine iteT ⟨_, rfl, _, _, rfl, rfl, _, rfl, ?_⟩
            have q := hq
            by_cases c3 : 0 ≤ v
            · rw [decide_eq_true c3]
              refine iteT ⟨_, rfl, _, _, rfl, rfl, hq _ _ _ X2 trivial ?_⟩
              have e : isOne c.2 (.int v) = decide (v ≤ c.2) := by simp [isOne, c3]
              rw [e]
              exact .bl _
            · rw [decide_eq_false c3]
              refine iteF (hq _ _ _ X2 trivial ?_)
              have e : isOne c.2 (.int v) = false := by simp [isOne, c3]
              rw [e]
              exact .bl _
          | non => exact iteF (hq _ _ _ X2 trivial (.bl false))
          | bl q => exact iteF (hq _ _ _ X2 trivial (.bl false))
          | str q => exact iteF (hq _ _ _ X2 trivial (.bl false))
          | lst _ _ => exact iteF (hq _ _ _ X2 trivial (.bl false))
          | tup _ _ => exact iteF (hq _ _ _ X2 trivial (.bl false))
        · intro H1 G1 ys X1 _ hl1 hg1 da1
          have e := DA.bools (ns := List.zipWith isOne (cols.map (·.2)) ds) (by rw [List.map_zipWith]; exact da1)
          refine ⟨Dl, _, rfl, SqL.of (by rw [hl1, e]), ?_⟩
          rw [isIn_zip _ _ (by rw [List.length_map, ← hl, c2])]
          exact k H1 X1.back
      · have e2 : tupLen (.tuple ds) (((cols.map fun c => V.int c.2).length : Nat) : Int) = false := decide_eq_false (fun q => c2 (by rw [List.length_map] at q; omega))
        rw [e2]
        refine iteT ?_
        have e3 : inTab (cols.map (·.2)) (.tuple ds) = false := len_ne _ _ (by rw [List.length_map, ← hl]; exact fun q => c2 q.symm)
        rw [e3] at k0
        exact k0
theorem kit_own {K : PySem.W.Frag} {C : Addr} : PySem.W.kitOne K (.ref C) (.ref C) = some true := by
  unfold PySem.W.kitOne
  rw [if_pos (by simp)]
theorem tEq {f C : Addr} {fd : FuncData} (F : C8.Fun K "__eq__" "Table.__eq__" s_Table____eq__ f fd) (b : Binds K fd P_Table____eq__ []) (TC : TabC K mg C) (h1 : PySem.W.findIn K (.ref C) "__eq__" = some (some (.ref f))) (h2 : PySem.W.isFn K (.ref f) = true) (T : Names K mg)
    (g_Table : ∃ u, mg "Table" = some u ∧ RelV (.ref C) u) (IC : IsC K C) : Own P w K mg base 1 C "__eq__" (spEq_ C) := by
  refine ⟨f, fd, _, C8.fn0 (N := N_Table____eq__) F sc_Table____eq__ (fun vs H Q E h => ?_) (fun cdv A outer s H vs Q E hr h => ?_), h1, h2, b⟩
  · obtain ⟨x, cols, v, o, G, rfl, _⟩ := h
    rfl
  · obtain ⟨x, cols, v, o, G, rfl, ⟨dx, cx, tx, t1, t2, t3, t4⟩, good, ho, sG, k⟩ := h
    refine ⟨_, (pss_cons (ps_if (pt_not (pt_val (pe_callB call_isi (by rfl) T.n_isinstance (by decide +kernel) (pa_cons (pv 1) (pa_cons (C8.pe_gc rfl g_Table) pa_nil))))) (pss_one (ps_ret pe_bl)) pss_nil)
 (pss_one (ps_ret (pe_and (pe_cmpR (op_eqD hr.units) (pe_fld (pv 0) rfl) (pe_fld (pv 1) rfl) (nomark _)) (pe_one (pe_cmpR (op_eqD hr.units) (pe_fld (pv 0) rfl) (pe_fld (pv 1) rfl) (nomark _))))))), ?_⟩
    cases ho with
    | data hd =>
      cases hd with
      | non => exact ⟨_, rfl, _, _, _, _, false, rfl, .own C, .base .non, IC.non, _, rfl, k⟩
      | bl q => exact ⟨_, rfl, _, _, _, _, false, rfl, .own C, .base (.bl q), IC.bl, _, rfl, k⟩
      | int i => exact ⟨_, rfl, _, _, _, _, false, rfl, .own C, .base (.int i), IC.int, _, rfl, k⟩
      | str z => exact ⟨_, rfl, _, _, _, _, false, rfl, .own C, .base (.str z), IC.str, _, rfl, k⟩
      | lst h da => exact ⟨_, rfl, _, _, _, _, false, rfl, .own C, .base (.lst (sG _ _ h)), IC.lst, _, rfl, k⟩
      | tup h da => exact ⟨_, rfl, _, _, _, _, false, rfl, .own C, .base (.tup (sG _ _ h)), IC.tup, _, rfl, k⟩
    | @tab y cols2 ht good2 =>
      obtain ⟨dy, cy, ty, y1, y2, y3, y4⟩ := ht
      refine ⟨_, rfl, _, _, _, _, true, rfl, .own C, .base (.ins (sG _ _ y1) TC.cl IC.ha IC.hn IC.htk IC.hm), kit_own, _, rfl, iteF ?_⟩
      refine ⟨_, rfl, x, C, dx, _, _, rfl, sG _ _ t1, TC.cl, TC.nC, tf_c _ _, _, rfl, y, C, dy, _, _, rfl, sG _ _ y1, TC.cl, TC.nC, tf_c _ _, ?_⟩
      refine ⟨.tuple ((cols.map (·.1)).map .str), .tuple ((cols2.map (·.1)).map .str), (D.tup t3 (by rw [show (cols.map fun c => V.str c.1) = (cols.map (·.1)).map V.str by rw [List.map_map]; rfl]; exact DA.ofStrs _)).dp sG, (D.tup y3 (by rw [show (cols2.map fun c => V.str c.1) = (cols2.map (·.1)).map V.str by rw [List.map_map]; rfl]; exact DA.ofStrs _)).dp sG, sh_names good.names, sh_names good2.names, ?_⟩
      rw [eqv_strs]
      by_cases e1 : cols.map (·.1) = cols2.map (·.1)
      · rw [decide_eq_true e1]
        refine ⟨_, rfl, iteT ?_⟩
        refine ⟨_, rfl, x, C, dx, _, _, rfl, sG _ _ t1, TC.cl, TC.nT, tf_t _ _, _, rfl, y, C, dy, _, _, rfl, sG _ _ y1, TC.cl, TC.nT, tf_t _ _, ?_⟩
        refine ⟨.tuple ((cols.map (·.2)).map .int), .tuple ((cols2.map (·.2)).map .int), (D.tup t4 (by rw [show (cols.map fun c => V.int c.2) = (cols.map (·.2)).map V.int by rw [List.map_map]; rfl]; exact DA.ofInts _)).dp sG, (D.tup y4 (by rw [show (cols2.map fun c => V.int c.2) = (cols2.map (·.2)).map V.int by rw [List.map_map]; rfl]; exact DA.ofInts _)).dp sG, sh_ints _, sh_ints _, ?_⟩
        rw [eqv_ints]
        have e : decide (cols.map (·.2) = cols2.map (·.2)) = decide (some cols2 = some cols) := by
          by_cases e2 : cols.map (·.2) = cols2.map (·.2)
          · rw [decide_eq_true e2, decide_eq_true (by rw [cols_ext e1 e2])]
          · rw [decide_eq_false e2, decide_eq_false (fun q => e2 (by rw [Option.some.inj q]))]
        rw [e]
        exact k
      · rw [decide_eq_false e1]
        refine ⟨_, rfl, iteF ?_⟩
        rw [decide_eq_false (fun q => e1 (by rw [Option.some.inj q]))] at k
        exact k
theorem tRepr {f C : Addr} {fd : FuncData} (F : C8.Fun K "__repr__" "Table.__repr__" s_Table____repr__ f fd) (b : Binds K fd P_Table____repr__ []) (TC : TabC K mg C) (h1 : PySem.W.findIn K (.ref C) "__repr__" = some (some (.ref f))) (h2 : PySem.W.isFn K (.ref f) = true) (T : Names K mg) : Own P w K mg base 1 C "__repr__" (spRepr C) := by
  refine ⟨f, fd, _, C8.fn0 (N := N_Table____repr__) F sc_Table____repr__ (fun vs H Q E h => ?_) (fun cdv A outer s H vs Q E hr h => ?_), h1, h2, b⟩
  · obtain ⟨x, cols, G, rfl, _⟩ := h
    rfl
  · obtain ⟨x, cols, G, rfl, ⟨dx, cx, tx, t1, t2, t3, t4⟩, good, sG, k⟩ := h
    refine ⟨_, (pss_cons (ps_setLc (i := 1) (own := [("name", 2), ("top", 3)]) (g := (gTup K 2 (gCons (gName 2) (gCons (gName 3) gNil)))) (tt := tYes) rfl sc_Table____repr__.nd rfl rfl (sw_true rfl rfl rfl (by decide +kernel)) (RZ.pi_zipA (by rfl) T.n_zip (pa_cons (pe_fld (pv 0) rfl) (pa_cons (pe_fld (pv 0) rfl) pa_nil))) (blkOk_by (own := [("name", 2), ("top", 3)]) (N := N_Table____repr__) (sc := C8.fnScope s_Table____repr__) (by decide +kernel)) (fun _ _ _ _ _ => (pg_tup rfl (pgs_cons (pg_name (i := 2) sc_Table____repr__.nd rfl (Or.inl rfl)) (pgs_cons (pg_name (i := 3) sc_Table____repr__.nd rfl (Or.inl rfl)) pgs_nil)))) (fun _ _ _ _ _ => pts_nil) (fun _ _ _ _ _ => (pe_joined (PJ.cons (pe_fmt (pv 2)) (PJ.cons pe_str (PJ.cons (pe_fmt (pv 3)) PJ.nil))))))
 (pss_one (ps_ret (pe_joined (PJ.cons pe_str (PJ.cons (pe_fmt (pe_join pe_str (pv 1))) (PJ.cons pe_str PJ.nil))))))), ?_⟩
    have l3 := good.len.2
    refine ⟨_, rfl, x, C, dx, _, _, rfl, sG _ _ t1, TC.cl, TC.nC, tf_c _ _, _, rfl, x, C, dx, _, _, rfl, sG _ _ t1, TC.cl, TC.nT, tf_t _ _, cx, tx, _, _, rfl, .inr ⟨SqT.of (sG _ _ t3), SqT.of (sG _ _ t4), fun Dl hD => ?_⟩⟩
    refine lc_data (te := fun σ H Q => tJs [tFmt (tVar 2), tC (V.str (Str.ofString "=")), tFmt (tVar 3)] Str.empty σ H fun out H1 => Q (V.str out) H1) (b := none) (R := fun _ _ => True) (G := G) (walk_zipT (n := cols.length) (by rw [List.length_map, List.length_map]; omega)) (cols.map fun c => .str (colText c)) (by rw [List.length_map]) (by omega) hD sG (fun q => by cases q) trivial (fun _ _ _ _ => trivial) (fun i H4 G4 X4 _ => ⟨SqT.of (X4.sub _ _ (X4.gg _ _ t3)), SqT.of (X4.sub _ _ (X4.gg _ _ t4))⟩) ?_ ?_
    · rintro i y H1 G1 H2 d hd X1 _ ⟨T_, u1, u2, rfl, hT, rfl, e1, e2⟩ Qy hq
      rw [List.getElem?_map] at hd
      cases e : cols[i]? with
      | none => rw [e] at hd; cases hd
      | some c =>
        rw [e] at hd
        obtain rfl := Option.some.inj hd
        have e1' : (cols.map fun c => V.str c.1)[i]? = some u1 := e1
        have e2' : (cols.map fun c => V.int c.2)[i]? = some u2 := e2
        rw [List.getElem?_map, e] at e1' e2'
        obtain rfl := Option.some.inj e1'
        obtain rfl := Option.some.inj e2'
        have hc := List.mem_of_getElem? e
        obtain ⟨q1, q2, q3, q4, q5, q6⟩ := colText_ok (good.names c hc) (good.tops c hc)
        refine ⟨T_, _, rfl, SqT.of upd_same, rfl, _, _, rfl, _, _, rfl, rfl, rfl, _, rfl, .inl ⟨c.1, rfl, small_line (by omega), c.1, rfl, small_line (by omega), _, rfl, small_line (by omega), _, rfl, .inr ⟨c.2, rfl, q5, _, rfl, small_line (Nat.le_trans q3 (by decide)), ?_⟩⟩⟩
        exact hq _ _ _ (Xt.tmp X1.sub hT) trivial (.str _)
    · intro H1 G1 ys X1 _ hl1 hg1 da1
      have e := DA.strs (ns := cols.map colText) (by rw [List.map_map]; exact da1)
      have hs : ∀ y ∈ cols.map colText, y.length ≤ 10 := fun y hy => by
        obtain ⟨c, hc, rfl⟩ := List.mem_map.mp hy
        exact (colText_ok (good.names c hc) (good.tops c hc)).2.2.1
      have hj := join_small hs (by rw [List.length_map]; exact l3)
      have hsum := sum_le 10 _ hs
      rw [List.length_map] at hsum
      have f1 : (Str.empty ++ ("Table(" : Str)).length = 6 := by decide +kernel
      have f2 : ((")" : String) : Str).length = 1 := by decide +kernel
      have f3 : ((", " : String) : Str).length = 2 := by decide +kernel
      refine ⟨_, rfl, small_line (by omega), ⟨_, rfl⟩, _, rfl, _, Dl, cols.map colText, rfl, rfl, .inl (SqL.of (by rw [hl1, e])), by rw [f3, List.length_map]; omega, .inl ⟨_, rfl, small_line (by omega), _, rfl, small_line (by rw [strLen_append, f1]; omega), _, rfl, small_line (by rw [strLen_append, strLen_append, f1, f2]; omega), ?_⟩⟩
      exact k H1 X1.back
end
end Nw
namespace Nw
open PySem L2 PySem.Spec PyProof.Rows RZ
/-- _law_odd: data none of which are values of the tops -/
def spOdd : Sp := fun vs H Q _ => ∃ (v : V) (tx : Addr) (tops r : List Int) (i : Nat) (G : Hp), vs = [v, .ref tx, .int ((i : Nat) : Int)] ∧ D G v (.tuple (r.map .int)) ∧ G tx = some (.tup (tops.map V.int)) ∧ r.length = tops.length ∧ i < tops.length ∧ tops.length ≤ 3 ∧ (∀ t ∈ tops, t ≤ 3) ∧ Same G H ∧
  ∀ (p : Addr) (xs : List V) (ds : List PyData) (H' G' : Hp), Xt none H G H' G' → G' p = some (.lst xs) → DA G' xs ds → ds.length ≤ 100 → (∀ d ∈ ds, inTab tops d = false) → Q (.ref p) H'
theorem isIn_len : ∀ (ts : List Int) (ds : List PyData), ts.length ≠ ds.length → isIn ts ds = false
  | [], [], hn => absurd rfl hn
  | [], _ :: _, _ => rfl
  | _ :: _, [], _ => rfl
  | t :: ts, d :: ds, hn => by
    have q := isIn_len ts ds (fun e => hn (by rw [List.length_cons, List.length_cons, e]))
    cases d <;> simp [isIn, q]
/-- no value for the top t -/
def bad (t : Int) : PyData → Bool
  | .int v => !(decide (0 ≤ v) && decide (v ≤ t))
  | _ => true
theorem isIn_bad : ∀ {ts : List Int} {ds : List PyData} {i : Nat} {t : Int} {d : PyData}, ts[i]? = some t → ds[i]? = some d → bad t d = true → isIn ts ds = false
  | [], _, i, t, d, h, _, _ => by simp at h
  | _ :: _, [], i, t, d, _, h, _ => by simp at h
  | t :: ts, d :: ds, 0, t', d', h1, h2, hb => by
    simp at h1 h2
    subst h1; subst h2
    cases d with
    | int v =>
      have hb' : (!(decide (0 ≤ v) && decide (v ≤ t))) = true := hb
      show (decide (0 ≤ v) && decide (v ≤ t) && isIn ts ds) = false
      cases hq : (decide (0 ≤ v) && decide (v ≤ t)) with
      | false => rfl
      | true => rw [hq] at hb'; cases hb'
    | _ => rfl
  | t :: ts, d :: ds, i + 1, t', d', h1, h2, hb => by
    have q := isIn_bad (ts := ts) (ds := ds) (i := i) (by simpa using h1) (by simpa using h2) hb
    cases d <;> simp [isIn, q]
theorem cutD_take (ds : List PyData) (i : Nat) : cutD ds none (some ((i : Nat) : Int)) = ds.take i := by
  unfold cutD
  rw [HT.sIx_none, HT.sIx_nat, List.drop_zero, Nat.sub_zero]
  by_cases h : i ≤ ds.length
  · rw [Nat.min_eq_left h]
  · rw [Nat.min_eq_right (by omega), List.take_length, List.take_of_length_le (by omega)]
theorem cutD_drop (ds : List PyData) (i : Nat) : cutD ds (some ((i : Nat) : Int)) none = ds.drop i := by
  unfold cutD
  rw [HT.sIx_none, HT.sIx_nat]
  by_cases h : i ≤ ds.length
  · rw [Nat.min_eq_left h, List.take_of_length_le (by rw [List.length_drop]; omega)]
  · rw [Nat.min_eq_right (by omega), List.drop_of_length_le (Nat.le_refl _), List.drop_of_length_le (by omega), List.take_nil]
theorem cutD_init (ds : List PyData) : (cutD ds none (some (-1))).length = ds.length - 1 := by
  unfold cutD
  rw [HT.sIx_none, List.drop_zero, Nat.sub_zero, List.length_take]
  show min ((-1 : Int) + (ds.length : Int)).toNat ds.length = _
  omega
theorem put_at {ds : List PyData} {d : PyData} {i : Nat} (h : i < ds.length) : (ds.take i ++ [d] ++ ds.drop (i + 1))[i]? = some d := by
  rw [List.append_assoc, List.getElem?_append_right (by rw [List.length_take]; omega), List.length_take, Nat.min_eq_left (by omega), Nat.sub_self]
  rfl
/-! ### other columns -/
def dL (o : List Col) : PyData := .list (dCols o)
def spOthers : Sp := fun vs H Q _ => ∃ (b a : Addr) (c : Int) (cols : List Col) (G : Hp), vs = [.ref b, .ref a] ∧ D G (.ref a) (dL cols) ∧ Good n10 cols ∧ Bag H b c ∧ c ≤ 100000 ∧ G b = none ∧ Same G H ∧
  ∀ (p : Addr) (xs : List V) (oths : List (List Col)) (H' G' : Hp), Xt (some b) H G H' G' → Bag H' b (c + 1) → G' p = some (.lst xs) → DA G' xs (oths.map dL) → oths.length ≤ 100 → (∀ o ∈ oths, Good n11 o ∧ o ≠ cols) → Q (.ref p) H'
theorem nodup_set {α : Type} : ∀ {l : List α} {i : Nat} {x : α}, l.Nodup → x ∉ l → (l.set i x).Nodup
  | [], _, _, _, _ => by simp
  | a :: l, 0, x, h, hx => by
    rw [List.set_cons_zero]
    exact List.nodup_cons.mpr ⟨fun q => hx (List.mem_cons_of_mem _ q), (List.nodup_cons.mp h).2⟩
  | a :: l, i + 1, x, h, hx => by
    rw [List.set_cons_succ]
    have h2 := List.nodup_cons.mp h
    refine List.nodup_cons.mpr ⟨fun q => ?_, nodup_set h2.2 fun q => hx (List.mem_cons_of_mem _ q)⟩
    rcases List.mem_or_eq_of_mem_set q with q | q
    · exact h2.1 q
    · exact hx (q ▸ List.mem_cons_self)
theorem other_n10 : ("other" : Str) ∉ n10 := by decide +kernel
theorem good_names {cols : List Col} (g : Good n10 cols) : ("other" : Str) ∉ cols.map (·.1) := fun h => by
  obtain ⟨c, hc, e⟩ := List.mem_map.mp h
  exact other_n10 (e ▸ g.names c hc)
theorem good11 {cols : List Col} (g : Good n10 cols) : Good n11 cols := ⟨g.len, fun c h => n10_n11 _ (g.names c h), g.tops, g.nd⟩
theorem set_parts {cols : List Col} {i : Nat} {c' : Col} (hi : i < cols.length) : cols.take i ++ [c'] ++ cols.drop (i + 1) = cols.set i c' := by
  rw [List.set_eq_take_append_cons_drop, if_pos hi, List.append_assoc]
  rfl
theorem set_ne {cols : List Col} {i : Nat} {c c' : Col} (h : cols[i]? = some c) (hn : c' ≠ c) : cols.set i c' ≠ cols := fun e => by
  have hi := getElem?_lt h
  have q : (cols.set i c')[i]? = some c' := by rw [List.getElem?_set_self hi]
  rw [e, h] at q
  exact hn (Option.some.inj q).symm
theorem good_set {cols : List Col} {i : Nat} {c c' : Col} (g : Good n10 cols) (h : cols[i]? = some c) (h1 : c' = (("other" : Str), c.2) ∨ c' = (c.1, c.2 % 3 + 1)) : Good n11 (cols.set i c') ∧ cols.set i c' ≠ cols := by
  have hc := List.mem_of_getElem? h
  have ht := g.tops c hc
  have hi := getElem?_lt h
  have hn : c.1 ≠ "other" := fun e => other_n10 (e ▸ g.names c hc)
  refine ⟨⟨by rw [List.length_set]; exact g.len, fun d hd => ?_, fun d hd => ?_, ?_⟩, set_ne h ?_⟩
  · rcases List.mem_or_eq_of_mem_set hd with q | q
    · exact n10_n11 _ (g.names d q)
    · subst q
      rcases h1 with h1 | h1
      · rw [h1]; exact List.mem_cons_self
      · rw [h1]; exact n10_n11 _ (g.names c hc)
  · rcases List.mem_or_eq_of_mem_set hd with q | q
    · exact g.tops d q
    · subst q
      rcases h1 with h1 | h1
      · rw [h1]; exact ht
      · rw [h1]; show 1 ≤ c.2 % 3 + 1 ∧ c.2 % 3 + 1 ≤ 3; omega
  · rw [List.map_set]
    rcases h1 with h1 | h1
    · rw [h1]; exact nodup_set g.nd (good_names g)
    · rw [h1]
      have e : (cols.map (·.1)).set i c.1 = cols.map (·.1) := by
        have q : cols.set i c = cols := by
          refine List.ext_getElem? fun j => ?_
          by_cases hj : i = j
          · subst hj; rw [List.getElem?_set_self hi, h]
          · rw [List.getElem?_set_ne hj]
        rw [← List.map_set, q]
      rw [e]; exact g.nd
  · rcases h1 with h1 | h1
    · rw [h1]; exact fun e => hn (by rw [← e])
    · rw [h1]; exact fun e => by
        have q : c.2 % 3 + 1 = c.2 := congrArg (·.2) e
        omega
theorem good_more {cols : List Col} (g : Good n10 cols) (hl : cols.length < 3) : Good n11 (cols ++ [(("other" : Str), (1 : Int))]) ∧ cols ++ [(("other" : Str), (1 : Int))] ≠ cols := by
  refine ⟨⟨by rw [List.length_append, List.length_singleton]; omega, fun d hd => ?_, fun d hd => ?_, ?_⟩, fun e => ?_⟩
  · rcases List.mem_append.mp hd with q | q
    · exact n10_n11 _ (g.names d q)
    · rw [List.mem_singleton] at q; subst q; exact List.mem_cons_self
  · rcases List.mem_append.mp hd with q | q
    · exact g.tops d q
    · rw [List.mem_singleton] at q; subst q; exact ⟨by decide, by decide⟩
  · rw [List.map_append]
    refine List.nodup_append.mpr ⟨g.nd, by simp, fun x hx y hy => ?_⟩
    simp at hy
    subst hy
    exact fun e => good_names g (e ▸ hx)
  · have := congrArg List.length e
    simp at this
theorem good_rev {cols : List Col} (g : Good n10 cols) (hl : 1 < cols.length) : Good n11 cols.reverse ∧ cols.reverse ≠ cols := by
  refine ⟨⟨by rw [List.length_reverse]; exact g.len, fun d hd => n10_n11 _ (g.names d (List.mem_reverse.mp hd)), fun d hd => g.tops d (List.mem_reverse.mp hd), ?_⟩, fun e => ?_⟩
  · rw [List.map_reverse]
    exact (List.reverse_perm _).nodup_iff.mpr g.nd
  · have l3 := g.len.2
    have nd := g.nd
    match cols, hl, l3 with
    | [a, b], _, _ =>
      simp at e
      rw [e.1] at nd
      simp at nd
    | [a, b, c], _, _ =>
      simp at e
      rw [e.1] at nd
      simp at nd
    | a :: b :: c :: d :: r, _, l3 => simp at l3
theorem good_tail {cols : List Col} (g : Good n10 cols) (hl : 1 < cols.length) : Good n11 (cols.drop 1) ∧ cols.drop 1 ≠ cols := by
  refine ⟨⟨by rw [List.length_drop]; have := g.len; omega, fun d hd => n10_n11 _ (g.names d (List.mem_of_mem_drop hd)), fun d hd => g.tops d (List.mem_of_mem_drop hd), ?_⟩, fun e => ?_⟩
  · rw [List.map_drop]
    exact g.nd.sublist (List.drop_sublist _ _)
  · have := congrArg List.length e
    rw [List.length_drop] at this
    omega
theorem cxD {G : Hp} {cx : Addr} {cols : List Col} (h : G cx = some (.tup (cols.map fun c => .str c.1))) : D G (.ref cx) (.tuple ((cols.map (·.1)).map .str)) :=
  .tup h (by rw [show (cols.map fun c => V.str c.1) = (cols.map (·.1)).map V.str by rw [List.map_map]; rfl]; exact DA.ofStrs _)
theorem txD {G : Hp} {tx : Addr} {cols : List Col} (h : G tx = some (.tup (cols.map fun c => .int c.2))) : D G (.ref tx) (.tuple ((cols.map (·.2)).map .int)) :=
  .tup h (by rw [show (cols.map fun c => V.int c.2) = (cols.map (·.2)).map V.int by rw [List.map_map]; rfl]; exact DA.ofInts _)
/-- [name for name, top in columns] and the like: what the walk over a stable list of columns gives -/
theorem lc_cols {K : PySem.W.Frag} {te : TE} {vs : List Nat} {σ : L2.St} {H G : Hp} {Dl a : Addr} {Qd : Hp → Prop} {g : TG} {cs : List V} {cols : List Col} (f : Col → PyData) (ha : G a = some (.lst cs)) (da : DA G cs (dCols cols)) (hl3 : cols.length ≤ 3) (hD : H Dl = none) (s : Same G H)
    (hs : ∀ (c : Col) (t : Addr) (H1 G1 : Hp), c ∈ cols → Xt none H G H1 G1 → G1 t = some (.tup [.str c.1, .int c.2]) → ∀ Qy : VK, (∀ y H4 G4, Xt none H1 G1 H4 G4 → D G4 y (f c) → Qy y H4) → g (.ref t) (wipe σ vs) H1 fun σ2 H3 => wipe σ2 vs = wipe σ vs ∧ te σ2 H3 Qy)
    (hd : ∀ H1 G1 xs, Xt none H G H1 G1 → H1 Dl = some (.lst xs) → G1 Dl = none → DA G1 xs (cols.map f) → Qd H1) :
    ∃ W : Nat → Nat → Hp → Prop, (∃ m, W 0 m (upd H Dl (.lst []))) ∧ ∀ i m H, W i m H →
      ((Itl K a).stop i H ∧ Qd H) ∨ ((Itl K a).go i H ∧ ∃ Nx : Hp → Prop, (∀ H', Nx H' → ∃ m', m' < m ∧ W (i + 1) m' H') ∧ ∀ x H', (Itl K a).yld i H x H' → g x (wipe σ vs) H' fun σ2 H2 => wipe σ2 vs = wipe σ vs ∧ tYes σ2 H2 fun b H3 =>
        if b = true then te σ2 H3 fun y H4 => ∃ acc, H4 Dl = some (.lst acc) ∧ acc.length < sizeLine ∧ Nx (upd H4 Dl (.lst (acc ++ [y]))) else Nx H3) := by
  have hcl : cs.length = cols.length := by rw [da.length, dCols, List.length_map]
  refine lc_data (b := none) (R := fun _ _ => True) (G := G) (te := te) (walk_list (xs := cs)) (cols.map f) (by rw [List.length_map, hcl]) (by omega) hD s (fun q => by cases q) trivial (fun _ _ _ _ => trivial) (fun i H4 G4 X4 _ => SqL.of (X4.sub _ _ (X4.gg _ _ ha))) ?_ (fun H1 G1 xs X _ => hd H1 G1 xs X)
  rintro i y H1 G1 H2 d hd X1 _ ⟨rfl, hy⟩ Qy hq
  obtain ⟨c, t, hc, rfl, ht⟩ := cols_at (da.mono X1.gg) hy
  rw [List.getElem?_map, hc] at hd
  obtain rfl := Option.some.inj hd
  exact hs c t _ G1 (List.mem_of_getElem? hc) X1 ht Qy fun y H4 G4 X4 d4 => hq y H4 G4 X4 trivial d4
theorem isIn_snoc : ∀ {ts : List Int} {ds : List PyData} {t v : Int}, isIn ts ds = true → 0 ≤ v → v ≤ t → isIn (ts ++ [t]) (ds ++ [.int v]) = true
  | [], [], t, v, _, h0, h1 => by
    show (decide (0 ≤ v) && decide (v ≤ t) && isIn [] []) = true
    rw [decide_eq_true h0, decide_eq_true h1]; rfl
  | [], _ :: _, _, _, h, _, _ => by cases h
  | _ :: _, [], _, _, h, _, _ => by cases h
  | a :: ts, d :: ds, t, v, h, h0, h1 => by
    cases d with
    | int w =>
      have h' : (decide (0 ≤ w) && decide (w ≤ a) && isIn ts ds) = true := h
      rw [Bool.and_eq_true] at h'
      show (decide (0 ≤ w) && decide (w ≤ a) && isIn (ts ++ [t]) (ds ++ [.int v])) = true
      rw [h'.1, isIn_snoc h'.2 h0 h1]; rfl
    | _ => cases h
theorem allV_in_ : ∀ {tops t0 : List Int} {found : List (List Int)}, (∀ r ∈ found, isIn t0 (r.map .int) = true) → ∀ r ∈ tops.foldl stepV found, isIn (t0 ++ tops) (r.map .int) = true
  | [], t0, found, h, r, hr => by rw [List.append_nil]; exact h r hr
  | t :: ts, t0, found, h, r, hr => by
    have := allV_in_ (tops := ts) (t0 := t0 ++ [t]) (found := stepV found t) (fun r hr => by
      obtain ⟨q, v, hq, rfl, h0, h1⟩ := stepV_mem hr
      rw [List.map_append]
      exact isIn_snoc (h q hq) h0 h1) r hr
    rw [List.append_assoc] at this
    exact this
theorem allV_in {tops : List Int} {r : List Int} (h : r ∈ allV tops) : inTab tops (dRow r) = true := by
  have := allV_in_ (tops := tops) (t0 := []) (found := [[]]) (fun r hr => by simp at hr; subst hr; rfl) r h
  exact this
theorem n11_empty : ∀ n ∈ n11, Str.empty ++ n = n := by decide +kernel
theorem tab_empty : Str.empty ++ ("Table(" : Str) = "Table(" := by decide +kernel
theorem law_text {cols : List Col} (h : ∀ c ∈ cols, c.1 ∈ n11) : tabText cols = ("Table(" : Str) ++ Txt.join ", " (cols.map fun c => c.1 ++ "=" ++ ((toString c.2 : String) : Str)) ++ ")" := by
  have e : cols.map colText = cols.map fun c => c.1 ++ "=" ++ ((toString c.2 : String) : Str) :=
    List.map_congr_left fun c hc => by
      show Str.empty ++ c.1 ++ "=" ++ _ = _
      rw [n11_empty c.1 (h c hc)]
  unfold tabText
  rw [tab_empty, e]
theorem allV_pos {tops : List Int} (h : ∀ t ∈ tops, 1 ≤ t) : allV tops ≠ [] := by
  have key : ∀ (ts : List Int) (found : List (List Int)), (∀ t ∈ ts, 1 ≤ t) → found ≠ [] → ts.foldl stepV found ≠ [] := by
    intro ts
    induction ts with
    | nil => intro found _ hf; exact hf
    | cons t ts ih =>
      intro found ht hf
      refine ih _ (fun x hx => ht x (List.mem_cons_of_mem _ hx)) ?_
      have h1 := ht t List.mem_cons_self
      cases found with
      | nil => exact absurd rfl hf
      | cons r rs =>
        intro e
        have := congrArg List.length e
        unfold stepV at this
        rw [List.map_cons, List.flatten_cons, List.length_append, List.length_map, List.length_range] at this
        simp at this
        omega
  exact key tops [[]] h (by simp)
end Nw
namespace Nw
open PySem L2 PySem.Spec PyProof.Rows RZ
section
variable {P : Program} {w : World} {K : PySem.W.Frag} {mg : Str → Option Value} {base : Heap}
theorem lValues {f : Addr} {fd : FuncData} (F : C8.Def K mg "_law_values" s__law_values f fd) (b : Binds K fd P__law_values []) (T : Names K mg) : C8.Cal P w K mg base 1 "_law_values" spValues [] := by
  refine C8.cal0 (N := N__law_values) F b .nil sc__law_values (fun vs H Q E h => ?_) (fun cdv A outer s H vs Q E hr h => ?_)
  · obtain ⟨a, xs, cols, G, rfl, _⟩ := h
    rfl
  · obtain ⟨a, xs0, cols, G, rfl, ha, da0, good, sG, k⟩ := h
    have hu := hu_of hr
    refine ⟨_, (pss_cons (ps_set (i := 1) sc__law_values.nd rfl (Or.inl rfl) (pe_lst (pa_cons (pe_tup pa_nil) pa_nil)))
 (pss_cons (ps_for PassesOwn.never rfl (pi_list (pv 0)) (pg_tup rfl (pgs_cons (pg_name (i := 2) sc__law_values.nd rfl (Or.inl rfl)) (pgs_cons (pg_name (i := 3) sc__law_values.nd rfl (Or.inl rfl)) pgs_nil))) (pss_cons (ps_set (i := 4) sc__law_values.nd rfl (Or.inl rfl) (pe_lst pa_nil))
 (pss_cons (ps_for PassesOwn.never rfl (pi_list (pv 1)) (pg_name (i := 5) sc__law_values.nd rfl (Or.inr rfl)) (pss_one (ps_set (i := 4) sc__law_values.nd rfl (Or.inl rfl) (pe_op op_cat (pv 4) (pe_lc (own := [("_law_value", 6)]) (g := (gName 6)) (tt := tYes) rfl sc__law_values.nd (pi_range1 rfl T.n_range (pa_cons (pe_op op_add (pv 3) pe_int) pa_nil)) (blkOk_by (own := [("_law_value", 6)]) (N := N__law_values) (sc := C8.fnScope s__law_values) (by decide +kernel)) (fun _ _ _ _ _ => (pg_name (i := 6) sc__law_values.nd rfl (Or.inl rfl))) (fun _ _ _ _ _ => pts_nil) (fun _ _ _ _ _ => (pe_op (op_catAK (K := K) rfl) (pv 5) (pe_tup (pa_cons (pv 6) pa_nil)))))))))
 (pss_one (ps_set (i := 1) sc__law_values.nd rfl (Or.inl rfl) (pv 4))))))
 (pss_one (ps_ret (pv 1))))), ?_⟩
    have htops : ∀ t ∈ cols.map (·.2), 1 ≤ t ∧ t ≤ 3 := fun t ht => by
      obtain ⟨c, hc, rfl⟩ := List.mem_map.mp ht
      exact good.tops c hc
    have hlen : (cols.map (·.2)).length ≤ 3 := by rw [List.length_map]; exact good.len.2
    have hxl0 : xs0.length = cols.length := by rw [da0.length, dCols, List.length_map]
    refine ⟨Nat.zero_le _, fun t0 ht0 => ⟨(by show 1 ≤ sizeLine; decide), fun fl hfl => ?_⟩⟩
    have X1 := Xt.new (b := none) (o := .tup []) sG ht0
    have X2 := X1.allocT (o := .lst [.ref t0]) hfl
    have hfl0 := X1.fresh hfl
    have gfl : (upd G t0 (.tup [])) fl = none := X1.sub.free hfl
    refine ⟨_, rfl, a, rfl, ⟨_, SqL.of (X2.sub _ _ (X2.gg _ _ ha))⟩, for_it (walk_list (xs := xs0)) (fun i σ' H' => ∃ (G' : Hp) (v2 v3 v4 v5 : Option V) (fl : Addr) (xs : List V), σ' = [some (.ref a), some (.ref fl), v2, v3, v4, v5, none] ∧ Xt none H G H' G' ∧
      H fl = none ∧ H' fl = some (.lst xs) ∧ G' fl = none ∧ DA G' xs (dRows (allV ((cols.map (·.2)).take i)))) ?_ ?_ ?_ ?_⟩
    · exact ⟨_, none, none, none, none, fl, [.ref t0], rfl, X2, hfl0, upd_same, gfl, .one (.ofRow (r := []) upd_same)⟩
    · rintro i σ' H' hi ⟨G', v2, v3, v4, v5, fl, xs, rfl, X, _⟩
      exact SqL.of (X.sub _ _ (X.gg _ _ ha))
    · rintro i y σ' H1 H2 hi ⟨G', v2, v3, v4, v5, fl, xs, rfl, X, f0, f1, f2, da⟩ ⟨rfl, hy⟩
      obtain ⟨c, t, hc, rfl, ht⟩ := cols_at (da0.mono X.gg) hy
      have htc := good.tops c (List.mem_of_getElem? hc)
      have hti : (cols.map (·.2))[i]? = some c.2 := by rw [List.getElem?_map, hc]; rfl
      have small := allV_small (i := i) hlen htops
      have small2 := allV_small (i := i + 1) hlen htops
      have rl : ∀ r ∈ allV ((cols.map (·.2)).take i), r.length ≤ 3 := fun r hr => by
        have := allV_row (n := 0) (fun r hr => by simp at hr; subst hr; rfl) r hr
        rw [this, List.length_take]; omega
      refine ⟨t, _, rfl, SqT.of (X.sub _ _ ht), rfl, _, _, rfl, _, _, rfl, rfl, ?_⟩
      refine ⟨Nat.zero_le _, fun ll hll => ?_⟩
      have X3 := X.allocT (o := .lst []) hll
      have ll0 := X.fresh hll
      have nfl : fl ≠ ll := fun q => by subst q; rw [f1] at hll; cases hll
      have hxl : xs.length = (allV ((cols.map (·.2)).take i)).length := by rw [da.length, dRows, List.length_map]
      refine ⟨_, rfl, fl, rfl, ⟨xs, SqL.of (by rw [upd_ne nfl]; exact f1)⟩, for_it (walk_list (xs := xs)) (fun j σ' H' => ∃ (G2 : Hp) (v5 : Option V) (ll : Addr) (ys : List V), σ' = [some (.ref a), some (.ref fl), some (.str c.1), some (.int c.2), some (.ref ll), v5, none] ∧ Xt none H G H' G2 ∧ Same G' G2 ∧ H' fl = some (.lst xs) ∧
        H ll = none ∧ H' ll = some (.lst ys) ∧ G2 ll = none ∧ DA G2 ys (((allV ((cols.map (·.2)).take i)).take j).map fun row => (List.range (c.2 + 1).toNat).map fun v => dRow (row ++ [((v : Nat) : Int)])).flatten) ?_ ?_ ?_ ?_⟩
      · exact ⟨G', _, ll, [], rfl, X3, Same.refl _, by rw [upd_ne nfl]; exact f1, ll0, upd_same, X.sub.free hll, .nil⟩
      · rintro j σ' H' hj ⟨G2, v5, ll, ys, rfl, X4, s4, q1, _⟩
        exact SqL.of q1
      · rintro j y σ' H3 H4 hj ⟨G2, v5, ll, ys, rfl, X4, s4, q1, q2, q3, q4, da2⟩ ⟨rfl, hy⟩
        obtain ⟨r, t2, hr2, rfl, ht2⟩ := rows_at (da.mono s4) hy
        have hrl := rl r (List.mem_of_getElem? hr2)
        have nb : ∀ p : Addr, (none : Option Addr) ≠ some p := fun p q => by cases q
        refine ⟨_, rfl, _, rfl, _, _, rfl, rfl, c.2 + 1, rfl, by omega, by omega, fun Dl hD => ?_⟩
        refine lc_data (b := none) (R := fun _ _ => True) (G := G2) (walk_range (lo := 0) (n := (c.2 + 1).toNat)) ((List.range (c.2 + 1).toNat).map fun v => dRow (r ++ [((v : Nat) : Int)])) (by rw [List.length_map, List.length_range]) (by omega) hD X4.sub (fun q => by cases q) trivial (fun _ _ _ _ => trivial) (fun _ _ _ _ _ => trivial) ?_ ?_
        · rintro m y2 H5 G5 H6 d hd X5 _ ⟨rfl, rfl⟩ Qy hq
          rw [List.getElem?_map] at hd
          have hm : m < (c.2 + 1).toNat := by
            cases e : (List.range (c.2 + 1).toNat)[m]? with
            | none => rw [e] at hd; cases hd
            | some v => have := getElem?_lt e; rwa [List.length_range] at this
          rw [List.getElem?_range hm] at hd
          obtain rfl := Option.some.inj hd
          have hr5 : D G5 (.ref t2) (dRow r) := .ofRow (X5.gg _ _ ht2)
          refine ⟨rfl, _, rfl, _, rfl, (by show 1 ≤ sizeLine; decide), fun p hp => ?_⟩
          have X6 := Xt.new (b := none) (o := .tup [.int (0 + ((m : Nat) : Int))]) X5.sub hp
          refine cat_data (hr5.mono X6.gg) (D.newT (ds := [.int (0 + ((m : Nat) : Int))]) (.one (.int _)) X5.sub hp) X6.sub (by rw [List.length_map, List.length_singleton]; omega) fun q H7 G7 X7 dq => ?_
          refine hq q H7 G7 (X6.trans X7) trivial ?_
          have e : dRow (r ++ [((m : Nat) : Int)]) = .tuple (r.map .int ++ [.int (0 + ((m : Nat) : Int))]) := by
            rw [Int.zero_add]; show PyData.tuple ((r ++ [((m : Nat) : Int)]).map .int) = _; rw [List.map_append]; rfl
          show D G7 q (dRow (r ++ [((m : Nat) : Int)]))
          rw [e]
          exact dq
        · intro H5 G5 zs X5 _ hz1 hz2 da5
          have hll5 := X5.hh ll _ (nb _) q3
          have g5 := X5.non (ne_none_of q3) q4
          have hfl5 := X5.hh fl _ (nb _) q1
          have ly := da2.length
          have lz := da5.length
          have lj := flat_take_le (fun row => (List.range (c.2 + 1).toNat).map fun v => dRow (row ++ [((v : Nat) : Int)])) (allV ((cols.map (·.2)).take i)) j
          rw [dRows_step (allV ((cols.map (·.2)).take i)), ← allV_succ hti, dRows, List.length_map] at lj
          rw [List.length_map, List.length_range] at lz
          refine ⟨ll, Dl, ys, zs, rfl, rfl, hll5, hz1, small_line (by omega), fun p hp => ?_⟩
          have X6 := (X4.trans X5).allocT (o := .lst (ys ++ zs)) hp
          have np : fl ≠ p := fun q => by subst q; rw [hfl5] at hp; cases hp
          refine ⟨G5, _, p, ys ++ zs, rfl, X6, fun a o h => X5.gg a o (s4 a o h), by rw [upd_ne np]; exact hfl5, (X4.trans X5).fresh hp, upd_same, (X4.trans X5).sub.free hp, ?_⟩
          rw [take_succ_of hr2, List.map_append, List.flatten_append]
          refine (da2.mono X5.gg).append ?_
          rw [List.map_cons, List.map_nil, List.flatten_cons, List.flatten_nil, List.append_nil]
          exact da5
      · rintro σ' H3 ⟨G2, v5, ll, ys, rfl, X4, s4, q1, q2, q3, q4, da2⟩
        rw [List.take_of_length_le (by omega), dRows_step, ← allV_succ hti] at da2
        exact ⟨_, rfl, G2, _, _, _, _, ll, ys, rfl, X4, q2, q3, q4, da2⟩
    · rintro σ' H1 ⟨G', v2, v3, v4, v5, fl, xs, rfl, X, f0, f1, f2, da⟩
      rw [List.take_of_length_le (by rw [List.length_map]; omega)] at da
      exact ⟨_, rfl, k fl xs H1 G' X f0 f1 f2 da⟩
theorem lOdd {f : Addr} {fd : FuncData} (F : C8.Def K mg "_law_odd" s__law_odd f fd) (b : Binds K fd P__law_odd []) (T : Names K mg) : C8.Cal P w K mg base 1 "_law_odd" spOdd [] := by
  refine C8.cal0 (N := N__law_odd) F b .nil sc__law_odd (fun vs H Q E h => ?_) (fun cdv A outer s H vs Q E hr h => ?_)
  · obtain ⟨v, tx, tops, r, i, G, rfl, _⟩ := h
    rfl
  · obtain ⟨v, tx, tops, r, i, G, rfl, hv, htx, hr0, hi, hl3, ht3, sG, k⟩ := h
    have hu := hu_of hr
    refine ⟨_, (pss_cons (ps_set (i := 3) sc__law_odd.nd rfl (Or.inl rfl) (pe_lst (pa_cons (pe_callTy call_list_of (by rfl) T.n_list (by decide +kernel) (pa_cons (pv 0) pa_nil)) (pa_cons (pe_op (op_catAK (K := K) rfl) (pv 0) (pe_tup (pa_cons pe_int pa_nil))) (pa_cons (pe_slice (sl_tupAK (K := K) rfl) (pv 0) po_none (po_some (pe_un un_neg pe_int))) (pa_cons pe_non (pa_cons pe_str (pa_cons (pe_ix ix_tup (pv 0) pe_int (fun _ _ => rfl)) (pa_cons (pe_lst pa_nil) (pa_cons (pe_tup pa_nil) pa_nil))))))))))
 (pss_cons (ps_for PassesOwn.never rfl (pi_tup (pe_tup (pa_cons (pe_un un_neg pe_int) (pa_cons (pe_op op_add (pe_ix ix_tup (pv 1) (pv 2) (fun _ _ => rfl)) pe_int) (pa_cons pe_non (pa_cons pe_bl (pa_cons pe_bl (pa_cons pe_str (pa_cons (pe_tup (pa_cons pe_int pa_nil)) (pa_cons (pe_op op_pow pe_int pe_int) pa_nil)))))))))) (pg_name (i := 4) sc__law_odd.nd rfl (Or.inl rfl)) (pss_one (ps_expr (pe_bm PySem.F.plainAttrs_list PySem.F.slot_list_append PySem.F.type_list_append mt_append (pv 3) (pa_cons (pe_op (op_catAK (K := K) rfl) (pe_op (op_catAK (K := K) rfl) (pe_slice (sl_tupAK (K := K) rfl) (pv 0) po_none (po_some (pv 2))) (pe_tup (pa_cons (pv 4) pa_nil))) (pe_slice (sl_tupAK (K := K) rfl) (pv 0) (po_some (pe_op op_add (pv 2) pe_int)) po_none)) pa_nil)))))
 (pss_one (ps_ret (pv 3))))), ?_⟩
    obtain ⟨a, ws, rfl, ha, dw⟩ := id hv.tup_inv
    have ew := dw.ints
    subst ew
    -- list(values)
    refine ⟨_, rfl, a, _, rfl, .inr (SqT.of (sG _ _ ha)), fun l1 hl1 => ?_⟩
    have X1 := Xt.new (b := none) (o := .lst (r.map V.int)) sG hl1
    have d1 : D (upd G l1 (.lst (r.map V.int))) (.ref l1) (.list (r.map .int)) := D.newL (DA.ofInts r) sG hl1
    -- values + (0,)
    refine ⟨_, rfl, (by show 1 ≤ sizeLine; decide), fun p hp => ?_⟩
    have X2 := X1.alloc (o := .tup [.int 0]) hp
    refine cat_data (hv.mono X2.gg) (D.newT (ds := [.int 0]) (.one (.int _)) X1.sub hp) X2.sub (by rw [List.length_map, List.length_singleton]; omega) fun q3 H3 G3 X3 d3 => ?_
    have Y3 := X2.trans X3
    -- values[:-1]
    refine ⟨_, rfl, _, rfl, _, rfl, ?_⟩
    refine slT_data (hv.mono Y3.gg) X3.sub fun q4 H4 G4 X4 d4 => ?_
    have Y4 := Y3.trans X4
    have hrl : 0 < r.length := by omega
    obtain ⟨r0, hr1⟩ : ∃ r0, r[0]? = some r0 := ⟨r[0], List.getElem?_eq_getElem hrl⟩
    obtain ⟨t, htt⟩ : ∃ t, tops[i]? = some t := ⟨tops[i], List.getElem?_eq_getElem hi⟩
    have htm : t ≤ 3 := ht3 t (List.mem_of_getElem? htt)
    refine ⟨_, rfl, a, _, _, .int r0, rfl, rfl, SqT.of (Y4.sub _ _ (Y4.gg _ _ ha)), ?_, ?_⟩
    · exact atI_nat (j := 0) (by rw [List.getElem?_map, hr1]; rfl)
    refine ⟨Nat.zero_le _, fun l5 hl5 => ⟨Nat.zero_le _, fun t6 ht6 => ⟨(by show 8 ≤ sizeLine; decide), fun fl hfl => ?_⟩⟩⟩
    have Y5 := Y4.alloc (o := .lst []) hl5
    have d5 : D _ (.ref l5) (.list []) := D.newL (xs := []) .nil Y4.sub hl5
    have Y6 := Y5.alloc (o := .tup []) ht6
    have d6 : D _ (.ref t6) (.tuple []) := D.newT (xs := []) .nil Y5.sub ht6
    have Y7 := Y6.allocT (o := .lst [.ref l1, q3, q4, .non, .str "a", .int r0, .ref l5, .ref t6]) hfl
    have s56 := upd_same_ (o := HO.tup []) (Y5.sub.free ht6)
    have s45 := upd_same_ (o := HO.lst []) (Y4.sub.free hl5)
    have s46 : Same G4 _ := fun a o h => s56 a o (s45 a o h)
    have da0 : DA (upd (upd G4 l5 (.lst [])) t6 (.tup [])) [.ref l1, q3, q4, .non, .str "a", .int r0, .ref l5, .ref t6] [.list (r.map .int), .tuple (r.map .int ++ [.int 0]), .tuple (cutD (r.map .int) none (some (-1))), .none, .str "a", .int r0, .list [], .tuple []] :=
      .cons ((((d1.mono (upd_same_ (X1.sub.free hp))).mono X3.gg).mono X4.gg).mono s46) (.cons ((d3.mono X4.gg).mono s46) (.cons (d4.mono s46) (.cons .non (.cons (.str _) (.cons (.int _) (.cons (d5.mono s56) (.cons d6 .nil)))))))
    have fl0 := Y6.fresh hfl
    have gfl := Y6.sub.free hfl
    refine ⟨_, rfl, _, rfl, _, rfl, tx, _, _, .int t, rfl, rfl, SqT.of (Y7.sub _ _ (Y7.gg _ _ htx)), atI_nat (by rw [List.getElem?_map, htt]; rfl), _, _, rfl, rfl, (by show 1 ≤ sizeLine; decide), fun t7 ht7 => ?_⟩
    have Y8 := Y7.alloc (o := .tup [.int 0]) ht7
    have d7 : D _ (.ref t7) (.tuple [.int 0]) := D.newT (xs := [.int 0]) (.one (.int _)) Y7.sub ht7
    refine ⟨_, _, rfl, rfl, ⟨by decide, by decide, by decide⟩, (by show 8 ≤ sizeLine; decide), fun tt httt => ?_⟩
    have Y9 := Y8.alloc (o := .tup [.int (-1), .int (t + 1), .non, .bl true, .bl false, .str "1", .ref t7, .int (10 ^ 20)]) httt
    have s79 := fun a o (h : (upd (upd G4 l5 (.lst [])) t6 (.tup [])) a = some o) => (upd_same_ (o := HO.tup [.int (-1), .int (t + 1), .non, .bl true, .bl false, .str "1", .ref t7, .int (10 ^ 20)]) (Y8.sub.free httt)) a o ((upd_same_ (o := HO.tup [.int 0]) (Y7.sub.free ht7)) a o h)
    have dth : DA _ [V.int (-1), .int (t + 1), .non, .bl true, .bl false, .str "1", .ref t7, .int (10 ^ 20)] [.int (-1), .int (t + 1), .none, .bool true, .bool false, .str "1", .tuple [.int 0], .int (10 ^ 20)] :=
      .cons (.int _) (.cons (.int _) (.cons .non (.cons (.bl _) (.cons (.bl _) (.cons (.str _) (.cons d7 (.cons (.int _) .nil)))))))
    have dth' := dth.mono (upd_same_ (o := HO.tup [.int (-1), .int (t + 1), .non, .bl true, .bl false, .str "1", .ref t7, .int (10 ^ 20)]) (Y8.sub.free httt))
    have nft : fl ≠ t7 := fun q => by subst q; rw [upd_same] at ht7; cases ht7
    have nftt : fl ≠ tt := fun q => by subst q; rw [upd_ne nft, upd_same] at httt; cases httt
    have allbad : ∀ d ∈ ([.int (-1), .int (t + 1), .none, .bool true, .bool false, .str "1", .tuple [.int 0], .int (10 ^ 20)] : List PyData), bad t d = true := by
      intro d hd
      simp only [List.mem_cons, List.mem_nil_iff, or_false] at hd
      rcases hd with rfl | rfl | rfl | rfl | rfl | rfl | rfl | rfl <;> first | rfl | (simp [bad]; done) | (simp [bad]; omega)
    generalize hG9 : upd (upd (upd (upd G4 l5 (HO.lst [])) t6 (HO.tup [])) t7 (HO.tup [V.int 0])) tt (.tup [.int (-1), .int (t + 1), .non, .bl true, .bl false, .str "1", .ref t7, .int (10 ^ 20)]) = G9 at *
    have htt9 : G9 tt = some (.tup [.int (-1), .int (t + 1), .non, .bl true, .bl false, .str "1", .ref t7, .int (10 ^ 20)]) := by rw [← hG9]; exact upd_same
    have gfl9 : G9 fl = none := by rw [← hG9, upd_ne nftt, upd_ne nft]; exact gfl
    refine ⟨tt, rfl, ⟨_, SqT.of (Y9.sub _ _ htt9)⟩, for_it (walk_tup (xs := [.int (-1), .int (t + 1), .non, .bl true, .bl false, .str "1", .ref t7, .int (10 ^ 20)])) (fun j σ' H' => ∃ (G' : Hp) (v4 : Option V) (xs : List V) (ds : List PyData), σ' = [some (.ref a), some (.ref tx), some (.int ((i : Nat) : Int)), some (.ref fl), v4] ∧
      Xt none H G H' G' ∧ Same G9 G' ∧ H' fl = some (.lst xs) ∧ G' fl = none ∧ DA G' xs ds ∧ ds.length ≤ 8 + j ∧ ∀ d ∈ ds, inTab tops d = false) ?_ ?_ ?_ ?_⟩
    · refine ⟨G9, none, _, _, rfl, Y9, Same.refl _, ?_, gfl9, da0.mono s79, (by simp), ?_⟩
      · rw [upd_ne nftt, upd_ne nft, upd_same]
      · intro d hd
        have tl : (tops : List Int) ≠ [] := fun q => by rw [q] at hi; exact absurd hi (by simp)
        simp only [List.mem_cons, List.mem_nil_iff, or_false] at hd
        rcases hd with rfl | rfl | rfl | rfl | rfl | rfl | rfl | rfl
        · rfl
        · exact isIn_len _ _ (by simp; omega)
        · exact isIn_len _ _ (by rw [cutD_init, List.length_map]; omega)
        · rfl
        · rfl
        · rfl
        · rfl
        · exact isIn_len _ _ (by simp; exact tl)
    · rintro j σ' H' hj ⟨G', v4, xs, ds, rfl, Xj, s9, _⟩
      exact SqT.of (Xj.sub _ _ (s9 _ _ htt9))
    · rintro j y σ' H5 H6 hj ⟨G5, v4, xs, ds, rfl, Xj, s9, f1, f2, da, dl, dn⟩ ⟨rfl, hy⟩
      obtain ⟨d, hd, dy⟩ := (dth'.mono s9).get hy
      have hbd := allbad d (List.mem_of_getElem? hd)
      have hj8 : j < 8 := hj
      refine ⟨_, rfl, .inl ⟨rfl, _, SqL.of f1⟩, _, rfl, _, rfl, _, rfl, ?_⟩
      refine slT_data ((hv.mono Xj.gg)) Xj.sub fun q1 H7 G7 X7 e1 => ?_
      refine ⟨_, rfl, (by show 1 ≤ sizeLine; decide), fun p hp => ?_⟩
      have X8 := X7.alloc (o := .tup [y]) hp
      have e2 : D _ (.ref p) (.tuple [d]) := D.newT (xs := [y]) (.one (dy.mono X7.gg)) X7.sub hp
      have lc : (cutD (r.map .int) none (some ((i : Nat) : Int))).length ≤ 3 := by rw [cutD_take, List.length_take, List.length_map]; omega
      refine cat_data (e1.mono (upd_same_ (X7.sub.free hp))) e2 X8.sub (by rw [List.length_singleton]; omega) fun q2 H9 G9' X9 e3 => ?_
      have X10 := X8.trans X9
      refine ⟨_, rfl, _, rfl, _, _, rfl, rfl, _, rfl, ?_⟩
      dsimp only [tNoPart]
      refine slT_data (hv.mono (fun a o h => X10.gg a o (Xj.gg a o h))) X9.sub fun q3 H10 G10 X11 e4 => ?_
      have lc2 : (cutD (r.map .int) (some (((i : Nat) : Int) + 1)) none).length ≤ 3 := by
        rw [show ((i : Nat) : Int) + 1 = ((i + 1 : Nat) : Int) by omega, cutD_drop, List.length_drop, List.length_map]; omega
      refine cat_data (e3.mono X11.gg) e4 X11.sub (by rw [List.length_append, List.length_singleton]; omega) fun q4 H11 G11 X12 e5 => ?_
      have X13 := X10.trans (X11.trans X12)
      have f1' := X13.hh fl _ (fun q => by cases q) f1
      have f2' := X13.non (ne_none_of f1) f2
      refine ⟨fl, xs, _, rfl, rfl, f1', small_lt (by rw [da.length]; omega), ?_⟩
      refine ⟨G11, _, xs ++ [q4], _, rfl, (Xj.trans X13).set (Y6.fresh hfl) f2', fun a o h => X13.gg a o (s9 a o h), upd_same, f2', (da.mono X13.gg).append (.one e5), by rw [List.length_append, List.length_singleton]; omega, ?_⟩
      intro d' hd'
      rcases List.mem_append.mp hd' with h | h
      · exact dn d' h
      · rw [List.mem_singleton] at h
        subst h
        rw [show ((i : Nat) : Int) + 1 = ((i + 1 : Nat) : Int) by omega, cutD_drop, cutD_take]
        exact isIn_bad htt (put_at (by rw [List.length_map]; omega)) hbd
    · rintro σ' H5 ⟨G5, v4, xs, ds, rfl, Xj, s9, f1, f2, da, dl, dn⟩
      refine ⟨_, rfl, k fl xs ds H5 _ (Xj.fix fl0 f1) upd_same (da.mono (upd_same_ f2)) (by simp at dl; omega) dn⟩
end
end Nw
namespace Nw
open PySem L2 PySem.Spec PyProof.Rows RZ
section
variable {P : Program} {w : World} {K : PySem.W.Frag} {mg : Str → Option Value} {base : Heap}
theorem lOthers {f : Addr} {fd : FuncData} (F : C8.Def K mg "_law_others" s__law_others f fd) (b : Binds K fd P__law_others []) (T : Names K mg) (c__law_take : C8.Cal P w K mg base 1 "_law_take" spTake []) : C8.Cal P w K mg base 2 "_law_others" spOthers [] := by
  refine C8.cal0 (N := N__law_others) F b .nil sc__law_others (fun vs H Q E h => ?_) (fun cdv A outer s H vs Q E hr h => ?_)
  · obtain ⟨b, a, c, cols, G, rfl, _⟩ := h
    rfl
  · obtain ⟨b, a, c, cols, G, rfl, hd, good, hB, hc, gb, sG, k⟩ := h
    have hu := hu_of hr
    refine ⟨_, (pss_cons (ps_set (i := 2) sc__law_others.nd rfl (Or.inl rfl) (C8.pe_c c__law_take hr (by decide) rfl (pa_cons (pv 0) (pa_cons (pe_callB call_len_seq (by rfl) T.n_len PySem.boot_len (pa_cons (pv 1) pa_nil)) pa_nil))))
 (pss_cons (ps_asg (pe_ix ix_list (pv 1) (pv 2) (fun _ _ => rfl)) (pg_tup rfl (pgs_cons (pg_name (i := 3) sc__law_others.nd rfl (Or.inl rfl)) (pgs_cons (pg_name (i := 4) sc__law_others.nd rfl (Or.inl rfl)) pgs_nil))))
 (pss_cons (ps_set (i := 5) sc__law_others.nd rfl (Or.inl rfl) (pe_lst pa_nil))
 (C8.pss_cut (ps_for PassesOwn.never rfl (pi_tup (pe_tup (pa_cons (pe_tup (pa_cons pe_str (pa_cons (pv 4) pa_nil))) (pa_cons (pe_tup (pa_cons (pv 3) (pa_cons (pe_op op_add (pe_op op_mod (pv 4) pe_int) pe_int) pa_nil))) pa_nil)))) (pg_name (i := 6) sc__law_others.nd rfl (Or.inl rfl)) (pss_one (ps_expr (pe_bm PySem.F.plainAttrs_list PySem.F.slot_list_append PySem.F.type_list_append mt_append (pv 5) (pa_cons (pe_op op_cat (pe_op op_cat (pe_slice (sl_listK (K := K) rfl) (pv 1) po_none (po_some (pv 2))) (pe_lst (pa_cons (pv 6) pa_nil))) (pe_slice (sl_listK (K := K) rfl) (pv 1) (po_some (pe_op op_add (pv 2) pe_int)) po_none)) pa_nil)))))
 (C8.pss_cut (ps_if (pt_cmpR op_lt (pe_callB call_len_seq (by rfl) T.n_len PySem.boot_len (pa_cons (pv 1) pa_nil)) pe_int (nomark _)) (pss_one (ps_expr (pe_bm PySem.F.plainAttrs_list PySem.F.slot_list_append PySem.F.type_list_append mt_append (pv 5) (pa_cons (pe_op op_cat (pv 1) (pe_lst (pa_cons (pe_tup (pa_cons pe_str (pa_cons pe_int pa_nil))) pa_nil))) pa_nil)))) pss_nil)
 (pss_cons (ps_if (pt_cmpR op_gt (pe_callB call_len_seq (by rfl) T.n_len PySem.boot_len (pa_cons (pv 1) pa_nil)) pe_int (nomark _)) (pss_one (ps_set (i := 5) sc__law_others.nd rfl (Or.inl rfl) (pe_op op_cat (pv 5) (pe_lst (pa_cons (pe_revL (pv 1)) (pa_cons (pe_slice (sl_listK (K := K) rfl) (pv 1) (po_some pe_int) po_none) pa_nil)))))) pss_nil)
 (pss_one (ps_ret (pv 5))))))))), ?_⟩
    obtain ⟨a_, cs, e0, ha, da⟩ := id hd.list_inv
    cases e0
    have hcl : cs.length = cols.length := by rw [da.length, dCols, List.length_map]
    have hl1 := good.len.1
    have hl3 := good.len.2
    refine ⟨_, rfl, _, rfl, a, _, rfl, .inl (SqL.of (sG _ _ ha)), b, _, c, rfl, by omega, by omega, hB, by omega, fun r x y z r0 r1 hB1 => ?_⟩
    have X1 := (Xt.refl (b := some b) sG).put (o := .lst [.int x, .int y, .int z]) gb
    have hrn : r.toNat < cols.length := by omega
    have er : ((r.toNat : Nat) : Int) = r := by omega
    obtain ⟨cc, hcc⟩ : ∃ cc, cols[r.toNat]? = some cc := ⟨cols[r.toNat], List.getElem?_eq_getElem hrn⟩
    obtain ⟨y0, hy0, dy0⟩ := da.at (i := r.toNat) (d := dCol cc) (by rw [dCols, List.getElem?_map, hcc]; rfl)
    obtain ⟨t, rfl, ht⟩ := col_inv dy0
    have hat : atI cs r = some (.ref t) := by rw [← er]; exact atI_nat hy0
    refine ⟨_, rfl, _, rfl, a, _, r, _, rfl, rfl, SqL.of (X1.sub _ _ ha), hat, t, _, rfl, SqT.of (X1.sub _ _ ht), rfl, _, _, rfl, _, _, rfl, rfl, ?_⟩
    refine ⟨Nat.zero_le _, fun fl hfl => ?_⟩
    have X2 := X1.allocT (o := .lst []) hfl
    have fl0 := X1.fresh hfl
    have gfl := sG.free fl0
    have nbf : b ≠ fl := fun q => by subst q; exact hB.ne fl0
    have hB2 := hB1.upd (p := fl) (o := .lst []) nbf
    -- the two replaced columns
    refine ⟨fun σ' H' => ∃ (G' : Hp) (v6 : Option V) (xs : List V) (oths : List (List Col)), σ' = [some (.ref b), some (.ref a), some (.int r), some (.str cc.1), some (.int cc.2), some (.ref fl), v6] ∧ Xt (some b) H G H' G' ∧ Bag H' b (c + 1) ∧ G' b = none ∧
      H' fl = some (.lst xs) ∧ G' fl = none ∧ DA G' xs (oths.map dL) ∧ oths.length ≤ 10 ∧ ∀ o ∈ oths, Good n11 o ∧ o ≠ cols, ?_, ?_⟩
    · refine ⟨_, rfl, (by show 2 ≤ sizeLine; decide), fun u1 hu1 => ⟨_, rfl, _, rfl, _, _, rfl, rfl, (by show (0 : Int) < 3; decide), _, _, rfl, rfl, (by show 2 ≤ sizeLine; decide), fun u2 hu2 => ⟨(by show 2 ≤ sizeLine; decide), fun tt htt => ?_⟩⟩⟩
      have X3 := X2.alloc (o := .tup [.str "other", .int cc.2]) hu1
      have d1 : D _ (.ref u1) (dCol (("other" : Str), cc.2)) := D.newT (xs := [.str "other", .int cc.2]) (.cons (.str _) (.cons (.int _) .nil)) X2.sub hu1
      have X4 := X3.alloc (o := .tup [.str cc.1, .int (cc.2 % 3 + 1)]) hu2
      have d2 : D _ (.ref u2) (dCol (cc.1, cc.2 % 3 + 1)) := D.newT (xs := [.str cc.1, .int (cc.2 % 3 + 1)]) (.cons (.str _) (.cons (.int _) .nil)) X3.sub hu2
      have X5 := X4.alloc (o := .tup [.ref u1, .ref u2]) htt
      have dth : DA _ [V.ref u1, .ref u2] [dCol (("other" : Str), cc.2), dCol (cc.1, cc.2 % 3 + 1)] := .cons (d1.mono (upd_same_ (X3.sub.free hu2))) (.cons d2 .nil)
      have dth' := dth.mono (upd_same_ (o := HO.tup [.ref u1, .ref u2]) (X4.sub.free htt))
      have n1 : fl ≠ u1 := fun q => by subst q; rw [upd_same] at hu1; cases hu1
      have n2 : fl ≠ u2 := fun q => by subst q; rw [upd_ne n1, upd_same] at hu2; cases hu2
      have n3 : fl ≠ tt := fun q => by subst q; rw [upd_ne n2, upd_ne n1, upd_same] at htt; cases htt
      have m1 : b ≠ u1 := fun q => by subst q; exact hB2.ne hu1
      have hB3 := hB2.upd (p := u1) (o := .tup [.str "other", .int cc.2]) m1
      have m2 : b ≠ u2 := fun q => by subst q; exact hB3.ne hu2
      have hB4 := hB3.upd (p := u2) (o := .tup [.str cc.1, .int (cc.2 % 3 + 1)]) m2
      have m3 : b ≠ tt := fun q => by subst q; exact hB4.ne htt
      have hB5 := hB4.upd (p := tt) (o := .tup [.ref u1, .ref u2]) m3
      have gb5 := none_of_ne (o := HO.tup [.ref u1, .ref u2]) (none_of_ne (o := HO.tup [.str cc.1, .int (cc.2 % 3 + 1)]) (none_of_ne (o := HO.tup [.str "other", .int cc.2]) gb m1) m2) m3
      have gf5 := none_of_ne (o := HO.tup [.ref u1, .ref u2]) (none_of_ne (o := HO.tup [.str cc.1, .int (cc.2 % 3 + 1)]) (none_of_ne (o := HO.tup [.str "other", .int cc.2]) gfl n1) n2) n3
      generalize hG5 : upd (upd (upd G u1 (HO.tup [.str "other", .int cc.2])) u2 (HO.tup [.str cc.1, .int (cc.2 % 3 + 1)])) tt (HO.tup [.ref u1, .ref u2]) = G5 at *
      have htt5 : G5 tt = some (.tup [.ref u1, .ref u2]) := by rw [← hG5]; exact upd_same
      refine ⟨tt, rfl, ⟨_, SqT.of (X5.sub _ _ htt5)⟩, for_it (walk_tup (xs := [.ref u1, .ref u2])) (fun j σ' H' => ∃ (G' : Hp) (v6 : Option V) (xs : List V) (oths : List (List Col)), σ' = [some (.ref b), some (.ref a), some (.int r), some (.str cc.1), some (.int cc.2), some (.ref fl), v6] ∧ Xt (some b) H G H' G' ∧ Same G5 G' ∧ Bag H' b (c + 1) ∧ G' b = none ∧
        H' fl = some (.lst xs) ∧ G' fl = none ∧ DA G' xs (oths.map dL) ∧ oths.length ≤ j ∧ ∀ o ∈ oths, Good n11 o ∧ o ≠ cols) ?_ ?_ ?_ ?_⟩
      · exact ⟨G5, none, [], [], rfl, X5, Same.refl _, hB5, gb5, by rw [upd_ne n3, upd_ne n2, upd_ne n1, upd_same], gf5, .nil, Nat.zero_le _, fun o h => by cases h⟩
      · rintro j σ' H' hj ⟨G', v6, xs, oths, rfl, X, s5, _⟩
        exact SqT.of (X.sub _ _ (s5 _ _ htt5))
      · rintro j y σ' H6 H7 hj ⟨G6, v6, xs, oths, rfl, X, s5, hB6, gb6, f1, f2, dx, ol, oo⟩ ⟨rfl, hy⟩
        obtain ⟨d, hdj, dy⟩ := (dth'.mono s5).get hy
        obtain ⟨c', hc', h1⟩ : ∃ c', d = dCol c' ∧ (c' = (("other" : Str), cc.2) ∨ c' = (cc.1, cc.2 % 3 + 1)) := by
          have := List.mem_of_getElem? hdj
          simp only [List.mem_cons, List.mem_nil_iff, or_false] at this
          rcases this with e | e
          · exact ⟨_, e, .inl rfl⟩
          · exact ⟨_, e, .inr rfl⟩
        subst hc'
        have hda := hd.mono X.gg
        refine ⟨_, rfl, .inl ⟨rfl, _, SqL.of f1⟩, _, rfl, _, rfl, _, rfl, ?_⟩
        refine slL_data hda X.sub fun q1 H8 G8 X8 e1 => ?_
        refine ⟨_, rfl, (by show 1 ≤ sizeLine; decide), fun p hp => ?_⟩
        have X9 := X8.alloc (o := .lst [y]) hp
        have e2 : D _ (.ref p) (.list [dCol c']) := D.newL (xs := [y]) (.one (dy.mono X8.gg)) X8.sub hp
        rw [← er, cutD_take] at e1
        have l1 : ((dCols cols).take r.toNat).length ≤ 3 := by rw [List.length_take, dCols, List.length_map]; omega
        refine catL_data (e1.mono (upd_same_ (X8.sub.free hp))) e2 X9.sub (by rw [List.length_singleton]; omega) fun q2 H10 G10 X10 e3 => ?_
        have X11 := X9.trans X10
        refine ⟨_, rfl, _, rfl, _, _, rfl, rfl, _, rfl, ?_⟩
        dsimp only [tNoPart]
        refine slL_data (hda.mono X11.gg) X10.sub fun q3 H12 G12 X12 e4 => ?_
        rw [show r + 1 = ((r.toNat + 1 : Nat) : Int) by omega, cutD_drop] at e4
        have l2 : ((dCols cols).drop (r.toNat + 1)).length ≤ 3 := by rw [List.length_drop, dCols, List.length_map]; omega
        refine catL_data (e3.mono X12.gg) e4 X12.sub (by rw [List.length_append, List.length_singleton]; omega) fun q4 H13 G13 X13 e5 => ?_
        have X14 := (X11.trans X12).trans X13
        have f1' := X14.hh fl _ (fun q => by cases q) f1
        have f2' := X14.non (ne_none_of f1) f2
        have e6 : D G13 q4 (dL (cols.set r.toNat c')) := by
          have : dL (cols.set r.toNat c') = .list ((dCols cols).take r.toNat ++ [dCol c'] ++ (dCols cols).drop (r.toNat + 1)) := by
            show PyData.list ((cols.set r.toNat c').map dCol) = _
            rw [← set_parts hrn, List.map_append, List.map_append, List.map_take, List.map_drop]
            rfl
          rw [this]; exact e5
        refine ⟨fl, xs, _, rfl, rfl, f1', small_lt (by rw [dx.length, List.length_map]; have : j < 2 := hj; omega), ?_⟩
        refine ⟨G13, _, xs ++ [q4], oths ++ [cols.set r.toNat c'], rfl, (X.trans X14.of).set fl0 f2', fun a o h => X14.gg a o (s5 a o h), (hB6.keep X14).upd nbf, X14.non hB6.ne gb6, upd_same, f2', ?_, by rw [List.length_append, List.length_singleton]; omega, ?_⟩
        · rw [List.map_append]; exact (dx.mono X14.gg).append (.one e6)
        · intro o ho
          rcases List.mem_append.mp ho with h | h
          · exact oo o h
          · rw [List.mem_singleton] at h; subst h; exact good_set good hcc h1
      · rintro σ' H6 ⟨G6, v6, xs, oths, rfl, X, s5, hB6, gb6, f1, f2, dx, ol, oo⟩
        exact ⟨G6, _, xs, oths, rfl, X, hB6, gb6, f1, f2, dx, by simp at ol; omega, oo⟩
    rintro σ' H6 ⟨G6, v6, xs, oths, rfl, X, hB6, gb6, f1, f2, dx, ol, oo⟩
    -- one column more
    refine ⟨fun σ' H' => ∃ (G' : Hp) (xs : List V) (oths : List (List Col)), σ' = [some (.ref b), some (.ref a), some (.int r), some (.str cc.1), some (.int cc.2), some (.ref fl), v6] ∧ Xt (some b) H G H' G' ∧ Bag H' b (c + 1) ∧ G' b = none ∧
      H' fl = some (.lst xs) ∧ G' fl = none ∧ DA G' xs (oths.map dL) ∧ oths.length ≤ 11 ∧ ∀ o ∈ oths, Good n11 o ∧ o ≠ cols, ?_, ?_⟩
    · refine ⟨_, rfl, a, _, rfl, .inl (SqL.of (X.sub _ _ (X.gg _ _ ha))), _, _, rfl, rfl, _, rfl, ?_⟩
      refine ite2 (fun c3 => ?_) (fun c3 => ?_)
      · have c3' : cols.length < 3 := by have := of_decide_eq_true c3; omega
        have hda := hd.mono X.gg
        refine ⟨_, rfl, .inl ⟨rfl, _, SqL.of f1⟩, _, rfl, (by show 2 ≤ sizeLine; decide), fun u1 hu1 => ⟨(by show 1 ≤ sizeLine; decide), fun p hp => ?_⟩⟩
        have X8 := Xt.new (b := none) (o := .tup [.str "other", .int 1]) X.sub hu1
        have d1 : D _ (.ref u1) (dCol (("other" : Str), (1 : Int))) := D.newT (xs := [.str "other", .int 1]) (.cons (.str _) (.cons (.int _) .nil)) X.sub hu1
        have X9 := X8.alloc (o := .lst [.ref u1]) hp
        have e2 : D _ (.ref p) (.list [dCol (("other" : Str), (1 : Int))]) := D.newL (xs := [.ref u1]) (.one d1) X8.sub hp
        refine catL_data (hda.mono X9.gg) e2 X9.sub (by rw [dCols, List.length_map, List.length_singleton]; omega) fun q4 H13 G13 X13 e5 => ?_
        have X14 := X9.trans X13
        have f1' := X14.hh fl _ (fun q => by cases q) f1
        have f2' := X14.non (ne_none_of f1) f2
        have e6 : D G13 q4 (dL (cols ++ [(("other" : Str), (1 : Int))])) := by
          have : dL (cols ++ [(("other" : Str), (1 : Int))]) = .list (dCols cols ++ [dCol (("other" : Str), (1 : Int))]) := by
            show PyData.list ((cols ++ [(("other" : Str), (1 : Int))]).map dCol) = _
            rw [List.map_append]; rfl
          rw [this]; exact e5
        refine ⟨fl, xs, _, rfl, rfl, f1', small_lt (by rw [dx.length, List.length_map]; omega), ?_⟩
        refine ⟨G13, xs ++ [q4], oths ++ [cols ++ [(("other" : Str), (1 : Int))]], rfl, (X.trans X14.of).set fl0 f2', (hB6.keep X14).upd nbf, X14.non hB6.ne gb6, upd_same, f2', ?_, by rw [List.length_append, List.length_singleton]; omega, ?_⟩
        · rw [List.map_append]; exact (dx.mono X14.gg).append (.one e6)
        · intro o ho
          rcases List.mem_append.mp ho with h | h
          · exact oo o h
          · rw [List.mem_singleton] at h; subst h; exact good_more good c3'
      · exact ⟨G6, xs, oths, rfl, X, hB6, gb6, f1, f2, dx, by omega, oo⟩
    rintro σ' H7 ⟨G7, xs, oths, rfl, X, hB7, gb7, f1, f2, dx, ol, oo⟩
    have X' := X
    refine ⟨_, rfl, a, _, rfl, .inl (SqL.of (X.sub _ _ (X.gg _ _ ha))), _, _, rfl, rfl, _, rfl, ?_⟩
    refine ite2 (fun c3 => ?_) (fun c3 => ?_)
    · have c3' : 1 < cols.length := by have := of_decide_eq_true c3; omega
      have hda := hd.mono X.gg
      have haa := X.sub _ _ (X.gg _ _ ha)
      refine ⟨_, rfl, _, rfl, a, cs, rfl, SqL.of haa, fun p hp => ?_⟩
      have X8 := Xt.new (b := none) (o := .lst cs.reverse) X.sub hp
      have e1 : D (upd G7 p (.lst cs.reverse)) (.ref p) (dL cols.reverse) := by
        have := D.newL (ds := (dCols cols).reverse) ((da.mono X.gg).reverse) X.sub hp
        rw [dCols, ← List.map_reverse] at this
        exact this
      refine ⟨_, rfl, _, rfl, ?_⟩
      dsimp only [tNoPart]
      refine slL_data (hda.mono X8.gg) X8.sub fun q3 H12 G12 X12 e4 => ?_
      rw [show (1 : Int) = ((1 : Nat) : Int) from rfl, cutD_drop, dCols, ← List.map_drop] at e4
      refine ⟨(by show 2 ≤ sizeLine; decide), fun p2 hp2 => ?_⟩
      have X13 := (X8.trans X12).allocT (o := .lst [.ref p, q3]) hp2
      have nfp : fl ≠ p := fun q => by subst q; rw [f1] at hp; cases hp
      have f1' := X13.hh fl _ (fun q => by cases q) f1
      refine ⟨fl, p2, xs, _, rfl, rfl, f1', upd_same, small_line (by rw [dx.length, List.length_map]; simp; omega), fun p3 hp3 => ?_⟩
      have X14 := X13.trans (Xt.new (o := .lst (xs ++ [.ref p, q3])) X13.sub hp3)
      refine ⟨_, rfl, ?_⟩
      refine k p3 (xs ++ [.ref p, q3]) (oths ++ [cols.reverse, cols.drop 1]) _ _ (X.trans X14.of) (hB7.keep X14) upd_same ?_ (by simp; omega) ?_
      · have s1 := upd_same_ (o := HO.lst (xs ++ [.ref p, q3])) (X13.sub.free hp3)
        rw [List.map_append]
        exact (((dx.mono X8.gg).mono X12.gg).mono s1).append (.cons ((e1.mono X12.gg).mono s1) (.one (e4.mono s1)))
      · intro o ho
        rcases List.mem_append.mp ho with h | h
        · exact oo o h
        · simp only [List.mem_cons, List.mem_nil_iff, or_false] at h
          rcases h with h | h
          · subst h; exact good_rev good c3'
          · subst h; exact good_tail good c3'
    · refine ⟨_, rfl, k fl xs oths H7 _ (X.fix fl0 f1) hB7 upd_same (dx.mono (upd_same_ f2)) (by omega) oo⟩
end
end Nw
namespace Nw
open PySem L2 PySem.Spec PyProof.Rows RZ
def spRight : Sp := fun vs H Q _ => ∃ (b a : Addr) (c : Int) (cols : List Col) (G : Hp), vs = [.ref b, .ref a] ∧ D G (.ref a) (dL cols) ∧ Good n10 cols ∧ Bag H b c ∧ c ≤ 10000 ∧ G b = none ∧ Same G H ∧
  ∀ (H' G' : Hp), Xt (some b) H G H' G' → Bag H' b (c + 10) → Q (.bl true) H'
section
variable {P : Program} {w : World} {K : PySem.W.Frag} {mg : Str → Option Value} {base : Heap}
theorem lRight {f C : Addr} {fd : FuncData} (F : C8.Def K mg "_law_right" s__law_right f fd) (b : Binds K fd P__law_right []) (T : Names K mg) (TC : TabC K mg C) (nf_Table : NoFirst K C)
    (c__law_take : C8.Cal P w K mg base 1 "_law_take" spTake []) (c__law_of : C8.Cal P w K mg base 2 "_law_of" spOf []) (c__law_values : C8.Cal P w K mg base 1 "_law_values" spValues []) (c__law_odd : C8.Cal P w K mg base 1 "_law_odd" spOdd []) (c__law_others : C8.Cal P w K mg base 2 "_law_others" spOthers [])
    (m_Table : C8.Mak P w K mg base 3 "Table" C (spInit C) []) (c_Table__all_values : C8.Met P w K mg base 1 C "all_values" (spAllValues C) []) (o_Table__len : Own P w K mg base 1 C "__len__" (spLenT C)) (o_Table__contains : Own P w K mg base 2 C "__contains__" (spIn C)) (o_Table__eq : Own P w K mg base 1 C "__eq__" (spEq_ C)) (o_Table__repr : Own P w K mg base 1 C "__repr__" (spRepr C)) :
    C8.Cal P w K mg base 5 "_law_right" spRight [] := by
  refine C8.cal0 (N := N__law_right) F b .nil sc__law_right (fun vs H Q E h => ?_) (fun cdv A outer s H vs Q E hr h => ?_)
  · obtain ⟨b, a, c, cols, G, rfl, _⟩ := h
    rfl
  · obtain ⟨b, a, c, cols, G, rfl, hd, good, hB, hc, gb, sG, k⟩ := h
    have hu := hu_of hr
    refine ⟨_, (pss_cons (ps_set (i := 2) sc__law_right.nd rfl (Or.inl rfl) (pe_callTy call_list_of (by rfl) T.n_list (by decide +kernel) (pa_cons (pv 1) pa_nil)))
 (pss_cons (ps_asg (pe_tup (pa_cons (C8.pe_mk m_Table hr (by decide) rfl (pa_cons (pv 2) pa_nil)) (pa_cons (C8.pe_c c__law_values hr (by decide) rfl (pa_cons (pv 1) pa_nil)) pa_nil))) (pg_tup rfl (pgs_cons (pg_name (i := 3) sc__law_right.nd rfl (Or.inr rfl)) (pgs_cons (pg_name (i := 4) sc__law_right.nd rfl (Or.inl rfl)) pgs_nil))))
 (C8.pss_cut (ps_expr (pe_bm PySem.F.plainAttrs_list PySem.F.slot_list_append PySem.F.type_list_append mt_append (pv 2) (pa_cons (pe_tup (pa_cons pe_str (pa_cons pe_int pa_nil))) pa_nil)))
 (pss_cons (ps_if (PW.pt (pw_or (pt_cmpR (op_neD hr.units) (pe_fld (pv 3) rfl) (pe_callTy call_tuple_of (by rfl) T.n_tuple (by decide +kernel) (pa_cons (pe_lc (own := [("_law_name", 5), ("_law_top", 6)]) (g := (gTup K 2 (gCons (gName 5) (gCons (gName 6) gNil)))) (tt := tYes) rfl sc__law_right.nd (pi_list (pv 1)) (blkOk_by (own := [("_law_name", 5), ("_law_top", 6)]) (N := N__law_right) (sc := C8.fnScope s__law_right) (by decide +kernel)) (fun _ _ _ _ _ => (pg_tup rfl (pgs_cons (pg_name (i := 5) sc__law_right.nd rfl (Or.inl rfl)) (pgs_cons (pg_name (i := 6) sc__law_right.nd rfl (Or.inl rfl)) pgs_nil)))) (fun _ _ _ _ _ => pts_nil) (fun _ _ _ _ _ => (pv 5))) pa_nil)) (nomark _)) (pw_or1 (pt_cmpR (op_neD hr.units) (pe_fld (pv 3) rfl) (pe_callTy call_tuple_of (by rfl) T.n_tuple (by decide +kernel) (pa_cons (pe_lc (own := [("_law_name", 5), ("_law_top", 6)]) (g := (gTup K 2 (gCons (gName 5) (gCons (gName 6) gNil)))) (tt := tYes) rfl sc__law_right.nd (pi_list (pv 1)) (blkOk_by (own := [("_law_name", 5), ("_law_top", 6)]) (N := N__law_right) (sc := C8.fnScope s__law_right) (by decide +kernel)) (fun _ _ _ _ _ => (pg_tup rfl (pgs_cons (pg_name (i := 5) sc__law_right.nd rfl (Or.inl rfl)) (pgs_cons (pg_name (i := 6) sc__law_right.nd rfl (Or.inl rfl)) pgs_nil)))) (fun _ _ _ _ _ => pts_nil) (fun _ _ _ _ _ => (pv 6))) pa_nil)) (nomark _))))) (pss_one (ps_ret pe_bl)) pss_nil)
 (pss_cons (ps_set (i := 7) sc__law_right.nd rfl (Or.inl rfl) (C8.pe_mt0 c_Table__all_values hr (by decide) (pv 3)))
 (pss_cons (ps_if (PW.pt (pw_or (pt_cmpR op_ne (pe_callB (call_lenO o_Table__len (by exact hr.mono (by decide))) (by rfl) T.n_len PySem.boot_len (pa_cons (pv 3) pa_nil)) (pe_callB call_len_seq (by rfl) T.n_len PySem.boot_len (pa_cons (pv 1) pa_nil)) (nomark _)) (pw_or (pt_cmpR (op_neD hr.units) (pv 7) (pv 4) (nomark _)) (pw_or1 (pt_not (pt_val (pe_callB call_isi (by rfl) T.n_isinstance (by decide +kernel) (pa_cons (pv 7) (pa_cons (pe_bltn (v := .ty "list") (u := .type "list") (by rfl) T.n_list (by decide +kernel) rfl) pa_nil))))))))) (pss_one (ps_ret pe_bl)) pss_nil)
 (C8.pss_cut (ps_expr (pe_bm0 PySem.F.plainAttrs_list PySem.F.slot_list_clear PySem.F.type_list_clear mt_clear (pv 7)))
 (pss_cons (ps_if (PW.pt (pw_or (pt_cmpR (op_neD hr.units) (C8.pe_mt0 c_Table__all_values hr (by decide) (pv 3)) (pv 4) (nomark _)) (pw_or1 (pt_not (pt_val (pe_callB (cr_all rfl) (by rfl) T.n_all (by decide +kernel) (pa_cons (pe_lc (own := [("_law_values_here", 8)]) (g := (gName 8)) (tt := tYes) rfl sc__law_right.nd (pi_list (pv 4)) (blkOk_by (own := [("_law_values_here", 8)]) (N := N__law_right) (sc := C8.fnScope s__law_right) (by decide +kernel)) (fun _ _ _ _ _ => (pg_name (i := 8) sc__law_right.nd rfl (Or.inl rfl))) (fun _ _ _ _ _ => pts_nil) (fun _ _ _ _ _ => (pe_cmpR (op_inO o_Table__contains (by exact hr.mono (by decide))) (pv 8) (pv 3) (by rfl)))) pa_nil))))))) (pss_one (ps_ret pe_bl)) pss_nil)
 (C8.pss_cut (ps_if (pt_cmpR op_ne (pe_callB (call_reprO o_Table__repr (by exact hr.mono (by decide))) (by rfl) T.n_repr (by decide +kernel) (pa_cons (pv 3) pa_nil)) (pe_op op_add_str (pe_op op_add_str pe_str (pe_join pe_str (pe_lc (own := [("_law_name", 5), ("_law_top", 6)]) (g := (gTup K 2 (gCons (gName 5) (gCons (gName 6) gNil)))) (tt := tYes) rfl sc__law_right.nd (pi_list (pv 1)) (blkOk_by (own := [("_law_name", 5), ("_law_top", 6)]) (N := N__law_right) (sc := C8.fnScope s__law_right) (by decide +kernel)) (fun _ _ _ _ _ => (pg_tup rfl (pgs_cons (pg_name (i := 5) sc__law_right.nd rfl (Or.inl rfl)) (pgs_cons (pg_name (i := 6) sc__law_right.nd rfl (Or.inl rfl)) pgs_nil)))) (fun _ _ _ _ _ => pts_nil) (fun _ _ _ _ _ => (pe_op op_add_str (pe_op op_add_str (pv 5) pe_str) (pe_callTy call_str_int (by rfl) T.n_str (by decide +kernel) (pa_cons (pv 6) pa_nil))))))) pe_str) (nomark _)) (pss_one (ps_ret pe_bl)) pss_nil)
 (pss_cons (ps_set (i := 8) sc__law_right.nd rfl (Or.inl rfl) (C8.pe_c c__law_of hr (by decide) rfl (pa_cons (pv 0) (pa_cons (pv 4) pa_nil))))
 (C8.pss_cut (ps_if (pt_val (pe_callB (cr_any rfl) (by rfl) T.n_any (by decide +kernel) (pa_cons (pe_lc (own := [("_law_thing", 9)]) (g := (gName 9)) (tt := tYes) rfl sc__law_right.nd (pi_list (C8.pe_c c__law_odd hr (by decide) rfl (pa_cons (pv 8) (pa_cons (pe_fld (pv 3) rfl) (pa_cons (C8.pe_c c__law_take hr (by decide) rfl (pa_cons (pv 0) (pa_cons (pe_callB call_len_seq (by rfl) T.n_len PySem.boot_len (pa_cons (pv 1) pa_nil)) pa_nil))) pa_nil))))) (blkOk_by (own := [("_law_thing", 9)]) (N := N__law_right) (sc := C8.fnScope s__law_right) (by decide +kernel)) (fun _ _ _ _ _ => (pg_name (i := 9) sc__law_right.nd rfl (Or.inl rfl))) (fun _ _ _ _ _ => pts_nil) (fun _ _ _ _ _ => (pe_cmpR (op_inO o_Table__contains (by exact hr.mono (by decide))) (pv 9) (pv 3) (by rfl)))) pa_nil))) (pss_one (ps_ret pe_bl)) pss_nil)
 (C8.pss_cut (ps_for PassesOwn.never rfl (pi_list (C8.pe_c c__law_others hr (by decide) rfl (pa_cons (pv 0) (pa_cons (pv 1) pa_nil)))) (pg_name (i := 10) sc__law_right.nd rfl (Or.inl rfl)) (pss_one (ps_if (PW.pt (pw_or (pt_cmpR (op_eqOK (K := K) rfl o_Table__eq nf_Table (by exact hr.mono (by decide))) (pv 3) (C8.pe_mk m_Table hr (by decide) rfl (pa_cons (pv 10) pa_nil)) (nomark _)) (pw_or (pt_not (pt_cmpR (op_neOK (K := K) rfl o_Table__eq nf_Table (by exact hr.mono (by decide))) (pv 3) (C8.pe_mk m_Table hr (by decide) rfl (pa_cons (pv 10) pa_nil)) (nomark _))) (pw_or1 (pt_cmpR (op_eqOK (K := K) rfl o_Table__eq nf_Table (by exact hr.mono (by decide))) (C8.pe_mk m_Table hr (by decide) rfl (pa_cons (pv 10) pa_nil)) (pv 3) (nomark _)))))) (pss_one (ps_ret pe_bl)) pss_nil)))
 (pss_cons (ps_setLc (i := 11) (own := [("_law_thing", 9)]) (g := (gName 9)) (tt := tYes) rfl sc__law_right.nd rfl rfl (sw_true rfl rfl rfl (by decide +kernel)) (pi_tup (pe_tup (pa_cons pe_non (pa_cons (pv 1) (pa_cons (pe_callTy call_tuple_of (by rfl) T.n_tuple (by decide +kernel) (pa_cons (pv 1) pa_nil)) (pa_cons (pe_callB (call_reprO o_Table__repr (by exact hr.mono (by decide))) (by rfl) T.n_repr (by decide +kernel) (pa_cons (pv 3) pa_nil)) (pa_cons (pe_fld (pv 3) rfl) (pa_cons pe_int pa_nil)))))))) (blkOk_by (own := [("_law_thing", 9)]) (N := N__law_right) (sc := C8.fnScope s__law_right) (by decide +kernel)) (fun _ _ _ _ _ => (pg_name (i := 9) sc__law_right.nd rfl (Or.inl rfl))) (fun _ _ _ _ _ => pts_nil) (fun _ _ _ _ _ => (pe_cmpR (op_eqOK (K := K) rfl o_Table__eq nf_Table (by exact hr.mono (by decide))) (pv 3) (pv 9) (nomark _))))
 (pss_one (ps_ret (pe_and (pe_cmpR (op_eqOK (K := K) rfl o_Table__eq nf_Table (by exact hr.mono (by decide))) (pv 3) (C8.pe_mk m_Table hr (by decide) rfl (pa_cons (pv 1) pa_nil)) (nomark _)) (pe_and (pe_not (pe_cmpR (op_neOK (K := K) rfl o_Table__eq nf_Table (by exact hr.mono (by decide))) (pv 3) (C8.pe_mk m_Table hr (by decide) rfl (pa_cons (pe_callTy call_list_of (by rfl) T.n_list (by decide +kernel) (pa_cons (pv 1) pa_nil)) pa_nil)) (nomark _))) (pe_one (pe_not (pe_callB (cr_any rfl) (by rfl) T.n_any (by decide +kernel) (pa_cons (pv 11) pa_nil))))))))))))))))))))), ?_⟩
    obtain ⟨a_, cs, e0, ha, da⟩ := id hd.list_inv
    cases e0
    have hcl : cs.length = cols.length := by rw [da.length, dCols, List.length_map]
    have hl1 := good.len.1
    have hl3 := good.len.2
    have g11 := good11 good
    have hnb : ∀ p : Addr, (none : Option Addr) ≠ some p := fun p q => by cases q
    -- handed, told, due
    refine ⟨_, rfl, a, cs, rfl, .inl (SqL.of (sG _ _ ha)), fun hl hhl => ?_⟩
    have X1 := Xt.tmp (b := some b) (o := .lst cs) sG hhl
    have nbh : b ≠ hl := fun q => by subst q; exact hB.ne hhl
    have hB1 := hB.upd (p := hl) (o := .lst cs) nbh
    refine ⟨_, rfl, fun x dx nx ndx nex => ⟨x, dx, hl, cs, cols, _, G, rfl, nx, ndx, nex, rfl, upd_same, da, g11, X1.sub, fun H2 G2 X2 tab => ⟨rfl, ?_⟩⟩⟩
    refine ⟨_, rfl, a, cs, cols, G2, rfl, X2.gg _ _ ha, da.mono X2.gg, good, X2.sub, fun p ps H3 G3 X3 hp0 hp1 hp2 dps => ⟨(by show 2 ≤ sizeLine; decide), fun tt htt => ?_⟩⟩
    refine ⟨tt, _, rfl, SqT.of upd_same, rfl, _, _, rfl, _, _, rfl, rfl, ?_⟩
    have X23 := (X1.trans X2.of).trans X3.of
    have hpH : H p = none := (X1.trans X2.of).fresh hp0
    have X4 := X23.fix hpH hp1
    have X5 := X4.allocT (o := .tup [.ref x, .ref p]) htt
    have hB3 := (hB1.keep X2).keep X3
    have nbt : b ≠ tt := fun q => by subst q; exact hB3.ne htt
    have hB4 := hB3.upd (p := tt) (o := .tup [.ref x, .ref p]) nbt
    have gb1 := gb
    have gb3 := X3.non ((hB1.keep X2).ne) (X2.non hB1.ne gb)
    have nbp : b ≠ p := fun q => by subst q; exact (hB1.keep X2).ne hp0
    have gh3 := X3.non (ne_none_of (X2.hh hl _ (hnb _) upd_same)) (X2.non (ne_none_of upd_same) (sG.free hhl))
    have hh3 := X3.hh hl _ (hnb _) (X2.hh hl _ (hnb _) upd_same)
    have nhp : hl ≠ p := fun q => by subst q; rw [X2.hh hl _ (hnb _) upd_same] at hp0; cases hp0
    have nht : hl ≠ tt := fun q => by subst q; rw [hh3] at htt; cases htt
    have tab4 : TabAt C (upd G3 p (.lst ps)) x cols := (tab.mono X3.gg).mono (upd_same_ hp2)
    have due4 : D (upd G3 p (.lst ps)) (.ref p) (.list (dRows (allV (cols.map (·.2))))) := .lst upd_same (dps.mono (upd_same_ hp2))
    refine ⟨fun σ' H' => ∃ G', σ' = [some (.ref b), some (.ref a), some (.ref hl), some (.ref x), some (.ref p), none, none, none, none, none, none, none] ∧ Xt (some b) H G H' G' ∧ Bag H' b c ∧ G' b = none ∧ TabAt C G' x cols ∧ D G' (.ref p) (.list (dRows (allV (cols.map (·.2))))), ?_, ?_⟩
    · refine ⟨_, rfl, .inl ⟨rfl, _, SqL.of (by rw [upd_ne nht]; exact hh3)⟩, (by show 2 ≤ sizeLine; decide), fun u hu1 => ?_⟩
      have X6 := X5.allocT (o := .tup [.str "late", .int 1]) hu1
      have nhu : hl ≠ u := fun q => by subst q; rw [upd_ne nht, hh3] at hu1; cases hu1
      have nbu : b ≠ u := fun q => by subst q; exact hB4.ne hu1
      refine ⟨hl, cs, _, rfl, rfl, by rw [upd_ne nhu, upd_ne nht]; exact hh3, small_lt (by omega), ?_⟩
      exact ⟨_, rfl, X6.set hhl (none_of_ne gh3 nhp), (hB4.upd nbu).upd nbh, none_of_ne gb3 nbp, tab4, due4⟩
    clear X1 X2 X3 X23 X4 X5 hB1 hB3 hB4 tab tab4 due4 dps hp1 hh3 gh3 gb3 hp2 htt nht nhp nbt nbp hp0 hpH nex ndx nx hhl nbh gb1
    rintro σ' H1 ⟨G1, rfl, X, hB1, gb1, tab, due⟩
    obtain ⟨dx, cx, tx, t1, t2, t3, t4⟩ := id tab
    have ha1 := X.gg _ _ ha
    have da1 := da.mono X.gg
    -- columns, tops
    refine ⟨_, rfl, x, C, dx, _, _, rfl, X.sub _ _ t1, TC.cl, TC.nC, tf_c _ _, _, rfl, a, rfl, ⟨cs, SqL.of (X.sub _ _ ha1)⟩, fun Dl hD => ?_⟩
    refine lc_cols (G := G1) (fun c => .str c.1) ha1 da1 hl3 hD X.sub (fun c t H2 G2 _ X2 ht Qy hq => ⟨t, _, rfl, SqT.of (X2.sub _ _ ht), rfl, _, _, rfl, _, _, rfl, rfl, rfl, _, rfl, hq _ _ _ (Xt.refl X2.sub) (.str _)⟩) ?_
    intro H2 G2 ys X2 hl2 hg2 da2
    have e2 := DA.strs (ns := cols.map (·.1)) (by rw [List.map_map]; exact da2)
    refine ⟨Dl, _, rfl, .inl ⟨SqL.of hl2, fun q hq => ?_⟩⟩
    have X3 := X2.alloc (o := .tup ys) hq
    have dq : D (upd G2 q (.tup ys)) (.ref q) (.tuple ((cols.map (·.1)).map .str)) := .tup upd_same (by rw [e2]; exact DA.ofStrs _)
    refine ⟨_, _, ((cxD t3).mono X3.gg).dp X3.sub, dq.dp X3.sub, sh_names g11.names, sh_names g11.names, _, rfl, ?_⟩
    rw [eqv_strs, decide_eq_true rfl]
    refine iteF ⟨_, rfl, x, C, dx, _, _, rfl, X3.sub _ _ (X3.gg _ _ t1), TC.cl, TC.nT, tf_t _ _, _, rfl, a, rfl, ⟨cs, SqL.of (X3.sub _ _ (X3.gg _ _ ha1))⟩, fun Dl2 hD2 => ?_⟩
    refine lc_cols (G := upd G2 q (.tup ys)) (fun c => .int c.2) (X3.gg _ _ ha1) (da1.mono X3.gg) hl3 hD2 X3.sub (fun c t H2 G2 _ X2 ht Qy hq => ⟨t, _, rfl, SqT.of (X2.sub _ _ ht), rfl, _, _, rfl, _, _, rfl, rfl, rfl, _, rfl, hq _ _ _ (Xt.refl X2.sub) (.int _)⟩) ?_
    intro H4 G4 zs X4 hl4 hg4 da4
    have e4 := DA.ints (ns := cols.map (·.2)) (by rw [List.map_map]; exact da4)
    refine ⟨Dl2, _, rfl, .inl ⟨SqL.of hl4, fun q2 hq2 => ?_⟩⟩
    have X5 := (X3.trans X4).alloc (o := .tup zs) hq2
    have dq2 : D (upd G4 q2 (.tup zs)) (.ref q2) (.tuple ((cols.map (·.2)).map .int)) := .tup upd_same (by rw [e4]; exact DA.ofInts _)
    refine ⟨_, _, ((txD t4).mono X5.gg).dp X5.sub, dq2.dp X5.sub, sh_ints _, sh_ints _, _, rfl, ?_⟩
    rw [eqv_ints, decide_eq_true rfl]
    refine iteF ?_
    -- found
    have tab5 := tab.mono X5.gg
    have due5 := due.mono X5.gg
    refine ⟨_, rfl, x, dx, _, rfl, X5.sub _ _ (X5.gg _ _ t1), tf_no _ _ (by decide +kernel) (by decide +kernel), x, cols, _, rfl, tab5, g11, X5.sub, fun fl fs H6 G6 X6 f0 f1 f2 df => ?_⟩
    have X7 := X5.trans X6
    have tab6 := tab5.mono X6.gg
    have due6 := due5.mono X6.gg
    refine ⟨_, rfl, x, dx, _, rfl, X7.sub _ _ (X7.gg _ _ t1), x, cols, G6, rfl, tab6, X6.sub, cols.length, rfl, by omega, by omega, ?_⟩
    have ha6 := X6.gg _ _ (X5.gg _ _ ha1)
    refine ⟨_, rfl, a, cs, rfl, .inl (SqL.of (X6.sub _ _ ha6)), rfl, _, rfl, ?_⟩
    rw [show (!decide (V.int ((cols.length : Nat) : Int) = V.int ((cs.length : Nat) : Int))) = false by rw [hcl]; simp]
    refine iteF ⟨_, rfl, _, rfl, .list (dRows (allV (cols.map (·.2)))), .list (dRows (allV (cols.map (·.2)))), .lst (SqL.of f1) (df.dp X6.sub), due6.dp X6.sub, sh_rows _, sh_rows _, _, rfl, ?_⟩
    rw [eqv_rows, decide_eq_true rfl]
    refine iteF ⟨_, rfl, _, _, _, _, true, rfl, .ty _, .base (.lst f1), kit_ty (by decide +kernel), _, rfl, ?_⟩
    refine iteF ?_
    -- found.clear()
    have XX := X.trans X7.of
    have hB6 := hB1.keep X7
    have gb6 := X7.non hB1.ne gb1
    have flH : H fl = none := (X.trans X5.of).fresh f0
    have nbf : b ≠ fl := fun q => by subst q; exact hB.ne flH
    refine ⟨fun σ' H' => ∃ G' v7, σ' = [some (.ref b), some (.ref a), some (.ref hl), some (.ref x), some (.ref p), none, none, v7, none, none, none, none] ∧ Xt (some b) H G H' G' ∧ Bag H' b c ∧ G' b = none ∧ TabAt C G' x cols ∧ D G' (.ref p) (.list (dRows (allV (cols.map (·.2))))), ?_, ?_⟩
    · refine ⟨_, rfl, .inl ⟨rfl, _, SqL.of f1⟩, fl, fs, rfl, rfl, f1, ?_⟩
      exact ⟨G6, _, rfl, XX.set flH f2, hB6.upd nbf, gb6, tab6, due6⟩
    clear XX hB6 gb6 flH nbf X7 X6 X5 X4 X3 X2 tab6 tab5 due6 due5 da4 da2 e4 e2 hl4 hl2 hg4 hg2 dq dq2 hq hq2 hD hD2 ha6 df f0 f1 f2 t1 t2 t3 t4 tab due hB1 gb1 ha1 da1 X
    rintro σ' H1' ⟨G1', v7, rfl, X, hB1, gb1, tab, due⟩
    obtain ⟨dx', cx', tx', t1, t2, t3, t4⟩ := id tab
    -- all values once more, in
    have htops : ∀ t ∈ cols.map (·.2), 1 ≤ t ∧ t ≤ 3 := fun t ht => by
      obtain ⟨c, hc, rfl⟩ := List.mem_map.mp ht
      exact good.tops c hc
    have hVs : (allV (cols.map (·.2))).length ≤ 64 := by
      have := allV_small (tops := cols.map (·.2)) (i := 3) (by rw [List.length_map]; exact hl3) htops
      rw [List.take_of_length_le (by rw [List.length_map]; exact hl3)] at this
      exact this
    refine ⟨_, rfl, x, dx', _, rfl, X.sub _ _ t1, tf_no _ _ (by decide +kernel) (by decide +kernel), x, cols, _, rfl, tab, g11, X.sub, fun fl fs H2 G2 X2 f0 f1 f2 df => ?_⟩
    obtain ⟨p_, ps, e0, hp, dps⟩ := id due.list_inv
    cases e0
    refine ⟨_, rfl, .list (dRows (allV (cols.map (·.2)))), .list (dRows (allV (cols.map (·.2)))), .lst (SqL.of f1) (df.dp X2.sub), (due.mono X2.gg).dp X2.sub, sh_rows _, sh_rows _, _, rfl, ?_⟩
    rw [eqv_rows, decide_eq_true rfl]
    have hp2 := X2.gg _ _ hp
    have dp2 := dps.mono X2.gg
    have hpl : ps.length = (allV (cols.map (·.2))).length := by rw [dps.length, dRows, List.length_map]
    refine iteF ⟨_, rfl, p, rfl, ⟨ps, SqL.of (X2.sub _ _ hp2)⟩, fun Dl hD => ?_⟩
    refine lc_data (b := none) (R := fun _ _ => True) (G := G2) (walk_list (xs := ps)) ((allV (cols.map (·.2))).map fun _ => .bool true) (by rw [List.length_map, hpl]) (by omega) hD X2.sub (fun q => by cases q) trivial (fun _ _ _ _ => trivial) (fun i H4 G4 X4 _ => SqL.of (X4.sub _ _ (X4.gg _ _ hp2))) ?_ ?_
    · rintro i y H3 G3 H4 d hd X3 _ ⟨rfl, hy⟩ Qy hq
      obtain ⟨r, t, hr, rfl, ht⟩ := rows_at (dp2.mono X3.gg) hy
      rw [List.getElem?_map, hr] at hd
      obtain rfl := Option.some.inj hd
      have tab3 := (tab.mono X2.gg).mono X3.gg
      obtain ⟨dx3, cx3, tx3, s1, _⟩ := id tab3
      refine ⟨rfl, _, rfl, _, rfl, x, dx3, _, rfl, X3.sub _ _ s1, x, cols, _, dRow r, G3, rfl, tab3, g11, .ofRow ht, X3.sub, fun H5 X5 => ⟨_, rfl, hq _ _ _ X5 trivial ?_⟩⟩
      rw [allV_in (List.mem_of_getElem? hr)]
      exact .bl true
    intro H3 G3 ys X3 _ hl3_ hg3 da3
    have e3 := DA.bools (ns := (allV (cols.map (·.2))).map fun _ => true) (by rw [List.map_map]; exact da3)
    refine ⟨Dl, _, rfl, SqL.of (by rw [hl3_, e3]), _, rfl, ?_⟩
    rw [show (((allV (cols.map (·.2))).map fun _ => true).all id) = true by rw [List.all_map]; exact List.all_eq_true.mpr fun _ _ => rfl]
    refine iteF ?_
    have Y3 := X2.trans X3
    have tab3 := tab.mono Y3.gg
    obtain ⟨dx3, cx3, tx3, s1, s2, s3, s4⟩ := id tab3
    have due3 := due.mono Y3.gg
    have hB3 := hB1.keep Y3
    have gb3 := Y3.non hB1.ne gb1
    have Z3 := X.trans Y3.of
    clear X2 X3 Y3 hp2 dp2 df f0 f1 f2 hD hl3_ hg3 da3 e3
    -- repr
    refine ⟨fun σ' H' => ∃ G' v7, σ' = [some (.ref b), some (.ref a), some (.ref hl), some (.ref x), some (.ref p), none, none, v7, none, none, none, none] ∧ Xt (some b) H G H' G' ∧ Bag H' b c ∧ G' b = none ∧ TabAt C G' x cols ∧ D G' (.ref p) (.list (dRows (allV (cols.map (·.2))))), ?_, ?_⟩
    · refine ⟨_, rfl, x, dx3, _, rfl, Z3.sub _ _ s1, x, cols, G3, rfl, tab3, g11, Z3.sub, fun H4 X4 => ⟨_, rfl, ?_⟩⟩
      have ha3 := X4.sub _ _ (Z3.gg _ _ ha)
      refine ⟨⟨_, rfl⟩, _, rfl, a, rfl, ⟨cs, SqL.of ha3⟩, fun Dl hD => ?_⟩
      refine lc_cols (G := G3) (te := tOp (fun x y H Q => ∃ i j, x = .str i ∧ y = .str j ∧ i.length + j.length ≤ sizeLine ∧ Q (.str (i ++ j)) H) (tOp (fun x y H Q => ∃ i j, x = .str i ∧ y = .str j ∧ i.length + j.length ≤ sizeLine ∧ Q (.str (i ++ j)) H) (tVar 5) (tC (.str "="))) (tCB (fun xs H Q => ∃ i, xs = [.int i] ∧ i.natAbs.log2 < 1920 ∧ Q (.str (toString i)) H) (tCons (tVar 6) tNil))) (fun c => .str (c.1 ++ "=" ++ ((toString c.2 : String) : Str))) (Z3.gg _ _ ha) (da.mono Z3.gg) hl3 hD X4.sub (fun c' t H5 G5 hc' X5 ht Qy hq => ?_) ?_
      · obtain ⟨q1, q2, q3, q4, q5, q6⟩ := colText_ok (g11.names c' hc') (g11.tops c' hc')
        have n1 : ((("=" : String)) : Str).length = 1 := by decide +kernel
        refine ⟨t, _, rfl, SqT.of (X5.sub _ _ ht), rfl, _, _, rfl, _, _, rfl, rfl, rfl, _, rfl, _, _, rfl, rfl, small_line (by omega), _, rfl, c'.2, rfl, q5, _, _, rfl, rfl, small_line (by rw [strLen_append]; omega), hq _ _ _ (Xt.refl X5.sub) (.str _)⟩
      · intro H5 G5 ys X5 hl5 hg5 da5
        have e5 := DA.strs (ns := cols.map fun c => c.1 ++ "=" ++ ((toString c.2 : String) : Str)) (by rw [List.map_map]; exact da5)
        have ecol : (cols.map fun c => c.1 ++ "=" ++ ((toString c.2 : String) : Str)) = cols.map colText := List.map_congr_left fun c hc => by
          show _ = Str.empty ++ c.1 ++ "=" ++ _
          rw [n11_empty c.1 (g11.names c hc)]
        have hs : ∀ y ∈ cols.map colText, y.length ≤ 10 := fun y hy => by
          obtain ⟨c, hc, rfl⟩ := List.mem_map.mp hy
          exact (colText_ok (g11.names c hc) (g11.tops c hc)).2.2.1
        have hj := join_small hs (by rw [List.length_map]; exact hl3)
        have hsum := sum_le 10 _ hs
        rw [List.length_map] at hsum
        have f1 : (("Table(" : String) : Str).length = 6 := by decide +kernel
        have f2 : ((")" : String) : Str).length = 1 := by decide +kernel
        have f3 : ((", " : String) : Str).length = 2 := by decide +kernel
        rw [ecol] at e5
        refine ⟨_, Dl, cols.map colText, rfl, rfl, .inl (SqL.of (by rw [hl5, e5])), by rw [f3, List.length_map]; omega, _, _, rfl, rfl, small_line (by omega), _, _, rfl, rfl, small_line (by rw [strLen_append]; omega), rfl, _, rfl, ?_⟩
        rw [show (!decide (V.str (tabText cols) = V.str (("Table(" : Str) ++ Txt.join ", " (cols.map colText) ++ ")"))) = false by rw [law_text g11.names, ecol]; simp]
        refine iteF ?_
        have Y := X4.trans X5
        exact ⟨G5, _, rfl, Z3.trans Y.of, hB3.keep Y, Y.non hB3.ne gb3, tab3.mono Y.gg, due3.mono Y.gg⟩
    clear Z3 gb3 hB3 due3 s1 s2 s3 s4 tab3 tab due hB1 gb1 X t1 t2 t3 t4 hp dps
    rintro σ' H2 ⟨G2, v7, rfl, X, hB2, gb2, tab, due⟩
    obtain ⟨dx2, cx2, tx2, t1, t2, t3, t4⟩ := id tab
    obtain ⟨p_, ps, e0, hp, dps⟩ := id due.list_inv
    cases e0
    have hpl2 : ps.length = (allV (cols.map (·.2))).length := by rw [dps.length, dRows, List.length_map]
    have npb : p ≠ b := fun q => by subst q; rw [gb2] at hp; cases hp
    have hps : ps ≠ [] := fun e => by
      rw [e] at hpl2
      exact allV_pos (fun t ht => (htops t ht).1) (List.length_eq_zero_iff.mp hpl2.symm)
    -- values
    refine ⟨_, rfl, _, rfl, b, p, ps, c, rfl, X.sub _ _ hp, npb, hps, by omega, hB2, by omega, fun v i x' y' z' hv hB3 => ?_⟩
    have X3 := X.put (o := .lst [.int x', .int y', .int z']) gb2
    obtain ⟨r, t, hr_, rfl, ht⟩ := rows_at dps hv
    have hrm := List.mem_of_getElem? hr_
    have hrlen : r.length = cols.length := by
      have := allV_row (n := 0) (fun r hr => by simp at hr; subst hr; rfl) r hrm
      rw [this, List.length_map, Nat.zero_add]
    refine ⟨fun σ' H' => ∃ G' v7 v8 v9, σ' = [some (.ref b), some (.ref a), some (.ref hl), some (.ref x), some (.ref p), none, none, v7, v8, v9, none, none] ∧ Xt (some b) H G H' G' ∧ Bag H' b (c + 2) ∧ G' b = none ∧ TabAt C G' x cols, ?_, ?_⟩
    · have ha3 := X3.sub _ _ (X.gg _ _ ha)
      refine ⟨_, rfl, _, rfl, x, C, dx2, _, _, rfl, X3.sub _ _ t1, TC.cl, TC.nT, tf_t _ _, _, rfl, _, rfl, a, cs, rfl, .inl (SqL.of ha3), b, _, c + 1, rfl, by omega, by omega, hB3, by omega, fun r1 x1 y1 z1 r10 r11 hB4 => ?_⟩
      have X4 := X3.put (o := .lst [.int x1, .int y1, .int z1]) gb2
      obtain ⟨j, rfl⟩ : ∃ j : Nat, r1 = ((j : Nat) : Int) := ⟨r1.toNat, by omega⟩
      refine ⟨_, tx2, cols.map (·.2), r, j, G2, rfl, .ofRow ht, by rw [t4, List.map_map]; rfl, by rw [hrlen, List.length_map], by rw [List.length_map]; omega, by rw [List.length_map]; exact hl3, fun t ht => (htops t ht).2, X4.sub, fun q qs ds H5 G5 X5 gq dq ldq nq => ?_⟩
      refine ⟨q, rfl, ⟨qs, SqL.of (X5.sub _ _ gq)⟩, fun Dl hD => ?_⟩
      have hql := dq.length
      refine lc_data (b := none) (R := fun _ _ => True) (G := G5) (walk_list (xs := qs)) (ds.map fun _ => .bool false) (by rw [List.length_map, hql]) (by omega) hD X5.sub (fun q => by cases q) trivial (fun _ _ _ _ => trivial) (fun i H6 G6 X6 _ => SqL.of (X6.sub _ _ (X6.gg _ _ gq))) ?_ ?_
      · rintro m y H6 G6 H7 d hd X6 _ ⟨rfl, hy⟩ Qy hq
        obtain ⟨d0, hd0, dy⟩ := dq.get hy
        rw [List.getElem?_map, hd0] at hd
        obtain rfl := Option.some.inj hd
        have tab6 := (tab.mono X5.gg).mono X6.gg
        obtain ⟨dx6, cx6, tx6, s1, _⟩ := id tab6
        refine ⟨rfl, _, rfl, _, rfl, x, dx6, _, rfl, X6.sub _ _ s1, x, cols, y, d0, G6, rfl, tab6, g11, dy.mono X6.gg, X6.sub, fun H8 X8 => ⟨_, rfl, hq _ _ _ X8 trivial ?_⟩⟩
        rw [nq d0 (List.mem_of_getElem? hd0)]
        exact .bl false
      · intro H6 G6 ys X6 _ hl6 hg6 da6
        have e6 := DA.bools (ns := ds.map fun _ => false) (by rw [List.map_map]; exact da6)
        refine ⟨Dl, _, rfl, SqL.of (by rw [hl6, e6]), _, rfl, ?_⟩
        rw [show ((ds.map fun _ => false).any id) = false by rw [List.any_map]; exact List.any_eq_false.mpr fun _ _ => by simp]
        refine iteF ?_
        have Y := X5.trans X6
        have hB5 := hB4.keep Y
        exact ⟨G6, _, _, _, rfl, X4.trans Y.of, hB5.mono (by omega), Y.non hB4.ne gb2, tab.mono Y.gg⟩
    clear X3 hB3 hB2 tab due hp dps X t1 t2 t3 t4 ht hr_ hps hpl2
    rintro σ' H3 ⟨G3, v7', v8, v9, rfl, X, hB3, gb3, tab⟩
    -- the others
    refine ⟨fun σ' H' => ∃ G' v7 v8 v9 v10, σ' = [some (.ref b), some (.ref a), some (.ref hl), some (.ref x), some (.ref p), none, none, v7, v8, v9, v10, none] ∧ Xt (some b) H G H' G' ∧ Bag H' b (c + 3) ∧ G' b = none ∧ TabAt C G' x cols, ?_, ?_⟩
    · refine ⟨_, rfl, _, rfl, b, a, c + 2, cols, G3, rfl, hd.mono X.gg, good, hB3, by omega, gb3, X.sub, fun q qs oths H4 G4 X4 hB4 gq dq lq ok => ?_⟩
      have XX := X.trans X4
      have gb4 : G4 b = none := X4.non hB3.ne gb3
      refine ⟨q, rfl, ⟨qs, SqL.of (X4.sub _ _ gq)⟩, for_it (walk_list (xs := qs)) (fun i σ' H' => ∃ G' v10, σ' = [some (.ref b), some (.ref a), some (.ref hl), some (.ref x), some (.ref p), none, none, v7', v8, v9, v10, none] ∧ Xt none H4 G4 H' G') ?_ ?_ ?_ ?_⟩
      · exact ⟨G4, _, rfl, Xt.refl X4.sub⟩
      · rintro i σ' H' hi ⟨G', v10, rfl, X5⟩
        exact SqL.of (X5.sub _ _ (X5.gg _ _ gq))
      · rintro i y σ' H5 H6 hi ⟨G5, v10, rfl, X5⟩ ⟨rfl, hy⟩
        obtain ⟨d, hd_, dy⟩ := (dq.mono X5.gg).get hy
        obtain ⟨o, ho, rfl⟩ : ∃ o, oths[i]? = some o ∧ d = dL o := by
          rw [List.getElem?_map] at hd_
          cases e : oths[i]? with
          | none => rw [e] at hd_; cases hd_
          | some o => rw [e] at hd_; exact ⟨o, rfl, (Option.some.inj hd_).symm⟩
        obtain ⟨go, ne⟩ := ok o (List.mem_of_getElem? ho)
        obtain ⟨oa, os, rfl, hoa, dos⟩ := dy.list_inv
        have edf : decide (some o = some cols) = false := decide_eq_false (fun q => ne (Option.some.inj q))
        have edf2 : decide (some cols = some o) = false := decide_eq_false (fun q => ne (Option.some.inj q).symm)
        have tab5 := (tab.mono X4.gg).mono X5.gg
        -- told == Table(other)
        refine ⟨_, rfl, _, rfl, fun y dy ny ndy ney => ⟨y, dy, oa, os, o, _, G5, rfl, ny, ndy, ney, rfl, X5.sub _ _ hoa, dos, go, X5.sub, fun H6 G6 X6 tab_ => ⟨rfl, ?_⟩⟩⟩
        have tab6 := tab5.mono X6.gg
        obtain ⟨dx6, cx6, tx6, s1, _⟩ := id tab6
        obtain ⟨dy6, cy6, ty6, r1, _⟩ := id tab_
        refine ⟨.inr (.inr ⟨_, _, X6.sub _ _ r1⟩), x, dx6, _, rfl, X6.sub _ _ s1, x, cols, _, some o, G6, rfl, tab6, g11, .tab tab_ go, X6.sub, _, rfl, _, rfl, ?_⟩
        rw [edf]
        refine iteF ?_
        -- told != Table(other)
        refine ⟨_, rfl, _, rfl, fun y2 dy2 ny2 ndy2 ney2 => ⟨y2, dy2, oa, os, o, _, G6, rfl, ny2, ndy2, ney2, rfl, X6.sub _ _ (X6.gg _ _ hoa), dos.mono X6.gg, go, X6.sub, fun H7 G7 X7 tab_2 => ⟨rfl, ?_⟩⟩⟩
        have tab7 := tab6.mono X7.gg
        obtain ⟨dx7, cx7, tx7, s7, _⟩ := id tab7
        obtain ⟨dy7, cy7, ty7, r7, _⟩ := id tab_2
        refine ⟨.inr (.inr ⟨_, _, X7.sub _ _ r7⟩), x, dx7, _, rfl, X7.sub _ _ s7, x, cols, _, some o, G7, rfl, tab7, g11, .tab tab_2 go, X7.sub, _, rfl, _, rfl, ?_⟩
        rw [edf]
        refine iteF ?_
        -- Table(other) == told
        refine ⟨_, rfl, fun y3 dy3 ny3 ndy3 ney3 => ⟨y3, dy3, oa, os, o, _, G7, rfl, ny3, ndy3, ney3, rfl, X7.sub _ _ (X7.gg _ _ (X6.gg _ _ hoa)), (dos.mono X6.gg).mono X7.gg, go, X7.sub, fun H8 G8 X8 tab_3 => ⟨rfl, ?_⟩⟩⟩
        have tab8 := tab7.mono X8.gg
        obtain ⟨dx8, cx8, tx8, s8, _⟩ := id tab8
        obtain ⟨dy8, cy8, ty8, r8, _⟩ := id tab_3
        refine ⟨_, rfl, .inr (.inr ⟨_, _, X8.sub _ _ s8⟩), y3, dy8, _, rfl, X8.sub _ _ r8, y3, o, _, some cols, G8, rfl, tab_3, go, .tab tab8 g11, X8.sub, _, rfl, _, rfl, ?_⟩
        rw [edf2]
        refine iteF ?_
        exact ⟨G8, _, rfl, ((X5.trans X6).trans X7).trans X8⟩
      · rintro σ' H5 ⟨G5, v10, rfl, X5⟩
        exact ⟨G5, _, _, _, _, rfl, XX.trans X5.of, hB4.keep X5 |>.mono (by omega), X5.non hB4.ne gb4, (tab.mono X4.gg).mono X5.gg⟩
    clear tab X hB3 gb3
    rintro σ' H4 ⟨G4, v7, v8', v9', v10, rfl, X, hB4, gb4, tab⟩
    obtain ⟨dx2, cx2, tx2, t1, t2, t3, t4⟩ := id tab
    -- other things
    have ha4 := X.sub _ _ (X.gg _ _ ha)
    refine ⟨_, rfl, _, rfl, a, cs, rfl, .inl ⟨SqL.of ha4, fun q hq => ?_⟩⟩
    have X1 := (Xt.refl (b := none) X.sub).alloc (o := .tup cs) hq
    have tab1 := tab.mono X1.gg
    have dq1 : D (upd G4 q (.tup cs)) (.ref q) (.tuple (dCols cols)) := .tup upd_same (da.mono (fun _ _ h => X1.gg _ _ (X.gg _ _ h)))
    refine ⟨_, rfl, x, dx2, _, rfl, X1.sub _ _ (X1.gg _ _ t1), x, cols, _, rfl, tab1, g11, X1.sub, fun H5 X5 => ⟨_, rfl, ?_⟩⟩
    refine ⟨_, rfl, x, C, dx2, _, _, rfl, X5.sub _ _ (X1.gg _ _ t1), TC.cl, TC.nC, tf_c _ _, (by show 6 ≤ sizeLine; decide), fun tt htt => ?_⟩
    have Y := X1.trans X5
    have X6 := Y.alloc (o := .tup [.non, .ref a, .ref q, .str (tabText cols), .ref cx2, .int 0]) htt
    have da6 : DA (upd (upd G4 q (.tup cs)) tt (.tup [.non, .ref a, .ref q, .str (tabText cols), .ref cx2, .int 0])) [.non, .ref a, .ref q, .str (tabText cols), .ref cx2, .int 0]
        [.none, dL cols, .tuple (dCols cols), .str (tabText cols), .tuple ((cols.map (·.1)).map .str), .int 0] :=
      .cons .non (.cons (hd.mono fun _ _ h => X6.gg _ _ (X.gg _ _ h)) (.cons (dq1.mono fun _ _ h => upd_same_ (Y.sub.free htt) _ _ h) (.cons (.str _) (.cons ((cxD t3).mono X6.gg) (.cons (.int 0) .nil)))))
    have tab6 := tab.mono X6.gg
    refine ⟨tt, rfl, ⟨_, SqT.of upd_same⟩, fun Dl hD => ?_⟩
    refine lc_data (b := none) (R := fun _ _ => True) (G := upd (upd G4 q (.tup cs)) tt (.tup [.non, .ref a, .ref q, .str (tabText cols), .ref cx2, .int 0])) (te := tOp (fun x y H Q => plainV K C H y ∧ rEqO C (spEq_ C) false x y H Q) (tVar 3) (tVar 9)) (walk_tup (xs := [.non, .ref a, .ref q, .str (tabText cols), .ref cx2, .int 0])) ((List.replicate 6 false).map .bool) rfl (show (6:Nat) < 100000 by decide) hD X6.sub (fun q => by cases q) trivial (fun _ _ _ _ => trivial) (fun i H7 G7 X7 _ => SqT.of (X7.sub _ _ (X7.gg _ _ upd_same))) ?_ ?_
    · rintro m y H7 G7 H8 d hd7 X7 _ ⟨rfl, hy⟩ Qy hq7
      obtain ⟨d0, hd0, dy⟩ := da6.get hy
      have edf : d = .bool false := by
        rw [List.getElem?_map] at hd7
        cases e : (List.replicate 6 false)[m]? with
        | none => rw [e] at hd7; cases hd7
        | some v =>
          rw [e] at hd7
          have := List.eq_of_mem_replicate (List.mem_of_getElem? e)
          subst this
          exact (Option.some.inj hd7).symm
      subst edf
      have dy7 := dy.mono X7.gg
      have tab7 := tab6.mono X7.gg
      obtain ⟨dx7, cx7, tx7, s7, _⟩ := id tab7
      refine ⟨rfl, _, rfl, _, rfl, (dy7.plain X7.sub).v, x, dx7, _, rfl, X7.sub _ _ s7, x, cols, y, none, G7, rfl, tab7, g11, .data dy7, X7.sub, _, rfl, hq7 _ _ _ (Xt.refl X7.sub) trivial ?_⟩
      exact .bl false
    intro H7 G7 ys X7 _ hl7 hg7 da7
    have e7 := DA.bools da7
    have Z := X6.trans X7
    have tab7 := tab.mono Z.gg
    obtain ⟨dx7, cx7, tx7, s1, s2, s3, s4⟩ := id tab7
    have ha7 := Z.gg _ _ (X.gg _ _ ha)
    have da7' := da.mono fun _ _ h => Z.gg _ _ (X.gg _ _ h)
    -- the answer
    have ZX := X.trans Z.of
    have hB7 : Bag H7 b (c + 3) := hB4.keep Z
    have nb7 := hB7.ne
    refine ⟨_, rfl, _, rfl, fun y dy ny ndy ney => ⟨y, dy, a, cs, cols, _, G7, rfl, ny, ndy, ney, rfl, Z.sub _ _ ha7, da7', g11, Z.sub, fun H8 G8 X8 tab_ => ⟨rfl, ?_⟩⟩⟩
    have tab8 := tab7.mono X8.gg
    obtain ⟨dx8, cx8, tx8, s8, _⟩ := id tab8
    obtain ⟨dy8, cy8, ty8, r8, _⟩ := id tab_
    have ha8 := X8.gg _ _ ha7
    refine ⟨.inr (.inr ⟨_, _, X8.sub _ _ r8⟩), x, dx8, _, rfl, X8.sub _ _ s8, x, cols, _, some cols, G8, rfl, tab8, g11, .tab tab_ g11, X8.sub, _, rfl, _, rfl, ?_⟩
    rw [decide_eq_true rfl]
    refine iteT ?_
    refine ⟨_, rfl, _, rfl, a, cs, rfl, .inl (SqL.of (X8.sub _ _ ha8)), fun l hl8 => ?_⟩
    have X9 := (Xt.refl (b := none) X8.sub).alloc (o := .lst cs) hl8
    have W9 := X8.trans X9
    have da9 := da7'.mono W9.gg
    refine fun y2 dy2 ny2 ndy2 ney2 => ⟨y2, dy2, l, cs, cols, _, _, rfl, ny2, ndy2, ney2, rfl, upd_same, da9, g11, X9.sub, fun H10 G10 X10 tab_2 => ⟨rfl, ?_⟩⟩
    have W10 := W9.trans X10
    have tab10 := tab7.mono W10.gg
    obtain ⟨dx10, cx10, tx10, s10, _⟩ := id tab10
    obtain ⟨dy10, cy10, ty10, r10, _⟩ := id tab_2
    refine ⟨.inr (.inr ⟨_, _, X10.sub _ _ r10⟩), x, dx10, _, rfl, X10.sub _ _ s10, x, cols, _, some cols, G10, rfl, tab10, g11, .tab tab_2 g11, X10.sub, _, rfl, ?_⟩
    refine ⟨_, rfl, _, rfl, ?_⟩
    rw [show (!(if true = true then !decide (some cols = some cols) else decide (some cols = some cols))) = true by simp]
    refine iteT ?_
    have hl10 : H10 Dl = some (.lst ys) := W10.hh Dl _ (hnb _) hl7
    refine ⟨_, rfl, Dl, List.replicate 6 false, rfl, SqL.of (by rw [hl10, e7]), _, rfl, ?_⟩
    rw [show (!(List.replicate 6 false).any id) = true by decide]
    exact k _ _ (ZX.trans W10.of) ((hB7.keep W10).mono (by omega))
end
end Nw
namespace Nw
open PySem L2 PySem.Spec PyProof.Rows RZ
def spLaw (K : PySem.W.Frag) : Sp := fun vs H Q _ => ∃ (a : Addr) (ns : List Int), vs = [.ref a] ∧ SqL K H a (ns.map V.int) ∧ ns.length ≤ 63 ∧ ∀ H', Q (.bl true) H'
section
variable {P : Program} {w : World} {K : PySem.W.Frag} {mg : Str → Option Value} {base : Heap}
theorem lLaw {f : Addr} {fd : FuncData} (F : C8.Def K mg "law" s_law f fd) (T : Names K mg)
    (c__law_bag : C8.Cal P w K mg base 1 "_law_bag" (spBag K) []) (c__law_columns : C8.Cal P w K mg base 2 "_law_columns" spColumns []) (c__law_right : C8.Cal P w K mg base 5 "_law_right" spRight []) :
    FnOk P w K mg base C8.CX0 6 f fd ["_law_script"] (spLaw K) := by
  refine C8.fn0 F.fn sc_law (fun vs H Q E h => ?_) (fun cdv A outer s H vs Q E hr h => ?_)
  · obtain ⟨a, ns, rfl, _⟩ := h
    rfl
  · obtain ⟨a, ns, rfl, hS, hlen, k⟩ := h
    have hu := hu_of hr
    refine ⟨_, (pss_cons (ps_for PassesOwn.never rfl (pi_range1 rfl T.n_range (pa_cons (pe_callB (call_max2 rfl) (by rfl) T.n_max (by decide +kernel) (pa_cons pe_int (pa_cons (pe_callB (call_min2 rfl) (by rfl) T.n_min (by decide +kernel) (pa_cons pe_int (pa_cons (pe_callB call_len_seq (by rfl) T.n_len PySem.boot_len (pa_cons (pv 0) pa_nil)) pa_nil))) pa_nil))) pa_nil)) (pg_name (i := 1) sc_law.nd rfl (Or.inl rfl)) (pss_cons (ps_set (i := 2) sc_law.nd rfl (Or.inl rfl) (C8.pe_c c__law_bag hr (by decide) rfl (pa_cons (pv 0) (pa_cons (pv 1) pa_nil))))
 (pss_one (ps_for PassesOwn.never rfl (pi_range1 rfl T.n_range (pa_cons pe_int pa_nil)) (pg_name (i := 3) sc_law.nd rfl (Or.inl rfl)) (pss_one (ps_if (pt_not (pt_val (C8.pe_c c__law_right hr (by decide) rfl (pa_cons (pv 2) (pa_cons (C8.pe_c c__law_columns hr (by decide) rfl (pa_cons (pv 2) pa_nil)) pa_nil))))) (pss_one (ps_ret pe_bl)) pss_nil))))))
 (pss_one (ps_ret pe_bl))), ?_⟩
    have small : ∀ n : Int, (if (if n < 4 then n else 4) > 1 then (if n < 4 then n else 4) else 1) ≤ 4 := fun n => by split <;> split <;> omega
    have big : ∀ n : Int, 1 ≤ (if (if n < 4 then n else 4) > 1 then (if n < 4 then n else 4) else 1) := fun n => by split <;> omega
    refine ⟨_, rfl, a, _, rfl, .inl hS, _, _, rfl, _, _, rfl, _, rfl, Int.le_trans (by decide) (big _), Int.lt_of_le_of_lt (small _) (by decide), ?_⟩
    refine for_it walk_range (fun i σ' H' => ∃ v1 v2 v3 : Option V, σ' = [some (.ref a), v1, v2, v3] ∧ Same H H') ?_ ?_ ?_ ?_
    · exact ⟨none, none, none, rfl, fun _ _ h => h⟩
    · exact fun _ _ _ _ _ => trivial
    · rintro i y σ' H1 H2 hi ⟨v1, v2, v3, rfl, s1⟩ ⟨rfl, rfl⟩
      have hi4 : (i : Int) ≤ 4 := by
        have := small (((ns.map V.int).length : Nat) : Int)
        omega
      refine ⟨_, rfl, _, rfl, a, ns, _, rfl, s1.seq hS, by omega, by omega, fun p x y z hp hB => ?_⟩
      refine ⟨_, rfl, by decide, by decide, ?_⟩
      refine for_it walk_range (fun j σ' H' => ∃ (G' : Hp) (v3 : Option V), σ' = [some (.ref a), some (.int (0 + (i : Int))), some (.ref p), v3] ∧ Xt (some p) (upd H2 p (.lst [.int x, .int y, .int z])) H2 H' G' ∧ Bag H' p (20 * (j : Int)) ∧ G' p = none) ?_ ?_ ?_ ?_
      · exact ⟨H2, _, rfl, Xt.refl (upd_same_ hp), hB, hp⟩
      · exact fun _ _ _ _ _ => trivial
      · rintro j y2 σ' H3 H4 hj ⟨G3, v3', rfl, X, hB3, g3⟩ ⟨rfl, rfl⟩
        have hj3 : (j : Int) ≤ 3 := by
          have : ((3 : Int).toNat) = 3 := rfl
          omega
        refine ⟨_, rfl, _, rfl, p, _, G3, rfl, hB3, by omega, g3, X.sub, fun q cols xs H5 G5 X5 hB5 good gq dq => ?_⟩
        have g5 : G5 p = none := X5.non hB3.ne g3
        refine ⟨p, q, _, cols, G5, rfl, .lst gq dq, good, hB5, by omega, g5, X5.sub, fun H6 G6 X6 hB6 => ⟨_, rfl, ?_⟩⟩
        refine iteF ?_
        exact ⟨G6, _, rfl, (X.trans X5).trans X6, hB6.mono (by push_cast; omega), X6.non hB5.ne g5⟩
      · rintro σ' H3 ⟨G3, v3', rfl, X, hB3, g3⟩
        exact ⟨_, _, _, rfl, fun _ _ h => X.sub _ _ (X.gg _ _ (s1 _ _ h))⟩
    · rintro σ' H1 ⟨v1, v2, v3, rfl, s1⟩
      exact k _
end
end Nw
namespace Nw
open PySem L2 PySem.Spec PyProof.Rows RZ
/-! ### what the top has written -/
theorem all_mk {P : Program} {w : World} {K : PySem.W.Frag} {h : Heap} {mg : Str → Option Value} {fa C R : Addr} {f_d0 f_d1 f_d2 f_d3 f_d4 f_d5 f_d6 f_d7 f_d8 f_d9 f_d10 f_d11 f_d12 f_m0 f_m1 f_m2 f_m3 f_m4 f_m5 : Addr} (X : K.In h) (G : h.Ns mainGlobals mg) (hfa : mg "law" = some (.ref fa))
    {od_d0 an_d0 od_d1 an_d1 od_d2 an_d2 od_d3 an_d3 od_d4 an_d4 od_d5 an_d5 od_d6 an_d6 od_d7 an_d7 od_d8 an_d8 od_d9 an_d9 od_d10 an_d10 od_d11 an_d11 od_d12 an_d12 od_m0 an_m0 od_m1 an_m1 od_m2 an_m2 od_m3 an_m3 od_m4 an_m4 od_m5 an_m5 odR : Option Addr} {sl_d0 sl_d1 sl_d2 sl_d3 sl_d4 sl_d5 sl_d6 sl_d7 sl_d8 sl_d9 sl_d10 sl_d11 sl_d12 sl_m0 sl_m1 sl_m2 sl_m3 sl_m4 sl_m5 slR : Array (Option Value)} {oc_d0 kV_d0 dc_d0 pm_d0 cd_d0 ct_d0 oc_d1 kV_d1 dc_d1 pm_d1 cd_d1 ct_d1 oc_d2 kV_d2 dc_d2 pm_d2 cd_d2 ct_d2 oc_d3 kV_d3 dc_d3 pm_d3 cd_d3 ct_d3 oc_d4 kV_d4 dc_d4 pm_d4 cd_d4 ct_d4 oc_d5 kV_d5 dc_d5 pm_d5 cd_d5 ct_d5 oc_d6 kV_d6 dc_d6 pm_d6 cd_d6 ct_d6 oc_d7 kV_d7 dc_d7 pm_d7 cd_d7 ct_d7 oc_d8 kV_d8 dc_d8 pm_d8 cd_d8 ct_d8 oc_d9 kV_d9 dc_d9 pm_d9 cd_d9 ct_d9 oc_d10 kV_d10 dc_d10 pm_d10 cd_d10 ct_d10 oc_d11 kV_d11 dc_d11 pm_d11 cd_d11 ct_d11 oc_d12 kV_d12 dc_d12 pm_d12 cd_d12 ct_d12 oc_m0 kV_m0 dc_m0 pm_m0 cd_m0 ct_m0 oc_m1 kV_m1 dc_m1 pm_m1 cd_m1 ct_m1 oc_m2 kV_m2 dc_m2 pm_m2 cd_m2 ct_m2 oc_m3 kV_m3 dc_m3 pm_m3 cd_m3 ct_m3 oc_m4 kV_m4 dc_m4 pm_m4 cd_m4 ct_m4 oc_m5 kV_m5 dc_m5 pm_m5 cd_m5 ct_m5 uL ocR : Value} {itsR : Array Value} {nR : Nat}
    (a_d0 : PySem.W.nsIn K mainGlobals "is_word" = some (some (.ref f_d0)))
    (l_d0 : K.lookup f_d0 = some ⟨oc_d0, od_d0, .func (PySem.W.fnOf "is_word" "is_word" (C8.fnArgs s_is_word) (C8.fnBody s_is_word) (C8.fnScope s_is_word) .none kV_d0 dc_d0 pm_d0 an_d0 cd_d0 ct_d0), sl_d0⟩)
    (c_d0 : PySem.W.codeIn K cd_d0 "is_word" = true)
    (k_d0 : PySem.W.keepIn K (.ref f_d0) = true)
    (a_d1 : PySem.W.nsIn K mainGlobals "is_integer" = some (some (.ref f_d1)))
    (l_d1 : K.lookup f_d1 = some ⟨oc_d1, od_d1, .func (PySem.W.fnOf "is_integer" "is_integer" (C8.fnArgs s_is_integer) (C8.fnBody s_is_integer) (C8.fnScope s_is_integer) .none kV_d1 dc_d1 pm_d1 an_d1 cd_d1 ct_d1), sl_d1⟩)
    (c_d1 : PySem.W.codeIn K cd_d1 "is_integer" = true)
    (k_d1 : PySem.W.keepIn K (.ref f_d1) = true)
    (a_d2 : PySem.W.nsIn K mainGlobals "is_tuple_of" = some (some (.ref f_d2)))
    (l_d2 : K.lookup f_d2 = some ⟨oc_d2, od_d2, .func (PySem.W.fnOf "is_tuple_of" "is_tuple_of" (C8.fnArgs s_is_tuple_of) (C8.fnBody s_is_tuple_of) (C8.fnScope s_is_tuple_of) .none kV_d2 dc_d2 pm_d2 an_d2 cd_d2 ct_d2), sl_d2⟩)
    (c_d2 : PySem.W.codeIn K cd_d2 "is_tuple_of" = true)
    (k_d2 : PySem.W.keepIn K (.ref f_d2) = true)
    (a_d3 : PySem.W.nsIn K mainGlobals "is_column" = some (some (.ref f_d3)))
    (l_d3 : K.lookup f_d3 = some ⟨oc_d3, od_d3, .func (PySem.W.fnOf "is_column" "is_column" (C8.fnArgs s_is_column) (C8.fnBody s_is_column) (C8.fnScope s_is_column) .none kV_d3 dc_d3 pm_d3 an_d3 cd_d3 ct_d3), sl_d3⟩)
    (c_d3 : PySem.W.codeIn K cd_d3 "is_column" = true)
    (k_d3 : PySem.W.keepIn K (.ref f_d3) = true)
    (a_d4 : PySem.W.nsIn K mainGlobals "_law_bag" = some (some (.ref f_d4)))
    (l_d4 : K.lookup f_d4 = some ⟨oc_d4, od_d4, .func (PySem.W.fnOf "_law_bag" "_law_bag" (C8.fnArgs s__law_bag) (C8.fnBody s__law_bag) (C8.fnScope s__law_bag) .none kV_d4 dc_d4 pm_d4 an_d4 cd_d4 ct_d4), sl_d4⟩)
    (c_d4 : PySem.W.codeIn K cd_d4 "_law_bag" = true)
    (k_d4 : PySem.W.keepIn K (.ref f_d4) = true)
    (a_d5 : PySem.W.nsIn K mainGlobals "_law_take" = some (some (.ref f_d5)))
    (l_d5 : K.lookup f_d5 = some ⟨oc_d5, od_d5, .func (PySem.W.fnOf "_law_take" "_law_take" (C8.fnArgs s__law_take) (C8.fnBody s__law_take) (C8.fnScope s__law_take) .none kV_d5 dc_d5 pm_d5 an_d5 cd_d5 ct_d5), sl_d5⟩)
    (c_d5 : PySem.W.codeIn K cd_d5 "_law_take" = true)
    (k_d5 : PySem.W.keepIn K (.ref f_d5) = true)
    (a_d6 : PySem.W.nsIn K mainGlobals "_law_of" = some (some (.ref f_d6)))
    (l_d6 : K.lookup f_d6 = some ⟨oc_d6, od_d6, .func (PySem.W.fnOf "_law_of" "_law_of" (C8.fnArgs s__law_of) (C8.fnBody s__law_of) (C8.fnScope s__law_of) .none kV_d6 dc_d6 pm_d6 an_d6 cd_d6 ct_d6), sl_d6⟩)
    (c_d6 : PySem.W.codeIn K cd_d6 "_law_of" = true)
    (k_d6 : PySem.W.keepIn K (.ref f_d6) = true)
    (a_d7 : PySem.W.nsIn K mainGlobals "_law_columns" = some (some (.ref f_d7)))
    (l_d7 : K.lookup f_d7 = some ⟨oc_d7, od_d7, .func (PySem.W.fnOf "_law_columns" "_law_columns" (C8.fnArgs s__law_columns) (C8.fnBody s__law_columns) (C8.fnScope s__law_columns) .none kV_d7 dc_d7 pm_d7 an_d7 cd_d7 ct_d7), sl_d7⟩)
    (c_d7 : PySem.W.codeIn K cd_d7 "_law_columns" = true)
    (k_d7 : PySem.W.keepIn K (.ref f_d7) = true)
    (a_d8 : PySem.W.nsIn K mainGlobals "_law_values" = some (some (.ref f_d8)))
    (l_d8 : K.lookup f_d8 = some ⟨oc_d8, od_d8, .func (PySem.W.fnOf "_law_values" "_law_values" (C8.fnArgs s__law_values) (C8.fnBody s__law_values) (C8.fnScope s__law_values) .none kV_d8 dc_d8 pm_d8 an_d8 cd_d8 ct_d8), sl_d8⟩)
    (c_d8 : PySem.W.codeIn K cd_d8 "_law_values" = true)
    (k_d8 : PySem.W.keepIn K (.ref f_d8) = true)
    (a_d9 : PySem.W.nsIn K mainGlobals "_law_odd" = some (some (.ref f_d9)))
    (l_d9 : K.lookup f_d9 = some ⟨oc_d9, od_d9, .func (PySem.W.fnOf "_law_odd" "_law_odd" (C8.fnArgs s__law_odd) (C8.fnBody s__law_odd) (C8.fnScope s__law_odd) .none kV_d9 dc_d9 pm_d9 an_d9 cd_d9 ct_d9), sl_d9⟩)
    (c_d9 : PySem.W.codeIn K cd_d9 "_law_odd" = true)
    (k_d9 : PySem.W.keepIn K (.ref f_d9) = true)
    (a_d10 : PySem.W.nsIn K mainGlobals "_law_others" = some (some (.ref f_d10)))
    (l_d10 : K.lookup f_d10 = some ⟨oc_d10, od_d10, .func (PySem.W.fnOf "_law_others" "_law_others" (C8.fnArgs s__law_others) (C8.fnBody s__law_others) (C8.fnScope s__law_others) .none kV_d10 dc_d10 pm_d10 an_d10 cd_d10 ct_d10), sl_d10⟩)
    (c_d10 : PySem.W.codeIn K cd_d10 "_law_others" = true)
    (k_d10 : PySem.W.keepIn K (.ref f_d10) = true)
    (a_d11 : PySem.W.nsIn K mainGlobals "_law_right" = some (some (.ref f_d11)))
    (l_d11 : K.lookup f_d11 = some ⟨oc_d11, od_d11, .func (PySem.W.fnOf "_law_right" "_law_right" (C8.fnArgs s__law_right) (C8.fnBody s__law_right) (C8.fnScope s__law_right) .none kV_d11 dc_d11 pm_d11 an_d11 cd_d11 ct_d11), sl_d11⟩)
    (c_d11 : PySem.W.codeIn K cd_d11 "_law_right" = true)
    (k_d11 : PySem.W.keepIn K (.ref f_d11) = true)
    (a_d12 : PySem.W.nsIn K mainGlobals "law" = some (some (.ref f_d12)))
    (l_d12 : K.lookup f_d12 = some ⟨oc_d12, od_d12, .func (PySem.W.fnOf "law" "law" (C8.fnArgs s_law) (C8.fnBody s_law) (C8.fnScope s_law) .none kV_d12 dc_d12 pm_d12 an_d12 cd_d12 ct_d12), sl_d12⟩)
    (c_d12 : PySem.W.codeIn K cd_d12 "law" = true)
    (k_d12 : PySem.W.keepIn K (.ref f_d12) = true)
    (aC : PySem.W.nsIn K mainGlobals "Table" = some (some (.ref C)))
    (a_m0 : PySem.W.findIn K (.ref C) "__init__" = some (some (.ref f_m0)))
    (i_m0 : PySem.W.isFn K (.ref f_m0) = true)
    (l_m0 : K.lookup f_m0 = some ⟨oc_m0, od_m0, .func (PySem.W.fnOf "__init__" "Table.__init__" (C8.fnArgs s_Table____init__) (C8.fnBody s_Table____init__) (C8.fnScope s_Table____init__) .none kV_m0 dc_m0 pm_m0 an_m0 cd_m0 ct_m0), sl_m0⟩)
    (c_m0 : PySem.W.codeIn K cd_m0 "Table.__init__" = true)
    (k_m0 : PySem.W.keepIn K (.ref f_m0) = true)
    (a_m1 : PySem.W.findIn K (.ref C) "all_values" = some (some (.ref f_m1)))
    (i_m1 : PySem.W.isFn K (.ref f_m1) = true)
    (l_m1 : K.lookup f_m1 = some ⟨oc_m1, od_m1, .func (PySem.W.fnOf "all_values" "Table.all_values" (C8.fnArgs s_Table__all_values) (C8.fnBody s_Table__all_values) (C8.fnScope s_Table__all_values) .none kV_m1 dc_m1 pm_m1 an_m1 cd_m1 ct_m1), sl_m1⟩)
    (c_m1 : PySem.W.codeIn K cd_m1 "Table.all_values" = true)
    (k_m1 : PySem.W.keepIn K (.ref f_m1) = true)
    (a_m2 : PySem.W.findIn K (.ref C) "__len__" = some (some (.ref f_m2)))
    (i_m2 : PySem.W.isFn K (.ref f_m2) = true)
    (l_m2 : K.lookup f_m2 = some ⟨oc_m2, od_m2, .func (PySem.W.fnOf "__len__" "Table.__len__" (C8.fnArgs s_Table____len__) (C8.fnBody s_Table____len__) (C8.fnScope s_Table____len__) .none kV_m2 dc_m2 pm_m2 an_m2 cd_m2 ct_m2), sl_m2⟩)
    (c_m2 : PySem.W.codeIn K cd_m2 "Table.__len__" = true)
    (k_m2 : PySem.W.keepIn K (.ref f_m2) = true)
    (a_m3 : PySem.W.findIn K (.ref C) "__contains__" = some (some (.ref f_m3)))
    (i_m3 : PySem.W.isFn K (.ref f_m3) = true)
    (l_m3 : K.lookup f_m3 = some ⟨oc_m3, od_m3, .func (PySem.W.fnOf "__contains__" "Table.__contains__" (C8.fnArgs s_Table____contains__) (C8.fnBody s_Table____contains__) (C8.fnScope s_Table____contains__) .none kV_m3 dc_m3 pm_m3 an_m3 cd_m3 ct_m3), sl_m3⟩)
    (c_m3 : PySem.W.codeIn K cd_m3 "Table.__contains__" = true)
    (k_m3 : PySem.W.keepIn K (.ref f_m3) = true)
    (a_m4 : PySem.W.findIn K (.ref C) "__eq__" = some (some (.ref f_m4)))
    (i_m4 : PySem.W.isFn K (.ref f_m4) = true)
    (l_m4 : K.lookup f_m4 = some ⟨oc_m4, od_m4, .func (PySem.W.fnOf "__eq__" "Table.__eq__" (C8.fnArgs s_Table____eq__) (C8.fnBody s_Table____eq__) (C8.fnScope s_Table____eq__) .none kV_m4 dc_m4 pm_m4 an_m4 cd_m4 ct_m4), sl_m4⟩)
    (c_m4 : PySem.W.codeIn K cd_m4 "Table.__eq__" = true)
    (k_m4 : PySem.W.keepIn K (.ref f_m4) = true)
    (a_m5 : PySem.W.findIn K (.ref C) "__repr__" = some (some (.ref f_m5)))
    (i_m5 : PySem.W.isFn K (.ref f_m5) = true)
    (l_m5 : K.lookup f_m5 = some ⟨oc_m5, od_m5, .func (PySem.W.fnOf "__repr__" "Table.__repr__" (C8.fnArgs s_Table____repr__) (C8.fnBody s_Table____repr__) (C8.fnScope s_Table____repr__) .none kV_m5 dc_m5 pm_m5 an_m5 cd_m5 ct_m5), sl_m5⟩)
    (c_m5 : PySem.W.codeIn K cd_m5 "Table.__repr__" = true)
    (k_m5 : PySem.W.keepIn K (.ref f_m5) = true)
    (pg : PySem.W.plainGet K C Str.empty = true)
    (hd : PySem.W.hasDictIn K C = true)
    (po : PySem.W.plainOver K C = true)
    (sa : PySem.W.findIn K (.ref C) "__setattr__" = some (some (.builtin "object.__setattr__")))
    (mk : PySem.W.makesIn K C = true)
    (kc : PySem.W.keepIn K (.ref C) = true)
    (nC : PySem.W.findIn K (.ref C) "columns" = some none)
    (nT : PySem.W.findIn K (.ref C) "tops" = some none)
    (ic_non : PySem.W.kitOne K (.type "NoneType") (.ref C) = some false)
    (ic_bl : PySem.W.kitOne K (.type "bool") (.ref C) = some false)
    (ic_int : PySem.W.kitOne K (.type "int") (.ref C) = some false)
    (ic_str : PySem.W.kitOne K (.type "str") (.ref C) = some false)
    (ic_lst : PySem.W.kitOne K (.type "list") (.ref C) = some false)
    (ic_tup : PySem.W.kitOne K (.type "tuple") (.ref C) = some false)
    (ha : PySem.W.findIn K (.ref C) "__class__" = some (some (.builtin "object.__class__")))
    (hn : PySem.W.specialIn K (.builtin "object.__class__") "__get__" = some (some (.builtin "getset_descriptor.__get__")))
    (htk : PySem.W.takesIn K (.builtin "object.__class__") = some true)
    (hm : PySem.W.mroIn K C (.type "object") = some true)
    (nf_non : PySem.W.notFirst K C (.type "NoneType") = true)
    (nf_bl : PySem.W.notFirst K C (.type "bool") = true)
    (nf_int : PySem.W.notFirst K C (.type "int") = true)
    (nf_str : PySem.W.notFirst K C (.type "str") = true)
    (nf_lst : PySem.W.notFirst K C (.type "list") = true)
    (nf_tup : PySem.W.notFirst K C (.type "tuple") = true)
    (nne : PySem.W.findIn K (.ref C) "__ne__" = some (some (.builtin "object.__ne__")))
    (gL : PySem.W.nsIn K mainGlobals "LETTERS" = some (some uL))
    (gR : PySem.W.nsIn K mainGlobals "RESERVED" = some (some (.ref R)))
    (lR : K.lookup R = some ⟨ocR, odR, .seq itsR nR, slR⟩)
    (z_len : PySem.W.nsIn K mainGlobals "len" = some none)
    (z_range : PySem.W.nsIn K mainGlobals "range" = some none)
    (z_abs : PySem.W.nsIn K mainGlobals "abs" = some none)
    (z_int : PySem.W.nsIn K mainGlobals "int" = some none)
    (z_str : PySem.W.nsIn K mainGlobals "str" = some none)
    (z_bool : PySem.W.nsIn K mainGlobals "bool" = some none)
    (z_tuple : PySem.W.nsIn K mainGlobals "tuple" = some none)
    (z_list : PySem.W.nsIn K mainGlobals "list" = some none)
    (z_isinstance : PySem.W.nsIn K mainGlobals "isinstance" = some none)
    (z_all : PySem.W.nsIn K mainGlobals "all" = some none)
    (z_any : PySem.W.nsIn K mainGlobals "any" = some none)
    (z_max : PySem.W.nsIn K mainGlobals "max" = some none)
    (z_min : PySem.W.nsIn K mainGlobals "min" = some none)
    (z_enumerate : PySem.W.nsIn K mainGlobals "enumerate" = some none)
    (z_zip : PySem.W.nsIn K mainGlobals "zip" = some none)
    (z_repr : PySem.W.nsIn K mainGlobals "repr" = some none)
    (rL : RelV (.str LET) uL)
    (eR : ocR = .type "tuple")
    (zR : itsR.size ≤ sizeLine)
    (vR : Vals (RES.map V.str) itsR.toList)
    :
    ∃ fd : FuncData, (∀ (s : Shared) (v : Value), BindsTo s fd ⟨[v], []⟩ [("_law_script", v)]) ∧ ∀ base : Heap, K.In base → base.Ns mainGlobals mg → FnOk P w K mg base C8.CX0 6 fa fd ["_law_script"] (spLaw K) := by
  have e := hfa.symm.trans (PySem.W.mg_of X G a_d12)
  cases e
  have T : Names K mg := ⟨PySem.W.mg_none_of X G z_len, PySem.W.mg_none_of X G z_range, PySem.W.mg_none_of X G z_abs, PySem.W.mg_none_of X G z_int, PySem.W.mg_none_of X G z_str, PySem.W.mg_none_of X G z_bool, PySem.W.mg_none_of X G z_tuple, PySem.W.mg_none_of X G z_list, PySem.W.mg_none_of X G z_isinstance, PySem.W.mg_none_of X G z_all, PySem.W.mg_none_of X G z_any, PySem.W.mg_none_of X G z_max, PySem.W.mg_none_of X G z_min, PySem.W.mg_none_of X G z_enumerate, PySem.W.mg_none_of X G z_zip, PySem.W.mg_none_of X G z_repr, ⟨_, PySem.W.mg_of X G gL, rL⟩, R, ⟨_, PySem.W.mg_of X G gR, rfl⟩, fun H => .inr ⟨_, itsR, nR, lR, eR, rfl, zR, vR⟩⟩
  have TC : TabC K mg C := ⟨⟨pg, hd, po, sa⟩, nC, nT⟩
  have IC : IsC K C := ⟨ic_non, ic_bl, ic_int, ic_str, ic_lst, ic_tup, ha, hn, htk, hm⟩
  have NF : NoFirst K C := ⟨nf_non, nf_bl, nf_int, nf_str, nf_lst, nf_tup, nne, hm⟩
  have gC := PySem.W.mg_of X G aC
  have F_d0 : C8.Def K mg "is_word" s_is_word f_d0 _ := ⟨⟨oc_d0, od_d0, .none, kV_d0, dc_d0, pm_d0, an_d0, cd_d0, ct_d0, sl_d0, rfl, l_d0, c_d0⟩, PySem.W.mg_of X G a_d0, k_d0⟩
  have b_d0 : Binds K _ P_is_word [] := F_d0.fn.binds rfl fun _ _ _ _ _ _ us hl => match us, hl with | [_], _ => rfl
  have F_d1 : C8.Def K mg "is_integer" s_is_integer f_d1 _ := ⟨⟨oc_d1, od_d1, .none, kV_d1, dc_d1, pm_d1, an_d1, cd_d1, ct_d1, sl_d1, rfl, l_d1, c_d1⟩, PySem.W.mg_of X G a_d1, k_d1⟩
  have b_d1 : Binds K _ P_is_integer [] := F_d1.fn.binds rfl fun _ _ _ _ _ _ us hl => match us, hl with | [_], _ => rfl
  have F_d2 : C8.Def K mg "is_tuple_of" s_is_tuple_of f_d2 _ := ⟨⟨oc_d2, od_d2, .none, kV_d2, dc_d2, pm_d2, an_d2, cd_d2, ct_d2, sl_d2, rfl, l_d2, c_d2⟩, PySem.W.mg_of X G a_d2, k_d2⟩
  have b_d2 : Binds K _ P_is_tuple_of [] := F_d2.fn.binds rfl fun _ _ _ _ _ _ us hl => match us, hl with | [_, _], _ => rfl
  have F_d3 : C8.Def K mg "is_column" s_is_column f_d3 _ := ⟨⟨oc_d3, od_d3, .none, kV_d3, dc_d3, pm_d3, an_d3, cd_d3, ct_d3, sl_d3, rfl, l_d3, c_d3⟩, PySem.W.mg_of X G a_d3, k_d3⟩
  have b_d3 : Binds K _ P_is_column [] := F_d3.fn.binds rfl fun _ _ _ _ _ _ us hl => match us, hl with | [_], _ => rfl
  have F_d4 : C8.Def K mg "_law_bag" s__law_bag f_d4 _ := ⟨⟨oc_d4, od_d4, .none, kV_d4, dc_d4, pm_d4, an_d4, cd_d4, ct_d4, sl_d4, rfl, l_d4, c_d4⟩, PySem.W.mg_of X G a_d4, k_d4⟩
  have b_d4 : Binds K _ P__law_bag [] := F_d4.fn.binds rfl fun _ _ _ _ _ _ us hl => match us, hl with | [_, _], _ => rfl
  have F_d5 : C8.Def K mg "_law_take" s__law_take f_d5 _ := ⟨⟨oc_d5, od_d5, .none, kV_d5, dc_d5, pm_d5, an_d5, cd_d5, ct_d5, sl_d5, rfl, l_d5, c_d5⟩, PySem.W.mg_of X G a_d5, k_d5⟩
  have b_d5 : Binds K _ P__law_take [] := F_d5.fn.binds rfl fun _ _ _ _ _ _ us hl => match us, hl with | [_, _], _ => rfl
  have F_d6 : C8.Def K mg "_law_of" s__law_of f_d6 _ := ⟨⟨oc_d6, od_d6, .none, kV_d6, dc_d6, pm_d6, an_d6, cd_d6, ct_d6, sl_d6, rfl, l_d6, c_d6⟩, PySem.W.mg_of X G a_d6, k_d6⟩
  have b_d6 : Binds K _ P__law_of [] := F_d6.fn.binds rfl fun _ _ _ _ _ _ us hl => match us, hl with | [_, _], _ => rfl
  have F_d7 : C8.Def K mg "_law_columns" s__law_columns f_d7 _ := ⟨⟨oc_d7, od_d7, .none, kV_d7, dc_d7, pm_d7, an_d7, cd_d7, ct_d7, sl_d7, rfl, l_d7, c_d7⟩, PySem.W.mg_of X G a_d7, k_d7⟩
  have b_d7 : Binds K _ P__law_columns [] := F_d7.fn.binds rfl fun _ _ _ _ _ _ us hl => match us, hl with | [_], _ => rfl
  have F_d8 : C8.Def K mg "_law_values" s__law_values f_d8 _ := ⟨⟨oc_d8, od_d8, .none, kV_d8, dc_d8, pm_d8, an_d8, cd_d8, ct_d8, sl_d8, rfl, l_d8, c_d8⟩, PySem.W.mg_of X G a_d8, k_d8⟩
  have b_d8 : Binds K _ P__law_values [] := F_d8.fn.binds rfl fun _ _ _ _ _ _ us hl => match us, hl with | [_], _ => rfl
  have F_d9 : C8.Def K mg "_law_odd" s__law_odd f_d9 _ := ⟨⟨oc_d9, od_d9, .none, kV_d9, dc_d9, pm_d9, an_d9, cd_d9, ct_d9, sl_d9, rfl, l_d9, c_d9⟩, PySem.W.mg_of X G a_d9, k_d9⟩
  have b_d9 : Binds K _ P__law_odd [] := F_d9.fn.binds rfl fun _ _ _ _ _ _ us hl => match us, hl with | [_, _, _], _ => rfl
  have F_d10 : C8.Def K mg "_law_others" s__law_others f_d10 _ := ⟨⟨oc_d10, od_d10, .none, kV_d10, dc_d10, pm_d10, an_d10, cd_d10, ct_d10, sl_d10, rfl, l_d10, c_d10⟩, PySem.W.mg_of X G a_d10, k_d10⟩
  have b_d10 : Binds K _ P__law_others [] := F_d10.fn.binds rfl fun _ _ _ _ _ _ us hl => match us, hl with | [_, _], _ => rfl
  have F_d11 : C8.Def K mg "_law_right" s__law_right f_d11 _ := ⟨⟨oc_d11, od_d11, .none, kV_d11, dc_d11, pm_d11, an_d11, cd_d11, ct_d11, sl_d11, rfl, l_d11, c_d11⟩, PySem.W.mg_of X G a_d11, k_d11⟩
  have b_d11 : Binds K _ P__law_right [] := F_d11.fn.binds rfl fun _ _ _ _ _ _ us hl => match us, hl with | [_, _], _ => rfl
  have F_d12 : C8.Def K mg "law" s_law fa _ := ⟨⟨oc_d12, od_d12, .none, kV_d12, dc_d12, pm_d12, an_d12, cd_d12, ct_d12, sl_d12, rfl, l_d12, c_d12⟩, PySem.W.mg_of X G a_d12, k_d12⟩
  have F_m0 : C8.Fun K "__init__" "Table.__init__" s_Table____init__ f_m0 _ := ⟨oc_m0, od_m0, .none, kV_m0, dc_m0, pm_m0, an_m0, cd_m0, ct_m0, sl_m0, rfl, l_m0, c_m0⟩
  have b_m0 : Binds K _ P_Table____init__ [] := F_m0.binds rfl fun _ _ _ _ _ _ us hl => match us, hl with | [_, _], _ => rfl
  have F_m1 : C8.Fun K "all_values" "Table.all_values" s_Table__all_values f_m1 _ := ⟨oc_m1, od_m1, .none, kV_m1, dc_m1, pm_m1, an_m1, cd_m1, ct_m1, sl_m1, rfl, l_m1, c_m1⟩
  have b_m1 : Binds K _ P_Table__all_values [] := F_m1.binds rfl fun _ _ _ _ _ _ us hl => match us, hl with | [_], _ => rfl
  have F_m2 : C8.Fun K "__len__" "Table.__len__" s_Table____len__ f_m2 _ := ⟨oc_m2, od_m2, .none, kV_m2, dc_m2, pm_m2, an_m2, cd_m2, ct_m2, sl_m2, rfl, l_m2, c_m2⟩
  have b_m2 : Binds K _ P_Table____len__ [] := F_m2.binds rfl fun _ _ _ _ _ _ us hl => match us, hl with | [_], _ => rfl
  have F_m3 : C8.Fun K "__contains__" "Table.__contains__" s_Table____contains__ f_m3 _ := ⟨oc_m3, od_m3, .none, kV_m3, dc_m3, pm_m3, an_m3, cd_m3, ct_m3, sl_m3, rfl, l_m3, c_m3⟩
  have b_m3 : Binds K _ P_Table____contains__ [] := F_m3.binds rfl fun _ _ _ _ _ _ us hl => match us, hl with | [_, _], _ => rfl
  have F_m4 : C8.Fun K "__eq__" "Table.__eq__" s_Table____eq__ f_m4 _ := ⟨oc_m4, od_m4, .none, kV_m4, dc_m4, pm_m4, an_m4, cd_m4, ct_m4, sl_m4, rfl, l_m4, c_m4⟩
  have b_m4 : Binds K _ P_Table____eq__ [] := F_m4.binds rfl fun _ _ _ _ _ _ us hl => match us, hl with | [_, _], _ => rfl
  have F_m5 : C8.Fun K "__repr__" "Table.__repr__" s_Table____repr__ f_m5 _ := ⟨oc_m5, od_m5, .none, kV_m5, dc_m5, pm_m5, an_m5, cd_m5, ct_m5, sl_m5, rfl, l_m5, c_m5⟩
  have b_m5 : Binds K _ P_Table____repr__ [] := F_m5.binds rfl fun _ _ _ _ _ _ us hl => match us, hl with | [_], _ => rfl
  refine ⟨PySem.W.fnOf "law" "law" (C8.fnArgs s_law) (C8.fnBody s_law) (C8.fnScope s_law) .none kV_d12 dc_d12 pm_d12 an_d12 cd_d12 ct_d12, fun s v => .of_eq rfl, fun base _ _ => ?_⟩
  have c_take : C8.Cal P w K mg base 1 "_law_take" spTake [] := take F_d5 b_d5 T
  have c_bag : C8.Cal P w K mg base 1 "_law_bag" (spBag K) [] := bag F_d4 b_d4 T
  have c_of : C8.Cal P w K mg base 2 "_law_of" spOf [] := of_ F_d6 b_d6 T c_take
  have c_columns : C8.Cal P w K mg base 2 "_law_columns" spColumns [] := columns F_d7 b_d7 T c_take
  have c_int : C8.Cal P w K mg base 1 "is_integer" spIsInt [] := isInteger F_d1 b_d1 T
  have c_tup : C8.Cal P w K mg base 1 "is_tuple_of" spTupOf [] := isTupleOf F_d2 b_d2 T
  have c_word : C8.Cal P w K mg base 1 "is_word" spWord [] := isWord_ F_d0 b_d0 T
  have c_col : C8.Cal P w K mg base 2 "is_column" spCol [] := isColumn F_d3 b_d3 T c_word c_int c_tup
  have m_T : C8.Mak P w K mg base 3 "Table" C (spInit C) [] := tInit F_m0 b_m0 ⟨mk, a_m0, i_m0, kc⟩ gC T TC c_col
  have m_all : C8.Met P w K mg base 1 C "all_values" (spAllValues C) [] := tAll F_m1 b_m1 TC ⟨a_m1, i_m1, k_m1⟩ T
  have o_len : Own P w K mg base 1 C "__len__" (spLenT C) := tLen F_m2 b_m2 TC a_m2 i_m2 T
  have o_in : Own P w K mg base 2 C "__contains__" (spIn C) := tContains F_m3 b_m3 TC a_m3 i_m3 T c_int c_tup
  have o_eq : Own P w K mg base 1 C "__eq__" (spEq_ C) := tEq F_m4 b_m4 TC a_m4 i_m4 T ⟨_, gC, rfl⟩ IC
  have o_repr : Own P w K mg base 1 C "__repr__" (spRepr C) := tRepr F_m5 b_m5 TC a_m5 i_m5 T
  have c_values : C8.Cal P w K mg base 1 "_law_values" spValues [] := lValues F_d8 b_d8 T
  have c_odd : C8.Cal P w K mg base 1 "_law_odd" spOdd [] := lOdd F_d9 b_d9 T
  have c_others : C8.Cal P w K mg base 2 "_law_others" spOthers [] := lOthers F_d10 b_d10 T c_take
  have c_right : C8.Cal P w K mg base 5 "_law_right" spRight [] := lRight F_d11 b_d11 T TC NF c_take c_of c_values c_odd c_others m_T m_all o_len o_in o_eq o_repr
  exact lLaw F_d12 T c_bag c_columns c_right
theorem walk {l : PySem.W.OpenLaw} {q : Program} {loose : List Str} {XP : (Str → Option Value) → Heap → Prop} {YP : World → Heap → Prop} {d : DefRec} {K : Params → PySem.W.Frag} (hn : l.most = some 63) (hdf : d.params.defaults = [])
    (hY : ∀ (w : World) (h : Heap), YP w h → (K w.params).In h)
    (F : ∀ (w : World) (mg : Str → Option Value) (fa : Addr) (h : Heap), (K w.params).In h → h.Ns mainGlobals mg → mg d.name = some (.ref fa) →
      ∃ fd : FuncData, (∀ (s : Shared) (u : Value), BindsTo s fd ⟨[u], []⟩ [("_law_script", u)]) ∧ ∀ base : Heap, (K w.params).In base → base.Ns mainGlobals mg → FnOk l.prog w (K w.params) mg base C8.CX0 6 fa fd ["_law_script"] (spLaw (K w.params))) :
    PySem.W.WalkO q loose XP YP l.row.toRowW d [] (fun f vs => PySem.call f vs) :=
  L2.walk_of (n := 63) (k := 6) (x := "_law_script") (CX := fun _ => C8.CX0) (sp := fun w => spLaw (K w.params)) hn (by decide) hdf ⟨rfl, by decide, by decide⟩ hY F (fun _ _ a ns hl _ hS => ⟨a, ns, rfl, hS, hl, fun _ => rfl⟩) fun _ _ _ _ _ z => z
end Nw
open PySem PySem.W PyProof.Rows in
set_option maxRecDepth 100000 in
set_option maxHeartbeats 0 in
theorem PySem.Challenge.cw_newestrow_k01_tables_made_holds : PySem.Challenge.rw_newestrow_k01_tables_made.Holds := by
  w_on; o_law; k_head; (case hw => w_witness2)
  k_fill
  refine Nw.walk (l := PySem.Challenge.rw_newestrow_k01_tables_made) rfl rfl (fun w h Y => PySem.W.kIn_of Y) ?F
  case F =>
    intro w mg fa h KX G hmg
    refine' Nw.all_mk KX G hmg ?a_d0 ?l_d0 ?c_d0 ?k_d0 ?a_d1 ?l_d1 ?c_d1 ?k_d1 ?a_d2 ?l_d2 ?c_d2 ?k_d2 ?a_d3 ?l_d3 ?c_d3 ?k_d3 ?a_d4 ?l_d4 ?c_d4 ?k_d4 ?a_d5 ?l_d5 ?c_d5 ?k_d5 ?a_d6 ?l_d6 ?c_d6 ?k_d6 ?a_d7 ?l_d7 ?c_d7 ?k_d7 ?a_d8 ?l_d8 ?c_d8 ?k_d8 ?a_d9 ?l_d9 ?c_d9 ?k_d9 ?a_d10 ?l_d10 ?c_d10 ?k_d10 ?a_d11 ?l_d11 ?c_d11 ?k_d11 ?a_d12 ?l_d12 ?c_d12 ?k_d12 ?aC ?a_m0 ?i_m0 ?l_m0 ?c_m0 ?k_m0 ?a_m1 ?i_m1 ?l_m1 ?c_m1 ?k_m1 ?a_m2 ?i_m2 ?l_m2 ?c_m2 ?k_m2 ?a_m3 ?i_m3 ?l_m3 ?c_m3 ?k_m3 ?a_m4 ?i_m4 ?l_m4 ?c_m4 ?k_m4 ?a_m5 ?i_m5 ?l_m5 ?c_m5 ?k_m5 ?pg ?hd ?po ?sa ?mk ?kc ?nC ?nT ?ic_non ?ic_bl ?ic_int ?ic_str ?ic_lst ?ic_tup ?ha ?hn ?htk ?hm ?nf_non ?nf_bl ?nf_int ?nf_str ?nf_lst ?nf_tup ?nne ?gL ?gR ?lR ?z_len ?z_range ?z_abs ?z_int ?z_str ?z_bool ?z_tuple ?z_list ?z_isinstance ?z_all ?z_any ?z_max ?z_min ?z_enumerate ?z_zip ?z_repr ?rL ?eR ?zR ?vR
    (case a_d0 => k_is)
    (case l_d0 => k_is)
    (case c_d0 => k_is)
    (case k_d0 => k_is)
    (case a_d1 => k_is)
    (case l_d1 => k_is)
    (case c_d1 => k_is)
    (case k_d1 => k_is)
    (case a_d2 => k_is)
    (case l_d2 => k_is)
    (case c_d2 => k_is)
    (case k_d2 => k_is)
    (case a_d3 => k_is)
    (case l_d3 => k_is)
    (case c_d3 => k_is)
    (case k_d3 => k_is)
    (case a_d4 => k_is)
    (case l_d4 => k_is)
    (case c_d4 => k_is)
    (case k_d4 => k_is)
    (case a_d5 => k_is)
    (case l_d5 => k_is)
    (case c_d5 => k_is)
    (case k_d5 => k_is)
    (case a_d6 => k_is)
    (case l_d6 => k_is)
    (case c_d6 => k_is)
    (case k_d6 => k_is)
    (case a_d7 => k_is)
    (case l_d7 => k_is)
    (case c_d7 => k_is)
    (case k_d7 => k_is)
    (case a_d8 => k_is)
    (case l_d8 => k_is)
    (case c_d8 => k_is)
    (case k_d8 => k_is)
    (case a_d9 => k_is)
    (case l_d9 => k_is)
    (case c_d9 => k_is)
    (case k_d9 => k_is)
    (case a_d10 => k_is)
    (case l_d10 => k_is)
    (case c_d10 => k_is)
    (case k_d10 => k_is)
    (case a_d11 => k_is)
    (case l_d11 => k_is)
    (case c_d11 => k_is)
    (case k_d11 => k_is)
    (case a_d12 => k_is)
    (case l_d12 => k_is)
    (case c_d12 => k_is)
    (case k_d12 => k_is)
    (case aC => k_is)
    (case a_m0 => k_is)
    (case i_m0 => k_is)
    (case l_m0 => k_is)
    (case c_m0 => k_is)
    (case k_m0 => k_is)
    (case a_m1 => k_is)
    (case i_m1 => k_is)
    (case l_m1 => k_is)
    (case c_m1 => k_is)
    (case k_m1 => k_is)
    (case a_m2 => k_is)
    (case i_m2 => k_is)
    (case l_m2 => k_is)
    (case c_m2 => k_is)
    (case k_m2 => k_is)
    (case a_m3 => k_is)
    (case i_m3 => k_is)
    (case l_m3 => k_is)
    (case c_m3 => k_is)
    (case k_m3 => k_is)
    (case a_m4 => k_is)
    (case i_m4 => k_is)
    (case l_m4 => k_is)
    (case c_m4 => k_is)
    (case k_m4 => k_is)
    (case a_m5 => k_is)
    (case i_m5 => k_is)
    (case l_m5 => k_is)
    (case c_m5 => k_is)
    (case k_m5 => k_is)
    (case pg => k_is)
    (case hd => k_is)
    (case po => k_is)
    (case sa => k_is)
    (case mk => k_is)
    (case kc => k_is)
    (case nC => k_is)
    (case nT => k_is)
    (case ic_non => kit_is)
    (case ic_bl => kit_is)
    (case ic_int => kit_is)
    (case ic_str => kit_is)
    (case ic_lst => kit_is)
    (case ic_tup => kit_is)
    (case ha => k_is)
    (case hn => k_is)
    (case htk => k_is)
    (case hm => k_is)
    (case nf_non => k_is)
    (case nf_bl => k_is)
    (case nf_int => k_is)
    (case nf_str => k_is)
    (case nf_lst => k_is)
    (case nf_tup => k_is)
    (case nne => k_is)
    (case gL => k_is)
    (case gR => k_is)
    (case lR => k_is)
    (case z_len => k_is)
    (case z_range => k_is)
    (case z_abs => k_is)
    (case z_int => k_is)
    (case z_str => k_is)
    (case z_bool => k_is)
    (case z_tuple => k_is)
    (case z_list => k_is)
    (case z_isinstance => k_is)
    (case z_all => k_is)
    (case z_any => k_is)
    (case z_max => k_is)
    (case z_min => k_is)
    (case z_enumerate => k_is)
    (case z_zip => k_is)
    (case z_repr => k_is)
    (case rL => exact ⟨_, rfl⟩)
    (case eR => rfl)
    (case zR => decide)
    (case vR => exact .cons ⟨_, rfl⟩ (.cons ⟨_, rfl⟩ (.cons ⟨_, rfl⟩ (.cons ⟨_, rfl⟩ (.cons ⟨_, rfl⟩ (.cons ⟨_, rfl⟩ (.cons ⟨_, rfl⟩ (.cons ⟨_, rfl⟩ (.cons ⟨_, rfl⟩ (.nil))))))))))
