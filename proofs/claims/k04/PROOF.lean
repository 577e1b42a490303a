import PyProof.Rows.All
import Wide.All
import OpenK.AllK
import Wide.FinOn
import HandS.ForMost
import HandS.Star
import HandS.IsInst
import HandS.Codes
import HandS.FStr
import HandS.Zip
import HandS.RaiseMore
import HandS.Style
import HandS.Walk
import HandS.TupAny
import HandS.Exc
import HandS.ExcOwn
import HandS.ExcInit
import HandS.ExcField
import HandS.WordsExc
import KE.KExcIs
import KE.RegKIsAll
import HandS.Dict
import HandS.DictComp
import KE.KDictCopyH
import HandS.Iter
import HandS.Keys
import HandS.TryMany
import HandS.Deep
import HandS.MakeKwOnly
import KE.DataFind
import KE.KStateDown
import HandS.Base
import HandS.Call
import HandS.Defaults
import HandS.HeadHook1
import HandS.HeadHook2
import HandS.HeadHook3
import HandS.HeadNt
import HandS.ClsMeth
import HandS.Head0
import HandS.Head1
import HandS.Head2
import HandS.HeadEnd
import HandS.Finally
import HandS.SuiteRaise
import HandS.ExcInitHot
import HandS.RaiseFrom
import PyProof.StrOps2
import HandS.Set
import HandS.Strs
import HandS.SetFor
import PyProof.Rows.SortStr
import HandS.Text
import KE.OsArith
import PySem.Challenge.RW_newestrow_k04_conditions_refused
set_option Elab.async false
set_option linter.all false
set_option maxRecDepth 100000
set_option maxHeartbeats 8000000
/-! Own layer: stable parts of the abstract heap, data, draws. -/
namespace Nw
open PySem L2

/-- from (H, G) to (H', G'): G is the stable part of H (never written), b the one old object that may change -/
structure Xt (b : Option Addr) (H G H' G' : Hp) : Prop where
  sub0 : Same G H
  gg : Same G G'
  sub : Same G' H'
  hh : ∀ a o, b ≠ some a → H a = some o → H' a = some o
  th : ∀ a, H a ≠ none → H' a ≠ none
  nw : ∀ a o, G' a = some o → G a = some o ∨ H a = none
section
variable {b : Option Addr} {H G H1 G1 H2 G2 : Hp} {p l : Addr} {o o' : HO}
theorem Xt.refl (s : Same G H) : Xt b H G H G := ⟨s, fun _ _ h => h, s, fun _ _ _ h => h, fun _ h => h, fun _ _ h => .inl h⟩
theorem Xt.trans (x : Xt b H G H1 G1) (y : Xt b H1 G1 H2 G2) : Xt b H G H2 G2 :=
  ⟨x.sub0, fun a o h => y.gg a o (x.gg a o h), y.sub, fun a o n h => y.hh a o n (x.hh a o n h), fun a h => y.th a (x.th a h), fun a o h => by
    rcases y.nw a o h with h | h
    · exact x.nw a o h
    · cases e : H a with
      | none => exact .inr rfl
      | some u => exact absurd h (x.th a (by rw [e]; exact fun z => by cases z))⟩
theorem Xt.of (x : Xt none H G H1 G1) : Xt b H G H1 G1 := ⟨x.sub0, x.gg, x.sub, fun a o _ h => x.hh a o (fun z => by cases z) h, x.th, x.nw⟩
theorem upd_same_ {H : Hp} {p : Addr} {o : HO} (h : H p = none) : Same H (upd H p o) := fun a u e => by rw [upd_ne (ne_of_none e h)]; exact e
theorem Xt.fresh (x : Xt b H G H1 G1) (h : H1 p = none) : H p = none := by
  cases e : H p with
  | none => rfl
  | some u => exact absurd h (x.th p (by rw [e]; exact fun z => by cases z))
/-- a new object, stable from now on -/
theorem Xt.new (s : Same G H) (h : H p = none) : Xt b H G (upd H p o) (upd G p o) := by
  have hg : G p = none := s.free h
  refine ⟨s, upd_same_ hg, fun a u e => ?_, fun a u _ e => upd_same_ h a u e, fun a e => ?_, fun a u e => ?_⟩
  · by_cases q : a = p
    · subst q; rw [upd_same] at e ⊢; exact e
    · rw [upd_ne q] at e ⊢; exact s a u e
  · by_cases q : a = p
    · subst q; rw [upd_same]; exact fun z => by cases z
    · rw [upd_ne q]; exact e
  · by_cases q : a = p
    · subst q; exact .inr h
    · rw [upd_ne q] at e; exact .inl e
/-- a new object that may change yet -/
theorem Xt.tmp (s : Same G H) (h : H p = none) : Xt b H G (upd H p o) G := by
  refine ⟨s, fun _ _ h => h, fun a u e => upd_same_ h a u (s a u e), fun a u _ e => upd_same_ h a u e, fun a e => ?_, fun a u e => .inl e⟩
  by_cases q : a = p
  · subst q; rw [upd_same]; exact fun z => by cases z
  · rw [upd_ne q]; exact e
/-- an own object (made behind H) is changed -/
theorem Xt.set (x : Xt b H G H1 G1) (h : H l = none) (hg : G1 l = none) : Xt b H G (upd H1 l o) G1 := by
  refine ⟨x.sub0, x.gg, fun a u e => ?_, fun a u n e => ?_, fun a e => ?_, x.nw⟩
  · rw [upd_ne (ne_of_none e hg)]; exact x.sub a u e
  · rw [upd_ne (ne_of_none e h)]; exact x.hh a u n e
  · by_cases q : a = l
    · subst q; rw [upd_same]; exact fun z => by cases z
    · rw [upd_ne q]; exact x.th a e
/-- the one old object is changed -/
theorem Xt.put {b : Addr} (x : Xt (some b) H G H1 G1) (hg : G1 b = none) : Xt (some b) H G (upd H1 b o) G1 := by
  refine ⟨x.sub0, x.gg, fun a u e => ?_, fun a u n e => ?_, fun a e => ?_, x.nw⟩
  · rw [upd_ne (ne_of_none e hg)]; exact x.sub a u e
  · rw [upd_ne (fun q => n (by rw [q]))]; exact x.hh a u n e
  · by_cases q : a = b
    · subst q; rw [upd_same]; exact fun z => by cases z
    · rw [upd_ne q]; exact x.th a e
/-- an own object becomes stable -/
theorem Xt.fix (x : Xt b H G H1 G1) (h : H l = none) (hl : H1 l = some o) : Xt b H G H1 (upd G1 l o) := by
  have g1 : Same G1 (upd G1 l o) := fun a u e => by
    by_cases q : a = l
    · subst q; rw [upd_same, ← hl]; exact x.sub a u e
    · rw [upd_ne q]; exact e
  refine ⟨x.sub0, fun a u e => g1 a u (x.gg a u e), fun a u e => ?_, x.hh, x.th, fun a u e => ?_⟩
  · by_cases q : a = l
    · subst q; rw [upd_same] at e; rw [hl]; exact e
    · rw [upd_ne q] at e; exact x.sub a u e
  · by_cases q : a = l
    · subst q; exact .inr h
    · rw [upd_ne q] at e; exact x.nw a u e
/-- what is not stable and old stays so -/
theorem Xt.non (x : Xt b H G H1 G1) (h : H l ≠ none) (hg : G l = none) : G1 l = none := by
  cases e : G1 l with
  | none => rfl
  | some u =>
    rcases x.nw l u e with z | z
    · rw [hg] at z; cases z
    · exact absurd z h
theorem Xt.alloc (x : Xt b H G H1 G1) (h : H1 p = none) : Xt b H G (upd H1 p o) (upd G1 p o) := x.trans (Xt.new x.sub h)
theorem Xt.allocT (x : Xt b H G H1 G1) (h : H1 p = none) : Xt b H G (upd H1 p o) G1 := x.trans (Xt.tmp x.sub h)
end
theorem ne_none_of {H : Hp} {a : Addr} {o : HO} (h : H a = some o) : H a ≠ none := by rw [h]; exact fun z => by cases z
theorem none_of_ne {G : Hp} {l p : Addr} {o : HO} (h : G l = none) (n : l ≠ p) : upd G p o l = none := by rw [upd_ne n]; exact h

/-! ### data in the stable part -/
mutual
inductive D (G : Hp) : V → PyData → Prop
  | non : D G .non .none
  | bl (b : Bool) : D G (.bl b) (.bool b)
  | int (i : Int) : D G (.int i) (.int i)
  | str (x : Str) : D G (.str x) (.str x)
  | lst {a : Addr} {xs : List V} {ds : List PyData} : G a = some (.lst xs) → DA G xs ds → D G (.ref a) (.list ds)
  | tup {a : Addr} {xs : List V} {ds : List PyData} : G a = some (.tup xs) → DA G xs ds → D G (.ref a) (.tuple ds)
inductive DA (G : Hp) : List V → List PyData → Prop
  | nil : DA G [] []
  | cons {v : V} {vs : List V} {d : PyData} {ds : List PyData} : D G v d → DA G vs ds → DA G (v :: vs) (d :: ds)
end
section
variable {G G' H : Hp} {K : PySem.W.Frag}
mutual
theorem D.mono (s : Same G G') : ∀ {d : PyData} {v : V}, D G v d → D G' v d
  | _, _, .non => .non
  | _, _, .bl b => .bl b
  | _, _, .int i => .int i
  | _, _, .str x => .str x
  | _, _, .lst h a => .lst (s _ _ h) (DA.mono s a)
  | _, _, .tup h a => .tup (s _ _ h) (DA.mono s a)
theorem DA.mono (s : Same G G') : ∀ {ds : List PyData} {vs : List V}, DA G vs ds → DA G' vs ds
  | _, _, .nil => .nil
  | _, _, .cons h a => .cons (D.mono s h) (DA.mono s a)
end
mutual
theorem D.dp (s : Same G H) : ∀ {d : PyData} {v : V}, D G v d → Dp K H v d
  | _, _, .non => .non
  | _, _, .bl b => .bl b
  | _, _, .int i => .int i
  | _, _, .str x => .str x
  | _, _, .lst h a => .lst (SqL.of (s _ _ h)) (DA.dp s a)
  | _, _, .tup h a => .tup (SqT.of (s _ _ h)) (DA.dp s a)
theorem DA.dp (s : Same G H) : ∀ {ds : List PyData} {vs : List V}, DA G vs ds → DpAll K H vs ds
  | _, _, .nil => .nil
  | _, _, .cons h a => .cons (D.dp s h) (DA.dp s a)
end
theorem DA.length : ∀ {ds : List PyData} {vs : List V}, DA G vs ds → vs.length = ds.length
  | _, _, .nil => rfl
  | _, _, .cons _ a => by rw [List.length_cons, List.length_cons, DA.length a]
theorem DA.get : ∀ {ds : List PyData} {vs : List V} {i : Nat} {v : V}, DA G vs ds → vs[i]? = some v → ∃ d, ds[i]? = some d ∧ D G v d
  | _, _, i, v, .nil, h => by simp at h
  | _, _, 0, v, .cons h a, e => by simp at e; subst e; exact ⟨_, rfl, h⟩
  | _, _, i + 1, v, .cons h a, e => by
    obtain ⟨d, h1, h2⟩ := DA.get (i := i) (v := v) a (by simpa using e)
    exact ⟨d, by simpa using h1, h2⟩
theorem DA.at : ∀ {ds : List PyData} {vs : List V} {i : Nat} {d : PyData}, DA G vs ds → ds[i]? = some d → ∃ v, vs[i]? = some v ∧ D G v d
  | _, _, i, v, .nil, h => by simp at h
  | _, _, 0, v, .cons h a, e => by simp at e; subst e; exact ⟨_, rfl, h⟩
  | _, _, i + 1, v, .cons h a, e => by
    obtain ⟨d, h1, h2⟩ := DA.at (i := i) (d := v) a (by simpa using e)
    exact ⟨d, by simpa using h1, h2⟩
theorem DA.append : ∀ {ds es : List PyData} {vs ws : List V}, DA G vs ds → DA G ws es → DA G (vs ++ ws) (ds ++ es)
  | _, _, _, _, .nil, b => b
  | _, _, _, _, .cons h a, b => .cons h (DA.append a b)
theorem DA.one {v : V} {d : PyData} (h : D G v d) : DA G [v] [d] := .cons h .nil
theorem DA.take : ∀ {ds : List PyData} {vs : List V} (n : Nat), DA G vs ds → DA G (vs.take n) (ds.take n)
  | _, _, 0, _ => .nil
  | _, _, _ + 1, .nil => .nil
  | _, _, n + 1, .cons h a => .cons h (DA.take n a)
theorem DA.drop : ∀ {ds : List PyData} {vs : List V} (n : Nat), DA G vs ds → DA G (vs.drop n) (ds.drop n)
  | _, _, 0, r => r
  | _, _, _ + 1, .nil => .nil
  | _, _, n + 1, .cons _ a => DA.drop n a
theorem DA.reverse {ds : List PyData} {vs : List V} (a : DA G vs ds) : DA G vs.reverse ds.reverse := by
  induction vs generalizing ds with
  | nil => cases a; exact .nil
  | cons v vs ih =>
    cases a with
    | cons h a => rw [List.reverse_cons, List.reverse_cons]; exact (ih a).append (.one h)
theorem DA.ints : ∀ {ns : List Int} {vs : List V}, DA G vs (ns.map .int) → vs = ns.map V.int
  | [], _, .nil => rfl
  | n :: ns, _, .cons h a => by
    cases h
    rw [DA.ints a] <;> rfl
theorem DA.ofInts : ∀ (ns : List Int), DA G (ns.map V.int) (ns.map .int)
  | [] => .nil
  | n :: ns => .cons (.int n) (DA.ofInts ns)
theorem DA.strs : ∀ {ns : List Str} {vs : List V}, DA G vs (ns.map .str) → vs = ns.map V.str
  | [], _, .nil => rfl
  | n :: ns, _, .cons h a => by
    cases h
    rw [DA.strs a] <;> rfl
theorem DA.ofStrs : ∀ (ns : List Str), DA G (ns.map V.str) (ns.map .str)
  | [] => .nil
  | n :: ns => .cons (.str n) (DA.ofStrs ns)
theorem D.list_inv {v : V} {ds : List PyData} (h : D G v (.list ds)) : ∃ a xs, v = .ref a ∧ G a = some (.lst xs) ∧ DA G xs ds := by
  cases h with
  | lst h a => exact ⟨_, _, rfl, h, a⟩
theorem D.tup_inv {v : V} {ds : List PyData} (h : D G v (.tuple ds)) : ∃ a xs, v = .ref a ∧ G a = some (.tup xs) ∧ DA G xs ds := by
  cases h with
  | tup h a => exact ⟨_, _, rfl, h, a⟩
end

/-! ### the bag of draws -/
/-- the bag at b, from which at most c numbers were drawn -/
def Bag (H : Hp) (b : Addr) (c : Int) : Prop := ∃ x y z : Int, H b = some (.lst [.int x, .int y, .int z]) ∧ 0 ≤ y ∧ y < 8000000000000000000 ∧ 0 ≤ z ∧ z ≤ c
theorem Bag.mono {H : Hp} {b : Addr} {c d : Int} (h : Bag H b c) (e : c ≤ d) : Bag H b d := by
  obtain ⟨x, y, z, h1, h2, h3, h4, h5⟩ := h
  exact ⟨x, y, z, h1, h2, h3, h4, Int.le_trans h5 e⟩
theorem Bag.ne {H : Hp} {b : Addr} {c : Int} (h : Bag H b c) : H b ≠ none := by
  obtain ⟨x, y, z, h1, _⟩ := h
  exact ne_none_of h1
theorem Bag.keep {H G H' G' : Hp} {b : Addr} {c : Int} (h : Bag H b c) (x : Xt none H G H' G') : Bag H' b c := by
  obtain ⟨x1, y, z, h1, h2⟩ := h
  exact ⟨x1, y, z, x.hh b _ (fun z => by cases z) h1, h2⟩
theorem Bag.new {H : Hp} {b p : Addr} {c : Int} {o : HO} (h : Bag H b c) (hp : H p = none) : Bag (upd H p o) b c := by
  obtain ⟨x1, y, z, h1, h2⟩ := h
  exact ⟨x1, y, z, upd_same_ hp _ _ h1, h2⟩
theorem Bag.upd {H : Hp} {b p : Addr} {c : Int} {o : HO} (h : Bag H b c) (hp : b ≠ p) : Bag (upd H p o) b c := by
  obtain ⟨x1, y, z, h1, h2⟩ := h
  exact ⟨x1, y, z, by rw [upd_ne hp]; exact h1, h2⟩

/-- the law's helpers that draw -/
def spTake : Sp := fun vs H Q _ => ∃ (b : Addr) (n c : Int), vs = [.ref b, .int n] ∧ 0 < n ∧ n ≤ 1000000 ∧ Bag H b c ∧ c ≤ 1000000 ∧
  ∀ r x y z : Int, 0 ≤ r → r < n → Bag (upd H b (.lst [.int x, .int y, .int z])) b (c + 1) → Q (.int r) (upd H b (.lst [.int x, .int y, .int z]))
/-- _law_of: an item -/
def spOf : Sp := fun vs H Q _ => ∃ (b a : Addr) (xs : List V) (c : Int), vs = [.ref b, .ref a] ∧ H a = some (.lst xs) ∧ a ≠ b ∧ xs ≠ [] ∧ xs.length ≤ 1000000 ∧ Bag H b c ∧ c ≤ 1000000 ∧
  ∀ (v : V) (i : Nat) (x y z : Int), xs[i]? = some v → Bag (upd H b (.lst [.int x, .int y, .int z])) b (c + 1) → Q v (upd H b (.lst [.int x, .int y, .int z]))
/-- _law_bag: a new bag -/
def spBag (K : PySem.W.Frag) : Sp := fun vs H Q _ => ∃ (a : Addr) (ns : List Int) (i : Int), vs = [.ref a, .int i] ∧ SqL K H a (ns.map V.int) ∧ 0 ≤ i ∧ i ≤ 1000 ∧
  ∀ (p : Addr) (x y z : Int), H p = none → Bag (upd H p (.lst [.int x, .int y, .int z])) p 0 → Q (.ref p) (upd H p (.lst [.int x, .int y, .int z]))
end Nw
/-! Own layer: an own class's len, repr, in, ==, !=. -/
namespace PySem.W
open PySem PySem.Calls PyProof.Rows Builtin
section
variable {prog : Program} {w : World} {A : Around} {E : Value → Shared → Prop} {s : Shared} {K : Frag} {x C L f : Addr} {h₀ : Heap} {m : Str → Option Value} {ox : Obj} {od : Option Obj} {b tb : Value}
theorem nw_ifBoundB {M : Model} {name : Str} {id : String} {args : List Value} {Q : Option Value → Shared → Prop} (X : K.In s.heap) (I : InstAt s.heap x ox C od) (hs : findIn K (.ref C) name = some (some (.builtin id)))
    (hb : ∀ self, bindSpecial (.builtin id) self = pure (.builtin id, [self])) (h : wpAny M A (call (.builtin id) (.ref x :: args)) (fun v => Q (some v)) E s) : wpAny M A (callSpecialIfBound? (.ref x) name args) Q E s := by
  simp only [callSpecialIfBound?, bindSpecialIfBound?]
  refine wpAny_holding (wpAny_bind (wpAny_bind (wpAny_bind (I.type.here ((looks_findIn X hs).here ?_)))))
  refine wpAny_bind (wpAny_askSetting (wpAny_ite ?_))
  have fin : wpAny M A (call (.builtin id) ([.ref x] ++ args) >>= fun v => pure (some v)) Q E s := wpAny_bind (wpAny_mono h (fun v s' h' => wpAny_pure h') fun _ _ h' => h')
  split
  · exact wpAny_bind ((Looks.of_pure (hb _)).here (wpAny_pure (by exact fin)))
  · exact wpAny_tryCatch (wpAny_bind ((Looks.of_pure (hb _)).here (wpAny_pure (by exact fin))))
theorem nw_objNe {Q : Value → Shared → Prop} (hu : A.in1.units < cLine) (X : K.In s.heap) (I : InstAt s.heap x ox C od) (hm : mroIn K C (.type "object") = some true) (hs : findIn K (.ref C) "__eq__" = some (some (.ref f))) (hf : isFn K (.ref f) = true)
    (h : wpAny (model prog w) A.in1 (call (.ref f) [.ref x, b]) (fun v s' => ∃ r, v = .bool r ∧ Q (.bool (!r)) s') E s) : wpAny (model prog w) A (call (.builtin "object.__ne__") [.ref x, b]) Q E s := by
  refine wpAny_call (codeAny_call_builtin PySem.F.cmp_object.ne.plain PySem.F.cmpEntry_ne (check_slot (i := "object.__ne__") (owner := "object") (n := "__ne__") PySem.F.cmpKind_ne PySem.F.cmpSplit_ne (I.type.andThen (looks_mroIn X hm)) (PySem.F.cmpArgs_ne _ _) ?_))
  unfold Builtin.«object.__ne__»
  repeat (first
    | with_reducible refine wpAny_cRoomFor hu ?_
    | (refine wpAny_bind (m := callSpecialIfBound? (.ref x) (Str.ofString "__eq__") [b])
        (ifBound_K X I hs hf (wpAny_mono h (fun r s' hr => by
          obtain ⟨r, rfl, hq⟩ := hr
          repeat (first | exact hq | exact wpAny_pure hq | exact wpAny_truthy_bool hq | (refine wpAny_bind (m := truthy (.bool _)) (wpAny_truthy_bool ?_)) | wp_step)) fun _ _ e => e)))
    | wp_step)
theorem nw_ne {Q : Value → Shared → Prop} (hu : A.in1.units < cLine) (F : Fr h₀ L s.heap m) (X₀ : K.In h₀) (I : InstAt s.heap x ox C od) (hb : Looks (model prog w) s.heap (typeOf b) tb) (hn : notFirst K C tb = true)
    (hne : findIn K (.ref C) "__ne__" = some (some (.builtin "object.__ne__"))) (hm : mroIn K C (.type "object") = some true) (hs : findIn K (.ref C) "__eq__" = some (some (.ref f))) (hf : isFn K (.ref f) = true)
    (h : wpAny (model prog w) A.in1 (call (.ref f) [.ref x, b]) (fun v s' => ∃ r, v = .bool r ∧ Q (.bool (!r)) s') E s) : wpAny (model prog w) A (richCompare .NotEq (.ref x) b) Q E s := by
  have X := X₀.keeps F.keep
  have hu0 : A.units < cLine := Nat.lt_of_le_of_lt (Nat.le_succ _) hu
  have one : wpAny (model prog w) A (tryCompare (.ref x) (cmpInfo .NotEq).2.1 b) (fun r s' => ∃ v, r = some v ∧ Q v s') E s := by
    unfold tryCompare
    refine wpAny_bind (nw_ifBoundB X I hne PySem.F.cmp_object.ne.bind (nw_objNe hu X I hm hs hf (wpAny_mono h (fun v s' hv => ?_) fun _ _ e => e)))
    obtain ⟨r, rfl, hq⟩ := hv
    exact ⟨r, rfl, wpAny_pure ⟨_, rfl, hq⟩⟩
  unfold richCompare
  simp only [oneThing_ref]
  refine wpAny_holding (wpAny_bind (wpAny_cRoomFor hu0 ?_))
  refine wpAny_bind (I.type.here (wpAny_bind (hb.here ?_)))
  split
  · rename_i q
    have e : subIn K tb (.ref C) = some false := by
      rcases Bool.or_eq_true_iff.mp hn with e | e
      · rw [beq_iff_eq.mp e] at q; simp at q
      · exact beq_iff_eq.mp e
    refine wpAny_bind ((looks_subIn X e).here ?_)
    simp only [Bool.false_eq_true, if_false]
    refine wpAny_bind (wpAny_mono one (fun r s' z => ?_) fun _ _ e => e)
    obtain ⟨v, rfl, hq⟩ := z
    exact wpAny_pure hq
  · refine wpAny_bind (wpAny_pure ?_)
    simp only [Bool.false_eq_true, if_false]
    refine wpAny_bind (wpAny_mono one (fun r s' z => ?_) fun _ _ e => e)
    obtain ⟨v, rfl, hq⟩ := z
    exact wpAny_pure hq
end
end PySem.W
namespace Nw
open PySem L2 PySem.Spec PyProof.Rows
/-- a special method of the class at C, by its promise -/
structure Own (P : Program) (w : World) (K : PySem.W.Frag) (mg : Str → Option Value) (base : Heap) (k : Nat) (C : Addr) (m : Str) (sp : Sp) : Prop where
  ex : ∃ (f : Addr) (fd : FuncData) (ps : List Str), FnOk P w K mg base CX0 k f fd ps sp ∧ PySem.W.findIn K (.ref C) m = some (some (.ref f)) ∧ PySem.W.isFn K (.ref f) = true ∧ Binds K fd ps []
section
variable {X : Cx} {k : Nat} {C : Addr} {sp : Sp}
theorem Env0.at {X : Cx} {pins : List (Addr × Obj)} {σ : L2.St} {H : Hp} {s : Shared} (I : Inv X pins σ H s) {A : Around} (h : A.frames = X.A.frames) : Env0 X.prog X.w X.K X.mg X.base A X.stack s H := by
  have e := I.env0
  exact ⟨by rw [h]; exact e.frames, e.mod, e.bs, e.bsz, e.funs, e.frf, e.hok, e.bare⟩
/-- the method's call, somewhere below X -/
theorem own_call {m : Str} (O : Own X.prog X.w X.K X.mg X.base k C m sp) {A : Around} (hr : Room k A) (hfr : A.frames = X.A.frames) {pins : List (Addr × Obj)} {σ : L2.St} {H : Hp} {s : Shared} (I : Inv X pins σ H s) {us : List Value} {vs : List V} {Q : VK} {R : Value → Shared → Prop} (r : Vals vs us)
    (h : sp vs H Q E0) (hq : ∀ u s', EP X pins σ Q u s' → R u s') :
    ∃ f, PySem.W.findIn X.K (.ref C) m = some (some (.ref f)) ∧ PySem.W.isFn X.K (.ref f) = true ∧ wpAny (model X.prog X.w) A (call (.ref f) us) R X.xe s := by
  obtain ⟨f, fd, ps, F, h1, h2, hb⟩ := O.ex
  refine ⟨f, h1, h2, ?_⟩
  have hl : us.length = ps.length := by rw [← r.length]; exact F.len _ _ _ _ h
  have b := hb s us I.kIn (by rw [List.append_nil]; exact hl)
  rw [List.append_nil] at b
  refine wpAny_call (codeAny_mono (F.run A X.stack s H ⟨us, []⟩ us vs Q E0 hr (Env0.at I hfr) b r h) fun r s' hq' => ?_)
  cases r with
  | error e => exact hq'.elim
  | ok fl =>
    cases fl with
    | ret u => exact hq u s' (I.after hq')
    | next => exact False.elim hq'
    | brk => exact False.elim hq'
    | cont => exact False.elim hq'
def rLenO (C : Addr) (sp : Sp) : List V → Hp → VK → Prop := fun xs H Q => ∃ (a dx : Addr) (fs : List (Str × V)), xs = [.ref a] ∧ H a = some (.ins C dx fs) ∧ sp [.ref a] H (fun v H' => ∃ n : Int, v = .int n ∧ 0 ≤ n ∧ n < 2 ^ 63 ∧ Q (.int n) H') E0
theorem call_lenO (O : Own X.prog X.w X.K X.mg X.base k C "__len__" sp) (hr : Room (k + 1) X.A) : CallR X (.builtin "len") (rLenO C sp) := by
  intro pins s σ H xs us Q I r h
  obtain ⟨a, dx, fs, rfl, ha, hsp⟩ := h
  obtain ⟨u, rfl, r1⟩ := vals1 r
  cases r1
  obtain ⟨mA, J, _⟩ := ins_get I.hok ha
  obtain ⟨od, J, _⟩ := J.look
  obtain ⟨m, hF⟩ := I.fr
  obtain ⟨f, h1, h2, h3⟩ := own_call (A := X.A.in1) (us := [Value.ref a]) (vs := [V.ref a]) (R := PySem.W.LenBack (EP X pins σ Q)) O hr.in1 rfl I (.cons rfl .nil) hsp fun u s' hu => by
    obtain ⟨v, H', I', rv, n, rfl, n0, n1, q⟩ := hu
    obtain ⟨t, rfl⟩ := rv
    exact ⟨⟨n0, n1⟩, .int n, H', I'.tok _, ⟨_, rfl⟩, q⟩
  exact PySem.W.len_K hF I.ok.mod.kin J h1 h2 h3
def rReprO (C : Addr) (sp : Sp) : List V → Hp → VK → Prop := fun xs H Q => ∃ (a dx : Addr) (fs : List (Str × V)), xs = [.ref a] ∧ H a = some (.ins C dx fs) ∧ sp [.ref a] H (fun v H' => ∃ z : Str, v = .str z ∧ Q (.str z) H') E0
theorem call_reprO (O : Own X.prog X.w X.K X.mg X.base k C "__repr__" sp) (hr : Room (k + 1) X.A) : CallR X (.builtin "repr") (rReprO C sp) := by
  intro pins s σ H xs us Q I r h
  obtain ⟨a, dx, fs, rfl, ha, hsp⟩ := h
  obtain ⟨u, rfl, r1⟩ := vals1 r
  cases r1
  obtain ⟨mA, J, _⟩ := ins_get I.hok ha
  obtain ⟨od, J, _⟩ := J.look
  obtain ⟨m, hF⟩ := I.fr
  obtain ⟨f, h1, h2, h3⟩ := own_call (A := X.A.in1) (us := [Value.ref a]) (vs := [V.ref a]) (R := PySem.W.StrBack (EP X pins σ Q)) O hr.in1 rfl I (.cons rfl .nil) hsp fun u s' hu => by
    obtain ⟨v, H', I', rv, z, rfl, q⟩ := hu
    obtain ⟨t, rfl⟩ := rv
    exact ⟨.str z, H', I', ⟨_, rfl⟩, q⟩
  exact PySem.W.repr_K (hr.in1).units0 hF I.ok.mod.kin J h1 h2 h3
/-- y in x, x an instance -/
def rInO (C : Addr) (sp : Sp) (neg : Bool) : R2 := fun y x H Q => ∃ (a dx : Addr) (fs : List (Str × V)), x = .ref a ∧ H a = some (.ins C dx fs) ∧ sp [.ref a, y] H (fun v H' => ∃ r : Bool, v = .bl r ∧ Q (.bl (if neg then !r else r)) H') E0
theorem op_inO (O : Own X.prog X.w X.K X.mg X.base k C "__contains__" sp) (hr : Room k X.A) : OpR X (compareOp .In) (rInO C sp false) := by
  intro pins s σ H y x v u Q I ry rx h
  obtain ⟨a, dx, fs, rfl, ha, hsp⟩ := h
  cases rx
  obtain ⟨mA, J, _⟩ := ins_get I.hok ha
  obtain ⟨od, J, _⟩ := J.look
  obtain ⟨m, hF⟩ := I.fr
  obtain ⟨f, h1, h2, h3⟩ := own_call (A := X.A) (us := [Value.ref a, v]) (vs := [V.ref a, y]) (R := fun r s' => wpAny (model X.prog X.w) X.A (truthy r) (fun b => EP X pins σ Q (.bool b)) X.xe s') O hr rfl I (.cons rfl (.cons ry .nil)) hsp fun u s' hu => by
    obtain ⟨v, H', I', rv, z, rfl, q⟩ := hu
    cases rv
    exact wpAny_truthy_bool ⟨.bl z, H', I', rfl, q⟩
  exact PySem.W.in_K hF I.ok.mod.kin J h1 h2 h3
/-- x == y, x != y by an own __eq__ -/
def rEqO (C : Addr) (sp : Sp) (neg : Bool) : R2 := fun x y H Q => ∃ (a dx : Addr) (fs : List (Str × V)), x = .ref a ∧ H a = some (.ins C dx fs) ∧ sp [.ref a, y] H (fun v H' => ∃ r : Bool, v = .bl r ∧ Q (.bl (if neg then !r else r)) H') E0
/-- the right side's type: none that C is a base of -/
structure NoFirst (K : PySem.W.Frag) (C : Addr) : Prop where
  non : PySem.W.notFirst K C (.type "NoneType") = true
  bl : PySem.W.notFirst K C (.type "bool") = true
  int : PySem.W.notFirst K C (.type "int") = true
  str : PySem.W.notFirst K C (.type "str") = true
  lst : PySem.W.notFirst K C (.type "list") = true
  tup : PySem.W.notFirst K C (.type "tuple") = true
  ne : PySem.W.findIn K (.ref C) "__ne__" = some (some (.builtin "object.__ne__"))
  mro : PySem.W.mroIn K C (.type "object") = some true
def plainV (K : PySem.W.Frag) (C : Addr) (H : Hp) : V → Prop
  | .non => True
  | .bl _ => True
  | .int _ => True
  | .str _ => True
  | .ref a => (∃ xs, H a = some (.lst xs)) ∨ (∃ xs, H a = some (.tup xs)) ∨ ∃ dx fs, H a = some (.ins C dx fs)
  | _ => False
theorem looks_plain (N : NoFirst X.K C) {pins : List (Addr × Obj)} {σ : L2.St} {H : Hp} {s : Shared} (I : Inv X pins σ H s) {y : V} {v : Value} (ry : RelV y v) (h : plainV X.K C H y) {M : Model} :
    ∃ tb, PySem.W.Looks M s.heap (typeOf v) tb ∧ PySem.W.notFirst X.K C tb = true := by
  have go : ∀ {t : Value}, TyX X.K H y t → PySem.W.Looks M s.heap (typeOf v) t := fun {t} ty => by
    obtain ⟨P, Z, p, _⟩ := kit_of I ry ty
    exact Z.ty M s.heap I.kIn p
  cases y with
  | non => exact ⟨_, go (.base .non), N.non⟩
  | bl b => exact ⟨_, go (.base (.bl b)), N.bl⟩
  | int i => exact ⟨_, go (.base (.int i)), N.int⟩
  | str z => exact ⟨_, go (.base (.str z)), N.str⟩
  | ref a =>
    rcases h with ⟨xs, h⟩ | ⟨xs, h⟩ | ⟨dx, fs, h⟩
    · exact ⟨_, go (.base (.lst h)), N.lst⟩
    · exact ⟨_, go (.base (.tup h)), N.tup⟩
    · cases ry
      obtain ⟨mA, J, _⟩ := ins_get I.hok h
      obtain ⟨od, J, _⟩ := J.look
      exact ⟨.ref C, J.type, by simp [PySem.W.notFirst]⟩
  | byt b => exact h.elim
  | flt b => exact h.elim
  | ty n => exact h.elim
theorem op_eqO (O : Own X.prog X.w X.K X.mg X.base k C "__eq__" sp) (N : NoFirst X.K C) (hr : Room k X.A) : OpR X (compareOp .Eq) (fun x y H Q => plainV X.K C H y ∧ rEqO C sp false x y H Q) := by
  intro pins s σ H x y v u Q I rx ry h
  obtain ⟨hy, a, dx, fs, rfl, ha, hsp⟩ := h
  cases rx
  obtain ⟨mA, J, _⟩ := ins_get I.hok ha
  obtain ⟨od, J, _⟩ := J.look
  obtain ⟨m, hF⟩ := I.fr
  obtain ⟨tb, l1, l2⟩ := looks_plain (M := model X.prog X.w) N I ry hy
  obtain ⟨f, h1, h2, h3⟩ := own_call (A := X.A) (us := [Value.ref a, u]) (vs := [V.ref a, y]) (R := PySem.W.CmpBack (EP X pins σ Q)) O hr rfl I (.cons rfl (.cons ry .nil)) hsp fun u s' hu => by
    obtain ⟨v, H', I', rv, z, rfl, q⟩ := hu
    cases rv
    exact ⟨.bl z, H', I', rfl, q⟩
  show wpAny (model X.prog X.w) X.A (richCompare .Eq _ _) _ _ _
  exact PySem.W.cmp_K (op := .Eq) hr.units0 hF I.ok.mod.kin J l1 l2 h1 h2 h3
theorem op_neO (O : Own X.prog X.w X.K X.mg X.base k C "__eq__" sp) (N : NoFirst X.K C) (hr : Room (k + 1) X.A) : OpR X (compareOp .NotEq) (fun x y H Q => plainV X.K C H y ∧ rEqO C sp true x y H Q) := by
  intro pins s σ H x y v u Q I rx ry h
  obtain ⟨hy, a, dx, fs, rfl, ha, hsp⟩ := h
  cases rx
  obtain ⟨mA, J, _⟩ := ins_get I.hok ha
  obtain ⟨od, J, _⟩ := J.look
  obtain ⟨m, hF⟩ := I.fr
  obtain ⟨tb, l1, l2⟩ := looks_plain (M := model X.prog X.w) N I ry hy
  obtain ⟨f, h1, h2, h3⟩ := own_call (A := X.A.in1) (us := [Value.ref a, u]) (vs := [V.ref a, y]) (R := fun v s' => ∃ r, v = .bool r ∧ EP X pins σ Q (.bool (!r)) s') O hr.in1 rfl I (.cons rfl (.cons ry .nil)) hsp fun u s' hu => by
    obtain ⟨v, H', I', rv, z, rfl, q⟩ := hu
    cases rv
    exact ⟨z, rfl, .bl (!z), H', I', rfl, q⟩
  show wpAny (model X.prog X.w) X.A (richCompare .NotEq _ _) _ _ _
  exact PySem.W.nw_ne (hr.in1).units0 hF I.ok.mod.kin J l1 l2 N.ne N.mro h1 h2 h3
end
end Nw
/-! Own layer: comprehensions that make data. -/
namespace Nw
open PySem L2 PySem.Spec PyProof.Rows RZ
theorem small_line {n : Nat} (h : n ≤ 100000) : n ≤ sizeLine := Nat.le_trans h (by decide)
theorem small_lt {n : Nat} (h : n < 100000) : n < sizeLine := Nat.lt_of_lt_of_le h (by decide)
theorem getElem?_lt {α : Type} {l : List α} {i : Nat} {x : α} (h : l[i]? = some x) : i < l.length := (List.getElem?_eq_some_iff.mp h).1
theorem take_succ_of {α : Type} {l : List α} {i : Nat} {x : α} (h : l[i]? = some x) : l.take (i + 1) = l.take i ++ [x] := by
  rw [List.take_add_one, h]; rfl
theorem walk_zipT {K : PySem.W.Frag} {a b : Addr} {xs ys : List V} {n : Nat} (hn : n = min xs.length ys.length) : Walk (ItzT K a b) n (fun H => SqT K H a xs ∧ SqT K H b ys) (YPair (fun i => xs[i]?) (fun i => ys[i]?)) := by
  subst hn
  refine ⟨fun i _ hi q => ?_, fun _ q => ⟨xs, ys, q.1, q.2, by omega⟩, fun i H v H' _ q y => ?_⟩
  · have h1 : i < xs.length := by omega
    have h2 : i < ys.length := by omega
    exact ⟨xs, ys, xs[i], ys[i], q.1, q.2, by simp [h1], by simp [h2]⟩
  · obtain ⟨T, x, z, h1, h2, h3, h4, h5⟩ := y
    exact ⟨T, x, z, h1, h2, h3, h4 xs q.1, h5 ys q.2⟩
theorem map_eraseIdx {α β : Type} (f : α → β) : ∀ (l : List α) (i : Nat), (l.map f).eraseIdx i = (l.eraseIdx i).map f
  | [], _ => rfl
  | _ :: _, 0 => rfl
  | a :: l, i + 1 => by
    show f a :: (l.map f).eraseIdx i = f a :: (l.eraseIdx i).map f
    rw [map_eraseIdx f l i]
theorem perm_eraseIdx {α : Type} : ∀ {l : List α} {i : Nat} {x : α}, l[i]? = some x → (x :: l.eraseIdx i).Perm l
  | [], i, x, h => by simp at h
  | a :: l, 0, x, h => by simp at h; subst h; exact .refl _
  | a :: l, i + 1, x, h => by
    have ih := perm_eraseIdx (l := l) (i := i) (x := x) (by simpa using h)
    exact (List.Perm.swap a x (l.eraseIdx i)).trans (ih.cons a)
/-- a comprehension without a test whose i-th item is the datum ds[i]; b: what may change meanwhile, R: what is kept of that by turns -/
theorem lc_data {J : It} {n : Nat} {Gp : Hp → Prop} {Y : Nat → Hp → V → Hp → Prop} (w : Walk J n Gp Y) {b : Option Addr} {R : Nat → Hp → Prop} {g : TG} {te : TE} {vs : List Nat} {σ : L2.St} {H G : Hp} {Dl : Addr} {Qd : Hp → Prop}
    (ds : List PyData) (hn : ds.length = n) (hz : n < 100000) (hD : H Dl = none) (s : Same G H) (hb : b ≠ some Dl) (hR0 : R 0 H) (hR : ∀ i H o, R i H → R i (upd H Dl o))
    (hG : ∀ i H1 G1, Xt b H G H1 G1 → R i H1 → Gp H1)
    (hs : ∀ i x H1 G1 H2 d, ds[i]? = some d → Xt b H G H1 G1 → R i H1 → Y i H1 x H2 → ∀ Qy : VK, (∀ y H4 G4, Xt b H1 G1 H4 G4 → R (i + 1) H4 → D G4 y d → Qy y H4) → g x (wipe σ vs) H2 fun σ2 H3 => wipe σ2 vs = wipe σ vs ∧ te σ2 H3 Qy)
    (hd : ∀ H1 G1 xs, Xt b H G H1 G1 → R n H1 → H1 Dl = some (.lst xs) → G1 Dl = none → DA G1 xs ds → Qd H1) :
    ∃ W : Nat → Nat → Hp → Prop, (∃ m, W 0 m (upd H Dl (.lst []))) ∧ ∀ i m H, W i m H →
      (J.stop i H ∧ Qd H) ∨ (J.go i H ∧ ∃ Nx : Hp → Prop, (∀ H', Nx H' → ∃ m', m' < m ∧ W (i + 1) m' H') ∧ ∀ x H', J.yld i H x H' → g x (wipe σ vs) H' fun σ2 H2 => wipe σ2 vs = wipe σ vs ∧ tYes σ2 H2 fun b H3 =>
        if b = true then te σ2 H3 fun y H4 => ∃ acc, H4 Dl = some (.lst acc) ∧ acc.length < sizeLine ∧ Nx (upd H4 Dl (.lst (acc ++ [y]))) else Nx H3) := by
  have hgD : G Dl = none := s.free hD
  refine lc_it w (Qd := Qd) (fun i H1 => ∃ G1 xs, Xt b H G H1 G1 ∧ R i H1 ∧ H1 Dl = some (.lst xs) ∧ G1 Dl = none ∧ DA G1 xs (ds.take i)) ⟨G, [], Xt.tmp s hD, hR 0 H _ hR0, upd_same, hgD, .nil⟩ (fun i H1 hi ⟨G1, xs, x, r, _⟩ => hG i H1 G1 x r) ?_ ?_
  · rintro i x H1 H2 hi ⟨G1, xs, X1, r, hl, hg, da⟩ hy
    have hi' : i < ds.length := by omega
    have hdi : ds[i]? = some ds[i] := List.getElem?_eq_getElem hi'
    have hl0 : H1 Dl ≠ none := ne_none_of hl
    refine hs i x H1 G1 H2 ds[i] hdi X1 r hy (fun y H4 => ∃ acc, H4 Dl = some (.lst acc) ∧ acc.length < sizeLine ∧ ∃ G1 xs, Xt b H G (upd H4 Dl (.lst (acc ++ [y]))) G1 ∧ R (i + 1) (upd H4 Dl (.lst (acc ++ [y]))) ∧ upd H4 Dl (.lst (acc ++ [y])) Dl = some (.lst xs) ∧ G1 Dl = none ∧ DA G1 xs (ds.take (i + 1))) fun y H4 G4 X4 r4 d4 => ?_
    have l1 : xs.length < sizeLine := by
      have := da.length
      rw [List.length_take] at this
      exact small_lt (by omega)
    refine ⟨xs, X4.hh Dl _ hb hl, l1, G4, xs ++ [y], (X1.trans X4).set hD (X4.non hl0 hg), hR _ _ _ r4, upd_same, X4.non hl0 hg, ?_⟩
    rw [take_succ_of hdi]
    exact (da.mono X4.gg).append (.one d4)
  · rintro H1 ⟨G1, xs, X1, r, hl, hg, da⟩
    rw [show ds.take n = ds from List.take_of_length_le (by omega)] at da
    exact hd H1 G1 xs X1 r hl hg da
/-! ### rules whose reading speaks of K, told with K itself (within a comprehension) -/
section
variable {X : Cx} {K : PySem.W.Frag}
theorem pa_starK {e : Expr} {es : List Expr} {te : TE} {t : TA} {p : Pos} (hK : X.K = K) (he : PE X e te) (hr : PA X es t) (hs : starEach (.Starred e p :: es) X.env = (true, eval e X.env) :: starEach es X.env := by rfl) : PA X (.Starred e p :: es) (StX.tStar K te t) := by
  subst hK; exact StX.pa_star he hr hs
theorem pe_fldK {e : Expr} {f : Str} {ta : TE} {pos : Pos} (hK : X.K = K) (he : PE X e ta) (hb : attributeBase e f X.env (eval e X.env) = eval e X.env) : PE X (.Attribute e f pos) (tFld K ta f) := by
  subst hK; exact pe_fld he hb
theorem ix_tupK (hK : X.K = K) : IxR X (rIxT K) := by subst hK; exact ix_tup
theorem ix_listK (hK : X.K = K) : IxR X (rIxL K) := by subst hK; exact ix_list
theorem op_in_seqK (hK : X.K = K) : OpR X (compareOp .In) (rIn K false) := by subst hK; exact op_in_seq
theorem op_notIn_seqK (hK : X.K = K) : OpR X (compareOp .NotIn) (rIn K true) := by subst hK; exact op_notIn_seq
theorem op_catTK (hK : X.K = K) : OpR X (binaryOp .Add) (rCatT K) := by subst hK; exact op_catT
theorem op_eqDK (hK : X.K = K) (hu : X.A.units + 64 < cLine) : OpR X (compareOp .Eq) (rEqD K) := by subst hK; exact op_eqD hu
theorem op_neDK (hK : X.K = K) (hu : X.A.units + 64 < cLine) : OpR X (compareOp .NotEq) (rNeD K) := by subst hK; exact op_neD hu
end
end Nw
namespace Nw
open PySem L2 PySem.Spec PyProof.Rows RZ
/-- a comprehension of two loops without tests: the i-th turn of the outer one gives the data dss[i] -/
theorem lc2_data {J : It} {n : Nat} {Gp : Hp → Prop} {Y : Nat → Hp → V → Hp → Prop} (w : Walk J n Gp Y) {g g1 : TG} {wi1 : TI} {te : TE} {vs vs1 : List Nat} {σ : L2.St} {H G : Hp} {Dl : Addr} {Qd : Hp → Prop}
    (dss : List (List PyData)) (hn : dss.length = n) (hz : dss.flatten.length < 100000) (hD : H Dl = none) (s : Same G H)
    (hG : ∀ H1 G1, Xt none H G H1 G1 → Gp H1)
    (hs : ∀ i x H1 G1 H2 ds, dss[i]? = some ds → Xt none H G H1 G1 → Y i H1 x H2 → ∀ Qi : L2.St → It → Hp → Prop,
      (∀ (σ2 : L2.St) (J1 : It) (H4 G4 : Hp) (Gp1 : Hp → Prop) (Y1 : Nat → Hp → V → Hp → Prop), Xt none H1 G1 H4 G4 → Walk J1 ds.length Gp1 Y1 → (∀ H5 G5, Xt (some Dl) H4 G4 H5 G5 → Gp1 H5) →
        (∀ j y H5 G5 H6 d, ds[j]? = some d → Xt (some Dl) H4 G4 H5 G5 → Y1 j H5 y H6 → ∀ Qy : VK, (∀ z H7 G7, Xt none H5 G5 H7 G7 → D G7 z d → Qy z H7) → g1 y (wipe σ2 vs1) H6 fun σ3 H7 => wipe σ3 vs1 = wipe σ2 vs1 ∧ te σ3 H7 Qy) → Qi σ2 J1 H4) →
      g x (wipe σ vs) H2 fun σ2 H3 => wipe σ2 vs = wipe σ vs ∧ wi1 σ2 H3 (Qi σ2))
    (hd : ∀ H1 G1 xs, Xt none H G H1 G1 → H1 Dl = some (.lst xs) → G1 Dl = none → DA G1 xs dss.flatten → Qd H1) :
    ∃ W : Nat → Nat → Hp → Prop, (∃ m, W 0 m (upd H Dl (.lst []))) ∧ ∀ i m H, W i m H →
      (J.stop i H ∧ Qd H) ∨ (J.go i H ∧ ∃ Nx : Hp → Prop, (∀ H', Nx H' → ∃ m', m' < m ∧ W (i + 1) m' H') ∧ ∀ x H', J.yld i H x H' → g x (wipe σ vs) H' fun σ2 H2 => wipe σ2 vs = wipe σ vs ∧ tYes σ2 H2 fun b H3 =>
        if b = true then wi1 σ2 H3 fun J1 H4 => ∃ W1 : Nat → Nat → Hp → Prop, (∃ m, W1 0 m H4) ∧ ∀ j k H, W1 j k H →
          (J1.stop j H ∧ Nx H) ∨ (J1.go j H ∧ ∃ Nx1 : Hp → Prop, (∀ H', Nx1 H' → ∃ k', k' < k ∧ W1 (j + 1) k' H') ∧ ∀ x H', J1.yld j H x H' → g1 x (wipe σ2 vs1) H' fun σ3 H5 => wipe σ3 vs1 = wipe σ2 vs1 ∧ tYes σ3 H5 fun b H6 =>
            if b = true then te σ3 H6 fun y H7 => ∃ acc, H7 Dl = some (.lst acc) ∧ acc.length < sizeLine ∧ Nx1 (upd H7 Dl (.lst (acc ++ [y]))) else Nx1 H6)
        else Nx H3) := by
  have hgD : G Dl = none := s.free hD
  have nb : ∀ a : Addr, (none : Option Addr) ≠ some a := fun a q => by cases q
  let Pv : Nat → Hp → Prop := fun i H1 => ∃ G1 xs, Xt none H G H1 G1 ∧ H1 Dl = some (.lst xs) ∧ G1 Dl = none ∧ DA G1 xs (dss.take i).flatten
  have sub : ∀ i, i ≤ dss.length → (dss.take i).flatten.length ≤ dss.flatten.length := fun i _ => by
    have e : (dss.take i).flatten ++ (dss.drop i).flatten = dss.flatten := by rw [← List.flatten_append, List.take_append_drop]
    rw [← e, List.length_append]; omega
  refine ⟨fun i m H1 => m = n - i ∧ i ≤ n ∧ Pv i H1, ⟨n, by simp, Nat.zero_le _, G, [], Xt.tmp s hD, upd_same, hgD, .nil⟩, ?_⟩
  rintro i m H1 ⟨rfl, hi, G1, xs, X1, hl, hg, da⟩
  by_cases hlt : i < n
  · refine .inr ⟨w.goes i H1 hlt (hG H1 G1 X1), Pv (i + 1), fun H' p' => ⟨n - (i + 1), by omega, rfl, hlt, p'⟩, fun x H2 hy => ?_⟩
    have hi' : i < dss.length := by omega
    have hdi : dss[i]? = some dss[i] := List.getElem?_eq_getElem hi'
    have et : (dss.take (i + 1)).flatten = (dss.take i).flatten ++ dss[i] := by rw [take_succ_of hdi, List.flatten_append]; simp
    have hlen := sub (i + 1) hi'
    rw [et, List.length_append] at hlen
    refine hs i x H1 G1 H2 dss[i] hdi X1 (w.yields i H1 x H2 hlt (hG H1 G1 X1) hy) (fun σ2 J1 H4 => ∃ W1 : Nat → Nat → Hp → Prop, (∃ m, W1 0 m H4) ∧ ∀ j k H, W1 j k H →
          (J1.stop j H ∧ Pv (i + 1) H) ∨ (J1.go j H ∧ ∃ Nx1 : Hp → Prop, (∀ H', Nx1 H' → ∃ k', k' < k ∧ W1 (j + 1) k' H') ∧ ∀ x H', J1.yld j H x H' → g1 x (wipe σ2 vs1) H' fun σ3 H5 => wipe σ3 vs1 = wipe σ2 vs1 ∧ tYes σ3 H5 fun b H6 =>
            if b = true then te σ3 H6 fun y H7 => ∃ acc, H7 Dl = some (.lst acc) ∧ acc.length < sizeLine ∧ Nx1 (upd H7 Dl (.lst (acc ++ [y]))) else Nx1 H6)) ?_
    intro σ2 J1 H4 G4 Gp1 Y1 X4 w1 hG1 hs1
    have hl4 := X4.hh Dl _ (nb _) hl
    have hg4 := X4.non (ne_none_of hl) hg
    refine ⟨fun j k H5 => k = dss[i].length - j ∧ j ≤ dss[i].length ∧ ∃ G5 ys, Xt (some Dl) H4 G4 H5 G5 ∧ Xt none H G H5 G5 ∧ H5 Dl = some (.lst (xs ++ ys)) ∧ G5 Dl = none ∧ DA G5 ys (dss[i].take j), ⟨dss[i].length, by simp, Nat.zero_le _, G4, [], Xt.refl X4.sub, X1.trans X4, by rw [hl4, List.append_nil], hg4, .nil⟩, ?_⟩
    rintro j k H5 ⟨rfl, hj, G5, ys, X5, X5', h5, g5, da5⟩
    by_cases hjl : j < dss[i].length
    · refine .inr ⟨w1.goes j H5 hjl (hG1 H5 G5 X5), fun H' => j + 1 ≤ dss[i].length ∧ ∃ G5 ys, Xt (some Dl) H4 G4 H' G5 ∧ Xt none H G H' G5 ∧ H' Dl = some (.lst (xs ++ ys)) ∧ G5 Dl = none ∧ DA G5 ys (dss[i].take (j + 1)), fun H' p' => ⟨dss[i].length - (j + 1), by omega, rfl, p'.1, p'.2⟩, fun y H6 hy1 => ?_⟩
      have hdj : dss[i][j]? = some dss[i][j] := List.getElem?_eq_getElem hjl
      refine hs1 j y H5 G5 H6 dss[i][j] hdj X5 (w1.yields j H5 y H6 hjl (hG1 H5 G5 X5) hy1) (fun z H7 => ∃ acc, H7 Dl = some (.lst acc) ∧ acc.length < sizeLine ∧ j + 1 ≤ dss[i].length ∧ ∃ G5 ys, Xt (some Dl) H4 G4 (upd H7 Dl (.lst (acc ++ [z]))) G5 ∧ Xt none H G (upd H7 Dl (.lst (acc ++ [z]))) G5 ∧ upd H7 Dl (.lst (acc ++ [z])) Dl = some (.lst (xs ++ ys)) ∧ G5 Dl = none ∧ DA G5 ys (dss[i].take (j + 1))) fun z H7 G7 X7 dz => ?_
      have h7 := X7.hh Dl _ (nb _) h5
      have g7 := X7.non (ne_none_of h5) g5
      have l1 := da.length
      have l2 := da5.length
      rw [List.length_take] at l2
      refine ⟨xs ++ ys, h7, small_lt (by rw [List.length_append]; omega), hjl, G7, ys ++ [z], (X5.trans X7.of).put g7, (X5'.trans X7).set hD g7, by rw [upd_same, List.append_assoc], g7, ?_⟩
      rw [take_succ_of hdj]
      exact (da5.mono X7.gg).append (.one dz)
    · have e : j = dss[i].length := by omega
      subst e
      rw [List.take_length] at da5
      refine .inl ⟨w1.stops H5 (hG1 H5 G5 X5), G5, xs ++ ys, X5', h5, g5, ?_⟩
      rw [et]
      exact (da.mono (Xt.gg (X4.of.trans X5 : Xt (some Dl) H1 G1 H5 G5))).append da5
  · have e : i = n := by omega
    subst e
    refine .inl ⟨w.stops H1 (hG H1 G1 X1), hd H1 G1 xs X1 hl hg ?_⟩
    rw [show dss.take i = dss from List.take_of_length_le (by omega)] at da
    exact da
end Nw
namespace Nw
open PySem L2 PySem.Spec PyProof.Rows RZ
section
variable {X : Cx} {K : PySem.W.Frag}
theorem op_catAK (hK : X.K = K) : OpR X (binaryOp .Add) (rCatA K) := by subst hK; exact op_catA
theorem op_eqOK {k : Nat} {C : Addr} {sp : Sp} (hK : X.K = K) (O : Own X.prog X.w X.K X.mg X.base k C "__eq__" sp) (N : NoFirst X.K C) (hr : Room k X.A) : OpR X (compareOp .Eq) (fun x y H Q => plainV K C H y ∧ rEqO C sp false x y H Q) := by subst hK; exact op_eqO O N hr
theorem op_neOK {k : Nat} {C : Addr} {sp : Sp} (hK : X.K = K) (O : Own X.prog X.w X.K X.mg X.base k C "__eq__" sp) (N : NoFirst X.K C) (hr : Room (k + 1) X.A) : OpR X (compareOp .NotEq) (fun x y H Q => plainV K C H y ∧ rEqO C sp true x y H Q) := by subst hK; exact op_neO O N hr
theorem sl_tupAK (hK : X.K = K) : SlR X (rSlA K) := by subst hK; exact sl_tupA
theorem sl_listK (hK : X.K = K) : SlR X (rSlL K) := by subst hK; exact sl_list
end
theorem flat_take_le {α β : Type} (f : α → List β) (l : List α) (j : Nat) : ((l.take j).map f).flatten.length ≤ (l.map f).flatten.length := by
  have e : ((l.take j).map f).flatten ++ ((l.drop j).map f).flatten = (l.map f).flatten := by rw [← List.flatten_append, ← List.map_append, List.take_append_drop]
  rw [← e, List.length_append]; omega
/-- a part of a list or tuple of data -/
def cutD (ds : List PyData) (lo hi : Option Int) : List PyData := (ds.drop (HT.sIx ds.length 0 lo)).take (HT.sIx ds.length ds.length hi - HT.sIx ds.length 0 lo)
section
variable {K : PySem.W.Frag} {G H : Hp} {x y : V} {ds es : List PyData} {xs : List V} {Q : VK} {lo hi : Option Int}
theorem DA.cut (h : DA G xs ds) (lo hi : Option Int) : DA G (cutV xs lo hi) (cutD ds lo hi) := by
  unfold cutV cutD
  rw [h.length]
  exact (h.drop _).take _
theorem cat_data (hx : D G x (.tuple ds)) (hy : D G y (.tuple es)) (s : Same G H) (hl : ds.length + es.length ≤ 100000) (k : ∀ q H' G', Xt none H G H' G' → D G' q (.tuple (ds ++ es)) → Q q H') : rCatA K x y H Q := by
  obtain ⟨a, xs, rfl, ha, da⟩ := hx.tup_inv
  obtain ⟨b, ys, rfl, hb, db⟩ := hy.tup_inv
  refine ⟨a, b, xs, ys, rfl, rfl, SqT.of (s _ _ ha), SqT.of (s _ _ hb), by rw [da.length, db.length]; exact small_line hl, fun e => ?_, fun n e => ?_, fun n n2 p hp => ?_⟩
  · subst e
    cases da
    exact k _ H G (Xt.refl s) (by simpa using hy)
  · subst e
    cases db
    exact k _ H G (Xt.refl s) (by simpa using hx)
  · exact k _ _ _ (Xt.new s hp) (.tup upd_same ((da.append db).mono (upd_same_ (s.free hp))))
theorem slT_data (hx : D G x (.tuple ds)) (s : Same G H) (k : ∀ q H' G', Xt none H G H' G' → D G' q (.tuple (cutD ds lo hi)) → Q q H') : rSlA K x lo hi H Q := by
  obtain ⟨a, xs, rfl, ha, da⟩ := id hx.tup_inv
  refine ⟨a, xs, rfl, SqT.of (s _ _ ha), fun e => ?_, fun _ p hp => k _ _ _ (Xt.new s hp) (.tup upd_same ((da.cut lo hi).mono (upd_same_ (s.free hp))))⟩
  have e2 : cutD ds lo hi = ds := by
    unfold cutD
    rw [← da.length, e.1, e.2, List.drop_zero, da.length]
    simp
  refine k _ H G (Xt.refl s) ?_
  rw [e2]
  exact hx
theorem slL_data (hx : D G x (.list ds)) (s : Same G H) (k : ∀ q H' G', Xt none H G H' G' → D G' q (.list (cutD ds lo hi)) → Q q H') : rSlL K x lo hi H Q := by
  obtain ⟨a, xs, rfl, ha, da⟩ := hx.list_inv
  exact ⟨a, xs, rfl, SqL.of (s _ _ ha), fun p hp => k _ _ _ (Xt.new s hp) (.lst upd_same ((da.cut lo hi).mono (upd_same_ (s.free hp))))⟩
theorem catL_data (hx : D G x (.list ds)) (hy : D G y (.list es)) (s : Same G H) (hl : ds.length + es.length ≤ 100000) (k : ∀ q H' G', Xt none H G H' G' → D G' q (.list (ds ++ es)) → Q q H') : rCat x y H Q := by
  obtain ⟨a, xs, rfl, ha, da⟩ := hx.list_inv
  obtain ⟨b, ys, rfl, hb, db⟩ := hy.list_inv
  exact ⟨a, b, xs, ys, rfl, rfl, s _ _ ha, s _ _ hb, by rw [da.length, db.length]; exact small_line hl, fun p hp => k _ _ _ (Xt.new s hp) (.lst upd_same ((da.append db).mono (upd_same_ (s.free hp))))⟩
/-- a tuple, a list that is made of data -/
theorem D.newT {p : Addr} (da : DA G xs ds) (s : Same G H) (hp : H p = none) : D (upd G p (.tup xs)) (.ref p) (.tuple ds) := .tup upd_same (da.mono (upd_same_ (s.free hp)))
theorem D.newL {p : Addr} (da : DA G xs ds) (s : Same G H) (hp : H p = none) : D (upd G p (.lst xs)) (.ref p) (.list ds) := .lst upd_same (da.mono (upd_same_ (s.free hp)))
end
end Nw
/-! Own errors: a def that raises, a class whose making raises, isinstance of what was caught. -/
namespace Nw
open PySem L2 PySem.Spec PyProof.Rows RZ
section
variable {P : Program} {w : World} {K : PySem.W.Frag} {mg : Str → Option Value} {base : Heap}
/-- a def that may raise, by its body -/
theorem fnX {x qual : Str} {st : Stmt} {f : Addr} {fd : FuncData} {N ps : List Str} {k : Nat} {sp : Sp} (F : C8.Fun K x qual st f fd) (S : FnScope N ps (C8.fnScope st)) (len : ∀ vs H Q E, sp vs H Q E → vs.length = ps.length)
    (body : ∀ (cdv : Value) (A : Around) (outer : List Env) (s : Shared) (H : Hp) (vs : List V) (Q : VK) (E : XK), Room k (A.deeper (envOfC qual (C8.fnScope st) s.heap.objs.size f cdv)) → sp vs H Q E →
      ∃ t, PSs (cxOf (L2.CX P w) P w K mg base N qual (C8.fnScope st) f cdv A outer s H E) (C8.fnBody st) t ∧
        t { nx := fun _ H' => Q .non H', rt := Q } (start N vs) H) :
    FnOk P w K mg base (L2.CX P w) (k + 1) f fd ps sp := by
  obtain ⟨oc, od, dV, kV, doc, pm, an, cdv, ct, osl, rfl, lk, hcd⟩ := F.ex
  refine fn_of lk hcd S len (fun A outer s H vs Q E hr hsp => ?_)
  exact body cdv A outer s H vs Q E hr hsp
end
section
variable {X : Cx} {CX : CXT} {k : Nat} {f C : Addr} {fd : FuncData} {ps : List Str} {sp : Sp} {E : L2.St → XK} {x : Str} {p pos : Pos} {e : Expr} {es : List Expr} {t : TA}
/-- C(..) where the making may raise: what it may let out is told by the slots -/
def tMakeS (C : Addr) (sp : Sp) (E : L2.St → XK) (t : TA) : TE := fun σ H Q => t σ H fun vs H1 =>
  ∀ x dx, H1 x = none → H1 dx = none → dx ≠ x → sp (.ref x :: vs) (upd (upd H1 dx (.own x)) x (.ins C dx [])) (fun v H2 => v = .non ∧ Q (.ref x) H2) (E σ)
/-- what passes at these slots passes at them with the two new objects beside -/
theorem make_run {pins : List (Addr × Obj)} {σ : L2.St} {H : Hp} {s : Shared} {Q : VK} {us : List Value} {vs : List V} (M : Mk X.K C f) (F : FnOk X.prog X.w X.K X.mg X.base CX k f fd ps sp) (hr : Room (k + 1) X.A) (hb : Binds X.K fd ps [])
    (hx : PassesAt CX X σ (E σ)) (I : Inv X pins σ H s) (r : Vals vs us)
    (h : ∀ x dx, H x = none → H dx = none → dx ≠ x → sp (.ref x :: vs) (upd (upd H dx (.own x)) x (.ins C dx [])) (fun v H2 => v = .non ∧ Q (.ref x) H2) (E σ)) :
    wpAny (model X.prog X.w) X.A (call (.ref C) us) (EP X pins σ Q) X.xe s := by
  let n := s.heap.objs.size
  have hq := h (n + 1) n (I.hok.fresh (Nat.le_succ _)) (I.hok.fresh (Nat.le_refl _)) (Nat.ne_of_lt (Nat.lt_succ_self _))
  have J := Inv.made (C := C) I
  have rr : Vals (V.ref (n + 1) :: vs) (Value.ref (n + 1) :: us) := .cons rfl r
  have hl : (Value.ref (n + 1) :: us).length = ps.length := by rw [← rr.length]; exact F.len _ _ _ _ hq
  have hbind := hb _ (Value.ref (n + 1) :: us) J.kIn (by rw [List.append_nil]; exact hl)
  rw [List.append_nil] at hbind
  have go := F.run _ X.stack _ _ ⟨Value.ref (n + 1) :: us, []⟩ _ _ _ (E σ) (hr.make C us []) (J.env0.make C us []) hbind rr hq
  refine wpAny_call (make_map (f := f) I.kIn M.makes M.init (beq_iff_eq.mp M.fn) (codeAny_mono go ?_))
  intro r s' hq'
  match r, hq' with
  | .error er, hq' => exact hx pins _ _ er s' J hq'
  | .ok (.ret u), hq' =>
    obtain ⟨v, H', J2, rv, ev, q⟩ := J.after hq'
    subst ev
    exact ⟨rv, V.ref (n + 1), H', J2, rfl, q⟩
  | .ok .next, hq' => exact hq'.elim
  | .ok .brk, hq' => exact hq'.elim
  | .ok .cont, hq' => exact hq'.elim
theorem pe_makeS (M : Mk X.K C f) (F : FnOk X.prog X.w X.K X.mg X.base CX k f fd ps sp) (hr : Room (k + 1) X.A) (hg : Gl X x) (hm : X.mg x = some (.ref C)) (hb : Binds X.K fd ps []) (hx : ∀ σ, PassesAt CX X σ (E σ)) (ha : PA X (e :: es) t)
    (hdb : (x == ("__debug__" : Str)) = false := by decide) (he : starEach (e :: es) X.env = (false, eval e X.env) :: starEach es X.env := by rfl)
    (hpl : (backTo pos (starEach es X.env)).any (·.1) = false := by rfl) : PE X (.Call (.Name x p) (e :: es) [] pos) (tMakeS C sp E t) := by
  constructor
  intro pins s σ H Q I h
  apply wpAny_Call_Name_kw (ld_glob I hg hm ?_ hdb)
  apply PySem.W.callWith_K (h₀ := X.base) I.ok.mod.kin M.kp (thn (ha.run pos pins s σ H _ I h) ?_) he hpl
  rintro us s1 ⟨vs, H1, I1, r, q⟩
  exact ⟨I1.kIn, make_run M F hr hb (hx σ) I1 r q⟩
end
/-- what a class of errors must say so that isinstance asks its instances rightly -/
structure ErrC (K : PySem.W.Frag) (D : Addr) : Prop where
  cl : (PySem.W.clsIn K D).isSome = true
  ga : PySem.W.findIn K (.ref D) "__getattribute__" = some (some (.builtin "BaseException.__getattribute__"))
  gt : PySem.W.findIn K (.ref D) "__getattr__" = some none
  sub : PySem.W.subIn K (.ref D) (.type "BaseException") = some true
  ha : PySem.W.findIn K (.ref D) "__class__" = some (some (.builtin "object.__class__"))
  hn : PySem.W.specialIn K (.builtin "object.__class__") "__get__" = some (some (.builtin "getset_descriptor.__get__"))
  tk : PySem.W.takesIn K (.builtin "object.__class__") = some true
  mr : PySem.W.mroIn K D (.type "object") = some true
section
variable {X : Cx} {a D : Addr} {oe : Obj} {cls : Value} {d : Option Addr} {pn : List (Addr × Obj)}
theorem err_at {pins : List (Addr × Obj)} {σ : L2.St} {H : Hp} {s : Shared} {dd : Addr} {fs : List (Str × V)} (hz : Zc cls d oe) (hf : ∃ vs, oe.data = .fields vs) (ec : cls = .ref D) (ed : d = some dd) (I : Inv (X.suite a ((a, oe) :: pn)) pins σ H s)
    (hd : H dd = some (.xd fs)) : ∃ od, PySem.W.InstAt s.heap a oe D (some od) := by
  subst ec
  subst ed
  obtain ⟨ga, _⟩ := I.pin (a, oe) (List.mem_append_left _ List.mem_cons_self)
  obtain ⟨vs, hv⟩ := hf
  have hx : ObjOk X.prog X.w H s.heap dd (.xd fs) := I.hok dd _ hd
  obtain ⟨mA, hns, _⟩ := hx
  obtain ⟨od, ho, _⟩ := lookIn_ns hns
  refine ⟨od, ga, hz.1, ?_, ?_⟩
  · unfold PySem.W.notCls
    rw [hv] <;> rfl
  · rw [hz.2]
    exact ho
/-- isinstance(e, c) of what the suite holds, with its own dict -/
def rIsX (K : PySem.W.Frag) (D a : Addr) (cls : Value) (d : Option Addr) : List V → Hp → VK → Prop := fun xs H Q => cls = .ref D ∧ ∃ (c : V) (cv : Value) (b : Bool) (dd : Addr) (fs : List (Str × V)),
  xs = [.ref a, c] ∧ ClsV c cv ∧ d = some dd ∧ H dd = some (.xd fs) ∧ PySem.W.kitOne K (.ref D) cv = some b ∧ Q (.bl b) H
theorem call_isX (c : ErrC X.K D) (hz : Zc cls d oe) (hf : ∃ vs, oe.data = .fields vs) : CallR (X.suite a ((a, oe) :: pn)) (.builtin "isinstance") (rIsX X.K D a cls d) := by
  intro pins s σ H xs us Q I r h
  obtain ⟨ec, cV, cv, b, dd, fs, rfl, hcv, ed, hd, e, q⟩ := h
  obtain ⟨u1, u2, rfl, r1, r2⟩ := vals2 r
  cases r1
  have e2 := hcv.eq r2
  subst e2
  obtain ⟨od, J⟩ := err_at hz hf ec ed I hd
  exact PySem.W.kia_one (PySem.W.kitx_exc (ox := oe) (od := some od) c.cl c.ga c.gt c.sub c.ha c.hn c.tk c.mr) I.kIn J e (fun z => nomatch z) fun tk => ⟨.bl b, H, I.tok tk, rfl, q⟩
/-- isinstance(e, (c1, ..)), the tuple just laid -/
def rIsXT (K : PySem.W.Frag) (D a : Addr) (cls : Value) (d : Option Addr) : List V → Hp → VK → Prop := fun xs H Q => cls = .ref D ∧ ∃ (tp : Addr) (cs : List V) (ws : List Value) (b : Bool) (dd : Addr) (fs : List (Str × V)),
  xs = [.ref a, .ref tp] ∧ H tp = some (.tup cs) ∧ Paired ClsV cs ws ∧ d = some dd ∧ H dd = some (.xd fs) ∧ PySem.W.kitAny K (.ref D) ws = some b ∧ Q (.bl b) H
theorem call_isXT (c : ErrC X.K D) (hz : Zc cls d oe) (hf : ∃ vs, oe.data = .fields vs) : CallR (X.suite a ((a, oe) :: pn)) (.builtin "isinstance") (rIsXT X.K D a cls d) := by
  intro pins s σ H xs us Q I r h
  obtain ⟨ec, tp, cs, ws, b, dd, fs, rfl, hT, hcv, ed, hd, e, q⟩ := h
  obtain ⟨u1, u2, rfl, r1, r2⟩ := vals2 r
  cases r1
  cases (show u2 = Value.ref tp from r2)
  obtain ⟨od, J⟩ := err_at hz hf ec ed I hd
  obtain ⟨_, its, rv, o, h1, h2, n, h3⟩ := (show ObjOk X.prog X.w H s.heap tp (.tup cs) from I.hok tp _ hT)
  have e3 := ClsV.all hcv rv
  subst e3
  obtain ⟨oc, od', dt, sl⟩ := o
  simp only at h2 h3
  subst h2 h3
  exact PySem.W.kia_tup (PySem.W.kitx_exc (ox := oe) (od := some od) c.cl c.ga c.gt c.sub c.ha c.hn c.tk c.mr) I.kIn J h1 e (fun z => nomatch z) fun tk => ⟨.bl b, H, I.tok tk, rfl, q⟩
end
end Nw
/-! Dicts with None among their keys (numbers, texts, None; no two kinds of dict are mixed). -/
namespace Nw
open PySem L2 PySem.Spec PyProof.Rows RZ
abbrev Nk := List (Leaf × V)
def nV : Leaf → V
  | .none => .non
  | .num i => .int i
  | .text x => .str x
/-- at a: a dict with these keys and values -/
def dN (P : Program) (w : World) (a : Addr) (kvs : Nk) : HO := .ext fun h => kvs.length ≤ sizeLine ∧ (a == sysModules) = false ∧ ∃ vs, KV kvs vs ∧ h.DictOf (leafKind P w) a vs
section
variable {P : Program} {w : World}
theorem nV_is {k : Leaf} {u : Value} (r : RelV (nV k) u) : (leafKind P w).is k u = true := by
  cases k with
  | none =>
    obtain rfl : u = .none := r
    rfl
  | num i =>
    obtain ⟨t, rfl⟩ := r
    exact decide_eq_true rfl
  | text x =>
    obtain ⟨t, rfl⟩ := r
    show (x == x) = true
    simp
theorem dN_at {H : Hp} {h : Heap} {a : Addr} {kvs : Nk} (ok : HOk P w H h) (e : Rd H a (dN P w a kvs)) : kvs.length ≤ sizeLine ∧ (a == sysModules) = false ∧ ∃ vs, KV kvs vs ∧ h.DictOf (leafKind P w) a vs := by
  have x : ObjOk P w H h a (dN P w a kvs) := e.ok ok
  exact x.1
theorem dN_ok {H : Hp} {h : Heap} {a : Addr} {kvs : Nk} {vs : List (Leaf × Value)} (z : kvs.length ≤ sizeLine) (hd : (a == sysModules) = false) (rel : KV kvs vs) (dd : h.DictOf (leafKind P w) a vs) : ObjOk P w H h a (dN P w a kvs) := by
  refine ⟨⟨z, hd, vs, rel, dd⟩, ?_, fun h1 h2 p k => ?_⟩
  · obtain ⟨o, _, _, ho, _⟩ := dd
    exact ⟨o, ho⟩
  · obtain ⟨p1, p2, us, p3, o, es, ep, ho, q⟩ := p
    exact ⟨p1, p2, us, p3, o, es, ep, k _ ho, q⟩
theorem dN_new {H : Hp} (h : Heap) (hb : sysModules < h.objs.size) : ObjOk P w H (h.push { cls := .type "dict", data := .dict #[] }) h.objs.size (dN P w h.objs.size []) :=
  dN_ok (Nat.zero_le _) (beq_eq_false_iff_ne.mpr (Nat.ne_of_lt hb).symm) .nil (Heap.DictOf.new h)
/-- one that its class says: what the walk of a method or of d[k] asks first -/
theorem dN_type {H : Hp} {s : Shared} {a : Addr} {kvs : Nk} (ok : HOk P w H s.heap) (e : Rd H a (dN P w a kvs)) : s.TypeIs (.ref a) "dict" ∧ ∀ b, Value.ref a = .ref b → ∃ ob, s.heap.get? b = some ob ∧ ob.dict = none := by
  obtain ⟨_, _, vs, _, dd⟩ := dN_at ok e
  refine ⟨dd.typeIs, ?_⟩
  rintro b ⟨⟩
  obtain ⟨o, _, _, ho, hx, _⟩ := dd
  exact ⟨o, ho, hx.2.1⟩
end
/-- d[k] -/
def tNAt (P : Program) (w : World) (td ty : TE) : TE := fun σ H Q => td σ H fun x H1 => ty σ H1 fun y H2 =>
  ∃ (a : Addr) (kvs : Nk) (k : Leaf) (v : V), x = .ref a ∧ Rd H2 a (dN P w a kvs) ∧ y = nV k ∧ valV kvs k = some v ∧ Q v H2
/-- d.get(k, z) -/
def tNGet (P : Program) (w : World) (td ty tz : TE) : TE := fun σ H Q => td σ H fun x H1 => ∃ (a : Addr) (kvs : Nk), x = .ref a ∧ Rd H1 a (dN P w a kvs) ∧
  ty σ H1 fun y H2 => tz σ H2 fun z H3 => ∃ k : Leaf, Rd H3 a (dN P w a kvs) ∧ y = nV k ∧ Q ((valV kvs k).getD z) H3
section
variable {X : Cx} {o i e f : Expr} {pos apos cpos : Pos} {td ty tz : TE}
theorem pe_nat (ho : PE X o td) (hi : PE X i ty) (hs : NoSl i) : PE X (.Subscript o i pos) (tNAt X.prog X.w td ty) := by
  constructor
  intro pins s σ H Q I h
  apply subD_of PySem.F.slot_dict_getitem.lookup hs
  refine thn (ho.run pins s σ H _ I h) ?_
  rintro u s1 ⟨x, H1, I1, rx, q1⟩
  refine thn (hi.run pins s1 σ H1 _ I1 q1) ?_
  rintro iv s2 ⟨y, H2, I2, ry, a, kvs, k, v, rfl, ha, rfl, hv, q2⟩
  obtain rfl : u = Value.ref a := rx
  obtain ⟨z, hd, vs, rel, dd⟩ := dN_at I2.hok ha
  obtain ⟨w', hw, rw'⟩ := RelO.some_of (v := v) (o := valueAt vs k) (by rw [← hv]; exact rel.val k)
  exact ⟨(dN_type I2.hok ha).1, wpAny_getItem_of (nV_is ry) dd.mapOf hw ⟨v, H2, I2.tok _, rw', q2⟩⟩
theorem pe_nget (ho : PE X o td) (he : PE X e ty) (hf : PE X f tz) (m : M2 X o "get" apos e f cpos) : PE X (.Call (.Attribute o "get" apos) [e, f] [] cpos) (tNGet X.prog X.w td ty tz) := by
  constructor
  intro pins s σ H Q I h
  apply wpAny_Call_method m.base m.few m.line PySem.F.plainAttrs_dict PySem.F.slot_dict_get PySem.F.type_dict_get
  refine thn (ho.run pins s σ H _ I h) ?_
  rintro u s1 ⟨x, H1, I1, rx, a, kvs, rfl, ha, q1⟩
  obtain rfl : u = Value.ref a := rx
  obtain ⟨t1, t2⟩ := dN_type I1.hok ha
  refine ⟨t1, t2, ?_⟩
  rw [m.trees]
  apply Calls.callWith_builtin rfl
  apply Calls.evalArgs_plain
  apply Calls.spliced_cons
  refine thn (he.run pins s1 σ H1 _ I1 q1) ?_
  rintro iv s2 ⟨y, H2, I2, ry, q2⟩
  apply Calls.spliced_cons
  refine thn (hf.run pins s2 σ H2 _ I2 q2) ?_
  rintro fv s3 ⟨z, H3, I3, rz, k, ha3, rfl, q3⟩
  apply Calls.spliced_nil
  obtain ⟨_, hd, vs, rel, dd⟩ := dN_at I3.hok ha3
  exact call_meetsIn PySem.F.slot_dict_get dd.typeIs PySem.F.entry_dict_get (PySem.F.args_dict_get_3 _ _ _) (meets_dict_get_default (leafKind X.prog X.w) a (nV_is ry) hd fv)
    ⟨_, dd.mapOf, ⟨_, H3, I3.tok _, (rel.val k).getD rz, q3⟩⟩
end
/-! ### displays -/
def mergeN (kvs more : Nk) : Nk := more.foldl (fun acc kv => putK acc kv.1 kv.2) kvs
theorem KV.mergeN_ : ∀ {more : Nk} {rs : List (Leaf × Value)} {kvs : Nk} {vs : List (Leaf × Value)}, KV more rs → KV kvs vs → KV (mergeN kvs more) (merged vs rs)
  | [], _, _, _, r, q => by
    cases r
    exact q
  | p :: more, _, kvs, vs, r, q => by
    cases r with
    | @cons _ b _ bs h t =>
      have e : KV (putK kvs p.1 p.2) (stored vs b.1 b.2) := by
        rw [← h.1]
        exact q.put p.1 h.2
      exact KV.mergeN_ (more := more) (rs := bs) t e
theorem mergeN_length : ∀ (more kvs : Nk), (mergeN kvs more).length ≤ kvs.length + more.length
  | [], kvs => Nat.le_refl _
  | p :: more, kvs => by
    have h1 := mergeN_length more (putK kvs p.1 p.2)
    have h2 := length_putK kvs p.1 p.2
    rw [List.length_cons]
    exact Nat.le_trans h1 (by omega)
theorem carriesN {P : Program} {w : World} : ∀ {kvs : Nk} {ws : List (Value × Value)}, VV (kvs.map fun kv => (nV kv.1, kv.2)) ws → ∃ rs, Carries (leafKind P w) ws rs ∧ KV kvs rs
  | [], _, r => by
    cases r
    exact ⟨[], trivial, .nil⟩
  | p :: kvs, _, r => by
    cases r with
    | @cons _ b _ bs h t =>
      obtain ⟨rs, c, q⟩ := carriesN (P := P) (w := w) t
      obtain ⟨b1, b2⟩ := b
      exact ⟨(p.1, b2) :: rs, ⟨nV_is h.1, rfl, c⟩, .cons ⟨rfl, h.2⟩ q⟩
/-- {k: v, ..} -/
def tNDisp (P : Program) (w : World) (trs : List (TE × TE)) : TE := fun σ H Q => ∀ p, H p = none → tPairs trs σ (upd H p (dN P w p [])) fun ps H2 =>
  H2 p = some (dN P w p []) ∧ ∃ kvs : Nk, ps = kvs.map (fun kv => (nV kv.1, kv.2)) ∧ kvs.length ≤ 15 ∧ Q (.ref p) (upd H2 p (dN P w p (mergeN [] kvs)))
theorem pe_ndisp {X : Cx} {pos : Pos} {keys : List (Option Expr)} {values : List Expr} {trs : List (TE × TE)} (h : PPs X pos keys values trs) (hall : keys.all (·.isSome) = true) (hl : keys.length = values.length) (h0 : keys ≠ []) (h15 : keys.length ≤ 15) :
    PE X (.Dict keys values pos) (tNDisp X.prog X.w trs) := by
  constructor
  intro pins s σ H Q I q
  have hn := I.hok.fresh (Nat.le_refl s.heap.objs.size)
  have J := I.laid (a := s.heap.objs.size) (o := dN X.prog X.w s.heap.objs.size []) (h' := s.heap.push { cls := .type "dict", data := .dict #[] }) (t' := s.toks)
    (fun _ _ q => Heap.get?_push_of_some _ q) (Nat.le_refl _) (dN_new s.heap I.big)
  apply wpAny_Dict_walk (knd := leafKind X.prog X.w) hall hl h0 h15
  refine thn (h.run pins _ σ _ _ J (q _ hn)) ?_
  rintro ws s2 ⟨ps, H2, I2, rel, e, kvs, rfl, lk, q2⟩
  obtain ⟨rs, c, rk⟩ := carriesN (P := X.prog) (w := X.w) rel
  obtain ⟨z, hd, vs0, r0, dd⟩ := dN_at I2.hok (.inl e)
  cases r0
  refine ⟨rs, c, dd, fun h' dd' hs => ⟨.ref s.heap.objs.size, _, ?_, rfl, q2⟩⟩
  have hz : (mergeN [] kvs).length ≤ sizeLine := by
    have := mergeN_length kvs []
    rw [List.length_nil] at this
    rw [sizeLine_eq]
    omega
  obtain ⟨ob, _, _, hob, _⟩ := id dd'
  exact d_write I2 (by rw [e]; exact True.intro) hs ⟨ob, hob⟩ (dN_ok hz hd (KV.mergeN_ rk .nil) dd')
/-- d[k] = v by a comprehension -/
theorem dN_set {X : Cx} {pins : List (Addr × Obj)} {σ : L2.St} {H : Hp} {s : Shared} {E : Value → Shared → Prop} {D : Addr} {kvs : Nk} {k : Leaf} {v : V} {u r : Value} {Q : Unit → Shared → Prop} (I : Inv X pins σ H s) (hD : H D = some (dN X.prog X.w D kvs))
    (hz : kvs.length < sizeLine) (ry : RelV (nV k) u) (rv : RelV v r) (h : ∀ s', Inv X pins σ (upd H D (dN X.prog X.w D (putK kvs k v))) s' → Q () s') : wpAny (model X.prog X.w) X.A (dictSet D u r) Q E s := by
  obtain ⟨z, hd, vs, rel, dd⟩ := dN_at I.hok (.inl hD)
  have hl : (putK kvs k v).length ≤ sizeLine := Nat.le_trans (length_putK kvs k v) hz
  apply wpAny_dictSet_pairs (hsz := by rw [← rel.length]; exact z) (nV_is ry) dd
  intro h' dd' hs
  apply h
  obtain ⟨ob, _, _, hob, _⟩ := id dd'
  exact d_write I (by rw [hD]; exact True.intro) hs ⟨ob, hob⟩ (dN_ok hl hd (rel.put k rv) dd')
end Nw
namespace Nw
open PySem L2 PySem.Spec PyProof.Rows RZ
section
variable {X : Cx}
/-- {k: v for target in iter if ..} with None among the keys: D the new dict -/
def tNDc (P : Program) (w : World) (wi : TI) (g : TG) (tt : TT) (tk tv : TE) (vs : List Nat) : TE := fun σ H Q => wi σ H fun J H1 =>
  ∀ D, H1 D = none → ∃ W : Nat → Nat → Hp → Prop, (∃ m, W 0 m (upd H1 D (dN P w D []))) ∧ ∀ i m H, W i m H →
    (J.stop i H ∧ Q (.ref D) H) ∨ (J.go i H ∧ ∃ Nx : Hp → Prop, (∀ H', Nx H' → ∃ m', m' < m ∧ W (i + 1) m' H') ∧
      ∀ x H', J.yld i H x H' → g x (wipe σ vs) H' fun σ2 H2 => wipe σ2 vs = wipe σ vs ∧ tt σ2 H2 fun b H3 =>
        if b = true then tk σ2 H3 fun y H4 => tv σ2 H4 fun z H5 => ∃ (kvs : Nk) (k : Leaf), y = nV k ∧ H5 D = some (dN P w D kvs) ∧ kvs.length < sizeLine ∧ Nx (upd H5 D (dN P w D (putK kvs k z)))
        else Nx H3)
theorem pe_ndc {kx vx tg iter : Expr} {ifs : List Expr} {scope : Scope} {own : List (Str × Nat)} {pos : Pos} {wi : TI} {g : TG} {tt : TT} {tk tv : TE} (calm : X.calm = true) (nd : X.N.Nodup) (hi : PI X tg iter wi) (ok : BlkOk X.N X.env.scope scope own)
    (hg : ∀ (s : Shared) (H : Hp) (C : Addr) (cl : List (Str × Addr)) (fp : List Addr), PG (X.blk s H scope (compEnvC scope cl C X.env) fp) tg g)
    (ht : ∀ (s : Shared) (H : Hp) (C : Addr) (cl : List (Str × Addr)) (fp : List Addr), PTs (X.blk s H scope (compEnvC scope cl C X.env) fp) ifs tt)
    (hk : ∀ (s : Shared) (H : Hp) (C : Addr) (cl : List (Str × Addr)) (fp : List Addr), PE (X.blk s H scope (compEnvC scope cl C X.env) fp) kx tk)
    (he : ∀ (s : Shared) (H : Hp) (C : Addr) (cl : List (Str × Addr)) (fp : List Addr), PE (X.blk s H scope (compEnvC scope cl C X.env) fp) vx tv)
    (hs : ∀ x, foldedSetIterable iter X.env x = pure x := by intro _; rfl) : PE X (.DictComp kx vx [⟨tg, iter, ifs, 0⟩] scope pos) (tNDc X.prog X.w wi g tt tk tv (own.map (·.2))) := by
  constructor
  intro pins s σ H Q I h
  rw [arm_eval_DictComp]
  have cells : ∀ y ∈ scope.names, y.2 = .free → ∃ c, X.env.cells.lookup y.1 = some c := by
    intro y hy e
    rcases ok.free y hy e with k | k
    · exact I.ok.has _ (.inl k)
    · exact I.ok.has _ (.inr k)
  apply wpAny_comprehension_free rfl hs (closure_ok cells) ok.kind (fun y hy e => by rw [ok.uniq y hy, e])
  refine thn (hi.run pins s σ H _ I h) ?_
  intro xv s1 hx
  refine thn hx ?_
  rintro itv s2 ⟨it, fp, tn, J, H2, rfl, I2, T, st2, f2, q⟩
  refine wpAny_newObj_type (newEnv_comp ?_)
  -- D: the dict that is made
  have free2 : H2 s2.heap.objs.size = none := I2.hok.fresh (Nat.le_refl _)
  obtain ⟨W, ⟨m0, w0⟩, turn⟩ := q _ free2
  have I3 := I2.laid (t' := s2.toks) (fun b o e => Heap.get?_push_of_some _ e) (Nat.le_refl _) (dN_new (P := X.prog) (w := X.w) (H := upd H2 s2.heap.objs.size (dN X.prog X.w s2.heap.objs.size [])) s2.heap I2.big)
  generalize eD : s2.heap.objs.size = D at I3 w0 turn free2 ⊢
  generalize es3 : Shared.mk (s2.heap.push { cls := .type "dict", data := .dict #[] }) s2.gens s2.drawn s2.toks s2.os = s3 at I3 ⊢
  have hp3 : s3.heap = s2.heap.push { cls := .type "dict", data := .dict #[] } := by rw [← es3]
  have kp3 : ∀ b o, s2.heap.get? b = some o → s3.heap.get? b = some o := fun b o e => by
    rw [hp3]
    exact Heap.get?_push_of_some _ e
  have f3 : ∀ b ∈ fp, FpOk X pins (upd H2 D (dN X.prog X.w D [])) b ∧ b < s3.heap.objs.size := by
    intro b hb
    obtain ⟨o, e, _⟩ := T.obj _ _ st2 b hb
    have lt := Heap.lt_size e
    refine ⟨⟨?_, (f2 b hb).2⟩, ?_⟩
    · rw [upd_ne (by rw [← eD]; exact Nat.ne_of_lt lt)]
      exact (f2 b hb).1
    · rw [hp3, Heap.size_push]
      exact Nat.lt_succ_of_lt lt
  have st3 : tn 0 s3.heap := T.keep _ _ _ st2 fun b _ o e => kp3 b o e
  have I4 := block_start I3 ok nd f3
  have pg := hg s3 (upd H2 D (dN X.prog X.w D [])) s3.heap.objs.size (cellsFrom (s3.heap.objs.size + 1) scope.names (cloFrom X.env.cells scope.names [])) fp
  have pt := ht s3 (upd H2 D (dN X.prog X.w D [])) s3.heap.objs.size (cellsFrom (s3.heap.objs.size + 1) scope.names (cloFrom X.env.cells scope.names [])) fp
  have pk := hk s3 (upd H2 D (dN X.prog X.w D [])) s3.heap.objs.size (cellsFrom (s3.heap.objs.size + 1) scope.names (cloFrom X.env.cells scope.names [])) fp
  have pe := he s3 (upd H2 D (dN X.prog X.w D [])) s3.heap.objs.size (cellsFrom (s3.heap.objs.size + 1) scope.names (cloFrom X.env.cells scope.names [])) fp
  show codeAny (model X.prog X.w) X.A (.compStart (.DictComp kx vx [⟨tg, iter, ifs, 0⟩] scope pos) 0 (.ref it) (.ref D) (compEnvC scope (cellsFrom (s3.heap.objs.size + 1) scope.names (cloFrom X.env.cells scope.names [])) s3.heap.objs.size X.env))
      (compPost (model X.prog X.w) X.A X.xe none (EP X pins σ Q) (.ref D) s3.heap.objs.size) { s3 with heap := pushCells (s3.heap.push { cls := .type "dict", data := .dict #[] }) scope.names }
  have none_ : ∀ b ∈ fp, (upd H2 D (dN X.prog X.w D [])) b = none := fun b hb => (f3 b hb).1.1
  generalize ece : compEnvC scope (cellsFrom (s3.heap.objs.size + 1) scope.names (cloFrom X.env.cells scope.names [])) s3.heap.objs.size X.env = ce at I4 pg pt pk pe ⊢
  have loc : ce.locals = s3.heap.objs.size := by rw [← ece]; rfl
  generalize upd H2 D (dN X.prog X.w D []) = H3 at I3 I4 pg pt pk pe w0 none_ f3
  generalize es4 : Shared.mk (pushCells (s3.heap.push { cls := .type "dict", data := .dict #[] }) scope.names) s3.gens s3.drawn s3.toks s3.os = s4 at I4 ⊢
  have st4 : tn 0 s4.heap := T.keep _ _ _ st3 fun b _ o e => by
    rw [← es4]
    exact pushCells_keeps _ _ _ _ (Heap.get?_push_of_some _ e)
  -- what the walked iterator's objects are within the block
  have out : ∀ {σ' : L2.St} {H' : Hp} {s' : Shared}, Inv (X.blk s3 H3 scope ce fp) [] σ' H' s' → (∀ b ∈ fp, H' b = none) → ∀ b ∈ fp, FpOk (X.blk s3 H3 scope ce fp) [] H' b := by
    intro σ' H' s' J' n b hb
    refine ⟨n b hb, (J'.ok.exf b hb).1, J'.ok.exfs b hb, .inl hb, ?_, ?_⟩
    · exact fun x c e => (J'.ok.exf b hb).2 x c e
    · intro p hp
      exact absurd (show p ∈ ([] : List (Addr × Obj)) ++ [] from hp) (by simp)
  have loop : codeAny (model X.prog X.w) X.A (.compLoop (.DictComp kx vx [⟨tg, iter, ifs, 0⟩] scope pos) 0 (.ref it) (.ref D) ce) (compPost (model X.prog X.w) X.A X.xe none (EP X pins σ Q) (.ref D) s3.heap.objs.size) s4 := by
    let Pv : Nat → Shared → Prop := fun n s' => ∃ i H', Inv (X.blk s3 H3 scope ce fp) [] (wipe σ (own.map (·.2))) H' s' ∧ tn i s'.heap ∧ (∀ b ∈ fp, H' b = none) ∧ W i n H'
    refine compLoop_anyD Pv ?_ m0 ⟨0, H3, I4, st4, none_, w0⟩
    rintro n s5 ⟨i, H5, I5, st5, n5, w5⟩
    rcases turn i n H5 w5 with ⟨stop, fin⟩ | ⟨go, Nx, hNx, step⟩
    · refine thnF (T.done (X.blk s3 H3 scope ce fp) rfl rfl rfl calm i [] s5 _ H5 (fun _ _ => False) I5 (out I5 n5) st5 stop) ?_
      rintro r s6 ⟨rfl, I6⟩
      have I7 : Inv X pins σ H5 s6 := by
        refine I3.call' (ch := fp) I6.os I6.base I6.hok I6.bare fun b hb => ?_
        obtain ⟨⟨_, q2, q3, q4, q5, q6⟩, _⟩ := f3 b hb
        exact ⟨q4, q2, q5, q6⟩
      have nC : H5 s3.heap.objs.size = none := by
        have z : H5 ce.locals = none := I6.free
        rwa [loc] at z
      obtain ⟨m, hn, _⟩ := I6.loc
      have hn' : s6.heap.Ns s3.heap.objs.size m := by
        have z : s6.heap.Ns ce.locals m := hn
        rwa [loc] at z
      obtain ⟨q0, q1, q2, q3, q4, q5⟩ := I3.fpOk (Nat.le_refl _) nC
      exact ⟨m, hn', fun h'' sb => ⟨.ref D, H5, I7.turned (t' := s6.toks) (fun b o hb e => (sb.2 b hb).trans e) q0 q1 q3 q4 q5, rfl, fin⟩⟩
    · refine thnF (T.item (X.blk s3 H3 scope ce fp) rfl rfl rfl calm i [] s5 _ H5 (fun _ _ => False) I5 (out I5 n5) st5 go) ?_
      rintro r s6 ⟨u, rfl, h6⟩
      refine thnF h6 ?_
      rintro _ s7 ⟨x, H7, I7, r7, y7, st7, n7⟩
      have J7 := I7.pinned (out I7 n7) (T.obj _ _ st7)
      refine thnF (pg.run _ s7 _ H7 x u _ J7 r7 (step x H7 y7)) ?_
      rintro _ s8 ⟨σ8, H8, I8, hw8, q8⟩
      refine thnF (pt.run _ s8 σ8 H8 _ I8 q8) ?_
      rintro b s9 ⟨H9, I9, q9⟩
      -- behind the turn
      have behind : ∀ {s' : Shared} {H' : Hp}, Inv (X.blk s3 H3 scope ce fp) ([] ++ pinsAt fp s7.heap) σ8 H' s' → Nx H' → ∃ m, m < n ∧ Pv m s' := by
        intro s' H' J' nx
        obtain ⟨m', hm, w'⟩ := hNx H' nx
        have pin' : ∀ b ∈ fp, ∀ o, s7.heap.get? b = some o → s'.heap.get? b = some o ∧ H' b = none := by
          intro b hb o e
          obtain ⟨z1, z2, _⟩ := J'.pin (b, o) (List.mem_append_right _ (List.mem_append_right _ (mem_pinsAt hb e)))
          exact ⟨z1, z2⟩
        refine ⟨m', hm, i + 1, H', (J'.unpinned (pins := [])).weak ?_ ?_, ?_, ?_, w'⟩
        · rw [← hw8, wipe_length]
        · intro j v e
          rw [← hw8] at e
          exact (wipe_some e).1
        · exact T.keep _ _ _ st7 fun b hb o e => (pin' b hb o e).1
        · intro b hb
          obtain ⟨o, e, _⟩ := T.obj _ _ st7 b hb
          exact (pin' b hb o e).2
      cases b with
      | false =>
        simp only [Bool.false_eq_true, if_false] at q9 ⊢
        exact behind I9 q9
      | true =>
        simp only [if_true] at q9 ⊢
        refine thnF (pk.run _ s9 σ8 H9 _ I9 q9) ?_
        rintro z s10 ⟨yk, H10, I10, r10, q10⟩
        refine thnF (pe.run _ s10 σ8 H10 _ I10 q10) ?_
        rintro z2 s11 ⟨yv, H11, I11, r11, kvs, k, rfl, hD11, hz11, nx⟩
        exact dN_set (X := X.blk s3 H3 scope ce fp) I11 hD11 hz11 r10 r11 fun s12 I12 => behind I12 nx
  exact codeAny_compStart_dict loop (T.self X.A 0 _ _ _ st4 loop)
end
end Nw
/-! The keys and the items of a dict with None among its keys. -/
namespace Nw
open PySem L2 PySem.Spec PyProof.Rows RZ
/-- None or a text -/
def noNum : Leaf → Prop
  | .num _ => False
  | _ => True
theorem leaf_rel {P : Program} {w : World} {k : Leaf} {v : Value} (n : noNum k) (h : (leafKind P w).is k v = true) : RelV (nV k) v := by
  cases k with
  | none =>
    have h' : Leaf.isOf .none v = true := h
    cases v <;> first | rfl | exact absurd h' Bool.false_ne_true
  | num i => exact n.elim
  | text x =>
    obtain ⟨t, rfl⟩ := Value.isStrOf_shape (show Value.isStrOf x v = true from h)
    exact ⟨t, rfl⟩
section
variable {prog : Program} {w : World} {A : Around} {E : Value → Shared → Prop} {s : Shared} {T : String} {r d : Addr} {n : Nat} {P : Nat → Value → Prop} {OK : Heap → Prop}
/-- list += source, the list new -/
theorem iadd_src {R : Result → Shared → Prop} (K : PySem.W.KdlSrc prog w T r d n P OK) (hh : A.handled = none) (hok : OK s.heap) (S : Addr) (n1 : S ≠ r) (n2 : S ≠ d) (hS : s.heap.get? S = some { cls := .type "list", data := .seq #[] }) (hn : n ≤ sizeLine)
    (hR : ∀ h' tk acc' c', (∀ b o, b ≠ S → s.heap.get? b = some o → h'.get? b = some o) → h'.get? S = some { cls := .type "list", dict := none, data := .seq acc' c', slots := #[] } → ItemsOf P acc' n → R (.ok (.ret (.ref S))) { s with heap := h', toks := tk }) :
    codeAny (model prog w) A (.builtin "list.__iadd__" ⟨[.ref S, .ref r], []⟩) R s := by
  refine codeAny_builtin PySem.F.entry_list_iadd ?_; rw [Around.under_plainId PySem.F.plain_list_iadd _]
  exact PySem.W.kdl_extend (A := A) K hh hok S n1 n2 (.ref S) _ hS hR hn
/-- all that a source of keys gives -/
theorem collect_src {Q : List Value → Shared → Prop} (K : PySem.W.KdlSrc prog w T r d n P OK) (hh : A.handled = none) (hok : OK s.heap) (hn : n ≤ sizeLine)
    (hQ : ∀ h' tk (acc : Array Value), (∀ b o, s.heap.get? b = some o → h'.get? b = some o) → ItemsOf P acc n → Q acc.toList { s with heap := h', toks := tk }) : wpAny (model prog w) A (collect (.ref r)) Q E s := by
  unfold collect
  refine wpAny_bind (wpAny_runValue (codeAny_builtin PySem.F.entry_proto_collect ?_)); rw [Around.under_plainId PySem.F.plain_proto_collect _]
  show wpAny (model prog w) A.in1 (newList [] >>= fun l => again (.builtin "list.__iadd__" ⟨[l, .ref r], []⟩)) _ _ s
  obtain ⟨l1, l2⟩ := K.there _ hok
  have new : (s.heap.push { cls := .type "list", data := .seq #[] }).get? s.heap.objs.size = some { cls := .type "list", data := .seq #[] } := Heap.get?_push_size _ rfl
  have kept := K.keep _ (s.heap.push { cls := .type "list", data := .seq #[] }) hok fun b _ o e => Heap.get?_push_of_some _ e
  refine wpAny_bind (wpAny_newObj_type (wpAny_pure ⟨plainId_quiet PySem.F.plain_list_iadd _, ?_⟩))
  refine iadd_src (s := { s with heap := s.heap.push { cls := .type "list", data := .seq #[] } }) K hh kept _ (Nat.ne_of_gt l1) (Nat.ne_of_gt l2) new hn fun h' tk acc' c' hk hS' ha => ?_
  show wpAny (model prog w) A (load s.heap.objs.size >>= _) _ _ _
  refine wpAny_bind (wpAny_load hS' (wpAny_pure (hQ h' tk acc' (fun b o e => ?_) ha)))
  exact hk b o (Nat.ne_of_lt (Heap.lt_size e)) (Heap.get?_push_of_some _ e)
end
def tStarN (P : Program) (w : World) (te : TE) (t : TA) : TA := fun σ H Q => te σ H fun x H1 => ∃ (a : Addr) (kvs : Nk), x = .ref a ∧ Rd H1 a (dN P w a kvs) ∧ (∀ kv ∈ kvs, noNum kv.1) ∧
  t σ H1 fun ys H2 => Q (kvs.map (fun kv => nV kv.1) ++ ys) H2
section
variable {X : Cx}
theorem keys_rel {P : Program} {w : World} {kvs : Nk} {vs : List (Leaf × Value)} {acc : Array Value} (rel : KV kvs vs) (nn : ∀ kv ∈ kvs, noNum kv.1) (h : ItemsOf (fun i v => ∃ k x, vs[i]? = some (k, x) ∧ (leafKind P w).is k v = true) acc vs.length) :
    Vals (kvs.map fun kv => nV kv.1) acc.toList := by
  obtain ⟨hl, hp⟩ := h
  have key : ∀ (l : List Value) (kvs : Nk) (vs : List (Leaf × Value)), KV kvs vs → (∀ kv ∈ kvs, noNum kv.1) → l.length = vs.length → (∀ (i : Nat) (v : Value), l[i]? = some v → ∃ k x, vs[i]? = some (k, x) ∧ (leafKind P w).is k v = true) → Vals (kvs.map fun kv => nV kv.1) l := by
    intro l
    induction l with
    | nil =>
      intro kvs vs r nn e _
      cases vs with
      | nil =>
        cases r
        exact .nil
      | cons => simp at e
    | cons a l ih =>
      intro kvs vs r nn e hp
      cases r with
      | nil => simp at e
      | @cons p q ps qs h t =>
        obtain ⟨k, x, e1, e2⟩ := hp 0 a rfl
        obtain rfl : q = (k, x) := by simpa using e1
        refine .cons ?_ (ih ps qs t (fun kv hk => nn kv (List.mem_cons_of_mem _ hk)) (by simpa using e) fun i v hv => ?_)
        · have h1 : p.1 = k := h.1
          show RelV (nV p.1) a
          rw [h1]
          exact leaf_rel (by rw [← h1]; exact nn p List.mem_cons_self) e2
        · obtain ⟨k', x', f1, f2⟩ := hp (i + 1) v (by simpa using hv)
          exact ⟨k', x', by simpa using f1, f2⟩
  refine key acc.toList kvs vs rel nn (by rw [Array.length_toList]; exact hl) fun i v hv => hp i v ?_
  rw [← Array.getElem?_toList]
  exact hv
theorem pa_starN {e : Expr} {es : List Expr} {te : TE} {t : TA} {p : Pos} (calm : X.calm = true) (he : PE X e te) (hr : PA X es t) (hs : starEach (.Starred e p :: es) X.env = (true, eval e X.env) :: starEach es X.env := by rfl) :
    PA X (.Starred e p :: es) (tStarN X.prog X.w te t) := by
  constructor
  intro pos pins s σ H Q I h
  refine PySem.W.items_star (thn (he.run pins s σ H _ I h) ?_) hs
  rintro v s1 ⟨y, H1, I1, ry, a, kvs, rfl, ha, nn, q⟩
  obtain rfl : v = Value.ref a := ry
  obtain ⟨z, hd, vs, rel, dd⟩ := dN_at I1.hok ha
  have hT : s1.TypeIs (.ref a) "dict" := dd.typeIs
  obtain ⟨o, es', ep, ho, hx, hdt, r3⟩ := id dd
  have at_ : s1.heap.DictAt (leafKind X.prog X.w) a vs ep := ⟨o, es', ho, hx, hdt, r3⟩
  unfold PySem.W.StarOf notIterableAtAll
  refine wpAny_bind (wpAny_specialOf hT PySem.F.slot_dict_iter.lookup (wpAny_pure ⟨rfl, ?_⟩))
  refine collect_src (PySem.W.kdl_dict (knd := leafKind X.prog X.w) (kvs := vs) (ep := ep) hd) (I1.ok.hd calm) at_ (by rw [← rel.length]; exact z) fun h' tk acc hk ha' => ?_
  have I2 : Inv X pins σ H1 { s1 with heap := h', toks := tk } := I1.kept hk
  refine thn (hr.run pos pins _ σ H1 _ I2 q) ?_
  rintro ws s3 ⟨ys, H3, I3, r3', q3⟩
  exact ⟨_, H3, I3, (keys_rel rel nn ha').append r3', q3⟩
end
/-- what e gives is new, and stays as it is from then on -/
def tFrz (t : TE) : TE := fun σ H Q => t σ H fun v H' => ∃ d u, v = .ref d ∧ H' d = some u ∧ Mut (some u) ∧ ∀ od, Q v (upd H' d (.frz od u))
theorem pe_frz {X : Cx} {e : Expr} {t : TE} (h : PE X e t) : PE X e (tFrz t) := by
  constructor
  intro pins s σ H Q I q
  refine thn (h.run pins s σ H _ I q) ?_
  rintro v s1 ⟨x, H1, I1, rx, d, u, rfl, hd, mu, q1⟩
  obtain ⟨od, I2⟩ := I1.lock hd mu
  exact ⟨_, _, I2, rx, q1 od⟩
section
variable {X : Cx} {pins : List (Addr × Obj)} {σ : L2.St} {H : Hp} {s : Shared} {d : Addr} {o : Obj} {kvs : Nk}
theorem frzN (I : Inv X pins σ H s) (h : H d = some (.frz o (dN X.prog X.w d kvs))) :
    (d == sysModules) = false ∧ s.heap.get? d = some o ∧ o.ExactDict ∧ ∃ (es : Array DictEntry) (ep : Nat) (vs : List (Leaf × Value)), o.data = .dict es ep ∧ es.size = kvs.length ∧ KV kvs vs ∧ s.heap.DictAt (leafKind X.prog X.w) d vs ep := by
  obtain ⟨hd, x, _⟩ := I.hok d _ h
  obtain ⟨z, hs, vs, kv, o', es, ep, ho, hx, hdt, r⟩ := x
  rw [hd] at ho
  cases ho
  refine ⟨hs, hd, hx, es, ep, vs, hdt, ?_, kv, o, es, hd, hx, hdt, r⟩
  have l1 := r.2.1.length
  rw [Array.length_toList] at l1
  rw [l1, kv.length]
theorem kvN_get {kvs : Nk} {vs : List (Leaf × Value)} {i : Nat} {k : Leaf} {v : V} (r : KV kvs vs) (h : kvs[i]? = some (k, v)) : ∃ u, vs[i]? = some (k, u) ∧ RelV v u := by
  have key : ∀ (kvs : Nk) (vs : List (Leaf × Value)) (i : Nat), KV kvs vs → kvs[i]? = some (k, v) → ∃ u, vs[i]? = some (k, u) ∧ RelV v u := by
    intro kvs
    induction kvs with
    | nil => intro vs i _ e; simp at e
    | cons p ps ih =>
      intro vs i r e
      cases r with
      | @cons _ q _ qs h t =>
        cases i with
        | zero =>
          obtain rfl : p = (k, v) := by simpa using e
          obtain ⟨q1, q2⟩ := q
          obtain ⟨h1, h2⟩ := h
          have e1 : k = q1 := h1
          subst e1
          exact ⟨q2, rfl, h2⟩
        | succ i =>
          obtain ⟨u, e1, e2⟩ := ih qs i t (by simpa using e)
          exact ⟨u, by simpa using e1, e2⟩
  exact key kvs vs i r h
end
/-! ### walks -/
section
variable {P : Program} {w : World} {K : PySem.W.Frag} {tg : Expr} {d : Addr} {o : Obj} {es : Array DictEntry} {ep : Nat}
/-- the keys, in their order -/
def ItNk (P : Program) (w : World) (d : Addr) (o : Obj) (kvs : Nk) : It :=
  ⟨fun i H => H d = some (.frz o (dN P w d kvs)) ∧ i < kvs.length, fun i H x H' => H' = H ∧ ∃ k v, kvs[i]? = some (k, v) ∧ x = nV k, fun i H => H d = some (.frz o (dN P w d kvs)) ∧ kvs.length ≤ i⟩
/-- the pairs, each a new tuple -/
def ItNi (P : Program) (w : World) (d : Addr) (o : Obj) (kvs : Nk) : It :=
  ⟨fun i H => H d = some (.frz o (dN P w d kvs)) ∧ i < kvs.length, fun i H x H' => ∃ T k v, kvs[i]? = some (k, v) ∧ x = .ref T ∧ H T = none ∧ H' = upd H T (.tup [nV k, v]), fun i H => H d = some (.frz o (dN P w d kvs)) ∧ kvs.length ≤ i⟩
theorem turnNk {kvs : Nk} (nn : ∀ kv ∈ kvs, noNum kv.1) (it : Addr) (hod : o.data = .dict es ep) : Turn P w K tg (ItNk P w d o kvs) [it] it (fun i h => h.IsKeyIter it d i kvs.length ep) := by
  refine { mem := by simp, obj := ?_, keep := ?_, item := ?_, done := ?_, self := ?_ }
  · intro i h st b hb
    obtain rfl : b = it := by simpa using hb
    obtain ⟨oi, e, c, dd⟩ := st
    exact ⟨oi, e, fun v z => by rw [dd] at z; cases z⟩
  · intro i h h' st k
    exact st.at fun oi e => k it (by simp) oi e
  · rintro X rfl rfl rfl hc i pins s σ H E I hf st ⟨hd, hi⟩
    obtain ⟨f0, f1, f2, f3, f4, f5⟩ := hf it (by simp)
    obtain ⟨hs, hgd, hx, es', ep', vs, hdt, hsz, kv, hm⟩ := frzN I hd
    obtain ⟨rfl, rfl⟩ := dict_ep hod hdt
    obtain ⟨⟨k, v⟩, hkv⟩ : ∃ p, kvs[i]? = some p := ⟨kvs[i], List.getElem?_eq_getElem hi⟩
    obtain ⟨u, hu, ru⟩ := kvN_get kv hkv
    have hl : kvs.length = vs.length := kv.length
    rw [hl] at st
    refine wpAny_pyNext_dict_item st hm hu ?_
    intro key h' hkey st' sb
    have J : Inv X pins σ H { s with heap := h' } := I.turned (t' := s.toks) (fun b ob hb e => (sb.2 b hb).trans e) f0 f1 f3 f4 f5
    obtain ⟨oi, e, c, dd⟩ := id st'
    refine ⟨key, rfl, go_of (s := { s with heap := h' }) e c dd (by decide) ⟨nV k, H, J, ?_, ⟨rfl, k, v, hkv, rfl⟩, ?_, ?_⟩⟩
    · exact leaf_rel (nn _ (List.mem_of_getElem? hkv)) hkey
    · show h'.IsKeyIter it d (i + 1) kvs.length _
      rw [hl]
      exact st'
    · intro b hb
      exact (hf b hb).1
  · rintro X rfl rfl rfl hc i pins s σ H E I hf st ⟨hd, hi⟩
    obtain ⟨f0, f1, f2, f3, f4, f5⟩ := hf it (by simp)
    obtain ⟨hs, hgd, hx, es', ep', vs, hdt, hsz, kv, hm⟩ := frzN I hd
    obtain ⟨rfl, rfl⟩ := dict_ep hod hdt
    refine next_key_end (I.ok.hd hc) st hgd hdt hsz hi ?_
    intro h' eb
    exact ⟨rfl, I.turned (t' := s.toks) (fun b ob hb e => eb b ob hb e) f0 f1 f3 f4 f5⟩
  · intro A i s Q E st h
    exact wpAny_pyIter_keyiter st h
theorem turnNi {kvs : Nk} {elts : List Expr} {kk : Nat} {tpos : Pos} (nn : ∀ kv ∈ kvs, noNum kv.1) (it : Addr) (hod : o.data = .dict es ep) :
    Turn P w K (.Tuple elts kk tpos) (ItNi P w d o kvs) [it] it (fun i h => ∃ ok ov, IsItemIter h it d i kvs.length ep ok ov) := by
  refine { mem := by simp, obj := ?_, keep := ?_, item := ?_, done := ?_, self := ?_ }
  · rintro i h ⟨ok, ov, e⟩ b hb
    obtain rfl : b = it := by simpa using hb
    exact ⟨_, e, fun v z => nomatch z⟩
  · rintro i h h' ⟨ok, ov, e⟩ k
    exact ⟨ok, ov, k it (by simp) _ e⟩
  · rintro X rfl rfl rfl hc i pins s σ H E I hf st ⟨hd, hi⟩
    obtain ⟨hs, hgd, hx, es', ep', vs, hdt, hsz, kv, hm⟩ := frzN I hd
    obtain ⟨rfl, rfl⟩ := dict_ep hod hdt
    obtain ⟨⟨k, v⟩, hkv⟩ : ∃ p, kvs[i]? = some p := ⟨kvs[i], List.getElem?_eq_getElem hi⟩
    obtain ⟨u, hu, ru⟩ := kvN_get kv hkv
    have hl : kvs.length = vs.length := kv.length
    obtain ⟨ok, ov, he⟩ := st
    rw [hl] at he
    have lt : it < s.heap.objs.size := Heap.lt_size he
    refine wpAny_pyNext_items_item he hm hu ?_
    intro key h' hkey ho hT hz hk
    refine ⟨_, rfl, wpAny_letOwnedTupleGo_items (s := { s with heap := h' }) ho ?_⟩
    intro h'' he' sb
    have hT2 : h''.get? s.heap.objs.size = some { cls := .type "tuple", data := .seq #[key, u] } := (sb.2 _ (Nat.ne_of_gt lt)).trans hT
    have rk : RelV (nV k) key := leaf_rel (nn _ (List.mem_of_getElem? hkv)) hkey
    have new : ObjOk X.prog X.w (upd H s.heap.objs.size (.tup [nV k, v])) h'' s.heap.objs.size (.tup [nV k, v]) := ⟨by show 2 ≤ sizeLine; decide, [key, u], .cons rk (.cons ru .nil), ⟨_, hT2, rfl, _, rfl⟩⟩
    have J : Inv X pins σ (upd H s.heap.objs.size (.tup [nV k, v])) { s with heap := h'' } := by
      refine I.turnedNew (t' := s.toks) (ch := [it]) (fun b ob hb e => ?_) hf (Nat.le_refl _) new
      exact (sb.2 b (by simpa using hb)).trans (hk b ob (by simpa using hb) e)
    refine ⟨.ref s.heap.objs.size, _, J, rfl, ⟨_, k, v, hkv, rfl, I.hok.fresh (Nat.le_refl _), rfl⟩, ⟨key, u, ?_⟩, ?_⟩
    · rw [hl]
      exact he'
    · intro b hb
      obtain rfl : b = it := by simpa using hb
      rw [upd_ne (Nat.ne_of_lt lt)]
      exact (hf b (by simp)).1
  · rintro X rfl rfl rfl hc i pins s σ H E I hf st ⟨hd, hi⟩
    obtain ⟨f0, f1, f2, f3, f4, f5⟩ := hf it (by simp)
    obtain ⟨hs, hgd, hx, es', ep', vs, hdt, hsz, kv, hm⟩ := frzN I hd
    obtain ⟨rfl, rfl⟩ := dict_ep hod hdt
    have hl : kvs.length = vs.length := kv.length
    obtain ⟨ok, ov, he⟩ := st
    rw [hl] at he
    refine wpAny_pyNext_items_end (I.ok.hd hc) he hm (List.getElem?_eq_none (by omega)) ?_
    intro h' eb
    exact ⟨rfl, I.turned (t' := s.toks) (fun b ob hb e => eb b ob hb e) f0 f1 f3 f4 f5⟩
  · rintro A i s Q E ⟨_, _, e⟩ h
    exact PySem.W.kcp_self e h
end
/-- for k in d -/
def iNk (P : Program) (w : World) (td : TE) : TI := fun σ H R => td σ H fun x H1 => ∃ (d : Addr) (o : Obj) (kvs : Nk), x = .ref d ∧ H1 d = some (.frz o (dN P w d kvs)) ∧ (∀ kv ∈ kvs, noNum kv.1) ∧ R (ItNk P w d o kvs) H1
/-- for k, v in d.items() -/
def iNi (P : Program) (w : World) (td : TE) : TI := fun σ H R => td σ H fun x H1 => ∃ (d : Addr) (o : Obj) (kvs : Nk), x = .ref d ∧ H1 d = some (.frz o (dN P w d kvs)) ∧ (∀ kv ∈ kvs, noNum kv.1) ∧ R (ItNi P w d o kvs) H1
section
variable {X : Cx} {tg e : Expr} {td : TE} {apos cpos : Pos}
theorem pi_nk (he : PE X e td) : PI X tg e (iNk X.prog X.w td) := by
  constructor
  intro pins s σ H R I h
  refine thn (he.run pins s σ H _ I h) ?_
  rintro u s1 ⟨x, H1, I1, rx, d, o, kvs, rfl, hd, nn, q⟩
  obtain rfl : u = Value.ref d := rx
  obtain ⟨hs, hgd, hx, es, ep, vs, hdt, hsz, kv, hm⟩ := frzN I1 hd
  refine iter_keys hs hgd hx hdt (pi_one (tk := s1.toks) I1 _ (turnNk nn _ hdt) ⟨_, Heap.get?_push_size _ rfl, rfl, ?_⟩ q)
  rw [hsz] <;> rfl
theorem pi_ni {elts : List Expr} {kk : Nat} {tpos : Pos} (he : PE X e td) (hb : attributeBase e "items" X.env (eval e X.env) = eval e X.env := by rfl) (hl : (apos.endLine == cpos.line) = true := by rfl) :
    PI X (.Tuple elts kk tpos) (.Call (.Attribute e "items" apos) [] [] cpos) (iNi X.prog X.w td) := by
  constructor
  intro pins s σ H R I h
  apply wpAny_Call_method (T := "dict") (id := "dict.items") hb rfl hl PySem.F.plainAttrs_dict PySem.F.slot_dict_items PySem.F.type_dict_items
  refine thn (he.run pins s σ H _ I h) ?_
  rintro u s1 ⟨x, H1, I1, rx, d, o, kvs, rfl, hd, nn, q⟩
  obtain rfl : u = Value.ref d := rx
  obtain ⟨hs, hgd, hx, es, ep, vs, hdt, hsz, kv, hm⟩ := frzN I1 hd
  have hlen : kvs.length = vs.length := kv.length
  refine ⟨hm.dictOf.typeIs, hm.dictOf.mapOf.noDict, ?_⟩
  let view : Obj := { cls := .type "dict_items", data := .fields #[.ref d] }
  have J : Inv X pins σ H1 { s1 with heap := s1.heap.push view } := I1.kept (t' := s1.toks) fun b ob q => Heap.get?_push_of_some _ q
  have fin : wpAny (model X.prog X.w) X.A (pyIter (.ref s1.heap.objs.size)) (PIE X pins σ (.Tuple elts kk tpos) R) X.xe { s1 with heap := s1.heap.push view } := by
    refine wpAny_pyIter_items (d := d) (knd := leafKind X.prog X.w) ⟨_, Heap.get?_push_size _ rfl, rfl, rfl⟩ (hm.push _) ?_
    refine pi_one (tk := s1.toks) J _ (turnNi nn _ hdt) ⟨.none, .none, ?_⟩ q
    rw [hlen]
    exact Heap.get?_push_size _ rfl
  show wpAny _ _ (callWith cpos (.builtin "dict.items") [.ref d] [] []) _ X.xe s1
  refine method_meetsIn PySem.F.slot_dict_items PySem.F.entry_dict_items rfl (PySem.evalArgs_none ⟨rfl, hm.dictOf.typeIs, PySem.F.args_dict_items_1 _, _, meets_dict_items (leafKind X.prog X.w) d hs, ⟨vs, hm.dictOf⟩, fin⟩)
end
theorem walkNk {P : Program} {w : World} {d : Addr} {o : Obj} {kvs : Nk} : Walk (ItNk P w d o kvs) kvs.length (fun H => H d = some (.frz o (dN P w d kvs))) (fun i H x H' => H' = H ∧ ∃ k v, kvs[i]? = some (k, v) ∧ x = nV k) :=
  ⟨fun _ _ hi q => ⟨q, hi⟩, fun _ q => ⟨q, Nat.le_refl _⟩, fun _ _ _ _ _ _ y => y⟩
theorem walkNi {P : Program} {w : World} {d : Addr} {o : Obj} {kvs : Nk} : Walk (ItNi P w d o kvs) kvs.length (fun H => H d = some (.frz o (dN P w d kvs))) (fun i H x H' => ∃ T k v, kvs[i]? = some (k, v) ∧ x = .ref T ∧ H T = none ∧ H' = upd H T (.tup [nV k, v])) :=
  ⟨fun _ _ hi q => ⟨q, hi⟩, fun _ q => ⟨q, Nat.le_refl _⟩, fun _ _ _ _ _ _ y => y⟩
end Nw
/-! Meanings: dicts from None and names to ints, as data. -/
namespace Nw
open PySem L2 PySem.Spec PyProof.Rows RZ
/-- a dict comprehension, Pv by the turn and the heap -/
theorem ndc_it {P : Program} {w_ : World} {J : It} {n : Nat} {Gp : Hp → Prop} {Y : Nat → Hp → V → Hp → Prop} (w : Walk J n Gp Y) {g : TG} {tt : TT} {tk tv : TE} {vs : List Nat} {σ : L2.St} {H1 : Hp} {D : Addr} {Qd : Hp → Prop} (Pv : Nat → Hp → Prop)
    (h0 : Pv 0 (upd H1 D (dN P w_ D []))) (hG : ∀ i H, i ≤ n → Pv i H → Gp H)
    (hs : ∀ i x H H', i < n → Pv i H → Y i H x H' → g x (wipe σ vs) H' fun σ2 H2 => wipe σ2 vs = wipe σ vs ∧ tt σ2 H2 fun b H3 =>
      if b = true then tk σ2 H3 fun y H4 => tv σ2 H4 fun z H5 => ∃ (kvs : Nk) (k : Leaf), y = nV k ∧ H5 D = some (dN P w_ D kvs) ∧ kvs.length < sizeLine ∧ Pv (i + 1) (upd H5 D (dN P w_ D (putK kvs k z)))
      else Pv (i + 1) H3) (hd : ∀ H, Pv n H → Qd H) :
    ∃ W : Nat → Nat → Hp → Prop, (∃ m, W 0 m (upd H1 D (dN P w_ D []))) ∧ ∀ i m H, W i m H →
      (J.stop i H ∧ Qd H) ∨ (J.go i H ∧ ∃ Nx : Hp → Prop, (∀ H', Nx H' → ∃ m', m' < m ∧ W (i + 1) m' H') ∧ ∀ x H', J.yld i H x H' → g x (wipe σ vs) H' fun σ2 H2 => wipe σ2 vs = wipe σ vs ∧ tt σ2 H2 fun b H3 =>
        if b = true then tk σ2 H3 fun y H4 => tv σ2 H4 fun z H5 => ∃ (kvs : Nk) (k : Leaf), y = nV k ∧ H5 D = some (dN P w_ D kvs) ∧ kvs.length < sizeLine ∧ Nx (upd H5 D (dN P w_ D (putK kvs k z))) else Nx H3) := by
  refine ⟨fun i m H => m = n - i ∧ i ≤ n ∧ Pv i H, ⟨n, by simp, Nat.zero_le _, h0⟩, ?_⟩
  rintro i m H ⟨rfl, hi, p⟩
  have q := hG i H hi p
  rcases Nat.lt_or_ge i n with lt | ge
  · exact .inr ⟨w.goes i H lt q, Pv (i + 1), fun H' p' => ⟨n - (i + 1), by omega, rfl, lt, p'⟩, fun x H' y => hs i x H H' lt p (w.yields i H x H' lt q y)⟩
  · have e : i = n := by omega
    subst e
    exact .inl ⟨w.stops H q, hd H p⟩
theorem putK_keys {kvs : Nk} {k : Leaf} {v : V} {kv : Leaf × V} (h : kv ∈ putK kvs k v) : (kv.1 = k ∧ kv.2 = v) ∨ kv ∈ kvs := by
  unfold putK at h
  split at h
  · obtain ⟨q, hq, e⟩ := List.mem_map.mp h
    by_cases c : q.1 = k
    · rw [if_pos c] at e
      subst e
      exact .inl ⟨c, rfl⟩
    · rw [if_neg c] at e
      subst e
      exact .inr hq
  · rcases List.mem_append.mp h with h | h
    · exact .inr h
    · rw [List.mem_singleton.mp h]
      exact .inl ⟨rfl, rfl⟩
theorem putK_nd {kvs : Nk} {k : Leaf} {v : V} (h : (kvs.map (·.1)).Nodup) : ((putK kvs k v).map (·.1)).Nodup := by
  unfold putK
  split
  · rw [List.map_map]
    have e : (kvs.map ((fun x : Leaf × V => x.1) ∘ fun kv => if kv.1 = k then (kv.1, v) else kv)) = kvs.map (·.1) := by
      refine List.map_congr_left fun q _ => ?_
      show (if q.1 = k then (q.1, v) else q).1 = q.1
      split <;> rfl
    rw [e]
    exact h
  · rename_i c
    rw [List.map_append]
    refine List.nodup_append.mpr ⟨h, List.nodup_cons.mpr ⟨List.not_mem_nil, List.nodup_nil⟩, fun a ha b hb e => ?_⟩
    obtain rfl : b = k := by simpa using hb
    subst e
    obtain ⟨q, hq, e2⟩ := List.mem_map.mp ha
    exact c (List.any_eq_true.mpr ⟨q, hq, decide_eq_true e2⟩)
/-- the int of a value -/
def iv : V → Int
  | .int i => i
  | _ => 0
/-- what a meaning says for a key -/
def mv (m : Nk) (k : Leaf) : Int := iv ((valV m k).getD ((valV m .none).getD .non))
structure MOk (m : Nk) : Prop where
  isI : ∀ kv ∈ m, noNum kv.1 ∧ ∃ i, kv.2 = .int i
  hasN : ∃ i, valV m .none = some (.int i)
  lenM : m.length ≤ 1000
  nd : (m.map (·.1)).Nodup
theorem valV_mem {m : Nk} {k : Leaf} {v : V} (h : valV m k = some v) : (k, v) ∈ m := by
  unfold valV at h
  obtain ⟨p, hp, rfl⟩ := Option.map_eq_some_iff.mp h
  have h1 := List.mem_of_find?_eq_some hp
  have h2 := List.find?_some hp
  have h3 : p.1 = k := of_decide_eq_true h2
  rw [← h3]
  exact h1
theorem valV_keys {m : Nk} {k : Leaf} : (valV m k).isSome = true ↔ k ∈ m.map (·.1) := by
  constructor
  · intro h
    obtain ⟨v, hv⟩ := Option.isSome_iff_exists.mp h
    exact List.mem_map.mpr ⟨_, valV_mem hv, rfl⟩
  · intro h
    obtain ⟨p, hp, rfl⟩ := List.mem_map.mp h
    rw [← valV_any]
    exact List.any_eq_true.mpr ⟨p, hp, decide_eq_true rfl⟩
theorem MOk.get {m : Nk} (h : MOk m) (k : Leaf) : (valV m k).getD ((valV m .none).getD .non) = .int (mv m k) := by
  unfold mv
  obtain ⟨i, hi⟩ := h.hasN
  cases e : valV m k with
  | none =>
    rw [hi]
    rfl
  | some v =>
    obtain ⟨_, j, hj⟩ := h.isI _ (valV_mem e)
    have hj' : v = .int j := hj
    subst hj'
    rfl
/-- a meaning stands there for good -/
def Mn (P : Program) (w : World) (G : Hp) (d : Addr) (m : Nk) : Prop := (∃ o, G d = some (.frz o (dN P w d m))) ∧ MOk m
theorem Mn.mono {P : Program} {w : World} {G G' : Hp} {d : Addr} {m : Nk} (s : Same G G') (h : Mn P w G d m) : Mn P w G' d m := by
  obtain ⟨⟨o, h1⟩, h2⟩ := h
  exact ⟨⟨o, s _ _ h1⟩, h2⟩
theorem Mn.rd {P : Program} {w : World} {G H : Hp} {d : Addr} {m : Nk} (h : Mn P w G d m) (s : Same G H) : Rd H d (dN P w d m) := by
  obtain ⟨⟨o, h1⟩, _⟩ := h
  exact .inr ⟨o, s _ _ h1⟩
/-- the accumulated dict behind i of the names ks, each with f of it -/
structure Acc (f : Leaf → Int) (ks : List Leaf) (i : Nat) (kvs : Nk) : Prop where
  val : ∀ k, valV kvs k = if k ∈ ks.take i then some (.int (f k)) else none
  mem : ∀ kv ∈ kvs, kv.1 ∈ ks.take i ∧ kv.2 = .int (f kv.1)
  len : kvs.length ≤ i
  nd : (kvs.map (·.1)).Nodup
theorem Acc.nil {f : Leaf → Int} {ks : List Leaf} : Acc f ks 0 [] := ⟨fun k => by simp [valV], (fun kv h => by cases h), Nat.le_refl _, List.nodup_nil⟩
theorem Acc.step {f : Leaf → Int} {ks : List Leaf} {i : Nat} {kvs : Nk} {k : Leaf} (a : Acc f ks i kvs) (h : ks[i]? = some k) : Acc f ks (i + 1) (putK kvs k (.int (f k))) := by
  have et := take_succ_of h
  refine ⟨fun j => ?_, fun kv hk => ?_, ?_, putK_nd a.nd⟩
  · rw [valV_put, a.val, et]
    by_cases c : j = k
    · subst c
      rw [if_pos rfl, if_pos (List.mem_append.mpr (.inr (List.mem_singleton.mpr rfl)))]
    · rw [if_neg c]
      by_cases c2 : j ∈ ks.take i
      · rw [if_pos c2, if_pos (List.mem_append.mpr (.inl c2))]
      · rw [if_neg c2, if_neg fun q => by
          rcases List.mem_append.mp q with q | q
          · exact c2 q
          · exact c (List.mem_singleton.mp q)]
  · rw [et]
    rcases putK_keys hk with ⟨e1, e2⟩ | hk
    · rw [e1]
      exact ⟨List.mem_append.mpr (.inr (List.mem_singleton.mpr rfl)), e2⟩
    · obtain ⟨q1, q2⟩ := a.mem kv hk
      exact ⟨List.mem_append.mpr (.inl q1), q2⟩
  · have := length_putK kvs k (.int (f k))
    have := a.len
    omega
theorem Acc.done {f : Leaf → Int} {ks : List Leaf} {kvs : Nk} (a : Acc f ks ks.length kvs) (nn : ∀ k ∈ ks, noNum k) (h0 : .none ∈ ks) (hl : ks.length ≤ 1000) : MOk kvs ∧ (∀ k, mv kvs k = if k ∈ ks then f k else f .none) ∧ ∀ k, k ∈ kvs.map (·.1) ↔ k ∈ ks := by
  have ev : ∀ k, valV kvs k = if k ∈ ks then some (.int (f k)) else none := fun k => by
    have := a.val k
    rw [List.take_length] at this
    exact this
  have em : ∀ kv ∈ kvs, kv.1 ∈ ks ∧ kv.2 = .int (f kv.1) := fun kv h => by
    have := a.mem kv h
    rw [List.take_length] at this
    exact this
  refine ⟨⟨fun kv h => ⟨nn _ (em kv h).1, _, (em kv h).2⟩, ⟨f .none, by rw [ev, if_pos h0]⟩, Nat.le_trans a.len hl, a.nd⟩, fun k => ?_, fun k => ?_⟩
  · unfold mv
    rw [ev, ev, if_pos h0]
    by_cases c : k ∈ ks
    · rw [if_pos c, if_pos c]; rfl
    · rw [if_neg c, if_neg c]; rfl
  · rw [← valV_keys, ev]
    by_cases c : k ∈ ks
    · rw [if_pos c]; exact ⟨fun _ => c, fun _ => rfl⟩
    · rw [if_neg c]; exact ⟨(fun h => by cases h), fun h => absurd h c⟩
/-- with keys that are different the i-th value is the key's -/
theorem valV_nd : ∀ {m : Nk} {i : Nat} {k : Leaf} {v : V}, (m.map (·.1)).Nodup → m[i]? = some (k, v) → valV m k = some v
  | [], i, k, v, _, h => by simp at h
  | p :: m, 0, k, v, _, h => by
    obtain rfl : p = (k, v) := by simpa using h
    exact valV_pos rfl
  | p :: m, i + 1, k, v, nd, h => by
    have h' : m[i]? = some (k, v) := by simpa using h
    obtain ⟨n1, n2⟩ := List.nodup_cons.mp nd
    rw [valV_neg (fun e => n1 (List.mem_map.mpr ⟨_, List.mem_of_getElem? h', e.symm⟩))]
    exact valV_nd n2 h'
end Nw
/-! A comprehension with a test. -/
namespace Nw
open PySem L2 PySem.Spec PyProof.Rows RZ
theorem lcf_it {J : It} {n : Nat} {Gp : Hp → Prop} {Y : Nat → Hp → V → Hp → Prop} (w : Walk J n Gp Y) {g : TG} {tt : TT} {te : TE} {vs : List Nat} {σ : L2.St} {H1 : Hp} {D : Addr} {Qd : Hp → Prop} (Pv : Nat → Hp → Prop)
    (h0 : Pv 0 (upd H1 D (.lst []))) (hG : ∀ i H, i ≤ n → Pv i H → Gp H)
    (hs : ∀ i x H H', i < n → Pv i H → Y i H x H' → g x (wipe σ vs) H' fun σ2 H2 => wipe σ2 vs = wipe σ vs ∧ tt σ2 H2 fun b H3 =>
      if b = true then te σ2 H3 fun y H4 => ∃ acc, H4 D = some (.lst acc) ∧ acc.length < sizeLine ∧ Pv (i + 1) (upd H4 D (.lst (acc ++ [y])))
      else Pv (i + 1) H3) (hd : ∀ H, Pv n H → Qd H) :
    ∃ W : Nat → Nat → Hp → Prop, (∃ m, W 0 m (upd H1 D (.lst []))) ∧ ∀ i m H, W i m H →
      (J.stop i H ∧ Qd H) ∨ (J.go i H ∧ ∃ Nx : Hp → Prop, (∀ H', Nx H' → ∃ m', m' < m ∧ W (i + 1) m' H') ∧ ∀ x H', J.yld i H x H' → g x (wipe σ vs) H' fun σ2 H2 => wipe σ2 vs = wipe σ vs ∧ tt σ2 H2 fun b H3 =>
        if b = true then te σ2 H3 fun y H4 => ∃ acc, H4 D = some (.lst acc) ∧ acc.length < sizeLine ∧ Nx (upd H4 D (.lst (acc ++ [y]))) else Nx H3) := by
  refine ⟨fun i m H => m = n - i ∧ i ≤ n ∧ Pv i H, ⟨n, by simp, Nat.zero_le _, h0⟩, ?_⟩
  rintro i m H ⟨rfl, hi, p⟩
  have q := hG i H hi p
  rcases Nat.lt_or_ge i n with lt | ge
  · exact .inr ⟨w.goes i H lt q, Pv (i + 1), fun H' p' => ⟨n - (i + 1), by omega, rfl, lt, p'⟩, fun x H' y => hs i x H H' lt p (w.yields i H x H' lt q y)⟩
  · have e : i = n := by omega
    subst e
    exact .inl ⟨w.stops H q, hd H p⟩
end Nw
namespace Nw
open PySem L2 PySem.Spec PyProof.Rows RZ
theorem dT_set {X : Cx} {pins : List (Addr × Obj)} {σ : L2.St} {H : Hp} {s : Shared} {E : Value → Shared → Prop} {D q : Addr} {kvs : List (List L2.Key × V)} {k : List L2.Key} {v : V} {r : Value} {Q : Unit → Shared → Prop} (hu : X.A.units + 1 < cLine) (I : Inv X pins σ H s) (hD : H D = some (.dT kvs))
    (hz : kvs.length < sizeLine) (eb : H q = some (.tup (k.map kV))) (rv : RelV v r) (h : ∀ s', Inv X pins σ (upd H D (.dT (putK kvs k v))) s' → Q () s') : wpAny (model X.prog X.w) X.A (dictSet D (.ref q) r) Q E s := by
  obtain ⟨z, hd, xs, rel, dd⟩ := dt_of I.hok hD
  have hz' : xs.length ≤ sizeLine := by rw [← Paired.length rel]; exact z
  have hl : (putK kvs k v).length ≤ sizeLine := by have := length_putK kvs k v; omega
  refine wpAny_dictSet_heap (hsz := hz') (show (tupleKind (mixKind X.prog X.w)).room X.A from Nat.lt_of_succ_lt hu) (key_of I.hok eb) dd fun h' dd' hs => h _ ?_
  obtain ⟨ob, es, ep, hq, h2, h3, h4, _, h5⟩ := dd'
  refine d_write I (by rw [hD]; exact True.intro) hs ⟨ob, hq⟩ ⟨hl, hd, _, (rel.put k eb rv).keeps fun c ys ec => ?_, ob, es, ep, hq, h2, h3, h4, h5⟩
  rw [upd_ne (ne_of ec hD (fun z => nomatch z))]
  exact ec
section
variable {X : Cx}
/-- {k: v for target in iter if ..} with tuples as its keys: D the new dict -/
def tTDc (P : Program) (w : World) (wi : TI) (g : TG) (tt : TT) (tk tv : TE) (vs : List Nat) : TE := fun σ H Q => wi σ H fun J H1 =>
  ∀ D, H1 D = none → ∃ W : Nat → Nat → Hp → Prop, (∃ m, W 0 m (upd H1 D (.dT []))) ∧ ∀ i m H, W i m H →
    (J.stop i H ∧ Q (.ref D) H) ∨ (J.go i H ∧ ∃ Nx : Hp → Prop, (∀ H', Nx H' → ∃ m', m' < m ∧ W (i + 1) m' H') ∧
      ∀ x H', J.yld i H x H' → g x (wipe σ vs) H' fun σ2 H2 => wipe σ2 vs = wipe σ vs ∧ tt σ2 H2 fun b H3 =>
        if b = true then tk σ2 H3 fun y H4 => tv σ2 H4 fun z H5 => ∃ (kvs : List (List L2.Key × V)) (k : List L2.Key) (q : Addr), y = .ref q ∧ H5 q = some (.tup (k.map kV)) ∧ H5 D = some (.dT kvs) ∧ kvs.length < sizeLine ∧ Nx (upd H5 D (.dT (putK kvs k z)))
        else Nx H3)
theorem pe_tdc (hu : X.A.units + 1 < cLine) {kx vx tg iter : Expr} {ifs : List Expr} {scope : Scope} {own : List (Str × Nat)} {pos : Pos} {wi : TI} {g : TG} {tt : TT} {tk tv : TE} (calm : X.calm = true) (nd : X.N.Nodup) (hi : PI X tg iter wi) (ok : BlkOk X.N X.env.scope scope own)
    (hg : ∀ (s : Shared) (H : Hp) (C : Addr) (cl : List (Str × Addr)) (fp : List Addr), PG (X.blk s H scope (compEnvC scope cl C X.env) fp) tg g)
    (ht : ∀ (s : Shared) (H : Hp) (C : Addr) (cl : List (Str × Addr)) (fp : List Addr), PTs (X.blk s H scope (compEnvC scope cl C X.env) fp) ifs tt)
    (hk : ∀ (s : Shared) (H : Hp) (C : Addr) (cl : List (Str × Addr)) (fp : List Addr), PE (X.blk s H scope (compEnvC scope cl C X.env) fp) kx tk)
    (he : ∀ (s : Shared) (H : Hp) (C : Addr) (cl : List (Str × Addr)) (fp : List Addr), PE (X.blk s H scope (compEnvC scope cl C X.env) fp) vx tv)
    (hs : ∀ x, foldedSetIterable iter X.env x = pure x := by intro _; rfl) : PE X (.DictComp kx vx [⟨tg, iter, ifs, 0⟩] scope pos) (tTDc X.prog X.w wi g tt tk tv (own.map (·.2))) := by
  constructor
  intro pins s σ H Q I h
  rw [arm_eval_DictComp]
  have cells : ∀ y ∈ scope.names, y.2 = .free → ∃ c, X.env.cells.lookup y.1 = some c := by
    intro y hy e
    rcases ok.free y hy e with k | k
    · exact I.ok.has _ (.inl k)
    · exact I.ok.has _ (.inr k)
  apply wpAny_comprehension_free rfl hs (closure_ok cells) ok.kind (fun y hy e => by rw [ok.uniq y hy, e])
  refine thn (hi.run pins s σ H _ I h) ?_
  intro xv s1 hx
  refine thn hx ?_
  rintro itv s2 ⟨it, fp, tn, J, H2, rfl, I2, T, st2, f2, q⟩
  refine wpAny_newObj_type (newEnv_comp ?_)
  -- D: the dict that is made
  have free2 : H2 s2.heap.objs.size = none := I2.hok.fresh (Nat.le_refl _)
  obtain ⟨W, ⟨m0, w0⟩, turn⟩ := q _ free2
  have I3 := I2.laid (t' := s2.toks) (fun b o e => Heap.get?_push_of_some _ e) (Nat.le_refl _) (dt_empty (P := X.prog) (w := X.w) (H := upd H2 s2.heap.objs.size (.dT [])) s2.heap I2.big)
  generalize eD : s2.heap.objs.size = D at I3 w0 turn free2 ⊢
  generalize es3 : Shared.mk (s2.heap.push { cls := .type "dict", data := .dict #[] }) s2.gens s2.drawn s2.toks s2.os = s3 at I3 ⊢
  have hp3 : s3.heap = s2.heap.push { cls := .type "dict", data := .dict #[] } := by rw [← es3]
  have kp3 : ∀ b o, s2.heap.get? b = some o → s3.heap.get? b = some o := fun b o e => by
    rw [hp3]
    exact Heap.get?_push_of_some _ e
  have f3 : ∀ b ∈ fp, FpOk X pins (upd H2 D (.dT [])) b ∧ b < s3.heap.objs.size := by
    intro b hb
    obtain ⟨o, e, _⟩ := T.obj _ _ st2 b hb
    have lt := Heap.lt_size e
    refine ⟨⟨?_, (f2 b hb).2⟩, ?_⟩
    · rw [upd_ne (by rw [← eD]; exact Nat.ne_of_lt lt)]
      exact (f2 b hb).1
    · rw [hp3, Heap.size_push]
      exact Nat.lt_succ_of_lt lt
  have st3 : tn 0 s3.heap := T.keep _ _ _ st2 fun b _ o e => kp3 b o e
  have I4 := block_start I3 ok nd f3
  have pg := hg s3 (upd H2 D (.dT [])) s3.heap.objs.size (cellsFrom (s3.heap.objs.size + 1) scope.names (cloFrom X.env.cells scope.names [])) fp
  have pt := ht s3 (upd H2 D (.dT [])) s3.heap.objs.size (cellsFrom (s3.heap.objs.size + 1) scope.names (cloFrom X.env.cells scope.names [])) fp
  have pk := hk s3 (upd H2 D (.dT [])) s3.heap.objs.size (cellsFrom (s3.heap.objs.size + 1) scope.names (cloFrom X.env.cells scope.names [])) fp
  have pe := he s3 (upd H2 D (.dT [])) s3.heap.objs.size (cellsFrom (s3.heap.objs.size + 1) scope.names (cloFrom X.env.cells scope.names [])) fp
  show codeAny (model X.prog X.w) X.A (.compStart (.DictComp kx vx [⟨tg, iter, ifs, 0⟩] scope pos) 0 (.ref it) (.ref D) (compEnvC scope (cellsFrom (s3.heap.objs.size + 1) scope.names (cloFrom X.env.cells scope.names [])) s3.heap.objs.size X.env))
      (compPost (model X.prog X.w) X.A X.xe none (EP X pins σ Q) (.ref D) s3.heap.objs.size) { s3 with heap := pushCells (s3.heap.push { cls := .type "dict", data := .dict #[] }) scope.names }
  have none_ : ∀ b ∈ fp, (upd H2 D (.dT [])) b = none := fun b hb => (f3 b hb).1.1
  generalize ece : compEnvC scope (cellsFrom (s3.heap.objs.size + 1) scope.names (cloFrom X.env.cells scope.names [])) s3.heap.objs.size X.env = ce at I4 pg pt pk pe ⊢
  have loc : ce.locals = s3.heap.objs.size := by rw [← ece]; rfl
  generalize upd H2 D (.dT []) = H3 at I3 I4 pg pt pk pe w0 none_ f3
  generalize es4 : Shared.mk (pushCells (s3.heap.push { cls := .type "dict", data := .dict #[] }) scope.names) s3.gens s3.drawn s3.toks s3.os = s4 at I4 ⊢
  have st4 : tn 0 s4.heap := T.keep _ _ _ st3 fun b _ o e => by
    rw [← es4]
    exact pushCells_keeps _ _ _ _ (Heap.get?_push_of_some _ e)
  -- what the walked iterator's objects are within the block
  have out : ∀ {σ' : L2.St} {H' : Hp} {s' : Shared}, Inv (X.blk s3 H3 scope ce fp) [] σ' H' s' → (∀ b ∈ fp, H' b = none) → ∀ b ∈ fp, FpOk (X.blk s3 H3 scope ce fp) [] H' b := by
    intro σ' H' s' J' n b hb
    refine ⟨n b hb, (J'.ok.exf b hb).1, J'.ok.exfs b hb, .inl hb, ?_, ?_⟩
    · exact fun x c e => (J'.ok.exf b hb).2 x c e
    · intro p hp
      exact absurd (show p ∈ ([] : List (Addr × Obj)) ++ [] from hp) (by simp)
  have loop : codeAny (model X.prog X.w) X.A (.compLoop (.DictComp kx vx [⟨tg, iter, ifs, 0⟩] scope pos) 0 (.ref it) (.ref D) ce) (compPost (model X.prog X.w) X.A X.xe none (EP X pins σ Q) (.ref D) s3.heap.objs.size) s4 := by
    let Pv : Nat → Shared → Prop := fun n s' => ∃ i H', Inv (X.blk s3 H3 scope ce fp) [] (wipe σ (own.map (·.2))) H' s' ∧ tn i s'.heap ∧ (∀ b ∈ fp, H' b = none) ∧ W i n H'
    refine compLoop_anyD Pv ?_ m0 ⟨0, H3, I4, st4, none_, w0⟩
    rintro n s5 ⟨i, H5, I5, st5, n5, w5⟩
    rcases turn i n H5 w5 with ⟨stop, fin⟩ | ⟨go, Nx, hNx, step⟩
    · refine thnF (T.done (X.blk s3 H3 scope ce fp) rfl rfl rfl calm i [] s5 _ H5 (fun _ _ => False) I5 (out I5 n5) st5 stop) ?_
      rintro r s6 ⟨rfl, I6⟩
      have I7 : Inv X pins σ H5 s6 := by
        refine I3.call' (ch := fp) I6.os I6.base I6.hok I6.bare fun b hb => ?_
        obtain ⟨⟨_, q2, q3, q4, q5, q6⟩, _⟩ := f3 b hb
        exact ⟨q4, q2, q5, q6⟩
      have nC : H5 s3.heap.objs.size = none := by
        have z : H5 ce.locals = none := I6.free
        rwa [loc] at z
      obtain ⟨m, hn, _⟩ := I6.loc
      have hn' : s6.heap.Ns s3.heap.objs.size m := by
        have z : s6.heap.Ns ce.locals m := hn
        rwa [loc] at z
      obtain ⟨q0, q1, q2, q3, q4, q5⟩ := I3.fpOk (Nat.le_refl _) nC
      exact ⟨m, hn', fun h'' sb => ⟨.ref D, H5, I7.turned (t' := s6.toks) (fun b o hb e => (sb.2 b hb).trans e) q0 q1 q3 q4 q5, rfl, fin⟩⟩
    · refine thnF (T.item (X.blk s3 H3 scope ce fp) rfl rfl rfl calm i [] s5 _ H5 (fun _ _ => False) I5 (out I5 n5) st5 go) ?_
      rintro r s6 ⟨u, rfl, h6⟩
      refine thnF h6 ?_
      rintro _ s7 ⟨x, H7, I7, r7, y7, st7, n7⟩
      have J7 := I7.pinned (out I7 n7) (T.obj _ _ st7)
      refine thnF (pg.run _ s7 _ H7 x u _ J7 r7 (step x H7 y7)) ?_
      rintro _ s8 ⟨σ8, H8, I8, hw8, q8⟩
      refine thnF (pt.run _ s8 σ8 H8 _ I8 q8) ?_
      rintro b s9 ⟨H9, I9, q9⟩
      -- behind the turn
      have behind : ∀ {s' : Shared} {H' : Hp}, Inv (X.blk s3 H3 scope ce fp) ([] ++ pinsAt fp s7.heap) σ8 H' s' → Nx H' → ∃ m, m < n ∧ Pv m s' := by
        intro s' H' J' nx
        obtain ⟨m', hm, w'⟩ := hNx H' nx
        have pin' : ∀ b ∈ fp, ∀ o, s7.heap.get? b = some o → s'.heap.get? b = some o ∧ H' b = none := by
          intro b hb o e
          obtain ⟨z1, z2, _⟩ := J'.pin (b, o) (List.mem_append_right _ (List.mem_append_right _ (mem_pinsAt hb e)))
          exact ⟨z1, z2⟩
        refine ⟨m', hm, i + 1, H', (J'.unpinned (pins := [])).weak ?_ ?_, ?_, ?_, w'⟩
        · rw [← hw8, wipe_length]
        · intro j v e
          rw [← hw8] at e
          exact (wipe_some e).1
        · exact T.keep _ _ _ st7 fun b hb o e => (pin' b hb o e).1
        · intro b hb
          obtain ⟨o, e, _⟩ := T.obj _ _ st7 b hb
          exact (pin' b hb o e).2
      cases b with
      | false =>
        simp only [Bool.false_eq_true, if_false] at q9 ⊢
        exact behind I9 q9
      | true =>
        simp only [if_true] at q9 ⊢
        refine thnF (pk.run _ s9 σ8 H9 _ I9 q9) ?_
        rintro z s10 ⟨yk, H10, I10, r10, q10⟩
        refine thnF (pe.run _ s10 σ8 H10 _ I10 q10) ?_
        rintro z2 s11 ⟨yv, H11, I11, r11, kvs, k, q, rfl, hq11, hD11, hz11, nx⟩
        cases (show z = Value.ref q from r10)
        exact dT_set (X := X.blk s3 H3 scope ce fp) hu I11 hD11 hz11 hq11 r11 fun s12 I12 => behind I12 nx
  exact codeAny_compStart_dict loop (T.self X.A 0 _ _ _ st4 loop)
end
end Nw
namespace Nw
open PySem L2 PySem.Spec PyProof.Rows RZ
/-- such a comprehension, Pv by the turn and the heap -/
theorem tdc_it {J : It} {n : Nat} {Gp : Hp → Prop} {Y : Nat → Hp → V → Hp → Prop} (w : Walk J n Gp Y) {g : TG} {tt : TT} {tk tv : TE} {vs : List Nat} {σ : L2.St} {H1 : Hp} {D : Addr} {Qd : Hp → Prop} (Pv : Nat → Hp → Prop)
    (h0 : Pv 0 (upd H1 D (.dT []))) (hG : ∀ i H, i ≤ n → Pv i H → Gp H)
    (hs : ∀ i x H H', i < n → Pv i H → Y i H x H' → g x (wipe σ vs) H' fun σ2 H2 => wipe σ2 vs = wipe σ vs ∧ tt σ2 H2 fun b H3 =>
      if b = true then tk σ2 H3 fun y H4 => tv σ2 H4 fun z H5 => ∃ (kvs : List (List L2.Key × V)) (k : List L2.Key) (q : Addr), y = .ref q ∧ H5 q = some (.tup (k.map kV)) ∧ H5 D = some (.dT kvs) ∧ kvs.length < sizeLine ∧ Pv (i + 1) (upd H5 D (.dT (putK kvs k z)))
      else Pv (i + 1) H3) (hd : ∀ H, Pv n H → Qd H) :
    ∃ W : Nat → Nat → Hp → Prop, (∃ m, W 0 m (upd H1 D (.dT []))) ∧ ∀ i m H, W i m H →
      (J.stop i H ∧ Qd H) ∨ (J.go i H ∧ ∃ Nx : Hp → Prop, (∀ H', Nx H' → ∃ m', m' < m ∧ W (i + 1) m' H') ∧ ∀ x H', J.yld i H x H' → g x (wipe σ vs) H' fun σ2 H2 => wipe σ2 vs = wipe σ vs ∧ tt σ2 H2 fun b H3 =>
        if b = true then tk σ2 H3 fun y H4 => tv σ2 H4 fun z H5 => ∃ (kvs : List (List L2.Key × V)) (k : List L2.Key) (q : Addr), y = .ref q ∧ H5 q = some (.tup (k.map kV)) ∧ H5 D = some (.dT kvs) ∧ kvs.length < sizeLine ∧ Nx (upd H5 D (.dT (putK kvs k z))) else Nx H3) := by
  refine ⟨fun i m H => m = n - i ∧ i ≤ n ∧ Pv i H, ⟨n, by simp, Nat.zero_le _, h0⟩, ?_⟩
  rintro i m H ⟨rfl, hi, p⟩
  have q := hG i H hi p
  rcases Nat.lt_or_ge i n with lt | ge
  · exact .inr ⟨w.goes i H lt q, Pv (i + 1), fun H' p' => ⟨n - (i + 1), by omega, rfl, lt, p'⟩, fun x H' y => hs i x H H' lt p (w.yields i H x H' lt q y)⟩
  · have e : i = n := by omega
    subst e
    exact .inl ⟨w.stops H q, hd H p⟩
/-- {row: its place} of the first n rows -/
def rowKey (rows : List (List Int)) (i : Nat) : List L2.Key := (rows.getD i []).map Sum.inl
def bitsD (rows : List (List Int)) (n : Nat) : List (List L2.Key × V) := (List.range n).map fun i => (rowKey rows i, .int (i : Int))
theorem bitsD_succ (rows : List (List Int)) (n : Nat) : bitsD rows (n + 1) = bitsD rows n ++ [(rowKey rows n, .int (n : Int))] := by
  unfold bitsD; rw [List.range_succ, List.map_append]; rfl
theorem bitsD_len (rows : List (List Int)) (n : Nat) : (bitsD rows n).length = n := by
  unfold bitsD; rw [List.length_map, List.length_range]
theorem inl_inj : ∀ {l m : List Int}, l.map (Sum.inl : Int → L2.Key) = m.map Sum.inl → l = m
  | [], [], _ => rfl
  | [], _ :: _, h => by cases h
  | _ :: _, [], h => by cases h
  | a :: l, b :: m, h => by
    injection h with h1 h2
    injection h1 with h1
    rw [h1, inl_inj h2]
theorem rowKey_inj {rows : List (List Int)} (nd : rows.Nodup) {i j : Nat} (hi : i < rows.length) (hj : j < rows.length) (h : rowKey rows i = rowKey rows j) : i = j := by
  unfold rowKey at h
  have h2 : rows.getD i [] = rows.getD j [] := inl_inj h
  rw [List.getD_eq_getElem?_getD, List.getD_eq_getElem?_getD, List.getElem?_eq_getElem hi, List.getElem?_eq_getElem hj] at h2
  exact (List.getElem_inj nd).mp h2
theorem bitsD_none {rows : List (List Int)} (nd : rows.Nodup) : ∀ (n i : Nat), n ≤ i → i < rows.length → valV (bitsD rows n) (rowKey rows i) = none
  | 0, _, _, _ => rfl
  | n + 1, i, h, hi => by
    rw [bitsD_succ, valV_snoc _ _ _ _ (bitsD_none nd n n (Nat.le_refl _) (by omega)), if_neg, bitsD_none nd n i (by omega) hi]
    exact fun e => by have := rowKey_inj nd hi (by omega) e; omega
theorem bitsD_put {rows : List (List Int)} (nd : rows.Nodup) {n : Nat} (h : n < rows.length) : putK (bitsD rows n) (rowKey rows n) (.int (n : Int)) = bitsD rows (n + 1) := by
  rw [putK_new _ (bitsD_none nd n n (Nat.le_refl _) h), bitsD_succ]
theorem bitsD_get {rows : List (List Int)} (nd : rows.Nodup) : ∀ (n i : Nat), i < n → n ≤ rows.length → valV (bitsD rows n) (rowKey rows i) = some (.int (i : Int))
  | 0, i, h, _ => absurd h (Nat.not_lt_zero _)
  | n + 1, i, h, hn => by
    rw [bitsD_succ, valV_snoc _ _ _ _ (bitsD_none nd n n (Nat.le_refl _) hn)]
    by_cases e : i = n
    · subst e; rw [if_pos rfl]
    · rw [if_neg (fun q => e (rowKey_inj nd (by omega) (by omega) q))]
      exact bitsD_get nd n i (by omega) (by omega)
theorem rowKey_kV {rows : List (List Int)} {i : Nat} {row : List Int} (h : rows[i]? = some row) : (rowKey rows i).map kV = row.map V.int := by
  unfold rowKey
  rw [List.getD_eq_getElem?_getD, h, List.map_map]; rfl
end Nw
/-! Several clauses `except C as n`, one behind the other. -/
namespace Nw
open PySem L2 PySem.Spec PyProof.Rows RZ
/-- a clause: its class, the slot of its name, what its suite does -/
abbrev ClAs : Type := Value × Nat × (Addr → Value → Option Addr → TS)
/-- behind a clause its name is gone -/
def goneE (i : Nat) (D : Ends) : Ends := { nx := fun τ G => D.nx (τ.set i none) G, rt := D.rt, bk := fun τ G => D.bk (τ.set i none) G, ct := fun τ G => D.ct (τ.set i none) G }
def wAsN (K : PySem.W.Frag) (Wo : WX) (D : Ends) : List ClAs → WX
  | [] => Wo
  | z :: r => fun cls d σ H => ∃ y : Bool, PySem.W.exmOne K cls z.1 = some y ∧ (y = true → ∀ e : Addr, H e = none → z.2.2 e cls d (goneE z.2.1 D) (σ.set z.2.1 (some (.ref e))) H) ∧ (y = false → wAsN K Wo D r cls d σ H)
inductive ClsAs (X : Cx) : List ExceptHandler → List ClAs → Prop
  | nil : ClsAs X [] []
  | cons {x n : Str} {c : Value} {i : Nat} {ts : Addr → Value → Option Addr → TS} {s0 : Stmt} {ss : List Stmt} {p1 p2 : Pos} {hs : List ExceptHandler} {l : List ClAs} (ix : X.N[i]? = some n) (lo : X.env.kindOf n = some .local) (nm : Names X x c)
      (su : ∀ (e : Addr) (oe : Obj) (cls : Value) (d : Option Addr) (pn : List (Addr × Obj)), Zc cls d oe → (∃ vs, oe.data = .fields vs) → PSs (X.suite e ((e, oe) :: pn)) (s0 :: ss) (ts e cls d)) (tl : ClsAs X hs l) :
      ClsAs X (.ExceptHandler (some (.Name x p1)) (some n) (s0 :: ss) p2 :: hs) ((c, i, ts) :: l)
section
variable {X : Cx} {bd : List Stmt} {h1 : ExceptHandler} {hs : List ExceptHandler} {l : List ClAs} {pos : Pos} {tb : WX → TS} {Wo : WX}
theorem ps_try_asN (stk : X.stack = X.env :: X.outer) (fra : X.env.frame = some X.env.locals) (nodup : X.N.Nodup) (out : Takes X Wo)
    (body : ∀ (W : WX) (pn : List (Addr × Obj)) (xe : Value → Shared → Prop), Takes (X.tr pn xe) W → PassesOwn (model X.prog X.w) X.A X.env xe → PSs (X.tr pn xe) bd (tb W))
    (cl : ClsAs X (h1 :: hs) l) : PS X (.Try bd (h1 :: hs) [] [] pos) (fun D σ H => tb (wAsN X.K Wo D l) D σ H) := by
  constructor
  intro pins s σ H D I0 hyp
  have good := I0.ok
  have frm : X.A.frames = some (X.env :: X.outer) := good.frames.trans (congrArg some stk)
  apply wpAny_Try_except
  let catch_ : Value → Shared → Prop := fun u t => wpAny (model X.prog X.w) X.A (noteFrame u X.env) (fun _ t2 => wpAny (model X.prog X.w) X.A (setFlight u none) (fun _ t3 => wpAny (model X.prog X.w) X.A (handleBy u X.env (h1 :: hs)) (SP X pins D) X.xe t3) X.xe t2) X.xe t
  have caught : Takes (X.tr (X.pn ++ pins) catch_) (wAsN X.K Wo D l) := by
    intro u t away
    obtain ⟨e, B, t1, pins1, σ1, G1, cls, d, rfl, Jt, nob, grown, sky0, fresh, osq, agr, wish⟩ := away
    have J := Jt.ofTry good
    have sky1 : Sky B (X.env :: X.outer) e (Zc cls d) X.env.locals t.heap := stk ▸ sky0
    exact Sky.land Zc.steady frm fra sky1 fun k1 lnd1 gr1 => by
      have Ja : Inv X pins σ1 G1 { t with heap := k1 } := J.landed nob lnd1.1 (grown.trans gr1) osq agr
      obtain ⟨ob1, fd1, there1, zc1, dt1⟩ := lnd1.there
      have off : e ∉ frs (X.env :: X.outer) := by
        intro hm
        obtain ⟨_, ob, there, not_⟩ := Heap.FunFrames.mem lnd1.2.2.1 hm
        obtain rfl := Option.some.inj (there1.symm.trans there)
        exact not_ _ dt1
      have offL : e ≠ X.env.locals := by
        rintro rfl
        exact off (List.mem_filterMap.mpr ⟨_, .head _, fra⟩)
      have offF : e ∉ X.fs := by
        intro hm
        obtain ⟨f, hf1, hf2⟩ := List.mem_filterMap.mp hm
        exact off (List.mem_filterMap.mpr ⟨f, .tail _ hf1, hf2⟩)
      have inS := Ja.suite there1 dt1 fresh offL offF
      have each : ∀ {hs' : List ExceptHandler} {l' : List ClAs}, ClsAs X hs' l' → wAsN X.K Wo D l' cls d σ1 G1 → wpAny (model X.prog X.w) X.A (handleBy (.ref e) X.env hs') (SP X pins D) X.xe { t with heap := k1 } := by
        intro hs' l' given
        induction given with
        | nil =>
          intro wo
          apply wpAny_handleBy_nil
          have lnd := lnd1
          obtain ⟨_, _, _, obF, vsF, TF_, oT_, tsF, atF, zF, dF, fieldF, _⟩ := lnd
          have up : wpAny (model X.prog X.w) X.A (setFlight (.ref e) X.env.frame) (fun _ t4 => wpAny (model X.prog X.w) X.A (throw (.ref e) : Sem Flow) (SP X pins D) X.xe t4) X.xe { t with heap := k1 } := by
            rw [fra]
            exact HandSPX.setFlight_upZ lnd1 fun k2 high gr2 => wpAny_throw (out _ _ ⟨e, B, t1, pins, σ1, G1, cls, d, rfl, J, nob, (grown.trans gr1).trans gr2, .inr (.inr (stk ▸ high)), fresh, osq, agr, wo⟩)
          unfold PySem.passOn
          refine wpAny_bind (wpAny_field atF dF fieldF ?_)
          have notNone : ¬ ((Value.ref TF_ == Value.none) = true) := by simp
          rw [if_neg notNone]
          first | exact wpAny_bind up | exact wpAny_bind (wpAny_pure (wpAny_bind up))
        | @cons x n c i ts s0 ss p1 p2 hs2 l2 ix lo nm su tl ih =>
          rintro ⟨y, ask, yes, no⟩
          have kind : PySem.W.Looks (model X.prog X.w) k1 (typeOf (.ref e)) cls := fun A Q E s kp q => wpAny_typeOf_ref (kp _ _ there1) (zc1.1.symm ▸ q)
          have asked := PySem.W.exm_one (M := model X.prog X.w) Ja.kIn kind ask
          have named : ∀ {Q E : Value → Shared → Prop}, Q c { t with heap := k1 } → wpAny (model X.prog X.w) (X.A.mark (some (.ref e))) (eval (.Name x p1) X.env) Q E { t with heap := k1 } := by
            intro Q E q
            rcases nm with ⟨gl, db, there | ⟨gone, boot, nn⟩⟩
            · exact ld_glob (X := X.suite e ((e, ob1) :: (X.pn ++ pins))) inS gl there q db
            · exact ld_blt (X := X.suite e ((e, ob1) :: (X.pn ++ pins))) inS gl gone boot q nn db
          refine wpAny_handleBy_cons (codeAny_handlers_test (named (asked.here ?_))) (fun z => nomatch z)
          match y, yes, no with
          | false, _, no => exact ih (no rfl)
          | true, yes, _ =>
            apply codeAny_handlers_suite_as
            refine HandSPX.lands_againZ lnd1 fun k2 lnd2 gr2 => ?_
            have Jb : Inv X pins σ1 G1 { t with heap := k2 } := J.landed nob lnd2.1 ((grown.trans gr1).trans gr2) osq agr
            obtain ⟨ob2, fd2, there2, zc2, dt2⟩ := lnd2.there
            refine store_ok (X := X.suite e ((e, ob2) :: (X.pn ++ pins))) (v := .ref e) (Jb.suite there2 dt2 fresh offL offF) nodup ix (.inl lo) rfl (fun t5 in5 => ?_) (.inr lo)
            have ran := (su e ob2 cls d (X.pn ++ pins) zc2 ⟨_, dt2⟩).run [] t5 _ G1 _ in5 (yes rfl e fresh)
            refine wpAny_mono ran (fun fl t6 after => ?_) fun _ _ z => z.elim
            have unname : ∀ {τ : L2.St} {G : Hp} {Q : Shared → Prop}, Inv (X.suite e ((e, ob2) :: (X.pn ++ pins))) [] τ G t6 → (∀ t7, Inv X pins (τ.set i none) G t7 → Q t7) → wpAny (model X.prog X.w) X.A (do bindName X.env n .none; unbindBehindTheSuite X.env n p2) (fun _ t7 => Q t7) X.xe t6 := fun in6 hq => gone_ok (in6.unsuite good) nodup ix lo hq
            match fl, after with
            | .next, ⟨τ, G, in6, q⟩ => exact unname in6 fun t7 J7 => ⟨_, _, J7, q⟩
            | .brk, ⟨τ, G, in6, q⟩ => exact unname in6 fun t7 J7 => ⟨_, _, J7, q⟩
            | .cont, ⟨τ, G, in6, q⟩ => exact unname in6 fun t7 J7 => ⟨_, _, J7, q⟩
            | .ret u, ⟨v, τ, G, in6, rv, q⟩ => exact unname in6 fun t7 J7 => ⟨_, _, _, J7, rv, q⟩
      exact each cl wish
  refine wpAny_mono ((body (wAsN X.K Wo D l) (X.pn ++ pins) catch_ caught PassesOwn.looking).run [] s σ H D (I0.toTry _) hyp) (fun fl t after => ?_) fun _ _ z => z
  match fl, after with
  | .next, after =>
    obtain ⟨τ, G, Jt, q⟩ := after
    exact wpAny_execs_nil ⟨τ, G, Jt.ofTry good, q⟩
  | .brk, after =>
    obtain ⟨τ, G, Jt, q⟩ := after
    exact ⟨τ, G, Jt.ofTry good, q⟩
  | .cont, after =>
    obtain ⟨τ, G, Jt, q⟩ := after
    exact ⟨τ, G, Jt.ofTry good, q⟩
  | .ret u, after =>
    obtain ⟨v, τ, G, Jt, rv, q⟩ := after
    exact ⟨v, τ, G, Jt.ofTry good, rv, q⟩
end
end Nw
/-! What a class of errors is, asked by a Bool; `x not in t` of data and a tuple; an own class made with keywords, where the making may raise. -/
namespace Nw
open PySem L2 PySem.Spec PyProof.Rows RZ
/-- is it a class of errors whose instances are made as those of ValueError? -/
def oexSl (sl : Array (Option Value)) : Bool := match sl with
  | ⟨[_, _, _, _, some (.builtin n), _]⟩ => n == "ValueError.__new__"
  | _ => false
def oexMro (C : Addr) (m : List Value) : Bool := match m with
  | .ref c :: bm => decide (c = C) && PySem.HandSPX.refsVE bm
  | _ => false
def oexCls (C : Addr) (v : Value) (d : Data) (sl : Array (Option Value)) : Bool := match v, d with
  | .type t, .cls z => (t == "type") && z.hasDict && !z.hasDel && oexMro C z.mro && oexSl sl
  | _, _ => false
def oexB (K : PySem.W.Frag) (C : Addr) : Bool := match K.lookup C with
  | some o => oexCls C o.cls o.data o.slots
  | none => false
theorem oexB_ok {K : PySem.W.Frag} {C : Addr} (h : oexB K C = true) : ∃ nm q N bs bm sn sub ab col dd k0 k1 k2 k3 k5, K.lookup C = some (excClassObj nm q C N bs bm true sn sub ab col dd k0 k1 k2 k3 k5 "ValueError.__new__") ∧ PySem.HandSPX.refsVE bm = true := by
  unfold oexB at h
  cases e : K.lookup C with
  | none => rw [e] at h; cases h
  | some o =>
    rw [e] at h
    obtain ⟨cl, dd, dt, sl⟩ := o
    have h : oexCls C cl dt sl = true := h
    cases cl with
    | type t =>
      cases dt with
      | cls z =>
        obtain ⟨nm, bs, mro, N, q, hd, sn, sub, ab, col, dl⟩ := z
        have h : ((t == "type") && hd && !dl && oexMro C mro && oexSl sl) = true := h
        simp only [Bool.and_eq_true] at h
        obtain ⟨⟨⟨⟨h1, h2⟩, h3⟩, h4⟩, h5⟩ := h
        obtain rfl : t = "type" := beq_iff_eq.mp h1
        obtain rfl : hd = true := h2
        obtain rfl : dl = false := by
          cases dl with
          | false => rfl
          | true => cases h3
        match mro, h4 with
        | .ref c :: bm, h4 =>
          have h4 : (decide (c = C) && PySem.HandSPX.refsVE bm) = true := h4
          simp only [Bool.and_eq_true] at h4
          obtain rfl : c = C := of_decide_eq_true h4.1
          match sl, h5 with
          | ⟨[k0, k1, k2, k3, some (.builtin n), k5]⟩, h5 =>
            have h5 : (n == "ValueError.__new__") = true := h5
            obtain rfl : n = "ValueError.__new__" := beq_iff_eq.mp h5
            exact ⟨nm, q, N, bs, bm, sn, sub, ab, col, dd, k0, k1, k2, k3, k5, rfl, h4.2⟩
      | _ => cases h
    | _ => cases h
section
variable {X : Cx} {CX : CXT} {k n : Nat} {f C : Addr} {fd : FuncData} {ps ks : List Str} {sp : Sp} {E : L2.St → XK} {x : Str} {p pos : Pos} {e : Expr} {es : List Expr} {kws : List Keyword} {t tk : TA} {g : List Value → List Value → List Value} {gV : List V → List V → List V}
/-- C(.., k = ..) where the making may raise: what it may let out is told by the slots -/
def tMakeKS (C : Addr) (n m : Nat) (sp : Sp) (gV : List V → List V → List V) (E : L2.St → XK) (t tk : TA) : TE := fun σ H Q => t σ H fun vs H1 => tk σ H1 fun zs H2 => vs.length = n ∧ zs.length = m ∧ ∀ z dz, H2 z = none → H2 dz = none → dz ≠ z →
  sp (gV (.ref z :: vs) zs) (upd (upd H2 dz (.own z)) z (.ins C dz [])) (fun v H3 => v = .non ∧ Q (.ref z) H3) (E σ)
theorem make_runK {pins : List (Addr × Obj)} {σ : L2.St} {H : Hp} {s : Shared} {Q : VK} {us ws : List Value} {vs zs : List V} (M : Mk X.K C f) (F : FnOk X.prog X.w X.K X.mg X.base CX k f fd ps sp) (hr : Room (k + 1) X.A) (hb : KBn X.K fd ps (n + 1) ks g gV)
    (hx : PassesAt CX X σ (E σ)) (I : Inv X pins σ H s) (r : Vals vs us) (rz : Vals zs ws) (l1 : vs.length = n) (l2 : zs.length = ks.length)
    (hq0 : ∀ z dz, H z = none → H dz = none → dz ≠ z → sp (gV (.ref z :: vs) zs) (upd (upd H dz (.own z)) z (.ins C dz [])) (fun v H2 => v = .non ∧ Q (.ref z) H2) (E σ)) :
    wpAny (model X.prog X.w) X.A (call (.ref C) us (ks.zip ws)) (EP X pins σ Q) X.xe s := by
  let m := s.heap.objs.size
  have hq := hq0 (m + 1) m (I.hok.fresh (Nat.le_succ _)) (I.hok.fresh (Nat.le_refl _)) (Nat.ne_of_lt (Nat.lt_succ_self _))
  have J := Inv.made (C := C) I
  have rr : Vals (V.ref (m + 1) :: vs) (Value.ref (m + 1) :: us) := .cons rfl r
  have big : (Value.ref (m + 1) :: us).length = n + 1 := by rw [← rr.length, List.length_cons, l1]
  have go := F.run _ X.stack _ _ ⟨Value.ref (m + 1) :: us, ks.zip ws⟩ (g (Value.ref (m + 1) :: us) ws) _ _ (E σ) (hr.make C us (ks.zip ws)) (J.env0.make C us (ks.zip ws)) (hb.to _ _ ws J.kIn big (rz.length.symm.trans l2)) (hb.rel rr rz) hq
  refine wpAny_call (make_map (f := f) I.kIn M.makes M.init (beq_iff_eq.mp M.fn) (codeAny_mono go ?_))
  intro r s' hq'
  match r, hq' with
  | .error er, hq' => exact hx pins _ _ er s' J hq'
  | .ok (.ret u), hq' =>
    obtain ⟨v, H', J2, rv, ev, q⟩ := J.after hq'
    subst ev
    exact ⟨rv, V.ref (m + 1), H', J2, rfl, q⟩
  | .ok .next, hq' => exact hq'.elim
  | .ok .brk, hq' => exact hq'.elim
  | .ok .cont, hq' => exact hq'.elim
theorem pe_makeKS (M : Mk X.K C f) (F : FnOk X.prog X.w X.K X.mg X.base CX k f fd ps sp) (hr : Room (k + 1) X.A) (hg : Gl X x) (hm : X.mg x = some (.ref C)) (hb : KBn X.K fd ps (n + 1) ks g gV) (hx : ∀ σ, PassesAt CX X σ (E σ)) (ha : PA X (e :: es) t) (hkw : PK X kws tk)
    (each : (backToKw pos (keywordEach kws X.env)).all (·.1.isSome) = true := by rfl) (names : (backToKw pos (keywordEach kws X.env)).filterMap (·.1) = ks := by rfl) (nodbg : (x == ("__debug__" : Str)) = false := by decide)
    (plain : starEach (e :: es) X.env = (false, eval e X.env) :: starEach es X.env := by rfl) (none_ : ((backTo pos (starEach (e :: es) X.env)).any (·.1) || (backToKw pos (keywordEach kws X.env)).any (·.1.isNone)) = false := by rfl) : PE X (.Call (.Name x p) (e :: es) kws pos) (tMakeKS C n ks.length sp gV E t tk) := by
  constructor
  intro pins s σ H Q I given
  apply wpAny_Call_Name_kw (ld_glob I hg hm ?_ nodbg)
  apply PySem.W.callWith_KW (h₀ := X.base) I.ok.mod.kin M.kp each (thn (ha.run pos pins s σ H _ I given) ?_) none_ plain
  rintro us s1 ⟨vs, H1, I1, r, q⟩
  refine thn (hkw.run pos pins s1 σ H1 _ I1 q) ?_
  rintro ws s2 ⟨zs, H2, I2, rz, l1, l2, q2⟩
  refine ⟨I2.kIn, ?_⟩
  rw [names]
  exact make_runK M F hr hb (hx σ) I2 r rz l1 l2 q2
end
section
variable {X : Cx}
def rNotInT (K : PySem.W.Frag) : R2 := fun x y H Q => ∃ d ds, Dp K H x d ∧ Dp K H y (.tuple ds) ∧ SeqAt.shaped d = true ∧ SeqAt.shaped (.tuple ds) = true ∧ Q (.bl (!ds.any fun z => PyData.eqv z d)) H
theorem op_notInT (hu : X.A.units + 65 < cLine) : OpR X (compareOp .NotIn) (rNotInT X.K) := by
  intro pins s σ H x y v u Q I rx ry given
  obtain ⟨d, ds, one, all, sd, se, q⟩ := given
  obtain ⟨_, r1⟩ := Dp.reads I d x v one rx
  obtain ⟨_, r2⟩ := Dp.reads I (.tuple ds) y u all ry
  have lay : PyData.canLayAll0 ds = true := SeqAt.canLay_of_shaped se
  exact SeqAt.notIn_tuple_reads r2 r1 lay (SeqAt.canLay_of_shaped sd) (room_in_shaped sd hu) ⟨.bl _, H, I, rfl, q⟩
/-- two tuples of the same objects: not different -/
def refsV : List V → Bool
  | [] => true
  | .ref _ :: l => refsV l
  | _ => false
theorem vals_refs : ∀ {xs : List V} {us ws : List Value}, refsV xs = true → Vals xs us → Vals xs ws → us = ws
  | [], _, _, _, .nil, .nil => rfl
  | .ref a :: l, _, _, h, .cons r1 t1, .cons r2 t2 => by
    cases (show _ = Value.ref a from r1)
    cases (show _ = Value.ref a from r2)
    rw [vals_refs (by exact h) t1 t2]
def rNeTs (K : PySem.W.Frag) : R2 := fun x y H Q => ∃ a b xs, x = .ref a ∧ y = .ref b ∧ SqT K H a xs ∧ SqT K H b xs ∧ refsV xs = true ∧ Q (.bl false) H
theorem op_neTs (hu : X.A.units < cLine) : OpR X (compareOp .NotEq) (rNeTs X.K) := by
  intro pins s σ H x y v u Q I rx ry h
  obtain ⟨a, b, xs, rfl, rfl, ha, hb, hx, q⟩ := h
  cases (show v = Value.ref a from rx)
  cases (show u = Value.ref b from ry)
  obtain ⟨us, r1, p1, _⟩ := I.tuple ha
  obtain ⟨ws, r2, p2, _⟩ := I.tuple hb
  obtain rfl := vals_refs hx r1 r2
  have go := SeqAt.RcNeAt.tuples (A := X.A) (e := fun _ => true) p1 p2 hu (fun j h1 h2 => SeqAt.EqAt.same _)
  refine go X.prog X.w _ _ ?_
  rw [show (!((List.range (min us.toArray.size us.toArray.size)).all (fun _ => true) && us.toArray.size == us.toArray.size)) = false from by
    rw [show ((List.range (min us.toArray.size us.toArray.size)).all fun _ => true) = true from List.all_eq_true.mpr fun _ _ => rfl]
    simp]
  exact ⟨.bl false, H, I, rfl, q⟩
end
end Nw
/-! a row's end over one kernel run of the top: any Bools of what the names reach, the defs, the tables with text keys. -/
namespace Nw
open PySem PySem.Spec PyProof.Rows L2 He
abbrev TestK : Type := PySem.W.Frag → Bool
/-- what is looked at: every test, every def, every table -/
def lookN (ft : List TestK) (fd : List He5.DefA) (tb : List Tab) (K : PySem.W.Frag) : AlT :=
  ((ft.all (· K) && fd.all (·.ok K), fd.map fun d => He5.fnA K (d.at_ K)), tb.map fun t => dicW K (t.1 K))
def wantN (fd : List He5.DefA) (tb : List Tab) (w : World) : AlT := ((true, fd.map He5.DefA.val), tb.map fun t => some (keysIn w.params t.2))
def partN (n : Nat) (g : Addr → Option Obj) : PySem.W.Frag := frG g (List.range n)
structure ToldN (ft : List TestK) (fd : List He5.DefA) (tb : List Tab) (w : World) (K : PySem.W.Frag) : Prop where
  eq : lookN ft fd tb K = wantN fd tb w
def hookN (n : Nat) (ft : List TestK) (fd : List He5.DefA) (tb : List Tab) : PySem.W.Hook where
  α := AlT
  obs := fun s => lookN ft fd tb (partN n s.heap.get?)
  val := wantN fd tb
  says := fun w h => ∃ K : PySem.W.Frag, K.In h ∧ ToldN ft fd tb w K
  of := fun _ _ e => ⟨_, frG_in, ⟨e⟩⟩
  keeps := fun _ _ _ ⟨K, i, t⟩ k => ⟨K, PySem.W.Frag.In.keeps i k, t⟩
theorem seenN_eq {n : Nat} {ft : List TestK} {fd : List He5.DefA} {tb : List Tab} (s : PySem.W.SharedT) : lookN ft fd tb (partN n (HandSHeadRun.getT s)) = (hookN n ft fd tb).obs s.abs := by
  have e : HandSHeadRun.getT s = s.abs.heap.get? := funext (HandSHeadRun.getT_eq s)
  rw [e]
  rfl
section
variable {ft : List TestK} {fd : List He5.DefA} {tb : List Tab} {w : World} {K : PySem.W.Frag}
theorem ToldN.test (c : ToldN ft fd tb w K) (i : Nat) (f : TestK) (h : ft[i]? = some f) : f K = true := by
  have e := congrArg (fun z : AlT => z.1.1) c.eq
  exact List.all_eq_true.mp (ba e).1 f (List.mem_of_getElem? h)
theorem ToldN.fn (c : ToldN ft fd tb w K) (i : Nat) (d : He5.DefA) (h : fd[i]? = some d) : ∃ r, FunD K d.name d.qual d.params d.body d.scope (d.dvs K) (d.kws K) (d.at_ K) r := by
  have e1 := congrArg (fun z : AlT => z.1.1) c.eq
  have e2 : fd.map (fun d => He5.fnA K (d.at_ K)) = fd.map He5.DefA.val := congrArg (fun z : AlT => z.1.2) c.eq
  have e3 := congrArg (fun l => l[i]?) e2
  simp only [List.getElem?_map, h, Option.map_some] at e3
  exact He5.DefA.funD (Option.some.inj e3) (List.all_eq_true.mp (ba e1).2 d (List.mem_of_getElem? h))
theorem ToldN.dict (c : ToldN ft fd tb w K) (i : Nat) (t : Tab) (h : tb[i]? = some t) : ∃ es n, KDict K w (t.1 K) es n := by
  have e2 : tb.map (fun t => dicW K (t.1 K)) = tb.map fun t => some (keysIn w.params t.2) := congrArg (fun z : AlT => z.2) c.eq
  have e3 := congrArg (fun l => l[i]?) e2
  simp only [List.getElem?_map, h, Option.map_some] at e3
  exact dicW_ok (Option.some.inj e3)
end
/-- the key x of the table at a stands for v -/
def rvB (K : PySem.W.Frag) (a : Addr) (x : Str) (v : V) : Bool := match PySem.W.nsIn K a x with
  | some (some u) => relB v u
  | _ => false
theorem rvB_ok {K : PySem.W.Frag} {a : Addr} {x : Str} {v : V} (h : rvB K a x v = true) : ∃ u, PySem.W.nsIn K a x = some (some u) ∧ RelV v u := by
  unfold rvB at h
  split at h
  · exact ⟨_, by assumption, relB_ok h⟩
  · cases h
theorem fun_ofD {K : PySem.W.Frag} {x q : Str} {st : Stmt} {dvs : List V} {kws : List (Str × V)} {f : Addr} {r : FuncData} (D : FunD K x q (C8.fnArgs st) (C8.fnBody st) (C8.fnScope st) dvs kws f r) : C8.Fun K x q st f r := by
  obtain ⟨oc, od, dV, kV, doc, pm, an, cdv, ct, osl, e, l, c, _, _⟩ := D.ex
  exact ⟨oc, od, dV, kV, doc, pm, an, cdv, ct, osl, e, l, c⟩
end Nw
/-! two kernel runs of the top, each with a part of what is looked at, are one run with all of it -/
namespace Nw
open PySem PySem.Spec PyProof.Rows L2 He
theorem look_app {f1 f2 : List TestK} {d1 d2 : List He5.DefA} {t1 t2 : List Tab} {w : World} {K : PySem.W.Frag} (h1 : lookN f1 d1 t1 K = wantN d1 t1 w) (h2 : lookN f2 d2 t2 K = wantN d2 t2 w) : lookN (f1 ++ f2) (d1 ++ d2) (t1 ++ t2) K = wantN (d1 ++ d2) (t1 ++ t2) w := by
  have a1 : (f1.all (· K) && d1.all (·.ok K)) = true := congrArg (fun z : AlT => z.1.1) h1
  have a2 : (f2.all (· K) && d2.all (·.ok K)) = true := congrArg (fun z : AlT => z.1.1) h2
  have b1 : d1.map (fun d => He5.fnA K (d.at_ K)) = d1.map He5.DefA.val := congrArg (fun z : AlT => z.1.2) h1
  have b2 : d2.map (fun d => He5.fnA K (d.at_ K)) = d2.map He5.DefA.val := congrArg (fun z : AlT => z.1.2) h2
  have c1 : t1.map (fun t => dicW K (t.1 K)) = t1.map fun t => some (keysIn w.params t.2) := congrArg (fun z : AlT => z.2) h1
  have c2 : t2.map (fun t => dicW K (t.1 K)) = t2.map fun t => some (keysIn w.params t.2) := congrArg (fun z : AlT => z.2) h2
  rw [Bool.and_eq_true] at a1 a2
  show ((((f1 ++ f2).all (· K) && (d1 ++ d2).all (·.ok K)), (d1 ++ d2).map fun d => He5.fnA K (d.at_ K)), (t1 ++ t2).map fun t => dicW K (t.1 K)) = ((true, (d1 ++ d2).map He5.DefA.val), (t1 ++ t2).map fun t => some (keysIn w.params t.2))
  rw [List.all_append, List.all_append, a1.1, a1.2, a2.1, a2.2, List.map_append, List.map_append, List.map_append, List.map_append, b1, b2, c1, c2]
  rfl
theorem runEq_app {r : PySem.W.OpenRow} {q : Program} {n M : Nat} {f1 f2 : List TestK} {d1 d2 : List He5.DefA} {t1 t2 : List Tab} {N : List PySem.Str} {w : World}
    (h1 : HandSHeadRun.RunEq r q (hookN n f1 d1 t1) (fun s => lookN f1 d1 t1 (partN n (HandSHeadRun.getT s))) M N w) (h2 : HandSHeadRun.RunEq r q (hookN n f2 d2 t2) (fun s => lookN f2 d2 t2 (partN n (HandSHeadRun.getT s))) M N w) :
    HandSHeadRun.RunEq r q (hookN n (f1 ++ f2) (d1 ++ d2) (t1 ++ t2)) (fun s => lookN (f1 ++ f2) (d1 ++ d2) (t1 ++ t2) (partN n (HandSHeadRun.getT s))) M N w := by
  intro os
  have a := h1 os
  have b := h2 os
  obtain ⟨s, es, e⟩ := Option.map_eq_some_iff.mp a
  obtain ⟨s2, es2, e2⟩ := Option.map_eq_some_iff.mp b
  rw [es] at es2
  obtain rfl := Option.some.inj es2
  rw [es]
  have x1 := congrArg (fun z => z.1) e
  have x2 := congrArg (fun z => z.2.1) e
  have x3 := congrArg (fun z => z.2.2) e
  have y3 := congrArg (fun z => z.2.2) e2
  exact congrArg some (Prod.ext x1 (Prod.ext x2 (look_app x3 y3)))
end Nw
/-! `except C as n:` whose suite raises anew; defs whose exceptions bear no context; defs called in such a suite. -/
namespace Nw
open PySem L2 PySem.Spec PyProof.Rows RZ
/-- the suite of such a clause: what it raises goes to xe -/
abbrev hotS (X : Cx) (a : Addr) (pn : List (Addr × Obj)) (xe : Value → Shared → Prop) : Cx := { X with A := X.A.mark (some (.ref a)), calm := false, pn := pn, xe := xe }
section
variable {X : Cx} {pins : List (Addr × Obj)} {σ : L2.St} {H : Hp} {s : Shared}
theorem Inv.intoHot {a : Addr} {pn pn' : List (Addr × Obj)} {xe : Value → Shared → Prop} (I : Inv (X.suite a pn) pn' σ H s) : Inv (hotS X a pn xe) pn' σ H s := Inv.unwish (X := hotS X a pn xe) (E := fun _ _ => False) I
theorem Inv.fromHot {a : Addr} {q : Addr × Obj} {pn' : List (Addr × Obj)} {xe : Value → Shared → Prop} (I : Inv (hotS X a (q :: (X.pn ++ pins)) xe) pn' σ H s) (ok : X.Ok) : Inv X pins σ H s :=
  Inv.unsuite (X := X) (a := a) (q := q) (pn' := pn') (show Inv (X.suite a (q :: (X.pn ++ pins))) pn' σ H s from I.wish fun _ _ => False) ok
end
section
variable {X : Cx} {x n : Str} {c : Value} {i : Nat} {body suite : List Stmt} {b₀ : Stmt} {np pos pos' : Pos} {tb : WX → TS} {ts : Addr → Value → Option Addr → TS} {Wout : WX}
/-- an exception raised in the suite: noted, the name goes, on it goes -/
theorem hot_tail {pins : List (Addr × Obj)} {a0 : Addr} {q0 : Addr × Obj} {xe : Value → Shared → Prop} {u : Value} {s' : Shared} (hs : X.stack = X.env :: X.outer) (hf : X.env.frame = some X.env.locals) (hex : X.ex = []) (hN : X.N.Nodup) (hi : X.N[i]? = some n) (hln : X.env.kindOf n = some .local) (ok : X.Ok) (tk : Takes X Wout)
    (xx : XE (hotS X a0 (q0 :: (X.pn ++ pins)) xe) (fun cls d σ H => Wout cls d (σ.set i none) H) u s') :
    AsSuiteRaised (model X.prog X.w) (X.A.mark (some (.ref a0))) X.env n pos' (notedBy (model X.prog X.w) (X.A.mark (some (.ref a0))) X.env (cameBackBy (model X.prog X.w) X.A X.env X.xe)) u s' := by
  have frm : (X.A.mark (some (.ref a0))).frames = some (X.env :: X.outer) := by
    have h := ok.frames
    rw [hs] at h
    exact h
  obtain ⟨a, B, sI, pinsY, σ', G', cls, d, rfl, JY, nb, up, sky0, na, os, ag, wish⟩ := xx
  have J : Inv X pins σ' G' sI := Inv.fromHot JY ok
  have sky : Sky B (X.env :: X.outer) a (Zc cls d) X.env.locals s'.heap := hs ▸ sky0
  have after : ∀ h1, HandSPX.HeldZ B (X.env :: X.outer) a (Zc cls d) X.env.locals h1 → s'.heap.UpToSlots h1 →
      wpAny (model X.prog X.w) (X.A.mark (some (.ref a0))) (do bindName X.env n .none; unbindBehindTheSuite X.env n pos')
        (fun _ s2 => wpAny (model X.prog X.w) (X.A.mark (some (.ref a0))) (passOn "try.except-as" (.ref a) X.env : Sem Flow) (fun _ _ => False) (notedBy (model X.prog X.w) (X.A.mark (some (.ref a0))) X.env (cameBackBy (model X.prog X.w) X.A X.env X.xe)) s2)
        (fun y s2 => wpAny (model X.prog X.w) (X.A.mark (some (.ref a0))) (setFlight (.ref a) none) (fun _ s3 => notedBy (model X.prog X.w) (X.A.mark (some (.ref a0))) X.env (cameBackBy (model X.prog X.w) X.A X.env X.xe) y s3) (notedBy (model X.prog X.w) (X.A.mark (some (.ref a0))) X.env (cameBackBy (model X.prog X.w) X.A X.env X.xe)) s2) { s' with heap := h1 } := by
    intro h1 held up1
    have J1 : Inv X pins σ' G' { s' with heap := h1 } := J.landed nb held.1 (up.trans up1) os ag
    obtain ⟨k1, k2, k3, oe, vs, T, oT, ts', he, hz, hd, hv1, hnT, hTe, hT, hdT, ht3⟩ := id held
    have nT : G' T = none := (J.inGround nb).gone hnT
    have notFr : ∀ (b : Addr) (o : Obj) (fv : Array Value), h1.get? b = some o → o.data = .fields fv → b ∉ frs (X.env :: X.outer) := by
      intro b o fv e dd hm
      obtain ⟨_, o', e', hnf⟩ := k3.mem hm
      obtain rfl := Option.some.inj (e.symm.trans e')
      exact hnf _ dd
    have locF : X.env.locals ∈ frs (X.env :: X.outer) := List.mem_filterMap.mpr ⟨X.env, .head _, hf⟩
    have fsF : ∀ b, b ∈ X.fs → b ∈ frs (X.env :: X.outer) := by
      intro b hm
      obtain ⟨e, he', q⟩ := List.mem_filterMap.mp hm
      exact List.mem_filterMap.mpr ⟨e, .tail _ he', q⟩
    have fa := notFr a oe vs he hd
    have fT := notFr T oT ts' hT hdT
    have S1 : Inv (X.suite a ((a, oe) :: (T, oT) :: (X.pn ++ pins))) [] σ' G' { s' with heap := h1 } := by
      refine ⟨J1.ok.suite _ _, J1.os, J1.bare, J1.base, J1.loc, J1.cell, J1.free, J1.freeC, ?_, J1.hok, J1.len⟩
      intro p hp
      rw [List.append_nil] at hp
      rcases List.mem_cons.mp hp with rfl | hp
      · refine ⟨he, na, fun z => fa ?_, fun z => fa (fsF _ z), fun v z => ?_⟩
        · rw [show a = X.env.locals from z]; exact locF
        · have z' : oe.data = .cell v := z
          rw [hd] at z'; cases z'
      rcases List.mem_cons.mp hp with rfl | hp
      · refine ⟨hT, nT, fun z => fT ?_, fun z => fT (fsF _ z), fun v z => ?_⟩
        · rw [show T = X.env.locals from z]; exact locF
        · have z' : oT.data = .cell v := z
          rw [hdT] at z'; cases z'
      · exact J1.pin p hp
    refine gone_ok (X := X.suite a ((a, oe) :: (T, oT) :: (X.pn ++ pins))) S1 hN hi hln fun s6 S6 => ?_
    have J6 : Inv X pins (σ'.set i none) G' s6 := ⟨ok, S6.os, S6.bare, S6.base, S6.loc, S6.cell, S6.free, S6.freeC, fun p hp => S6.pin p (List.mem_append_left _ (.tail _ (.tail _ hp))), S6.hok, S6.len⟩
    have pa := S6.pin (a, oe) (List.mem_append_left _ (.head _))
    have pT := S6.pin (T, oT) (List.mem_append_left _ (.tail _ (.head _)))
    have ga : s6.heap.get? a = some oe := pa.1
    have gT : s6.heap.get? T = some oT := pT.1
    have far : ∀ b o, sI.heap.get? b = some o → b ≠ a ∧ b ≠ T := by
      intro b o e
      by_cases hb : b ∈ frs X.stack
      · rw [hs] at hb
        exact ⟨fun z => fa (z ▸ hb), fun z => fT (z ▸ hb)⟩
      · have q := nb b o e hb
        constructor
        · rintro rfl; rw [k2] at q; cases q
        · rintro rfl; rw [hnT] at q; cases q
    have far0 : ∀ b o, X.s_0.heap.get? b = some o → b ≠ a ∧ b ≠ T := by
      intro b o e
      obtain ⟨o', q⟩ := J.base.there b o e (by rw [hex]; simp)
      exact far b o' q
    have farP : ∀ p ∈ X.pn ++ pins, p.1 ≠ a ∧ p.1 ≠ T := fun p hp => far p.1 p.2 (J.pin p hp).1
    obtain ⟨G, g1, g2⟩ := restrict s6.heap fun b => !(decide (b = a) || decide (b = T))
    have gIn : ∀ b o, G.get? b = some o → s6.heap.get? b = some o ∧ b ≠ a ∧ b ≠ T := by
      intro b o e
      by_cases h1 : b = a
      · rw [g2 b (by simp [h1])] at e; cases e
      by_cases h2 : b = T
      · rw [g2 b (by simp [h2])] at e; cases e
      rw [g1 b (by simp [h1, h2])] at e
      exact ⟨e, h1, h2⟩
    have gOf : ∀ b o, b ≠ a → b ≠ T → s6.heap.get? b = some o → G.get? b = some o := fun b o n1 n2 e => (g1 b (by simp [n1, n2])).trans e
    have I6 : Inv X pins (σ'.set i none) G' { s6 with heap := G } := Inv.less J6 (fun b o e => (gIn b o e).1) gOf ⟨oe, vs, ga, hd⟩ ⟨oT, ts', gT, hdT⟩ pa.2.1 pT.2.1 far0 farP
    have bIn : (PySem.W.hideAll G (frs X.stack)).StaysIn s6.heap := fun b o e => (gIn b o (PySem.W.of_hideAll _ e)).1
    have bNo : ∀ b, (b = a ∨ b = T) → (PySem.W.hideAll G (frs X.stack)).get? b = none := by
      intro b hb
      cases q : (PySem.W.hideAll G (frs X.stack)).get? b with
      | none => rfl
      | some o =>
        obtain ⟨_, n1, n2⟩ := gIn b o (PySem.W.of_hideAll _ q)
        exact hb.elim (fun z => absurd z n1) fun z => absurd z n2
    have held6 : HandSPX.HeldZ (PySem.W.hideAll G (frs X.stack)) (X.env :: X.outer) a (Zc cls d) X.env.locals s6.heap := by
      refine ⟨bIn, bNo a (.inl rfl), ?_, oe, vs, T, oT, ts', ga, hz, hd, hv1, bNo T (.inr rfl), hTe, gT, hdT, ht3⟩
      have ff := funFrames_none (B := PySem.W.hideAll G (frs X.stack)) J6.stack fun b hb => PySem.W.hideAll_none _ hb
      rw [← hs]
      exact ff
    unfold PySem.passOn
    refine wpAny_bind (wpAny_field ga hd hv1 ?_)
    rw [if_neg (show ¬ ((Value.ref T == Value.none) = true) from by simp)]
    have rest : wpAny (model X.prog X.w) (X.A.mark (some (.ref a0))) (setFlight (.ref a) X.env.frame) (fun _ s7 => wpAny (model X.prog X.w) (X.A.mark (some (.ref a0))) (throw (.ref a) : Sem Flow) (fun _ _ => False)
        (notedBy (model X.prog X.w) (X.A.mark (some (.ref a0))) X.env (cameBackBy (model X.prog X.w) X.A X.env X.xe)) s7) (notedBy (model X.prog X.w) (X.A.mark (some (.ref a0))) X.env (cameBackBy (model X.prog X.w) X.A X.env X.xe)) s6 := by
      rw [hf]
      refine HandSPX.setFlight_onZ held6 fun h7 held7 up7 => wpAny_throw ?_
      refine HandSPX.againZ hf held7.2.2.2 ?_
      obtain ⟨_, _, _, oe7, vs7, T7, _, _, he7, _, hd7, hv7, _⟩ := id held7
      refine wpAny_bind (wpAny_field he7 hd7 hv7 ?_)
      rw [if_neg (show ¬ ((Value.ref T7 == Value.none) = true) from by simp)]
      rw [hf]
      have last : wpAny (model X.prog X.w) X.A (setFlight (.ref a) (some X.env.locals)) (fun _ s8 => X.xe (.ref a) s8) X.xe { s6 with heap := h7 } := by
        refine HandSPX.setFlight_onZ held7 fun h8 held8 up8 => tk _ _ ?_
        refine ⟨a, PySem.W.hideAll G (frs X.stack), { s6 with heap := G }, pins, σ'.set i none, G', cls, d, rfl, I6, fun b o e hb => PySem.W.hideAll_get _ e hb, ?_, .inr (.inr (hs ▸ held8)), pa.2.1, rfl, J6.bare, wish⟩
        exact (Heap.UpToSlots.of_keeps fun b o e => (gIn b o e).1).trans (up7.trans up8)
      exact last
    first
      | exact wpAny_bind (wpAny_pure (wpAny_bind rest))
      | exact wpAny_bind rest
  rcases sky with ⟨hB, hn0, hl, oe, vs, he, hz, hd, hv1⟩ | fl | hh
  · exact HandSPX.look_newZ Zc.steady frm hl hf he hB hn0 hd hv1 hz after
  · exact HandSPX.looks_onZ Zc.steady frm hf fl after
  · exact HandSPX.againZ hf hh.2.2.2 (after s'.heap hh (Heap.UpToSlots.refl _))
theorem ps_try_asX (hs : X.stack = X.env :: X.outer) (hf : X.env.frame = some X.env.locals) (hex : X.ex = []) (hN : X.N.Nodup) (hi : X.N[i]? = some n) (hln : X.env.kindOf n = some .local) (hc : Names X x c) (tk : Takes X Wout)
    (hb : ∀ (W : WX) (pn : List (Addr × Obj)) (xe : Value → Shared → Prop), L2N.Takes (X.tr pn xe) W → PassesOwn (model X.prog X.w) X.A X.env xe → PSs (X.tr pn xe) body (tb W))
    (hsu : ∀ (a : Addr) (oe : Obj) (cls : Value) (d : Option Addr) (pn : List (Addr × Obj)) (xe : Value → Shared → Prop), Zc cls d oe → (∃ vs, oe.data = .fields vs) → Takes (hotS X a ((a, oe) :: pn) xe) (fun cls d σ H => Wout cls d (σ.set i none) H) → L2H.HotC (hotS X a ((a, oe) :: pn) xe) →
      PSs (hotS X a ((a, oe) :: pn) xe) (b₀ :: suite) (ts a cls d)) :
    PS X (.Try body [.ExceptHandler (some (.Name x np)) (some n) (b₀ :: suite) pos'] [] [] pos) (fun D σ H => tb (wAs X.K c i ts Wout D) D σ H) := by
  constructor
  intro pins s σ H D I0 hyp
  have good := I0.ok
  have frm : X.A.frames = some (X.env :: X.outer) := good.frames.trans (congrArg some hs)
  apply wpAny_Try_except
  let catch_ : Value → Shared → Prop := fun u t => wpAny (model X.prog X.w) X.A (noteFrame u X.env) (fun _ t2 => wpAny (model X.prog X.w) X.A (setFlight u none) (fun _ t3 => wpAny (model X.prog X.w) X.A (handleBy u X.env [.ExceptHandler (some (.Name x np)) (some n) (b₀ :: suite) pos']) (SP X pins D) X.xe t3) X.xe t2) X.xe t
  have caught : L2N.Takes (X.tr (X.pn ++ pins) catch_) (wAs X.K c i ts Wout D) := by
    intro u t away
    obtain ⟨e, B, t1, pins1, σ1, G1, cls, d, rfl, Jt, nob, grown, sky0, fresh, osq, agr, y, ask, yes, no⟩ := away
    have J := Jt.ofTry good
    have sky1 : Sky B (X.env :: X.outer) e (L2N.Zn cls d) X.env.locals t.heap := hs ▸ sky0
    exact L2N.Sky.land L2N.Zn.steady frm hf sky1 fun k1 lnd1 gr1 => by
      have Ja : Inv X pins σ1 G1 { t with heap := k1 } := J.landed nob lnd1.1 (grown.trans gr1) osq agr
      obtain ⟨ob1, fd1, there1, zc1, dt1⟩ := lnd1.there
      have off : e ∉ frs (X.env :: X.outer) := by
        intro hm
        obtain ⟨_, ob, there, not_⟩ := Heap.FunFrames.mem lnd1.2.2.1 hm
        obtain rfl := Option.some.inj (there1.symm.trans there)
        exact not_ _ dt1
      have offL : e ≠ X.env.locals := by
        rintro rfl
        exact off (List.mem_filterMap.mpr ⟨_, .head _, hf⟩)
      have offF : e ∉ X.fs := by
        intro hm
        obtain ⟨f, hf1, hf2⟩ := List.mem_filterMap.mp hm
        exact off (List.mem_filterMap.mpr ⟨f, .tail _ hf1, hf2⟩)
      have inS := Ja.suite there1 dt1 fresh offL offF
      have kind : PySem.W.Looks (model X.prog X.w) k1 (typeOf (.ref e)) cls := fun A Q E s kp q => wpAny_typeOf_ref (kp _ _ there1) (zc1.1.symm ▸ q)
      have asked := PySem.W.exm_one (M := model X.prog X.w) Ja.kIn kind ask
      have named : ∀ {Q E : Value → Shared → Prop}, Q c { t with heap := k1 } → wpAny (model X.prog X.w) (X.A.mark (some (.ref e))) (eval (.Name x np) X.env) Q E { t with heap := k1 } := by
        intro Q E q
        rcases hc with ⟨gl, db, there | ⟨gone, boot, nn⟩⟩
        · exact ld_glob (X := X.suite e ((e, ob1) :: (X.pn ++ pins))) inS gl there q db
        · exact ld_blt (X := X.suite e ((e, ob1) :: (X.pn ++ pins))) inS gl gone boot q nn db
      refine wpAny_handleBy_cons (codeAny_handlers_test (named (asked.here ?_))) (fun z => nomatch z)
      match y, yes, no with
      | false, _, no =>
        show wpAny _ X.A (handleBy (.ref e) X.env []) _ _ _
        apply wpAny_handleBy_nil
        obtain ⟨_, _, _, obF, vsF, TF_, oT_, tsF, atF, zF, dF, fieldF, _⟩ := id lnd1
        have up : wpAny (model X.prog X.w) X.A (setFlight (.ref e) X.env.frame) (fun _ t4 => wpAny (model X.prog X.w) X.A (throw (.ref e) : Sem Flow) (SP X pins D) X.xe t4) X.xe { t with heap := k1 } := by
          rw [hf]
          refine HandSPX.setFlight_upZ (L2H.flyingZ_imp (fun o z => L2N.Zn.zc z) lnd1) fun k2 high gr2 => wpAny_throw (tk _ _ ⟨e, B, t1, pins, σ1, G1, cls, d, rfl, J, nob, (grown.trans gr1).trans gr2, .inr (.inr (hs ▸ high)), fresh, osq, agr, no rfl⟩)
        unfold PySem.passOn
        refine wpAny_bind (wpAny_field atF dF fieldF ?_)
        rw [if_neg (show ¬ ((Value.ref TF_ == Value.none) = true) from by simp)]
        first | exact wpAny_bind up | exact wpAny_bind (wpAny_pure (wpAny_bind up))
      | true, yes, _ =>
        apply codeAny_handlers_suite_as
        refine HandSPX.lands_againZ lnd1 fun k2 lnd2 gr2 => ?_
        have Jb : Inv X pins σ1 G1 { t with heap := k2 } := J.landed nob lnd2.1 ((grown.trans gr1).trans gr2) osq agr
        obtain ⟨ob2, fd2, there2, zc2, dt2⟩ := lnd2.there
        refine store_ok (X := X.suite e ((e, ob2) :: (X.pn ++ pins))) (v := .ref e) (Jb.suite there2 dt2 fresh offL offF) hN hi (.inl hln) rfl (fun t5 in5 => ?_) (.inr hln)
        let xe' : Value → Shared → Prop := fun u t6 => AsSuiteRaised (model X.prog X.w) (X.A.mark (some (.ref e))) X.env n pos' (notedBy (model X.prog X.w) (X.A.mark (some (.ref e))) X.env (cameBackBy (model X.prog X.w) X.A X.env X.xe)) u t6
        have takes : Takes (hotS X e ((e, ob2) :: (X.pn ++ pins)) xe') (fun cls d σ H => Wout cls d (σ.set i none) H) := fun u t6 away => hot_tail hs hf hex hN hi hln good tk away
        have hot : L2H.HotC (hotS X e ((e, ob2) :: (X.pn ++ pins)) xe') := ⟨(e, ob2), ⟨rfl, fd2, dt2, zc2.2.2 fd2 dt2⟩, .head _⟩
        have ran := (hsu e ob2 cls d (X.pn ++ pins) xe' zc2.zc ⟨_, dt2⟩ takes hot).run [] t5 _ G1 _ (Inv.intoHot in5) (yes rfl e fresh)
        refine wpAny_mono ran (fun fl t6 after => ?_) fun u t6 z => z
        have unname : ∀ {τ : L2.St} {G : Hp} {Q : Shared → Prop}, Inv (hotS X e ((e, ob2) :: (X.pn ++ pins)) xe') [] τ G t6 → (∀ t7, Inv X pins (τ.set i none) G t7 → Q t7) → wpAny (model X.prog X.w) X.A (do bindName X.env n .none; unbindBehindTheSuite X.env n pos') (fun _ t7 => Q t7) X.xe t6 := fun in6 hq => gone_ok (Inv.fromHot in6 good) hN hi hln hq
        match fl, after with
        | .next, ⟨τ, G, in6, q⟩ => exact unname in6 fun t7 J7 => ⟨_, _, J7, q⟩
        | .brk, ⟨τ, G, in6, q⟩ => exact unname in6 fun t7 J7 => ⟨_, _, J7, q⟩
        | .cont, ⟨τ, G, in6, q⟩ => exact unname in6 fun t7 J7 => ⟨_, _, J7, q⟩
        | .ret u, ⟨v, τ, G, in6, rv, q⟩ => exact unname in6 fun t7 J7 => ⟨_, _, _, J7, rv, q⟩
  refine wpAny_mono ((hb (wAs X.K c i ts Wout D) (X.pn ++ pins) catch_ caught PassesOwn.looking).run [] s σ H D (I0.toTry _) hyp) (fun fl t after => ?_) fun _ _ z => z
  match fl, after with
  | .next, after =>
    obtain ⟨τ, G, Jt, q⟩ := after
    exact wpAny_execs_nil ⟨τ, G, Jt.ofTry good, q⟩
  | .brk, after =>
    obtain ⟨τ, G, Jt, q⟩ := after
    exact ⟨τ, G, Jt.ofTry good, q⟩
  | .cont, after =>
    obtain ⟨τ, G, Jt, q⟩ := after
    exact ⟨τ, G, Jt.ofTry good, q⟩
  | .ret u, after =>
    obtain ⟨v, τ, G, Jt, rv, q⟩ := after
    exact ⟨v, τ, G, Jt.ofTry good, rv, q⟩
end
section
variable {P : Program} {w : World} {K : PySem.W.Frag} {mg : Str → Option Value} {base : Heap}
/-- a def that may raise what bears no context, by its body -/
theorem fnXN {x qual : Str} {st : Stmt} {f : Addr} {fd : FuncData} {N ps : List Str} {k : Nat} {sp : Sp} (F : C8.Fun K x qual st f fd) (S : FnScope N ps (C8.fnScope st)) (len : ∀ vs H Q E, sp vs H Q E → vs.length = ps.length)
    (body : ∀ (cdv : Value) (A : Around) (outer : List Env) (s : Shared) (H : Hp) (vs : List V) (Q : VK) (E : XK), Room k (A.deeper (envOfC qual (C8.fnScope st) s.heap.objs.size f cdv)) → sp vs H Q E →
      ∃ t, PSs (cxOf (L2N.CX P w) P w K mg base N qual (C8.fnScope st) f cdv A outer s H E) (C8.fnBody st) t ∧ t { nx := fun _ H' => Q .non H', rt := Q } (start N vs) H) :
    FnOk P w K mg base (L2N.CX P w) (k + 1) f fd ps sp := by
  obtain ⟨oc, od, dV, kV, doc, pm, an, cdv, ct, osl, rfl, lk, hcd⟩ := F.ex
  exact fn_of lk hcd S len fun A outer s H vs Q E hr hsp => body cdv A outer s H vs Q E hr hsp
/-- a def called in an except suite, by its body -/
theorem fnH0 {x qual : Str} {st : Stmt} {f : Addr} {fd : FuncData} {N ps : List Str} {k : Nat} {sp : Sp} (F : C8.Fun K x qual st f fd) (S : FnScope N ps (C8.fnScope st)) (len : ∀ vs H Q E, sp vs H Q E → vs.length = ps.length)
    (body : ∀ (cdv : Value) (A : Around) (outer : List Env) (s : Shared) (H : Hp) (vs : List V) (Q : VK) (E : XK) (p : Addr × Obj), L2H.Hot1 A p → L2H.RoomH k (A.deeper (envOfC qual (C8.fnScope st) s.heap.objs.size f cdv)) → sp vs H Q E →
      ∃ t, PSs (L2H.cxH C8.CX0 P w K mg base N qual (C8.fnScope st) f cdv A outer s H E p) (C8.fnBody st) t ∧ t { nx := fun _ H' => Q .non H', rt := Q } (start N vs) H) :
    L2H.FnH P w K mg base C8.CX0 (k + 1) f fd ps sp := by
  obtain ⟨oc, od, dV, kV, doc, pm, an, cdv, ct, osl, rfl, lk, hcd⟩ := F.ex
  exact L2H.fn_ofH lk hcd S len fun A outer s H vs Q E p hot hr hsp => body cdv A outer s H vs Q E p hot hr hsp
end
section
variable {X : Cx} {CX : CXT} {x : Str} {e : Expr} {es : List Expr} {ta : TA} {p pos : Pos} {C fI : Addr} {k : Nat} {fd : FuncData} {ps : List Str} {sp : Sp}
/-- an own exception made outside of any except suite: it bears no context -/
theorem pmkN_oex (T : OexC X.K C) (iC : PySem.W.findIn X.K (.ref C) "__init__" = some (some (.ref fI))) (tI : PySem.W.typeIn X.K (.ref fI) = some (.type "function"))
    (F1 : FnOk X.prog X.w X.K X.mg X.base CX k fI fd ps sp) (hr : Room (k + 1) X.A) (hb : Binds X.K fd ps []) (hx : Passes CX X (fun _ _ _ => False)) (hg : Gl X x) (hm : X.mg x = some (.ref C)) (ha : PA X (e :: es) ta)
    (nodbg : (x == ("__debug__" : Str)) = false := by decide) (plain : starEach (e :: es) X.env = (false, eval e X.env) :: starEach es X.env := by rfl) (nostar : (backTo pos (starEach es X.env)).any (·.1) = false := by rfl) :
    L2N.PMk X (.Call (.Name x p) (e :: es) [] pos) (tMkO C sp [] ta) := by
  intro pins s σ H Q I h
  obtain ⟨nm, q, N, bs, bm, sn, sub, ab, col, dd, k0, k1, k2, k3, k5, there, bases⟩ := T.cls
  apply wpAny_Call_Name_kw (ld_glob I hg hm ?_ nodbg)
  apply PySem.W.callWith_K (h₀ := X.base) I.ok.mod.kin T.kC (thn (ha.run pos pins s σ H _ I h) ?_) plain nostar
  rintro us s1 ⟨vs, H1, I1, r1, few, q1⟩
  refine ⟨I1.kIn, ?_⟩
  show wpAny _ _ (call (.ref C) us) _ _ _
  obtain ⟨hp, g, dr, tk, os⟩ := s1
  have step : hp.objs.size ≤ hp.objs.size + 1 := Nat.le_succ _
  have hq := q1 (hp.objs.size + 1) (I1.hok.fresh step)
  rw [List.append_nil] at hq
  have old : ∀ b o, hp.get? b = some o → ((hp.push (PySem.W.kdv_tup us)).push (PySem.HandSPX.excO C hp.objs.size)).get? b = some o := fun b o e => Heap.get?_push_of_some _ (Heap.get?_push_of_some _ e)
  have new : ((hp.push (PySem.W.kdv_tup us)).push (PySem.HandSPX.excO C hp.objs.size)).get? (hp.objs.size + 1) = some (PySem.HandSPX.excO C hp.objs.size) := by heap_get
  have I2 : Inv X pins σ (upd H1 (hp.objs.size + 1) (exo (hp.objs.size + 1) C none)) ⟨(hp.push (PySem.W.kdv_tup us)).push (PySem.HandSPX.excO C hp.objs.size), g, dr, tk, os⟩ := I1.laid old step (exo_ok new)
  have r2 : Vals (V.ref (hp.objs.size + 1) :: vs) (Value.ref (hp.objs.size + 1) :: us) := .cons rfl r1
  have many : (Value.ref (hp.objs.size + 1) :: us ++ []).length = ps.length := by
    rw [List.append_nil, ← r2.length]
    exact F1.len _ _ _ _ hq
  have fits : us.length ≤ sizeLine := by
    rw [← Paired.length r1, sizeLine_eq]
    omega
  have bound := hb _ (Value.ref (hp.objs.size + 1) :: us) I2.kIn many
  rw [List.append_nil] at bound
  have ran := F1.run _ X.stack _ _ ⟨Value.ref (hp.objs.size + 1) :: us, []⟩ (Value.ref (hp.objs.size + 1) :: us) _ _ (fun _ _ _ => False) (hr.make C us []) (I2.env0.make C us []) bound r2 hq
  refine wpAny_call (PySem.HandSPX.call_own F.excBase_ValueError (fun Y => PySem.HandSPX.refsVE_contains Y bm bases) (I1.kIn _ _ there) (PySem.W.looks_findIn I1.kIn iC) (fun self => PySem.W.bind_fn I1.kIn self tI) fits (codeAny_mono ran fun r s' hq' => ?_))
  match r, hq' with
  | .error er, hq' => exact hx pins σ _ _ er s' I2 hq'
  | .ok .next, hq' => exact hq'.elim
  | .ok .brk, hq' => exact hq'.elim
  | .ok .cont, hq' => exact hq'.elim
  | .ok (.ret u), hq' =>
    obtain ⟨v, H2, os2, bare2, un2, hok2, rv, ev, d, fs, ea, ed, hd1, q2⟩ := hq'
    subst ev
    obtain ⟨h2, g2, d2, t2, os'⟩ := s'
    obtain ⟨t0, G, J, kG, ge, hoe, na⟩ := mk_end0 (d2 := d2) (t2 := t2) I1 step old un2 hok2 os2 bare2 ea ed hd1
    exact ⟨rv, hp.objs.size + 1, _, _, ⟨G, g2, d2, t2, os'⟩, _, .ref C, some d, rfl, J, kG, ge, hoe, ⟨rfl, rfl, fun vs hv => by cases hv; rfl⟩, rfl, rfl, na, rfl, bare2, raises_own T.exC T.tyC, q2⟩
end
/-! ### a def of which two things are promised: one without exceptions, one with -/
structure Xal (P : Program) (w : World) (K : PySem.W.Frag) (mg : Str → Option Value) (base : Heap) (k : Nat) (x : Str) (sp : Sp) : Prop where
  ex : ∃ (f : Addr) (fd : FuncData) (ps : List Str), FnOk P w K mg base (L2N.CX P w) k f fd ps sp ∧ mg x = some (.ref f) ∧ Binds K fd ps []
section
variable {P : Program} {w : World} {K : PySem.W.Frag} {mg : Str → Option Value} {base : Heap}
theorem xal0 {x : Str} {st : Stmt} {f : Addr} {fd : FuncData} {N ps : List Str} {k : Nat} {sp : Sp} (F : C8.Def K mg x st f fd) (b : Binds K fd ps []) (S : FnScope N ps (C8.fnScope st)) (len : ∀ vs H Q E, sp vs H Q E → vs.length = ps.length)
    (body : ∀ (cdv : Value) (A : Around) (outer : List Env) (s : Shared) (H : Hp) (vs : List V) (Q : VK) (E : XK), Room k (A.deeper (envOfC x (C8.fnScope st) s.heap.objs.size f cdv)) → sp vs H Q E →
      ∃ t, PSs (cxOf (L2N.CX P w) P w K mg base N x (C8.fnScope st) f cdv A outer s H E) (C8.fnBody st) t ∧ t { nx := fun _ H' => Q .non H', rt := Q } (start N vs) H) : Xal P w K mg base (k + 1) x sp :=
  ⟨f, fd, ps, fnXN F.fn S len body, F.mgf, b⟩
end
def tCallO (sp1 sp2 : Sp) (E : L2.St → XK) (t : TA) : TE := fun σ H Q => t σ H fun vs H1 => sp1 vs H1 Q C8.E0 ∨ sp2 vs H1 Q (E σ)
theorem pe_callO {X : Cx} {x : Str} {e : Expr} {es : List Expr} {p pos : Pos} {t : TA} {k1 k2 j : Nat} {sp1 sp2 : Sp} {E : L2.St → XK} (c : C8.Cal X.prog X.w X.K X.mg X.base k1 x sp1 []) (c2 : Xal X.prog X.w X.K X.mg X.base k2 x sp2) (hr : Room j X.A) (h1 : k1 ≤ j) (h2 : k2 ≤ j) (hg : Gl X x)
    (hx : ∀ σ, PassesAt (L2N.CX X.prog X.w) X σ (E σ)) (ha : PA X (e :: es) t) (nodbg : (x == ("__debug__" : Str)) = false := by decide) (plain : starEach (e :: es) X.env = (false, eval e X.env) :: starEach es X.env := by rfl) (nostar : (backTo pos (starEach es X.env)).any (·.1) = false := by rfl) :
    PE X (.Call (.Name x p) (e :: es) [] pos) (tCallO sp1 sp2 E t) := by
  obtain ⟨f1, fd1, ps1, ds1, F1, m1, kp, b1, d1⟩ := c.ex
  obtain ⟨f2, fd2, ps2, F2, m2, b2⟩ := c2.ex
  rw [m1] at m2
  cases m2
  constructor
  intro pins s σ H Q I h
  refine wpAny_Call_Name_kw (ld_glob I hg m1 ?_ nodbg)
  refine PySem.W.callWith_K (h₀ := X.base) I.ok.mod.kin kp (thn (ha.run pos pins s σ H _ I h) ?_) plain nostar
  rintro us s1 ⟨vs, H1, I1, r, q⟩
  refine ⟨I1.kIn, ?_⟩
  rcases q with q | q
  · exact run_fn F1 (hr.mono h1) b1 d1 C8.pass0 I1 r (by rw [List.append_nil]; exact q)
  · exact run_fnS F2 (hr.mono h2) b2 (hx σ) I1 r q
theorem pe_ofNox {X : Cx} {e : Expr} {te : TE} (h : PE X.nox e te) : PE X e te := by
  constructor
  intro pins s σ H Q I q
  refine wpAny_mono (h.run pins s σ H Q (I.wish _) q) ?_ fun _ _ z => z.elim
  rintro u s1 ⟨v, H1, I1, r⟩
  exact ⟨v, H1, I1.unwish, r⟩
/-! ### a class of which two things are promised -/
def tMakeO (C : Addr) (sp1 sp2 : Sp) (E : L2.St → XK) (t : TA) : TE := fun σ H Q => t σ H fun vs H1 =>
  (∀ x dx, H1 x = none → H1 dx = none → dx ≠ x → sp1 (.ref x :: (vs ++ [])) (upd (upd H1 dx (.own x)) x (.ins C dx [])) (fun v H2 => v = .non ∧ Q (.ref x) H2) C8.E0) ∨
  (∀ x dx, H1 x = none → H1 dx = none → dx ≠ x → sp2 (.ref x :: vs) (upd (upd H1 dx (.own x)) x (.ins C dx [])) (fun v H2 => v = .non ∧ Q (.ref x) H2) (E σ))
theorem pe_makeO {X : Cx} {CX : CXT} {x : Str} {e : Expr} {es : List Expr} {p pos : Pos} {t : TA} {k1 k2 j : Nat} {C f : Addr} {fd : FuncData} {ps : List Str} {sp1 sp2 : Sp} {E : L2.St → XK} (c : C8.Mak X.prog X.w X.K X.mg X.base k1 x C sp1 []) (M : Mk X.K C f) (F : FnOk X.prog X.w X.K X.mg X.base CX k2 f fd ps sp2) (hr : Room j X.A) (h1 : k1 + 1 ≤ j) (h2 : k2 + 1 ≤ j) (hg : Gl X x)
    (b : Binds X.K fd ps []) (hx : ∀ σ, PassesAt CX X σ (E σ)) (ha : PA X (e :: es) t) (nodbg : (x == ("__debug__" : Str)) = false := by decide) (plain : starEach (e :: es) X.env = (false, eval e X.env) :: starEach es X.env := by rfl) (nostar : (backTo pos (starEach es X.env)).any (·.1) = false := by rfl) :
    PE X (.Call (.Name x p) (e :: es) [] pos) (tMakeO C sp1 sp2 E t) := by
  obtain ⟨f1, fd1, ps1, ds1, M1, F1, m1, b1, d1⟩ := c.ex
  constructor
  intro pins s σ H Q I h
  refine wpAny_Call_Name_kw (ld_glob I hg m1 ?_ nodbg)
  refine PySem.W.callWith_K (h₀ := X.base) I.ok.mod.kin M.kp (thn (ha.run pos pins s σ H _ I h) ?_) plain nostar
  rintro us s1 ⟨vs, H1, I1, r, q⟩
  refine ⟨I1.kIn, ?_⟩
  rcases q with q | q
  · exact run_make M1 F1 (hr.mono h1) b1 d1 C8.pass0 I1 r q
  · exact make_run M F (hr.mono h2) b (hx σ) I1 r q
end Nw
namespace Nw
open PySem L2 PySem.Spec PyProof.Rows RZ
/-- n spaces -/
def spS (n : Nat) : Str := ⟨(List.replicate n 32).toArray⟩
section
variable {X : Cx}
/-- ' ' * n -/
theorem op_spc : OpR X (binaryOp .Mult) (fun x y H Q => ∃ n : Nat, n ≤ 2 ∧ x = .str " " ∧ y = .int (n : Int) ∧ Q (.str (spS n)) H) := by
  intro pins s σ H x y v u Q I rx ry h
  obtain ⟨n, hn, rfl, rfl, q⟩ := h
  obtain ⟨t, rfl⟩ := rx
  obtain ⟨t', rfl⟩ := ry
  have h3 : n = 0 ∨ n = 1 ∨ n = 2 := by omega
  rcases h3 with rfl | rfl | rfl
  · refine PySem.P.mul_str (by decide) (by decide +kernel) (by decide +kernel) ?_
    exact ⟨by decide +kernel, .str (spS 0), H, I.tok _, ⟨_, rfl⟩, q⟩
  · refine PySem.P.mul_str (by decide) (by decide +kernel) (by decide +kernel) ?_
    exact ⟨.str (spS 1), H, I, ⟨_, rfl⟩, q⟩
  · refine PySem.P.mul_str (by decide) (by decide +kernel) (by decide +kernel) ?_
    exact ⟨by decide +kernel, .str (spS 2), H, I.tok _, ⟨_, rfl⟩, q⟩
end
end Nw
/-! Own layer: set(xs) of a list of texts, sorted of it. -/
namespace Nw
open PySem L2 PySem.Spec PyProof.Rows RZ
/-- the text of an entry -/
def keyS (e : Int × Value) : Str := match e.2 with
  | .str k _ => k
  | _ => Str.empty
def GoodS (w : World) (e : Int × Value) : Prop := ∃ k tk, e.2 = Value.str k tk ∧ e.1 = hashStr w k
/-- what is known of the entries and of the table -/
structure TabS (w : World) (S : Str → Bool) (es : Array (Int × Value)) (t : SetTable) : Prop where
  good : ∀ e ∈ es.toList, GoodS w e
  nd : (es.toList.map keyS).Nodup
  mem : ∀ k, S k = true ↔ k ∈ es.toList.map keyS
  few : es.size < scanBound
  fits : t.fits es.size = true
  ris : Ris t.place.toList
  led : w.params.followText "set-order" = true ∨ t.led = true
/-- the set of texts at a, n of them -/
def SetS (w : World) (h : Heap) (a : Addr) (S : Str → Bool) (n : Nat) : Prop := ∃ o es ep t, h.get? a = some o ∧ o.ExactSet ∧ o.data = .set es ep t ∧ TabS w S es t ∧ es.size = n
section
variable {P : Program} {w : World} {h h' : Heap} {a : Addr} {S : Str → Bool} {n : Nat}
theorem SetS.at (R : SetS w h a S n) (k : ∀ o, h.get? a = some o → h'.get? a = some o) : SetS w h' a S n := by
  obtain ⟨o, es, ep, t, ho, r⟩ := R
  exact ⟨o, es, ep, t, k o ho, r⟩
theorem SetS.congr {S' : Str → Bool} (R : SetS w h a S n) (e : ∀ k, S' k = S k) : SetS w h a S' n := by
  rw [show S' = S from funext e]; exact R
theorem goodS_is {e : Int × Value} (g : GoodS w e) (k : Str) : (PySem.strKind P w).is k e.2 = true ↔ keyS e = k := by
  obtain ⟨z, tk, h1, _⟩ := g
  unfold keyS
  rw [h1]
  show Value.isStrOf k (.str z tk) = true ↔ z = k
  constructor
  · intro q
    obtain ⟨t, e⟩ := Value.isStrOf_shape q
    injection e
  · rintro rfl
    exact PySem.strKind_is P w z tk
theorem goodS_mem {l : List (Int × Value)} (g : ∀ e ∈ l, GoodS w e) (k : Str) : k ∈ l.map keyS ↔ ∃ e ∈ l, (PySem.strKind P w).is k e.2 = true := by
  rw [List.mem_map]
  exact ⟨fun ⟨e, he, q⟩ => ⟨e, he, (goodS_is (g e he) k).2 q⟩, fun ⟨e, he, q⟩ => ⟨e, he, (goodS_is (g e he) k).1 q⟩⟩
theorem goodS_elems {l : List (Int × Value)} (g : ∀ e ∈ l, GoodS w e) : ElemsOf (PySem.strKind P w) l := fun e he => by
  obtain ⟨k, tk, h1, h2⟩ := g e he
  refine ⟨⟨k, by rw [h1]; exact PySem.strKind_is P w k tk, h2⟩, by rw [h1]; rfl⟩
/-- a permuted table of the same entries -/
theorem TabS.perm {es es2 : Array (Int × Value)} {t t2 : SetTable} (T : TabS w S es t) (pm : es2.toList.Perm es.toList) (hf : t2.fits es2.size = true) (hr : Ris t2.place.toList) (hl : t2.led = t.led) : TabS w S es2 t2 ∧ es2.size = es.size := by
  have hz : es2.size = es.size := by rw [← Array.length_toList, pm.length_eq, Array.length_toList]
  exact ⟨⟨fun e he => T.good e (pm.mem_iff.mp he), (pm.map keyS).nodup_iff.mpr T.nd, fun k => (T.mem k).trans (pm.map keyS).mem_iff.symm, by rw [hz]; exact T.few, hf, hr, T.led.imp id fun z => by rw [hl]; exact z⟩, hz⟩
/-- the table with one entry more -/
theorem TabS.more {es es2 : Array (Int × Value)} {t t2 : SetTable} {k : Str} {tk : Tok} (T : TabS w S es t) (hk : k ∉ es.toList.map keyS) (pm : es2.toList.Perm ((hashStr w k, Value.str k tk) :: es.toList)) (room : es.size + 1 < scanBound) (hf : t2.fits es2.size = true) (hr : Ris t2.place.toList) (hl : t2.led = t.led) :
    TabS w (fun j => S j || decide (j = k)) es2 t2 ∧ es2.size = es.size + 1 := by
  have hz : es2.size = es.size + 1 := by rw [← Array.length_toList, pm.length_eq, List.length_cons, Array.length_toList]
  have pk : (es2.toList.map keyS).Perm (k :: es.toList.map keyS) := pm.map keyS
  refine ⟨⟨fun e he => ?_, pk.nodup_iff.mpr (List.nodup_cons.mpr ⟨hk, T.nd⟩), fun j => ?_, by rw [hz]; exact room, hf, hr, T.led.imp id fun z => by rw [hl]; exact z⟩, hz⟩
  · rcases List.mem_cons.mp (pm.mem_iff.mp he) with z | z
    · rw [z]; exact ⟨k, tk, rfl, rfl⟩
    · exact T.good e z
  · rw [Bool.or_eq_true, decide_eq_true_eq, T.mem j, pk.mem_iff, List.mem_cons]
    exact Or.comm
end
section
variable {P : Program} {w : World} {A : Around} {E : Value → Shared → Prop} {s : Shared} {a : Addr} {S : Str → Bool} {n : Nat}
/-- what stands behind the new entry: stored, and laid anew where it is too full -/
theorem setS_tail {g : Bool → Sem Unit} (hg : ∀ (b : Bool) (s₁ : Shared) (Q' : Unit → Shared → Prop), Q' () s₁ → wpAny (model P w) A (g b) Q' E s₁)
    {o : Obj} {es es1 : Array (Int × Value)} {ep : Nat} {t t2 : SetTable} (ho : s.heap.get? a = some o) (hex : o.ExactSet) (hd : o.data = .set es ep t) (T : TabS w S es1 t2) {was : Bool} {R : Option Bool → Shared → Prop}
    (hR : ∀ h', Heap.SameBut a s.heap h' → SetS w h' a S es1.size → R (some true) { s with heap := h' }) :
    wpAny (model P w) A (storeSet a es1 t2 >>= fun _ => if (!was && t2.tooFull) = true then (do
        g (relayAll t2 es1 (SetTable.grown es1.size)).2.2
        storeSet a (relayAll t2 es1 (SetTable.grown es1.size)).1 (relayAll t2 es1 (SetTable.grown es1.size)).2.1
        pure (some true)) else pure (some true)) R E s := by
  have sb1 := Heap.SameBut.update s.heap a (Obj.putSet es1 t2)
  have ho1 := store_at (es' := es1) (t' := t2) ho hd
  refine wpAny_bind (wpAny_storeSet_of ho hd ?_ (fits_of_scanBound T.few))
  by_cases c : (!was && t2.tooFull) = true
  · rw [if_pos c]
    obtain ⟨T3, hz⟩ := T.perm (relayAll_perm t2 es1 (SetTable.grown es1.size)) (relayAll_fits t2 es1 (SetTable.grown es1.size)) (relayAll_ris t2 es1 (SetTable.grown es1.size)) (relayAll_led t2 es1 (SetTable.grown es1.size))
    refine wpAny_bind (hg _ _ _ (wpAny_bind (wpAny_storeSet_of ho1 rfl ?_ (fits_of_scanBound T3.few))))
    exact wpAny_pure (hR _ (sb1.trans (Heap.SameBut.update _ a _)) ⟨_, _, _, _, store_at ho1 rfl, hex, rfl, T3, hz⟩)
  · rw [if_neg c]
    exact wpAny_pure (hR _ sb1 ⟨_, _, _, _, ho1, hex, rfl, T, rfl⟩)
/-- a text is added -/
theorem setS_add {k : Str} {tk : Tok} {Q : Bool → Shared → Prop} (R : SetS w s.heap a S n) (room : n + 1 < scanBound)
    (hQ : ∀ h' b, Heap.SameBut a s.heap h' → SetS w h' a (fun j => S j || decide (j = k)) (if S k = true then n else n + 1) → Q b { s with heap := h' }) :
    wpAny (model P w) A (setAddHashed a (.str k tk) (hashStr w k)) Q E s := by
  obtain ⟨o, es, ep, t, ho, hex, hd, T, hn⟩ := R
  have hel : ElemsOf (PySem.strKind P w) es.toList := goodS_elems T.good
  unfold setAddHashed setAddHashedIn
  refine wpAny_holding (wpAny_bind (wpAny_setState_of ho hd T.fits ?_))
  dsimp only
  rw [byScan_of (x := .str k tk) rfl T.few hel]
  simp only [↓reduceIte]
  unfold setAddByScan
  refine wpAny_bind (wpAny_bind (wpAny_rule (wpAny_bind (wpAny_setScan_of (PySem.strKind_is P w k tk) ho hd T.fits hel ?_))))
  cases hfi : List.findIdx? (fun e => (PySem.strKind P w).is k e.2) es.toList with
  | some j =>
    dsimp only
    obtain ⟨hj, pj, _⟩ := List.findIdx?_eq_some_iff_getElem.mp hfi
    have hSk : S k = true := (T.mem k).2 ((goodS_mem (P := P) T.good k).2 ⟨es.toList[j], List.getElem_mem hj, pj⟩)
    refine wpAny_pure (wpAny_pure (hQ s.heap _ (Heap.SameBut.refl a s.heap) ?_))
    rw [if_pos hSk]
    refine SetS.congr (S := S) ⟨o, es, ep, t, ho, hex, hd, T, hn⟩ fun i => ?_
    by_cases c : i = k
    · rw [c, hSk]; rfl
    · rw [decide_eq_false c, Bool.or_false]
  | none =>
    dsimp only
    have hnk : k ∉ es.toList.map keyS := fun z => by
      obtain ⟨e, he, q⟩ := (goodS_mem (P := P) T.good k).1 z
      have c := List.findIdx?_eq_none_iff.mp hfi e he
      rw [q] at c
      cases c
    have hSk : S k = false := by
      cases q : S k with
      | false => rfl
      | true => exact absurd ((T.mem k).1 q) hnk
    have give : ∀ (b : Bool) {s₁ : Shared} {Q' : Unit → Shared → Prop}, Q' () s₁ → wpAny (model P w) A (match b with | true => rule "set.scan.the-table-gave-way" | false => pure ()) Q' E s₁ :=
      fun b s₁ Q' q => by cases b <;> first | exact wpAny_pure q | exact wpAny_rule q
    have pm := layNew_perm t es (hashStr w k) (.str k tk)
    have hf1 := layNew_fits t es (hashStr w k) (.str k tk)
    have hr1 := layNew_ris t es (hashStr w k) (.str k tk) T.ris
    have hl1 := layNew_led t es (hashStr w k) (.str k tk)
    show wpAny _ _ (have Z := layNew t es (hashStr w k) (.str k tk); _) _ _ _
    generalize layNew t es (hashStr w k) (.str k tk) = Z at pm hf1 hr1 hl1 ⊢
    obtain ⟨es1, t1, was, gave⟩ := Z
    dsimp only at pm hf1 hr1 hl1 ⊢
    rw [Array.toList_push] at pm
    have room' : es.size + 1 < scanBound := by rw [hn]; exact room
    have pc := pm.trans (List.perm_append_singleton _ _)
    have fin : ∀ h', Heap.SameBut a s.heap h' → SetS w h' a (fun j => S j || decide (j = k)) es1.size → Q true { s with heap := h' } := fun h' sb r => by
      obtain ⟨_, hz⟩ := T.more (tk := tk) hnk pc room' hf1 hr1 hl1
      rw [hz, hn] at r
      refine hQ h' true sb ?_
      rw [hSk]
      exact r
    refine wpAny_bind (give _ ?_)
    obtain ⟨T1, _⟩ := T.more (tk := tk) hnk pc room' hf1 hr1 hl1
    have tail : ∀ t2 : SetTable, t2.fits es1.size = true → t2.place = t1.place → t2.led = t1.led → TabS w (fun j => S j || decide (j = k)) es1 t2 := fun t2 f p l => ⟨T1.good, T1.nd, T1.mem, T1.few, f, by rw [p]; exact hr1, T1.led.imp id fun z => by rw [l]; exact z⟩
    have hg : ∀ (b : Bool) (s₁ : Shared) (Q' : Unit → Shared → Prop), Q' () s₁ → wpAny (model P w) A (match b with | true => rule "set.scan.the-table-gave-way" | false => pure ()) Q' E s₁ := fun b s₁ Q' q => give b q
    split
    · refine wpAny_bind ?_
      rw [hashByValue_scannable 8 (x := .str k tk) rfl]
      refine wpAny_pure ?_
      refine setS_tail hg ho hex hd (tail _ ?_ ?_ ?_) fun h' sb r => ?_
      · first | (split <;> first | exact hf1 | exact SetTable.fits_plain_off hf1) | exact hf1
      · first | (split <;> rfl) | rfl
      · first | (split <;> rfl) | rfl
      · dsimp only; exact wpAny_pure (fin h' sb r)
    · refine wpAny_bind (wpAny_pure ?_)
      simp only [↓reduceIte]
      refine setS_tail hg ho hex hd T1 fun h' sb r => ?_
      dsimp only
      exact wpAny_pure (fin h' sb r)
/-- the empty set, as it is made -/
def newS (w : World) : Obj := { cls := .type "set", dict := none, data := .set #[] 0 (.fresh 0 0 (!w.params.followText "set-order")) }
theorem setS_zero {h : Heap} (ho : h.get? a = some (newS w)) (zs : List Str) : SetS w h a (fun j => decide (j ∈ zs.take 0)) 0 := by
  refine ⟨_, #[], 0, _, ho, ⟨rfl, rfl, rfl⟩, rfl, ⟨fun e he => by simp at he, by simp, fun k => by simp, by decide, by rfl, List.Pairwise.nil, ?_⟩, rfl⟩
  show _ ∨ (!w.params.followText "set-order") = true
  cases w.params.followText "set-order" <;> simp
/-- set.update walks over texts -/
theorem setS_walk {I : Addr} {fp wr : List Addr} {G : Array GenState → Array GenState → Prop} {m : Nat} {Pv : Nat → Value → Prop} {St : Nat → Shared → Prop} {R : Result → Shared → Prop}
    (W : WalksS P w A.in1 I fp wr G m Pv St) (S : Addr) (out : S ∉ fp) (zs : List Str) (hm : m = zs.length) (few : zs.length + 1 < scanBound) (val : ∀ i v, Pv i v → ∃ z t, zs[i]? = some z ∧ v = .str z t) :
    ∀ (left i : Nat) (s : Shared), m - i = left → i ≤ m → St i s → (∃ c, c ≤ i ∧ SetS w s.heap S (fun j => decide (j ∈ zs.take i)) c) →
      (∀ s' c, Moved (S :: wr) G s s' → c ≤ m → SetS w s'.heap S (fun j => decide (j ∈ zs)) c → R (.ok (.ret .none)) s') → codeAny (model P w) A (.builtin "set.update.loop" ⟨[.ref S, .ref I], []⟩) R s := by
  have out2 : S ∉ wr := fun h => out (W.sub _ h)
  have inn : ∀ b ∈ wr, b ∈ S :: wr := fun b hb => List.mem_cons_of_mem _ hb
  intro left
  induction left with
  | zero =>
    rintro i s el hi st ⟨c, hc, hS⟩ fin
    obtain rfl : i = m := by omega
    refine codeAny_builtin F.entry_set_update_loop ?_
    rw [Around.under_plainId F.plain_set_update_loop _]
    refine wpAny_bind (m := pyNext (.ref I)) (W.done s _ _ st fun s' mv => ?_)
    rw [List.take_of_length_le (by omega)] at hS
    exact wpAny_pure (fin s' c (mv.mono inn) hc (hS.at fun o e => mv.heap S o out2 e))
  | succ left ih =>
    rintro i s el hi st ⟨c, hc, hS⟩ fin
    have lt : i < m := by omega
    refine codeAny_builtin F.entry_set_update_loop ?_
    rw [Around.under_plainId F.plain_set_update_loop _]
    refine wpAny_bind (m := pyNext (.ref I)) (W.item i s _ _ lt st fun v s' pv st' mv => ?_)
    obtain ⟨z, t, hz, rfl⟩ := val i v pv
    show wpAny _ A.in1 (holding [Value.str z t] (setAdd S (.str z t)) >>= _) _ _ s'
    refine wpAny_bind (wpAny_holding ?_)
    unfold setAdd
    refine wpAny_holding (wpAny_bind ((PySem.strKind P w).pyHash (PySem.strKind_is P w z t) ?_))
    refine setS_add (hS.at fun o e => mv.heap S o out2 e) (by omega) fun h' b sb hS2 => ?_
    have hS3 : SetS w h' S (fun j => decide (j ∈ zs.take (i + 1))) (if decide (z ∈ zs.take i) = true then c else c + 1) := hS2.congr fun j => by
      rw [List.take_add_one, hz]
      simp [List.mem_append]
    have oth : ∀ q, q ≠ S → ∀ o, s'.heap.get? q = some o → h'.get? q = some o := fun q hq o e => by rw [sb.2 q hq]; exact e
    refine wpAny_pure ⟨plainId_quiet F.plain_set_update_loop _, ih (i + 1) _ (by omega) lt (W.frame _ s' _ _ st' (Nat.le_add_right _ _) fun q hq o e => oth q (fun h => out (h ▸ hq)) o e) ⟨_, by split <;> omega, hS3⟩ fun s2 c2 mv2 hc2 hS4 => ?_⟩
    exact fin s2 c2 (Moved.trans W.gtrans ((mv.mono inn).then_heap (Nat.le_add_right _ _) fun q o hq e => oth q (fun h => hq (by rw [h]; exact List.mem_cons_self)) o e) mv2) hc2 hS4
end
end Nw
namespace Nw
open PySem L2 PySem.Spec PyProof.Rows RZ
section
variable {P : Program} {w : World} {A : Around} {E : Value → Shared → Prop} {s : Shared} {a : Addr} {S : Str → Bool} {n : Nat}
/-- set(xs) of a list of texts -/
theorem setS_call {l : Addr} {items : Array Value} (zs : List Str) {Q : Value → Shared → Prop} (hh : A.handled = none) (hl : s.heap.IsList l items) (hit : StrsAre items.toList zs) (few : zs.length + 1 < scanBound)
    (h : ∀ (h' : Heap) (tk c : Nat), SetS w h' s.heap.objs.size (fun j => decide (j ∈ zs)) c → c ≤ zs.length → (∀ b o, s.heap.get? b = some o → h'.get? b = some o) → Q (.ref s.heap.objs.size) { s with heap := h', toks := tk }) :
    wpAny (model P w) A (call (.type "set") [.ref l]) Q E s := by
  have isz : items.size = zs.length := by
    have q := StrsAre.len_eq hit
    rwa [Array.length_toList] at q
  obtain ⟨mc, mt, hmro⟩ := PySem.F.called_set.mro
  have hmade := PySem.F.called_set.made
  have hsub := PySem.F.called_set.sub
  refine wpAny_call (codeAny_of_tree ?_)
  show wpAny _ _ (callAny (.type "set") _) _ _ _
  refine wpAny_pure ⟨Code.quiet_builtin _ (by decide +kernel), codeAny_builtin PySem.F.entry_type_call ?_⟩
  rw [Around.under_plain (weight_type_call_type "set" [.ref l] []) rfl]
  have f1 := PySem.F.called_set.notType
  have f2 := PySem.F.called_set.canCreate
  have f3 := PySem.F.typeCall_set_1 (.ref l)
  repeat (any_goals (first | assumption | wp_step))
  refine codeAny_mono (code_set_led1 (.ref l) (E := E) (Q₁ := fun x s₁ => x = .ref s.heap.objs.size ∧ s₁ = { s with heap := s.heap.push (newS w) }) ⟨rfl, rfl⟩) fun r s₁ hr => ?_
  cases r with
  | error e => exact hr
  | ok fl =>
    cases fl with
    | next => exact hr.elim
    | brk => exact hr.elim
    | cont => exact hr.elim
    | ret x =>
      obtain ⟨rfl, rfl⟩ := hr
      have new : (s.heap.push (newS w)).get? s.heap.objs.size = some (newS w) := Heap.get?_push_size _ rfl
      have isS : Shared.TypeIs { s with heap := s.heap.push (newS w) } (.ref s.heap.objs.size) "set" := ⟨_, new, rfl⟩
      have g1 := PySem.F.called_set.init.lookup
      have g2 := PySem.F.called_set.init.bind (.ref s.heap.objs.size)
      repeat (any_goals (first | assumption | wp_step))
      refine codeAny_mono (codeAny_call_builtin (R := wants (fun r s₂ => r = .none ∧ ∃ h' tk c, s₂ = { s with heap := h', toks := tk } ∧ SetS w h' s.heap.objs.size (fun j => decide (j ∈ zs)) c ∧ c ≤ zs.length ∧
          (∀ b o, s.heap.get? b = some o → h'.get? b = some o)) E) PySem.F.called_set.init.plain PySem.F.entry_set_init (check_set_init_1 isS ?_)) fun r₂ s₂ hr₂ => ?_
      · obtain ⟨⟨ocls, odict, odata, oslots⟩, hol, hcl, nl, hdl⟩ := hl
        simp only at hcl hdl
        subst hcl
        subst hdl
        have old : (s.heap.push (newS w)).get? l = some { cls := .type "list", dict := odict, data := .seq items nl, slots := oslots } := Heap.get?_push_of_some _ hol
        have k1 := PySem.F.sub_list_set
        have k2 := PySem.F.sub_list_frozenset
        have k3 : (Value.type "list" == Value.type "dict") = false := by decide
        have isL : (s.heap.push (newS w)).IsList l items := ⟨_, old, rfl, nl, rfl⟩
        unfold Builtin.«set.__init__» noKeywords Builtin.Frozenset.updateFrom
        generalize hPI : pyIter = PI
        wp_walk
        subst hPI
        refine wpAny_pyIter_list isL ?_
        refine wpAny_bind (wpAny_runValue ?_)
        have ls : l < s.heap.objs.size := Heap.lt_size hol
        have h3 : A.in1.in1.in1.handled = none := by simp [hh]
        have neI : l ≠ (s.heap.push (newS w)).objs.size := by
          rw [Heap.size_push]; exact Nat.ne_of_lt (Nat.lt_succ_of_lt ls)
        have outS : s.heap.objs.size ∉ [(s.heap.push (newS w)).objs.size, l] := by
          rw [Heap.size_push]; simp only [List.mem_cons, List.not_mem_nil, or_false, not_or]
          exact ⟨Nat.ne_of_lt (Nat.lt_succ_self _), Nat.ne_of_gt ls⟩
        have val : ∀ (i : Nat) (v : Value), items[i]? = some v → ∃ z t, zs[i]? = some z ∧ v = .str z t := fun i v hv => by
          obtain ⟨z, t, e1, e2⟩ := StrsAre.item hit i v (by rw [Array.getElem?_toList]; exact hv)
          exact ⟨z, t, e2, e1⟩
        refine setS_walk ((Walks.list h3 _ l neI items).toS) s.heap.objs.size outS zs isz few val (items.size - 0) 0 _ (by omega) (Nat.zero_le _) ⟨⟨_, Heap.get?_push_size _ rfl, rfl, rfl⟩, (isL.push _)⟩ ?_ ?_
        · exact ⟨0, Nat.le_refl 0, setS_zero (Heap.get?_push_of_some _ new) zs⟩
        · rintro ⟨h', g4, d', tk', os'⟩ c' mv hc' hS'
          have eg : g4 = s.gens := mv.gens
          have ed : d' = s.drawn := mv.drawn
          have eo : os' = s.os := mv.os
          subst eg ed eo
          show wpAny _ _ _ _ _ _
          refine wpAny_pure ?_
          show wpAny _ _ (ret Value.none) _ _ _
          rw [isz] at hc'
          refine wpAny_pure ⟨rfl, h', tk', c', rfl, hS', hc', fun b o e => ?_⟩
          have b0 : b < s.heap.objs.size := Heap.lt_size e
          refine mv.heap b o (fun hm => ?_) (Heap.get?_push_of_some _ (Heap.get?_push_of_some _ e))
          rcases List.mem_cons.mp hm with q | q
          · exact absurd b0 (by rw [q]; exact Nat.lt_irrefl _)
          · have q := List.mem_singleton.mp q
            rw [q, Heap.size_push] at b0
            exact absurd (Nat.lt_of_succ_lt b0) (Nat.lt_irrefl _)
      · cases r₂ with
        | error e => exact hr₂
        | ok fl₂ =>
          cases fl₂ with
          | next => exact hr₂.elim
          | brk => exact hr₂.elim
          | cont => exact hr₂.elim
          | ret r =>
            obtain ⟨rfl, h', tk, c', rfl, hS', hc', hk'⟩ := hr₂
            repeat (any_goals (first | assumption | wp_step))
            exact h _ _ _ hS' hc' hk'
end
end Nw
namespace Nw
open PySem L2 PySem.Spec PyProof.Rows RZ
section
variable {P : Program} {w : World} {A : Around} {E : Value → Shared → Prop} {s : Shared} {a : Addr} {S : Str → Bool} {n : Nat}
/-- sorted(s) of a set of texts -/
theorem setS_sorted {Q : Value → Shared → Prop} (R : SetS w s.heap a S n) (hh : A.handled = none) (h64 : n < 64)
    (hQ : ∀ s' p (out : Array Value) (c : Nat) (zs : List Str), (∀ b o, s.heap.get? b = some o → s'.heap.get? b = some o) → s'.gens = s.gens → s'.os = s.os → s.heap.objs.size ≤ p →
      s'.heap.get? p = some (seqObj "list" out c) → StrsAre out.toList zs → sortedS zs = true → zs.Nodup → (∀ k, k ∈ zs ↔ S k = true) → zs.length = n → Q (.ref p) s') :
    wpAny (model P w) A (call (.builtin "sorted") [.ref a]) Q E s := by
  obtain ⟨o, es, ep, t, ho, hex, hd, T, hn⟩ := R
  refine Calls.call_function_entry kind_sorted plain_sorted entry_sorted (args_sorted1 _) ?_
  unfold Builtin.«sorted»
  refine wpAny_bind (m := checkCount "sorted" 1 1 _) (wpAny_pure ?_)
  refine wpAny_bind (collect_set (A := A.in1) hh ⟨o, ho, hex.1, hd⟩ T.fits T.few T.ris T.led fun s1 vs k1 hz g1 o1 pm => ?_)
  have lv : vs.length = n := by rw [pm.length_eq, List.length_map, Array.length_toList]; exact hn
  have mk_ : ∀ (us : List Value), (∀ v ∈ us, ∃ e ∈ es.toList, v = e.2) → StrsAre us (us.map fun v => keyS (0, v)) := by
    intro us
    induction us with
    | nil => intro _; exact .nil
    | cons v us ih =>
      intro hu
      obtain ⟨e, he, rfl⟩ := hu v List.mem_cons_self
      obtain ⟨k, tk, q, _⟩ := T.good e he
      have r := ih fun x hx => hu x (List.mem_cons_of_mem _ hx)
      rw [q]
      exact .cons k tk r
  have hI := mk_ vs fun v hv => by
    obtain ⟨e, he, q⟩ := List.mem_map.mp (pm.mem_iff.mp hv)
    exact ⟨e, he, q.symm⟩
  have pk : (vs.map fun v => keyS (0, v)).Perm (es.toList.map keyS) := by
    have q := pm.map fun v => keyS (0, v)
    rw [List.map_map] at q
    exact q
  generalize vs.map (fun v => keyS (0, v)) = ks at hI pk
  refine wpAny_bind (wpAny_newList ?_ (by rw [lv, sizeLine_eq]; omega))
  have hoL : (s1.heap.push (seqObj "list" vs.toArray 0)).get? s1.heap.objs.size = some (seqObj "list" vs.toArray 0) := Heap.get?_push_size _ rfl
  refine wpAny_bind (wpAny_holding (wpAny_call_entry slot_list_sort ⟨_, hoL, rfl⟩ entry_list_sort (list_sort_treeK strKind_oneLt hoL hI.keysOf (fun v₁ v₂ rest e => keyKind_strs (by rw [← e]; exact hI)) (by rw [lv]; exact h64) fun st' hp hs => ⟨_, rfl, ?_⟩) (args_list_sort _)))
  obtain ⟨zs, z1, z2, z3⟩ := sorted_out_str hI hp hs
  obtain ⟨c, hc⟩ := sortedHeap_at (vs := vs) (out := (arrOf st').map (·.2)) hoL
  have pn := z2.trans pk
  refine wpAny_pure ⟨_, rfl, hQ _ s1.heap.objs.size _ c zs (fun b u e => ?_) g1 o1 hz hc z1 z3 (pn.nodup_iff.mpr T.nd) (fun k => by rw [pn.mem_iff, ← T.mem k]) ?_⟩
  · have q := k1 b u e
    have lt := Heap.lt_size q
    show (sortedHeap (s1.heap.push (seqObj "list" vs.toArray 0)) s1.heap.objs.size vs _).get? b = some u
    rw [sortedHeap_old (Nat.ne_of_lt lt) (by rw [size_push']; exact Nat.lt_succ_of_lt lt)]
    exact Heap.get?_push_of_some _ q
  · rw [pn.length_eq, List.length_map, Array.length_toList]; exact hn
end
end Nw
namespace Nw
open PySem L2 PySem.Spec PyProof.Rows RZ
/-- the set of these texts -/
def SetSO (w : World) (a : Addr) (zs : List Str) (n : Nat) : HO := .ext fun h => SetS w h a (fun j => decide (j ∈ zs)) n
theorem setSO_new {w : World} {P : Program} {H : Hp} {h : Heap} {a : Addr} {zs : List Str} {n : Nat} (R : SetS w h a (fun j => decide (j ∈ zs)) n) : ObjOk P w H h a (SetSO w a zs n) := by
  have ⟨o, _, _, _, ho, _⟩ := R
  exact ⟨R, ⟨o, ho⟩, fun h1 h2 p k => SetS.at p k⟩
section
variable {X : Cx}
def rSetOfS (K : PySem.W.Frag) (w : World) : List V → Hp → VK → Prop := fun xs H Q => ∃ (l : Addr) (zs : List Str), xs = [V.ref l] ∧ SqL K H l (zs.map V.str) ∧ zs.length < 60 ∧ ∀ a n, H a = none → n ≤ zs.length → Q (.ref a) (upd H a (SetSO w a zs n))
theorem cr_setOfS (hc : X.calm = true) : CallR X (.type "set") (rSetOfS X.K X.w) := by
  intro pins s σ H xs us Q I r h
  obtain ⟨l, zs, rfl, hl, hf, q⟩ := h
  rw [Vals.ref1 r]
  obtain ⟨its, rv, pl, hz⟩ := I.list hl
  have hn : H s.heap.objs.size = none := I.hok.fresh (Nat.le_refl _)
  refine setS_call (P := X.prog) (w := X.w) zs (I.ok.hd hc) pl.isList (by simpa using rv.strs) (by unfold scanBound; omega) fun h' tk c R hc' k => ?_
  exact ⟨.ref s.heap.objs.size, upd H s.heap.objs.size (SetSO X.w s.heap.objs.size zs c), I.laid (t' := tk) k (Nat.le_refl _) (setSO_new R), rfl, q _ c hn hc'⟩
def rSortedSS (w : World) : List V → Hp → VK → Prop := fun vs H Q => ∃ (a : Addr) (zs : List Str) (n : Nat), vs = [V.ref a] ∧ H a = some (SetSO w a zs n) ∧ n < 64 ∧
  ∀ (ys : List Str) (p : Addr), sortedS ys = true → ys.Nodup → (∀ k, k ∈ ys ↔ k ∈ zs) → ys.length = n → H p = none → Q (.ref p) (upd H p (.lst (ys.map V.str)))
theorem cr_sortedSS (hc : X.calm = true) : CallR X (.builtin "sorted") (rSortedSS X.w) := by
  intro pins s σ H vs us Q I r h
  obtain ⟨a, zs, n, rfl, ha, h64, q⟩ := h
  have R : SetS X.w s.heap a (fun j => decide (j ∈ zs)) n := (I.hok a _ ha).1
  rw [Vals.ref1 r]
  refine setS_sorted R (I.ok.hd hc) h64 fun s' p out c ys k g o hp hg hi hs nd hm hl => ?_
  have hlen : (ys.map V.str).length ≤ sizeLine := by rw [List.length_map, hl, sizeLine_eq]; omega
  have hn : H p = none := I.hok.fresh hp
  have J : Inv X pins σ (upd H p (.lst (ys.map V.str))) { s with heap := s'.heap, gens := s'.gens, drawn := s'.drawn, toks := s'.toks } :=
    I.call (ch := []) (Un.laid k hp hn) (I.hok.laid k hp ⟨hlen, out.toList, c, vals_of_strs hi, hg⟩) (by rw [g]; exact I.bare) (fun _ z => nomatch z)
  have e : s' = { s with heap := s'.heap, gens := s'.gens, drawn := s'.drawn, toks := s'.toks } := by
    cases s'
    cases s
    cases o
    rfl
  rw [e]
  refine ⟨.ref p, _, J, rfl, q ys p hs nd (fun z => ?_) hl hn⟩
  rw [hm z, decide_eq_true_eq]
end
end Nw
/-! A tuple made of a list, of which it is known that it has no dict: so its methods may be called. -/
namespace Nw
open PySem L2 PySem.Spec PyProof.Rows RZ
theorem call_tupleF {X : Cx} : CallR X (.type "tuple") (fun xs H Q => ∃ (p : Addr) (ys : List V), xs = [.ref p] ∧ SqL X.K H p ys ∧ ∀ (l : Addr) (o : Obj), H l = none → o.dict = none → Q (.ref l) (upd H l (.frz o (.tup ys)))) := by
  intro pins s σ H xs us Q I r h
  obtain ⟨p, ys, rfl, hq, q⟩ := h
  obtain ⟨u, rfl, rx⟩ := vals1 r
  cases rx
  obtain ⟨its, r', pl, hz⟩ := I.list hq
  have hlen := r'.length
  refine call_tuple_list pl.isList ?_ (by simp only [List.size_toArray] <;> omega)
  intro h' kp
  have J := I.kept (t' := s.toks) kp
  have fresh : H h'.objs.size = none := J.hok.fresh (Nat.le_refl _)
  let ob : Obj := { cls := .type "tuple", data := .seq its.toArray }
  have there : (h'.push ob).get? h'.objs.size = some ob := Heap.get?_push_size _ rfl
  have J2 := J.laid (t' := s.toks) (h' := h'.push ob) (o := .frz ob (.tup ys)) (fun b o e => Heap.get?_push_of_some _ e) (Nat.le_refl _) ⟨there, hz, its, r', IsTup.new _ _⟩
  exact ⟨.ref h'.objs.size, _, J2, rfl, q _ ob fresh rfl⟩
/-- t.index(x), t such a tuple of texts -/
def tTix (td ty : TE) : TE := fun σ H Q => td σ H fun x H1 => ∃ (a : Addr) (o : Obj) (ys : List Str), x = .ref a ∧ H1 a = some (.frz o (.tup (ys.map V.str))) ∧ o.dict = none ∧
  ty σ H1 fun y H2 => ∃ (z : Str) (j : Nat), y = .str z ∧ H2 a = some (.frz o (.tup (ys.map V.str))) ∧ ys[j]? = some z ∧ (∀ m, m < j → ys[m]? ≠ some z) ∧ Q (.int (j : Nat)) H2
theorem pe_tix {X : Cx} {o e : Expr} {apos cpos : Pos} {td ty : TE} (ho : PE X o td) (he : PE X e ty) (m : M1 X o "index" apos e cpos) : PE X (.Call (.Attribute o "index" apos) [e] [] cpos) (tTix td ty) := by
  constructor
  intro pins s σ H Q I h
  apply wpAny_Call_method m.base m.few m.line PySem.F.plainAttrs_tuple PySem.F.slot_tuple_index PySem.F.type_tuple_index
  refine thn (ho.run pins s σ H _ I h) ?_
  rintro u s1 ⟨x, H1, I1, rx, a, ob, ys, rfl, ha, hd, q1⟩
  obtain rfl : u = Value.ref a := rx
  obtain ⟨g1, _, its, _, tup⟩ := (show ObjOk X.prog X.w H1 s1.heap a (.frz ob (.tup (ys.map V.str))) from I1.hok a _ ha)
  have hT : s1.TypeIs (.ref a) "tuple" := by
    obtain ⟨o', ho', hc, _⟩ := tup
    exact ⟨o', ho', hc⟩
  refine ⟨hT, ?_, ?_⟩
  · rintro b ⟨⟩
    exact ⟨ob, g1, hd⟩
  rw [m.trees]
  apply Calls.callWith_builtin rfl
  apply Calls.evalArgs_plain
  apply Calls.spliced_cons
  refine thn (he.run pins s1 σ H1 _ I1 q1) ?_
  rintro iv s2 ⟨y, H2, I2, ry, z, j, rfl, ha2, hj, hf, q2⟩
  apply Calls.spliced_nil
  exact mt_tup_index pins s2 σ H2 (.ref a) [.str z] (.ref a) [iv] Q I2 rfl (.cons ry .nil) ⟨a, ys, z, j, rfl, rfl, .inl (.inr ⟨ob, ha2⟩), hj, hf, q2⟩
end Nw
namespace Nw
open PySem L2 PySem.Spec PyProof.Rows
/-- the number whose bits below n are told by p -/
def bP : Nat → (Nat → Bool) → Nat
  | 0, _ => 0
  | n + 1, p => (if p n = true then 2 ^ n else 0) + bP n p
theorem bP_lt : ∀ (n : Nat) (p : Nat → Bool), bP n p < 2 ^ n
  | 0, _ => by show 0 < 1; decide
  | n + 1, p => by
    have ih := bP_lt n p
    show (if p n = true then 2 ^ n else 0) + bP n p < 2 ^ (n + 1)
    rw [Nat.pow_succ]
    split <;> omega
theorem bP_bit : ∀ (n : Nat) (p : Nat → Bool) (i : Nat), (bP n p).testBit i = (decide (i < n) && p i)
  | 0, p, i => by show (0 : Nat).testBit i = _; simp
  | n + 1, p, i => by
    have ih := bP_bit n p i
    have lt := bP_lt n p
    show ((if p n = true then 2 ^ n else 0) + bP n p).testBit i = _
    by_cases c : p n = true
    · rw [if_pos c]
      rcases Nat.lt_trichotomy i n with h | h | h
      · rw [Nat.testBit_two_pow_add_gt h, ih, decide_eq_true h, decide_eq_true (by omega : i < n + 1)]
      · subst h
        rw [Nat.testBit_two_pow_add_eq, Nat.testBit_lt_two_pow lt, decide_eq_true (by omega : i < i + 1), c]; rfl
      · have l2 : 2 ^ n + bP n p < 2 ^ i := by
          have : 2 ^ (n + 1) ≤ 2 ^ i := Nat.pow_le_pow_right (by decide) h
          rw [Nat.pow_succ] at this
          omega
        rw [Nat.testBit_lt_two_pow l2, decide_eq_false (by omega : ¬ i < n + 1)]; rfl
    · rw [if_neg c, Nat.zero_add, ih]
      rcases Nat.lt_trichotomy i n with h | h | h
      · rw [decide_eq_true h, decide_eq_true (by omega : i < n + 1)]
      · subst h
        have c' : p i = false := by simpa using c
        rw [c', Bool.and_false, Bool.and_false]
      · rw [decide_eq_false (by omega : ¬ i < n), decide_eq_false (by omega : ¬ i < n + 1)]
theorem bP_ext {n : Nat} {p q : Nat → Bool} (h : ∀ i, i < n → p i = q i) : bP n p = bP n q := by
  refine Nat.eq_of_testBit_eq fun i => ?_
  rw [bP_bit, bP_bit]
  by_cases c : i < n
  · rw [h i c]
  · rw [decide_eq_false c]; rfl
theorem bP_and (n : Nat) (p q : Nat → Bool) : Builtin.bitAnd (bP n p : Int) (bP n q : Int) = (bP n (fun i => p i && q i) : Nat) := by
  rw [PySem.W.os_band]
  congr 1
  refine Nat.eq_of_testBit_eq fun i => ?_
  rw [Nat.testBit_and, bP_bit, bP_bit, bP_bit]
  cases decide (i < n) <;> cases p i <;> cases q i <;> rfl
theorem bor_nat (a b : Nat) : Builtin.bitOr (a : Int) (b : Int) = ((a ||| b : Nat) : Int) := by
  rw [Bits.bitOr_pp (Int.natCast_nonneg a) (Int.natCast_nonneg b), Int.toNat_natCast, Int.toNat_natCast]
theorem bxor_nat (a b : Nat) : Builtin.bitXor (a : Int) (b : Int) = ((a ^^^ b : Nat) : Int) := by
  rw [Bits.bitXor_pp (Int.natCast_nonneg a) (Int.natCast_nonneg b), Int.toNat_natCast, Int.toNat_natCast]
theorem bP_or (n : Nat) (p q : Nat → Bool) : Builtin.bitOr (bP n p : Int) (bP n q : Int) = (bP n (fun i => p i || q i) : Nat) := by
  rw [bor_nat]
  congr 1
  refine Nat.eq_of_testBit_eq fun i => ?_
  rw [Nat.testBit_or, bP_bit, bP_bit, bP_bit]
  cases decide (i < n) <;> cases p i <;> cases q i <;> rfl
theorem bP_all (n : Nat) : ((bP n fun _ => true : Nat) : Int) = 2 ^ n - 1 := by
  induction n with
  | zero => rfl
  | succ n ih =>
    show (((if (true : Bool) = true then 2 ^ n else 0) + bP n (fun _ => true) : Nat) : Int) = _
    rw [if_pos rfl, Int.natCast_add, ih, Int.pow_succ]
    have : ((2 ^ n : Nat) : Int) = 2 ^ n := by simp
    omega
theorem bP_none (n : Nat) : bP n (fun _ => false) = 0 := by
  induction n with
  | zero => rfl
  | succ n ih => show (if (false : Bool) = true then 2 ^ n else 0) + bP n (fun _ => false) = 0; rw [ih]; rfl
theorem bP_not (n : Nat) (p : Nat → Bool) : Builtin.bitXor (2 ^ n - 1) (bP n p : Int) = (bP n (fun i => !p i) : Nat) := by
  rw [← bP_all, bxor_nat]
  congr 1
  refine Nat.eq_of_testBit_eq fun i => ?_
  rw [Nat.testBit_xor, bP_bit, bP_bit, bP_bit]
  cases decide (i < n) <;> cases p i <;> rfl
/-- the bit of a row -/
theorem bP_ask {n i : Nat} (p : Nat → Bool) (h : i < n) : decide (Builtin.bitAnd ((bP n p : Int) / 2 ^ i) 1 = 1) = p i := by
  have e : ((bP n p : Int) / 2 ^ i) = ((bP n p / 2 ^ i : Nat) : Int) := by
    rw [Int.natCast_ediv, Int.natCast_pow]; rfl
  rw [e, show (1 : Int) = ((1 : Nat) : Int) from rfl, PySem.W.os_band]
  have b := bP_bit n p i
  rw [decide_eq_true h, Bool.true_and] at b
  rw [← b, Nat.testBit_eq_decide_div_mod_eq, Nat.and_one_is_mod]
  congr 1
  exact propext ⟨fun q => by exact_mod_cast q, fun q => by exact_mod_cast q⟩
end Nw
/-! Tables: the data, what each def promises. -/
namespace Nw
open PySem L2 PySem.Spec PyProof.Rows RZ
theorem DA.bools {G : Hp} : ∀ {ns : List Bool} {vs : List V}, DA G vs (ns.map .bool) → vs = ns.map V.bl
  | [], _, .nil => rfl
  | n :: ns, _, .cons h a => by
    cases h
    rw [DA.bools a] <;> rfl
theorem inV_strs (z : Str) : ∀ l : List Str, inV (.str z) (l.map V.str) = decide (z ∈ l)
  | [] => rfl
  | a :: l => by
    show (eqV (.str a) (.str z) || inV (.str z) (l.map V.str)) = _
    rw [inV_strs z l]
    have e : eqV (.str a) (.str z) = decide (z = a) := by
      show decide (_ = _) = _
      by_cases h : z = a
      · subst h; simp
      · rw [decide_eq_false h]; simp; exact fun q => h q.symm
    rw [e]
    by_cases h : z = a
    · subst h; simp
    · simp [h]
/-- what is plain: a flat thing, a list, a tuple -/
def plain0 (H : Hp) : V → Prop
  | .non => True
  | .bl _ => True
  | .int _ => True
  | .str _ => True
  | .ref a => (∃ xs, H a = some (.lst xs)) ∨ (∃ xs, H a = some (.tup xs))
  | _ => False
theorem D.plain {G H : Hp} (s : Same G H) {v : V} {d : PyData} (h : D G v d) : plain0 H v := by
  cases h with
  | non => trivial
  | bl b => trivial
  | int i => trivial
  | str x => trivial
  | lst h a => exact .inl ⟨_, s _ _ h⟩
  | tup h a => exact .inr ⟨_, s _ _ h⟩
theorem plain0.mono {H H' : Hp} (s : Same H H') {v : V} (h : plain0 H v) : plain0 H' v := by
  cases v with
  | ref a =>
    rcases h with ⟨xs, h⟩ | ⟨xs, h⟩
    · exact .inl ⟨_, s _ _ h⟩
    · exact .inr ⟨_, s _ _ h⟩
  | _ => exact h
theorem plain0.v {K : PySem.W.Frag} {C : Addr} {H : Hp} {v : V} (h : plain0 H v) : plainV K C H v := by
  cases v with
  | ref a => exact h.elim (fun h => .inl h) fun h => .inr (.inl h)
  | _ => exact h
def LET : Str := "abcdefghijklmnopqrstuvwxyz"
def letter (c : Nat) : Bool := decide (c ∈ LET.cps.toList)
def isWordS (s : Str) : Bool := decide (1 ≤ s.length) && decide (s.length ≤ 8) && s.cps.toList.all letter
def isWord : V → Bool
  | .str s => isWordS s
  | _ => false
def isInt : V → Bool
  | .int _ => true
  | _ => false
def RES : List Str := ["and", "or", "not", "true", "false", "name", "where", "nothing", "change"]
def isCol : PyData → Bool
  | .tuple [.str n, .int t] => isWordS n && !decide (n ∈ RES) && decide (1 ≤ t) && decide (t ≤ 3)
  | _ => false
def spWord : Sp := fun vs H Q _ => ∃ (v : V) (G : Hp), vs = [v] ∧ plain0 H v ∧ Same G H ∧ (∀ z, v = .str z → z.length ≤ 10000) ∧ ∀ H', Xt none H G H' G → Q (.bl (isWord v)) H'
def spIsInt : Sp := fun vs H Q _ => ∃ v : V, vs = [v] ∧ plain0 H v ∧ Q (.bl (isInt v)) H
def tupLen : PyData → Int → Bool
  | .tuple ds, n => decide (((ds.length : Nat) : Int) = n)
  | _, _ => false
def spTupOf : Sp := fun vs H Q _ => ∃ (v : V) (n : Int) (d : PyData) (G : Hp), vs = [v, .int n] ∧ D G v d ∧ Same G H ∧ Q (.bl (tupLen d n)) H
def shortD : PyData → Prop
  | .tuple [.str n, _] => n.length ≤ 10000
  | _ => True
def spCol : Sp := fun vs H Q _ => ∃ (v : V) (d : PyData) (G : Hp), vs = [v] ∧ D G v d ∧ shortD d ∧ Same G H ∧ ∀ H', Xt none H G H' G → Q (.bl (isCol d)) H'

abbrev Col := Str × Int
def dCol (c : Col) : PyData := .tuple [.str c.1, .int c.2]
def dCols (cols : List Col) : List PyData := cols.map dCol
def n10 : List Str := ["a", "b", "x", "put", "mark", "total", "look", "zz", "end", "table"]
def n11 : List Str := "other" :: n10
/-- columns with names of a list of words -/
structure Good (N : List Str) (cols : List Col) : Prop where
  len : 1 ≤ cols.length ∧ cols.length ≤ 3
  names : ∀ c ∈ cols, c.1 ∈ N
  tops : ∀ c ∈ cols, 1 ≤ c.2 ∧ c.2 ≤ 3
  nd : (cols.map (·.1)).Nodup
theorem n11_word : ∀ n ∈ n11, isWordS n = true ∧ n ∉ RES ∧ n.length ≤ 10000 := by decide +kernel
theorem n10_n11 : ∀ n ∈ n10, n ∈ n11 := fun n h => List.mem_cons_of_mem _ h
/-- _law_columns -/
def spColumns : Sp := fun vs H Q _ => ∃ (b : Addr) (c : Int) (G : Hp), vs = [.ref b] ∧ Bag H b c ∧ c ≤ 100000 ∧ G b = none ∧ Same G H ∧
  ∀ (p : Addr) (cols : List Col) (xs : List V) (H' G' : Hp), Xt (some b) H G H' G' → Bag H' b (c + 10) → Good n10 cols → G' p = some (.lst xs) → DA G' xs (dCols cols) → Q (.ref p) H'

/-- all values, ascending -/
def stepV (found : List (List Int)) (top : Int) : List (List Int) := (found.map fun row => (List.range (top + 1).toNat).map fun v => row ++ [((v : Nat) : Int)]).flatten
def allV (tops : List Int) : List (List Int) := tops.foldl stepV [[]]
def dRow (r : List Int) : PyData := .tuple (r.map .int)
def dRows (rs : List (List Int)) : List PyData := rs.map dRow
/-- a new list, own, of these data -/
def OwnL (H G : Hp) (ds : List PyData) (Q : VK) : Prop := ∀ (p : Addr) (xs : List V) (H' G' : Hp), Xt none H G H' G' → H p = none → H' p = some (.lst xs) → G' p = none → DA G' xs ds → Q (.ref p) H'
def spValues : Sp := fun vs H Q _ => ∃ (a : Addr) (xs : List V) (cols : List Col) (G : Hp), vs = [.ref a] ∧ G a = some (.lst xs) ∧ DA G xs (dCols cols) ∧ Good n10 cols ∧ Same G H ∧ OwnL H G (dRows (allV (cols.map (·.2)))) Q
/-- a table's fields -/
def tf (cx tx : Addr) : List (Str × V) := [("columns", .ref cx), ("tops", .ref tx)]
theorem ct_ : (("tops" : Str) == ("columns" : Str)) = false := by decide +kernel
theorem tf_c (cx tx : Addr) : (tf cx tx).lookup ("columns" : Str) = some (.ref cx) := by
  simp [tf, List.lookup]
theorem tf_t (cx tx : Addr) : (tf cx tx).lookup ("tops" : Str) = some (.ref tx) := by
  simp [tf, List.lookup, ct_]
theorem tf_put (cx tx : Addr) : putF "tops" (.ref tx) (putF "columns" (.ref cx) []) = tf cx tx := by
  show (if ("columns" : Str) = "tops" then [(("columns" : Str), V.ref tx)] else (("columns" : Str), V.ref cx) :: putF "tops" (V.ref tx) []) = tf cx tx
  rw [if_neg (by decide +kernel)]
  rfl
theorem tf_no (cx tx : Addr) {m : Str} (h1 : m ≠ "columns") (h2 : m ≠ "tops") : (tf cx tx).lookup m = none := by
  unfold tf
  rw [List.lookup_cons, List.lookup_cons]
  have e1 : (m == ("columns" : Str)) = false := by simpa using h1
  have e2 : (m == ("tops" : Str)) = false := by simpa using h2
  rw [e1, e2]
  rfl
/-- a table, stable -/
def TabAt (C : Addr) (G : Hp) (x : Addr) (cols : List Col) : Prop := ∃ dx cx tx : Addr, G x = some (.ins C dx (tf cx tx)) ∧ G dx = some (.own x) ∧ G cx = some (.tup (cols.map fun c => .str c.1)) ∧ G tx = some (.tup (cols.map fun c => .int c.2))
theorem TabAt.mono {C : Addr} {G G' : Hp} {x : Addr} {cols : List Col} (s : Same G G') (h : TabAt C G x cols) : TabAt C G' x cols := by
  obtain ⟨dx, cx, tx, h1, h2, h3, h4⟩ := h
  exact ⟨dx, cx, tx, s _ _ h1, s _ _ h2, s _ _ h3, s _ _ h4⟩
/-- Table.__init__ of good columns -/
def spInit (C : Addr) : Sp := fun vs H Q _ => ∃ (x dx a : Addr) (xs : List V) (cols : List Col) (H0 G : Hp), vs = [.ref x, .ref a] ∧ H0 x = none ∧ H0 dx = none ∧ dx ≠ x ∧ H = upd (upd H0 dx (.own x)) x (.ins C dx []) ∧
  H0 a = some (.lst xs) ∧ DA G xs (dCols cols) ∧ Good n11 cols ∧ Same G H0 ∧ ∀ H' G', Xt none H0 G H' G' → TabAt C G' x cols → Q .non H'
end Nw
namespace Nw
open PySem L2 PySem.Spec PyProof.Rows RZ
def top (i : Nat) : Stmt := PySem.Challenge.pw_newestrow_k04_conditions_refused.main.body.getD i (.Pass ⟨0, 0, 0, 0⟩)
abbrev s_copied : Stmt := top 1
abbrev N_copied : List Str := ["field", "part", "key"]
abbrev P_copied : List Str := ["field"]
theorem sc_copied : FnScope N_copied P_copied (C8.fnScope s_copied) := C8.fnScope_by (by decide +kernel)
abbrev s_BadTable____init__ : Stmt := inClass (top 3) 0
abbrev N_BadTable____init__ : List Str := ["self", "at"]
abbrev P_BadTable____init__ : List Str := ["self", "at"]
theorem sc_BadTable____init__ : FnScope N_BadTable____init__ P_BadTable____init__ (C8.fnScope s_BadTable____init__) := C8.fnScope_by (by decide +kernel)
abbrev s_BadCondition____init__ : Stmt := inClass (top 4) 0
abbrev N_BadCondition____init__ : List Str := ["self", "at"]
abbrev P_BadCondition____init__ : List Str := ["self", "at"]
theorem sc_BadCondition____init__ : FnScope N_BadCondition____init__ P_BadCondition____init__ (C8.fnScope s_BadCondition____init__) := C8.fnScope_by (by decide +kernel)
abbrev s_BadStatement____init__ : Stmt := inClass (top 5) 0
abbrev N_BadStatement____init__ : List Str := ["self", "at"]
abbrev P_BadStatement____init__ : List Str := ["self", "at"]
theorem sc_BadStatement____init__ : FnScope N_BadStatement____init__ P_BadStatement____init__ (C8.fnScope s_BadStatement____init__) := C8.fnScope_by (by decide +kernel)
abbrev s_WrongToken____init__ : Stmt := inClass (top 10) 0
abbrev N_WrongToken____init__ : List Str := ["self", "at"]
abbrev P_WrongToken____init__ : List Str := ["self", "at"]
theorem sc_WrongToken____init__ : FnScope N_WrongToken____init__ P_WrongToken____init__ (C8.fnScope s_WrongToken____init__) := C8.fnScope_by (by decide +kernel)
abbrev s_is_word : Stmt := top 11
abbrev N_is_word : List Str := ["thing", "letter"]
abbrev P_is_word : List Str := ["thing"]
theorem sc_is_word : FnScope N_is_word P_is_word (C8.fnScope s_is_word) := C8.fnScope_by (by decide +kernel)
abbrev s_is_number : Stmt := top 12
abbrev N_is_number : List Str := ["token", "digit"]
abbrev P_is_number : List Str := ["token"]
theorem sc_is_number : FnScope N_is_number P_is_number (C8.fnScope s_is_number) := C8.fnScope_by (by decide +kernel)
abbrev s_split_tokens : Stmt := top 13
abbrev N_split_tokens : List Str := ["text", "tokens", "at", "end"]
abbrev P_split_tokens : List Str := ["text"]
theorem sc_split_tokens : FnScope N_split_tokens P_split_tokens (C8.fnScope s_split_tokens) := C8.fnScope_by (by decide +kernel)
abbrev s_token_end : Stmt := top 14
abbrev N_token_end : List Str := ["text", "at", "alphabet"]
abbrev P_token_end : List Str := ["text", "at"]
theorem sc_token_end : FnScope N_token_end P_token_end (C8.fnScope s_token_end) := C8.fnScope_by (by decide +kernel)
abbrev s_stretch_end : Stmt := top 15
abbrev N_stretch_end : List Str := ["text", "at", "alphabet", "end"]
abbrev P_stretch_end : List Str := ["text", "at", "alphabet"]
theorem sc_stretch_end : FnScope N_stretch_end P_stretch_end (C8.fnScope s_stretch_end) := C8.fnScope_by (by decide +kernel)
abbrev s_joined_tokens : Stmt := top 16
abbrev N_joined_tokens : List Str := ["tokens", "token", "_"]
abbrev P_joined_tokens : List Str := ["tokens"]
theorem sc_joined_tokens : FnScope N_joined_tokens P_joined_tokens (C8.fnScope s_joined_tokens) := C8.fnScope_by (by decide +kernel)
abbrev s_read_sum : Stmt := top 17
abbrev N_read_sum : List Str := ["tokens", "at", "columns", "terms", "end", "factor"]
abbrev P_read_sum : List Str := ["tokens", "at", "columns"]
theorem sc_read_sum : FnScope N_read_sum P_read_sum (C8.fnScope s_read_sum) := C8.fnScope_by (by decide +kernel)
abbrev s_read_term : Stmt := top 18
abbrev N_read_term : List Str := ["token", "factor", "columns", "word", "place"]
abbrev P_read_term : List Str := ["token", "factor", "columns"]
theorem sc_read_term : FnScope N_read_term P_read_term (C8.fnScope s_read_term) := C8.fnScope_by (by decide +kernel)
abbrev s_sum_value : Stmt := top 19
abbrev N_sum_value : List Str := ["terms", "values", "factor", "index"]
abbrev P_sum_value : List Str := ["terms", "values"]
theorem sc_sum_value : FnScope N_sum_value P_sum_value (C8.fnScope s_sum_value) := C8.fnScope_by (by decide +kernel)
abbrev s_bits_for : Stmt := top 22
abbrev N_bits_for : List Str := ["meaning", "name"]
abbrev P_bits_for : List Str := ["meaning", "name"]
theorem sc_bits_for : FnScope N_bits_for P_bits_for (C8.fnScope s_bits_for) := C8.fnScope_by (by decide +kernel)
abbrev s_every_bit : Stmt := top 23
abbrev N_every_bit : List Str := ["table"]
abbrev P_every_bit : List Str := ["table"]
theorem sc_every_bit : FnScope N_every_bit P_every_bit (C8.fnScope s_every_bit) := C8.fnScope_by (by decide +kernel)
abbrev s_both : Stmt := top 24
abbrev N_both : List Str := ["one", "other", "name"]
abbrev P_both : List Str := ["one", "other"]
theorem sc_both : FnScope N_both P_both (C8.fnScope s_both) := C8.fnScope_by (by decide +kernel)
abbrev s_either : Stmt := top 25
abbrev N_either : List Str := ["one", "other", "name"]
abbrev P_either : List Str := ["one", "other"]
theorem sc_either : FnScope N_either P_either (C8.fnScope s_either) := C8.fnScope_by (by decide +kernel)
abbrev s_opposite : Stmt := top 26
abbrev N_opposite : List Str := ["meaning", "every", "name", "bits"]
abbrev P_opposite : List Str := ["meaning", "every"]
theorem sc_opposite : FnScope N_opposite P_opposite (C8.fnScope s_opposite) := C8.fnScope_by (by decide +kernel)
abbrev s_compares : Stmt := top 27
abbrev N_compares : List Str := ["one", "sign", "other"]
abbrev P_compares : List Str := ["one", "sign", "other"]
theorem sc_compares : FnScope N_compares P_compares (C8.fnScope s_compares) := C8.fnScope_by (by decide +kernel)
abbrev s_read_comparison : Stmt := top 28
abbrev N_read_comparison : List Str := ["tokens", "at", "table", "left", "sign_at", "sign", "place", "right", "end", "bits", "bit", "values"]
abbrev P_read_comparison : List Str := ["tokens", "at", "table"]
theorem sc_read_comparison : FnScope N_read_comparison P_read_comparison (C8.fnScope s_read_comparison) := C8.fnScope_by (by decide +kernel)
abbrev s_read_name : Stmt := top 29
abbrev N_read_name : List Str := ["tokens", "at", "every", "sign", "place", "name"]
abbrev P_read_name : List Str := ["tokens", "at", "every"]
theorem sc_read_name : FnScope N_read_name P_read_name (C8.fnScope s_read_name) := C8.fnScope_by (by decide +kernel)
abbrev s_read_plain : Stmt := top 30
abbrev N_read_plain : List Str := ["tokens", "at", "table", "every", "word"]
abbrev P_read_plain : List Str := ["tokens", "at", "table", "every"]
theorem sc_read_plain : FnScope N_read_plain P_read_plain (C8.fnScope s_read_plain) := C8.fnScope_by (by decide +kernel)
abbrev s_with_atom : Stmt := top 31
abbrev N_with_atom : List Str := ["level", "meaning", "every", "parts", "atoms", "negated"]
abbrev P_with_atom : List Str := ["level", "meaning", "every"]
theorem sc_with_atom : FnScope N_with_atom P_with_atom (C8.fnScope s_with_atom) := C8.fnScope_by (by decide +kernel)
abbrev s_whole_level : Stmt := top 32
abbrev N_whole_level : List Str := ["level", "parts", "atoms", "_"]
abbrev P_whole_level : List Str := ["level"]
theorem sc_whole_level : FnScope N_whole_level P_whole_level (C8.fnScope s_whole_level) := C8.fnScope_by (by decide +kernel)
abbrev s_read_condition : Stmt := top 33
abbrev N_read_condition : List Str := ["tokens", "table", "every", "empty", "outer", "level", "at", "meaning", "word", "place"]
abbrev P_read_condition : List Str := ["tokens", "table"]
theorem sc_read_condition : FnScope N_read_condition P_read_condition (C8.fnScope s_read_condition) := C8.fnScope_by (by decide +kernel)
abbrev s_put_together : Stmt := top 34
abbrev N_put_together : List Str := ["text", "table", "meaning", "made"]
abbrev P_put_together : List Str := ["text", "table", "meaning"]
theorem sc_put_together : FnScope N_put_together P_put_together (C8.fnScope s_put_together) := C8.fnScope_by (by decide +kernel)
abbrev s_Condition____init__ : Stmt := inClass (top 35) 0
abbrev N_Condition____init__ : List Str := ["self", "text", "table", "tokens", "wrong", "bit", "values"]
abbrev P_Condition____init__ : List Str := ["self", "text", "table"]
theorem sc_Condition____init__ : FnScope N_Condition____init__ P_Condition____init__ (C8.fnScope s_Condition____init__) := C8.fnScope_by (by decide +kernel)
abbrev s_Condition____call__ : Stmt := inClass (top 35) 1
abbrev N_Condition____call__ : List Str := ["self", "values", "name"]
abbrev P_Condition____call__ : List Str := ["self", "values", "name"]
theorem sc_Condition____call__ : FnScope N_Condition____call__ P_Condition____call__ (C8.fnScope s_Condition____call__) := C8.fnScope_by (by decide +kernel)
abbrev s_Condition__names : Stmt := inClass (top 35) 2
abbrev N_Condition__names : List Str := ["self", "name"]
abbrev P_Condition__names : List Str := ["self"]
theorem sc_Condition__names : FnScope N_Condition__names P_Condition__names (C8.fnScope s_Condition__names) := C8.fnScope_by (by decide +kernel)
abbrev s_Condition____eq__ : Stmt := inClass (top 35) 3
abbrev N_Condition____eq__ : List Str := ["self", "other", "names", "name"]
abbrev P_Condition____eq__ : List Str := ["self", "other"]
theorem sc_Condition____eq__ : FnScope N_Condition____eq__ P_Condition____eq__ (C8.fnScope s_Condition____eq__) := C8.fnScope_by (by decide +kernel)
abbrev s_Condition____and__ : Stmt := inClass (top 35) 4
abbrev N_Condition____and__ : List Str := ["self", "other"]
abbrev P_Condition____and__ : List Str := ["self", "other"]
theorem sc_Condition____and__ : FnScope N_Condition____and__ P_Condition____and__ (C8.fnScope s_Condition____and__) := C8.fnScope_by (by decide +kernel)
abbrev s_Condition____or__ : Stmt := inClass (top 35) 5
abbrev N_Condition____or__ : List Str := ["self", "other"]
abbrev P_Condition____or__ : List Str := ["self", "other"]
theorem sc_Condition____or__ : FnScope N_Condition____or__ P_Condition____or__ (C8.fnScope s_Condition____or__) := C8.fnScope_by (by decide +kernel)
abbrev s_Condition____invert__ : Stmt := inClass (top 35) 6
abbrev N_Condition____invert__ : List Str := ["self"]
abbrev P_Condition____invert__ : List Str := ["self"]
theorem sc_Condition____invert__ : FnScope N_Condition____invert__ P_Condition____invert__ (C8.fnScope s_Condition____invert__) := C8.fnScope_by (by decide +kernel)
abbrev s_Condition____str__ : Stmt := inClass (top 35) 7
abbrev N_Condition____str__ : List Str := ["self"]
abbrev P_Condition____str__ : List Str := ["self"]
theorem sc_Condition____str__ : FnScope N_Condition____str__ P_Condition____str__ (C8.fnScope s_Condition____str__) := C8.fnScope_by (by decide +kernel)
abbrev s_Condition____repr__ : Stmt := inClass (top 35) 8
abbrev N_Condition____repr__ : List Str := ["self"]
abbrev P_Condition____repr__ : List Str := ["self"]
theorem sc_Condition____repr__ : FnScope N_Condition____repr__ P_Condition____repr__ (C8.fnScope s_Condition____repr__) := C8.fnScope_by (by decide +kernel)
abbrev s_is_integer : Stmt := top 37
abbrev N_is_integer : List Str := ["thing"]
abbrev P_is_integer : List Str := ["thing"]
theorem sc_is_integer : FnScope N_is_integer P_is_integer (C8.fnScope s_is_integer) := C8.fnScope_by (by decide +kernel)
abbrev s_is_tuple_of : Stmt := top 38
abbrev N_is_tuple_of : List Str := ["thing", "many"]
abbrev P_is_tuple_of : List Str := ["thing", "many"]
theorem sc_is_tuple_of : FnScope N_is_tuple_of P_is_tuple_of (C8.fnScope s_is_tuple_of) := C8.fnScope_by (by decide +kernel)
abbrev s_is_column : Stmt := top 41
abbrev N_is_column : List Str := ["thing", "name", "top"]
abbrev P_is_column : List Str := ["thing"]
theorem sc_is_column : FnScope N_is_column P_is_column (C8.fnScope s_is_column) := C8.fnScope_by (by decide +kernel)
abbrev s_Table____init__ : Stmt := inClass (top 42) 0
abbrev N_Table____init__ : List Str := ["self", "columns", "names", "at", "column", "_", "top"]
abbrev P_Table____init__ : List Str := ["self", "columns"]
theorem sc_Table____init__ : FnScope N_Table____init__ P_Table____init__ (C8.fnScope s_Table____init__) := C8.fnScope_by (by decide +kernel)
abbrev s_Table__all_values : Stmt := inClass (top 42) 1
abbrev N_Table__all_values : List Str := ["self", "found", "top", "values", "value"]
abbrev P_Table__all_values : List Str := ["self"]
theorem sc_Table__all_values : FnScope N_Table__all_values P_Table__all_values (C8.fnScope s_Table__all_values) := C8.fnScope_by (by decide +kernel)
abbrev s_Table____len__ : Stmt := inClass (top 42) 2
abbrev N_Table____len__ : List Str := ["self"]
abbrev P_Table____len__ : List Str := ["self"]
theorem sc_Table____len__ : FnScope N_Table____len__ P_Table____len__ (C8.fnScope s_Table____len__) := C8.fnScope_by (by decide +kernel)
abbrev s_Table____contains__ : Stmt := inClass (top 42) 3
abbrev N_Table____contains__ : List Str := ["self", "thing", "value", "top"]
abbrev P_Table____contains__ : List Str := ["self", "thing"]
theorem sc_Table____contains__ : FnScope N_Table____contains__ P_Table____contains__ (C8.fnScope s_Table____contains__) := C8.fnScope_by (by decide +kernel)
abbrev s_Table____eq__ : Stmt := inClass (top 42) 4
abbrev N_Table____eq__ : List Str := ["self", "other"]
abbrev P_Table____eq__ : List Str := ["self", "other"]
theorem sc_Table____eq__ : FnScope N_Table____eq__ P_Table____eq__ (C8.fnScope s_Table____eq__) := C8.fnScope_by (by decide +kernel)
abbrev s_Table____repr__ : Stmt := inClass (top 42) 5
abbrev N_Table____repr__ : List Str := ["self", "columns", "name", "top"]
abbrev P_Table____repr__ : List Str := ["self"]
theorem sc_Table____repr__ : FnScope N_Table____repr__ P_Table____repr__ (C8.fnScope s_Table____repr__) := C8.fnScope_by (by decide +kernel)
abbrev s__law_bag : Stmt := top 44
abbrev N__law_bag : List Str := ["_law_script", "_law_at", "_law_cell", "_law_digits"]
abbrev P__law_bag : List Str := ["_law_script", "_law_at"]
theorem sc__law_bag : FnScope N__law_bag P__law_bag (C8.fnScope s__law_bag) := C8.fnScope_by (by decide +kernel)
abbrev s__law_take : Stmt := top 45
abbrev N__law_take : List Str := ["_law_bag_here", "_law_many", "_law_digit", "_law_mixed"]
abbrev P__law_take : List Str := ["_law_bag_here", "_law_many"]
theorem sc__law_take : FnScope N__law_take P__law_take (C8.fnScope s__law_take) := C8.fnScope_by (by decide +kernel)
abbrev s__law_of : Stmt := top 46
abbrev N__law_of : List Str := ["_law_bag_here", "_law_some"]
abbrev P__law_of : List Str := ["_law_bag_here", "_law_some"]
theorem sc__law_of : FnScope N__law_of P__law_of (C8.fnScope s__law_of) := C8.fnScope_by (by decide +kernel)
abbrev s__law_columns : Stmt := top 47
abbrev N__law_columns : List Str := ["_law_bag_here", "_law_left", "_law_found", "_law_turn"]
abbrev P__law_columns : List Str := ["_law_bag_here"]
theorem sc__law_columns : FnScope N__law_columns P__law_columns (C8.fnScope s__law_columns) := C8.fnScope_by (by decide +kernel)
abbrev s__law_sum : Stmt := top 48
abbrev N__law_sum : List Str := ["_law_bag_here", "_law_columns_here", "_law_found", "_law_turn", "_law_factor", "_law_number", "_law_place"]
abbrev P__law_sum : List Str := ["_law_bag_here", "_law_columns_here"]
theorem sc__law_sum : FnScope N__law_sum P__law_sum (C8.fnScope s__law_sum) := C8.fnScope_by (by decide +kernel)
abbrev s__law_sum_tokens : Stmt := top 49
abbrev N__law_sum_tokens : List Str := ["_law_terms", "_law_columns_here", "_law_found", "_law_factor", "_law_place", "_law_number"]
abbrev P__law_sum_tokens : List Str := ["_law_terms", "_law_columns_here"]
theorem sc__law_sum_tokens : FnScope N__law_sum_tokens P__law_sum_tokens (C8.fnScope s__law_sum_tokens) := C8.fnScope_by (by decide +kernel)
abbrev s__law_tree : Stmt := top 50
abbrev N__law_tree : List Str := ["_law_bag_here", "_law_columns_here", "_law_deep", "_law_road", "_law_sign", "_law_one"]
abbrev P__law_tree : List Str := ["_law_bag_here", "_law_columns_here", "_law_deep"]
theorem sc__law_tree : FnScope N__law_tree P__law_tree (C8.fnScope s__law_tree) := C8.fnScope_by (by decide +kernel)
abbrev s__law_tokens : Stmt := top 51
abbrev N__law_tokens : List Str := ["_law_tree_here", "_law_columns_here", "_law_outer", "_law_found", "_law_is_inner"]
abbrev P__law_tokens : List Str := ["_law_tree_here", "_law_columns_here", "_law_outer"]
theorem sc__law_tokens : FnScope N__law_tokens P__law_tokens (C8.fnScope s__law_tokens) := C8.fnScope_by (by decide +kernel)
abbrev s__law_spaced : Stmt := top 52
abbrev N__law_spaced : List Str := ["_law_bag_here", "_law_tokens_here", "_law_sorts", "_law_text_here", "_law_token", "_law_last", "_law_gap", "_law_sort"]
abbrev P__law_spaced : List Str := ["_law_bag_here", "_law_tokens_here"]
theorem sc__law_spaced : FnScope N__law_spaced P__law_spaced (C8.fnScope s__law_spaced) := C8.fnScope_by (by decide +kernel)
abbrev s__law_split : Stmt := top 53
abbrev N__law_split : List Str := ["_law_text_here", "_law_found", "_law_at", "_law_end", "_law_signs"]
abbrev P__law_split : List Str := ["_law_text_here"]
theorem sc__law_split : FnScope N__law_split P__law_split (C8.fnScope s__law_split) := C8.fnScope_by (by decide +kernel)
abbrev s__law_is_word : Stmt := top 54
abbrev N__law_is_word : List Str := ["_law_token", "_law_letter"]
abbrev P__law_is_word : List Str := ["_law_token"]
theorem sc__law_is_word : FnScope N__law_is_word P__law_is_word (C8.fnScope s__law_is_word) := C8.fnScope_by (by decide +kernel)
abbrev s__law_is_number : Stmt := top 55
abbrev N__law_is_number : List Str := ["_law_token", "_law_digit"]
abbrev P__law_is_number : List Str := ["_law_token"]
theorem sc__law_is_number : FnScope N__law_is_number P__law_is_number (C8.fnScope s__law_is_number) := C8.fnScope_by (by decide +kernel)
abbrev s__law_is_term : Stmt := top 56
abbrev N__law_is_term : List Str := ["_law_token", "_law_columns_here", "_law_name", "_law_top"]
abbrev P__law_is_term : List Str := ["_law_token", "_law_columns_here"]
theorem sc__law_is_term : FnScope N__law_is_term P__law_is_term (C8.fnScope s__law_is_term) := C8.fnScope_by (by decide +kernel)
abbrev s__law_next : Stmt := top 57
abbrev N__law_next : List Str := ["_law_state", "_law_token", "_law_floor", "_law_columns_here", "_law_states"]
abbrev P__law_next : List Str := ["_law_state", "_law_token", "_law_floor", "_law_columns_here"]
theorem sc__law_next : FnScope N__law_next P__law_next (C8.fnScope s__law_next) := C8.fnScope_by (by decide +kernel)
abbrev s__law_stuck : Stmt := top 58
abbrev N__law_stuck : List Str := ["_law_tokens_here", "_law_at", "_law_columns_here", "_law_state", "_law_floor", "_law_token", "_law_place", "_law_found"]
abbrev P__law_stuck : List Str := ["_law_tokens_here", "_law_at", "_law_columns_here"]
theorem sc__law_stuck : FnScope N__law_stuck P__law_stuck (C8.fnScope s__law_stuck) := C8.fnScope_by (by decide +kernel)
abbrev s__law_spoilt : Stmt := top 59
abbrev N__law_spoilt : List Str := ["_law_bag_here", "_law_tokens_here", "_law_more", "_law_at", "_law_other", "_law_some"]
abbrev P__law_spoilt : List Str := ["_law_bag_here", "_law_tokens_here", "_law_more"]
theorem sc__law_spoilt : FnScope N__law_spoilt P__law_spoilt (C8.fnScope s__law_spoilt) := C8.fnScope_by (by decide +kernel)
abbrev s__law_told : Stmt := top 60
abbrev N__law_told : List Str := ["_law_text_here", "_law_table", "e", "_law_wrong"]
abbrev P__law_told : List Str := ["_law_text_here", "_law_table"]
theorem sc__law_told : FnScope N__law_told P__law_told (C8.fnScope s__law_told) := C8.fnScope_by (by decide +kernel)
abbrev s__law_text : Stmt := top 61
abbrev N__law_text : List Str := ["_law_bag_here", "_law_columns_here", "_law_tokens_here", "_law_more", "_law_turn", "_law_text_here", "_law_token", "_law_at"]
abbrev P__law_text : List Str := ["_law_bag_here", "_law_columns_here"]
theorem sc__law_text : FnScope N__law_text P__law_text (C8.fnScope s__law_text) := C8.fnScope_by (by decide +kernel)
abbrev s_law : Stmt := top 62
abbrev N_law : List Str := ["_law_script", "_law_at", "_law_bag_here", "_law_columns_here", "_law_table", "_law_turn", "_law_thing", "_law_text_here", "_law_due"]
abbrev P_law : List Str := ["_law_script"]
theorem sc_law : FnScope N_law P_law (C8.fnScope s_law) := C8.fnScope_by (by decide +kernel)
/-- what the top leaves of names -/
structure Names (K : PySem.W.Frag) (mg : Str → Option Value) : Prop where
  n_len : mg "len" = none
  n_range : mg "range" = none
  n_abs : mg "abs" = none
  n_int : mg "int" = none
  n_str : mg "str" = none
  n_bool : mg "bool" = none
  n_tuple : mg "tuple" = none
  n_list : mg "list" = none
  n_isinstance : mg "isinstance" = none
  n_all : mg "all" = none
  n_any : mg "any" = none
  n_max : mg "max" = none
  n_min : mg "min" = none
  n_enumerate : mg "enumerate" = none
  n_zip : mg "zip" = none
  n_repr : mg "repr" = none
  g_LETTERS : ∃ u, mg "LETTERS" = some u ∧ RelV (.str LET) u
  g_RESERVED : ∃ (a : Addr), (∃ u, mg "RESERVED" = some u ∧ RelV (.ref a) u) ∧ ∀ H : Hp, SqT K H a (RES.map V.str)
section
variable {P : Program} {w : World} {K : PySem.W.Frag} {mg : Str → Option Value} {base : Heap}
theorem take {f : Addr} {fd : FuncData} (F : C8.Def K mg "_law_take" s__law_take f fd) (b : Binds K fd P__law_take []) (T : Names K mg) : C8.Cal P w K mg base 1 "_law_take" spTake [] := by
  refine C8.cal0 (N := N__law_take) F b .nil sc__law_take (fun vs H Q E h => ?_) (fun cdv A outer s H vs Q E hr h => ?_)
  · obtain ⟨b, n, c, rfl, _⟩ := h
    rfl
  · obtain ⟨b, n, c, rfl, n0, n1, ⟨x, y, z, hb, y0, y1, z0, z1⟩, c1, k⟩ := h
    have hu := hu_of hr
    refine ⟨_, (pss_cons (ps_if (pt_cmpR op_gt (pe_ix ix_list (pv 0) pe_int (fun _ _ => rfl)) pe_int (nomark _)) (pss_cons (ps_set (i := 2) sc__law_take.nd rfl (Or.inl rfl) (pe_op op_mod (pe_callTy call_int1 (by rfl) T.n_int (by decide +kernel) (pa_cons (pe_ix ix_list (pv 0) pe_int (fun _ _ => rfl)) pa_nil)) (pv 1)))
 (pss_cons (ps_asg (pe_op op_fdivN (pe_ix ix_list (pv 0) pe_int (fun _ _ => rfl)) (pv 1)) (pg_sub (pv 0) pe_int set_list))
 (pss_one (ps_ret (pv 2))))) pss_nil)
 (pss_cons (ps_asg (pe_op op_add (pe_ix ix_list (pv 0) pe_int (fun _ _ => rfl)) pe_int) (pg_sub (pv 0) pe_int set_list))
 (pss_cons (ps_set (i := 3) sc__law_take.nd rfl (Or.inl rfl) (pe_op op_mod (pe_callTy call_int1 (by rfl) T.n_int (by decide +kernel) (pa_cons (pe_op op_pow (pe_op op_add (pe_ix ix_list (pv 0) pe_int (fun _ _ => rfl)) (pe_op op_mul pe_int (pe_ix ix_list (pv 0) pe_int (fun _ _ => rfl)))) pe_int) pa_nil)) pe_int))
 (pss_cons (ps_set (i := 3) sc__law_take.nd rfl (Or.inl rfl) (pe_op op_mod (pe_callTy call_int1 (by rfl) T.n_int (by decide +kernel) (pa_cons (pe_op op_pow (pe_op op_add (pv 3) (pe_op op_mul pe_int (pe_ix ix_list (pv 0) pe_int (fun _ _ => rfl)))) pe_int) pa_nil)) pe_int))
 (pss_one (ps_ret (pe_op op_mod (pe_callTy call_int1 (by rfl) T.n_int (by decide +kernel) (pa_cons (pe_op op_fdiv (pv 3) pe_int) pa_nil)) (pv 1)))))))), ?_⟩
    refine ⟨_, rfl, b, _, _, _, rfl, rfl, SqL.of hb, rfl, _, _, rfl, rfl, _, rfl, ?_⟩
    have bag' : ∀ x' y' z' : Int, 0 ≤ y' → y' < 8000000000000000000 → 0 ≤ z' → z' ≤ c + 1 → Bag (upd H b (.lst [.int x', .int y', .int z'])) b (c + 1) := fun x' y' z' h1 h2 h3 h4 => ⟨x', y', z', upd_same, h1, h2, h3, h4⟩
    refine ite2 (fun hx => ?_) (fun hx => ?_)
    · refine ⟨_, rfl, b, _, _, _, rfl, rfl, SqL.of hb, rfl, .inl ⟨_, rfl, ?_⟩⟩
      refine ⟨_, rfl, _, _, rfl, rfl, n0, ?_⟩
      refine ⟨_, rfl, b, _, _, _, rfl, rfl, SqL.of hb, rfl, _, rfl, _, _, rfl, rfl, ⟨by omega, by omega⟩, ?_⟩
      refine ⟨_, rfl, b, _, _, _, rfl, rfl, hb, rfl, ?_⟩
      refine ⟨_, rfl, ?_⟩
      exact k (x % n) (x.fdiv n) y z (Int.emod_nonneg _ (by omega)) (Int.emod_lt_of_pos _ n0) (bag' _ _ _ y0 y1 z0 (by omega))
    · refine ⟨_, rfl, b, _, _, _, rfl, rfl, SqL.of hb, rfl, _, _, rfl, rfl, ?_⟩
      refine ⟨_, rfl, b, _, _, _, rfl, rfl, hb, rfl, ?_⟩
      have hb' := @upd_same H b (HO.lst [V.int x, V.int y, V.int (z + 1)])
      refine ⟨_, rfl, b, _, _, _, rfl, rfl, SqL.of hb', rfl, _, rfl, b, _, _, _, rfl, rfl, SqL.of hb', rfl, ?_⟩
      refine ⟨_, _, rfl, rfl, .inl ⟨by decide, by decide⟩, _, _, rfl, rfl, _, _, rfl, rfl, ⟨by decide, by decide, ?_⟩, .inl ⟨_, rfl, ?_⟩⟩
      · show (y + 1000033 * (z + 1)).natAbs < 2 ^ 64
        omega
      refine ⟨_, _, rfl, rfl, (by show (0 : Int) < 2305843009213693921; decide), ?_⟩
      have m0 := Int.emod_nonneg ((y + 1000033 * (z + 1)) ^ Int.toNat 3) (by decide : (2305843009213693921 : Int) ≠ 0)
      have m1 := Int.emod_lt_of_pos ((y + 1000033 * (z + 1)) ^ Int.toNat 3) (by decide : (0 : Int) < 2305843009213693921)
      refine ⟨_, rfl, _, rfl, b, _, _, _, rfl, rfl, SqL.of hb', rfl, _, _, rfl, rfl, .inl ⟨by decide, by decide⟩, _, _, rfl, rfl, _, _, rfl, rfl, ⟨by decide, by decide, ?_⟩, .inl ⟨_, rfl, ?_⟩⟩
      · revert m0 m1
        generalize (y + 1000033 * (z + 1)) ^ Int.toNat 3 % 2305843009213693921 = m
        intro m0 m1
        omega
      refine ⟨_, _, rfl, rfl, (by show (0 : Int) < 2305843009213693951; decide), ?_⟩
      refine ⟨_, rfl, _, _, rfl, rfl, ⟨by decide, by decide⟩, .inl ⟨_, rfl, ?_⟩⟩
      refine ⟨_, rfl, _, _, rfl, rfl, n0, ?_⟩
      exact k _ x y (z + 1) (Int.emod_nonneg _ (by omega)) (Int.emod_lt_of_pos _ n0) (bag' _ _ _ y0 y1 (by omega) (by omega))
theorem bag {f : Addr} {fd : FuncData} (F : C8.Def K mg "_law_bag" s__law_bag f fd) (b : Binds K fd P__law_bag []) (T : Names K mg) : C8.Cal P w K mg base 1 "_law_bag" (spBag K) [] := by
  refine C8.cal0 (N := N__law_bag) F b .nil sc__law_bag (fun vs H Q E h => ?_) (fun cdv A outer s H vs Q E hr h => ?_)
  · obtain ⟨a, ns, i, rfl, _⟩ := h
    rfl
  · obtain ⟨a, ns, i, rfl, hS, i0, i1, k⟩ := h
    have hu := hu_of hr
    refine ⟨_, (C8.pss_cut (ps_set (i := 2) sc__law_bag.nd rfl (Or.inl rfl) (pe_ifExp (pt_cmpR op_lt (pv 1) (pe_callB call_len_seq (by rfl) T.n_len PySem.boot_len (pa_cons (pv 0) pa_nil)) (nomark _)) (pe_ix ix_list (pv 0) (pv 1) (fun _ _ => rfl)) pe_int))
 (C8.pss_cut (ps_set (i := 3) sc__law_bag.nd rfl (Or.inl rfl) (pe_ifExp (pt_cmpR op_ge (pe_callB call_abs (by rfl) T.n_abs (by decide +kernel) (pa_cons (pv 2) pa_nil)) (pe_op op_pow pe_int pe_int) (nomark _)) (pe_callB call_abs (by rfl) T.n_abs (by decide +kernel) (pa_cons (pv 2) pa_nil)) pe_int))
 (pss_one (ps_ret (pe_lst (pa_cons (pv 3) (pa_cons (pe_op op_add (pe_op op_add (pe_op op_mul (pe_op op_mod (pe_callTy call_int1 (by rfl) T.n_int (by decide +kernel) (pa_cons (pv 2) pa_nil)) pe_int) pe_int) (pe_op op_mul pe_int (pv 1))) pe_int) (pa_cons pe_int pa_nil)))))))), ?_⟩
    refine ⟨fun σ' H' => ∃ x : Int, σ' = [some (.ref a), some (.int i), some (.int x), none] ∧ H' = H, ?_, ?_⟩
    · refine ⟨_, rfl, _, rfl, a, _, rfl, .inl hS, _, _, rfl, rfl, _, rfl, ?_⟩
      rw [List.length_map]
      refine ite2 (fun c => ?_) (fun c => ?_)
      · have c' : i < (ns.length : Int) := by simpa using c
        have hj : i.toNat < ns.length := by omega
        have e : ((i.toNat : Nat) : Int) = i := by omega
        refine ⟨_, rfl, _, rfl, a, _, i, .int (ns.getD i.toNat 0), rfl, rfl, hS, ?_, _, rfl, rfl⟩
        have q := atI_nat (xs := ns.map V.int) (j := i.toNat) (v := .int (ns.getD i.toNat 0)) (by simp [hj])
        rw [e] at q
        exact q
      · exact ⟨_, rfl, rfl⟩
    rintro σ' H' ⟨x, rfl, rfl⟩
    refine ⟨fun σ' H2 => ∃ y : Int, σ' = [some (.ref a), some (.int i), some (.int x), some (.int y)] ∧ H2 = H', ?_, ?_⟩
    · refine ⟨_, rfl, _, rfl, _, _, rfl, rfl, ⟨by decide, by decide, by decide⟩, _, _, rfl, rfl, _, rfl, ?_⟩
      refine ite2 (fun c => ?_) (fun c => ?_)
      · exact ⟨_, rfl, _, rfl, _, rfl, rfl⟩
      · exact ⟨_, rfl, rfl⟩
    rintro σ' H2 ⟨y, rfl, rfl⟩
    refine ⟨_, rfl, _, rfl, .inl ⟨_, rfl, ?_⟩⟩
    have m0 := Int.emod_nonneg x (by decide : (2305843009213693951 : Int) ≠ 0)
    have m1 := Int.emod_lt_of_pos x (by decide : (0 : Int) < 2305843009213693951)
    refine ⟨_, _, rfl, rfl, (by show (0 : Int) < 2305843009213693951; decide), _, _, rfl, rfl, .inr ⟨by decide, by decide⟩, _, rfl, _, _, rfl, rfl, .inl ⟨by decide, by decide⟩, _, _, rfl, rfl, _, _, rfl, rfl, (by show 3 ≤ sizeLine; decide), fun p hp => ?_⟩
    exact k p _ _ _ hp ⟨_, _, _, upd_same, by omega, by omega, by omega, by omega⟩
theorem of_ {f : Addr} {fd : FuncData} (F : C8.Def K mg "_law_of" s__law_of f fd) (b : Binds K fd P__law_of []) (T : Names K mg) (c__law_take : C8.Cal P w K mg base 1 "_law_take" spTake []) : C8.Cal P w K mg base 2 "_law_of" spOf [] := by
  refine C8.cal0 (N := N__law_of) F b .nil sc__law_of (fun vs H Q E h => ?_) (fun cdv A outer s H vs Q E hr h => ?_)
  · obtain ⟨b, a, xs, c, rfl, _⟩ := h
    rfl
  · obtain ⟨b, a, xs, c, rfl, ha, hab, hne, hlen, hB, c1, k⟩ := h
    have hu := hu_of hr
    refine ⟨_, (pss_one (ps_ret (pe_ix ix_list (pv 1) (C8.pe_c c__law_take hr (by decide) rfl (pa_cons (pv 0) (pa_cons (pe_callB call_len_seq (by rfl) T.n_len PySem.boot_len (pa_cons (pv 1) pa_nil)) pa_nil))) (fun _ _ => rfl)))), ?_⟩
    have h0 : 0 < xs.length := List.length_pos_iff.mpr hne
    refine ⟨_, rfl, _, rfl, _, rfl, a, _, rfl, .inl (SqL.of ha), b, _, c, rfl, by omega, by omega, hB, c1, fun r x y z r0 r1 hB' => ?_⟩
    have hr1 : r.toNat < xs.length := by omega
    have e : ((r.toNat : Nat) : Int) = r := by omega
    refine ⟨a, xs, r, xs[r.toNat], rfl, rfl, SqL.of ?_, ?_, ?_⟩
    · rw [upd_ne hab]; exact ha
    · have q := atI_nat (xs := xs) (j := r.toNat) (v := xs[r.toNat]) (by simp [hr1])
      rw [e] at q
      exact q
    · exact k _ r.toNat x y z (by simp [hr1]) hB'
theorem columns {f : Addr} {fd : FuncData} (F : C8.Def K mg "_law_columns" s__law_columns f fd) (b : Binds K fd P__law_columns []) (T : Names K mg) (c__law_take : C8.Cal P w K mg base 1 "_law_take" spTake []) : C8.Cal P w K mg base 2 "_law_columns" spColumns [] := by
  refine C8.cal0 (N := N__law_columns) F b .nil sc__law_columns (fun vs H Q E h => ?_) (fun cdv A outer s H vs Q E hr h => ?_)
  · obtain ⟨b, c, G, rfl, _⟩ := h
    rfl
  · obtain ⟨b, c, G, rfl, hB, hc, gb, sG, k⟩ := h
    have hu := hu_of hr
    refine ⟨_, (pss_cons (ps_par (i := 1) (j := 2) (by rfl) sc__law_columns.nd rfl rfl (by decide) rfl rfl (pa_cons (pe_lst (pa_cons pe_str (pa_cons pe_str (pa_cons pe_str (pa_cons pe_str (pa_cons pe_str (pa_cons pe_str (pa_cons pe_str (pa_cons pe_str (pa_cons pe_str (pa_cons pe_str pa_nil))))))))))) (pa_cons (pe_lst pa_nil) pa_nil)) (by rfl))
 (pss_cons (ps_for PassesOwn.never rfl (pi_range1 rfl T.n_range (pa_cons (pe_op op_add pe_int (C8.pe_c c__law_take hr (by decide) rfl (pa_cons (pv 0) (pa_cons pe_int pa_nil)))) pa_nil)) (pg_name (i := 3) sc__law_columns.nd rfl (Or.inl rfl)) (pss_one (ps_expr (pe_bm PySem.F.plainAttrs_list PySem.F.slot_list_append PySem.F.type_list_append mt_append (pv 2) (pa_cons (pe_tup (pa_cons (pe_bm PySem.F.plainAttrs_list PySem.F.slot_list_pop PySem.F.type_list_pop mt_popAt (pv 1) (pa_cons (C8.pe_c c__law_take hr (by decide) rfl (pa_cons (pv 0) (pa_cons (pe_callB call_len_seq (by rfl) T.n_len PySem.boot_len (pa_cons (pv 1) pa_nil)) pa_nil))) pa_nil)) (pa_cons (pe_op op_add pe_int (C8.pe_c c__law_take hr (by decide) rfl (pa_cons (pv 0) (pa_cons pe_int pa_nil)))) pa_nil))) pa_nil)))))
 (pss_one (ps_ret (pv 2))))), ?_⟩
    refine ⟨(by show 10 ≤ sizeLine; decide), fun l hl => ⟨Nat.zero_le _, fun f hf => ⟨_, _, rfl, ?_⟩⟩⟩
    have X1 := Xt.tmp (b := some b) (o := .lst (n10.map V.str)) sG hl
    have X2 := X1.allocT (o := .lst []) hf
    have nlf : l ≠ f := fun q => by rw [q, upd_same] at hf; cases hf
    have nbl : b ≠ l := fun q => hB.ne (by rw [q]; exact hl)
    have hf0 := X1.fresh hf
    have nbf : b ≠ f := fun q => hB.ne (by rw [q]; exact hf0)
    have gl : G l = none := sG.free hl
    have gf : G f = none := sG.free hf0
    have hB2 : Bag (upd (upd H l (.lst (n10.map V.str))) f (.lst [])) b c := (hB.upd nbl).upd nbf
    refine ⟨_, rfl, b, 3, c, rfl, by omega, by omega, hB2, by omega, fun r x y z r0 r1 hB3 => ⟨_, _, rfl, rfl, 1 + r, rfl, by omega, by omega, ?_⟩⟩
    refine for_range (n := (1 + r).toNat) (fun i σ' H' => ∃ (G' : Hp) (v : Option V) (left : List Str) (cols : List Col) (xs : List V), σ' = [some (.ref b), some (.ref l), some (.ref f), v] ∧ Xt (some b) H G H' G' ∧ Bag H' b (c + 1 + 2 * i) ∧
      H' l = some (.lst (left.map V.str)) ∧ H' f = some (.lst xs) ∧ G' b = none ∧ G' l = none ∧ G' f = none ∧ DA G' xs (dCols cols) ∧ cols.length = i ∧ (cols.map (·.1) ++ left).Perm n10 ∧ ∀ c ∈ cols, 1 ≤ c.2 ∧ c.2 ≤ 3) ?_ ?_ ?_
    · refine ⟨G, none, n10, [], [], rfl, X2.put gb, hB3.mono (by omega), ?_, ?_, gb, gl, gf, .nil, rfl, .refl _, fun c h => by cases h⟩
      · rw [upd_ne nbl.symm, upd_ne nlf, upd_same]; rfl
      · rw [upd_ne nbf.symm, upd_same]
    · rintro i σ' H' hi ⟨G', v, left, cols, xs, rfl, X, hB4, h1, h2, g1, g2, g3, da, len, perm, tops⟩
      have hi3 : i < 3 := by omega
      have hleft : left.length = 10 - i := by
        have := perm.length_eq
        rw [List.length_append, List.length_map, len] at this
        have e : n10.length = 10 := rfl
        omega
      refine ⟨_, rfl, .inl ⟨rfl, _, SqL.of h2⟩, _, rfl, .inl ⟨rfl, _, SqL.of h1⟩, _, rfl, _, rfl, _, _, rfl, .inl (SqL.of h1), b, _, _, rfl, ?_, ?_, hB4, by omega, fun r2 x2 y2 z2 r20 r21 hB5 => ?_⟩
      · rw [List.length_map]; omega
      · rw [List.length_map]; omega
      have hk : r2.toNat < left.length := by rw [List.length_map] at r21; omega
      obtain ⟨nm, hnm⟩ : ∃ nm, left[r2.toNat]? = some nm := ⟨left[r2.toNat], List.getElem?_eq_getElem hk⟩
      have X5 := X.put (o := .lst [.int x2, .int y2, .int z2]) g1
      refine ⟨l, _, r2, r2.toNat, .str nm, rfl, rfl, by rw [upd_ne nbl.symm]; exact h1, by omega, by omega, seqIndex_of r20 r21, by rw [List.getElem?_map, hnm]; rfl, ?_⟩
      have X6 := X5.set (o := .lst ((left.map V.str).eraseIdx r2.toNat)) hl g2
      have hB6 := hB5.upd (p := l) (o := .lst ((left.map V.str).eraseIdx r2.toNat)) nbl
      refine ⟨_, rfl, b, 3, _, rfl, by omega, by omega, hB6, by omega, fun r3 x3 y3 z3 r30 r31 hB7 => ⟨_, _, rfl, rfl, (by show 2 ≤ sizeLine; decide), fun t ht => ?_⟩⟩
      have X7 := X6.put (o := .lst [.int x3, .int y3, .int z3]) g1
      have X8 := X7.alloc (o := .tup [.str nm, .int (1 + r3)]) ht
      have ntb : b ≠ t := fun q => by subst q; exact hB7.ne ht
      have hf7 : (upd (upd (upd H' b (.lst [.int x2, .int y2, .int z2])) l (.lst ((left.map V.str).eraseIdx r2.toNat))) b (.lst [.int x3, .int y3, .int z3])) f = some (.lst xs) := by
        rw [upd_ne nbf.symm, upd_ne nlf.symm, upd_ne nbf.symm]; exact h2
      have ntf : f ≠ t := fun q => by subst q; exact ne_none_of hf7 ht
      have ntl : l ≠ t := fun q => by
        rw [← q, upd_ne nbl.symm, upd_same] at ht; cases ht
      refine ⟨f, xs, _, rfl, rfl, by rw [upd_ne ntf]; exact hf7, small_lt (by have := da.length; rw [dCols, List.length_map, len] at this; omega), ?_⟩
      have g3' : (upd G' t (.tup [.str nm, .int (1 + r3)])) f = none := none_of_ne g3 ntf
      refine ⟨_, _, left.eraseIdx r2.toNat, cols ++ [(nm, 1 + r3)], _, rfl, X8.set (hf0) g3', ((hB7.upd ntb).upd nbf).mono (by omega), ?_, upd_same, none_of_ne g1 ntb, none_of_ne g2 ntl, g3', ?_, by rw [List.length_append, len]; rfl, ?_, ?_⟩
      · rw [upd_ne nlf, upd_ne ntl, upd_ne nbl.symm, upd_same, map_eraseIdx]
      · rw [dCols, List.map_append]
        refine (da.mono (upd_same_ (X7.sub.free ht))).append (.one (.tup upd_same (.cons (.str _) (.cons (.int _) .nil))))
      · refine List.Perm.trans ?_ perm
        rw [List.map_append, List.append_assoc]
        refine List.Perm.append_left _ ?_
        exact perm_eraseIdx hnm
      · intro c hc
        rcases List.mem_append.mp hc with h | h
        · exact tops c h
        · rw [List.mem_singleton] at h
          subst h
          show 1 ≤ 1 + r3 ∧ 1 + r3 ≤ 3
          omega
    · rintro σ' H' ⟨G', v, left, cols, xs, rfl, X, hB4, h1, h2, g1, g2, g3, da, len, perm, tops⟩
      have hn : (1 + r).toNat ≤ 3 ∧ 1 ≤ (1 + r).toNat := by omega
      have nd : (cols.map (·.1) ++ left).Nodup := perm.nodup_iff.mpr (by decide +kernel)
      refine ⟨_, rfl, k f cols xs H' _ (X.fix hf0 h2) (hB4.mono (by omega)) ⟨by omega, fun c hc => ?_, tops, ?_⟩ upd_same (da.mono (upd_same_ g3))⟩
      · exact perm.subset (List.mem_append_left _ (List.mem_map_of_mem hc))
      · exact (List.nodup_append.mp nd).1
end
end Nw
namespace Nw
open PySem L2 PySem.Spec PyProof.Rows RZ
def hdF0 : TestK := fun K => He.eqO (PySem.W.nsIn K mainGlobals "copied") (some (some (.ref (He.ga K "copied"))))
def hdF1 : TestK := fun K => He.eqO (PySem.W.nsIn K mainGlobals "is_word") (some (some (.ref (He.ga K "is_word"))))
def hdF2 : TestK := fun K => He.eqO (PySem.W.nsIn K mainGlobals "is_number") (some (some (.ref (He.ga K "is_number"))))
def hdF3 : TestK := fun K => He.eqO (PySem.W.nsIn K mainGlobals "split_tokens") (some (some (.ref (He.ga K "split_tokens"))))
def hdF4 : TestK := fun K => He.eqO (PySem.W.nsIn K mainGlobals "token_end") (some (some (.ref (He.ga K "token_end"))))
def hdF5 : TestK := fun K => He.eqO (PySem.W.nsIn K mainGlobals "stretch_end") (some (some (.ref (He.ga K "stretch_end"))))
def hdF6 : TestK := fun K => He.eqO (PySem.W.nsIn K mainGlobals "joined_tokens") (some (some (.ref (He.ga K "joined_tokens"))))
def hdF7 : TestK := fun K => He.eqO (PySem.W.nsIn K mainGlobals "read_sum") (some (some (.ref (He.ga K "read_sum"))))
def hdF8 : TestK := fun K => He.eqO (PySem.W.nsIn K mainGlobals "read_term") (some (some (.ref (He.ga K "read_term"))))
def hdF9 : TestK := fun K => He.eqO (PySem.W.nsIn K mainGlobals "sum_value") (some (some (.ref (He.ga K "sum_value"))))
def hdF10 : TestK := fun K => He.eqO (PySem.W.nsIn K mainGlobals "bits_for") (some (some (.ref (He.ga K "bits_for"))))
def hdF11 : TestK := fun K => He.eqO (PySem.W.nsIn K mainGlobals "every_bit") (some (some (.ref (He.ga K "every_bit"))))
def hdF12 : TestK := fun K => He.eqO (PySem.W.nsIn K mainGlobals "both") (some (some (.ref (He.ga K "both"))))
def hdF13 : TestK := fun K => He.eqO (PySem.W.nsIn K mainGlobals "either") (some (some (.ref (He.ga K "either"))))
def hdF14 : TestK := fun K => He.eqO (PySem.W.nsIn K mainGlobals "opposite") (some (some (.ref (He.ga K "opposite"))))
def hdF15 : TestK := fun K => He.eqO (PySem.W.nsIn K mainGlobals "compares") (some (some (.ref (He.ga K "compares"))))
def hdF16 : TestK := fun K => He.eqO (PySem.W.nsIn K mainGlobals "read_comparison") (some (some (.ref (He.ga K "read_comparison"))))
def hdF17 : TestK := fun K => He.eqO (PySem.W.nsIn K mainGlobals "read_name") (some (some (.ref (He.ga K "read_name"))))
def hdF18 : TestK := fun K => He.eqO (PySem.W.nsIn K mainGlobals "read_plain") (some (some (.ref (He.ga K "read_plain"))))
def hdF19 : TestK := fun K => He.eqO (PySem.W.nsIn K mainGlobals "with_atom") (some (some (.ref (He.ga K "with_atom"))))
def hdF20 : TestK := fun K => He.eqO (PySem.W.nsIn K mainGlobals "whole_level") (some (some (.ref (He.ga K "whole_level"))))
def hdF21 : TestK := fun K => He.eqO (PySem.W.nsIn K mainGlobals "read_condition") (some (some (.ref (He.ga K "read_condition"))))
def hdF22 : TestK := fun K => He.eqO (PySem.W.nsIn K mainGlobals "is_integer") (some (some (.ref (He.ga K "is_integer"))))
def hdF23 : TestK := fun K => He.eqO (PySem.W.nsIn K mainGlobals "is_tuple_of") (some (some (.ref (He.ga K "is_tuple_of"))))
def hdF24 : TestK := fun K => He.eqO (PySem.W.nsIn K mainGlobals "is_column") (some (some (.ref (He.ga K "is_column"))))
def hdF25 : TestK := fun K => He.eqO (PySem.W.nsIn K mainGlobals "_law_bag") (some (some (.ref (He.ga K "_law_bag"))))
def hdF26 : TestK := fun K => He.eqO (PySem.W.nsIn K mainGlobals "_law_take") (some (some (.ref (He.ga K "_law_take"))))
def hdF27 : TestK := fun K => He.eqO (PySem.W.nsIn K mainGlobals "_law_of") (some (some (.ref (He.ga K "_law_of"))))
def hdF28 : TestK := fun K => He.eqO (PySem.W.nsIn K mainGlobals "_law_columns") (some (some (.ref (He.ga K "_law_columns"))))
def hdF29 : TestK := fun K => He.eqO (PySem.W.nsIn K mainGlobals "_law_sum") (some (some (.ref (He.ga K "_law_sum"))))
def hdF30 : TestK := fun K => He.eqO (PySem.W.nsIn K mainGlobals "_law_sum_tokens") (some (some (.ref (He.ga K "_law_sum_tokens"))))
def hdF31 : TestK := fun K => He.eqO (PySem.W.nsIn K mainGlobals "_law_tree") (some (some (.ref (He.ga K "_law_tree"))))
def hdF32 : TestK := fun K => He.eqO (PySem.W.nsIn K mainGlobals "_law_tokens") (some (some (.ref (He.ga K "_law_tokens"))))
def hdF33 : TestK := fun K => He.eqO (PySem.W.nsIn K mainGlobals "_law_spaced") (some (some (.ref (He.ga K "_law_spaced"))))
def hdF34 : TestK := fun K => He.eqO (PySem.W.nsIn K mainGlobals "_law_split") (some (some (.ref (He.ga K "_law_split"))))
def hdF35 : TestK := fun K => He.eqO (PySem.W.nsIn K mainGlobals "_law_is_word") (some (some (.ref (He.ga K "_law_is_word"))))
def hdF36 : TestK := fun K => He.eqO (PySem.W.nsIn K mainGlobals "_law_is_number") (some (some (.ref (He.ga K "_law_is_number"))))
def hdF37 : TestK := fun K => He.eqO (PySem.W.nsIn K mainGlobals "_law_is_term") (some (some (.ref (He.ga K "_law_is_term"))))
def hdF38 : TestK := fun K => He.eqO (PySem.W.nsIn K mainGlobals "_law_next") (some (some (.ref (He.ga K "_law_next"))))
def hdF39 : TestK := fun K => He.eqO (PySem.W.nsIn K mainGlobals "_law_stuck") (some (some (.ref (He.ga K "_law_stuck"))))
def hdF40 : TestK := fun K => He.eqO (PySem.W.nsIn K mainGlobals "_law_spoilt") (some (some (.ref (He.ga K "_law_spoilt"))))
def hdF41 : TestK := fun K => He.eqO (PySem.W.nsIn K mainGlobals "_law_told") (some (some (.ref (He.ga K "_law_told"))))
def hdF42 : TestK := fun K => He.eqO (PySem.W.nsIn K mainGlobals "_law_text") (some (some (.ref (He.ga K "_law_text"))))
def hdF43 : TestK := fun K => He.eqO (PySem.W.nsIn K mainGlobals "law") (some (some (.ref (He.ga K "law"))))
def hdF44 : TestK := fun K => He.eqO (PySem.W.nsIn K mainGlobals "Table") (some (some (.ref (He.ga K "Table"))))
def hdF45 : TestK := fun K => He.eqO (PySem.W.nsIn K mainGlobals "Condition") (some (some (.ref (He.ga K "Condition"))))
def hdF46 : TestK := fun K => He.eqO (PySem.W.nsIn K mainGlobals "BadCondition") (some (some (.ref (He.ga K "BadCondition"))))
def hdF47 : TestK := fun K => He.eqO (PySem.W.nsIn K mainGlobals "WrongToken") (some (some (.ref (He.ga K "WrongToken"))))
def hdF48 : TestK := fun K => He.eqO (PySem.W.nsIn K mainGlobals "BadStatement") (some (some (.ref (He.ga K "BadStatement"))))
def hdF49 : TestK := fun K => He.eqO (PySem.W.nsIn K mainGlobals "BadTable") (some (some (.ref (He.ga K "BadTable"))))
def hdF50 : TestK := fun K => He.eqO (PySem.W.nsIn K mainGlobals "NewestrowError") (some (some (.ref (He.ga K "NewestrowError"))))
def hdF51 : TestK := fun K => He.eqO (PySem.W.findIn K (.ref (He.ga K "Table")) "__init__") (some (some (.ref (He.ma K (He.ga K "Table") "__init__"))))
def hdF52 : TestK := fun K => PySem.W.isFn K (.ref (He.ma K (He.ga K "Table") "__init__"))
def hdF53 : TestK := fun K => He.eqO (PySem.W.findIn K (.ref (He.ga K "Table")) "all_values") (some (some (.ref (He.ma K (He.ga K "Table") "all_values"))))
def hdF54 : TestK := fun K => PySem.W.isFn K (.ref (He.ma K (He.ga K "Table") "all_values"))
def hdF55 : TestK := fun K => He.eqO (PySem.W.findIn K (.ref (He.ga K "Condition")) "__init__") (some (some (.ref (He.ma K (He.ga K "Condition") "__init__"))))
def hdF56 : TestK := fun K => PySem.W.isFn K (.ref (He.ma K (He.ga K "Condition") "__init__"))
def hdF57 : TestK := fun K => He.eqO (PySem.W.findIn K (.ref (He.ga K "BadCondition")) "__init__") (some (some (.ref (He.ma K (He.ga K "BadCondition") "__init__"))))
def hdF58 : TestK := fun K => PySem.W.isFn K (.ref (He.ma K (He.ga K "BadCondition") "__init__"))
def hdF59 : TestK := fun K => He.eqO (PySem.W.findIn K (.ref (He.ga K "WrongToken")) "__init__") (some (some (.ref (He.ma K (He.ga K "WrongToken") "__init__"))))
def hdF60 : TestK := fun K => PySem.W.isFn K (.ref (He.ma K (He.ga K "WrongToken") "__init__"))
def hdF61 : TestK := fun K => PySem.W.plainGet K (He.ga K "Table") Str.empty
def hdF62 : TestK := fun K => PySem.W.hasDictIn K (He.ga K "Table")
def hdF63 : TestK := fun K => PySem.W.plainOver K (He.ga K "Table")
def hdF64 : TestK := fun K => He.eqO (PySem.W.findIn K (.ref (He.ga K "Table")) "__setattr__") (some (some (.builtin "object.__setattr__")))
def hdF65 : TestK := fun K => PySem.W.makesIn K (He.ga K "Table")
def hdF66 : TestK := fun K => PySem.W.keepIn K (.ref (He.ga K "Table"))
def hdF67 : TestK := fun K => PySem.W.plainGet K (He.ga K "Condition") Str.empty
def hdF68 : TestK := fun K => PySem.W.hasDictIn K (He.ga K "Condition")
def hdF69 : TestK := fun K => PySem.W.plainOver K (He.ga K "Condition")
def hdF70 : TestK := fun K => He.eqO (PySem.W.findIn K (.ref (He.ga K "Condition")) "__setattr__") (some (some (.builtin "object.__setattr__")))
def hdF71 : TestK := fun K => PySem.W.makesIn K (He.ga K "Condition")
def hdF72 : TestK := fun K => PySem.W.keepIn K (.ref (He.ga K "Condition"))
def hdF73 : TestK := fun K => He.eqO (PySem.W.findIn K (.ref (He.ga K "Table")) "columns") (some none)
def hdF74 : TestK := fun K => He.eqO (PySem.W.findIn K (.ref (He.ga K "Table")) "tops") (some none)
def hdF75 : TestK := fun K => He.eqO (PySem.W.findIn K (.ref (He.ga K "Condition")) "_meaning") (some none)
def hdF76 : TestK := fun K => He.eqO (PySem.W.findIn K (.ref (He.ga K "Condition")) "_text") (some none)
def hdF77 : TestK := fun K => He.eqO (PySem.W.findIn K (.ref (He.ga K "Condition")) "_table") (some none)
def hdF78 : TestK := fun K => He.eqO (PySem.W.findIn K (.ref (He.ga K "Condition")) "_bits") (some none)
def hdF79 : TestK := fun K => He.eqO (PySem.W.findIn K (.ref (He.ga K "BadCondition")) "at") (some none)
def hdF80 : TestK := fun K => He.eqO (PySem.W.findIn K (.ref (He.ga K "WrongToken")) "at") (some none)
def hdF81 : TestK := fun K => He.eqO (PySem.W.specialIn K (.builtin "object.__class__") "__get__") (some (some (.builtin "getset_descriptor.__get__")))
def hdF82 : TestK := fun K => decide (PySem.W.takesIn K (.builtin "object.__class__") = some true)
def hdF83 : TestK := fun K => oexB K (He.ga K "BadCondition")
def hdF84 : TestK := fun K => He.eqO (PySem.W.findIn K (.ref (He.ga K "BadCondition")) "__setattr__") (some (some (.builtin "object.__setattr__")))
def hdF85 : TestK := fun K => decide (PySem.W.subIn K (.ref (He.ga K "BadCondition")) (.type "BaseException") = some true)
def hdF86 : TestK := fun K => He.eqO (some (PySem.W.typeIn K (.ref (He.ga K "BadCondition")))) (some (some (.type "type")))
def hdF87 : TestK := fun K => PySem.W.keepIn K (.ref (He.ga K "BadCondition"))
def hdF88 : TestK := fun K => He.eqO (PySem.W.findIn K (.ref (He.ga K "BadCondition")) "__getattribute__") (some (some (.builtin "BaseException.__getattribute__")))
def hdF89 : TestK := fun K => He.eqO (PySem.W.findIn K (.ref (He.ga K "BadCondition")) "__getattr__") (some none)
def hdF90 : TestK := fun K => PySem.W.hasDictIn K (He.ga K "BadCondition")
def hdF91 : TestK := fun K => (PySem.W.clsIn K (He.ga K "BadCondition")).isSome
def hdF92 : TestK := fun K => He.eqO (PySem.W.findIn K (.ref (He.ga K "BadCondition")) "__class__") (some (some (.builtin "object.__class__")))
def hdF93 : TestK := fun K => decide (PySem.W.mroIn K (He.ga K "BadCondition") (.type "object") = some true)
def hdF94 : TestK := fun K => oexB K (He.ga K "WrongToken")
def hdF95 : TestK := fun K => He.eqO (PySem.W.findIn K (.ref (He.ga K "WrongToken")) "__setattr__") (some (some (.builtin "object.__setattr__")))
def hdF96 : TestK := fun K => decide (PySem.W.subIn K (.ref (He.ga K "WrongToken")) (.type "BaseException") = some true)
def hdF97 : TestK := fun K => He.eqO (some (PySem.W.typeIn K (.ref (He.ga K "WrongToken")))) (some (some (.type "type")))
def hdF98 : TestK := fun K => PySem.W.keepIn K (.ref (He.ga K "WrongToken"))
def hdF99 : TestK := fun K => He.eqO (PySem.W.findIn K (.ref (He.ga K "WrongToken")) "__getattribute__") (some (some (.builtin "BaseException.__getattribute__")))
def hdF100 : TestK := fun K => He.eqO (PySem.W.findIn K (.ref (He.ga K "WrongToken")) "__getattr__") (some none)
def hdF101 : TestK := fun K => PySem.W.hasDictIn K (He.ga K "WrongToken")
def hdF102 : TestK := fun K => (PySem.W.clsIn K (He.ga K "WrongToken")).isSome
def hdF103 : TestK := fun K => He.eqO (PySem.W.findIn K (.ref (He.ga K "WrongToken")) "__class__") (some (some (.builtin "object.__class__")))
def hdF104 : TestK := fun K => decide (PySem.W.mroIn K (He.ga K "WrongToken") (.type "object") = some true)
def hdF105 : TestK := fun K => rvB K mainGlobals "LETTERS" (.str LET)
def hdF106 : TestK := fun K => rvB K mainGlobals "DIGITS" (.str ("0123456789" : Str))
def hdF107 : TestK := fun K => He.eqO (PySem.W.nsIn K mainGlobals "RESERVED") (some (some (.ref (He.ga K "RESERVED"))))
def hdF108 : TestK := fun K => He.tupB K "RESERVED" (RES.map He.Dv.str)
def hdF109 : TestK := fun K => He.eqO (PySem.W.nsIn K mainGlobals "SIGNS") (some (some (.ref (He.ga K "SIGNS"))))
def hdF110 : TestK := fun K => He.tupB K "SIGNS" ((["=", "!=", "<", "<=", ">", ">="] : List Str).map He.Dv.str)
def hdF111 : TestK := fun K => He.eqO (PySem.W.nsIn K mainGlobals "LONG_SIGNS") (some (some (.ref (He.ga K "LONG_SIGNS"))))
def hdF112 : TestK := fun K => He.tupB K "LONG_SIGNS" ((["!=", "<=", ">="] : List Str).map He.Dv.str)
def hdF113 : TestK := fun K => He.eqO (some (PySem.W.typeIn K (.ref (He.ma K (He.ga K "BadCondition") "__init__")))) (some (some (.type "function")))
def hdF114 : TestK := fun K => He.eqO (some (PySem.W.typeIn K (.ref (He.ma K (He.ga K "WrongToken") "__init__")))) (some (some (.type "function")))
def hdF115 : TestK := fun K => decide (PySem.W.exmOne K (.ref (He.ga K "BadCondition")) (.ref (He.ga K "BadCondition")) = some true)
def hdF116 : TestK := fun K => decide (PySem.W.exmOne K (.ref (He.ga K "WrongToken")) (.ref (He.ga K "WrongToken")) = some true)
def hdF117 : TestK := fun K => decide (PySem.W.kitAny K (.ref (He.ga K "BadCondition")) [.ref (He.ga K "BadStatement"), .ref (He.ga K "BadTable")] = some false)
def hdF118 : TestK := fun K => decide (PySem.W.kitOne K (.ref (He.ga K "BadCondition")) (.ref (He.ga K "NewestrowError")) = some true)
def hdF119 : TestK := fun K => He.eqO (PySem.W.nsIn K mainGlobals "len") (some none)
def hdF120 : TestK := fun K => He.eqO (PySem.W.nsIn K mainGlobals "range") (some none)
def hdF121 : TestK := fun K => He.eqO (PySem.W.nsIn K mainGlobals "abs") (some none)
def hdF122 : TestK := fun K => He.eqO (PySem.W.nsIn K mainGlobals "int") (some none)
def hdF123 : TestK := fun K => He.eqO (PySem.W.nsIn K mainGlobals "str") (some none)
def hdF124 : TestK := fun K => He.eqO (PySem.W.nsIn K mainGlobals "bool") (some none)
def hdF125 : TestK := fun K => He.eqO (PySem.W.nsIn K mainGlobals "tuple") (some none)
def hdF126 : TestK := fun K => He.eqO (PySem.W.nsIn K mainGlobals "list") (some none)
def hdF127 : TestK := fun K => He.eqO (PySem.W.nsIn K mainGlobals "isinstance") (some none)
def hdF128 : TestK := fun K => He.eqO (PySem.W.nsIn K mainGlobals "all") (some none)
def hdF129 : TestK := fun K => He.eqO (PySem.W.nsIn K mainGlobals "any") (some none)
def hdF130 : TestK := fun K => He.eqO (PySem.W.nsIn K mainGlobals "max") (some none)
def hdF131 : TestK := fun K => He.eqO (PySem.W.nsIn K mainGlobals "min") (some none)
def hdF132 : TestK := fun K => He.eqO (PySem.W.nsIn K mainGlobals "enumerate") (some none)
def hdF133 : TestK := fun K => He.eqO (PySem.W.nsIn K mainGlobals "zip") (some none)
def hdF134 : TestK := fun K => He.eqO (PySem.W.nsIn K mainGlobals "repr") (some none)
def hdF135 : TestK := fun K => He.eqO (PySem.W.nsIn K mainGlobals "sum") (some none)
def hdF136 : TestK := fun K => He.eqO (PySem.W.nsIn K mainGlobals "dict") (some none)
def hdD0 : He5.DefA := { at_ := fun K => (He.ga K "copied"), name := "copied", qual := "copied", params := C8.fnArgs s_copied, body := C8.fnBody s_copied, scope := C8.fnScope s_copied }
def hdD1 : He5.DefA := { at_ := fun K => (He.ga K "is_word"), name := "is_word", qual := "is_word", params := C8.fnArgs s_is_word, body := C8.fnBody s_is_word, scope := C8.fnScope s_is_word }
def hdD2 : He5.DefA := { at_ := fun K => (He.ga K "is_number"), name := "is_number", qual := "is_number", params := C8.fnArgs s_is_number, body := C8.fnBody s_is_number, scope := C8.fnScope s_is_number }
def hdD3 : He5.DefA := { at_ := fun K => (He.ga K "split_tokens"), name := "split_tokens", qual := "split_tokens", params := C8.fnArgs s_split_tokens, body := C8.fnBody s_split_tokens, scope := C8.fnScope s_split_tokens }
def hdD4 : He5.DefA := { at_ := fun K => (He.ga K "token_end"), name := "token_end", qual := "token_end", params := C8.fnArgs s_token_end, body := C8.fnBody s_token_end, scope := C8.fnScope s_token_end }
def hdD5 : He5.DefA := { at_ := fun K => (He.ga K "stretch_end"), name := "stretch_end", qual := "stretch_end", params := C8.fnArgs s_stretch_end, body := C8.fnBody s_stretch_end, scope := C8.fnScope s_stretch_end }
def hdD6 : He5.DefA := { at_ := fun K => (He.ga K "joined_tokens"), name := "joined_tokens", qual := "joined_tokens", params := C8.fnArgs s_joined_tokens, body := C8.fnBody s_joined_tokens, scope := C8.fnScope s_joined_tokens }
def hdD7 : He5.DefA := { at_ := fun K => (He.ga K "read_sum"), name := "read_sum", qual := "read_sum", params := C8.fnArgs s_read_sum, body := C8.fnBody s_read_sum, scope := C8.fnScope s_read_sum }
def hdD8 : He5.DefA := { at_ := fun K => (He.ga K "read_term"), name := "read_term", qual := "read_term", params := C8.fnArgs s_read_term, body := C8.fnBody s_read_term, scope := C8.fnScope s_read_term }
def hdD9 : He5.DefA := { at_ := fun K => (He.ga K "sum_value"), name := "sum_value", qual := "sum_value", params := C8.fnArgs s_sum_value, body := C8.fnBody s_sum_value, scope := C8.fnScope s_sum_value }
def hdD10 : He5.DefA := { at_ := fun K => (He.ga K "bits_for"), name := "bits_for", qual := "bits_for", params := C8.fnArgs s_bits_for, body := C8.fnBody s_bits_for, scope := C8.fnScope s_bits_for }
def hdD11 : He5.DefA := { at_ := fun K => (He.ga K "every_bit"), name := "every_bit", qual := "every_bit", params := C8.fnArgs s_every_bit, body := C8.fnBody s_every_bit, scope := C8.fnScope s_every_bit }
def hdD12 : He5.DefA := { at_ := fun K => (He.ga K "both"), name := "both", qual := "both", params := C8.fnArgs s_both, body := C8.fnBody s_both, scope := C8.fnScope s_both }
def hdD13 : He5.DefA := { at_ := fun K => (He.ga K "either"), name := "either", qual := "either", params := C8.fnArgs s_either, body := C8.fnBody s_either, scope := C8.fnScope s_either }
def hdD14 : He5.DefA := { at_ := fun K => (He.ga K "opposite"), name := "opposite", qual := "opposite", params := C8.fnArgs s_opposite, body := C8.fnBody s_opposite, scope := C8.fnScope s_opposite }
def hdD15 : He5.DefA := { at_ := fun K => (He.ga K "compares"), name := "compares", qual := "compares", params := C8.fnArgs s_compares, body := C8.fnBody s_compares, scope := C8.fnScope s_compares }
def hdD16 : He5.DefA := { at_ := fun K => (He.ga K "read_comparison"), name := "read_comparison", qual := "read_comparison", params := C8.fnArgs s_read_comparison, body := C8.fnBody s_read_comparison, scope := C8.fnScope s_read_comparison }
def hdD17 : He5.DefA := { at_ := fun K => (He.ga K "read_name"), name := "read_name", qual := "read_name", params := C8.fnArgs s_read_name, body := C8.fnBody s_read_name, scope := C8.fnScope s_read_name }
def hdD18 : He5.DefA := { at_ := fun K => (He.ga K "read_plain"), name := "read_plain", qual := "read_plain", params := C8.fnArgs s_read_plain, body := C8.fnBody s_read_plain, scope := C8.fnScope s_read_plain }
def hdD19 : He5.DefA := { at_ := fun K => (He.ga K "with_atom"), name := "with_atom", qual := "with_atom", params := C8.fnArgs s_with_atom, body := C8.fnBody s_with_atom, scope := C8.fnScope s_with_atom }
def hdD20 : He5.DefA := { at_ := fun K => (He.ga K "whole_level"), name := "whole_level", qual := "whole_level", params := C8.fnArgs s_whole_level, body := C8.fnBody s_whole_level, scope := C8.fnScope s_whole_level }
def hdD21 : He5.DefA := { at_ := fun K => (He.ga K "read_condition"), name := "read_condition", qual := "read_condition", params := C8.fnArgs s_read_condition, body := C8.fnBody s_read_condition, scope := C8.fnScope s_read_condition }
def hdD22 : He5.DefA := { at_ := fun K => (He.ga K "is_integer"), name := "is_integer", qual := "is_integer", params := C8.fnArgs s_is_integer, body := C8.fnBody s_is_integer, scope := C8.fnScope s_is_integer }
def hdD23 : He5.DefA := { at_ := fun K => (He.ga K "is_tuple_of"), name := "is_tuple_of", qual := "is_tuple_of", params := C8.fnArgs s_is_tuple_of, body := C8.fnBody s_is_tuple_of, scope := C8.fnScope s_is_tuple_of }
def hdD24 : He5.DefA := { at_ := fun K => (He.ga K "is_column"), name := "is_column", qual := "is_column", params := C8.fnArgs s_is_column, body := C8.fnBody s_is_column, scope := C8.fnScope s_is_column }
def hdD25 : He5.DefA := { at_ := fun K => (He.ga K "_law_bag"), name := "_law_bag", qual := "_law_bag", params := C8.fnArgs s__law_bag, body := C8.fnBody s__law_bag, scope := C8.fnScope s__law_bag }
def hdD26 : He5.DefA := { at_ := fun K => (He.ga K "_law_take"), name := "_law_take", qual := "_law_take", params := C8.fnArgs s__law_take, body := C8.fnBody s__law_take, scope := C8.fnScope s__law_take }
def hdD27 : He5.DefA := { at_ := fun K => (He.ga K "_law_of"), name := "_law_of", qual := "_law_of", params := C8.fnArgs s__law_of, body := C8.fnBody s__law_of, scope := C8.fnScope s__law_of }
def hdD28 : He5.DefA := { at_ := fun K => (He.ga K "_law_columns"), name := "_law_columns", qual := "_law_columns", params := C8.fnArgs s__law_columns, body := C8.fnBody s__law_columns, scope := C8.fnScope s__law_columns }
def hdD29 : He5.DefA := { at_ := fun K => (He.ga K "_law_sum"), name := "_law_sum", qual := "_law_sum", params := C8.fnArgs s__law_sum, body := C8.fnBody s__law_sum, scope := C8.fnScope s__law_sum }
def hdD30 : He5.DefA := { at_ := fun K => (He.ga K "_law_sum_tokens"), name := "_law_sum_tokens", qual := "_law_sum_tokens", params := C8.fnArgs s__law_sum_tokens, body := C8.fnBody s__law_sum_tokens, scope := C8.fnScope s__law_sum_tokens }
def hdD31 : He5.DefA := { at_ := fun K => (He.ga K "_law_tree"), name := "_law_tree", qual := "_law_tree", params := C8.fnArgs s__law_tree, body := C8.fnBody s__law_tree, scope := C8.fnScope s__law_tree }
def hdD32 : He5.DefA := { at_ := fun K => (He.ga K "_law_tokens"), name := "_law_tokens", qual := "_law_tokens", params := C8.fnArgs s__law_tokens, body := C8.fnBody s__law_tokens, scope := C8.fnScope s__law_tokens }
def hdD33 : He5.DefA := { at_ := fun K => (He.ga K "_law_spaced"), name := "_law_spaced", qual := "_law_spaced", params := C8.fnArgs s__law_spaced, body := C8.fnBody s__law_spaced, scope := C8.fnScope s__law_spaced }
def hdD34 : He5.DefA := { at_ := fun K => (He.ga K "_law_split"), name := "_law_split", qual := "_law_split", params := C8.fnArgs s__law_split, body := C8.fnBody s__law_split, scope := C8.fnScope s__law_split }
def hdD35 : He5.DefA := { at_ := fun K => (He.ga K "_law_is_word"), name := "_law_is_word", qual := "_law_is_word", params := C8.fnArgs s__law_is_word, body := C8.fnBody s__law_is_word, scope := C8.fnScope s__law_is_word }
def hdD36 : He5.DefA := { at_ := fun K => (He.ga K "_law_is_number"), name := "_law_is_number", qual := "_law_is_number", params := C8.fnArgs s__law_is_number, body := C8.fnBody s__law_is_number, scope := C8.fnScope s__law_is_number }
def hdD37 : He5.DefA := { at_ := fun K => (He.ga K "_law_is_term"), name := "_law_is_term", qual := "_law_is_term", params := C8.fnArgs s__law_is_term, body := C8.fnBody s__law_is_term, scope := C8.fnScope s__law_is_term }
def hdD38 : He5.DefA := { at_ := fun K => (He.ga K "_law_next"), name := "_law_next", qual := "_law_next", params := C8.fnArgs s__law_next, body := C8.fnBody s__law_next, scope := C8.fnScope s__law_next }
def hdD39 : He5.DefA := { at_ := fun K => (He.ga K "_law_stuck"), name := "_law_stuck", qual := "_law_stuck", params := C8.fnArgs s__law_stuck, body := C8.fnBody s__law_stuck, scope := C8.fnScope s__law_stuck }
def hdD40 : He5.DefA := { at_ := fun K => (He.ga K "_law_spoilt"), name := "_law_spoilt", qual := "_law_spoilt", params := C8.fnArgs s__law_spoilt, body := C8.fnBody s__law_spoilt, scope := C8.fnScope s__law_spoilt }
def hdD41 : He5.DefA := { at_ := fun K => (He.ga K "_law_told"), name := "_law_told", qual := "_law_told", params := C8.fnArgs s__law_told, body := C8.fnBody s__law_told, scope := C8.fnScope s__law_told }
def hdD42 : He5.DefA := { at_ := fun K => (He.ga K "_law_text"), name := "_law_text", qual := "_law_text", params := C8.fnArgs s__law_text, body := C8.fnBody s__law_text, scope := C8.fnScope s__law_text }
def hdD43 : He5.DefA := { at_ := fun K => (He.ga K "law"), name := "law", qual := "law", params := C8.fnArgs s_law, body := C8.fnBody s_law, scope := C8.fnScope s_law }
def hdD44 : He5.DefA := { at_ := fun K => (He.ma K (He.ga K "Table") "__init__"), name := "__init__", qual := "Table.__init__", params := C8.fnArgs s_Table____init__, body := C8.fnBody s_Table____init__, scope := C8.fnScope s_Table____init__ }
def hdD45 : He5.DefA := { at_ := fun K => (He.ma K (He.ga K "Table") "all_values"), name := "all_values", qual := "Table.all_values", params := C8.fnArgs s_Table__all_values, body := C8.fnBody s_Table__all_values, scope := C8.fnScope s_Table__all_values }
def hdD46 : He5.DefA := { at_ := fun K => (He.ma K (He.ga K "Condition") "__init__"), name := "__init__", qual := "Condition.__init__", params := C8.fnArgs s_Condition____init__, body := C8.fnBody s_Condition____init__, scope := C8.fnScope s_Condition____init__ }
def hdD47 : He5.DefA := { at_ := fun K => (He.ma K (He.ga K "BadCondition") "__init__"), name := "__init__", qual := "BadCondition.__init__", params := C8.fnArgs s_BadCondition____init__, body := C8.fnBody s_BadCondition____init__, scope := C8.fnScope s_BadCondition____init__ }
def hdD48 : He5.DefA := { at_ := fun K => (He.ma K (He.ga K "WrongToken") "__init__"), name := "__init__", qual := "WrongToken.__init__", params := C8.fnArgs s_WrongToken____init__, body := C8.fnBody s_WrongToken____init__, scope := C8.fnScope s_WrongToken____init__ }
def hdFsA_0 : List TestK := [hdF0, hdF1, hdF2, hdF3, hdF4, hdF5, hdF6, hdF7, hdF8, hdF9, hdF10, hdF11, hdF12, hdF13, hdF14, hdF15, hdF16, hdF17, hdF18, hdF19, hdF20, hdF21, hdF22, hdF23, hdF24, hdF25, hdF26, hdF27, hdF28, hdF29]
def hdFsA_1 : List TestK := [hdF30, hdF31, hdF32, hdF33, hdF34, hdF35, hdF36, hdF37, hdF38, hdF39, hdF40, hdF41, hdF42, hdF43, hdF44, hdF45, hdF46, hdF47, hdF48, hdF49, hdF50, hdF51, hdF52, hdF53, hdF54, hdF55, hdF56, hdF57, hdF58, hdF59]
def hdFsA_2 : List TestK := [hdF60, hdF61, hdF62, hdF63, hdF64, hdF65, hdF66, hdF67, hdF68]
def hdFsA : List TestK := hdFsA_0 ++ (hdFsA_1 ++ (hdFsA_2))
def hdFsB_0 : List TestK := [hdF69, hdF70, hdF71, hdF72, hdF73, hdF74, hdF75, hdF76, hdF77, hdF78, hdF79, hdF80, hdF81, hdF82, hdF83, hdF84, hdF85, hdF86, hdF87, hdF88, hdF89, hdF90, hdF91, hdF92, hdF93, hdF94, hdF95, hdF96, hdF97, hdF98]
def hdFsB_1 : List TestK := [hdF99, hdF100, hdF101, hdF102, hdF103, hdF104, hdF105, hdF106, hdF107, hdF108, hdF109, hdF110, hdF111, hdF112, hdF113, hdF114, hdF115, hdF116, hdF117, hdF118, hdF119, hdF120, hdF121, hdF122, hdF123, hdF124, hdF125, hdF126, hdF127, hdF128]
def hdFsB_2 : List TestK := [hdF129, hdF130, hdF131, hdF132, hdF133, hdF134, hdF135, hdF136]
def hdFsB : List TestK := hdFsB_0 ++ (hdFsB_1 ++ (hdFsB_2))
def hdFs : List TestK := hdFsA ++ hdFsB
def hdDsA_0 : List He5.DefA := [hdD0, hdD1, hdD2, hdD3, hdD4, hdD5, hdD6, hdD7, hdD8, hdD9, hdD10, hdD11, hdD12, hdD13, hdD14, hdD15, hdD16, hdD17, hdD18, hdD19, hdD20, hdD21, hdD22, hdD23, hdD24]
def hdDsA : List He5.DefA := hdDsA_0
def hdDsB_0 : List He5.DefA := [hdD25, hdD26, hdD27, hdD28, hdD29, hdD30, hdD31, hdD32, hdD33, hdD34, hdD35, hdD36, hdD37, hdD38, hdD39, hdD40, hdD41, hdD42, hdD43, hdD44, hdD45, hdD46, hdD47, hdD48]
def hdDsB : List He5.DefA := hdDsB_0
def hdDs : List He5.DefA := hdDsA ++ hdDsB
def hdTsA : List He.Tab := []
def hdTsB : List He.Tab := []
def hdTs : List He.Tab := hdTsA ++ hdTsB
def hdN_0 : List Str := ["__name__", "copied", "NewestrowError", "BadTable", "BadCondition", "BadStatement", "LETTERS", "DIGITS", "LONG_SIGNS", "WrongToken", "is_word", "is_number", "split_tokens", "token_end", "stretch_end", "joined_tokens", "read_sum", "read_term", "sum_value", "SIGNS", "bits_for", "every_bit", "both", "either", "opposite", "compares", "read_comparison", "read_name", "read_plain", "with_atom"]
def hdN_1 : List Str := ["whole_level", "read_condition", "put_together", "Condition", "is_integer", "is_tuple_of", "RESERVED", "is_column", "Table", "_law_bag", "_law_take", "_law_of", "_law_columns", "_law_sum", "_law_sum_tokens", "_law_tree", "_law_tokens", "_law_spaced", "_law_split", "_law_is_word", "_law_is_number", "_law_is_term", "_law_next", "_law_stuck", "_law_spoilt", "_law_told", "_law_text"]
def hdN : List Str := hdN_0 ++ (hdN_1)
abbrev hdR : PySem.W.OpenRow := PySem.W.OpenLaw.row PySem.Challenge.rw_newestrow_k04_conditions_refused
abbrev hdQ : Program := PySem.W.view hdR.prog [62]
abbrev hdK : PySem.W.Hook := hookN 1000 hdFs hdDs hdTs
def hdO (s : PySem.W.SharedT) : He.AlT := lookN hdFs hdDs hdTs (partN 1000 (HandSHeadRun.getT s))
theorem hdO_eq (s : PySem.W.SharedT) : hdO s = hdK.obs s.abs := seenN_eq s
def hdOA (s : PySem.W.SharedT) : He.AlT := lookN hdFsA hdDsA hdTsA (partN 1000 (HandSHeadRun.getT s))
theorem hd_run0A (w : World) : HandSHeadRun.RunEq hdR hdQ (hookN 1000 hdFsA hdDsA hdTsA) hdOA 9000 hdN (w.withFollow "special-get-raises" false) := by
  intro os
  kernel_rfl
theorem hd_run1A (w : World) : HandSHeadRun.RunEq hdR hdQ (hookN 1000 hdFsA hdDsA hdTsA) hdOA 9000 hdN (w.withFollow "special-get-raises" true) := by
  intro os
  kernel_rfl
def hdOB (s : PySem.W.SharedT) : He.AlT := lookN hdFsB hdDsB hdTsB (partN 1000 (HandSHeadRun.getT s))
theorem hd_run0B (w : World) : HandSHeadRun.RunEq hdR hdQ (hookN 1000 hdFsB hdDsB hdTsB) hdOB 9000 hdN (w.withFollow "special-get-raises" false) := by
  intro os
  kernel_rfl
theorem hd_run1B (w : World) : HandSHeadRun.RunEq hdR hdQ (hookN 1000 hdFsB hdDsB hdTsB) hdOB 9000 hdN (w.withFollow "special-get-raises" true) := by
  intro os
  kernel_rfl
theorem hd_run0 (w : World) : HandSHeadRun.RunEq hdR hdQ hdK hdO 9000 hdN (w.withFollow "special-get-raises" false) := runEq_app (f1 := hdFsA) (f2 := hdFsB) (d1 := hdDsA) (d2 := hdDsB) (t1 := hdTsA) (t2 := hdTsB) (hd_run0A w) (hd_run0B w)
theorem hd_run1 (w : World) : HandSHeadRun.RunEq hdR hdQ hdK hdO 9000 hdN (w.withFollow "special-get-raises" true) := runEq_app (f1 := hdFsA) (f2 := hdFsB) (d1 := hdDsA) (d2 := hdDsB) (t1 := hdTsA) (t2 := hdTsB) (hd_run1A w) (hd_run1B w)
theorem hd_run (w : World) : HandSHeadRun.RunEq hdR hdQ hdK hdO 9000 hdN w := PySem.W.byRow2 "special-get-raises" (P := fun w => HandSHeadRun.RunEq hdR hdQ hdK hdO 9000 hdN w) hd_run0 hd_run1 w
end Nw
namespace Nw
open PySem L2 PySem.Spec PyProof.Rows RZ
section
variable {P : Program} {w : World} {K : PySem.W.Frag} {mg : Str → Option Value} {base : Heap}
theorem isInteger {f : Addr} {fd : FuncData} (F : C8.Def K mg "is_integer" s_is_integer f fd) (b : Binds K fd P_is_integer []) (T : Names K mg) : C8.Cal P w K mg base 1 "is_integer" spIsInt [] := by
  refine C8.cal0 (N := N_is_integer) F b .nil sc_is_integer (fun vs H Q E h => ?_) (fun cdv A outer s H vs Q E hr h => ?_)
  · obtain ⟨v, rfl, _⟩ := h
    rfl
  · obtain ⟨v, rfl, hp, k⟩ := h
    refine ⟨_, (pss_one (ps_ret (pe_and (pe_callB call_isi (by rfl) T.n_isinstance (by decide +kernel) (pa_cons (pv 0) (pa_cons (pe_bltn (v := .ty "int") (u := .type "int") (by rfl) T.n_int (by decide +kernel) rfl) pa_nil))) (pe_one (pe_not (pe_callB call_isi (by rfl) T.n_isinstance (by decide +kernel) (pa_cons (pv 0) (pa_cons (pe_bltn (v := .ty "bool") (u := .type "bool") (by rfl) T.n_bool (by decide +kernel) rfl) pa_nil)))))))), ?_⟩
    cases v with
    | non => exact ⟨_, rfl, _, _, _, _, false, rfl, .ty _, .base .non, kit_ty (by decide +kernel), _, rfl, iteF k⟩
    | bl q => exact ⟨_, rfl, _, _, _, _, true, rfl, .ty _, .base (.bl q), kit_ty (by decide +kernel), _, rfl, iteT ⟨_, rfl, _, _, _, _, true, rfl, .ty _, .base (.bl q), kit_ty (by decide +kernel), _, rfl, k⟩⟩
    | int i => exact ⟨_, rfl, _, _, _, _, true, rfl, .ty _, .base (.int i), kit_ty (by decide +kernel), _, rfl, iteT ⟨_, rfl, _, _, _, _, false, rfl, .ty _, .base (.int i), kit_ty (by decide +kernel), _, rfl, k⟩⟩
    | str z => exact ⟨_, rfl, _, _, _, _, false, rfl, .ty _, .base (.str z), kit_ty (by decide +kernel), _, rfl, iteF k⟩
    | ref a =>
      rcases hp with ⟨xs, h⟩ | ⟨xs, h⟩
      · exact ⟨_, rfl, _, _, _, _, false, rfl, .ty _, .base (.lst h), kit_ty (by decide +kernel), _, rfl, iteF k⟩
      · exact ⟨_, rfl, _, _, _, _, false, rfl, .ty _, .base (.tup h), kit_ty (by decide +kernel), _, rfl, iteF k⟩
    | byt q => exact hp.elim
    | flt q => exact hp.elim
    | ty n => exact hp.elim
theorem isTupleOf {f : Addr} {fd : FuncData} (F : C8.Def K mg "is_tuple_of" s_is_tuple_of f fd) (b : Binds K fd P_is_tuple_of []) (T : Names K mg) : C8.Cal P w K mg base 1 "is_tuple_of" spTupOf [] := by
  refine C8.cal0 (N := N_is_tuple_of) F b .nil sc_is_tuple_of (fun vs H Q E h => ?_) (fun cdv A outer s H vs Q E hr h => ?_)
  · obtain ⟨v, n, d, G, rfl, _⟩ := h
    rfl
  · obtain ⟨v, n, d, G, rfl, hd, sG, k⟩ := h
    refine ⟨_, (pss_one (ps_ret (pe_and (pe_callB call_isi (by rfl) T.n_isinstance (by decide +kernel) (pa_cons (pv 0) (pa_cons (pe_bltn (v := .ty "tuple") (u := .type "tuple") (by rfl) T.n_tuple (by decide +kernel) rfl) pa_nil))) (pe_one (pe_cmpR op_eq (pe_callB call_len_seq (by rfl) T.n_len PySem.boot_len (pa_cons (pv 0) pa_nil)) (pv 1) (nomark _)))))), ?_⟩
    cases hd with
    | non => exact ⟨_, rfl, _, _, _, _, false, rfl, .ty _, .base .non, kit_ty (by decide +kernel), _, rfl, iteF k⟩
    | bl q => exact ⟨_, rfl, _, _, _, _, false, rfl, .ty _, .base (.bl q), kit_ty (by decide +kernel), _, rfl, iteF k⟩
    | int i => exact ⟨_, rfl, _, _, _, _, false, rfl, .ty _, .base (.int i), kit_ty (by decide +kernel), _, rfl, iteF k⟩
    | str z => exact ⟨_, rfl, _, _, _, _, false, rfl, .ty _, .base (.str z), kit_ty (by decide +kernel), _, rfl, iteF k⟩
    | lst h da => exact ⟨_, rfl, _, _, _, _, false, rfl, .ty _, .base (.lst (sG _ _ h)), kit_ty (by decide +kernel), _, rfl, iteF k⟩
    | @tup a xs ds h da =>
      refine ⟨_, rfl, _, _, _, _, true, rfl, .ty _, .base (.tup (sG _ _ h)), kit_ty (by decide +kernel), _, rfl, iteT ⟨_, rfl, a, _, rfl, .inr (SqT.of (sG _ _ h)), _, rfl, rfl, ?_⟩⟩
      have e : decide (V.int ((xs.length : Nat) : Int) = V.int n) = tupLen (.tuple ds) n := by
        rw [da.length]
        show _ = decide (((ds.length : Nat) : Int) = n)
        by_cases c : ((ds.length : Nat) : Int) = n
        · rw [c, decide_eq_true rfl, decide_eq_true rfl]
        · rw [decide_eq_false c, decide_eq_false (fun q => c (by injection q))]
      rw [← e] at k
      exact k
theorem isWord_ {f : Addr} {fd : FuncData} (F : C8.Def K mg "is_word" s_is_word f fd) (b : Binds K fd P_is_word []) (T : Names K mg) : C8.Cal P w K mg base 1 "is_word" spWord [] := by
  refine C8.cal0 (N := N_is_word) F b .nil sc_is_word (fun vs H Q E h => ?_) (fun cdv A outer s H vs Q E hr h => ?_)
  · obtain ⟨v, G, rfl, _⟩ := h
    rfl
  · obtain ⟨v, G, rfl, hp, sG, hz, k⟩ := h
    refine ⟨_, (pss_one (ps_ret (pe_and (pe_callB call_isi (by rfl) T.n_isinstance (by decide +kernel) (pa_cons (pv 0) (pa_cons (pe_bltn (v := .ty "str") (u := .type "str") (by rfl) T.n_str (by decide +kernel) rfl) pa_nil))) (pe_and (pe_chain op_le op_le pe_int (pe_callB call_len_str (by rfl) T.n_len PySem.boot_len (pa_cons (pv 0) pa_nil)) pe_int) (pe_one (pe_callB (cr_all rfl) (by rfl) T.n_all (by decide +kernel) (pa_cons (pe_lc (own := [("letter", 1)]) (g := (gName 1)) (tt := tYes) rfl sc_is_word.nd (pi_str (pv 0)) (blkOk_by (own := [("letter", 1)]) (N := N_is_word) (sc := C8.fnScope s_is_word) (by decide +kernel)) (fun _ _ _ _ _ => (pg_name (i := 1) sc_is_word.nd rfl (Or.inl rfl))) (fun _ _ _ _ _ => pts_nil) (fun _ _ _ _ _ => (pe_cmpR op_in_sign (pv 1) (C8.pe_gc rfl T.g_LETTERS) (by rfl)))) pa_nil))))))), ?_⟩
    have k0 := k H (Xt.refl sG)
    cases v with
    | non => exact ⟨_, rfl, _, _, _, _, false, rfl, .ty _, .base .non, kit_ty (by decide +kernel), _, rfl, iteF k0⟩
    | bl q => exact ⟨_, rfl, _, _, _, _, false, rfl, .ty _, .base (.bl q), kit_ty (by decide +kernel), _, rfl, iteF k0⟩
    | int i => exact ⟨_, rfl, _, _, _, _, false, rfl, .ty _, .base (.int i), kit_ty (by decide +kernel), _, rfl, iteF k0⟩
    | ref a =>
      rcases hp with ⟨xs, h⟩ | ⟨xs, h⟩
      · exact ⟨_, rfl, _, _, _, _, false, rfl, .ty _, .base (.lst h), kit_ty (by decide +kernel), _, rfl, iteF k0⟩
      · exact ⟨_, rfl, _, _, _, _, false, rfl, .ty _, .base (.tup h), kit_ty (by decide +kernel), _, rfl, iteF k0⟩
    | byt q => exact hp.elim
    | flt q => exact hp.elim
    | ty n => exact hp.elim
    | str z =>
      have hz' : z.length ≤ 10000 := hz z rfl
      refine ⟨_, rfl, _, _, _, _, true, rfl, .ty _, .base (.str z), kit_ty (by decide +kernel), _, rfl, iteT ?_⟩
      refine ⟨_, rfl, z, rfl, small_line (by omega), _, _, rfl, rfl, _, rfl, ?_⟩
      by_cases c1 : 1 ≤ z.length
      · rw [decide_eq_true (by omega : (1 : Int) ≤ (z.length : Int))]
        refine iteT ⟨_, _, rfl, rfl, _, rfl, ?_⟩
        by_cases c2 : z.length ≤ 8
        · rw [decide_eq_true (by omega : (z.length : Int) ≤ 8)]
          refine iteT ⟨_, rfl, z, rfl, fun Dl hD => ?_⟩
          refine lc_data (b := none) (R := fun _ _ => True) (G := G) walk_str (z.cps.toList.map fun c => .bool (letter c)) (by simp) (by show z.length < 100000; omega) hD sG (fun q => by cases q) trivial (fun _ _ _ _ => trivial) (fun _ _ _ _ _ => trivial) ?_ ?_
          · intro i x H1 G1 H2 d hd X1 _ ⟨e, c, hc, ex⟩ Qy hq
            subst e ex
            have ed : d = .bool (letter c) := by
              rw [List.getElem?_map, Array.getElem?_toList, hc] at hd
              exact (Option.some.inj hd).symm
            subst ed
            exact ⟨rfl, _, rfl, c, LET, rfl, rfl, hq _ _ _ (Xt.refl X1.sub) trivial (.bl _)⟩
          · intro H1 G1 xs X1 _ hl hg da
            have e := DA.bools (ns := z.cps.toList.map letter) (by rw [List.map_map]; exact da)
            refine ⟨Dl, _, rfl, SqL.of (by rw [hl, e]), ?_⟩
            have X2 : Xt none H G H1 G := ⟨X1.sub0, fun _ _ h => h, fun a o h => X1.sub a o (X1.gg a o h), X1.hh, X1.th, fun a o h => .inl h⟩
            have q := k H1 X2
            have e2 : isWord (.str z) = (z.cps.toList.map letter).all id := by
              show (decide (1 ≤ z.length) && decide (z.length ≤ 8) && z.cps.toList.all letter) = _
              rw [decide_eq_true c1, decide_eq_true c2, List.all_map]
              rfl
            rw [e2] at q
            exact q
        · rw [decide_eq_false (by omega : ¬ (z.length : Int) ≤ 8)]
          refine iteF ?_
          have e2 : isWord (.str z) = false := by
            show (decide (1 ≤ z.length) && decide (z.length ≤ 8) && z.cps.toList.all letter) = _
            rw [decide_eq_false c2]; simp
          rw [e2] at k0
          exact k0
      · rw [decide_eq_false (by omega : ¬ (1 : Int) ≤ (z.length : Int))]
        refine iteF ⟨_, rfl, iteF ?_⟩
        have e2 : isWord (.str z) = false := by
          show (decide (1 ≤ z.length) && decide (z.length ≤ 8) && z.cps.toList.all letter) = _
          rw [decide_eq_false c1]; simp
        rw [e2] at k0
        exact k0
theorem isColumn {f : Addr} {fd : FuncData} (F : C8.Def K mg "is_column" s_is_column f fd) (b : Binds K fd P_is_column []) (T : Names K mg) (c_is_word : C8.Cal P w K mg base 1 "is_word" spWord []) (c_is_integer : C8.Cal P w K mg base 1 "is_integer" spIsInt []) (c_is_tuple_of : C8.Cal P w K mg base 1 "is_tuple_of" spTupOf []) : C8.Cal P w K mg base 2 "is_column" spCol [] := by
  refine C8.cal0 (N := N_is_column) F b .nil sc_is_column (fun vs H Q E h => ?_) (fun cdv A outer s H vs Q E hr h => ?_)
  · obtain ⟨v, d, G, rfl, _⟩ := h
    rfl
  · obtain ⟨v, d, G, rfl, hd, hsh, sG, k⟩ := h
    obtain ⟨ra, ru, rs⟩ := T.g_RESERVED
    have T_ := T
    have g_RESERVED := ru
    refine ⟨_, (pss_cons (ps_if (pt_not (pt_val (C8.pe_c c_is_tuple_of hr (by decide) rfl (pa_cons (pv 0) (pa_cons pe_int pa_nil))))) (pss_one (ps_ret pe_bl)) pss_nil)
 (pss_cons (ps_asg (pv 0) (pg_tup rfl (pgs_cons (pg_name (i := 1) sc_is_column.nd rfl (Or.inl rfl)) (pgs_cons (pg_name (i := 2) sc_is_column.nd rfl (Or.inl rfl)) pgs_nil))))
 (pss_one (ps_ret (pe_and (C8.pe_c c_is_word hr (by decide) rfl (pa_cons (pv 1) pa_nil)) (pe_and (pe_cmpR op_notIn_seq (pv 1) (C8.pe_gc rfl g_RESERVED) (by rfl)) (pe_and (C8.pe_c c_is_integer hr (by decide) rfl (pa_cons (pv 2) pa_nil)) (pe_one (pe_chain op_le op_le pe_int (pv 2) pe_int))))))))), ?_⟩
    have k0 := k H (Xt.refl sG)
    refine ⟨_, rfl, v, 2, d, G, rfl, hd, sG, _, rfl, ?_⟩
    cases hd with
    | non => exact k0
    | bl q => exact k0
    | int i => exact k0
    | str z => exact k0
    | lst h da => exact k0
    | @tup a xs ds h da =>
      have hT := sG _ _ h
      by_cases c2 : ds.length = 2
      · have e2 : tupLen (.tuple ds) 2 = true := by
          show decide _ = true
          rw [c2]; rfl
        rw [e2]
        refine iteF ?_
        match ds, xs, da, c2 with
        | [d1, d2], [x1, x2], .cons h1 (.cons h2 .nil), _ =>
          refine ⟨_, rfl, a, _, rfl, SqT.of hT, rfl, _, _, rfl, _, _, rfl, rfl, ?_⟩
          have short : ∀ z, x1 = .str z → z.length ≤ 10000 := fun z e => by
            subst e; cases h1; exact hsh
          refine ⟨_, rfl, x1, G, rfl, h1.plain sG, sG, short, fun H1 X1 => ⟨_, rfl, ?_⟩⟩
          have k1 := k H1 X1
          cases hw : isWord x1 with
          | false =>
            refine iteF ?_
            have e3 : isCol (.tuple [d1, d2]) = false := by
              cases h1 with
              | str z =>
                have : isWordS z = false := hw
                cases d2 <;> simp [isCol, this]
              | _ => rfl
            rw [e3] at k1
            exact k1
          | true =>
            cases h1 with
            | str z =>
              have hw' : isWordS z = true := hw
              refine iteT ⟨_, rfl, ra, _, rfl, .inr (rs H1), rfl, (by decide +kernel), _, rfl, ?_⟩
              rw [inV_strs]
              by_cases hr : z ∈ RES
              · rw [decide_eq_true hr]
                refine iteF ?_
                have e3 : isCol (.tuple [.str z, d2]) = false := by cases d2 <;> simp [isCol, hr]
                rw [e3] at k1
                exact k1
              · rw [decide_eq_false hr]
                refine iteT ⟨_, rfl, x2, rfl, (h2.plain X1.sub), _, rfl, ?_⟩
                cases h2 with
                | int i =>
                  refine iteT ⟨_, rfl, _, _, rfl, rfl, _, rfl, ?_⟩
                  have e3 : isCol (.tuple [.str z, .int i]) = (decide (1 ≤ i) && decide (i ≤ 3)) := by simp [isCol, hw', hr]
                  rw [e3] at k1
                  refine ite2 (fun c3 => ?_) (fun c3 => ?_)
                  · rw [decide_eq_true (of_decide_eq_true c3)] at k1
                    exact ⟨_, _, rfl, rfl, k1⟩
                  · rw [decide_eq_false (fun q => c3 (decide_eq_true q))] at k1
                    exact k1
                | _ =>
                  refine iteF ?_
                  exact k1
            | non => cases hw
            | bl q => cases hw
            | int i => cases hw
            | lst _ _ => cases hw
            | tup _ _ => cases hw
      · have e2 : tupLen (.tuple ds) 2 = false := decide_eq_false (fun q => c2 (by omega))
        rw [e2]
        refine iteT ?_
        have e3 : isCol (.tuple ds) = false := by
          match ds, c2 with
          | [], _ => rfl
          | [.str _], _ => rfl
          | [.none], _ => rfl
          | [.bool _], _ => rfl
          | [.int _], _ => rfl
          | [.list _], _ => rfl
          | [.tuple _], _ => rfl
          | [.dict _], _ => rfl
          | _ :: _ :: _ :: _, _ => simp [isCol]
          | [_, _], c2 => exact absurd rfl c2
        rw [e3] at k0
        exact k0
end
end Nw
namespace Nw
open PySem L2 PySem.Spec PyProof.Rows RZ
def spBits (P : Program) (w : World) : Sp := fun vs H Q _ => ∃ (d : Addr) (k : Leaf) (m : Nk) (G : Hp), vs = [.ref d, nV k] ∧ Mn P w G d m ∧ Same G H ∧ Q (.int (mv m k)) H
/-- of two meanings a third, name by name -/
def spTwo (P : Program) (w : World) (op : Int → Int → Int) : Sp := fun vs H Q _ => ∃ (a b : Addr) (m n : Nk) (G : Hp), vs = [.ref a, .ref b] ∧ Mn P w G a m ∧ Mn P w G b n ∧ m.length + n.length ≤ 1000 ∧ Same G H ∧
  ∀ (p : Addr) (r : Nk) (H' G' : Hp), Xt none H G H' G' → Mn P w G' p r → r.length ≤ m.length + n.length → (∀ k, mv r k = op (mv m k) (mv n k)) → (∀ k, k ∈ r.map (·.1) ↔ k ∈ m.map (·.1) ∨ k ∈ n.map (·.1)) → Q (.ref p) H'
theorem mv_out {m : Nk} {k : Leaf} (h : k ∉ m.map (·.1)) : mv m k = mv m .none := by
  have e : valV m k = none := by
    cases c : valV m k with
    | none => rfl
    | some v => exact absurd (valV_keys.mp (by rw [c]; rfl)) h
  unfold mv
  rw [e]
  cases valV m .none <;> rfl
section
variable {P : Program} {w : World} {K : PySem.W.Frag} {mg : Str → Option Value} {base : Heap}
theorem bitsFor {f : Addr} {fd : FuncData} (F : C8.Def K mg "bits_for" s_bits_for f fd) (b : Binds K fd P_bits_for []) : C8.Cal P w K mg base 1 "bits_for" (spBits P w) [] := by
  refine C8.cal0 (N := N_bits_for) F b .nil sc_bits_for (fun vs H Q E h => ?_) (fun cdv A outer s H vs Q E hr h => ?_)
  · obtain ⟨d, k, m, G, rfl, _⟩ := h
    rfl
  · obtain ⟨d, k, m, G, rfl, hm, sG, q⟩ := h
    refine ⟨_, pss_one (ps_ret (pe_nget (pv 0) (pv 1) (pe_nat (pv 0) pe_non (fun _ _ => rfl)) ⟨rfl, rfl, rfl, rfl⟩)), ?_⟩
    have rd := hm.rd sG
    obtain ⟨i, hi⟩ := hm.2.hasN
    refine ⟨_, rfl, d, m, rfl, rd, _, rfl, _, rfl, d, m, .none, _, rfl, rd, rfl, hi, k, rd, rfl, ?_⟩
    have e := hm.2.get k
    rw [hi] at e
    show Q ((valV m k).getD (.int i)) H
    rw [show (valV m k).getD (.int i) = .int (mv m k) from e]
    exact q
/-- the reading of such a comprehension -/
theorem two_ok {op : Int → Int → Int} {a b : Addr} {m n : Nk} {H G : Hp} {Q : VK} (hm : Mn P w G a m) (hn : Mn P w G b n) (hl : m.length + n.length ≤ 1000) (sG : Same G H)
    (k : ∀ (p : Addr) (r : Nk) (H' G' : Hp), Xt none H G H' G' → Mn P w G' p r → r.length ≤ m.length + n.length → (∀ k, mv r k = op (mv m k) (mv n k)) → (∀ k, k ∈ r.map (·.1) ↔ k ∈ m.map (·.1) ∨ k ∈ n.map (·.1)) → Q (.ref p) H') :
    tFrz (tNDc P w (iList K (tLst (tStarN P w (tVar 0) (tStarN P w (tVar 1) tNil)))) (gName 2) tYes (tVar 2) (tOp (rI0 fun i j => .int (op i j)) (tCall (spBits P w) [] C8.E0 (tCons (tVar 0) (tCons (tVar 2) tNil))) (tCall (spBits P w) [] C8.E0 (tCons (tVar 1) (tCons (tVar 2) tNil)))) [2])
      [some (.ref a), some (.ref b), none] H Q := by
  have nm : ∀ kv ∈ m, noNum kv.1 := fun kv h => (hm.2.isI kv h).1
  have nn : ∀ kv ∈ n, noNum kv.1 := fun kv h => (hn.2.isI kv h).1
  refine ⟨_, rfl, a, m, rfl, hm.rd sG, nm, _, rfl, b, n, rfl, hn.rd sG, nn, ?_⟩
  have ll : ((m.map fun (kv : Leaf × V) => nV kv.1) ++ ((n.map fun (kv : Leaf × V) => nV kv.1) ++ [])).length = m.length + n.length := by rw [List.append_nil, List.length_append, List.length_map, List.length_map]
  refine ⟨by rw [ll]; exact Nat.le_trans hl (by decide), fun l hl0 => ?_⟩
  have X1 := Xt.alloc (Xt.refl (b := none) sG) (o := .lst ((m.map fun (kv : Leaf × V) => nV kv.1) ++ ((n.map fun (kv : Leaf × V) => nV kv.1) ++ []))) hl0
  have gl : upd G l (.lst ((m.map fun (kv : Leaf × V) => nV kv.1) ++ ((n.map fun (kv : Leaf × V) => nV kv.1) ++ []))) l = some (.lst ((m.map fun (kv : Leaf × V) => nV kv.1) ++ ((n.map fun (kv : Leaf × V) => nV kv.1) ++ []))) := upd_same
  obtain ⟨ks, eks⟩ : ∃ ks : List Leaf, ks = m.map (·.1) ++ n.map (·.1) := ⟨_, rfl⟩
  have ev : (m.map fun (kv : Leaf × V) => nV kv.1) ++ ((n.map fun (kv : Leaf × V) => nV kv.1) ++ []) = ks.map nV := by rw [eks, List.append_nil, List.map_append, List.map_map, List.map_map]; rfl
  have kl : ks.length = m.length + n.length := by rw [eks, List.length_append, List.length_map, List.length_map]
  have knn : ∀ k ∈ ks, noNum k := fun k h => by
    rw [eks] at h
    rcases List.mem_append.mp h with h | h
    · obtain ⟨kv, h1, rfl⟩ := List.mem_map.mp h
      exact nm kv h1
    · obtain ⟨kv, h1, rfl⟩ := List.mem_map.mp h
      exact nn kv h1
  have k0 : Leaf.none ∈ ks := by
    obtain ⟨i, hi⟩ := hm.2.hasN
    rw [eks]
    exact List.mem_append.mpr (.inl (valV_keys.mp (by rw [hi]; rfl)))
  rw [ev] at X1 gl ⊢
  refine ⟨l, rfl, ⟨_, SqL.of upd_same⟩, fun D hD => ?_⟩
  refine ndc_it (P := P) (w_ := w) (walk_list (xs := ks.map nV)) (fun i H' => ∃ (G' : Hp) (kvs : Nk), Xt none H G H' G' ∧ Same (upd G l (.lst (ks.map nV))) G' ∧ H' D = some (dN P w D kvs) ∧ G' D = none ∧ Acc (fun k => op (mv m k) (mv n k)) ks i kvs) ?_ ?_ ?_ ?_
  · exact ⟨_, [], X1.allocT hD, fun _ _ h => h, upd_same, X1.sub.free hD, .nil⟩
  · rintro i H' hi ⟨G', kvs, X, s2, _⟩
    exact SqL.of (X.sub _ _ (s2 _ _ gl))
  · rintro i y H3 H4 hi ⟨G', kvs, X, s2, h3, g3, acc⟩ ⟨rfl, hy⟩
    obtain ⟨k', hk', rfl⟩ : ∃ k', ks[i]? = some k' ∧ y = nV k' := by
      rw [List.getElem?_map] at hy
      cases e : ks[i]? with
      | none => rw [e] at hy; cases hy
      | some k' =>
        rw [e] at hy
        exact ⟨k', rfl, (Option.some.inj hy).symm⟩
    have s3 : Same G G' := X.gg
    have D0 : H D = none := X1.fresh hD
    refine ⟨rfl, _, rfl, _, rfl, _, rfl, a, k', m, G', rfl, hm.mono s3, X.sub, ?_⟩
    refine ⟨_, rfl, _, rfl, b, k', n, G', rfl, hn.mono s3, X.sub, _, _, rfl, rfl, kvs, k', rfl, h3, ?_, ?_⟩
    · have := acc.len
      rw [List.length_map] at hi
      exact small_lt (by omega)
    · exact ⟨G', _, X.set D0 g3, s2, upd_same, g3, acc.step hk'⟩
  · rintro H3 ⟨G', kvs, X, s2, h3, g3, acc⟩
    have D0 : H D = none := X1.fresh hD
    rw [List.length_map] at acc
    obtain ⟨a1, a2, a3⟩ := acc.done knn k0 (by omega)
    refine ⟨D, _, rfl, h3, True.intro, fun od => ?_⟩
    have X5 := (X.set (o := .frz od (dN P w D kvs)) D0 g3).fix D0 upd_same
    refine k D kvs _ _ X5 ⟨⟨od, upd_same⟩, a1⟩ (by have := acc.len; omega) (fun j => ?_) (fun j => ?_)
    · rw [a2 j]
      by_cases c : j ∈ ks
      · rw [if_pos c]
      · rw [if_neg c]
        have c1 : j ∉ m.map (·.1) := fun q => c (by rw [eks]; exact List.mem_append.mpr (.inl q))
        have c2 : j ∉ n.map (·.1) := fun q => c (by rw [eks]; exact List.mem_append.mpr (.inr q))
        rw [mv_out c1, mv_out c2]
    · rw [a3 j, eks, List.mem_append]
theorem both_ {f : Addr} {fd : FuncData} (F : C8.Def K mg "both" s_both f fd) (b : Binds K fd P_both []) (c_bits_for : C8.Cal P w K mg base 1 "bits_for" (spBits P w) []) : C8.Cal P w K mg base 2 "both" (spTwo P w Builtin.bitAnd) [] := by
  refine C8.cal0 (N := N_both) F b .nil sc_both (fun vs H Q E h => ?_) (fun cdv A outer s H vs Q E hr h => ?_)
  · obtain ⟨d, k, m, n, G, rfl, _⟩ := h
    rfl
  · obtain ⟨a, b, m, n, G, rfl, hm, hn, hl, sG, k⟩ := h
    refine ⟨_, pss_one (ps_ret (pe_frz (pe_ndc (own := [("name", 2)]) (g := gName 2) (tt := tYes) rfl sc_both.nd (pi_list (pe_lst (pa_starN rfl (pv 0) (pa_starN rfl (pv 1) pa_nil)))) (blkOk_by (own := [("name", 2)]) (N := N_both) (sc := C8.fnScope s_both) (by decide +kernel))
      (fun _ _ _ _ _ => pg_name (i := 2) sc_both.nd rfl (Or.inl rfl)) (fun _ _ _ _ _ => pts_nil) (fun _ _ _ _ _ => pv 2)
      (fun _ _ _ _ _ => pe_op op_and (C8.pe_c c_bits_for (by exact hr) (by decide) rfl (pa_cons (pv 0) (pa_cons (pv 2) pa_nil))) (C8.pe_c c_bits_for (by exact hr) (by decide) rfl (pa_cons (pv 1) (pa_cons (pv 2) pa_nil))))))), ?_⟩
    exact two_ok hm hn hl sG k
theorem either_ {f : Addr} {fd : FuncData} (F : C8.Def K mg "either" s_either f fd) (b : Binds K fd P_either []) (c_bits_for : C8.Cal P w K mg base 1 "bits_for" (spBits P w) []) : C8.Cal P w K mg base 2 "either" (spTwo P w Builtin.bitOr) [] := by
  refine C8.cal0 (N := N_either) F b .nil sc_either (fun vs H Q E h => ?_) (fun cdv A outer s H vs Q E hr h => ?_)
  · obtain ⟨d, k, m, n, G, rfl, _⟩ := h
    rfl
  · obtain ⟨a, b, m, n, G, rfl, hm, hn, hl, sG, k⟩ := h
    refine ⟨_, pss_one (ps_ret (pe_frz (pe_ndc (own := [("name", 2)]) (g := gName 2) (tt := tYes) rfl sc_either.nd (pi_list (pe_lst (pa_starN rfl (pv 0) (pa_starN rfl (pv 1) pa_nil)))) (blkOk_by (own := [("name", 2)]) (N := N_either) (sc := C8.fnScope s_either) (by decide +kernel))
      (fun _ _ _ _ _ => pg_name (i := 2) sc_either.nd rfl (Or.inl rfl)) (fun _ _ _ _ _ => pts_nil) (fun _ _ _ _ _ => pv 2)
      (fun _ _ _ _ _ => pe_op op_or (C8.pe_c c_bits_for (by exact hr) (by decide) rfl (pa_cons (pv 0) (pa_cons (pv 2) pa_nil))) (C8.pe_c c_bits_for (by exact hr) (by decide) rfl (pa_cons (pv 1) (pa_cons (pv 2) pa_nil))))))), ?_⟩
    exact two_ok hm hn hl sG k
def spOpp (P : Program) (w : World) : Sp := fun vs H Q _ => ∃ (a : Addr) (e : Int) (m : Nk) (G : Hp), vs = [.ref a, .int e] ∧ Mn P w G a m ∧ Same G H ∧
  ∀ (p : Addr) (r : Nk) (H' G' : Hp), Xt none H G H' G' → Mn P w G' p r → r.length ≤ m.length → (∀ k, mv r k = Builtin.bitXor e (mv m k)) → (∀ k, k ∈ r.map (·.1) ↔ k ∈ m.map (·.1)) → Q (.ref p) H'
theorem opposite_ {f : Addr} {fd : FuncData} (F : C8.Def K mg "opposite" s_opposite f fd) (b : Binds K fd P_opposite []) : C8.Cal P w K mg base 1 "opposite" (spOpp P w) [] := by
  refine C8.cal0 (N := N_opposite) F b .nil sc_opposite (fun vs H Q E h => ?_) (fun cdv A outer s H vs Q E hr h => ?_)
  · obtain ⟨a, e, m, G, rfl, _⟩ := h
    rfl
  · obtain ⟨a, e, m, G, rfl, hm, sG, k⟩ := h
    refine ⟨_, pss_one (ps_ret (pe_frz (pe_ndc (own := [("name", 2), ("bits", 3)]) (g := gTup K 2 (gCons (gName 2) (gCons (gName 3) gNil))) (tt := tYes) rfl sc_opposite.nd (pi_ni (pv 0)) (blkOk_by (own := [("name", 2), ("bits", 3)]) (N := N_opposite) (sc := C8.fnScope s_opposite) (by decide +kernel))
      (fun _ _ _ _ _ => pg_tup rfl (pgs_cons (pg_name (i := 2) sc_opposite.nd rfl (Or.inl rfl)) (pgs_cons (pg_name (i := 3) sc_opposite.nd rfl (Or.inl rfl)) pgs_nil))) (fun _ _ _ _ _ => pts_nil) (fun _ _ _ _ _ => pv 2)
      (fun _ _ _ _ _ => pe_op op_xor (pv 1) (pv 3))))), ?_⟩
    obtain ⟨⟨o, ho⟩, mok⟩ := id hm
    have nm : ∀ kv ∈ m, noNum kv.1 := fun kv h => (mok.isI kv h).1
    refine ⟨_, rfl, a, o, m, rfl, sG _ _ ho, nm, fun D hD => ?_⟩
    have k0 : Leaf.none ∈ m.map (·.1) := by
      obtain ⟨i, hi⟩ := mok.hasN
      exact valV_keys.mp (by rw [hi]; rfl)
    refine ndc_it (P := P) (w_ := w) walkNi (fun i H' => ∃ (G' : Hp) (kvs : Nk), Xt none H G H' G' ∧ H' D = some (dN P w D kvs) ∧ G' D = none ∧ Acc (fun k => Builtin.bitXor e (mv m k)) (m.map (·.1)) i kvs) ?_ ?_ ?_ ?_
    · exact ⟨G, [], Xt.tmp sG hD, upd_same, sG.free hD, .nil⟩
    · rintro i H' hi ⟨G', kvs, X, _⟩
      exact X.sub _ _ (X.gg _ _ ho)
    · rintro i y H3 H4 hi ⟨G', kvs, X, h3, g3, acc⟩ ⟨T, k', v, hk', rfl, hT, rfl⟩
      have X2 := X.allocT (o := .tup [nV k', v]) hT
      have nT : D ≠ T := fun q => by subst q; rw [h3] at hT; cases hT
      have hv := valV_nd mok.nd hk'
      have ev := mok.get k'
      rw [hv] at ev
      have ev' : v = .int (mv m k') := ev
      subst ev'
      refine ⟨T, _, rfl, SqT.of upd_same, rfl, _, _, rfl, _, _, rfl, rfl, rfl, _, rfl, _, rfl, _, rfl, _, _, rfl, rfl, kvs, k', rfl, ?_, ?_, ?_⟩
      · rw [upd_ne nT]; exact h3
      · have := acc.len
        have := mok.lenM
        exact small_lt (by omega)
      · exact ⟨G', _, X2.set hD g3, upd_same, g3, acc.step (by rw [List.getElem?_map, hk']; rfl)⟩
    · rintro H3 ⟨G', kvs, X, h3, g3, acc⟩
      have ll : m.length = (m.map (·.1)).length := (List.length_map ..).symm
      have acc' : Acc (fun k => Builtin.bitXor e (mv m k)) (m.map (·.1)) (m.map (·.1)).length kvs := by rw [← ll]; exact acc
      obtain ⟨a1, a2, a3⟩ := acc'.done (fun k h => by
        obtain ⟨kv, h1, rfl⟩ := List.mem_map.mp h
        exact nm kv h1) k0 (by rw [← ll]; exact mok.lenM)
      refine ⟨D, _, rfl, h3, True.intro, fun od => ?_⟩
      have X5 := (X.set (o := .frz od (dN P w D kvs)) hD g3).fix hD upd_same
      refine k D kvs _ _ X5 ⟨⟨od, upd_same⟩, a1⟩ acc.len (fun j => ?_) a3
      rw [a2 j]
      by_cases c : j ∈ m.map (·.1)
      · rw [if_pos c]
      · rw [if_neg c, mv_out c]
end
end Nw
namespace Nw
open PySem L2 PySem.Spec PyProof.Rows RZ
def DIG : Str := "0123456789"
/-- how many signs at the beginning are of the alphabet -/
def stretchL (alpha : Str) : List Nat → Nat
  | [] => 0
  | c :: l => if c ∈ alpha.cps.toList then stretchL alpha l + 1 else 0
theorem drop_cons_ {α : Type} : ∀ {l : List α} {i : Nat} {x : α}, l[i]? = some x → l.drop i = x :: l.drop (i + 1)
  | [], i, x, h => by simp at h
  | a :: l, 0, x, h => by
    have : a = x := by simpa using h
    subst this; rfl
  | a :: l, i + 1, x, h => by
    have := drop_cons_ (l := l) (i := i) (x := x) (by simpa using h)
    simpa using this
theorem stretchL_le (alpha : Str) : ∀ l : List Nat, stretchL alpha l ≤ l.length
  | [] => Nat.le_refl _
  | c :: l => by
    have := stretchL_le alpha l
    show (if c ∈ alpha.cps.toList then stretchL alpha l + 1 else 0) ≤ l.length + 1
    split <;> omega
/-- the names of texts.py and conditions.py -/
structure TextNames (mg : Str → Option Value) : Prop where
  g_DIGITS : ∃ u, mg "DIGITS" = some u ∧ RelV (.str DIG) u
  n_sum : mg "sum" = none
def spStretch : Sp := fun vs H Q _ => ∃ (z alpha : Str) (at_ : Nat), vs = [.str z, .int (at_ : Int), .str alpha] ∧ at_ ≤ z.cps.toList.length ∧ z.length ≤ 10000 ∧ Q (.int ((at_ + stretchL alpha (z.cps.toList.drop at_) : Nat) : Int)) H
section
variable {P : Program} {w : World} {K : PySem.W.Frag} {mg : Str → Option Value} {base : Heap}
theorem stretchEnd {f : Addr} {fd : FuncData} (F : C8.Def K mg "stretch_end" s_stretch_end f fd) (b : Binds K fd P_stretch_end []) (T : Names K mg) : C8.Cal P w K mg base 1 "stretch_end" spStretch [] := by
  refine C8.cal0 (N := N_stretch_end) F b .nil sc_stretch_end (fun vs H Q E h => ?_) (fun cdv A outer s H vs Q E hr h => ?_)
  · obtain ⟨z, alpha, a, rfl, _⟩ := h
    rfl
  · obtain ⟨z, alpha, a, rfl, ha, hz, k⟩ := h
    have zl : z.length = z.cps.toList.length := by simp [Str.length]
    refine ⟨_, (pss_cons (ps_set (i := 3) sc_stretch_end.nd rfl (Or.inl rfl) (pv 1))
 (pss_cons (ps_while PassesOwn.never (PW.pt (pw_and (pt_cmpR op_lt (pv 3) (pe_callB call_len_str (by rfl) T.n_len PySem.boot_len (pa_cons (pv 0) pa_nil)) (nomark _)) (pw_and1 (pt_cmpR op_in_sign (pe_ix ix_str (pv 0) (pv 3) (fun _ _ => rfl)) (pv 2) (by rfl))))) (pss_one (ps_aug (i := 3) sc_stretch_end.nd rfl (Or.inl rfl) pe_int ip_add)))
 (pss_one (ps_ret (pv 3))))), ?_⟩
    refine ⟨_, rfl, ?_⟩
    refine ⟨fun m σ' H' => ∃ e : Nat, m = z.cps.toList.length - e ∧ σ' = [some (.str z), some (.int (a : Int)), some (.str alpha), some (.int (e : Int))] ∧ H' = H ∧ e ≤ z.cps.toList.length ∧ a + stretchL alpha (z.cps.toList.drop a) = e + stretchL alpha (z.cps.toList.drop e), ⟨_, a, rfl, rfl, rfl, ha, rfl⟩, ?_⟩
    rintro m σ' H' ⟨e, rfl, rfl, rfl, he, eq⟩
    refine ⟨_, rfl, _, rfl, z, rfl, small_line (by omega), _, _, rfl, rfl, _, rfl, ?_⟩
    rcases Nat.lt_or_ge e z.cps.toList.length with lt | ge
    · have hc : z.cps.toList[e]? = some (z.cps.toList[e]) := List.getElem?_eq_getElem lt
      have hd := drop_cons_ hc
      rw [decide_eq_true (by rw [zl]; omega : ((e : Nat) : Int) < (z.length : Int))]
      refine iteT ⟨_, rfl, _, rfl, z, _, _, rfl, rfl, small_line (by omega), atI_nat hc, _, rfl, _, alpha, rfl, rfl, _, rfl, ?_⟩
      rw [hd] at eq
      by_cases c : z.cps.toList[e] ∈ alpha.cps.toList
      · rw [decide_eq_true c]
        have e2 : stretchL alpha (z.cps.toList[e] :: z.cps.toList.drop (e + 1)) = stretchL alpha (z.cps.toList.drop (e + 1)) + 1 := if_pos c
        rw [e2] at eq
        refine iteT ⟨_, fun σ' H' h => h, ?_⟩
        refine ⟨_, rfl, _, _, rfl, rfl, ?_⟩
        refine ⟨_, ?_, e + 1, rfl, rfl, rfl, lt, by rw [eq]; omega⟩
        omega
      · rw [decide_eq_false c]
        have e2 : stretchL alpha (z.cps.toList[e] :: z.cps.toList.drop (e + 1)) = 0 := if_neg c
        rw [e2] at eq
        rw [eq] at k
        exact iteF ⟨_, rfl, k⟩
    · rw [decide_eq_false (by rw [zl]; omega : ¬ ((e : Nat) : Int) < (z.length : Int))]
      rw [List.drop_eq_nil_of_le ge] at eq
      have e2 : stretchL alpha [] = 0 := rfl
      rw [e2] at eq
      rw [eq] at k
      exact iteF (iteF ⟨_, rfl, k⟩)
/-- how long the token (or the space) is that begins here -/
def tokLen : List Nat → Nat
  | [] => 0
  | c :: r => if c ∈ LET.cps.toList then stretchL LET (c :: r) else if c ∈ DIG.cps.toList then stretchL DIG (c :: r) else if (⟨((c :: r).take 2).toArray⟩ : Str) ∈ (["!=", "<=", ">="] : List Str) then 2 else 1
def spTokEnd : Sp := fun vs H Q _ => ∃ (z : Str) (at_ : Nat) (G : Hp), vs = [.str z, .int (at_ : Int)] ∧ at_ < z.cps.toList.length ∧ z.length ≤ 10000 ∧ Same G H ∧ ∀ H', Xt none H G H' G → Q (.int ((at_ + tokLen (z.cps.toList.drop at_) : Nat) : Int)) H'
theorem tokenEnd {f : Addr} {fd : FuncData} (F : C8.Def K mg "token_end" s_token_end f fd) (b : Binds K fd P_token_end []) (T_ : Names K mg) (TN : TextNames mg) (g_LONG_SIGNS : ∃ (a : Addr), (∃ u, mg "LONG_SIGNS" = some u ∧ RelV (.ref a) u) ∧ ∀ H : Hp, SqT K H a ((["!=", "<=", ">="] : List Str).map V.str)) (c_stretch_end : C8.Cal P w K mg base 1 "stretch_end" spStretch []) :
    C8.Cal P w K mg base 2 "token_end" spTokEnd [] := by
  refine C8.cal0 (N := N_token_end) F b .nil sc_token_end (fun vs H Q E h => ?_) (fun cdv A outer s H vs Q E hr h => ?_)
  · obtain ⟨z, a, G, rfl, _⟩ := h
    rfl
  · obtain ⟨z, a, G, rfl, ha, hz, sG, k⟩ := h
    have zl : z.length = z.cps.toList.length := by simp [Str.length]
    obtain ⟨la, lu, ls⟩ := g_LONG_SIGNS
    have g_LONG_SIGNS := lu
    have hc : z.cps.toList[a]? = some (z.cps.toList[a]) := List.getElem?_eq_getElem ha
    have hd := drop_cons_ hc
    refine ⟨_, (pss_cons (ps_for PassesOwn.never rfl (pi_tup (pe_tup (pa_cons (C8.pe_gc rfl T_.g_LETTERS) (pa_cons (C8.pe_gc rfl TN.g_DIGITS) pa_nil)))) (pg_name (i := 2) sc_token_end.nd rfl (Or.inl rfl)) (pss_one (ps_if (pt_cmpR op_in_sign (pe_ix ix_str (pv 0) (pv 1) (fun _ _ => rfl)) (pv 2) (by rfl)) (pss_one (ps_ret (C8.pe_c c_stretch_end hr (by decide) rfl (pa_cons (pv 0) (pa_cons (pv 1) (pa_cons (pv 2) pa_nil)))))) pss_nil)))
 (pss_cons (ps_if (pt_cmpR op_in_seq (pe_slice sl_str (pv 0) (po_some (pv 1)) (po_some (pe_op op_add (pv 1) pe_int))) (C8.pe_gc rfl g_LONG_SIGNS) (by rfl)) (pss_one (ps_ret (pe_op op_add (pv 1) pe_int))) pss_nil)
 (pss_one (ps_ret (pe_op op_add (pv 1) pe_int))))), ?_⟩
    refine ⟨(by show 2 ≤ sizeLine; decide), fun t ht => ?_⟩
    have X1 := Xt.tmp (b := none) (o := .tup [.str LET, .str DIG]) sG ht
    have k1 := k _ X1
    have c0 : z.cps.toList[a] ∈ LET.cps.toList → tokLen (z.cps.toList.drop a) = stretchL LET (z.cps.toList.drop a) := fun q => by
      rw [hd]; exact if_pos q
    have c1 : z.cps.toList[a] ∉ LET.cps.toList → z.cps.toList[a] ∈ DIG.cps.toList → tokLen (z.cps.toList.drop a) = stretchL DIG (z.cps.toList.drop a) := fun p q => by
      rw [hd]
      exact (if_neg p).trans (if_pos q)
    have c2 : z.cps.toList[a] ∉ LET.cps.toList → z.cps.toList[a] ∉ DIG.cps.toList → tokLen (z.cps.toList.drop a) = if (⟨((z.cps.toList.drop a).take 2).toArray⟩ : Str) ∈ (["!=", "<=", ">="] : List Str) then 2 else 1 := fun p q => by
      rw [hd]
      exact (if_neg p).trans (if_neg q)
    refine ⟨t, rfl, ⟨_, SqT.of upd_same⟩, for_it (walk_tup (xs := [.str LET, .str DIG])) (fun i σ' H' => ∃ v : Option V, σ' = [some (.str z), some (.int (a : Int)), v] ∧ H' = upd H t (.tup [.str LET, .str DIG]) ∧ (1 ≤ i → z.cps.toList[a] ∉ LET.cps.toList) ∧ (2 ≤ i → z.cps.toList[a] ∉ DIG.cps.toList)) ?_ ?_ ?_ ?_⟩
    · exact ⟨none, rfl, rfl, fun q => by omega, fun q => by omega⟩
    · rintro i σ' H' hi ⟨v, rfl, rfl, _⟩
      exact SqT.of upd_same
    · rintro i y σ' H' H2 hi ⟨v, rfl, rfl, q1, q2⟩ ⟨rfl, hy⟩
      have hi2 : i < 2 := hi
      rcases (by omega : i = 0 ∨ i = 1) with rfl | rfl
      · obtain rfl : V.str LET = y := by simpa using hy
        refine ⟨_, rfl, _, rfl, z, _, _, rfl, rfl, small_line (by omega), atI_nat hc, _, rfl, _, LET, rfl, rfl, _, rfl, ?_⟩
        by_cases c : z.cps.toList[a] ∈ LET.cps.toList
        · rw [decide_eq_true c]
          rw [c0 c] at k1
          exact iteT ⟨_, rfl, _, rfl, _, rfl, z, LET, a, rfl, Nat.le_of_lt ha, hz, k1⟩
        · rw [decide_eq_false c]
          exact iteF ⟨_, rfl, rfl, fun _ => c, fun q => by omega⟩
      · obtain rfl : V.str DIG = y := by simpa using hy
        have n0 := q1 (Nat.le_refl _)
        refine ⟨_, rfl, _, rfl, z, _, _, rfl, rfl, small_line (by omega), atI_nat hc, _, rfl, _, DIG, rfl, rfl, _, rfl, ?_⟩
        by_cases c : z.cps.toList[a] ∈ DIG.cps.toList
        · rw [decide_eq_true c]
          rw [c1 n0 c] at k1
          exact iteT ⟨_, rfl, _, rfl, _, rfl, z, DIG, a, rfl, Nat.le_of_lt ha, hz, k1⟩
        · rw [decide_eq_false c]
          exact iteF ⟨_, rfl, rfl, fun _ => n0, fun _ => c⟩
    · rintro σ' H' ⟨v, rfl, rfl, q1, q2⟩
      have n0 := q1 (show 1 ≤ 2 by decide)
      have n1 := q2 (show 2 ≤ 2 by decide)
      rw [c2 n0 n1] at k1
      have ecut : cutS z (some (a : Int)) (some ((a : Int) + 2)) = ⟨((z.cps.toList.drop a).take 2).toArray⟩ := by
        unfold cutS
        rw [show ((a : Int) + 2) = ((a + 2 : Nat) : Int) by omega, HT.sIx_nat, HT.sIx_nat, zl, Nat.min_eq_left (Nat.le_of_lt ha)]
        rcases Nat.lt_or_ge z.cps.toList.length (a + 2) with q | q
        · rw [Nat.min_eq_right (Nat.le_of_lt q)]
          have e1 : (z.cps.toList.drop a).length = z.cps.toList.length - a := List.length_drop ..
          rw [List.take_of_length_le (by omega), List.take_of_length_le (by omega)]
        · rw [Nat.min_eq_left q, show a + 2 - a = 2 by omega]
      refine ⟨_, rfl, _, rfl, _, rfl, _, rfl, _, _, rfl, rfl, _, rfl, z, rfl, small_line (by omega), ?_⟩
      rw [ecut]
      have lt2 : ((z.cps.toList.drop a).take 2).length ≤ 2 := by rw [List.length_take]; omega
      refine ⟨la, _, rfl, .inr (ls _), rfl, (by decide +kernel), _, rfl, ?_⟩
      rw [inV_strs]
      by_cases c : (⟨((z.cps.toList.drop a).take 2).toArray⟩ : Str) ∈ (["!=", "<=", ">="] : List Str)
      · rw [decide_eq_true c]
        rw [if_pos c] at k1
        exact iteT ⟨_, rfl, _, _, rfl, rfl, k1⟩
      · rw [decide_eq_false c]
        rw [if_neg c] at k1
        exact iteF ⟨_, rfl, _, _, rfl, rfl, k1⟩
theorem stretchL_pos {alpha : Str} {c : Nat} {r : List Nat} (h : c ∈ alpha.cps.toList) : 1 ≤ stretchL alpha (c :: r) := by
  show 1 ≤ (if c ∈ alpha.cps.toList then stretchL alpha r + 1 else 0)
  rw [if_pos h]
  omega
theorem long_len : ∀ t ∈ (["!=", "<=", ">="] : List Str), t.cps.toList.length = 2 := by decide +kernel
theorem tokLen_bound : ∀ {l : List Nat}, l ≠ [] → 1 ≤ tokLen l ∧ tokLen l ≤ l.length
  | [], h => absurd rfl h
  | c :: r, _ => by
    have b1 := stretchL_le LET (c :: r)
    have b2 := stretchL_le DIG (c :: r)
    show 1 ≤ (if c ∈ LET.cps.toList then stretchL LET (c :: r) else if c ∈ DIG.cps.toList then stretchL DIG (c :: r) else if (⟨((c :: r).take 2).toArray⟩ : Str) ∈ (["!=", "<=", ">="] : List Str) then 2 else 1) ∧
      (if c ∈ LET.cps.toList then stretchL LET (c :: r) else if c ∈ DIG.cps.toList then stretchL DIG (c :: r) else if (⟨((c :: r).take 2).toArray⟩ : Str) ∈ (["!=", "<=", ">="] : List Str) then 2 else 1) ≤ (c :: r).length
    by_cases h1 : c ∈ LET.cps.toList
    · rw [if_pos h1]
      exact ⟨stretchL_pos h1, b1⟩
    rw [if_neg h1]
    by_cases h2 : c ∈ DIG.cps.toList
    · rw [if_pos h2]
      exact ⟨stretchL_pos h2, b2⟩
    rw [if_neg h2]
    by_cases h3 : (⟨((c :: r).take 2).toArray⟩ : Str) ∈ (["!=", "<=", ">="] : List Str)
    · rw [if_pos h3]
      have e : ((c :: r).take 2).length = 2 := by simpa using long_len _ h3
      rw [List.length_take] at e
      omega
    · rw [if_neg h3, List.length_cons]
      omega
abbrev Tok := Str × Nat
/-- the tokens from a on, l what is left -/
def toks (a : Nat) (l : List Nat) : List Tok :=
  if h : l = [] then []
  else (if l.head h = 32 then [] else [((⟨(l.take (tokLen l)).toArray⟩ : Str), a)]) ++ toks (a + tokLen l) (l.drop (tokLen l))
termination_by l.length
decreasing_by
  have := tokLen_bound h
  have : 0 < l.length := List.length_pos_iff.mpr h
  rw [List.length_drop]
  omega
theorem toks_nil {a : Nat} : toks a [] = [] := by rw [toks]; exact dif_pos rfl
theorem toks_cons {a : Nat} {l : List Nat} (h : l ≠ []) : toks a l = (if l.head h = 32 then [] else [((⟨(l.take (tokLen l)).toArray⟩ : Str), a)]) ++ toks (a + tokLen l) (l.drop (tokLen l)) := by
  rw [toks]
  exact dif_neg h
def allToks (z : Str) : List Tok := toks 0 z.cps.toList ++ [(("" : Str), z.cps.toList.length)]
def dTok (t : Tok) : PyData := .tuple [.str t.1, .int (t.2 : Int)]
def spSplit : Sp := fun vs H Q _ => ∃ (z : Str) (G : Hp), vs = [.str z] ∧ z.length ≤ 10000 ∧ Same G H ∧ ∀ (p : Addr) (H' G' : Hp), Xt none H G H' G' → D G' (.ref p) (.list ((allToks z).map dTok)) → Q (.ref p) H'
theorem splitTokens {f : Addr} {fd : FuncData} (F : C8.Def K mg "split_tokens" s_split_tokens f fd) (b : Binds K fd P_split_tokens []) (T : Names K mg) (c_token_end : C8.Cal P w K mg base 2 "token_end" spTokEnd []) : C8.Cal P w K mg base 3 "split_tokens" spSplit [] := by
  refine C8.cal0 (N := N_split_tokens) F b .nil sc_split_tokens (fun vs H Q E h => ?_) (fun cdv A outer s H vs Q E hr h => ?_)
  · obtain ⟨z, G, rfl, _⟩ := h
    rfl
  · obtain ⟨z, G, rfl, hz, sG, k⟩ := h
    have zl : z.length = z.cps.toList.length := by simp [Str.length]
    refine ⟨_, (pss_cons (ps_set (i := 1) sc_split_tokens.nd rfl (Or.inl rfl) (pe_lst pa_nil))
 (pss_cons (ps_set (i := 2) sc_split_tokens.nd rfl (Or.inl rfl) pe_int)
 (pss_cons (ps_while PassesOwn.never (pt_cmpR op_lt (pv 2) (pe_callB call_len_str (by rfl) T.n_len PySem.boot_len (pa_cons (pv 0) pa_nil)) (nomark _)) (pss_cons (ps_set (i := 3) sc_split_tokens.nd rfl (Or.inl rfl) (C8.pe_c c_token_end hr (by decide) rfl (pa_cons (pv 0) (pa_cons (pv 2) pa_nil))))
 (pss_cons (ps_if (pt_cmpR op_ne (pe_ix ix_str (pv 0) (pv 2) (fun _ _ => rfl)) pe_str (nomark _)) (pss_one (ps_expr (pe_bm PySem.F.plainAttrs_list PySem.F.slot_list_append PySem.F.type_list_append mt_append (pv 1) (pa_cons (pe_tup (pa_cons (pe_slice sl_str (pv 0) (po_some (pv 2)) (po_some (pv 3))) (pa_cons (pv 2) pa_nil))) pa_nil)))) pss_nil)
 (pss_one (ps_set (i := 2) sc_split_tokens.nd rfl (Or.inl rfl) (pv 3))))))
 (pss_cons (ps_expr (pe_bm PySem.F.plainAttrs_list PySem.F.slot_list_append PySem.F.type_list_append mt_append (pv 1) (pa_cons (pe_tup (pa_cons pe_str (pa_cons (pe_callB call_len_str (by rfl) T.n_len PySem.boot_len (pa_cons (pv 0) pa_nil)) pa_nil))) pa_nil)))
 (pss_one (ps_ret (pv 1))))))), ?_⟩
    refine ⟨Nat.zero_le _, fun tk htk => ?_⟩
    have X1 := Xt.tmp (b := none) (o := .lst []) sG htk
    refine ⟨fun m σ' H' => ∃ (a : Nat) (G' : Hp) (xs : List V) (v3 : Option V) (acc : List Tok), m = z.cps.toList.length - a ∧ a ≤ z.cps.toList.length ∧ σ' = [some (.str z), some (.ref tk), some (.int (a : Int)), v3] ∧ Xt none H G H' G' ∧ H' tk = some (.lst xs) ∧ G' tk = none ∧
      DA G' xs (acc.map dTok) ∧ acc.length ≤ a ∧ acc ++ toks a (z.cps.toList.drop a) = toks 0 z.cps.toList, ⟨_, 0, G, [], none, [], rfl, Nat.zero_le _, rfl, X1, upd_same, sG.free htk, .nil, Nat.le_refl _, rfl⟩, ?_⟩
    rintro m σ' H1 ⟨a, G1, xs, v3, acc, rfl, ha, rfl, X, h1, g1, da, la, eq⟩
    refine ⟨_, rfl, _, rfl, z, rfl, small_line (by omega), _, _, rfl, rfl, _, rfl, ?_⟩
    have xl := da.length
    rw [List.length_map] at xl
    rcases Nat.lt_or_ge a z.cps.toList.length with lt | ge
    · have hc : z.cps.toList[a]? = some (z.cps.toList[a]) := List.getElem?_eq_getElem lt
      have hd := drop_cons_ hc
      have ne : z.cps.toList.drop a ≠ [] := by rw [hd]; exact fun q => by cases q
      obtain ⟨t1, t2⟩ := tokLen_bound ne
      rw [List.length_drop] at t2
      rw [toks_cons ne] at eq
      have hh : (z.cps.toList.drop a).head ne = z.cps.toList[a] := by
        have : (z.cps.toList.drop a).head? = some z.cps.toList[a] := by rw [hd]; rfl
        rw [List.head?_eq_some_head ne] at this
        exact Option.some.inj this
      rw [hh, List.drop_drop] at eq
      rw [decide_eq_true (by rw [zl]; omega : ((a : Nat) : Int) < (z.length : Int))]
      refine iteT ⟨_, fun σ' H' h => h, ?_⟩
      refine ⟨_, rfl, _, rfl, z, a, G1, rfl, lt, hz, X.sub, fun H2 X2 => ?_⟩
      have XX := X.trans X2
      have h2 := X2.hh tk _ (fun q => by cases q) h1
      refine ⟨_, rfl, _, rfl, z, _, _, rfl, rfl, small_line (by omega), atI_nat hc, rfl, _, rfl, ?_⟩
      have esp : decide (V.str ⟨#[z.cps.toList[a]]⟩ = V.str " ") = decide (z.cps.toList[a] = 32) := by
        have e1 : ((" " : String) : Str) = ⟨#[32]⟩ := by decide +kernel
        rw [e1]
        by_cases c : z.cps.toList[a] = 32
        · rw [c, decide_eq_true rfl, decide_eq_true rfl]
        · rw [decide_eq_false c, decide_eq_false fun q => c (by simpa using q)]
      rw [esp]
      by_cases c : z.cps.toList[a] = 32
      · rw [decide_eq_true c]
        rw [if_pos c, List.nil_append] at eq
        refine iteF ⟨_, rfl, ?_⟩
        exact ⟨_, by omega, a + tokLen (z.cps.toList.drop a), G1, xs, _, acc, rfl, by omega, rfl, XX, h2, g1, da, by omega, eq⟩
      · rw [decide_eq_false c]
        rw [if_neg c, ← List.append_assoc] at eq
        have ecut : cutS z (some (a : Int)) (some ((a + tokLen (z.cps.toList.drop a) : Nat) : Int)) = ⟨((z.cps.toList.drop a).take (tokLen (z.cps.toList.drop a))).toArray⟩ := by
          unfold cutS
          rw [HT.sIx_nat, HT.sIx_nat, zl, Nat.min_eq_left ha, Nat.min_eq_left (by omega), show a + tokLen (z.cps.toList.drop a) - a = tokLen (z.cps.toList.drop a) by omega]
        refine iteT ⟨_, rfl, .inl ⟨rfl, _, SqL.of h2⟩, ?_⟩
        refine ⟨_, rfl, _, rfl, _, rfl, _, rfl, _, rfl, z, rfl, small_line (by omega), ?_⟩
        rw [ecut]
        obtain ⟨tok, etok⟩ : ∃ tok : Str, tok = ⟨((z.cps.toList.drop a).take (tokLen (z.cps.toList.drop a))).toArray⟩ := ⟨_, rfl⟩
        rw [← etok] at eq ⊢
        refine ⟨_, rfl, (by show 2 ≤ sizeLine; decide), fun p hp => ?_⟩
        have ntp : tk ≠ p := fun q => by subst q; rw [h2] at hp; cases hp
        have X3 := XX.alloc (o := .tup [.str tok, .int (a : Int)]) hp
        have s3 := upd_same_ (o := .tup [.str tok, .int (a : Int)]) (XX.sub.free hp)
        have dt : D _ (.ref p) (dTok (tok, a)) := D.newT (xs := [.str tok, .int (a : Int)]) (.cons (.str _) (.one (.int _))) XX.sub hp
        refine ⟨tk, xs, _, rfl, rfl, by rw [upd_ne ntp]; exact h2, small_lt (by omega), ?_⟩
        refine ⟨_, rfl, ?_⟩
        refine ⟨_, by omega, a + tokLen (z.cps.toList.drop a), _, xs ++ [.ref p], _, acc ++ [(tok, a)], rfl, by omega, rfl, X3.set htk (none_of_ne g1 ntp), upd_same, none_of_ne g1 ntp, ?_, by rw [List.length_append]; show _ + 1 ≤ _; omega, eq⟩
        rw [List.map_append]
        exact (da.mono s3).append (.one dt)
    · rw [decide_eq_false (by rw [zl]; omega : ¬ ((a : Nat) : Int) < (z.length : Int))]
      have ea : a = z.cps.toList.length := by omega
      rw [List.drop_eq_nil_of_le ge, toks_nil, List.append_nil] at eq
      refine iteF ?_
      refine ⟨_, rfl, .inl ⟨rfl, _, SqL.of h1⟩, _, rfl, z, rfl, small_line (by omega), (by show 2 ≤ sizeLine; decide), fun p hp => ?_⟩
      have ntp : tk ≠ p := fun q => by subst q; rw [h1] at hp; cases hp
      have X3 := X.alloc (o := .tup [.str "", .int (z.length : Int)]) hp
      have s3 := upd_same_ (o := .tup [.str "", .int (z.length : Int)]) (X.sub.free hp)
      have dt : D _ (.ref p) (.tuple [.str "", .int (z.length : Int)]) := D.newT (xs := [.str "", .int (z.length : Int)]) (.cons (.str _) (.one (.int _))) X.sub hp
      refine ⟨tk, xs, _, rfl, rfl, by rw [upd_ne ntp]; exact h1, small_lt (by omega), ?_⟩
      refine ⟨_, rfl, ?_⟩
      have X4 := (X3.set (o := .lst (xs ++ [.ref p])) htk (none_of_ne g1 ntp)).fix htk upd_same
      refine k tk _ _ X4 (.lst upd_same ?_)
      have ef : (allToks z).map dTok = acc.map dTok ++ [.tuple [.str "", .int (z.length : Int)]] := by
        unfold allToks
        rw [← eq, List.map_append, zl]
        rfl
      rw [ef]
      exact ((da.mono s3).append (.one dt)).mono (upd_same_ (none_of_ne g1 ntp))
end
end Nw
namespace Nw
open PySem L2 PySem.Spec PyProof.Rows RZ
theorem isCol_good {c : Col} (h : c.1 ∈ n11) (h1 : 1 ≤ c.2 ∧ c.2 ≤ 3) : isCol (dCol c) = true ∧ shortD (dCol c) := by
  obtain ⟨w1, w2, w3⟩ := n11_word c.1 h
  refine ⟨?_, w3⟩
  show (isWordS c.1 && !decide (c.1 ∈ RES) && decide (1 ≤ c.2) && decide (c.2 ≤ 3)) = true
  rw [w1, decide_eq_false w2, decide_eq_true h1.1, decide_eq_true h1.2]
  rfl
theorem col_inv {G : Hp} {y : V} {c : Col} (h : D G y (dCol c)) : ∃ t, y = .ref t ∧ G t = some (.tup [.str c.1, .int c.2]) := by
  obtain ⟨t, ws, rfl, ht, da⟩ := h.tup_inv
  cases da with
  | cons h1 da =>
    cases da with
    | cons h2 da =>
      cases da
      cases h1
      cases h2
      exact ⟨t, rfl, ht⟩
theorem cols_at {G : Hp} {xs : List V} {cols : List Col} {i : Nat} {y : V} (da : DA G xs (dCols cols)) (h : xs[i]? = some y) : ∃ c t, cols[i]? = some c ∧ y = .ref t ∧ G t = some (.tup [.str c.1, .int c.2]) := by
  obtain ⟨d, h1, h2⟩ := da.get h
  rw [dCols, List.getElem?_map] at h1
  cases e : cols[i]? with
  | none => rw [e] at h1; cases h1
  | some c =>
    rw [e] at h1
    obtain rfl := Option.some.inj h1
    obtain ⟨t, h3, h4⟩ := col_inv h2
    exact ⟨c, t, rfl, h3, h4⟩
theorem flat_strs (l : List Str) : (l.map V.str).all flatV = true := by
  rw [List.all_map]
  exact List.all_eq_true.mpr fun _ _ => rfl
/-- G alone goes back to a smaller part -/
theorem Xt.back {b : Option Addr} {H G H1 G1 : Hp} (x : Xt b H G H1 G1) : Xt b H G H1 G := ⟨x.sub0, fun _ _ h => h, fun a o h => x.sub a o (x.gg a o h), x.hh, x.th, fun a o h => .inl h⟩
theorem nodup_new {α : Type} : ∀ {l : List α} {i : Nat} {x : α}, l.Nodup → l[i]? = some x → x ∉ l.take i
  | [], i, x, _, e => by simp at e
  | a :: l, 0, x, _, _ => by simp
  | a :: l, i + 1, x, h, e => by
    have h2 := List.nodup_cons.mp h
    have e2 : l[i]? = some x := by simpa using e
    have ih := nodup_new h2.2 e2
    intro q
    rw [List.take_succ_cons] at q
    rcases List.mem_cons.mp q with q | q
    · subst q; exact h2.1 (List.mem_of_getElem? e2)
    · exact ih q
end Nw
namespace Nw
open PySem L2 PySem.Spec PyProof.Rows RZ
def spAllValues (C : Addr) : Sp := fun vs H Q _ => ∃ (x : Addr) (cols : List Col) (G : Hp), vs = [.ref x] ∧ TabAt C G x cols ∧ Good n11 cols ∧ Same G H ∧ OwnL H G (dRows (allV (cols.map (·.2)))) Q
def spLenT (C : Addr) : Sp := fun vs H Q _ => ∃ (x : Addr) (cols : List Col) (G : Hp), vs = [.ref x] ∧ TabAt C G x cols ∧ Same G H ∧ Q (.int ((cols.length : Nat) : Int)) H
/-- is it values of these tops -/
def isIn : List Int → List PyData → Bool
  | [], [] => true
  | t :: ts, .int v :: vs => decide (0 ≤ v) && decide (v ≤ t) && isIn ts vs
  | _, _ => false
def inTab (tops : List Int) : PyData → Bool
  | .tuple vs => isIn tops vs
  | _ => false
def spIn (C : Addr) : Sp := fun vs H Q _ => ∃ (x : Addr) (cols : List Col) (v : V) (d : PyData) (G : Hp), vs = [.ref x, v] ∧ TabAt C G x cols ∧ Good n11 cols ∧ D G v d ∧ Same G H ∧ ∀ H', Xt none H G H' G → Q (.bl (inTab (cols.map (·.2)) d)) H'
/-- == of tables: another thing, or a table -/
inductive Other (C : Addr) (G : Hp) : V → Option (List Col) → Prop
  | data {v : V} {d : PyData} : D G v d → Other C G v none
  | tab {y : Addr} {cols : List Col} : TabAt C G y cols → Good n11 cols → Other C G (.ref y) (some cols)
def spEq_ (C : Addr) : Sp := fun vs H Q _ => ∃ (x : Addr) (cols : List Col) (v : V) (o : Option (List Col)) (G : Hp), vs = [.ref x, v] ∧ TabAt C G x cols ∧ Good n11 cols ∧ Other C G v o ∧ Same G H ∧ Q (.bl (decide (o = some cols))) H
/-- the text of a table -/
def colText (c : Col) : Str := Str.empty ++ c.1 ++ "=" ++ toString c.2
def tabText (cols : List Col) : Str := Str.empty ++ "Table(" ++ Txt.join ", " (cols.map colText) ++ ")"
def spRepr (C : Addr) : Sp := fun vs H Q _ => ∃ (x : Addr) (cols : List Col) (G : Hp), vs = [.ref x] ∧ TabAt C G x cols ∧ Good n11 cols ∧ Same G H ∧ ∀ H', Xt none H G H' G → Q (.str (tabText cols)) H'
theorem stepV_len {found : List (List Int)} {t : Int} (h : 1 ≤ t ∧ t ≤ 3) : (stepV found t).length ≤ 4 * found.length := by
  unfold stepV
  induction found with
  | nil => simp
  | cons a l ih =>
    rw [List.map_cons, List.flatten_cons, List.length_append, List.length_map, List.length_range, List.length_cons]
    omega
theorem allV_len : ∀ {tops : List Int} {found : List (List Int)}, (∀ t ∈ tops, 1 ≤ t ∧ t ≤ 3) → (tops.foldl stepV found).length ≤ 4 ^ tops.length * found.length
  | [], found, _ => by simp
  | t :: ts, found, h => by
    have ih := allV_len (tops := ts) (found := stepV found t) fun x hx => h x (List.mem_cons_of_mem _ hx)
    have h1 := stepV_len (found := found) (h t List.mem_cons_self)
    rw [List.foldl_cons, List.length_cons]
    calc _ ≤ 4 ^ ts.length * (stepV found t).length := ih
      _ ≤ 4 ^ ts.length * (4 * found.length) := Nat.mul_le_mul_left _ h1
      _ = 4 ^ (ts.length + 1) * found.length := by rw [Nat.pow_succ, Nat.mul_assoc]
theorem allV_small {tops : List Int} {i : Nat} (hl : tops.length ≤ 3) (h : ∀ t ∈ tops, 1 ≤ t ∧ t ≤ 3) : (allV (tops.take i)).length ≤ 64 := by
  have := allV_len (tops := tops.take i) (found := [[]]) fun t ht => h t (List.mem_of_mem_take ht)
  have l : (tops.take i).length ≤ 3 := by rw [List.length_take]; omega
  have p : 4 ^ (tops.take i).length ≤ 4 ^ 3 := Nat.pow_le_pow_right (by decide) l
  unfold allV
  simp at this
  have e : (4 : Nat) ^ 3 = 64 := by decide
  simp at p
  omega
theorem allV_succ {tops : List Int} {i : Nat} {t : Int} (h : tops[i]? = some t) : allV (tops.take (i + 1)) = stepV (allV (tops.take i)) t := by
  unfold allV
  rw [take_succ_of h, List.foldl_append]
  rfl
theorem D.row {G : Hp} {v : V} {r : List Int} (h : D G v (dRow r)) : ∃ t, v = .ref t ∧ G t = some (.tup (r.map V.int)) := by
  obtain ⟨t, ws, rfl, ht, da⟩ := h.tup_inv
  exact ⟨t, rfl, by rw [ht, da.ints]⟩
theorem D.ofRow {G : Hp} {t : Addr} {r : List Int} (h : G t = some (.tup (r.map V.int))) : D G (.ref t) (dRow r) := .tup h (DA.ofInts r)
theorem rows_at {G : Hp} {xs : List V} {rs : List (List Int)} {i : Nat} {y : V} (da : DA G xs (dRows rs)) (h : xs[i]? = some y) : ∃ r t, rs[i]? = some r ∧ y = .ref t ∧ G t = some (.tup (r.map V.int)) := by
  obtain ⟨d, h1, h2⟩ := da.get h
  rw [dRows, List.getElem?_map] at h1
  cases e : rs[i]? with
  | none => rw [e] at h1; cases h1
  | some r =>
    rw [e] at h1
    obtain rfl := Option.some.inj h1
    obtain ⟨t, h3, h4⟩ := h2.row
    exact ⟨r, t, rfl, h3, h4⟩
theorem dRows_step (found : List (List Int)) (t : Int) : (found.map fun row => ((List.range (t + 1).toNat).map fun v => dRow (row ++ [((v : Nat) : Int)]))).flatten = dRows (stepV found t) := by
  unfold dRows stepV
  rw [List.map_flatten, List.map_map]
  congr 1
  refine List.map_congr_left fun r _ => ?_
  show _ = List.map dRow _
  rw [List.map_map]
  rfl
theorem stepV_mem {found : List (List Int)} {t : Int} {r : List Int} (h : r ∈ stepV found t) : ∃ q v, q ∈ found ∧ r = q ++ [v] ∧ 0 ≤ v ∧ v ≤ t := by
  unfold stepV at h
  obtain ⟨l, hl, hr⟩ := List.mem_flatten.mp h
  obtain ⟨q, hq, rfl⟩ := List.mem_map.mp hl
  obtain ⟨v, hv, rfl⟩ := List.mem_map.mp hr
  have := List.mem_range.mp hv
  exact ⟨q, _, hq, rfl, by omega, by omega⟩
theorem allV_row : ∀ {tops : List Int} {found : List (List Int)} {n : Nat}, (∀ r ∈ found, r.length = n) → ∀ r ∈ tops.foldl stepV found, r.length = n + tops.length
  | [], found, n, h, r, hr => h r hr
  | t :: ts, found, n, h, r, hr => by
    have := allV_row (tops := ts) (found := stepV found t) (n := n + 1) (fun r hr => by
      obtain ⟨q, v, hq, rfl, _⟩ := stepV_mem hr
      rw [List.length_append, h q hq]; rfl) r hr
    rw [this, List.length_cons]; omega
def isOne : Int → PyData → Bool
  | t, .int v => decide (0 ≤ v) && decide (v ≤ t)
  | _, _ => false
theorem isIn_zip : ∀ (ts : List Int) (ds : List PyData), ts.length = ds.length → (List.zipWith isOne ts ds).all id = isIn ts ds
  | [], [], _ => rfl
  | [], _ :: _, h => by cases h
  | _ :: _, [], h => by cases h
  | t :: ts, d :: ds, h => by
    have ih := isIn_zip ts ds (by simpa using h)
    rw [List.zipWith_cons_cons, List.all_cons, ih]
    cases d <;> simp [isIn, isOne]
/-! ### == of data -/
theorem layAll_map {α : Type} (f : α → PyData) (n : Nat) : ∀ (l : List α), (∀ a ∈ l, (f a).canLay0 = true ∧ (f a).depth ≤ n) → PyData.canLayAll0 (l.map f) = true ∧ PyData.depthAll (l.map f) ≤ n
  | [], _ => ⟨rfl, Nat.zero_le _⟩
  | a :: l, h => by
    have ih := layAll_map f n l fun x hx => h x (List.mem_cons_of_mem _ hx)
    have h1 := h a List.mem_cons_self
    rw [List.map_cons]
    refine ⟨?_, ?_⟩
    · show ((f a).canLay0 && PyData.canLayAll0 (l.map f)) = true
      rw [h1.1, ih.1]; rfl
    · show max (f a).depth (PyData.depthAll (l.map f)) ≤ n
      exact Nat.max_le.mpr ⟨h1.2, ih.2⟩
theorem shaped_tup {ds : List PyData} (h : PyData.canLayAll0 ds = true ∧ PyData.depthAll ds ≤ 63) : SeqAt.shaped (.tuple ds) = true := by
  show ((PyData.tuple ds).canLay0 && decide ((PyData.tuple ds).depth ≤ 64)) = true
  have h1 : (PyData.tuple ds).canLay0 = true := h.1
  have h2 : (PyData.tuple ds).depth ≤ 64 := by show PyData.depthAll ds + 1 ≤ 64; omega
  rw [h1, decide_eq_true h2]; rfl
theorem shaped_lst {ds : List PyData} (h : PyData.canLayAll0 ds = true ∧ PyData.depthAll ds ≤ 63) : SeqAt.shaped (.list ds) = true := by
  show ((PyData.list ds).canLay0 && decide ((PyData.list ds).depth ≤ 64)) = true
  have h1 : (PyData.list ds).canLay0 = true := h.1
  have h2 : (PyData.list ds).depth ≤ 64 := by show PyData.depthAll ds + 1 ≤ 64; omega
  rw [h1, decide_eq_true h2]; rfl
theorem eqvAll_map {α : Type} [DecidableEq α] (f : α → PyData) (hf : ∀ a b, PyData.eqv (f a) (f b) = decide (a = b)) : ∀ (l m : List α), PyData.eqvAll (l.map f) (m.map f) = decide (l = m)
  | [], [] => by simp [PyData.eqvAll]
  | [], b :: m => by simp [PyData.eqvAll]
  | a :: l, [] => by simp [PyData.eqvAll]
  | a :: l, b :: m => by
    rw [List.map_cons, List.map_cons]
    show (PyData.eqv (f a) (f b) && PyData.eqvAll (l.map f) (m.map f)) = _
    rw [hf, eqvAll_map f hf l m]
    by_cases h1 : a = b
    · by_cases h2 : l = m
      · simp [h1, h2]
      · simp [h1, h2]
    · simp [h1]
theorem eqv_strs (l m : List Str) : PyData.eqv (.tuple (l.map .str)) (.tuple (m.map .str)) = decide (l = m) := by
  refine eqvAll_map PyData.str (fun a b => ?_) l m
  show (a == b) = decide (a = b)
  by_cases h : a = b
  · subst h; simp
  · rw [decide_eq_false h]; simpa using h
theorem eqv_ints_ (l m : List Int) : PyData.eqvAll (l.map .int) (m.map .int) = decide (l = m) := by
  refine eqvAll_map PyData.int (fun a b => ?_) l m
  show (a == b) = decide (a = b)
  by_cases h : a = b
  · subst h; simp
  · rw [decide_eq_false h]; simpa using h
theorem eqv_ints (l m : List Int) : PyData.eqv (.tuple (l.map .int)) (.tuple (m.map .int)) = decide (l = m) := eqv_ints_ l m
theorem eqv_rows (l m : List (List Int)) : PyData.eqv (.list (dRows l)) (.list (dRows m)) = decide (l = m) := eqvAll_map dRow (fun a b => eqv_ints a b) l m
theorem n11_ok : ∀ n ∈ n11, (PyData.str n).canLay0 = true := by decide +kernel
theorem sh_names {cols : List Col} (h : ∀ c ∈ cols, c.1 ∈ n11) : SeqAt.shaped (.tuple ((cols.map (·.1)).map .str)) = true :=
  shaped_tup (layAll_map _ 63 _ fun a ha => by
    obtain ⟨c, hc, rfl⟩ := List.mem_map.mp ha
    exact ⟨n11_ok _ (h c hc), Nat.zero_le _⟩)
theorem sh_ints (l : List Int) : SeqAt.shaped (.tuple (l.map .int)) = true := shaped_tup (layAll_map _ 63 _ fun a _ => ⟨rfl, Nat.zero_le _⟩)
theorem sh_rows (l : List (List Int)) : SeqAt.shaped (.list (dRows l)) = true := shaped_lst (layAll_map _ 63 _ fun r _ => by
  have h := layAll_map PyData.int 0 r fun a _ => ⟨rfl, Nat.zero_le _⟩
  refine ⟨h.1, ?_⟩
  show PyData.depthAll (r.map .int) + 1 ≤ 63
  omega)
theorem cols_ext : ∀ {l m : List Col}, l.map (·.1) = m.map (·.1) → l.map (·.2) = m.map (·.2) → l = m
  | [], [], _, _ => rfl
  | [], _ :: _, h, _ => by cases h
  | _ :: _, [], h, _ => by cases h
  | (a, b) :: l, (c, d) :: m, h1, h2 => by
    simp only [List.map_cons, List.cons.injEq] at h1 h2
    rw [h1.1, h2.1, cols_ext h1.2 h2.2]
/-! ### texts -/
theorem tops3 {t : Int} (h : 1 ≤ t ∧ t ≤ 3) : t = 1 ∨ t = 2 ∨ t = 3 := by omega
theorem colText_len : ∀ n ∈ n11, ∀ t ∈ ([1, 2, 3] : List Int), (Str.empty ++ n).length ≤ 10 ∧ (Str.empty ++ n ++ "=").length ≤ 10 ∧ (colText (n, t)).length ≤ 10 ∧ ((toString t : String) : Str).length ≤ 10 ∧ t.natAbs.log2 < 1920 ∧ n.length ≤ 10 := by decide +kernel
theorem colText_ok {c : Col} (h : c.1 ∈ n11) (ht : 1 ≤ c.2 ∧ c.2 ≤ 3) : (Str.empty ++ c.1).length ≤ 10 ∧ (Str.empty ++ c.1 ++ "=").length ≤ 10 ∧ (colText c).length ≤ 10 ∧ ((toString c.2 : String) : Str).length ≤ 10 ∧ c.2.natAbs.log2 < 1920 ∧ c.1.length ≤ 10 :=
  colText_len c.1 h c.2 (by rcases tops3 ht with e | e | e <;> rw [e] <;> decide)
theorem piled_le (n : Nat) : ∀ (l : List Str), (∀ y ∈ l, y.length ≤ n) → piled l ≤ (n + 2) * l.length
  | [], _ => Nat.zero_le _
  | y :: l, h => by
    have ih := piled_le n l fun z hz => h z (List.mem_cons_of_mem _ hz)
    have h1 := h y List.mem_cons_self
    rw [piled_cons, List.length_cons, Nat.mul_succ]
    omega
theorem sum_le (n : Nat) : ∀ (l : List Str), (∀ y ∈ l, y.length ≤ n) → (l.map (·.length)).sum ≤ n * l.length
  | [], _ => Nat.zero_le _
  | y :: l, h => by
    have ih := sum_le n l fun z hz => h z (List.mem_cons_of_mem _ hz)
    have h1 := h y List.mem_cons_self
    rw [List.map_cons, List.sum_cons, List.length_cons, Nat.mul_succ]
    omega
theorem join_small {l : List Str} (h : ∀ y ∈ l, y.length ≤ 10) (hl : l.length ≤ 3) : (Txt.join ", " l).length ≤ 40 := by
  rw [TL.join_eq]
  by_cases e : l = []
  · subst e; decide +kernel
  · have := join_length_add l e
    have := piled_le 10 l h
    omega
end Nw
namespace Nw
open PySem L2 PySem.Spec PyProof.Rows RZ
/-- _law_odd: data none of which are values of the tops -/
def spOdd : Sp := fun vs H Q _ => ∃ (v : V) (tx : Addr) (tops r : List Int) (i : Nat) (G : Hp), vs = [v, .ref tx, .int ((i : Nat) : Int)] ∧ D G v (.tuple (r.map .int)) ∧ G tx = some (.tup (tops.map V.int)) ∧ r.length = tops.length ∧ i < tops.length ∧ tops.length ≤ 3 ∧ (∀ t ∈ tops, t ≤ 3) ∧ Same G H ∧
  ∀ (p : Addr) (xs : List V) (ds : List PyData) (H' G' : Hp), Xt none H G H' G' → G' p = some (.lst xs) → DA G' xs ds → ds.length ≤ 100 → (∀ d ∈ ds, inTab tops d = false) → Q (.ref p) H'
theorem isIn_len : ∀ (ts : List Int) (ds : List PyData), ts.length ≠ ds.length → isIn ts ds = false
  | [], [], hn => absurd rfl hn
  | [], _ :: _, _ => rfl
  | _ :: _, [], _ => rfl
  | t :: ts, d :: ds, hn => by
    have q := isIn_len ts ds (fun e => hn (by rw [List.length_cons, List.length_cons, e]))
    cases d <;> simp [isIn, q]
/-- no value for the top t -/
def bad (t : Int) : PyData → Bool
  | .int v => !(decide (0 ≤ v) && decide (v ≤ t))
  | _ => true
theorem isIn_bad : ∀ {ts : List Int} {ds : List PyData} {i : Nat} {t : Int} {d : PyData}, ts[i]? = some t → ds[i]? = some d → bad t d = true → isIn ts ds = false
  | [], _, i, t, d, h, _, _ => by simp at h
  | _ :: _, [], i, t, d, _, h, _ => by simp at h
  | t :: ts, d :: ds, 0, t', d', h1, h2, hb => by
    simp at h1 h2
    subst h1; subst h2
    cases d with
    | int v =>
      have hb' : (!(decide (0 ≤ v) && decide (v ≤ t))) = true := hb
      show (decide (0 ≤ v) && decide (v ≤ t) && isIn ts ds) = false
      cases hq : (decide (0 ≤ v) && decide (v ≤ t)) with
      | false => rfl
      | true => rw [hq] at hb'; cases hb'
    | _ => rfl
  | t :: ts, d :: ds, i + 1, t', d', h1, h2, hb => by
    have q := isIn_bad (ts := ts) (ds := ds) (i := i) (by simpa using h1) (by simpa using h2) hb
    cases d <;> simp [isIn, q]
theorem cutD_take (ds : List PyData) (i : Nat) : cutD ds none (some ((i : Nat) : Int)) = ds.take i := by
  unfold cutD
  rw [HT.sIx_none, HT.sIx_nat, List.drop_zero, Nat.sub_zero]
  by_cases h : i ≤ ds.length
  · rw [Nat.min_eq_left h]
  · rw [Nat.min_eq_right (by omega), List.take_length, List.take_of_length_le (by omega)]
theorem cutD_drop (ds : List PyData) (i : Nat) : cutD ds (some ((i : Nat) : Int)) none = ds.drop i := by
  unfold cutD
  rw [HT.sIx_none, HT.sIx_nat]
  by_cases h : i ≤ ds.length
  · rw [Nat.min_eq_left h, List.take_of_length_le (by rw [List.length_drop]; omega)]
  · rw [Nat.min_eq_right (by omega), List.drop_of_length_le (Nat.le_refl _), List.drop_of_length_le (by omega), List.take_nil]
theorem cutD_init (ds : List PyData) : (cutD ds none (some (-1))).length = ds.length - 1 := by
  unfold cutD
  rw [HT.sIx_none, List.drop_zero, Nat.sub_zero, List.length_take]
  show min ((-1 : Int) + (ds.length : Int)).toNat ds.length = _
  omega
theorem put_at {ds : List PyData} {d : PyData} {i : Nat} (h : i < ds.length) : (ds.take i ++ [d] ++ ds.drop (i + 1))[i]? = some d := by
  rw [List.append_assoc, List.getElem?_append_right (by rw [List.length_take]; omega), List.length_take, Nat.min_eq_left (by omega), Nat.sub_self]
  rfl
/-! ### other columns -/
def dL (o : List Col) : PyData := .list (dCols o)
def spOthers : Sp := fun vs H Q _ => ∃ (b a : Addr) (c : Int) (cols : List Col) (G : Hp), vs = [.ref b, .ref a] ∧ D G (.ref a) (dL cols) ∧ Good n10 cols ∧ Bag H b c ∧ c ≤ 100000 ∧ G b = none ∧ Same G H ∧
  ∀ (p : Addr) (xs : List V) (oths : List (List Col)) (H' G' : Hp), Xt (some b) H G H' G' → Bag H' b (c + 1) → G' p = some (.lst xs) → DA G' xs (oths.map dL) → oths.length ≤ 100 → (∀ o ∈ oths, Good n11 o ∧ o ≠ cols) → Q (.ref p) H'
theorem nodup_set {α : Type} : ∀ {l : List α} {i : Nat} {x : α}, l.Nodup → x ∉ l → (l.set i x).Nodup
  | [], _, _, _, _ => by simp
  | a :: l, 0, x, h, hx => by
    rw [List.set_cons_zero]
    exact List.nodup_cons.mpr ⟨fun q => hx (List.mem_cons_of_mem _ q), (List.nodup_cons.mp h).2⟩
  | a :: l, i + 1, x, h, hx => by
    rw [List.set_cons_succ]
    have h2 := List.nodup_cons.mp h
    refine List.nodup_cons.mpr ⟨fun q => ?_, nodup_set h2.2 fun q => hx (List.mem_cons_of_mem _ q)⟩
    rcases List.mem_or_eq_of_mem_set q with q | q
    · exact h2.1 q
    · exact hx (q ▸ List.mem_cons_self)
theorem other_n10 : ("other" : Str) ∉ n10 := by decide +kernel
theorem good_names {cols : List Col} (g : Good n10 cols) : ("other" : Str) ∉ cols.map (·.1) := fun h => by
  obtain ⟨c, hc, e⟩ := List.mem_map.mp h
  exact other_n10 (e ▸ g.names c hc)
theorem good11 {cols : List Col} (g : Good n10 cols) : Good n11 cols := ⟨g.len, fun c h => n10_n11 _ (g.names c h), g.tops, g.nd⟩
theorem set_parts {cols : List Col} {i : Nat} {c' : Col} (hi : i < cols.length) : cols.take i ++ [c'] ++ cols.drop (i + 1) = cols.set i c' := by
  rw [List.set_eq_take_append_cons_drop, if_pos hi, List.append_assoc]
  rfl
theorem set_ne {cols : List Col} {i : Nat} {c c' : Col} (h : cols[i]? = some c) (hn : c' ≠ c) : cols.set i c' ≠ cols := fun e => by
  have hi := getElem?_lt h
  have q : (cols.set i c')[i]? = some c' := by rw [List.getElem?_set_self hi]
  rw [e, h] at q
  exact hn (Option.some.inj q).symm
theorem good_set {cols : List Col} {i : Nat} {c c' : Col} (g : Good n10 cols) (h : cols[i]? = some c) (h1 : c' = (("other" : Str), c.2) ∨ c' = (c.1, c.2 % 3 + 1)) : Good n11 (cols.set i c') ∧ cols.set i c' ≠ cols := by
  have hc := List.mem_of_getElem? h
  have ht := g.tops c hc
  have hi := getElem?_lt h
  have hn : c.1 ≠ "other" := fun e => other_n10 (e ▸ g.names c hc)
  refine ⟨⟨by rw [List.length_set]; exact g.len, fun d hd => ?_, fun d hd => ?_, ?_⟩, set_ne h ?_⟩
  · rcases List.mem_or_eq_of_mem_set hd with q | q
    · exact n10_n11 _ (g.names d q)
    · subst q
      rcases h1 with h1 | h1
      · rw [h1]; exact List.mem_cons_self
      · rw [h1]; exact n10_n11 _ (g.names c hc)
  · rcases List.mem_or_eq_of_mem_set hd with q | q
    · exact g.tops d q
    · subst q
      rcases h1 with h1 | h1
      · rw [h1]; exact ht
      · rw [h1]; show 1 ≤ c.2 % 3 + 1 ∧ c.2 % 3 + 1 ≤ 3; omega
  · rw [List.map_set]
    rcases h1 with h1 | h1
    · rw [h1]; exact nodup_set g.nd (good_names g)
    · rw [h1]
      have e : (cols.map (·.1)).set i c.1 = cols.map (·.1) := by
        have q : cols.set i c = cols := by
          refine List.ext_getElem? fun j => ?_
          by_cases hj : i = j
          · subst hj; rw [List.getElem?_set_self hi, h]
          · rw [List.getElem?_set_ne hj]
        rw [← List.map_set, q]
      rw [e]; exact g.nd
  · rcases h1 with h1 | h1
    · rw [h1]; exact fun e => hn (by rw [← e])
    · rw [h1]; exact fun e => by
        have q : c.2 % 3 + 1 = c.2 := congrArg (·.2) e
        omega
theorem good_more {cols : List Col} (g : Good n10 cols) (hl : cols.length < 3) : Good n11 (cols ++ [(("other" : Str), (1 : Int))]) ∧ cols ++ [(("other" : Str), (1 : Int))] ≠ cols := by
  refine ⟨⟨by rw [List.length_append, List.length_singleton]; omega, fun d hd => ?_, fun d hd => ?_, ?_⟩, fun e => ?_⟩
  · rcases List.mem_append.mp hd with q | q
    · exact n10_n11 _ (g.names d q)
    · rw [List.mem_singleton] at q; subst q; exact List.mem_cons_self
  · rcases List.mem_append.mp hd with q | q
    · exact g.tops d q
    · rw [List.mem_singleton] at q; subst q; exact ⟨by decide, by decide⟩
  · rw [List.map_append]
    refine List.nodup_append.mpr ⟨g.nd, by simp, fun x hx y hy => ?_⟩
    simp at hy
    subst hy
    exact fun e => good_names g (e ▸ hx)
  · have := congrArg List.length e
    simp at this
theorem good_rev {cols : List Col} (g : Good n10 cols) (hl : 1 < cols.length) : Good n11 cols.reverse ∧ cols.reverse ≠ cols := by
  refine ⟨⟨by rw [List.length_reverse]; exact g.len, fun d hd => n10_n11 _ (g.names d (List.mem_reverse.mp hd)), fun d hd => g.tops d (List.mem_reverse.mp hd), ?_⟩, fun e => ?_⟩
  · rw [List.map_reverse]
    exact (List.reverse_perm _).nodup_iff.mpr g.nd
  · have l3 := g.len.2
    have nd := g.nd
    match cols, hl, l3 with
    | [a, b], _, _ =>
      simp at e
      rw [e.1] at nd
      simp at nd
    | [a, b, c], _, _ =>
      simp at e
      rw [e.1] at nd
      simp at nd
    | a :: b :: c :: d :: r, _, l3 => simp at l3
theorem good_tail {cols : List Col} (g : Good n10 cols) (hl : 1 < cols.length) : Good n11 (cols.drop 1) ∧ cols.drop 1 ≠ cols := by
  refine ⟨⟨by rw [List.length_drop]; have := g.len; omega, fun d hd => n10_n11 _ (g.names d (List.mem_of_mem_drop hd)), fun d hd => g.tops d (List.mem_of_mem_drop hd), ?_⟩, fun e => ?_⟩
  · rw [List.map_drop]
    exact g.nd.sublist (List.drop_sublist _ _)
  · have := congrArg List.length e
    rw [List.length_drop] at this
    omega
theorem cxD {G : Hp} {cx : Addr} {cols : List Col} (h : G cx = some (.tup (cols.map fun c => .str c.1))) : D G (.ref cx) (.tuple ((cols.map (·.1)).map .str)) :=
  .tup h (by rw [show (cols.map fun c => V.str c.1) = (cols.map (·.1)).map V.str by rw [List.map_map]; rfl]; exact DA.ofStrs _)
theorem txD {G : Hp} {tx : Addr} {cols : List Col} (h : G tx = some (.tup (cols.map fun c => .int c.2))) : D G (.ref tx) (.tuple ((cols.map (·.2)).map .int)) :=
  .tup h (by rw [show (cols.map fun c => V.int c.2) = (cols.map (·.2)).map V.int by rw [List.map_map]; rfl]; exact DA.ofInts _)
/-- [name for name, top in columns] and the like: what the walk over a stable list of columns gives -/
theorem lc_cols {K : PySem.W.Frag} {te : TE} {vs : List Nat} {σ : L2.St} {H G : Hp} {Dl a : Addr} {Qd : Hp → Prop} {g : TG} {cs : List V} {cols : List Col} (f : Col → PyData) (ha : G a = some (.lst cs)) (da : DA G cs (dCols cols)) (hl3 : cols.length ≤ 3) (hD : H Dl = none) (s : Same G H)
    (hs : ∀ (c : Col) (t : Addr) (H1 G1 : Hp), c ∈ cols → Xt none H G H1 G1 → G1 t = some (.tup [.str c.1, .int c.2]) → ∀ Qy : VK, (∀ y H4 G4, Xt none H1 G1 H4 G4 → D G4 y (f c) → Qy y H4) → g (.ref t) (wipe σ vs) H1 fun σ2 H3 => wipe σ2 vs = wipe σ vs ∧ te σ2 H3 Qy)
    (hd : ∀ H1 G1 xs, Xt none H G H1 G1 → H1 Dl = some (.lst xs) → G1 Dl = none → DA G1 xs (cols.map f) → Qd H1) :
    ∃ W : Nat → Nat → Hp → Prop, (∃ m, W 0 m (upd H Dl (.lst []))) ∧ ∀ i m H, W i m H →
      ((Itl K a).stop i H ∧ Qd H) ∨ ((Itl K a).go i H ∧ ∃ Nx : Hp → Prop, (∀ H', Nx H' → ∃ m', m' < m ∧ W (i + 1) m' H') ∧ ∀ x H', (Itl K a).yld i H x H' → g x (wipe σ vs) H' fun σ2 H2 => wipe σ2 vs = wipe σ vs ∧ tYes σ2 H2 fun b H3 =>
        if b = true then te σ2 H3 fun y H4 => ∃ acc, H4 Dl = some (.lst acc) ∧ acc.length < sizeLine ∧ Nx (upd H4 Dl (.lst (acc ++ [y]))) else Nx H3) := by
  have hcl : cs.length = cols.length := by rw [da.length, dCols, List.length_map]
  refine lc_data (b := none) (R := fun _ _ => True) (G := G) (te := te) (walk_list (xs := cs)) (cols.map f) (by rw [List.length_map, hcl]) (by omega) hD s (fun q => by cases q) trivial (fun _ _ _ _ => trivial) (fun i H4 G4 X4 _ => SqL.of (X4.sub _ _ (X4.gg _ _ ha))) ?_ (fun H1 G1 xs X _ => hd H1 G1 xs X)
  rintro i y H1 G1 H2 d hd X1 _ ⟨rfl, hy⟩ Qy hq
  obtain ⟨c, t, hc, rfl, ht⟩ := cols_at (da.mono X1.gg) hy
  rw [List.getElem?_map, hc] at hd
  obtain rfl := Option.some.inj hd
  exact hs c t _ G1 (List.mem_of_getElem? hc) X1 ht Qy fun y H4 G4 X4 d4 => hq y H4 G4 X4 trivial d4
theorem isIn_snoc : ∀ {ts : List Int} {ds : List PyData} {t v : Int}, isIn ts ds = true → 0 ≤ v → v ≤ t → isIn (ts ++ [t]) (ds ++ [.int v]) = true
  | [], [], t, v, _, h0, h1 => by
    show (decide (0 ≤ v) && decide (v ≤ t) && isIn [] []) = true
    rw [decide_eq_true h0, decide_eq_true h1]; rfl
  | [], _ :: _, _, _, h, _, _ => by cases h
  | _ :: _, [], _, _, h, _, _ => by cases h
  | a :: ts, d :: ds, t, v, h, h0, h1 => by
    cases d with
    | int w =>
      have h' : (decide (0 ≤ w) && decide (w ≤ a) && isIn ts ds) = true := h
      rw [Bool.and_eq_true] at h'
      show (decide (0 ≤ w) && decide (w ≤ a) && isIn (ts ++ [t]) (ds ++ [.int v])) = true
      rw [h'.1, isIn_snoc h'.2 h0 h1]; rfl
    | _ => cases h
theorem allV_in_ : ∀ {tops t0 : List Int} {found : List (List Int)}, (∀ r ∈ found, isIn t0 (r.map .int) = true) → ∀ r ∈ tops.foldl stepV found, isIn (t0 ++ tops) (r.map .int) = true
  | [], t0, found, h, r, hr => by rw [List.append_nil]; exact h r hr
  | t :: ts, t0, found, h, r, hr => by
    have := allV_in_ (tops := ts) (t0 := t0 ++ [t]) (found := stepV found t) (fun r hr => by
      obtain ⟨q, v, hq, rfl, h0, h1⟩ := stepV_mem hr
      rw [List.map_append]
      exact isIn_snoc (h q hq) h0 h1) r hr
    rw [List.append_assoc] at this
    exact this
theorem allV_in {tops : List Int} {r : List Int} (h : r ∈ allV tops) : inTab tops (dRow r) = true := by
  have := allV_in_ (tops := tops) (t0 := []) (found := [[]]) (fun r hr => by simp at hr; subst hr; rfl) r h
  exact this
theorem n11_empty : ∀ n ∈ n11, Str.empty ++ n = n := by decide +kernel
theorem tab_empty : Str.empty ++ ("Table(" : Str) = "Table(" := by decide +kernel
theorem law_text {cols : List Col} (h : ∀ c ∈ cols, c.1 ∈ n11) : tabText cols = ("Table(" : Str) ++ Txt.join ", " (cols.map fun c => c.1 ++ "=" ++ ((toString c.2 : String) : Str)) ++ ")" := by
  have e : cols.map colText = cols.map fun c => c.1 ++ "=" ++ ((toString c.2 : String) : Str) :=
    List.map_congr_left fun c hc => by
      show Str.empty ++ c.1 ++ "=" ++ _ = _
      rw [n11_empty c.1 (h c hc)]
  unfold tabText
  rw [tab_empty, e]
theorem allV_pos {tops : List Int} (h : ∀ t ∈ tops, 1 ≤ t) : allV tops ≠ [] := by
  have key : ∀ (ts : List Int) (found : List (List Int)), (∀ t ∈ ts, 1 ≤ t) → found ≠ [] → ts.foldl stepV found ≠ [] := by
    intro ts
    induction ts with
    | nil => intro found _ hf; exact hf
    | cons t ts ih =>
      intro found ht hf
      refine ih _ (fun x hx => ht x (List.mem_cons_of_mem _ hx)) ?_
      have h1 := ht t List.mem_cons_self
      cases found with
      | nil => exact absurd rfl hf
      | cons r rs =>
        intro e
        have := congrArg List.length e
        unfold stepV at this
        rw [List.map_cons, List.flatten_cons, List.length_append, List.length_map, List.length_range] at this
        simp at this
        omega
  exact key tops [[]] h (by simp)
end Nw
namespace Nw
open PySem L2 PySem.Spec PyProof.Rows RZ
def isNum (z : Str) : Bool := decide (1 ≤ z.cps.toList.length) && decide (z.cps.toList.length ≤ 3) && !(decide (1 < z.cps.toList.length) && decide (z.cps.toList[0]? = some 48)) && z.cps.toList.all fun c => decide (c ∈ DIG.cps.toList)
def spIsNum : Sp := fun vs H Q _ => ∃ (z : Str) (G : Hp), vs = [.str z] ∧ z.length ≤ 10000 ∧ Same G H ∧ ∀ H', Xt none H G H' G → Q (.bl (isNum z)) H'
section
variable {P : Program} {w : World} {K : PySem.W.Frag} {mg : Str → Option Value} {base : Heap}
/-- all digits: the walk over the signs -/
theorem num_all {z : Str} {H G : Hp} {Dl : Addr} {Q : VK} (hz : z.length ≤ 10000) (sG : Same G H) (hD : H Dl = none) (k : ∀ H', Xt none H G H' G → Q (.bl (z.cps.toList.all fun c => decide (c ∈ DIG.cps.toList))) H') :
    ∃ W : Nat → Nat → Hp → Prop, (∃ m, W 0 m (upd H Dl (.lst []))) ∧ ∀ i m H1, W i m H1 →
      ((Its z).stop i H1 ∧ rAll K [.ref Dl] H1 Q) ∨ ((Its z).go i H1 ∧ ∃ Nx : Hp → Prop, (∀ H', Nx H' → ∃ m', m' < m ∧ W (i + 1) m' H') ∧ ∀ x H', (Its z).yld i H1 x H' → gName 1 x (wipe [some (.str z), none] [1]) H' fun σ2 H2 => wipe σ2 [1] = wipe [some (.str z), none] [1] ∧ tYes σ2 H2 fun b H3 =>
        if b = true then tOp (fun x y H Q => ∃ (c : Nat) (z : Str), x = .str ⟨#[c]⟩ ∧ y = .str z ∧ Q (.bl (decide (c ∈ z.cps.toList))) H) (tVar 1) (tC (.str DIG)) σ2 H3 fun y H4 => ∃ acc, H4 Dl = some (.lst acc) ∧ acc.length < sizeLine ∧ Nx (upd H4 Dl (.lst (acc ++ [y]))) else Nx H3) := by
  refine lc_data (b := none) (R := fun _ _ => True) (G := G) walk_str (z.cps.toList.map fun c => .bool (decide (c ∈ DIG.cps.toList))) (by simp) (by show z.length < 100000; omega) hD sG (fun q => by cases q) trivial (fun _ _ _ _ => trivial) (fun _ _ _ _ _ => trivial) ?_ ?_
  · intro i x H1 G1 H2 d hd X1 _ ⟨e, c, hc, ex⟩ Qy hq
    subst e ex
    have ed : d = .bool (decide (c ∈ DIG.cps.toList)) := by
      rw [List.getElem?_map, Array.getElem?_toList, hc] at hd
      exact (Option.some.inj hd).symm
    subst ed
    exact ⟨rfl, _, rfl, c, DIG, rfl, rfl, hq _ _ _ (Xt.refl X1.sub) trivial (.bl _)⟩
  · intro H1 G1 xs X1 _ hl hg da
    have e := DA.bools (ns := z.cps.toList.map fun c => decide (c ∈ DIG.cps.toList)) (by rw [List.map_map]; exact da)
    refine ⟨Dl, _, rfl, SqL.of (by rw [hl, e]), ?_⟩
    rw [List.all_map]
    exact k H1 X1.back
theorem isNumber {f : Addr} {fd : FuncData} (F : C8.Def K mg "is_number" s_is_number f fd) (b : Binds K fd P_is_number []) (T : Names K mg) (TN : TextNames mg) : C8.Cal P w K mg base 1 "is_number" spIsNum [] := by
  refine C8.cal0 (N := N_is_number) F b .nil sc_is_number (fun vs H Q E h => ?_) (fun cdv A outer s H vs Q E hr h => ?_)
  · obtain ⟨z, G, rfl, _⟩ := h
    rfl
  · obtain ⟨z, G, rfl, hz, sG, k⟩ := h
    have zl : z.length = z.cps.toList.length := by simp [Str.length]
    have k0 := k H (Xt.refl sG)
    refine ⟨_, (pss_cons (ps_if (PW.pt (pw_or (pt_not (pt_chain op_le op_le pe_int (pe_callB call_len_str (by rfl) T.n_len PySem.boot_len (pa_cons (pv 0) pa_nil)) pe_int)) (pw_or1 (PW.pt (pw_and (pt_cmpR op_gt (pe_callB call_len_str (by rfl) T.n_len PySem.boot_len (pa_cons (pv 0) pa_nil)) pe_int (nomark _)) (pw_and1 (pt_cmpR op_eq (pe_ix ix_str (pv 0) pe_int (fun _ _ => rfl)) pe_str (nomark _)))))))) (pss_one (ps_ret pe_bl)) pss_nil)
 (pss_one (ps_ret (pe_callB (cr_all rfl) (by rfl) T.n_all (by decide +kernel) (pa_cons (pe_lc (own := [("digit", 1)]) (g := (gName 1)) (tt := tYes) rfl sc_is_number.nd (pi_str (pv 0)) (blkOk_by (own := [("digit", 1)]) (N := N_is_number) (sc := C8.fnScope s_is_number) (by decide +kernel)) (fun _ _ _ _ _ => (pg_name (i := 1) sc_is_number.nd rfl (Or.inl rfl))) (fun _ _ _ _ _ => pts_nil) (fun _ _ _ _ _ => (pe_cmpR op_in_sign (pv 1) (C8.pe_gc rfl TN.g_DIGITS) (by rfl)))) pa_nil))))), ?_⟩
    refine ⟨_, rfl, z, rfl, small_line (by omega), _, _, rfl, rfl, _, rfl, ?_⟩
    rcases Nat.lt_or_ge z.cps.toList.length 1 with c1 | c1
    · rw [decide_eq_false (by rw [zl]; omega : ¬ (1 : Int) ≤ (z.length : Int))]
      rw [show isNum z = false by unfold isNum; rw [decide_eq_false (by omega : ¬ 1 ≤ z.cps.toList.length)]; rfl] at k0
      exact iteF ⟨_, rfl, iteT k0⟩
    rw [decide_eq_true (by rw [zl]; omega : (1 : Int) ≤ (z.length : Int))]
    refine iteT ⟨_, _, rfl, rfl, _, rfl, ?_⟩
    rcases Nat.lt_or_ge 3 z.cps.toList.length with c3 | c3
    · rw [decide_eq_false (by rw [zl]; omega : ¬ (z.length : Int) ≤ 3)]
      rw [show isNum z = false by unfold isNum; rw [decide_eq_false (by omega : ¬ z.cps.toList.length ≤ 3)]; simp] at k0
      exact iteT k0
    rw [decide_eq_true (by rw [zl]; omega : (z.length : Int) ≤ 3)]
    have hc : z.cps.toList[0]? = some (z.cps.toList[0]) := List.getElem?_eq_getElem (by omega)
    refine iteF ⟨_, rfl, z, rfl, small_line (by omega), _, _, rfl, rfl, _, rfl, ?_⟩
    have e0 : decide (V.str ⟨#[z.cps.toList[0]]⟩ = V.str "0") = decide (z.cps.toList[0]? = some 48) := by
      have e1 : (("0" : String) : Str) = ⟨#[48]⟩ := by decide +kernel
      rw [e1, hc]
      by_cases c : z.cps.toList[0] = 48
      · rw [c, decide_eq_true rfl, decide_eq_true rfl]
      · rw [decide_eq_false (fun q => c (by simpa using q)), decide_eq_false (fun q => c (Option.some.inj q))]
    have en : isNum z = (!(decide (1 < z.cps.toList.length) && decide (z.cps.toList[0]? = some 48)) && z.cps.toList.all fun c => decide (c ∈ DIG.cps.toList)) := by
      unfold isNum
      rw [decide_eq_true c1, decide_eq_true c3]
      rfl
    have one : decide ((1 : Int) < (z.length : Int)) = decide (1 < z.cps.toList.length) := by
      rw [zl]
      by_cases c : 1 < z.cps.toList.length
      · rw [decide_eq_true c, decide_eq_true (by omega)]
      · rw [decide_eq_false c, decide_eq_false (by omega)]
    rw [one]
    have fin : ∀ H', Xt none H G H' G → (decide (1 < z.cps.toList.length) && decide (z.cps.toList[0]? = some 48)) = false → Q (.bl (z.cps.toList.all fun c => decide (c ∈ DIG.cps.toList))) H' := fun H' X q => by
      have := k H' X
      rw [en, q] at this
      exact this
    cases d1 : decide (1 < z.cps.toList.length) with
    | true =>
      refine iteT ⟨_, rfl, z, _, _, rfl, rfl, small_line (by omega), atI_nat hc, rfl, _, rfl, ?_⟩
      rw [e0]
      cases d2 : decide (z.cps.toList[0]? = some 48) with
      | true =>
        rw [en, d1, d2] at k0
        exact iteT k0
      | false =>
        have f1 : (decide (1 < z.cps.toList.length) && decide (z.cps.toList[0]? = some 48)) = false := by rw [d1, d2]; rfl
        refine iteF ⟨_, rfl, z, rfl, fun Dl hD => ?_⟩
        exact num_all hz sG hD (fun H' X => fin H' X f1)
    | false =>
      have f1 : (decide (1 < z.cps.toList.length) && decide (z.cps.toList[0]? = some 48)) = false := by rw [d1]; rfl
      refine iteF (iteF ⟨_, rfl, z, rfl, fun Dl hD => ?_⟩)
      exact num_all hz sG hD (fun H' X => fin H' X f1)
abbrev Term := Int × Option Nat
def dTerm (t : Term) : PyData := .tuple [.int t.1, match t.2 with | none => .none | some j => .int (j : Int)]
/-- the term that a token writes over these columns -/
def termOK (cols : List Str) (t : Str) (v : Term) : Prop := (isNum t = true ∧ ∃ n, PySem.intText? t = some n ∧ v = (n, none)) ∨ (isNum t = false ∧ ∃ j, cols[j]? = some t ∧ (∀ m, m < j → cols[m]? ≠ some t) ∧ v = (1, some j))
def spReadTerm : Sp := fun vs H Q _ => ∃ (tk cx : Addr) (t : Tok) (f : Int) (cols : List Str) (v : Term) (o : Obj) (G : Hp), vs = [.ref tk, .int f, .ref cx] ∧ D G (.ref tk) (dTok t) ∧ t.1.length ≤ 600 ∧ G cx = some (.frz o (.tup (cols.map V.str))) ∧ o.dict = none ∧ termOK cols t.1 v ∧ v.1.natAbs < 2 ^ 64 ∧ (f = 1 ∨ f = -1) ∧ Same G H ∧
  ∀ (p : V) (H' G' : Hp), Xt none H G H' G' → D G' p (dTerm (f * v.1, v.2)) → Q p H'
theorem readTerm {f : Addr} {fd : FuncData} (F : C8.Def K mg "read_term" s_read_term f fd) (b : Binds K fd P_read_term []) (T : Names K mg) (c_is_number : C8.Cal P w K mg base 1 "is_number" spIsNum []) : C8.Cal P w K mg base 2 "read_term" spReadTerm [] := by
  refine C8.cal0 (N := N_read_term) F b .nil sc_read_term (fun vs H Q E h => ?_) (fun cdv A outer s H vs Q E hr h => ?_)
  · obtain ⟨tk, cx, t, f, cols, v, o, G, rfl, _⟩ := h
    rfl
  · obtain ⟨tk, cx, t, f, cols, v, o, G, rfl, dt, tl, hcx, hod, hv, vb, hf, sG, k⟩ := h
    refine ⟨_, (pss_cons (ps_asg (pv 0) (pg_tup rfl (pgs_cons (pg_name (i := 3) sc_read_term.nd rfl (Or.inl rfl)) (pgs_cons (pg_name (i := 4) sc_read_term.nd rfl (Or.inl rfl)) pgs_nil))))
 (pss_cons (ps_if (pt_val (C8.pe_c c_is_number hr (by decide) rfl (pa_cons (pv 3) pa_nil))) (pss_one (ps_ret (pe_tup (pa_cons (pe_op op_mul (pv 1) (pe_callTy call_int_str (by rfl) T.n_int (by decide +kernel) (pa_cons (pv 3) pa_nil))) (pa_cons pe_non pa_nil))))) pss_nil)
 (pss_cons (ps_if (pt_cmpR op_in_seq (pv 3) (pv 2) (by rfl)) (pss_one (ps_ret (pe_tup (pa_cons (pv 1) (pa_cons (pe_tix (pv 2) (pv 3) ⟨rfl, rfl, rfl, rfl⟩) pa_nil))))) pss_nil)
 (pss_one ps_never)))), ?_⟩
    obtain ⟨tk_, ws, e0, ht, da⟩ := id dt.tup_inv
    cases e0
    have ews : ws = [.str t.1, .int (t.2 : Int)] := by
      cases da with
      | cons h1 da =>
        cases da with
        | cons h2 da =>
          cases da
          cases h1
          cases h2
          rfl
    subst ews
    refine ⟨_, rfl, tk, _, rfl, SqT.of (sG _ _ ht), rfl, _, _, rfl, _, _, rfl, rfl, ?_⟩
    refine ⟨_, rfl, t.1, G, rfl, by omega, sG, fun H1 X1 => ⟨_, rfl, ?_⟩⟩
    rcases hv with ⟨hn, n, e1, rfl⟩ | ⟨hn, j, e1, e2, rfl⟩
    · rw [hn]
      refine iteT ⟨_, rfl, _, rfl, t.1, n, rfl, e1, by omega, ?_⟩
      refine ⟨_, _, rfl, rfl, (by rcases hf with rfl | rfl <;> exact .inl ⟨by decide, by decide⟩), (by show 2 ≤ sizeLine; decide), fun p hp => ?_⟩
      have X2 := X1.alloc (o := .tup [.int (f * n), .non]) hp
      exact k _ _ _ X2 (D.newT (xs := [.int (f * n), .non]) (.cons (.int _) (.one .non)) X1.sub hp)
    · rw [hn]
      refine iteF ⟨_, rfl, _, rfl, cx, _, rfl, .inr (.inl (.inr ⟨o, X1.sub _ _ hcx⟩)), rfl, flat_strs _, _, rfl, ?_⟩
      rw [inV_strs, decide_eq_true (List.mem_of_getElem? e1)]
      have hc1 := X1.sub _ _ hcx
      refine iteT ⟨_, rfl, _, rfl, cx, o, cols, rfl, hc1, hod, _, rfl, t.1, j, rfl, hc1, e1, e2, (by show 2 ≤ sizeLine; decide), fun p hp => ?_⟩
      have X2 := X1.alloc (o := .tup [.int f, .int (j : Int)]) hp
      have dd : D _ (.ref p) (.tuple [.int f, .int (j : Int)]) := D.newT (xs := [.int f, .int (j : Int)]) (.cons (.int _) (.one (.int _))) X1.sub hp
      refine k _ _ _ X2 ?_
      show D _ (.ref p) (.tuple [.int (f * 1), .int (j : Int)])
      rw [Int.mul_one]
      exact dd
end
end Nw
namespace Nw
open PySem L2 PySem.Spec PyProof.Rows RZ
def neg (v : Term) : Term := (-v.1, v.2)
/-- what follows the first term of a sum, from the token e on, up to the token e' -/
inductive More (cols : List Str) (ts : List Tok) : Nat → List Term → Nat → Prop
  | stop {e : Nat} {t : Tok} : ts[e]? = some t → t.1 ≠ "+" → t.1 ≠ "-" → More cols ts e [] e
  | plus {e e' : Nat} {s t : Tok} {v : Term} {r : List Term} : ts[e]? = some s → s.1 = "+" → ts[e + 1]? = some t → termOK cols t.1 v → v.1.natAbs < 1000000 → More cols ts (e + 2) r e' → More cols ts e (v :: r) e'
  | minus {e e' : Nat} {s t : Tok} {v : Term} {r : List Term} : ts[e]? = some s → s.1 = "-" → ts[e + 1]? = some t → termOK cols t.1 v → v.1.natAbs < 1000000 → More cols ts (e + 2) r e' → More cols ts e (neg v :: r) e'
theorem More.view {cols : List Str} {ts : List Tok} {e e' : Nat} {rest : List Term} (m : More cols ts e rest e') :
    (∃ t, rest = [] ∧ e' = e ∧ ts[e]? = some t ∧ t.1 ≠ "+" ∧ t.1 ≠ "-") ∨
    ∃ (s t : Tok) (v : Term) (f : Int) (r : List Term), ts[e]? = some s ∧ ((s.1 = "+" ∧ f = 1) ∨ (s.1 = "-" ∧ f = -1)) ∧ ts[e + 1]? = some t ∧ termOK cols t.1 v ∧ v.1.natAbs < 1000000 ∧ rest = (f * v.1, v.2) :: r ∧ More cols ts (e + 2) r e' := by
  cases m with
  | stop h1 h2 h3 => exact .inl ⟨_, rfl, rfl, h1, h2, h3⟩
  | plus h1 h2 h3 h4 h5 h6 => exact .inr ⟨_, _, _, 1, _, h1, .inl ⟨h2, rfl⟩, h3, h4, h5, by rw [Int.one_mul], h6⟩
  | minus h1 h2 h3 h4 h5 h6 => exact .inr ⟨_, _, _, -1, _, h1, .inr ⟨h2, rfl⟩, h3, h4, h5, by rw [Int.neg_one_mul]; rfl, h6⟩
/-- tokens, a stable list -/
structure Toks (G : Hp) (tk : Addr) (ts : List Tok) : Prop where
  at_ : D G (.ref tk) (.list (ts.map dTok))
  len : ts.length ≤ 10000
  short : ∀ t ∈ ts, t.1.length ≤ 600
theorem Toks.mono {G G' : Hp} {tk : Addr} {ts : List Tok} (s : Same G G') (h : Toks G tk ts) : Toks G' tk ts := ⟨h.at_.mono s, h.len, h.short⟩
/-- the columns' names, a stable tuple -/
def Cols (G : Hp) (cx : Addr) (cols : List Str) : Prop := ∃ o : Obj, G cx = some (.frz o (.tup (cols.map V.str))) ∧ o.dict = none
theorem Cols.mono {G G' : Hp} {cx : Addr} {cols : List Str} (s : Same G G') (h : Cols G cx cols) : Cols G' cx cols := by
  obtain ⟨o, h1, h2⟩ := h
  exact ⟨o, s _ _ h1, h2⟩
theorem Toks.get {G : Hp} {tk : Addr} {ts : List Tok} {xs : List V} (h : G tk = some (.lst xs)) (da : DA G xs (ts.map dTok)) {i : Nat} {t : Tok} (hi : ts[i]? = some t) : ∃ a : Addr, xs[i]? = some (.ref a) ∧ D G (.ref a) (dTok t) ∧ G a = some (.tup [.str t.1, .int (t.2 : Int)]) := by
  have hl := da.length
  rw [List.length_map] at hl
  have lt : i < xs.length := by
    rw [hl]
    exact (List.getElem?_eq_some_iff.mp hi).1
  have hx : xs[i]? = some xs[i] := List.getElem?_eq_getElem lt
  obtain ⟨d, hd, dx⟩ := da.get hx
  rw [List.getElem?_map, hi] at hd
  obtain rfl := Option.some.inj hd
  obtain ⟨a, ws, e, ha, dw⟩ := dx.tup_inv
  rw [e] at hx dx
  refine ⟨a, hx, dx, ?_⟩
  cases dw with
  | cons h1 dw =>
    cases dw with
    | cons h2 dw =>
      cases dw
      cases h1
      cases h2
      exact ha
def spReadSum : Sp := fun vs H Q _ => ∃ (tk cx : Addr) (a e : Nat) (ts : List Tok) (cols : List Str) (t : Tok) (v : Term) (r : List Term) (G : Hp), vs = [.ref tk, .int (a : Int), .ref cx] ∧ Toks G tk ts ∧ Cols G cx cols ∧ ts[a]? = some t ∧ termOK cols t.1 v ∧ v.1.natAbs < 1000000 ∧ More cols ts (a + 1) r e ∧ Same G H ∧
  ∀ (p : V) (H' G' : Hp), Xt none H G H' G' → D G' p (.tuple [.list ((v :: r).map dTerm), .int (e : Int)]) → Q p H'
section
variable {P : Program} {w : World} {K : PySem.W.Frag} {mg : Str → Option Value} {base : Heap}
theorem readSum {f : Addr} {fd : FuncData} (F : C8.Def K mg "read_sum" s_read_sum f fd) (b : Binds K fd P_read_sum []) (T : Names K mg) (c_read_term : C8.Cal P w K mg base 2 "read_term" spReadTerm []) : C8.Cal P w K mg base 3 "read_sum" spReadSum [] := by
  refine C8.cal0 (N := N_read_sum) F b .nil sc_read_sum (fun vs H Q E h => ?_) (fun cdv A outer s H vs Q E hr h => ?_)
  · obtain ⟨tk, cx, a, e, ts, cols, t, v, r, G, rfl, _⟩ := h
    rfl
  · obtain ⟨tk, cx, a, e, ts, cols, t, v, r, G, rfl, ht, hc, ha, hv, vb, more, sG, k⟩ := h
    refine ⟨_, (pss_cons (ps_set (i := 3) sc_read_sum.nd rfl (Or.inl rfl) (pe_lst (pa_cons (C8.pe_c c_read_term hr (by decide) rfl (pa_cons (pe_ix ix_list (pv 0) (pv 1) (fun _ _ => rfl)) (pa_cons pe_int (pa_cons (pv 2) pa_nil)))) pa_nil)))
 (pss_cons (ps_set (i := 4) sc_read_sum.nd rfl (Or.inl rfl) (pe_op op_add (pv 1) pe_int))
 (pss_cons (ps_while PassesOwn.never (pt_cmpR op_in_seq (pe_ix ix_tup (pe_ix ix_list (pv 0) (pv 4) (fun _ _ => rfl)) pe_int (fun _ _ => rfl)) (pe_tup (pa_cons pe_str (pa_cons pe_str pa_nil))) (by rfl)) (pss_cons (ps_set (i := 5) sc_read_sum.nd rfl (Or.inl rfl) (pe_ifExp (pt_cmpR op_eq (pe_ix ix_tup (pe_ix ix_list (pv 0) (pv 4) (fun _ _ => rfl)) pe_int (fun _ _ => rfl)) pe_str (nomark _)) pe_int (pe_un un_neg pe_int)))
 (pss_cons (ps_expr (pe_bm PySem.F.plainAttrs_list PySem.F.slot_list_append PySem.F.type_list_append mt_append (pv 3) (pa_cons (C8.pe_c c_read_term hr (by decide) rfl (pa_cons (pe_ix ix_list (pv 0) (pe_op op_add (pv 4) pe_int) (fun _ _ => rfl)) (pa_cons (pv 5) (pa_cons (pv 2) pa_nil)))) pa_nil)))
 (pss_one (ps_aug (i := 4) sc_read_sum.nd rfl (Or.inl rfl) pe_int ip_add)))))
 (pss_one (ps_ret (pe_tup (pa_cons (pv 3) (pa_cons (pv 4) pa_nil)))))))), ?_⟩
    obtain ⟨tk_, xs, e0, gt, da⟩ := id ht.at_.list_inv
    cases e0
    obtain ⟨oc, hcx, hod⟩ := id hc
    obtain ⟨p0, x0, d0, g0⟩ := Toks.get gt da ha
    have lx := da.length
    rw [List.length_map] at lx
    refine ⟨_, rfl, _, rfl, tk, _, _, _, rfl, rfl, SqL.of (sG _ _ gt), atI_nat x0, ?_⟩
    refine ⟨_, rfl, p0, cx, t, 1, cols, v, oc, G, rfl, d0, ht.short t (List.mem_of_getElem? ha), hcx, hod, hv, by omega, .inl rfl, sG, fun q H1 G1 X1 dq => ?_⟩
    refine ⟨(by show 1 ≤ sizeLine; decide), fun l hl => ?_⟩
    have X2 := X1.allocT (o := .lst [q]) hl
    refine ⟨_, rfl, _, _, rfl, rfl, ?_⟩
    have ev : dTerm (1 * v.1, v.2) = dTerm v := by rw [Int.one_mul]
    rw [ev] at dq
    refine ⟨fun m σ' H' => ∃ (e1 : Nat) (acc rest : List Term) (G' : Hp) (ys : List V) (v5 : Option V), m = ts.length - e1 ∧ σ' = [some (.ref tk), some (.int (a : Int)), some (.ref cx), some (.ref l), some (.int (e1 : Int)), v5] ∧ Xt none H G H' G' ∧ H' l = some (.lst ys) ∧ G' l = none ∧
      DA G' ys (acc.map dTerm) ∧ acc ++ rest = v :: r ∧ More cols ts e1 rest e ∧ acc.length ≤ e1,
      ⟨_, a + 1, [v], r, G1, [q], none, rfl, rfl, X2, upd_same, X1.sub.free hl, .one dq, rfl, more, by show 1 ≤ a + 1; omega⟩, ?_⟩
    rintro m σ' H' ⟨e1, acc, rest, G', ys, v5, rfl, rfl, X, hy, gy, dy, eq, mo, la⟩
    have l0 : H l = none := X1.fresh hl
    have step : ∀ {s t2 : Tok} {v2 : Term}, ts[e1]? = some s → ts[e1 + 1]? = some t2 → True := fun _ _ => trivial
    have gt' := X.gg _ _ gt
    have hcx' := X.gg _ _ hcx
    have dts := da.mono X.gg
    have yl := dy.length
    rw [List.length_map] at yl
    have nly : ∀ {p : Addr} {H2 : Hp}, H2 l = some (.lst ys) → H2 p = none → l ≠ p := fun h1 h2 q => by subst q; rw [h1] at h2; cases h2
    rcases mo.view with ⟨t1, rfl, rfl, h1, h2, h3⟩ | ⟨s1, t2, v2, ff, rest', h1, h2, h3, h4, h5, rfl, h6⟩
    · obtain ⟨p1, x1, d1, g1⟩ := Toks.get gt' dts h1
      refine ⟨_, rfl, _, rfl, tk, _, _, _, rfl, rfl, SqL.of (X.sub _ _ gt'), atI_nat x1, p1, _, _, _, rfl, rfl, SqT.of (X.sub _ _ g1), rfl, (by show 2 ≤ sizeLine; decide), fun tt htt => ?_⟩
      refine ⟨tt, (["+", "-"] : List Str).map V.str, rfl, .inr (SqT.of upd_same), rfl, flat_strs _, _, rfl, ?_⟩
      rw [inV_strs, decide_eq_false (by
        intro q
        simp only [List.mem_cons, List.mem_nil_iff, or_false] at q
        rcases q with q | q
        · exact h2 q
        · exact h3 q)]
      have X3 := X.allocT (o := .tup [.str "+", .str "-"]) htt
      have nlt := nly hy htt
      rw [List.append_nil] at eq
      subst eq
      refine iteF ⟨_, rfl, _, rfl, (by show 2 ≤ sizeLine; decide), fun p hp => ?_⟩
      have hy3 : upd H' tt (.tup [.str "+", .str "-"]) l = some (.lst ys) := by rw [upd_ne nlt]; exact hy
      have X4 := (X3.fix l0 hy3)
      have X5 := X4.alloc (o := .tup [.ref l, .int (e : Int)]) hp
      refine k _ _ _ X5 (D.newT (xs := [.ref l, .int (e : Int)]) (.cons (.lst upd_same (dy.mono (upd_same_ gy))) (.one (.int _))) X4.sub hp)
    · obtain ⟨p1, x1, d1, g1⟩ := Toks.get gt' dts h1
      obtain ⟨p2, x2, d2, g2⟩ := Toks.get gt' dts h3
      have lt1 : e1 + 1 < ts.length := (List.getElem?_eq_some_iff.mp h3).1
      have lts := ht.len
      refine ⟨_, rfl, _, rfl, tk, _, _, _, rfl, rfl, SqL.of (X.sub _ _ gt'), atI_nat x1, p1, _, _, _, rfl, rfl, SqT.of (X.sub _ _ g1), rfl, (by show 2 ≤ sizeLine; decide), fun tt htt => ?_⟩
      refine ⟨tt, (["+", "-"] : List Str).map V.str, rfl, .inr (SqT.of upd_same), rfl, flat_strs _, _, rfl, ?_⟩
      rw [inV_strs, decide_eq_true (by
        rcases h2 with ⟨h2, _⟩ | ⟨h2, _⟩ <;> rw [h2] <;> decide +kernel)]
      have X3 := X.allocT (o := .tup [.str "+", .str "-"]) htt
      have nlt := nly hy htt
      have hy3 : upd H' tt (.tup [.str "+", .str "-"]) l = some (.lst ys) := by rw [upd_ne nlt]; exact hy
      refine iteT ⟨_, fun σ' H' h => h, ?_⟩
      refine ⟨_, rfl, _, rfl, tk, _, _, _, rfl, rfl, SqL.of (X3.sub _ _ gt'), atI_nat x1, p1, _, _, _, rfl, rfl, SqT.of (X3.sub _ _ g1), rfl, ?_⟩
      have X4 := X3
      have e1c : ((e1 : Nat) : Int) + 1 = ((e1 + 1 : Nat) : Int) := by omega
      have hff : ff = 1 ∨ ff = -1 := h2.elim (fun q => .inl q.2) fun q => .inr q.2
      rcases h2 with ⟨h2, rfl⟩ | ⟨h2, rfl⟩
      · rw [h2]
        refine ⟨rfl, _, rfl, ?_⟩
        rw [decide_eq_true rfl]
        refine iteT ?_
        refine ⟨_, rfl, .inl ⟨rfl, _, SqL.of hy3⟩, _, rfl, _, rfl, _, _, rfl, rfl, tk, _, _, _, rfl, rfl, SqL.of (X3.sub _ _ gt'), by rw [e1c]; exact atI_nat x2, _, rfl, _, rfl, ?_⟩
        refine ⟨p2, cx, t2, 1, cols, v2, oc, G', rfl, d2, ht.short t2 (List.mem_of_getElem? h3), hcx', hod, h4, by omega, .inl rfl, X3.sub, fun q2 H4 G4 X5 dq2 => ?_⟩
        have hy5 := X5.hh l _ (fun q => by cases q) hy3
        have gy5 := X5.non (ne_none_of hy3) gy
        refine ⟨l, ys, _, rfl, rfl, hy5, small_lt (by omega), ?_⟩
        refine ⟨_, rfl, _, _, rfl, rfl, ?_⟩
        refine ⟨_, ?_, e1 + 2, acc ++ [(1 * v2.1, v2.2)], rest', G4, ys ++ [q2], _, rfl, rfl, (X3.trans X5).set l0 gy5, upd_same, gy5, ?_, ?_, h6, ?_⟩
        · omega
        · rw [List.map_append]
          exact (dy.mono X5.gg).append (.one dq2)
        · rw [List.append_assoc]
          exact eq
        · rw [List.length_append]
          show _ + 1 ≤ _
          omega
      · rw [h2]
        refine ⟨rfl, _, rfl, ?_⟩
        rw [decide_eq_false (by decide +kernel)]
        refine iteF ⟨_, rfl, ?_⟩
        refine ⟨_, rfl, .inl ⟨rfl, _, SqL.of hy3⟩, _, rfl, _, rfl, _, _, rfl, rfl, tk, _, _, _, rfl, rfl, SqL.of (X3.sub _ _ gt'), by rw [e1c]; exact atI_nat x2, _, rfl, _, rfl, ?_⟩
        refine ⟨p2, cx, t2, (-1), cols, v2, oc, G', rfl, d2, ht.short t2 (List.mem_of_getElem? h3), hcx', hod, h4, by omega, .inr rfl, X3.sub, fun q2 H4 G4 X5 dq2 => ?_⟩
        have hy5 := X5.hh l _ (fun q => by cases q) hy3
        have gy5 := X5.non (ne_none_of hy3) gy
        refine ⟨l, ys, _, rfl, rfl, hy5, small_lt (by omega), ?_⟩
        refine ⟨_, rfl, _, _, rfl, rfl, ?_⟩
        refine ⟨_, ?_, e1 + 2, acc ++ [((-1) * v2.1, v2.2)], rest', G4, ys ++ [q2], _, rfl, rfl, (X3.trans X5).set l0 gy5, upd_same, gy5, ?_, ?_, h6, ?_⟩
        · omega
        · rw [List.map_append]
          exact (dy.mono X5.gg).append (.one dq2)
        · rw [List.append_assoc]
          exact eq
        · rw [List.length_append]
          show _ + 1 ≤ _
          omega
end
end Nw
namespace Nw
open PySem L2 PySem.Spec PyProof.Rows RZ
/-! what does not go on: WrongToken, terms, sums -/
def spErrP (C : Addr) : Sp := fun vs H Q _ => ∃ (x : Addr) (i : Int), vs = [.ref x, .int i] ∧ H x = some (exo x C none) ∧ ∀ dx, H dx = none → dx ≠ x → Q .non (upd (upd H dx (exd dx [("at", .int i)])) x (exo x C (some dx)))
theorem err_heap {H : Hp} {e d : Addr} {o1 o2 o3 o4 : HO} (he : H e = none) (ne : d ≠ e) : upd (del (upd (upd (upd H e o1) d o2) e o3) e) d o4 = upd H d o4 := by
  funext a
  by_cases h1 : a = d
  · rw [h1, upd_same, upd_same]
  · rw [upd_ne h1, upd_ne h1]
    by_cases h2 : a = e
    · rw [h2, del_same, he]
    · rw [del_ne h2, upd_ne h2, upd_ne h1, upd_ne h2]
/-- what the top leaves of WrongToken -/
structure WT (P : Program) (w : World) (K : PySem.W.Frag) (mg : Str → Option Value) (base : Heap) (CW : Addr) : Prop where
  ex : ∃ (fE : Addr) (fdE : FuncData), OexC K CW ∧ PySem.W.findIn K (.ref CW) "__init__" = some (some (.ref fE)) ∧ PySem.W.typeIn K (.ref fE) = some (.type "function") ∧ FnOk P w K mg base C8.CX0 1 fE fdE P_WrongToken____init__ (spErrP CW) ∧ Binds K fdE P_WrongToken____init__ [] ∧ mg "WrongToken" = some (.ref CW)
/-- the token at n is refused -/
def FailE (E : XK) (CW : Addr) (H G : Hp) (n : Nat) : Prop := ∀ (H1 G1 : Hp) (d : Addr), Xt none H G H1 G1 → H1 d = none → E (.ref CW) (some d) (upd H1 d (.xd [("at", .int ((n : Nat) : Int))]))
theorem FailE.mono {E : XK} {CW : Addr} {H G H' G' : Hp} {n : Nat} (f : FailE E CW H G n) (X : Xt none H G H' G') : FailE E CW H' G' n := fun H1 G1 d X1 hd => f H1 G1 d (X.trans X1) hd
theorem wt_go {E : XK} {CW : Addr} {H G : Hp} {n : Nat} (f : FailE E CW H G n) (sG : Same G H) (e : Addr) (he : H e = none) :
    spErrP CW (.ref e :: ([.int ((n : Nat) : Int)] ++ [])) (upd H e (exo e CW none)) (fun v H2 => v = .non ∧ ∃ (d : Addr) (fs : List (Str × V)), H2 e = some (exo e CW (some d)) ∧ H2 d = some (exd d fs) ∧ H d = none ∧ E (.ref CW) (some d) (upd (del H2 e) d (.xd fs))) (fun _ _ _ => False) := by
  refine ⟨e, _, rfl, upd_same, fun dx hd ne => ⟨rfl, dx, [("at", .int ((n : Nat) : Int))], upd_same, by rw [upd_ne ne]; exact upd_same, ?_, ?_⟩⟩
  · rw [upd_ne ne] at hd; exact hd
  · rw [err_heap he ne]
    exact f H G dx (Xt.refl sG) (by rw [upd_ne ne] at hd; exact hd)
def isTermB (cols : List Str) (z : Str) : Bool := isNum z || decide (z ∈ cols)
def spTermF (CW : Addr) : Sp := fun vs H Q E => ∃ (tk cx : Addr) (t : Tok) (f : Int) (cols : List Str) (G : Hp), vs = [.ref tk, .int f, .ref cx] ∧ D G (.ref tk) (dTok t) ∧ t.1.length ≤ 600 ∧ Cols G cx cols ∧ isTermB cols t.1 = false ∧ Same G H ∧ FailE E CW H G t.2
/-- a sum that breaks off behind its first term, before e -/
inductive MoreStuck (cols : List Str) (ts : List Tok) : Nat → Nat → Prop
  | here {e : Nat} {s t : Tok} : ts[e]? = some s → (s.1 = "+" ∨ s.1 = "-") → ts[e + 1]? = some t → isTermB cols t.1 = false → MoreStuck cols ts e t.2
  | step {e n : Nat} {s t : Tok} {v : Term} : ts[e]? = some s → (s.1 = "+" ∨ s.1 = "-") → ts[e + 1]? = some t → termOK cols t.1 v → v.1.natAbs < 1000000 → MoreStuck cols ts (e + 2) n → MoreStuck cols ts e n
inductive SumStuck (cols : List Str) (ts : List Tok) (a : Nat) : Nat → Prop
  | here {t : Tok} : ts[a]? = some t → isTermB cols t.1 = false → SumStuck cols ts a t.2
  | more {t : Tok} {v : Term} {n : Nat} : ts[a]? = some t → termOK cols t.1 v → v.1.natAbs < 1000000 → MoreStuck cols ts (a + 1) n → SumStuck cols ts a n
def spSumF (CW : Addr) : Sp := fun vs H Q E => ∃ (tk cx : Addr) (a n : Nat) (ts : List Tok) (cols : List Str) (G : Hp), vs = [.ref tk, .int (a : Int), .ref cx] ∧ Toks G tk ts ∧ Cols G cx cols ∧ SumStuck cols ts a n ∧ Same G H ∧ FailE E CW H G n
section
variable {P : Program} {w : World} {K : PySem.W.Frag} {mg : Str → Option Value} {base : Heap}
theorem wtInit {f C : Addr} {fd : FuncData} (F : C8.Fun K "__init__" "WrongToken.__init__" s_WrongToken____init__ f fd) (OC : OexC K C) (nA : PySem.W.findIn K (.ref C) "at" = some none) : FnOk P w K mg base C8.CX0 1 f fd P_WrongToken____init__ (spErrP C) := by
  refine C8.fn0 (N := N_WrongToken____init__) F sc_WrongToken____init__ (fun vs H Q E h => ?_) (fun cdv A outer s H vs Q E hr h => ?_)
  · obtain ⟨x, v, rfl, _⟩ := h
    rfl
  · obtain ⟨x, v, rfl, hx, k⟩ := h
    refine ⟨_, pss_one (ps_ost (pv 0) (pv 1)), ?_⟩
    exact ⟨_, rfl, _, rfl, x, C, rfl, OC, nA, .inl ⟨hx, fun dx hd ne => k dx hd ne⟩⟩
theorem readTermF {f CW : Addr} {fd : FuncData} (F : C8.Def K mg "read_term" s_read_term f fd) (b : Binds K fd P_read_term []) (T : Names K mg) (WT_ : WT P w K mg base CW) (c_is_number : C8.Cal P w K mg base 1 "is_number" spIsNum []) : Xal P w K mg base 3 "read_term" (spTermF CW) := by
  refine xal0 (N := N_read_term) F b sc_read_term (fun vs H Q E h => ?_) (fun cdv A outer s H vs Q E hr h => ?_)
  · obtain ⟨tk, cx, t, f, cols, G, rfl, _⟩ := h
    rfl
  · obtain ⟨tk, cx, t, f, cols, G, rfl, dt, tl, ⟨o, hcx, hod⟩, no, sG, fail⟩ := h
    obtain ⟨fE, fdE, OC, iC, tI, FE, bE, gE⟩ := WT_.ex
    refine ⟨_, (pss_cons (ps_asg (pv 0) (pg_tup rfl (pgs_cons (pg_name (i := 3) sc_read_term.nd rfl (Or.inl rfl)) (pgs_cons (pg_name (i := 4) sc_read_term.nd rfl (Or.inl rfl)) pgs_nil))))
 (pss_cons (ps_if (pt_val (C8.pe_c c_is_number hr (by decide) rfl (pa_cons (pv 3) pa_nil))) (pss_one (ps_ret (pe_tup (pa_cons (pe_op op_mul (pv 1) (pe_callTy call_int_str (by rfl) T.n_int (by decide +kernel) (pa_cons (pv 3) pa_nil))) (pa_cons pe_non pa_nil))))) pss_nil)
 (pss_cons (ps_if (pt_cmpR op_in_seq (pv 3) (pv 2) (by rfl)) (pss_one (ps_ret (pe_tup (pa_cons (pv 1) (pa_cons (pe_tix (pv 2) (pv 3) ⟨rfl, rfl, rfl, rfl⟩) pa_nil))))) pss_nil)
 (pss_one (L2N.ps_raise rfl (L2N.takes_of rfl rfl rfl rfl) (pmkN_oex OC iC tI FE (hr.mono (by decide)) bE C8.pass0 rfl gE (pa_cons (pv 4) pa_nil))))))), ?_⟩
    obtain ⟨tk_, ws, e0, ht, da⟩ := id dt.tup_inv
    cases e0
    have ews : ws = [.str t.1, .int (t.2 : Int)] := by
      cases da with
      | cons h1 da =>
        cases da with
        | cons h2 da =>
          cases da
          cases h1
          cases h2
          rfl
    subst ews
    have no1 : isNum t.1 = false := by
      unfold isTermB at no
      rw [Bool.or_eq_false_iff] at no
      exact no.1
    have no2 : t.1 ∉ cols := by
      unfold isTermB at no
      rw [Bool.or_eq_false_iff] at no
      exact of_decide_eq_false no.2
    refine ⟨_, rfl, tk, _, rfl, SqT.of (sG _ _ ht), rfl, _, _, rfl, _, _, rfl, rfl, ?_⟩
    refine ⟨_, rfl, t.1, G, rfl, by omega, sG, fun H1 X1 => ⟨_, rfl, ?_⟩⟩
    rw [no1]
    refine iteF ⟨_, rfl, _, rfl, cx, _, rfl, .inr (.inl (.inr ⟨o, X1.sub _ _ hcx⟩)), rfl, flat_strs _, _, rfl, ?_⟩
    rw [inV_strs, decide_eq_false no2]
    exact iteF ⟨_, rfl, (by show 1 ≤ 1000; decide), fun e he => wt_go (fail.mono X1) X1.sub e he⟩
theorem readSumF {f CW : Addr} {fd : FuncData} (F : C8.Def K mg "read_sum" s_read_sum f fd) (b : Binds K fd P_read_sum []) (T : Names K mg) (c_read_term : C8.Cal P w K mg base 2 "read_term" spReadTerm []) (x_read_term : Xal P w K mg base 3 "read_term" (spTermF CW)) : Xal P w K mg base 4 "read_sum" (spSumF CW) := by
  refine xal0 (N := N_read_sum) F b sc_read_sum (fun vs H Q E h => ?_) (fun cdv A outer s H vs Q E hr h => ?_)
  · obtain ⟨tk, cx, a, n, ts, cols, G, rfl, _⟩ := h
    rfl
  · obtain ⟨tk, cx, a, n, ts, cols, G, rfl, ht, hc, stuck, sG, fail⟩ := h
    refine ⟨_, (pss_cons (ps_set (i := 3) sc_read_sum.nd rfl (Or.inl rfl) (pe_lst (pa_cons (pe_callO c_read_term x_read_term hr (by decide) (by decide) rfl (fun σ => L2N.passAt (L2N.takes_of rfl rfl rfl rfl) σ) (pa_cons (pe_ix ix_list (pv 0) (pv 1) (fun _ _ => rfl)) (pa_cons pe_int (pa_cons (pv 2) pa_nil)))) pa_nil)))
 (pss_cons (ps_set (i := 4) sc_read_sum.nd rfl (Or.inl rfl) (pe_op op_add (pv 1) pe_int))
 (pss_cons (ps_while (L2.passes_of rfl) (pt_cmpR op_in_seq (pe_ix ix_tup (pe_ix ix_list (pv 0) (pv 4) (fun _ _ => rfl)) pe_int (fun _ _ => rfl)) (pe_tup (pa_cons pe_str (pa_cons pe_str pa_nil))) (by rfl)) (pss_cons (ps_set (i := 5) sc_read_sum.nd rfl (Or.inl rfl) (pe_ifExp (pt_cmpR op_eq (pe_ix ix_tup (pe_ix ix_list (pv 0) (pv 4) (fun _ _ => rfl)) pe_int (fun _ _ => rfl)) pe_str (nomark _)) pe_int (pe_un un_neg pe_int)))
 (pss_cons (ps_expr (pe_bm PySem.F.plainAttrs_list PySem.F.slot_list_append PySem.F.type_list_append mt_append (pv 3) (pa_cons (pe_callO c_read_term x_read_term hr (by decide) (by decide) rfl (fun σ => L2N.passAt (L2N.takes_of rfl rfl rfl rfl) σ) (pa_cons (pe_ix ix_list (pv 0) (pe_op op_add (pv 4) pe_int) (fun _ _ => rfl)) (pa_cons (pv 5) (pa_cons (pv 2) pa_nil)))) pa_nil)))
 (pss_one (ps_aug (i := 4) sc_read_sum.nd rfl (Or.inl rfl) pe_int ip_add)))))
 (pss_one (ps_ret (pe_tup (pa_cons (pv 3) (pa_cons (pv 4) pa_nil)))))))), ?_⟩
    obtain ⟨tk_, xs, e0, gt, da⟩ := id ht.at_.list_inv
    cases e0
    obtain ⟨oc, hcx, hod⟩ := id hc
    have lx := da.length
    rw [List.length_map] at lx
    cases stuck with
    | @here t ha no =>
      obtain ⟨p0, x0, d0, g0⟩ := Toks.get gt da ha
      refine ⟨_, rfl, _, rfl, tk, _, _, _, rfl, rfl, SqL.of (sG _ _ gt), atI_nat x0, ?_⟩
      exact ⟨_, rfl, .inr ⟨p0, cx, t, 1, cols, G, rfl, d0, ht.short t (List.mem_of_getElem? ha), hc, no, sG, fail⟩⟩
    | @more t v n ha hv vb more =>
      obtain ⟨p0, x0, d0, g0⟩ := Toks.get gt da ha
      refine ⟨_, rfl, _, rfl, tk, _, _, _, rfl, rfl, SqL.of (sG _ _ gt), atI_nat x0, ?_⟩
      refine ⟨_, rfl, .inl ⟨p0, cx, t, 1, cols, v, oc, G, rfl, d0, ht.short t (List.mem_of_getElem? ha), hcx, hod, hv, by omega, .inl rfl, sG, fun q H1 G1 X1 dq => ?_⟩⟩
      refine ⟨(by show 1 ≤ sizeLine; decide), fun l hl => ?_⟩
      have X2 := X1.allocT (o := .lst [q]) hl
      refine ⟨_, rfl, _, _, rfl, rfl, ?_⟩
      refine ⟨fun m σ' H' => ∃ (e1 : Nat) (G' : Hp) (ys : List V) (v5 : Option V), m = ts.length - e1 ∧ σ' = [some (.ref tk), some (.int (a : Int)), some (.ref cx), some (.ref l), some (.int (e1 : Int)), v5] ∧ Xt none H G H' G' ∧ H' l = some (.lst ys) ∧ G' l = none ∧ ys.length ≤ e1 ∧ MoreStuck cols ts e1 n,
        ⟨_, a + 1, G1, [q], none, rfl, rfl, X2, upd_same, X1.sub.free hl, by show 1 ≤ a + 1; omega, more⟩, ?_⟩
      rintro m σ' H' ⟨e1, G', ys, v5, rfl, rfl, X, hy, gy, la, mo⟩
      have l0 : H l = none := X1.fresh hl
      have gt' := X.gg _ _ gt
      have hcx' := X.gg _ _ hcx
      have dts := da.mono X.gg
      have nly : ∀ {p : Addr} {H2 : Hp}, H2 l = some (.lst ys) → H2 p = none → l ≠ p := fun h1 h2 q => by subst q; rw [h1] at h2; cases h2
      have view : ∃ (s1 t2 : Tok), ts[e1]? = some s1 ∧ (s1.1 = "+" ∨ s1.1 = "-") ∧ ts[e1 + 1]? = some t2 ∧ ((isTermB cols t2.1 = false ∧ n = t2.2) ∨ ∃ v2 : Term, termOK cols t2.1 v2 ∧ v2.1.natAbs < 1000000 ∧ MoreStuck cols ts (e1 + 2) n) := by
        cases mo with
        | here h1 h2 h3 h4 => exact ⟨_, _, h1, h2, h3, .inl ⟨h4, rfl⟩⟩
        | step h1 h2 h3 h4 h5 h6 => exact ⟨_, _, h1, h2, h3, .inr ⟨_, h4, h5, h6⟩⟩
      obtain ⟨s1, t2, h1, h2, h3, hh⟩ := view
      obtain ⟨p1, x1, d1, g1⟩ := Toks.get gt' dts h1
      obtain ⟨p2, x2, d2, g2⟩ := Toks.get gt' dts h3
      have lt1 : e1 + 1 < ts.length := (List.getElem?_eq_some_iff.mp h3).1
      have lts := ht.len
      refine ⟨_, rfl, _, rfl, tk, _, _, _, rfl, rfl, SqL.of (X.sub _ _ gt'), atI_nat x1, p1, _, _, _, rfl, rfl, SqT.of (X.sub _ _ g1), rfl, (by show 2 ≤ sizeLine; decide), fun tt htt => ?_⟩
      refine ⟨tt, (["+", "-"] : List Str).map V.str, rfl, .inr (SqT.of upd_same), rfl, flat_strs _, _, rfl, ?_⟩
      rw [inV_strs, decide_eq_true (by
        rcases h2 with h2 | h2 <;> rw [h2] <;> decide +kernel)]
      have X3 := X.allocT (o := .tup [.str "+", .str "-"]) htt
      have nlt := nly hy htt
      have hy3 : upd H' tt (.tup [.str "+", .str "-"]) l = some (.lst ys) := by rw [upd_ne nlt]; exact hy
      refine iteT ⟨_, fun σ' H' h => h, ?_⟩
      refine ⟨_, rfl, _, rfl, tk, _, _, _, rfl, rfl, SqL.of (X3.sub _ _ gt'), atI_nat x1, p1, _, _, _, rfl, rfl, SqT.of (X3.sub _ _ g1), rfl, ?_⟩
      have e1c : ((e1 : Nat) : Int) + 1 = ((e1 + 1 : Nat) : Int) := by omega
      have onward : ∀ (ff : Int) (w5 : Option V), (ff = 1 ∨ ff = -1) → w5 = some (.int ff) → ∀ (Pl : VK), (∀ (q2 : V) (H4 G4 : Hp), Xt none (upd H' tt (.tup [.str "+", .str "-"])) G' H4 G4 → ∀ v2 : Term, termOK cols t2.1 v2 → v2.1.natAbs < 1000000 → MoreStuck cols ts (e1 + 2) n → Pl q2 H4) →
          (spReadTerm [.ref p2, .int ff, .ref cx] (upd H' tt (.tup [.str "+", .str "-"])) Pl C8.E0 ∨ spTermF CW [.ref p2, .int ff, .ref cx] (upd H' tt (.tup [.str "+", .str "-"])) Pl E) := by
        intro ff w5 hff _ Pl kk
        rcases hh with ⟨no, rfl⟩ | ⟨v2, h4, h5, h6⟩
        · exact .inr ⟨p2, cx, t2, ff, cols, G', rfl, d2, ht.short t2 (List.mem_of_getElem? h3), ⟨oc, hcx', hod⟩, no, X3.sub, fail.mono X3⟩
        · exact .inl ⟨p2, cx, t2, ff, cols, v2, oc, G', rfl, d2, ht.short t2 (List.mem_of_getElem? h3), hcx', hod, h4, by omega, hff, X3.sub, fun q2 H4 G4 X5 _ => kk q2 H4 G4 X5 v2 h4 h5 h6⟩
      rcases h2 with h2 | h2
      · rw [h2]
        refine ⟨rfl, _, rfl, ?_⟩
        rw [decide_eq_true rfl]
        refine iteT ?_
        refine ⟨_, rfl, .inl ⟨rfl, _, SqL.of hy3⟩, _, rfl, _, rfl, _, _, rfl, rfl, tk, _, _, _, rfl, rfl, SqL.of (X3.sub _ _ gt'), by rw [e1c]; exact atI_nat x2, _, rfl, _, rfl, ?_⟩
        refine onward 1 _ (.inl rfl) rfl _ fun q2 H4 G4 X5 v2 h4 h5 h6 => ?_
        have hy5 := X5.hh l _ (fun q => by cases q) hy3
        have gy5 := X5.non (ne_none_of hy3) gy
        refine ⟨l, ys, _, rfl, rfl, hy5, small_lt (by omega), ?_⟩
        refine ⟨_, rfl, _, _, rfl, rfl, ?_⟩
        refine ⟨_, ?_, e1 + 2, G4, ys ++ [q2], _, rfl, rfl, (X3.trans X5).set l0 gy5, upd_same, gy5, ?_, h6⟩
        · omega
        · rw [List.length_append]
          show _ + 1 ≤ _
          omega
      · rw [h2]
        refine ⟨rfl, _, rfl, ?_⟩
        rw [decide_eq_false (by decide +kernel)]
        refine iteF ⟨_, rfl, ?_⟩
        refine ⟨_, rfl, .inl ⟨rfl, _, SqL.of hy3⟩, _, rfl, _, rfl, _, _, rfl, rfl, tk, _, _, _, rfl, rfl, SqL.of (X3.sub _ _ gt'), by rw [e1c]; exact atI_nat x2, _, rfl, _, rfl, ?_⟩
        refine onward (-1) _ (.inr rfl) rfl _ fun q2 H4 G4 X5 v2 h4 h5 h6 => ?_
        have hy5 := X5.hh l _ (fun q => by cases q) hy3
        have gy5 := X5.non (ne_none_of hy3) gy
        refine ⟨l, ys, _, rfl, rfl, hy5, small_lt (by omega), ?_⟩
        refine ⟨_, rfl, _, _, rfl, rfl, ?_⟩
        refine ⟨_, ?_, e1 + 2, G4, ys ++ [q2], _, rfl, rfl, (X3.trans X5).set l0 gy5, upd_same, gy5, ?_, h6⟩
        · omega
        · rw [List.length_append]
          show _ + 1 ≤ _
          omega
end
end Nw
namespace Nw
open PySem L2 PySem.Spec PyProof.Rows RZ
def termV (row : List Int) (t : Term) : Int := match t.2 with
  | none => t.1
  | some j => t.1 * row.getD j 0
def sumV (ts : List Term) (row : List Int) : Int := (ts.map (termV row)).sum
structure TermsIn (row : List Int) (ts : List Term) : Prop where
  small : ∀ t ∈ ts, t.1.natAbs < 1000000
  place : ∀ t ∈ ts, ∀ j, t.2 = some j → j < row.length
  len : ts.length ≤ 10000
def spSumV : Sp := fun vs H Q _ => ∃ (l t : Addr) (ts : List Term) (row : List Int) (G : Hp), vs = [.ref l, .ref t] ∧ D G (.ref l) (.list (ts.map dTerm)) ∧ G t = some (.tup (row.map V.int)) ∧ TermsIn row ts ∧ Same G H ∧ ∀ H', Xt none H G H' G → Q (.int (sumV ts row)) H'
section
variable {P : Program} {w : World} {K : PySem.W.Frag} {mg : Str → Option Value} {base : Heap}
theorem sumValue {f : Addr} {fd : FuncData} (F : C8.Def K mg "sum_value" s_sum_value f fd) (b : Binds K fd P_sum_value []) (T_ : Names K mg) (T : TextNames mg) : C8.Cal P w K mg base 1 "sum_value" spSumV [] := by
  refine C8.cal0 (N := N_sum_value) F b .nil sc_sum_value (fun vs H Q E h => ?_) (fun cdv A outer s H vs Q E hr h => ?_)
  · obtain ⟨l, t, ts, row, G, rfl, _⟩ := h
    rfl
  · obtain ⟨l, t, ts, row, G, rfl, hl, ht, hin, sG, k⟩ := h
    refine ⟨_, (pss_one (ps_ret (pe_callB (cr_sum rfl) (by rfl) T.n_sum (by decide +kernel) (pa_cons (pe_lc (own := [("factor", 2), ("index", 3)]) (g := (gTup K 2 (gCons (gName 2) (gCons (gName 3) gNil)))) (tt := tYes) rfl sc_sum_value.nd (pi_list (pv 0)) (blkOk_by (own := [("factor", 2), ("index", 3)]) (N := N_sum_value) (sc := C8.fnScope s_sum_value) (by decide +kernel)) (fun _ _ _ _ _ => (pg_tup rfl (pgs_cons (pg_name (i := 2) sc_sum_value.nd rfl (Or.inl rfl)) (pgs_cons (pg_name (i := 3) sc_sum_value.nd rfl (Or.inl rfl)) pgs_nil)))) (fun _ _ _ _ _ => pts_nil) (fun _ _ _ _ _ => (pe_ifExp (pt_cmpR op_isN (pv 3) pe_non (nomark _)) (pv 2) (pe_op op_mul (pv 2) (pe_ix (ix_tupK (K := K) rfl) (pv 1) (pv 3) (fun _ _ => rfl)))))) pa_nil)))), ?_⟩
    obtain ⟨l_, xs, e0, gl, da⟩ := id hl.list_inv
    cases e0
    have lx := da.length
    rw [List.length_map] at lx
    have lts := hin.len
    refine ⟨_, rfl, l, rfl, ⟨xs, SqL.of (sG _ _ gl)⟩, fun Dl hD => ?_⟩
    refine lc_data (b := none) (R := fun _ _ => True) (G := G) (walk_list (xs := xs)) (ts.map fun v => .int (termV row v)) (by rw [List.length_map, lx]) (by omega) hD sG (fun q => by cases q) trivial (fun _ _ _ _ => trivial) (fun i H4 G4 X4 _ => SqL.of (X4.sub _ _ (X4.gg _ _ gl))) ?_ ?_
    · rintro i y H1 G1 H2 d hd X1 _ ⟨rfl, hy⟩ Qy hq
      obtain ⟨d0, hd0, dy⟩ := (da.mono X1.gg).get hy
      rw [List.getElem?_map] at hd hd0
      cases ei : ts[i]? with
      | none => rw [ei] at hd; cases hd
      | some v =>
        rw [ei] at hd hd0
        obtain rfl := Option.some.inj hd
        obtain rfl := Option.some.inj hd0
        have hm := List.mem_of_getElem? ei
        obtain ⟨p, ws, rfl, hp, dw⟩ := dy.tup_inv
        obtain ⟨v1, v2⟩ := v
        cases v2 with
        | none =>
          have ews : ws = [.int v1, .non] := by
            cases dw with
            | cons h1 dw =>
              cases dw with
              | cons h2 dw =>
                cases dw
                cases h1
                cases h2
                rfl
          subst ews
          refine ⟨p, _, rfl, SqT.of (X1.sub _ _ hp), rfl, _, _, rfl, _, _, rfl, rfl, rfl, _, rfl, ?_⟩
          refine ⟨rfl, _, rfl, ?_⟩
          rw [decide_eq_true rfl]
          exact iteT ⟨_, rfl, hq _ _ _ (Xt.refl X1.sub) trivial (.int _)⟩
        | some j =>
          have ews : ws = [.int v1, .int (j : Int)] := by
            cases dw with
            | cons h1 dw =>
              cases dw with
              | cons h2 dw =>
                cases dw
                cases h1
                cases h2
                rfl
          subst ews
          refine ⟨p, _, rfl, SqT.of (X1.sub _ _ hp), rfl, _, _, rfl, _, _, rfl, rfl, rfl, _, rfl, ?_⟩
          refine ⟨rfl, _, rfl, ?_⟩
          rw [decide_eq_false (fun q => by cases q)]
          have hj := hin.place _ hm j rfl
          have hs := hin.small _ hm
          have hr : row[j]? = some (row.getD j 0) := by simp [hj]
          refine iteF ⟨_, rfl, _, rfl, _, rfl, t, _, _, _, rfl, rfl, SqT.of (X1.sub _ _ (X1.gg _ _ ht)), atI_nat (by rw [List.getElem?_map, hr]; rfl), _, _, rfl, rfl, .inl ⟨?_, ?_⟩, hq _ _ _ (Xt.refl X1.sub) trivial (.int _)⟩
          · have : v1.natAbs < 1000000 := hs
            omega
          · have : v1.natAbs < 1000000 := hs
            omega
    · intro H1 G1 ys X1 _ hl1 hg1 da1
      have e1 := DA.ints (ns := ts.map (termV row)) (by rw [List.map_map]; exact da1)
      refine ⟨Dl, _, rfl, SqL.of (by rw [hl1, e1]), ?_⟩
      exact k H1 X1.back
def cmpV (s : Str) (a b : Int) : Bool :=
  if s = "=" then decide (a = b) else if s = "!=" then !decide (a = b) else if s = "<" then decide (a < b) else if s = "<=" then decide (a ≤ b) else if s = ">" then decide (b < a) else decide (b ≤ a)
def spCompares : Sp := fun vs H Q _ => ∃ (a b : Int) (s : Str), vs = [.int a, .str s, .int b] ∧ Q (.bl (cmpV s a b)) H
theorem compares_ {f : Addr} {fd : FuncData} (F : C8.Def K mg "compares" s_compares f fd) (b : Binds K fd P_compares []) : C8.Cal P w K mg base 1 "compares" spCompares [] := by
  refine C8.cal0 (N := N_compares) F b .nil sc_compares (fun vs H Q E h => ?_) (fun cdv A outer s H vs Q E hr h => ?_)
  · obtain ⟨a, c, z, rfl, _⟩ := h
    rfl
  · obtain ⟨a, c, z, rfl, k⟩ := h
    refine ⟨_, (pss_cons (ps_if (pt_cmpR op_eq (pv 1) pe_str (nomark _)) (pss_one (ps_ret (pe_cmpR op_eq (pv 0) (pv 2) (nomark _)))) pss_nil)
 (pss_cons (ps_if (pt_cmpR op_eq (pv 1) pe_str (nomark _)) (pss_one (ps_ret (pe_cmpR op_ne (pv 0) (pv 2) (nomark _)))) pss_nil)
 (pss_cons (ps_if (pt_cmpR op_eq (pv 1) pe_str (nomark _)) (pss_one (ps_ret (pe_cmpR op_lt (pv 0) (pv 2) (nomark _)))) pss_nil)
 (pss_cons (ps_if (pt_cmpR op_eq (pv 1) pe_str (nomark _)) (pss_one (ps_ret (pe_cmpR op_le (pv 0) (pv 2) (nomark _)))) pss_nil)
 (pss_cons (ps_if (pt_cmpR op_eq (pv 1) pe_str (nomark _)) (pss_one (ps_ret (pe_cmpR op_gt (pv 0) (pv 2) (nomark _)))) pss_nil)
 (pss_one (ps_ret (pe_cmpR op_ge (pv 0) (pv 2) (nomark _))))))))), ?_⟩
    have es : ∀ t : Str, decide (V.str z = V.str t) = decide (z = t) := fun t => by
      by_cases q : z = t
      · rw [q, decide_eq_true rfl, decide_eq_true rfl]
      · rw [decide_eq_false q, decide_eq_false fun e => q (by injection e)]
    unfold cmpV at k
    refine ⟨_, rfl, rfl, _, rfl, ?_⟩
    rw [es]
    have ei : decide (V.int a = V.int c) = decide (a = c) := by
      by_cases q : a = c
      · rw [q, decide_eq_true rfl, decide_eq_true rfl]
      · rw [decide_eq_false q, decide_eq_false fun e => q (by injection e)]
    by_cases h1 : z = "="
    · rw [if_pos h1] at k
      rw [decide_eq_true h1]
      refine iteT ⟨_, rfl, _, rfl, rfl, ?_⟩
      show Q (.bl (decide (V.int a = V.int c))) H
      rw [ei]
      exact k
    rw [if_neg h1] at k
    rw [decide_eq_false h1]
    refine iteF ⟨_, rfl, rfl, _, rfl, ?_⟩
    rw [es]
    by_cases h2 : z = "!="
    · rw [if_pos h2] at k
      rw [decide_eq_true h2]
      refine iteT ⟨_, rfl, _, rfl, rfl, ?_⟩
      show Q (.bl (!decide (V.int a = V.int c))) H
      rw [ei]
      exact k
    rw [if_neg h2] at k
    rw [decide_eq_false h2]
    refine iteF ⟨_, rfl, rfl, _, rfl, ?_⟩
    rw [es]
    by_cases h3 : z = "<"
    · rw [if_pos h3] at k
      rw [decide_eq_true h3]
      exact iteT ⟨_, rfl, _, rfl, _, _, rfl, rfl, k⟩
    rw [if_neg h3] at k
    rw [decide_eq_false h3]
    refine iteF ⟨_, rfl, rfl, _, rfl, ?_⟩
    rw [es]
    by_cases h4 : z = "<="
    · rw [if_pos h4] at k
      rw [decide_eq_true h4]
      exact iteT ⟨_, rfl, _, rfl, _, _, rfl, rfl, k⟩
    rw [if_neg h4] at k
    rw [decide_eq_false h4]
    refine iteF ⟨_, rfl, rfl, _, rfl, ?_⟩
    rw [es]
    by_cases h5 : z = ">"
    · rw [if_pos h5] at k
      rw [decide_eq_true h5]
      exact iteT ⟨_, rfl, _, rfl, _, _, rfl, rfl, k⟩
    rw [if_neg h5] at k
    rw [decide_eq_false h5]
    exact iteF ⟨_, rfl, _, rfl, _, _, rfl, rfl, k⟩
end
end Nw
namespace Nw
open PySem L2 PySem.Spec PyProof.Rows RZ
/-- a table, stable, its columns' tuple known to have no dict -/
def TabF (C : Addr) (G : Hp) (x : Addr) (cols : List Col) : Prop := ∃ dx cx tx : Addr, G x = some (.ins C dx (tf cx tx)) ∧ G dx = some (.own x) ∧ Cols G cx (cols.map (·.1)) ∧ G tx = some (.tup (cols.map fun c => .int c.2))
theorem TabF.mono {C : Addr} {G G' : Hp} {x : Addr} {cols : List Col} (s : Same G G') (h : TabF C G x cols) : TabF C G' x cols := by
  obtain ⟨dx, cx, tx, h1, h2, h3, h4⟩ := h
  exact ⟨dx, cx, tx, s _ _ h1, s _ _ h2, h3.mono s, s _ _ h4⟩
def spInitF (C : Addr) : Sp := fun vs H Q _ => ∃ (x dx a : Addr) (xs : List V) (cols : List Col) (H0 G : Hp), vs = [.ref x, .ref a] ∧ H0 x = none ∧ H0 dx = none ∧ dx ≠ x ∧ H = upd (upd H0 dx (.own x)) x (.ins C dx []) ∧
  H0 a = some (.lst xs) ∧ DA G xs (dCols cols) ∧ Good n11 cols ∧ Same G H0 ∧ ∀ H' G', Xt none H0 G H' G' → TabF C G' x cols → Q .non H'
/-- what the top leaves of the class Table -/
structure TabC (K : PySem.W.Frag) (mg : Str → Option Value) (C : Addr) : Prop where
  cl : Cls K C
  nC : NoAttr K C "columns"
  nT : NoAttr K C "tops"
section
variable {P : Program} {w : World} {K : PySem.W.Frag} {mg : Str → Option Value} {base : Heap}
theorem tInit {f C : Addr} {fd : FuncData} (F : C8.Fun K "__init__" "Table.__init__" s_Table____init__ f fd) (b : Binds K fd P_Table____init__ []) (M : Mk K C f) (hm : mg "Table" = some (.ref C)) (T : Names K mg) (TC : TabC K mg C) (c_is_column : C8.Cal P w K mg base 2 "is_column" spCol []) : C8.Mak P w K mg base 3 "Table" C (spInitF C) [] := by
  refine C8.mak0 (N := N_Table____init__) M hm F b .nil sc_Table____init__ (fun vs H Q E h => ?_) (fun cdv A outer s H vs Q E hr h => ?_)
  · obtain ⟨x, dx, a, xs, cols, H0, G, rfl, _⟩ := h
    rfl
  · obtain ⟨x, dx, a, xs, cols, H0, G, rfl, nx, ndx, nex, hH, ha, da, good, sG, k⟩ := h
    have hu := hu_of hr
    refine ⟨_, (pss_cons (ps_if (pt_not (pt_chain op_le op_le pe_int (pe_callB call_len_seq (by rfl) T.n_len PySem.boot_len (pa_cons (pv 1) pa_nil)) pe_int)) (pss_one ps_never) pss_nil)
 (pss_cons (ps_set (i := 2) sc_Table____init__.nd rfl (Or.inl rfl) (pe_lst pa_nil))
 (pss_cons (ps_for PassesOwn.never rfl (pi_enum (by rfl) T.n_enumerate (pa_cons (pv 1) pa_nil)) (pg_tup rfl (pgs_cons (pg_name (i := 3) sc_Table____init__.nd rfl (Or.inl rfl)) (pgs_cons (pg_name (i := 4) sc_Table____init__.nd rfl (Or.inl rfl)) pgs_nil))) (pss_cons (ps_if (PW.pt (pw_or (pt_not (pt_val (C8.pe_c c_is_column hr (by decide) rfl (pa_cons (pv 4) pa_nil)))) (pw_or1 (pt_cmpR op_in_seq (pe_ix ix_tup (pv 4) pe_int (fun _ _ => rfl)) (pv 2) (by rfl))))) (pss_one ps_never) pss_nil)
 (pss_one (ps_expr (pe_bm PySem.F.plainAttrs_list PySem.F.slot_list_append PySem.F.type_list_append mt_append (pv 2) (pa_cons (pe_ix ix_tup (pv 4) pe_int (fun _ _ => rfl)) pa_nil))))))
 (pss_cons (ps_fld (pv 0) (pe_callTy call_tupleF (by rfl) T.n_tuple (by decide +kernel) (pa_cons (pv 2) pa_nil)) rfl)
 (pss_one (ps_fld (pv 0) (pe_callTy call_tuple_of (by rfl) T.n_tuple (by decide +kernel) (pa_cons (pe_lc (own := [("_", 5), ("top", 6)]) (g := (gTup K 2 (gCons (gName 5) (gCons (gName 6) gNil)))) (tt := tYes) rfl sc_Table____init__.nd (pi_list (pv 1)) (blkOk_by (own := [("_", 5), ("top", 6)]) (N := N_Table____init__) (sc := C8.fnScope s_Table____init__) (by decide +kernel)) (fun _ _ _ _ _ => (pg_tup rfl (pgs_cons (pg_name (i := 5) sc_Table____init__.nd rfl (Or.inl rfl)) (pgs_cons (pg_name (i := 6) sc_Table____init__.nd rfl (Or.inl rfl)) pgs_nil)))) (fun _ _ _ _ _ => pts_nil) (fun _ _ _ _ _ => (pv 6))) pa_nil)) rfl)))))), ?_⟩
    have hdx0 : upd H0 dx (.own x) x = none := by rw [upd_ne nex.symm]; exact nx
    have X0 : Xt none H0 G H G := by rw [hH]; exact (Xt.tmp sG ndx).allocT hdx0
    have hX : H x = some (.ins C dx []) := by rw [hH]; exact upd_same
    have hDX : H dx = some (.own x) := by rw [hH, upd_ne nex]; exact upd_same
    have hA := X0.hh a _ (fun q => by cases q) ha
    have gx : G x = none := sG.free nx
    have gdx : G dx = none := sG.free ndx
    have hl : xs.length = cols.length := by rw [da.length, dCols, List.length_map]
    have hl1 := good.len.1
    have hl3 := good.len.2
    clear hH
    refine ⟨_, rfl, a, _, rfl, .inl (SqL.of hA), _, _, rfl, rfl, _, rfl, ?_⟩
    rw [decide_eq_true (by omega : (1 : Int) ≤ ((xs.length : Nat) : Int))]
    refine iteT ⟨_, _, rfl, rfl, _, rfl, ?_⟩
    rw [decide_eq_true (by omega : ((xs.length : Nat) : Int) ≤ 3)]
    refine iteF ⟨Nat.zero_le _, fun nl hnl => ?_⟩
    have X1 := X0.allocT (o := .lst []) hnl
    have nl0 := X0.fresh hnl
    have n1 : x ≠ nl := fun q => by subst q; rw [hX] at hnl; cases hnl
    have n2 : dx ≠ nl := fun q => by subst q; rw [hDX] at hnl; cases hnl
    have n3 : a ≠ nl := fun q => by subst q; rw [hA] at hnl; cases hnl
    refine ⟨_, rfl, a, xs, rfl, SqL.of (by rw [upd_ne n3]; exact hA), for_it (walk_enum (xs := xs)) (fun i σ' H' => ∃ (G' : Hp) (v3 v4 : Option V), σ' = [some (.ref x), some (.ref a), some (.ref nl), v3, v4, none, none] ∧ Xt none H0 G H' G' ∧
      H' nl = some (.lst (((cols.map (·.1)).take i).map V.str)) ∧ H' x = some (.ins C dx []) ∧ H' dx = some (.own x) ∧ H' a = some (.lst xs) ∧ G' nl = none ∧ G' x = none ∧ G' dx = none ∧ DA G' xs (dCols cols)) ?_ ?_ ?_ ?_⟩
    · exact ⟨G, none, none, rfl, X1, upd_same, by rw [upd_ne n1]; exact hX, by rw [upd_ne n2]; exact hDX, by rw [upd_ne n3]; exact hA, X0.sub.free hnl, gx, gdx, da⟩
    · rintro i σ' H' hi ⟨G', v3, v4, rfl, X, h1, h2, h3, h4, _⟩
      exact SqL.of h4
    · rintro i y σ' H1 H2 hi ⟨G', v3, v4, rfl, X, h1, h2, h3, h4, g1, g2, g3, da'⟩ ⟨T_, u1, u2, rfl, hT, rfl, e1, e2⟩
      obtain ⟨c, t, hc, rfl, ht⟩ := cols_at da' e2
      obtain rfl := Option.some.inj e1
      have hcm : c ∈ cols := List.mem_of_getElem? hc
      obtain ⟨q1, q2⟩ := isCol_good (good.names c hcm) (good.tops c hcm)
      have X2 := X.allocT (o := .tup [.int ((i : Nat) : Int), .ref t]) hT
      have hn1 : c.1 ∉ (cols.map (·.1)).take i := nodup_new good.nd (by rw [List.getElem?_map, hc]; rfl)
      refine ⟨T_, _, rfl, SqT.of upd_same, rfl, _, _, rfl, _, _, rfl, rfl, ?_⟩
      refine ⟨_, rfl, .ref t, dCol c, G', rfl, .tup ht (.cons (.str _) (.cons (.int _) .nil)), q2, X2.sub, fun H3 X3 => ⟨_, rfl, ?_⟩⟩
      rw [q1]
      have k3 : ∀ b o, H1 b = some o → H3 b = some o := fun b o e => X3.hh b o (fun q => by cases q) (upd_same_ hT b o e)
      refine iteF ⟨_, rfl, t, _, _, _, rfl, rfl, SqT.of (X3.sub _ _ ht), rfl, _, rfl, nl, _, rfl, .inl (SqL.of (k3 _ _ h1)), rfl, flat_strs _, _, rfl, ?_⟩
      rw [inV_strs, decide_eq_false hn1]
      refine iteF ⟨_, rfl, .inl ⟨rfl, _, SqL.of (k3 _ _ h1)⟩, _, rfl, t, _, _, _, rfl, rfl, SqT.of (X3.sub _ _ ht), rfl, nl, _, _, rfl, rfl, k3 _ _ h1, small_lt (by rw [List.length_map, List.length_take, List.length_map]; omega), ?_⟩
      refine ⟨G', _, _, rfl, (X2.trans X3).set nl0 g1, ?_, by rw [upd_ne n1]; exact k3 _ _ h2, by rw [upd_ne n2]; exact k3 _ _ h3, by rw [upd_ne n3]; exact k3 _ _ h4, g1, g2, g3, da'⟩
      rw [upd_same, take_succ_of (x := c.1) (by rw [List.getElem?_map, hc]; rfl), List.map_append]
      rfl
    · rintro σ' H1 ⟨G', v3, v4, rfl, X, h1, h2, h3, h4, g1, g2, g3, da'⟩
      rw [show (cols.map (·.1)).take xs.length = cols.map (·.1) from List.take_of_length_le (by rw [List.length_map]; omega)] at h1
      refine ⟨_, rfl, nl, _, rfl, SqL.of h1, fun cx oc hcx hod => ?_⟩
      have m1 : x ≠ cx := fun q => by subst q; rw [h2] at hcx; cases hcx
      have m2 : dx ≠ cx := fun q => by subst q; rw [h3] at hcx; cases hcx
      have m3 : a ≠ cx := fun q => by subst q; rw [h4] at hcx; cases hcx
      have X2 := X.alloc (o := .frz oc (.tup ((cols.map (·.1)).map V.str))) hcx
      have g2' := none_of_ne (o := HO.frz oc (.tup ((cols.map (·.1)).map V.str))) g2 m1
      have g3' := none_of_ne (o := HO.frz oc (.tup ((cols.map (·.1)).map V.str))) g3 m2
      refine ⟨_, rfl, x, C, dx, _, rfl, by rw [upd_ne m1]; exact h2, TC.cl, TC.nC, (by show 0 < 1000; decide), ?_⟩
      have X3 := X2.set (o := .ins C dx (putF "columns" (.ref cx) [])) nx g2'
      have s3 : Same G' (upd G' cx (.frz oc (.tup ((cols.map (·.1)).map V.str)))) := upd_same_ (X.sub.free hcx)
      have hA3 : (upd (upd H1 cx (.frz oc (.tup ((cols.map (·.1)).map V.str)))) x (.ins C dx (putF "columns" (.ref cx) []))) a = some (.lst xs) := by
        have : a ≠ x := fun q => by subst q; rw [h2] at h4; cases h4
        rw [upd_ne this, upd_ne m3]; exact h4
      have hDX3 : (upd (upd H1 cx (.frz oc (.tup ((cols.map (·.1)).map V.str)))) x (.ins C dx (putF "columns" (.ref cx) []))) dx = some (.own x) := by
        rw [upd_ne nex, upd_ne m2]; exact h3
      refine ⟨_, rfl, a, rfl, ⟨_, SqL.of hA3⟩, fun Dl hD => ?_⟩
      refine lc_data (b := none) (R := fun _ _ => True) (walk_list (xs := xs)) (cols.map fun c => .int c.2) (by rw [List.length_map, hl]) (by omega) hD X3.sub (fun q => by cases q) trivial (fun _ _ _ _ => trivial) (fun i H4 G4 X4 _ => SqL.of (X4.hh _ _ (fun q => by cases q) hA3)) ?_ ?_
      · rintro i y H4 G4 H5 d hd X4 _ ⟨rfl, hy⟩ Qy hq
        obtain ⟨c, t, hc, rfl, ht⟩ := cols_at (da'.mono s3) hy
        rw [List.getElem?_map, hc] at hd
        obtain rfl := Option.some.inj hd
        exact ⟨t, _, rfl, SqT.of (X4.sub _ _ (X4.gg _ _ ht)), rfl, _, _, rfl, _, _, rfl, rfl, rfl, _, rfl, hq _ _ _ (Xt.refl X4.sub) trivial (.int _)⟩
      · intro H4 G4 ys X4 _ hl4 hg4 da4
        have e4 := DA.ints (ns := cols.map (·.2)) (by rw [List.map_map]; exact da4)
        refine ⟨Dl, _, rfl, .inl ⟨SqL.of hl4, fun tx htx => ?_⟩⟩
        have hX4 := X4.hh x _ (fun q => by cases q) (upd_same)
        have hDX4 := X4.hh dx _ (fun q => by cases q) hDX3
        have m4 : x ≠ tx := fun q => by subst q; rw [hX4] at htx; cases htx
        have m5 : dx ≠ tx := fun q => by subst q; rw [hDX4] at htx; cases htx
        refine ⟨_, rfl, x, C, dx, _, rfl, by rw [upd_ne m4]; exact hX4, TC.cl, TC.nT, (by show 1 < 1000; decide), ?_⟩
        have gx4 := X4.non (ne_none_of (upd_same)) g2'
        have gd4 := X4.non (ne_none_of hDX3) g3'
        have X5 := (X3.trans X4).alloc (o := .tup ys) htx
        have X6 := X5.set (o := .ins C dx (putF "tops" (.ref tx) (putF "columns" (.ref cx) []))) nx (none_of_ne gx4 m4)
        rw [tf_put] at X6 ⊢
        have X7 := X6.fix nx upd_same
        have X8 := X7.fix (l := dx) (o := .own x) ndx (by rw [upd_ne nex, upd_ne m5]; exact hDX4)
        refine k _ _ X8 ⟨dx, cx, tx, by rw [upd_ne nex.symm, upd_same], upd_same, ⟨oc, ?_, hod⟩, ?_⟩
        · have hc4 := X4.gg cx _ upd_same
          rw [upd_ne m2.symm, upd_ne m1.symm, upd_ne (ne_of_none (X4.sub _ _ hc4) htx), hc4]
        · rw [upd_ne m5.symm, upd_ne m4.symm, upd_same, e4, List.map_map]; rfl
end
end Nw
namespace Nw
open PySem L2 PySem.Spec PyProof.Rows RZ
def spAllValuesF (C : Addr) : Sp := fun vs H Q _ => ∃ (x : Addr) (cols : List Col) (G : Hp), vs = [.ref x] ∧ TabF C G x cols ∧ Good n11 cols ∧ Same G H ∧ OwnL H G (dRows (allV (cols.map (·.2)))) Q
section
variable {P : Program} {w : World} {K : PySem.W.Frag} {mg : Str → Option Value} {base : Heap}
theorem tAll {f C : Addr} {fd : FuncData} (F : C8.Fun K "all_values" "Table.all_values" s_Table__all_values f fd) (b : Binds K fd P_Table__all_values []) (TC : TabC K mg C) (me : Meth K C "all_values" f) (T : Names K mg) : C8.Met P w K mg base 1 C "all_values" (spAllValuesF C) [] := by
  refine C8.met0 (N := N_Table__all_values) TC.cl me F b sc_Table__all_values (fun vs H Q E h => ?_) (fun cdv A outer s H vs Q E hr h => ?_)
  · obtain ⟨x, cols, G, rfl, _⟩ := h
    rfl
  · obtain ⟨x, cols, G, rfl, tab, good, sG, k⟩ := h
    have hu := hu_of hr
    refine ⟨_, (pss_cons (ps_set (i := 1) sc_Table__all_values.nd rfl (Or.inl rfl) (pe_lst (pa_cons (pe_tup pa_nil) pa_nil)))
 (pss_cons (ps_for PassesOwn.never rfl (pi_tup (pe_fld (pv 0) rfl)) (pg_name (i := 2) sc_Table__all_values.nd rfl (Or.inr rfl)) (pss_one (ps_setLc2 (i := 1) (own := [("values", 3), ("value", 4)]) (vs1 := [4]) (g := (gName 3)) (g1 := (gName 4)) (tt := tYes) (tt1 := tYes) rfl sc_Table__all_values.nd rfl rfl (sw_true rfl rfl rfl (by decide +kernel)) (pi_list (pv 1)) (blkOk_by (own := [("values", 3), ("value", 4)]) (N := N_Table__all_values) (sc := C8.fnScope s_Table__all_values) (by decide +kernel)) (by decide) (fun _ _ _ _ _ => (pg_name (i := 3) sc_Table__all_values.nd rfl (Or.inl rfl))) (fun _ _ _ _ _ => pts_nil) (fun _ _ _ _ _ => (pi_range1 rfl T.n_range (pa_cons (pe_op op_add (pv 2) pe_int) pa_nil))) (fun _ _ _ _ _ => (pg_name (i := 4) sc_Table__all_values.nd rfl (Or.inl rfl))) (fun _ _ _ _ _ => pts_nil) (fun _ _ _ _ _ => (pe_tup (pa_starK (K := K) rfl (pv 3) (pa_cons (pv 4) pa_nil)))))))
 (pss_one (ps_ret (pv 1))))), ?_⟩
    obtain ⟨dx, cx, tx, t1, t2, t3, t4⟩ := id tab
    have htops : ∀ t ∈ cols.map (·.2), 1 ≤ t ∧ t ≤ 3 := fun t ht => by
      obtain ⟨c, hc, rfl⟩ := List.mem_map.mp ht
      exact good.tops c hc
    have hlen : (cols.map (·.2)).length ≤ 3 := by rw [List.length_map]; exact good.len.2
    refine ⟨Nat.zero_le _, fun t0 ht0 => ⟨(by show 1 ≤ sizeLine; decide), fun fl hfl => ?_⟩⟩
    have X1 := Xt.new (b := none) (o := .tup []) sG ht0
    have X2 := X1.allocT (o := .lst [.ref t0]) hfl
    have hfl0 := X1.fresh hfl
    have nf : t0 ≠ fl := fun q => by subst q; rw [upd_same] at hfl; cases hfl
    have gfl : (upd G t0 (.tup [])) fl = none := X1.sub.free hfl
    refine ⟨_, rfl, x, C, dx, _, _, rfl, X2.sub _ _ (X2.gg _ _ t1), TC.cl, TC.nT, tf_t _ _, tx, rfl, ⟨_, SqT.of (X2.sub _ _ (X2.gg _ _ t4))⟩, for_it (walk_tup (xs := cols.map fun c => .int c.2)) (fun i σ' H' => ∃ (G' : Hp) (v2 : Option V) (fl : Addr) (xs : List V), σ' = [some (.ref x), some (.ref fl), v2, none, none] ∧ Xt none H G H' G' ∧
      H fl = none ∧ H' fl = some (.lst xs) ∧ G' fl = none ∧ DA G' xs (dRows (allV ((cols.map (·.2)).take i)))) ?_ ?_ ?_ ?_⟩
    · exact ⟨_, none, fl, [.ref t0], rfl, X2, hfl0, upd_same, gfl, .one (.ofRow (r := []) upd_same)⟩
    · rintro i σ' H' hi ⟨G', v2, fl, xs, rfl, X, _⟩
      exact SqT.of (X.sub _ _ (X.gg _ _ t4))
    · rintro i y σ' H1 H2 hi ⟨G', v2, fl, xs, rfl, X, f0, f1, f2, da⟩ ⟨rfl, hy⟩
      obtain ⟨c, hc, rfl⟩ : ∃ c, cols[i]? = some c ∧ y = .int c.2 := by
        rw [List.getElem?_map] at hy
        cases e : cols[i]? with
        | none => rw [e] at hy; cases hy
        | some c => rw [e] at hy; exact ⟨c, rfl, (Option.some.inj hy).symm⟩
      have htc := good.tops c (List.mem_of_getElem? hc)
      have hti : (cols.map (·.2))[i]? = some c.2 := by rw [List.getElem?_map, hc]; rfl
      have small := allV_small (i := i) hlen htops
      have small2 := allV_small (i := i + 1) hlen htops
      have rl : ∀ r ∈ allV ((cols.map (·.2)).take i), r.length ≤ 3 := fun r hr => by
        have := allV_row (n := 0) (fun r hr => by simp at hr; subst hr; rfl) r hr
        rw [this, List.length_take]; omega
      refine ⟨_, rfl, fl, rfl, ⟨xs, SqL.of f1⟩, fun Dl hD => ?_⟩
      have hxl : xs.length = (allV ((cols.map (·.2)).take i)).length := by rw [da.length, dRows, List.length_map]
      refine lc2_data (walk_list (xs := xs)) ((allV ((cols.map (·.2)).take i)).map fun row => (List.range (c.2 + 1).toNat).map fun v => dRow (row ++ [((v : Nat) : Int)])) (by rw [List.length_map, hxl]) ?_ hD X.sub (fun H4 G4 X4 => SqL.of (X4.hh _ _ (fun q => by cases q) f1)) ?_ ?_
      · rw [dRows_step, dRows, List.length_map, ← allV_succ hti]; omega
      · rintro j y H3 G3 H4 ds hds X3 ⟨rfl, hy⟩ Qi hQ
        obtain ⟨r, t, hr, rfl, ht⟩ := rows_at da hy
        rw [List.getElem?_map, hr] at hds
        obtain rfl := Option.some.inj hds
        have hrl := rl r (List.mem_of_getElem? hr)
        refine ⟨rfl, _, rfl, _, _, rfl, rfl, c.2 + 1, rfl, by omega, by omega, hQ _ _ _ G3 (fun _ => True) _ (Xt.refl X3.sub) (by rw [List.length_map, List.length_range]; exact walk_range) (fun _ _ _ => trivial) ?_⟩
        rintro m y2 H5 G5 H6 d hd X5 ⟨rfl, rfl⟩ Qy hq
        rw [List.getElem?_map] at hd
        have hm : m < (c.2 + 1).toNat := by
          cases e : (List.range (c.2 + 1).toNat)[m]? with
          | none => rw [e] at hd; cases hd
          | some v => have := getElem?_lt e; rwa [List.length_range] at this
        rw [List.getElem?_range hm] at hd
        obtain rfl := Option.some.inj hd
        have ht5 := X5.gg _ _ (X3.gg _ _ ht)
        refine ⟨rfl, _, rfl, t, _, rfl, .inl (SqT.of (X5.sub _ _ ht5)), _, rfl, small_line (by simp; omega), fun p hp => hq (.ref p) _ _ (Xt.new X5.sub hp) (.ofRow (r := r ++ [((m : Nat) : Int)]) ?_)⟩
        rw [upd_same, List.map_append]
        show some (HO.tup (r.map V.int ++ [V.int (0 + ((m : Nat) : Int))])) = _
        rw [Int.zero_add]
        rfl
      · intro H3 G3 ys X3 h3 g3 da3
        rw [dRows_step, ← allV_succ hti] at da3
        exact ⟨G3, _, Dl, ys, rfl, X.trans X3, X.fresh hD, h3, g3, da3⟩
    · rintro σ' H1 ⟨G', v2, fl, xs, rfl, X, f0, f1, f2, da⟩
      rw [show (cols.map (·.2)).take (cols.map fun c => V.int c.2).length = cols.map (·.2) from List.take_of_length_le (by simp)] at da
      exact ⟨_, rfl, k fl xs H1 G' X f0 f1 f2 da⟩
def spEvery (C : Addr) : Sp := fun vs H Q _ => ∃ (x : Addr) (cols : List Col) (G : Hp), vs = [.ref x] ∧ TabF C G x cols ∧ Good n11 cols ∧ Same G H ∧ ∀ H', Xt none H G H' G → Q (.int (2 ^ (allV (cols.map (·.2))).length - 1)) H'
theorem everyBit {f C : Addr} {fd : FuncData} (F : C8.Def K mg "every_bit" s_every_bit f fd) (b : Binds K fd P_every_bit []) (T : Names K mg) (TC : TabC K mg C) (c_Table__all_values : C8.Met P w K mg base 1 C "all_values" (spAllValuesF C) []) : C8.Cal P w K mg base 2 "every_bit" (spEvery C) [] := by
  refine C8.cal0 (N := N_every_bit) F b .nil sc_every_bit (fun vs H Q E h => ?_) (fun cdv A outer s H vs Q E hr h => ?_)
  · obtain ⟨x, cols, G, rfl, _⟩ := h
    rfl
  · obtain ⟨x, cols, G, rfl, tab, good, sG, k⟩ := h
    refine ⟨_, (pss_one (ps_ret (pe_op op_sub (pe_op op_shl pe_int (pe_callB call_len_seq (by rfl) T.n_len PySem.boot_len (pa_cons (C8.pe_mt0 c_Table__all_values hr (by decide) (pv 0)) pa_nil))) pe_int))), ?_⟩
    obtain ⟨dx, cx, tx, t1, t2, t3, t4⟩ := id tab
    have htops : ∀ t ∈ cols.map (·.2), 1 ≤ t ∧ t ≤ 3 := fun t ht => by
      obtain ⟨c, hc, rfl⟩ := List.mem_map.mp ht
      exact good.tops c hc
    have hV : (allV (cols.map (·.2))).length ≤ 64 := by
      have hl : (cols.map (·.2)).length ≤ 3 := by rw [List.length_map]; exact good.len.2
      have := allV_small (tops := cols.map (·.2)) (i := 3) hl htops
      rw [List.take_of_length_le hl] at this
      exact this
    refine ⟨_, rfl, x, dx, _, rfl, sG _ _ t1, tf_no _ _ (by decide +kernel) (by decide +kernel), x, cols, G, rfl, tab, good, sG, fun p xs H1 G1 X1 p0 p1 p2 dp => ?_⟩
    have lx := dp.length
    rw [dRows, List.length_map] at lx
    refine ⟨p, _, rfl, .inl (SqL.of p1), ?_⟩
    refine ⟨_, _, rfl, rfl, ⟨by omega, by omega, by decide⟩, _, _, rfl, rfl, ?_⟩
    have e : (1 : Int) * 2 ^ ((xs.length : Int)).toNat - 1 = 2 ^ (allV (cols.map (·.2))).length - 1 := by
      rw [Int.one_mul, Int.toNat_natCast, lx]
    show Q (.int ((1 : Int) * 2 ^ ((xs.length : Int)).toNat - 1)) H1
    rw [e]
    exact k H1 (Xt.back X1)
end
end Nw
namespace Nw
open PySem L2 PySem.Spec PyProof.Rows RZ
/-- a level of the reader: the parts, the atoms, negated -/
def Lev (P : Program) (w : World) (G : Hp) (lv : Addr) (m n : Nk) (neg : Bool) : Prop := ∃ dp da : Addr, G lv = some (.tup [.ref dp, .ref da, .bl neg]) ∧ Mn P w G dp m ∧ Mn P w G da n
theorem Lev.mono {P : Program} {w : World} {G G' : Hp} {lv : Addr} {m n : Nk} {neg : Bool} (s : Same G G') (h : Lev P w G lv m n neg) : Lev P w G' lv m n neg := by
  obtain ⟨dp, da, h1, h2, h3⟩ := h
  exact ⟨dp, da, s _ _ h1, h2.mono s, h3.mono s⟩
def spWhole (P : Program) (w : World) : Sp := fun vs H Q _ => ∃ (lv : Addr) (m n : Nk) (neg : Bool) (G : Hp), vs = [.ref lv] ∧ Lev P w G lv m n neg ∧ m.length + n.length ≤ 1000 ∧ Same G H ∧
  ∀ (p : Addr) (r : Nk) (H' G' : Hp), Xt none H G H' G' → Mn P w G' p r → r.length ≤ m.length + n.length → (∀ k, mv r k = Builtin.bitOr (mv m k) (mv n k)) → (∀ k, k ∈ r.map (·.1) ↔ k ∈ m.map (·.1) ∨ k ∈ n.map (·.1)) → Q (.ref p) H'
def spWith (P : Program) (w : World) : Sp := fun vs H Q _ => ∃ (lv d : Addr) (e : Int) (m n c : Nk) (neg : Bool) (G : Hp), vs = [.ref lv, .ref d, .int e] ∧ Lev P w G lv m n neg ∧ Mn P w G d c ∧ n.length + c.length ≤ 1000 ∧ Same G H ∧
  ∀ (p : Addr) (r : Nk) (H' G' : Hp), Xt none H G H' G' → Lev P w G' p m r false → r.length ≤ n.length + c.length → (∀ k, mv r k = Builtin.bitAnd (mv n k) (if neg = true then Builtin.bitXor e (mv c k) else mv c k)) → (∀ k, k ∈ r.map (·.1) ↔ k ∈ n.map (·.1) ∨ k ∈ c.map (·.1)) → Q (.ref p) H'
section
variable {P : Program} {w : World} {K : PySem.W.Frag} {mg : Str → Option Value} {base : Heap}
theorem wholeLevel {f : Addr} {fd : FuncData} (F : C8.Def K mg "whole_level" s_whole_level f fd) (b : Binds K fd P_whole_level []) (c_either : C8.Cal P w K mg base 2 "either" (spTwo P w Builtin.bitOr) []) : C8.Cal P w K mg base 3 "whole_level" (spWhole P w) [] := by
  refine C8.cal0 (N := N_whole_level) F b .nil sc_whole_level (fun vs H Q E h => ?_) (fun cdv A outer s H vs Q E hr h => ?_)
  · obtain ⟨lv, m, n, neg, G, rfl, _⟩ := h
    rfl
  · obtain ⟨lv, m, n, neg, G, rfl, ⟨dp, da, h1, h2, h3⟩, hl, sG, k⟩ := h
    refine ⟨_, (pss_cons (ps_asg (pv 0) (pg_tup rfl (pgs_cons (pg_name (i := 1) sc_whole_level.nd rfl (Or.inl rfl)) (pgs_cons (pg_name (i := 2) sc_whole_level.nd rfl (Or.inl rfl)) (pgs_cons (pg_name (i := 3) sc_whole_level.nd rfl (Or.inl rfl)) pgs_nil)))))
 (pss_one (ps_ret (C8.pe_c c_either hr (by decide) rfl (pa_cons (pv 1) (pa_cons (pv 2) pa_nil)))))), ?_⟩
    refine ⟨_, rfl, lv, _, rfl, SqT.of (sG _ _ h1), rfl, _, _, rfl, _, _, rfl, _, _, rfl, rfl, ?_⟩
    exact ⟨_, rfl, _, rfl, dp, da, m, n, G, rfl, h2, h3, hl, sG, k⟩
theorem withAtom {f : Addr} {fd : FuncData} (F : C8.Def K mg "with_atom" s_with_atom f fd) (b : Binds K fd P_with_atom []) (c_both : C8.Cal P w K mg base 2 "both" (spTwo P w Builtin.bitAnd) []) (c_opposite : C8.Cal P w K mg base 1 "opposite" (spOpp P w) []) : C8.Cal P w K mg base 3 "with_atom" (spWith P w) [] := by
  refine C8.cal0 (N := N_with_atom) F b .nil sc_with_atom (fun vs H Q E h => ?_) (fun cdv A outer s H vs Q E hr h => ?_)
  · obtain ⟨lv, d, e, m, n, c, neg, G, rfl, _⟩ := h
    rfl
  · obtain ⟨lv, d, e, m, n, c, neg, G, rfl, ⟨dp, da, h1, h2, h3⟩, hc, hl, sG, k⟩ := h
    refine ⟨_, (pss_cons (ps_asg (pv 0) (pg_tup rfl (pgs_cons (pg_name (i := 3) sc_with_atom.nd rfl (Or.inl rfl)) (pgs_cons (pg_name (i := 4) sc_with_atom.nd rfl (Or.inl rfl)) (pgs_cons (pg_name (i := 5) sc_with_atom.nd rfl (Or.inl rfl)) pgs_nil)))))
 (pss_cons (ps_if (pt_val (pv 5)) (pss_one (ps_ret (pe_tup (pa_cons (pv 3) (pa_cons (C8.pe_c c_both hr (by decide) rfl (pa_cons (pv 4) (pa_cons (C8.pe_c c_opposite hr (by decide) rfl (pa_cons (pv 1) (pa_cons (pv 2) pa_nil))) pa_nil))) (pa_cons pe_bl pa_nil)))))) pss_nil)
 (pss_one (ps_ret (pe_tup (pa_cons (pv 3) (pa_cons (C8.pe_c c_both hr (by decide) rfl (pa_cons (pv 4) (pa_cons (pv 1) pa_nil))) (pa_cons pe_bl pa_nil)))))))), ?_⟩
    refine ⟨_, rfl, lv, _, rfl, SqT.of (sG _ _ h1), rfl, _, _, rfl, _, _, rfl, _, _, rfl, rfl, ?_⟩
    refine ⟨_, rfl, _, rfl, ?_⟩
    cases neg with
    | true =>
      refine iteT ⟨_, rfl, _, rfl, _, rfl, _, rfl, d, e, c, G, rfl, hc, sG, fun q r1 H1 G1 X1 hr1 hl1 hv1 hk1 => ?_⟩
      refine ⟨da, q, n, r1, G1, rfl, h3.mono X1.gg, hr1, by omega, X1.sub, fun p r2 H2 G2 X2 hr2 hl2 hv2 hk2 => ?_⟩
      refine ⟨(by show 3 ≤ sizeLine; decide), fun t ht => ?_⟩
      have X3 := (X1.trans X2).alloc (o := .tup [.ref dp, .ref p, .bl false]) ht
      have s3 := upd_same_ (o := .tup [.ref dp, .ref p, .bl false]) ((X1.trans X2).sub.free ht)
      refine k t r2 _ _ X3 ⟨dp, p, upd_same, h2.mono X3.gg, hr2.mono s3⟩ (by omega) (fun j => ?_) (fun j => ?_)
      · rw [hv2, hv1]; rfl
      · rw [hk2, hk1]
    | false =>
      refine iteF ⟨_, rfl, _, rfl, _, rfl, da, d, n, c, G, rfl, h3, hc, hl, sG, fun p r2 H2 G2 X2 hr2 hl2 hv2 hk2 => ?_⟩
      refine ⟨(by show 3 ≤ sizeLine; decide), fun t ht => ?_⟩
      have X3 := X2.alloc (o := .tup [.ref dp, .ref p, .bl false]) ht
      have s3 := upd_same_ (o := .tup [.ref dp, .ref p, .bl false]) (X2.sub.free ht)
      refine k t r2 _ _ X3 ⟨dp, p, upd_same, h2.mono X3.gg, hr2.mono s3⟩ (by omega) (fun j => ?_) (fun j => ?_)
      · rw [hv2]; rfl
      · exact hk2 j
end
end Nw
namespace Nw
open PySem L2 PySem.Spec PyProof.Rows RZ
/-- what read_name and the like give: a meaning, and where it ends -/
def Got (P : Program) (w : World) (G : Hp) (p : V) (m : Nk) (e : Nat) : Prop := ∃ t d : Addr, p = .ref t ∧ G t = some (.tup [.ref d, .int (e : Int)]) ∧ Mn P w G d m
theorem mok_one (i : Int) : MOk [(Leaf.none, V.int i)] := ⟨fun kv h => by
    rw [List.mem_singleton.mp h]
    exact ⟨trivial, i, rfl⟩, ⟨i, rfl⟩, (by show 1 ≤ 1000; decide), List.nodup_cons.mpr ⟨List.not_mem_nil, List.nodup_nil⟩⟩
theorem mv_one (i : Int) (k : Leaf) : mv [(Leaf.none, V.int i)] k = i := by
  cases k <;> simp [mv, valV, iv]
theorem mok_two (i j : Int) (z : Str) : MOk [(Leaf.none, V.int i), (Leaf.text z, V.int j)] := ⟨fun kv h => by
    simp only [List.mem_cons, List.mem_nil_iff, or_false] at h
    rcases h with rfl | rfl
    · exact ⟨trivial, i, rfl⟩
    · exact ⟨trivial, j, rfl⟩, ⟨i, rfl⟩, (by show 2 ≤ 1000; decide), by simp⟩
theorem mv_two (i j : Int) (z : Str) (k : Leaf) : mv [(Leaf.none, V.int i), (Leaf.text z, V.int j)] k = if k = .text z then j else i := by
  unfold mv
  by_cases h : k = .text z
  · subst h
    rw [if_pos rfl]
    simp [valV, iv]
  · rw [if_neg h]
    cases k with
    | none => simp [valV, iv]
    | num n => simp [valV, iv]
    | text y =>
      have : ¬ z = y := fun e => h (by rw [e])
      simp [valV, iv, this]
/-- the end of {..}, made and never changed again -/
theorem frz_end {P : Program} {w : World} {H G H2 : Hp} {d : Addr} {m : Nk} (X : Xt none H G H2 G) (hd : H2 d = none) (mo : MOk m) (od : Obj) :
    Xt none H G (upd (upd (upd H2 d (dN P w d [])) d (dN P w d m)) d (.frz od (dN P w d m))) (upd G d (.frz od (dN P w d m))) ∧ Mn P w (upd G d (.frz od (dN P w d m))) d m := by
  have d0 := X.fresh hd
  have gd := X.sub.free hd
  have X4 := X.allocT (o := dN P w d []) hd
  have X5 := (X4.set (o := dN P w d m) d0 gd).set (o := .frz od (dN P w d m)) d0 gd
  exact ⟨X5.fix d0 upd_same, ⟨od, upd_same⟩, mo⟩
theorem merge_two (i j : V) (z : Str) : mergeN [] [(Leaf.none, i), (Leaf.text z, j)] = [(Leaf.none, i), (Leaf.text z, j)] := rfl
def spReadName (P : Program) (w : World) : Sp := fun vs H Q _ => ∃ (tk : Addr) (a : Nat) (ev : Int) (ts : List Tok) (s t : Tok) (G : Hp), vs = [.ref tk, .int (a : Int), .int ev] ∧ Toks G tk ts ∧ ts[a]? = some s ∧ (s.1 = "=" ∨ s.1 = "!=") ∧ ts[a + 1]? = some t ∧ isWordS t.1 = true ∧ Same G H ∧
  ∀ (p : V) (m : Nk) (H' G' : Hp), Xt none H G H' G' → Got P w G' p m (a + 2) → (∀ k, mv m k = if (k = .text t.1) = (s.1 = "=") then ev else 0) → m.map (·.1) = [.none, .text t.1] → Q p H'
section
variable {P : Program} {w : World} {K : PySem.W.Frag} {mg : Str → Option Value} {base : Heap}
theorem readName {f : Addr} {fd : FuncData} (F : C8.Def K mg "read_name" s_read_name f fd) (b : Binds K fd P_read_name []) (T : Names K mg) (c_is_word : C8.Cal P w K mg base 1 "is_word" spWord []) : C8.Cal P w K mg base 2 "read_name" (spReadName P w) [] := by
  refine C8.cal0 (N := N_read_name) F b .nil sc_read_name (fun vs H Q E h => ?_) (fun cdv A outer s H vs Q E hr h => ?_)
  · obtain ⟨tk, a, ev, ts, s, t, G, rfl, _⟩ := h
    rfl
  · obtain ⟨tk, a, ev, ts, s, t, G, rfl, ht, h1, hs, h2, hw, sG, k⟩ := h
    refine ⟨_, (pss_cons (ps_asg (pe_ix ix_list (pv 0) (pv 1) (fun _ _ => rfl)) (pg_tup rfl (pgs_cons (pg_name (i := 3) sc_read_name.nd rfl (Or.inl rfl)) (pgs_cons (pg_name (i := 4) sc_read_name.nd rfl (Or.inl rfl)) pgs_nil))))
 (pss_cons (ps_if (pt_cmpR op_notIn_seq (pv 3) (pe_tup (pa_cons pe_str (pa_cons pe_str pa_nil))) (by rfl)) (pss_one ps_never) pss_nil)
 (pss_cons (ps_asg (pe_ix ix_list (pv 0) (pe_op op_add (pv 1) pe_int) (fun _ _ => rfl)) (pg_tup rfl (pgs_cons (pg_name (i := 5) sc_read_name.nd rfl (Or.inl rfl)) (pgs_cons (pg_name (i := 4) sc_read_name.nd rfl (Or.inl rfl)) pgs_nil))))
 (pss_cons (ps_if (pt_not (pt_val (C8.pe_c c_is_word hr (by decide) rfl (pa_cons (pv 5) pa_nil)))) (pss_one ps_never) pss_nil)
 (pss_cons (ps_if (pt_cmpR op_eq (pv 3) pe_str (nomark _)) (pss_one (ps_ret (pe_tup (pa_cons (pe_frz (pe_ndisp (pps_cons pe_non pe_int (pps_cons (pv 5) (pv 2) pps_nil)) rfl rfl (fun q => nomatch q) (by decide))) (pa_cons (pe_op op_add (pv 1) pe_int) pa_nil))))) pss_nil)
 (pss_one (ps_ret (pe_tup (pa_cons (pe_frz (pe_ndisp (pps_cons pe_non (pv 2) (pps_cons (pv 5) pe_int pps_nil)) rfl rfl (fun q => nomatch q) (by decide))) (pa_cons (pe_op op_add (pv 1) pe_int) pa_nil)))))))))), ?_⟩
    obtain ⟨tk_, xs, e0, gt, da⟩ := id ht.at_.list_inv
    cases e0
    obtain ⟨p1, x1, d1, g1⟩ := Toks.get gt da h1
    obtain ⟨p2, x2, d2, g2⟩ := Toks.get gt da h2
    refine ⟨_, rfl, _, rfl, tk, _, _, _, rfl, rfl, SqL.of (sG _ _ gt), atI_nat x1, p1, _, rfl, SqT.of (sG _ _ g1), rfl, _, _, rfl, _, _, rfl, rfl, ?_⟩
    refine ⟨_, rfl, (by show 2 ≤ sizeLine; decide), fun tt htt => ?_⟩
    have X1 := Xt.tmp (b := none) (o := .tup [.str "=", .str "!="]) sG htt
    refine ⟨tt, (["=", "!="] : List Str).map V.str, rfl, .inr (SqT.of upd_same), rfl, flat_strs _, _, rfl, ?_⟩
    rw [inV_strs, decide_eq_true (by rcases hs with hs | hs <;> rw [hs] <;> decide +kernel)]
    have ea : ((a : Nat) : Int) + 1 = ((a + 1 : Nat) : Int) := by omega
    refine iteF ⟨_, rfl, _, rfl, _, _, rfl, rfl, tk, _, _, _, rfl, rfl, SqL.of (X1.sub _ _ gt), by rw [ea]; exact atI_nat x2, p2, _, rfl, SqT.of (X1.sub _ _ g2), rfl, _, _, rfl, _, _, rfl, rfl, ?_⟩
    have ln := ht.short t (List.mem_of_getElem? h2)
    refine ⟨_, rfl, .str t.1, G, rfl, trivial, X1.sub, (fun z e => by injection e with e; rw [← e]; omega), fun H2 X2 => ⟨_, rfl, ?_⟩⟩
    rw [show isWord (.str t.1) = true from hw]
    have X3 := X1.trans X2
    refine iteF ⟨_, rfl, rfl, _, rfl, ?_⟩
    have ea2 : ((a : Nat) : Int) + 2 = ((a + 2 : Nat) : Int) := by omega
    rcases hs with hs | hs
    · rw [hs, decide_eq_true rfl]
      refine iteT fun d hd => ?_
      refine ⟨_, rfl, _, rfl, upd_same, [(Leaf.none, .int 0), (Leaf.text t.1, .int ev)], rfl, (by show 2 ≤ 15; decide), d, _, rfl, upd_same, True.intro, fun od => ?_⟩
      obtain ⟨X6, hm⟩ := frz_end (P := P) (w := w) (m := [(Leaf.none, .int 0), (Leaf.text t.1, .int ev)]) X3 hd (mok_two 0 ev t.1) od
      refine ⟨_, rfl, _, _, rfl, rfl, (by show 2 ≤ sizeLine; decide), fun q hq => ?_⟩
      have X7 := X6.alloc (o := .tup [.ref d, .int ((a + 2 : Nat) : Int)]) hq
      refine k (.ref q) _ _ _ X7 ⟨q, d, rfl, upd_same, hm.mono (upd_same_ (X6.sub.free hq))⟩ (fun j => ?_) rfl
      rw [mv_two]
      by_cases c : j = .text t.1
      · rw [if_pos c]
        rw [if_pos (by first | (simp [c, hs]; done) | (simp only [c, hs]; decide +kernel))]
      · rw [if_neg c]
        rw [if_neg (by first | (simp [c, hs]; done) | (simp only [c, hs]; decide +kernel))]
    · rw [hs, decide_eq_false (by decide +kernel)]
      refine iteF fun d hd => ?_
      refine ⟨_, rfl, _, rfl, upd_same, [(Leaf.none, .int ev), (Leaf.text t.1, .int 0)], rfl, (by show 2 ≤ 15; decide), d, _, rfl, upd_same, True.intro, fun od => ?_⟩
      obtain ⟨X6, hm⟩ := frz_end (P := P) (w := w) (m := [(Leaf.none, .int ev), (Leaf.text t.1, .int 0)]) X3 hd (mok_two ev 0 t.1) od
      refine ⟨_, rfl, _, _, rfl, rfl, (by show 2 ≤ sizeLine; decide), fun q hq => ?_⟩
      have X7 := X6.alloc (o := .tup [.ref d, .int ((a + 2 : Nat) : Int)]) hq
      refine k (.ref q) _ _ _ X7 ⟨q, d, rfl, upd_same, hm.mono (upd_same_ (X6.sub.free hq))⟩ (fun j => ?_) rfl
      rw [mv_two]
      by_cases c : j = .text t.1
      · rw [if_pos c]
        rw [if_neg (by first | (simp [c, hs]; done) | (simp only [c, hs]; decide +kernel))]
      · rw [if_neg c]
        rw [if_pos (by first | (simp [c, hs]; done) | (simp only [c, hs]; decide +kernel))]
end
end Nw
namespace Nw
open PySem L2 PySem.Spec PyProof.Rows RZ
def SIG : List Str := ["=", "!=", "<", "<=", ">", ">="]
theorem termOK_in {cols : List Str} {t : Str} {v : Term} (h : termOK cols t v) : ∀ j, v.2 = some j → j < cols.length := by
  intro j hj
  rcases h with ⟨_, n, _, rfl⟩ | ⟨_, j', h1, _, rfl⟩
  · cases hj
  · obtain rfl : j' = j := Option.some.inj hj
    exact (List.getElem?_eq_some_iff.mp h1).1
theorem More.inn {cols : List Str} {ts : List Tok} {e e' : Nat} {r : List Term} (m : More cols ts e r e') : (∀ t ∈ r, t.1.natAbs < 1000000 ∧ ∀ j, t.2 = some j → j < cols.length) ∧ e + 2 * r.length = e' ∧ e' < ts.length := by
  induction m with
  | stop h1 h2 h3 => exact ⟨(fun t h => by cases h), rfl, (List.getElem?_eq_some_iff.mp h1).1⟩
  | plus h1 h2 h3 h4 h5 h6 ih =>
    obtain ⟨i1, i2, i3⟩ := ih
    refine ⟨fun t ht => ?_, by rw [List.length_cons]; omega, i3⟩
    rcases List.mem_cons.mp ht with rfl | ht
    · exact ⟨h5, termOK_in h4⟩
    · exact i1 t ht
  | minus h1 h2 h3 h4 h5 h6 ih =>
    obtain ⟨i1, i2, i3⟩ := ih
    refine ⟨fun t ht => ?_, by rw [List.length_cons]; omega, i3⟩
    rcases List.mem_cons.mp ht with rfl | ht
    · refine ⟨?_, (fun j hj => termOK_in h4 j hj)⟩
      show (-_ : Int).natAbs < _
      rw [Int.natAbs_neg]
      exact h5
    · exact i1 t ht
/-- a written sum: its terms, from a up to e -/
structure SumAt (cols : List Str) (ts : List Tok) (a : Nat) (r : List Term) (e : Nat) : Prop where
  ex : ∃ (t : Tok) (v : Term) (r' : List Term), r = v :: r' ∧ ts[a]? = some t ∧ termOK cols t.1 v ∧ v.1.natAbs < 1000000 ∧ More cols ts (a + 1) r' e
theorem SumAt.inn {cols : List Str} {ts : List Tok} {a e : Nat} {r : List Term} (s : SumAt cols ts a r e) : (∀ t ∈ r, t.1.natAbs < 1000000 ∧ ∀ j, t.2 = some j → j < cols.length) ∧ r.length ≤ ts.length ∧ e < ts.length := by
  obtain ⟨t, v, r', rfl, h1, h2, h3, h4⟩ := s.ex
  obtain ⟨i1, i2, i3⟩ := h4.inn
  refine ⟨fun u hu => ?_, by rw [List.length_cons]; omega, i3⟩
  rcases List.mem_cons.mp hu with rfl | hu
  · exact ⟨h3, termOK_in h2⟩
  · exact i1 u hu
theorem D.sum_inv {G : Hp} {p : V} {r : List Term} {e : Nat} (h : D G p (.tuple [.list (r.map dTerm), .int (e : Int)])) : ∃ t l : Addr, p = .ref t ∧ G t = some (.tup [.ref l, .int (e : Int)]) ∧ D G (.ref l) (.list (r.map dTerm)) := by
  obtain ⟨t, ws, rfl, ht, dw⟩ := h.tup_inv
  cases dw with
  | cons h1 dw =>
    cases dw with
    | cons h2 dw =>
      cases dw
      cases h2
      obtain ⟨l, _, rfl, _, _⟩ := id h1.list_inv
      exact ⟨t, l, rfl, ht, h1⟩
def bitsTo (s : Str) (l r : List Term) (rows : List (List Int)) (n : Nat) : List Int := ((List.range n).filter fun i => cmpV s (sumV l (rows.getD i [])) (sumV r (rows.getD i []))).map fun i => 2 ^ i
def cmpBits (s : Str) (l r : List Term) (rows : List (List Int)) : Int := (bitsTo s l r rows rows.length).sum
theorem bitsTo_succ {s : Str} {l r : List Term} {rows : List (List Int)} {n : Nat} : bitsTo s l r rows (n + 1) = bitsTo s l r rows n ++ (if cmpV s (sumV l (rows.getD n [])) (sumV r (rows.getD n [])) = true then [2 ^ n] else []) := by
  unfold bitsTo
  rw [List.range_succ, List.filter_append, List.map_append]
  congr 1
  by_cases c : cmpV s (sumV l (rows.getD n [])) (sumV r (rows.getD n [])) = true
  · rw [if_pos c, List.filter_cons_of_pos (by exact c)]; rfl
  · rw [if_neg c, List.filter_cons_of_neg (by exact c)]; rfl
theorem bitsTo_len {s : Str} {l r : List Term} {rows : List (List Int)} {n : Nat} : (bitsTo s l r rows n).length ≤ n := by
  unfold bitsTo
  rw [List.length_map]
  exact Nat.le_trans (List.length_filter_le _ _) (by rw [List.length_range]; exact Nat.le_refl _)
def spReadCmp (P : Program) (w : World) (C : Addr) : Sp := fun vs H Q _ => ∃ (tk x : Addr) (a e1 e2 : Nat) (ts : List Tok) (s : Tok) (l r : List Term) (cols : List Col) (G : Hp), vs = [.ref tk, .int (a : Int), .ref x] ∧ Toks G tk ts ∧ TabF C G x cols ∧ Good n11 cols ∧
  SumAt (cols.map (·.1)) ts a l e1 ∧ ts[e1]? = some s ∧ s.1 ∈ SIG ∧ SumAt (cols.map (·.1)) ts (e1 + 1) r e2 ∧ Same G H ∧
  ∀ (p : V) (H' G' : Hp), Xt none H G H' G' → Got P w G' p [(.none, .int (cmpBits s.1 l r (allV (cols.map (·.2)))))] e2 → Q p H'
section
variable {P : Program} {w : World} {K : PySem.W.Frag} {mg : Str → Option Value} {base : Heap}
theorem readComparison {f C : Addr} {fd : FuncData} (F : C8.Def K mg "read_comparison" s_read_comparison f fd) (b : Binds K fd P_read_comparison []) (T : Names K mg) (TN : TextNames mg) (TC : TabC K mg C) (g_SIGNS_ : ∃ (a : Addr), (∃ u, mg "SIGNS" = some u ∧ RelV (.ref a) u) ∧ ∀ H : Hp, SqT K H a (SIG.map V.str))
    (c_read_sum : C8.Cal P w K mg base 3 "read_sum" spReadSum []) (c_compares : C8.Cal P w K mg base 1 "compares" spCompares []) (c_sum_value : C8.Cal P w K mg base 1 "sum_value" spSumV []) (c_Table__all_values : C8.Met P w K mg base 1 C "all_values" (spAllValuesF C) []) : C8.Cal P w K mg base 4 "read_comparison" (spReadCmp P w C) [] := by
  refine C8.cal0 (N := N_read_comparison) F b .nil sc_read_comparison (fun vs H Q E h => ?_) (fun cdv A outer s H vs Q E hr h => ?_)
  · obtain ⟨tk, x, a, e1, e2, ts, s, l, r, cols, G, rfl, _⟩ := h
    rfl
  · obtain ⟨tk, x, a, e1, e2, ts, s, l, r, cols, G, rfl, ht, tab, good, s1, hs, hsi, s2, sG, k⟩ := h
    obtain ⟨sa, g_SIGNS, ssq⟩ := g_SIGNS_
    refine ⟨_, (pss_cons (ps_asg (C8.pe_c c_read_sum hr (by decide) rfl (pa_cons (pv 0) (pa_cons (pv 1) (pa_cons (pe_fld (pv 2) rfl) pa_nil)))) (pg_tup rfl (pgs_cons (pg_name (i := 3) sc_read_comparison.nd rfl (Or.inr rfl)) (pgs_cons (pg_name (i := 4) sc_read_comparison.nd rfl (Or.inl rfl)) pgs_nil))))
 (pss_cons (ps_asg (pe_ix ix_list (pv 0) (pv 4) (fun _ _ => rfl)) (pg_tup rfl (pgs_cons (pg_name (i := 5) sc_read_comparison.nd rfl (Or.inr rfl)) (pgs_cons (pg_name (i := 6) sc_read_comparison.nd rfl (Or.inl rfl)) pgs_nil))))
 (pss_cons (ps_if (pt_cmpR op_notIn_seq (pv 5) (C8.pe_gc rfl g_SIGNS) (by rfl)) (pss_one ps_never) pss_nil)
 (pss_cons (ps_asg (C8.pe_c c_read_sum hr (by decide) rfl (pa_cons (pv 0) (pa_cons (pe_op op_add (pv 4) pe_int) (pa_cons (pe_fld (pv 2) rfl) pa_nil)))) (pg_tup rfl (pgs_cons (pg_name (i := 7) sc_read_comparison.nd rfl (Or.inr rfl)) (pgs_cons (pg_name (i := 8) sc_read_comparison.nd rfl (Or.inl rfl)) pgs_nil))))
 (pss_cons (ps_setLc (i := 9) (own := [("bit", 10), ("values", 11)]) (g := (gTup K 2 (gCons (gName 10) (gCons (gName 11) gNil)))) rfl sc_read_comparison.nd rfl rfl (sw_true rfl rfl rfl (by decide +kernel)) (pi_enum (by rfl) T.n_enumerate (pa_cons (C8.pe_mt0 c_Table__all_values hr (by decide) (pv 2)) pa_nil)) (blkOk_by (own := [("bit", 10), ("values", 11)]) (N := N_read_comparison) (sc := C8.fnScope s_read_comparison) (by decide +kernel)) (fun _ _ _ _ _ => (pg_tup rfl (pgs_cons (pg_name (i := 10) sc_read_comparison.nd rfl (Or.inl rfl)) (pgs_cons (pg_name (i := 11) sc_read_comparison.nd rfl (Or.inl rfl)) pgs_nil)))) (fun _ _ _ _ _ => (pts_one (pt_val (C8.pe_c c_compares (by exact hr) (by decide) rfl (pa_cons (C8.pe_c c_sum_value (by exact hr) (by decide) rfl (pa_cons (pv 3) (pa_cons (pv 11) pa_nil))) (pa_cons (pv 5) (pa_cons (C8.pe_c c_sum_value (by exact hr) (by decide) rfl (pa_cons (pv 7) (pa_cons (pv 11) pa_nil))) pa_nil))))))) (fun _ _ _ _ _ => (pe_op op_shl pe_int (pv 10))))
 (pss_one (ps_ret (pe_tup (pa_cons (pe_frz (pe_ndisp (pps_cons pe_non (pe_callB (cr_sum rfl) (by rfl) TN.n_sum (by decide +kernel) (pa_cons (pv 9) pa_nil)) pps_nil) rfl rfl (fun q => nomatch q) (by decide))) (pa_cons (pv 8) pa_nil)))))))))), ?_⟩
    obtain ⟨tk_, xs, e0, gt, da⟩ := id ht.at_.list_inv
    cases e0
    obtain ⟨dx, cx, tx, t1, t2, t3, t4⟩ := id tab
    obtain ⟨i1, i2, i3⟩ := s1.inn
    obtain ⟨j1, j2, j3⟩ := s2.inn
    obtain ⟨t1_, v1, l', rfl, q1, q2, q3, q4⟩ := s1.ex
    obtain ⟨t2_, v2, r', rfl, q5, q6, q7, q8⟩ := s2.ex
    refine ⟨_, rfl, _, rfl, _, rfl, x, C, dx, _, _, rfl, sG _ _ t1, TC.cl, TC.nC, tf_c _ _, ?_⟩
    refine ⟨tk, cx, a, e1, ts, _, t1_, v1, l', G, rfl, ht, t3, q1, q2, q3, q4, sG, fun p H1 G1 X1 dp => ?_⟩
    obtain ⟨pt, ll, rfl, hpt, hll⟩ := dp.sum_inv
    have da1 := da.mono X1.gg
    have gt1 := X1.gg _ _ gt
    obtain ⟨p1, x1, d1, g1⟩ := Toks.get gt1 da1 hs
    refine ⟨pt, _, rfl, SqT.of (X1.sub _ _ hpt), rfl, _, _, rfl, _, _, rfl, rfl, ?_⟩
    refine ⟨_, rfl, _, rfl, tk, _, _, _, rfl, rfl, SqL.of (X1.sub _ _ gt1), atI_nat x1, p1, _, rfl, SqT.of (X1.sub _ _ g1), rfl, _, _, rfl, _, _, rfl, rfl, ?_⟩
    refine ⟨_, rfl, sa, _, rfl, .inr (ssq _), rfl, (by decide +kernel), _, rfl, ?_⟩
    rw [inV_strs, decide_eq_true hsi]
    have ec : ((e1 : Nat) : Int) + 1 = ((e1 + 1 : Nat) : Int) := by omega
    refine iteF ⟨_, rfl, _, rfl, _, _, rfl, rfl, _, rfl, x, C, dx, _, _, rfl, X1.sub _ _ (X1.gg _ _ t1), TC.cl, TC.nC, tf_c _ _, ?_⟩
    refine ⟨tk, cx, e1 + 1, e2, ts, _, t2_, v2, r', G1, rfl, ht.mono X1.gg, t3.mono X1.gg, q5, q6, q7, q8, X1.sub, fun p2 H2 G2 X2 dp2 => ?_⟩
    obtain ⟨pt2, lr, rfl, hpt2, hlr⟩ := dp2.sum_inv
    have Y2 := X1.trans X2
    have tab2 := tab.mono Y2.gg
    refine ⟨pt2, _, rfl, SqT.of (X2.sub _ _ hpt2), rfl, _, _, rfl, _, _, rfl, rfl, ?_⟩
    refine ⟨_, rfl, x, dx, _, rfl, Y2.sub _ _ (Y2.gg _ _ t1), tf_no _ _ (by decide +kernel) (by decide +kernel), x, cols, G2, rfl, tab2, good, Y2.sub, fun pv xv H3 G3 X3 p0 gpv g3v dv => ?_⟩
    obtain ⟨rows, erows⟩ : ∃ rows, rows = allV (cols.map (·.2)) := ⟨_, rfl⟩
    rw [← erows] at dv k
    have hV : rows.length ≤ 64 := by
      have hl : (cols.map (·.2)).length ≤ 3 := by rw [List.length_map]; exact good.len.2
      have := allV_small (tops := cols.map (·.2)) (i := 3) hl (fun t ht => by
        obtain ⟨c, hc, rfl⟩ := List.mem_map.mp ht
        exact good.tops c hc)
      rw [List.take_of_length_le hl] at this
      rw [erows]
      exact this
    have hrow : ∀ row ∈ rows, row.length = cols.length := fun row hr => by
      rw [erows] at hr
      have := allV_row (n := 0) (fun r hr => by simp at hr; subst hr; rfl) row hr
      rw [this, List.length_map, Nat.zero_add]
    have lv := dv.length
    rw [dRows, List.length_map] at lv
    have lts := ht.len
    have X4 := X3.fix p0 gpv
    have s34 : Same G3 (upd G3 pv (.lst xv)) := upd_same_ g3v
    have hll4 := hll.mono (fun u o h => X4.gg u o (X2.gg u o h))
    have hlr4 := hlr.mono X4.gg
    have dv4 := dv.mono s34
    revert X4 hll4 hlr4 dv4
    have gp4 : upd G3 pv (.lst xv) pv = some (.lst xv) := upd_same
    revert gp4
    generalize upd G3 pv (.lst xv) = G4
    intro gp4 X4 hll4 hlr4 dv4
    clear X3 s34 dv g3v p0
    refine ⟨pv, xv, rfl, SqL.of gpv, fun Dl hD => ?_⟩
    refine lc_it (walk_enum (xs := xv)) (fun i H' => ∃ (G' : Hp), Xt none H3 G4 H' G' ∧ H' Dl = some (.lst ((bitsTo s.1 (v1 :: l') (v2 :: r') rows i).map V.int)) ∧ G' Dl = none) ?_ ?_ ?_ ?_
    · exact ⟨G4, Xt.tmp X4.sub hD, upd_same, X4.sub.free hD⟩
    · rintro i H' hi ⟨G', X, _⟩
      exact SqL.of (X.sub _ _ (X.gg _ _ gp4))
    · rintro i y H5 H6 hi ⟨G5, X, h5, g5⟩ ⟨T_, u1, u2, rfl, hT, rfl, y1, y2⟩
      obtain rfl := Option.some.inj y1
      obtain ⟨row, rt, hrow1, rfl, hrt⟩ := rows_at (dv4.mono X.gg) y2
      have hrm := List.mem_of_getElem? hrow1
      have hrl := hrow row hrm
      have hi64 : i < 64 := by
        have := (List.getElem?_eq_some_iff.mp hrow1).1
        omega
      have eg : rows.getD i [] = row := by simp [List.getD, hrow1]
      have X6 := X.allocT (o := .tup [.int ((i : Nat) : Int), .ref rt]) hT
      have nDT : Dl ≠ T_ := fun q => by subst q; rw [h5] at hT; cases hT
      have inl : TermsIn row (v1 :: l') := ⟨fun t ht => (i1 t ht).1, fun t ht j hj => by rw [hrl]; have := (i1 t ht).2 j hj; rwa [List.length_map] at this, by omega⟩
      have inr : TermsIn row (v2 :: r') := ⟨fun t ht => (j1 t ht).1, fun t ht j hj => by rw [hrl]; have := (j1 t ht).2 j hj; rwa [List.length_map] at this, by omega⟩
      refine ⟨T_, _, rfl, SqT.of upd_same, rfl, _, _, rfl, _, _, rfl, rfl, rfl, ?_⟩
      refine ⟨_, rfl, _, rfl, ll, rt, v1 :: l', row, G5, rfl, hll4.mono X.gg, hrt, inl, X6.sub, fun H7 X7 => ?_⟩
      refine ⟨_, rfl, _, rfl, _, rfl, lr, rt, v2 :: r', row, G5, rfl, hlr4.mono X.gg, hrt, inr, X7.sub, fun H8 X8 => ?_⟩
      refine ⟨_, _, s.1, rfl, _, rfl, ?_⟩
      have Z := (X6.trans X7).trans X8
      have h8 : H8 Dl = some (.lst ((bitsTo s.1 (v1 :: l') (v2 :: r') rows i).map V.int)) := X8.hh _ _ (fun q => by cases q) (X7.hh _ _ (fun q => by cases q) (by rw [upd_ne nDT]; exact h5))
      have bl := bitsTo_len (s := s.1) (l := v1 :: l') (r := v2 :: r') (rows := rows) (n := i)
      refine ite2 (fun c => ?_) (fun c => ?_)
      · refine ⟨_, rfl, _, _, rfl, rfl, ⟨by omega, by omega, by decide⟩, _, h8, small_lt (by rw [List.length_map]; omega), G5, Z.set hD g5, ?_, g5⟩
        rw [upd_same, bitsTo_succ, eg, if_pos c, List.map_append]
        congr 3
        show [V.int (1 * 2 ^ (((i : Nat) : Int)).toNat)] = [V.int (2 ^ i)]
        rw [Int.one_mul, Int.toNat_natCast]
      · refine ⟨G5, Z, ?_, g5⟩
        rw [h8, bitsTo_succ, eg, if_neg c, List.append_nil]
    · rintro H5 ⟨G5, X, h5, g5⟩
      rw [lv] at h5
      refine fun d hd => ?_
      have nDd : Dl ≠ d := fun q => by subst q; rw [h5] at hd; cases hd
      refine ⟨_, rfl, Dl, bitsTo s.1 (v1 :: l') (v2 :: r') rows rows.length, rfl, SqL.of (by rw [upd_ne nDd]; exact h5), upd_same, [(Leaf.none, .int (cmpBits s.1 (v1 :: l') (v2 :: r') rows))], rfl, (by show 1 ≤ 15; decide), d, _, rfl, upd_same, True.intro, fun od => ?_⟩
      obtain ⟨X6, hm⟩ := frz_end (P := P) (w := w) (m := [(Leaf.none, .int (cmpBits s.1 (v1 :: l') (v2 :: r') rows))]) (Xt.refl X.sub) hd (mok_one _) od
      refine ⟨_, rfl, (by show 2 ≤ sizeLine; decide), fun q hq => ?_⟩
      have X7 := X6.alloc (o := .tup [.ref d, .int (e2 : Int)]) hq
      exact k (.ref q) _ _ (((Y2.trans X4).trans X).trans X7) ⟨q, d, rfl, upd_same, hm.mono (upd_same_ (X6.sub.free hq))⟩
end
end Nw
namespace Nw
open PySem L2 PySem.Spec PyProof.Rows RZ
/-- an atom without `not` and brackets at a, up to e: what it says for each name, and the names -/
inductive PlainAt (cols : List Col) (ev : Int) (ts : List Tok) (a : Nat) : (Leaf → Int) → List Leaf → Nat → Prop
  | tru {t : Tok} : ts[a]? = some t → t.1 = "true" → PlainAt cols ev ts a (fun _ => ev) [.none] (a + 1)
  | fls {t : Tok} : ts[a]? = some t → t.1 = "false" → PlainAt cols ev ts a (fun _ => 0) [.none] (a + 1)
  | nam {t s n : Tok} : ts[a]? = some t → t.1 = "name" → ts[a + 1]? = some s → (s.1 = "=" ∨ s.1 = "!=") → ts[a + 2]? = some n → isWordS n.1 = true → PlainAt cols ev ts a (fun k => if (k = .text n.1) = (s.1 = "=") then ev else 0) [.none, .text n.1] (a + 3)
  | cmp {t s : Tok} {e1 e2 : Nat} {l r : List Term} : ts[a]? = some t → t.1 ≠ "true" → t.1 ≠ "false" → t.1 ≠ "name" → SumAt (cols.map (·.1)) ts a l e1 → ts[e1]? = some s → s.1 ∈ SIG → SumAt (cols.map (·.1)) ts (e1 + 1) r e2 →
      PlainAt cols ev ts a (fun _ => cmpBits s.1 l r (allV (cols.map (·.2)))) [.none] e2
def spPlain (P : Program) (w : World) (C : Addr) : Sp := fun vs H Q _ => ∃ (tk x : Addr) (a e : Nat) (ev : Int) (ts : List Tok) (f : Leaf → Int) (ks : List Leaf) (cols : List Col) (G : Hp), vs = [.ref tk, .int (a : Int), .ref x, .int ev] ∧ Toks G tk ts ∧ TabF C G x cols ∧ Good n11 cols ∧ PlainAt cols ev ts a f ks e ∧ Same G H ∧
  ∀ (p : V) (m : Nk) (H' G' : Hp), Xt none H G H' G' → Got P w G' p m e → (∀ k, mv m k = f k) → m.map (·.1) = ks → Q p H'
section
variable {P : Program} {w : World} {K : PySem.W.Frag} {mg : Str → Option Value} {base : Heap}
/-- {None: i}, a + 1 -/
theorem one_end {H G : Hp} {Q : VK} {a : Nat} {i : Int} {σ : L2.St} {te : TE} (sG : Same G H) (hte : ∀ (H' : Hp) (Q' : VK), Q' (.int i) H' → te σ H' Q') (ha : σ[1]? = some (some (.int (a : Int))))
    (k : ∀ (p : V) (m : Nk) (H' G' : Hp), Xt none H G H' G' → Got P w G' p m (a + 1) → (∀ k, mv m k = i) → m.map (·.1) = [.none] → Q p H') :
    tTup (tCons (tFrz (tNDisp P w [(tC .non, te)])) (tCons (tOp (rI0 fun i j => .int (i + j)) (tVar 1) (tC (.int 1))) tNil)) σ H Q := by
  refine fun d hd => ?_
  refine hte _ _ ?_
  refine ⟨upd_same, [(Leaf.none, .int i)], rfl, (by show 1 ≤ 15; decide), d, _, rfl, upd_same, True.intro, fun od => ?_⟩
  obtain ⟨X6, hm⟩ := frz_end (P := P) (w := w) (m := [(Leaf.none, .int i)]) (Xt.refl sG) hd (mok_one _) od
  refine ⟨_, ha, _, _, rfl, rfl, (by show 2 ≤ sizeLine; decide), fun q hq => ?_⟩
  have X7 := X6.alloc (o := .tup [.ref d, .int ((a + 1 : Nat) : Int)]) hq
  exact k (.ref q) _ _ _ X7 ⟨q, d, rfl, upd_same, hm.mono (upd_same_ (X6.sub.free hq))⟩ (fun j => mv_one _ _) rfl
theorem readPlain {f C : Addr} {fd : FuncData} (F : C8.Def K mg "read_plain" s_read_plain f fd) (b : Binds K fd P_read_plain []) (T : Names K mg) (c_read_name : C8.Cal P w K mg base 2 "read_name" (spReadName P w) []) (c_read_comparison : C8.Cal P w K mg base 4 "read_comparison" (spReadCmp P w C) []) : C8.Cal P w K mg base 5 "read_plain" (spPlain P w C) [] := by
  refine C8.cal0 (N := N_read_plain) F b .nil sc_read_plain (fun vs H Q E h => ?_) (fun cdv A outer s H vs Q E hr h => ?_)
  · obtain ⟨tk, x, a, e, ev, ts, f, ks, cols, G, rfl, _⟩ := h
    rfl
  · obtain ⟨tk, x, a, e, ev, ts, f, ks, cols, G, rfl, ht, tab, good, pl, sG, k⟩ := h
    refine ⟨_, (pss_cons (ps_set (i := 4) sc_read_plain.nd rfl (Or.inl rfl) (pe_ix ix_tup (pe_ix ix_list (pv 0) (pv 1) (fun _ _ => rfl)) pe_int (fun _ _ => rfl)))
 (pss_cons (ps_if (pt_cmpR op_eq (pv 4) pe_str (nomark _)) (pss_one (ps_ret (pe_tup (pa_cons (pe_frz (pe_ndisp (pps_cons pe_non (pv 3) pps_nil) rfl rfl (fun q => nomatch q) (by decide))) (pa_cons (pe_op op_add (pv 1) pe_int) pa_nil))))) pss_nil)
 (pss_cons (ps_if (pt_cmpR op_eq (pv 4) pe_str (nomark _)) (pss_one (ps_ret (pe_tup (pa_cons (pe_frz (pe_ndisp (pps_cons pe_non pe_int pps_nil) rfl rfl (fun q => nomatch q) (by decide))) (pa_cons (pe_op op_add (pv 1) pe_int) pa_nil))))) pss_nil)
 (pss_cons (ps_if (pt_cmpR op_eq (pv 4) pe_str (nomark _)) (pss_one (ps_ret (C8.pe_c c_read_name hr (by decide) rfl (pa_cons (pv 0) (pa_cons (pe_op op_add (pv 1) pe_int) (pa_cons (pv 3) pa_nil)))))) pss_nil)
 (pss_one (ps_ret (C8.pe_c c_read_comparison hr (by decide) rfl (pa_cons (pv 0) (pa_cons (pv 1) (pa_cons (pv 2) pa_nil)))))))))), ?_⟩
    obtain ⟨tk_, xs, e0, gt, da⟩ := id ht.at_.list_inv
    cases e0
    have es : ∀ z t : Str, decide (V.str z = V.str t) = decide (z = t) := fun z t => by
      by_cases q : z = t
      · rw [q, decide_eq_true rfl, decide_eq_true rfl]
      · rw [decide_eq_false q, decide_eq_false fun e => q (by injection e)]
    cases pl with
    | tru h1 h2 =>
      obtain ⟨p1, x1, d1, g1⟩ := Toks.get gt da h1
      refine ⟨_, rfl, _, rfl, tk, _, _, _, rfl, rfl, SqL.of (sG _ _ gt), atI_nat x1, p1, _, _, _, rfl, rfl, SqT.of (sG _ _ g1), rfl, _, rfl, rfl, _, rfl, ?_⟩
      rw [es, h2, decide_eq_true rfl]
      exact iteT (one_end (P := P) (w := w) sG (fun _ _ q => ⟨_, rfl, q⟩) rfl k)
    | fls h1 h2 =>
      obtain ⟨p1, x1, d1, g1⟩ := Toks.get gt da h1
      refine ⟨_, rfl, _, rfl, tk, _, _, _, rfl, rfl, SqL.of (sG _ _ gt), atI_nat x1, p1, _, _, _, rfl, rfl, SqT.of (sG _ _ g1), rfl, _, rfl, rfl, _, rfl, ?_⟩
      rw [es, h2, decide_eq_false (by decide +kernel)]
      refine iteF ⟨_, rfl, rfl, _, rfl, ?_⟩
      rw [es, decide_eq_true rfl]
      exact iteT (one_end (P := P) (w := w) sG (fun _ _ q => q) rfl k)
    | nam h1 h2 h3 h4 h5 h6 =>
      obtain ⟨p1, x1, d1, g1⟩ := Toks.get gt da h1
      refine ⟨_, rfl, _, rfl, tk, _, _, _, rfl, rfl, SqL.of (sG _ _ gt), atI_nat x1, p1, _, _, _, rfl, rfl, SqT.of (sG _ _ g1), rfl, _, rfl, rfl, _, rfl, ?_⟩
      rw [es, h2, decide_eq_false (by decide +kernel)]
      refine iteF ⟨_, rfl, rfl, _, rfl, ?_⟩
      rw [es, decide_eq_false (by decide +kernel)]
      refine iteF ⟨_, rfl, rfl, _, rfl, ?_⟩
      rw [es, decide_eq_true rfl]
      refine iteT ⟨_, rfl, _, rfl, _, _, rfl, rfl, _, rfl, ?_⟩
      exact ⟨tk, a + 1, ev, ts, _, _, G, rfl, ht, h3, h4, h5, h6, sG, k⟩
    | cmp h1 h2 h3 h4 h5 h6 h7 h8 =>
      obtain ⟨p1, x1, d1, g1⟩ := Toks.get gt da h1
      refine ⟨_, rfl, _, rfl, tk, _, _, _, rfl, rfl, SqL.of (sG _ _ gt), atI_nat x1, p1, _, _, _, rfl, rfl, SqT.of (sG _ _ g1), rfl, _, rfl, rfl, _, rfl, ?_⟩
      rw [es, decide_eq_false h2]
      refine iteF ⟨_, rfl, rfl, _, rfl, ?_⟩
      rw [es, decide_eq_false h3]
      refine iteF ⟨_, rfl, rfl, _, rfl, ?_⟩
      rw [es, decide_eq_false h4]
      refine iteF ⟨_, rfl, _, rfl, _, rfl, ?_⟩
      exact ⟨tk, x, a, _, _, ts, _, _, _, cols, G, rfl, ht, tab, good, h5, h6, h7, h8, sG, fun p H' G' X got => k p _ H' G' X got (fun j => mv_one _ _) rfl⟩
end
end Nw
namespace Nw
open PySem L2 PySem.Spec PyProof.Rows RZ
/-! atoms that break off -/
inductive NameStuck (ts : List Tok) (a : Nat) : Nat → Prop
  | sign {s : Tok} : ts[a]? = some s → s.1 ≠ "=" → s.1 ≠ "!=" → NameStuck ts a s.2
  | word {s t : Tok} : ts[a]? = some s → (s.1 = "=" ∨ s.1 = "!=") → ts[a + 1]? = some t → isWordS t.1 = false → NameStuck ts a t.2
inductive CmpStuck (cols : List Str) (ts : List Tok) (a : Nat) : Nat → Prop
  | left {n : Nat} : SumStuck cols ts a n → CmpStuck cols ts a n
  | sign {s : Tok} {l : List Term} {e : Nat} : SumAt cols ts a l e → ts[e]? = some s → s.1 ∉ SIG → CmpStuck cols ts a s.2
  | right {s : Tok} {l : List Term} {e n : Nat} : SumAt cols ts a l e → ts[e]? = some s → s.1 ∈ SIG → SumStuck cols ts (e + 1) n → CmpStuck cols ts a n
inductive PlainStuck (cols : List Str) (ts : List Tok) (a : Nat) : Nat → Prop
  | nam {t : Tok} {n : Nat} : ts[a]? = some t → t.1 = "name" → NameStuck ts (a + 1) n → PlainStuck cols ts a n
  | cmp {t : Tok} {n : Nat} : ts[a]? = some t → t.1 ≠ "true" → t.1 ≠ "false" → t.1 ≠ "name" → CmpStuck cols ts a n → PlainStuck cols ts a n
def spNameF (CW : Addr) : Sp := fun vs H Q E => ∃ (tk : Addr) (a n : Nat) (ev : Int) (ts : List Tok) (G : Hp), vs = [.ref tk, .int (a : Int), .int ev] ∧ Toks G tk ts ∧ NameStuck ts a n ∧ Same G H ∧ FailE E CW H G n
def spCmpF (CW C : Addr) : Sp := fun vs H Q E => ∃ (tk x : Addr) (a n : Nat) (ts : List Tok) (cols : List Col) (G : Hp), vs = [.ref tk, .int (a : Int), .ref x] ∧ Toks G tk ts ∧ TabF C G x cols ∧ Good n11 cols ∧ CmpStuck (cols.map (·.1)) ts a n ∧ Same G H ∧ FailE E CW H G n
def spPlainF (CW C : Addr) : Sp := fun vs H Q E => ∃ (tk x : Addr) (a n : Nat) (ev : Int) (ts : List Tok) (cols : List Col) (G : Hp), vs = [.ref tk, .int (a : Int), .ref x, .int ev] ∧ Toks G tk ts ∧ TabF C G x cols ∧ Good n11 cols ∧ PlainStuck (cols.map (·.1)) ts a n ∧ Same G H ∧ FailE E CW H G n
section
variable {P : Program} {w : World} {K : PySem.W.Frag} {mg : Str → Option Value} {base : Heap}
theorem readNameF {f CW : Addr} {fd : FuncData} (F : C8.Def K mg "read_name" s_read_name f fd) (b : Binds K fd P_read_name []) (T : Names K mg) (WT_ : WT P w K mg base CW) (c_is_word : C8.Cal P w K mg base 1 "is_word" spWord []) : Xal P w K mg base 3 "read_name" (spNameF CW) := by
  refine xal0 (N := N_read_name) F b sc_read_name (fun vs H Q E h => ?_) (fun cdv A outer s H vs Q E hr h => ?_)
  · obtain ⟨tk, a, n, ev, ts, G, rfl, _⟩ := h
    rfl
  · obtain ⟨tk, a, n, ev, ts, G, rfl, ht, stuck, sG, fail⟩ := h
    obtain ⟨fE, fdE, OC, iC, tI, FE, bE, gE⟩ := WT_.ex
    refine ⟨_, (pss_cons (ps_asg (pe_ix ix_list (pv 0) (pv 1) (fun _ _ => rfl)) (pg_tup rfl (pgs_cons (pg_name (i := 3) sc_read_name.nd rfl (Or.inl rfl)) (pgs_cons (pg_name (i := 4) sc_read_name.nd rfl (Or.inl rfl)) pgs_nil))))
 (pss_cons (ps_if (pt_cmpR op_notIn_seq (pv 3) (pe_tup (pa_cons pe_str (pa_cons pe_str pa_nil))) (by rfl)) (pss_one (L2N.ps_raise rfl (L2N.takes_of rfl rfl rfl rfl) (pmkN_oex OC iC tI FE (hr.mono (by decide)) bE C8.pass0 rfl gE (pa_cons (pv 4) pa_nil)))) pss_nil)
 (pss_cons (ps_asg (pe_ix ix_list (pv 0) (pe_op op_add (pv 1) pe_int) (fun _ _ => rfl)) (pg_tup rfl (pgs_cons (pg_name (i := 5) sc_read_name.nd rfl (Or.inl rfl)) (pgs_cons (pg_name (i := 4) sc_read_name.nd rfl (Or.inl rfl)) pgs_nil))))
 (pss_cons (ps_if (pt_not (pt_val (C8.pe_c c_is_word hr (by decide) rfl (pa_cons (pv 5) pa_nil)))) (pss_one (L2N.ps_raise rfl (L2N.takes_of rfl rfl rfl rfl) (pmkN_oex OC iC tI FE (hr.mono (by decide)) bE C8.pass0 rfl gE (pa_cons (pv 4) pa_nil)))) pss_nil)
 (pss_cons (ps_if (pt_cmpR op_eq (pv 3) pe_str (nomark _)) (pss_one (ps_ret (pe_tup (pa_cons (pe_frz (pe_ndisp (pps_cons pe_non pe_int (pps_cons (pv 5) (pv 2) pps_nil)) rfl rfl (fun q => nomatch q) (by decide))) (pa_cons (pe_op op_add (pv 1) pe_int) pa_nil))))) pss_nil)
 (pss_one (ps_ret (pe_tup (pa_cons (pe_frz (pe_ndisp (pps_cons pe_non (pv 2) (pps_cons (pv 5) pe_int pps_nil)) rfl rfl (fun q => nomatch q) (by decide))) (pa_cons (pe_op op_add (pv 1) pe_int) pa_nil)))))))))), ?_⟩
    obtain ⟨tk_, xs, e0, gt, da⟩ := id ht.at_.list_inv
    cases e0
    have first : ∃ s, ts[a]? = some s := by cases stuck <;> exact ⟨_, by assumption⟩
    obtain ⟨s, h1⟩ := first
    obtain ⟨p1, x1, d1, g1⟩ := Toks.get gt da h1
    refine ⟨_, rfl, _, rfl, tk, _, _, _, rfl, rfl, SqL.of (sG _ _ gt), atI_nat x1, p1, _, rfl, SqT.of (sG _ _ g1), rfl, _, _, rfl, _, _, rfl, rfl, ?_⟩
    refine ⟨_, rfl, (by show 2 ≤ sizeLine; decide), fun tt htt => ?_⟩
    have X1 := Xt.tmp (b := none) (o := .tup [.str "=", .str "!="]) sG htt
    refine ⟨tt, (["=", "!="] : List Str).map V.str, rfl, .inr (SqT.of upd_same), rfl, flat_strs _, _, rfl, ?_⟩
    rw [inV_strs]
    have ea : ((a : Nat) : Int) + 1 = ((a + 1 : Nat) : Int) := by omega
    cases stuck with
    | @sign s' h1' n1 n2 =>
      obtain rfl : s = s' := Option.some.inj (h1.symm.trans h1')
      rw [decide_eq_false (by
        intro q
        simp only [List.mem_cons, List.mem_nil_iff, or_false] at q
        rcases q with q | q
        · exact n1 q
        · exact n2 q)]
      exact iteT ⟨_, rfl, (by show 1 ≤ 1000; decide), fun e he => wt_go (fail.mono X1) X1.sub e he⟩
    | @word s' t h1' hs h2 hw =>
      obtain rfl : s = s' := Option.some.inj (h1.symm.trans h1')
      obtain ⟨p2, x2, d2, g2⟩ := Toks.get gt da h2
      rw [decide_eq_true (by rcases hs with hs | hs <;> rw [hs] <;> decide +kernel)]
      refine iteF ⟨_, rfl, _, rfl, _, _, rfl, rfl, tk, _, _, _, rfl, rfl, SqL.of (X1.sub _ _ gt), by rw [ea]; exact atI_nat x2, p2, _, rfl, SqT.of (X1.sub _ _ g2), rfl, _, _, rfl, _, _, rfl, rfl, ?_⟩
      have ln := ht.short t (List.mem_of_getElem? h2)
      refine ⟨_, rfl, .str t.1, G, rfl, trivial, X1.sub, (fun z e => by injection e with e; rw [← e]; omega), fun H2 X2 => ⟨_, rfl, ?_⟩⟩
      rw [show isWord (.str t.1) = false from hw]
      have X3 := X1.trans X2
      exact iteT ⟨_, rfl, (by show 1 ≤ 1000; decide), fun e he => wt_go (fail.mono X3) X3.sub e he⟩
theorem readComparisonF {f C CW : Addr} {fd : FuncData} (F : C8.Def K mg "read_comparison" s_read_comparison f fd) (b : Binds K fd P_read_comparison []) (T : Names K mg) (TN : TextNames mg) (TC : TabC K mg C) (WT_ : WT P w K mg base CW) (g_SIGNS_ : ∃ (a : Addr), (∃ u, mg "SIGNS" = some u ∧ RelV (.ref a) u) ∧ ∀ H : Hp, SqT K H a (SIG.map V.str))
    (c_read_sum : C8.Cal P w K mg base 3 "read_sum" spReadSum []) (x_read_sum : Xal P w K mg base 4 "read_sum" (spSumF CW)) (c_compares : C8.Cal P w K mg base 1 "compares" spCompares []) (c_sum_value : C8.Cal P w K mg base 1 "sum_value" spSumV []) (c_Table__all_values : C8.Met P w K mg base 1 C "all_values" (spAllValuesF C) []) : Xal P w K mg base 5 "read_comparison" (spCmpF CW C) := by
  refine xal0 (N := N_read_comparison) F b sc_read_comparison (fun vs H Q E h => ?_) (fun cdv A outer s H vs Q E hr h => ?_)
  · obtain ⟨tk, x, a, n, ts, cols, G, rfl, _⟩ := h
    rfl
  · obtain ⟨tk, x, a, n, ts, cols, G, rfl, ht, tab, good, stuck, sG, fail⟩ := h
    obtain ⟨fE, fdE, OC, iC, tI, FE, bE, gE⟩ := WT_.ex
    obtain ⟨sa, g_SIGNS, ssq⟩ := g_SIGNS_
    refine ⟨_, (pss_cons (ps_asg (pe_callO c_read_sum x_read_sum hr (by decide) (by decide) rfl (fun σ => L2N.passAt (L2N.takes_of rfl rfl rfl rfl) σ) (pa_cons (pv 0) (pa_cons (pv 1) (pa_cons (pe_fld (pv 2) rfl) pa_nil)))) (pg_tup rfl (pgs_cons (pg_name (i := 3) sc_read_comparison.nd rfl (Or.inr rfl)) (pgs_cons (pg_name (i := 4) sc_read_comparison.nd rfl (Or.inl rfl)) pgs_nil))))
 (pss_cons (ps_asg (pe_ix ix_list (pv 0) (pv 4) (fun _ _ => rfl)) (pg_tup rfl (pgs_cons (pg_name (i := 5) sc_read_comparison.nd rfl (Or.inr rfl)) (pgs_cons (pg_name (i := 6) sc_read_comparison.nd rfl (Or.inl rfl)) pgs_nil))))
 (pss_cons (ps_if (pt_cmpR op_notIn_seq (pv 5) (C8.pe_gc rfl g_SIGNS) (by rfl)) (pss_one (L2N.ps_raise rfl (L2N.takes_of rfl rfl rfl rfl) (pmkN_oex OC iC tI FE (hr.mono (by decide)) bE C8.pass0 rfl gE (pa_cons (pv 6) pa_nil)))) pss_nil)
 (pss_cons (ps_asg (pe_callO c_read_sum x_read_sum hr (by decide) (by decide) rfl (fun σ => L2N.passAt (L2N.takes_of rfl rfl rfl rfl) σ) (pa_cons (pv 0) (pa_cons (pe_op op_add (pv 4) pe_int) (pa_cons (pe_fld (pv 2) rfl) pa_nil)))) (pg_tup rfl (pgs_cons (pg_name (i := 7) sc_read_comparison.nd rfl (Or.inr rfl)) (pgs_cons (pg_name (i := 8) sc_read_comparison.nd rfl (Or.inl rfl)) pgs_nil))))
 (pss_cons (ps_setLc (i := 9) (own := [("bit", 10), ("values", 11)]) (g := (gTup K 2 (gCons (gName 10) (gCons (gName 11) gNil)))) rfl sc_read_comparison.nd rfl rfl (sw_true rfl rfl rfl (by decide +kernel)) (pi_enum (by rfl) T.n_enumerate (pa_cons (C8.pe_mt0 c_Table__all_values hr (by decide) (pv 2)) pa_nil)) (blkOk_by (own := [("bit", 10), ("values", 11)]) (N := N_read_comparison) (sc := C8.fnScope s_read_comparison) (by decide +kernel)) (fun _ _ _ _ _ => (pg_tup rfl (pgs_cons (pg_name (i := 10) sc_read_comparison.nd rfl (Or.inl rfl)) (pgs_cons (pg_name (i := 11) sc_read_comparison.nd rfl (Or.inl rfl)) pgs_nil)))) (fun _ _ _ _ _ => (pts_one (pt_val (C8.pe_c c_compares (by exact hr) (by decide) rfl (pa_cons (C8.pe_c c_sum_value (by exact hr) (by decide) rfl (pa_cons (pv 3) (pa_cons (pv 11) pa_nil))) (pa_cons (pv 5) (pa_cons (C8.pe_c c_sum_value (by exact hr) (by decide) rfl (pa_cons (pv 7) (pa_cons (pv 11) pa_nil))) pa_nil))))))) (fun _ _ _ _ _ => (pe_op op_shl pe_int (pv 10))))
 (pss_one (ps_ret (pe_tup (pa_cons (pe_frz (pe_ndisp (pps_cons pe_non (pe_callB (cr_sum rfl) (by rfl) TN.n_sum (by decide +kernel) (pa_cons (pv 9) pa_nil)) pps_nil) rfl rfl (fun q => nomatch q) (by decide))) (pa_cons (pv 8) pa_nil)))))))))), ?_⟩
    obtain ⟨tk_, xs, e0, gt, da⟩ := id ht.at_.list_inv
    cases e0
    obtain ⟨dx, cx, tx, t1, t2, t3, t4⟩ := id tab
    refine ⟨_, rfl, _, rfl, _, rfl, x, C, dx, _, _, rfl, sG _ _ t1, TC.cl, TC.nC, tf_c _ _, ?_⟩
    have behind : ∀ {l : List Term} {e : Nat} {s : Tok}, SumAt (cols.map (·.1)) ts a l e → ts[e]? = some s → ∃ (t1_ : Tok) (v1 : Term) (l' : List Term), ts[a]? = some t1_ ∧ termOK (cols.map (·.1)) t1_.1 v1 ∧ v1.1.natAbs < 1000000 ∧ More (cols.map (·.1)) ts (a + 1) l' e := fun s1 _ => by
      obtain ⟨t1_, v1, l', _, q1, q2, q3, q4⟩ := s1.ex
      exact ⟨t1_, v1, l', q1, q2, q3, q4⟩
    cases stuck with
    | left st => exact .inr ⟨tk, cx, a, n, ts, _, G, rfl, ht, t3, st, sG, fail⟩
    | @sign s l e s1 hs hsi =>
      obtain ⟨t1_, v1, l', q1, q2, q3, q4⟩ := behind s1 hs
      refine .inl ⟨tk, cx, a, e, ts, _, t1_, v1, l', G, rfl, ht, t3, q1, q2, q3, q4, sG, fun p H1 G1 X1 dp => ?_⟩
      obtain ⟨pt, ll, rfl, hpt, hll⟩ := dp.sum_inv
      have da1 := da.mono X1.gg
      have gt1 := X1.gg _ _ gt
      obtain ⟨p1, x1, d1, g1⟩ := Toks.get gt1 da1 hs
      refine ⟨pt, _, rfl, SqT.of (X1.sub _ _ hpt), rfl, _, _, rfl, _, _, rfl, rfl, ?_⟩
      refine ⟨_, rfl, _, rfl, tk, _, _, _, rfl, rfl, SqL.of (X1.sub _ _ gt1), atI_nat x1, p1, _, rfl, SqT.of (X1.sub _ _ g1), rfl, _, _, rfl, _, _, rfl, rfl, ?_⟩
      refine ⟨_, rfl, sa, _, rfl, .inr (ssq _), rfl, (by decide +kernel), _, rfl, ?_⟩
      rw [inV_strs, decide_eq_false hsi]
      exact iteT ⟨_, rfl, (by show 1 ≤ 1000; decide), fun e he => wt_go (fail.mono X1) X1.sub e he⟩
    | @right s l e n s1 hs hsi st =>
      obtain ⟨t1_, v1, l', q1, q2, q3, q4⟩ := behind s1 hs
      refine .inl ⟨tk, cx, a, e, ts, _, t1_, v1, l', G, rfl, ht, t3, q1, q2, q3, q4, sG, fun p H1 G1 X1 dp => ?_⟩
      obtain ⟨pt, ll, rfl, hpt, hll⟩ := dp.sum_inv
      have da1 := da.mono X1.gg
      have gt1 := X1.gg _ _ gt
      obtain ⟨p1, x1, d1, g1⟩ := Toks.get gt1 da1 hs
      refine ⟨pt, _, rfl, SqT.of (X1.sub _ _ hpt), rfl, _, _, rfl, _, _, rfl, rfl, ?_⟩
      refine ⟨_, rfl, _, rfl, tk, _, _, _, rfl, rfl, SqL.of (X1.sub _ _ gt1), atI_nat x1, p1, _, rfl, SqT.of (X1.sub _ _ g1), rfl, _, _, rfl, _, _, rfl, rfl, ?_⟩
      refine ⟨_, rfl, sa, _, rfl, .inr (ssq _), rfl, (by decide +kernel), _, rfl, ?_⟩
      rw [inV_strs, decide_eq_true hsi]
      refine iteF ⟨_, rfl, _, rfl, _, _, rfl, rfl, _, rfl, x, C, dx, _, _, rfl, X1.sub _ _ (X1.gg _ _ t1), TC.cl, TC.nC, tf_c _ _, ?_⟩
      exact .inr ⟨tk, cx, e + 1, n, ts, _, G1, rfl, ht.mono X1.gg, t3.mono X1.gg, st, X1.sub, fail.mono X1⟩
theorem readPlainF {f C CW : Addr} {fd : FuncData} (F : C8.Def K mg "read_plain" s_read_plain f fd) (b : Binds K fd P_read_plain []) (T : Names K mg) (c_read_name : C8.Cal P w K mg base 2 "read_name" (spReadName P w) []) (x_read_name : Xal P w K mg base 3 "read_name" (spNameF CW)) (c_read_comparison : C8.Cal P w K mg base 4 "read_comparison" (spReadCmp P w C) []) (x_read_comparison : Xal P w K mg base 5 "read_comparison" (spCmpF CW C)) : Xal P w K mg base 6 "read_plain" (spPlainF CW C) := by
  refine xal0 (N := N_read_plain) F b sc_read_plain (fun vs H Q E h => ?_) (fun cdv A outer s H vs Q E hr h => ?_)
  · obtain ⟨tk, x, a, n, ev, ts, cols, G, rfl, _⟩ := h
    rfl
  · obtain ⟨tk, x, a, n, ev, ts, cols, G, rfl, ht, tab, good, stuck, sG, fail⟩ := h
    refine ⟨_, (pss_cons (ps_set (i := 4) sc_read_plain.nd rfl (Or.inl rfl) (pe_ix ix_tup (pe_ix ix_list (pv 0) (pv 1) (fun _ _ => rfl)) pe_int (fun _ _ => rfl)))
 (pss_cons (ps_if (pt_cmpR op_eq (pv 4) pe_str (nomark _)) (pss_one (ps_ret (pe_tup (pa_cons (pe_frz (pe_ndisp (pps_cons pe_non (pv 3) pps_nil) rfl rfl (fun q => nomatch q) (by decide))) (pa_cons (pe_op op_add (pv 1) pe_int) pa_nil))))) pss_nil)
 (pss_cons (ps_if (pt_cmpR op_eq (pv 4) pe_str (nomark _)) (pss_one (ps_ret (pe_tup (pa_cons (pe_frz (pe_ndisp (pps_cons pe_non pe_int pps_nil) rfl rfl (fun q => nomatch q) (by decide))) (pa_cons (pe_op op_add (pv 1) pe_int) pa_nil))))) pss_nil)
 (pss_cons (ps_if (pt_cmpR op_eq (pv 4) pe_str (nomark _)) (pss_one (ps_ret (pe_callO c_read_name x_read_name hr (by decide) (by decide) rfl (fun σ => L2N.passAt (L2N.takes_of rfl rfl rfl rfl) σ) (pa_cons (pv 0) (pa_cons (pe_op op_add (pv 1) pe_int) (pa_cons (pv 3) pa_nil)))))) pss_nil)
 (pss_one (ps_ret (pe_callO c_read_comparison x_read_comparison hr (by decide) (by decide) rfl (fun σ => L2N.passAt (L2N.takes_of rfl rfl rfl rfl) σ) (pa_cons (pv 0) (pa_cons (pv 1) (pa_cons (pv 2) pa_nil)))))))))), ?_⟩
    obtain ⟨tk_, xs, e0, gt, da⟩ := id ht.at_.list_inv
    cases e0
    have es : ∀ z t : Str, decide (V.str z = V.str t) = decide (z = t) := fun z t => by
      by_cases q : z = t
      · rw [q, decide_eq_true rfl, decide_eq_true rfl]
      · rw [decide_eq_false q, decide_eq_false fun e => q (by injection e)]
    cases stuck with
    | nam h1 h2 st =>
      obtain ⟨p1, x1, d1, g1⟩ := Toks.get gt da h1
      refine ⟨_, rfl, _, rfl, tk, _, _, _, rfl, rfl, SqL.of (sG _ _ gt), atI_nat x1, p1, _, _, _, rfl, rfl, SqT.of (sG _ _ g1), rfl, _, rfl, rfl, _, rfl, ?_⟩
      rw [es, h2, decide_eq_false (by decide +kernel)]
      refine iteF ⟨_, rfl, rfl, _, rfl, ?_⟩
      rw [es, decide_eq_false (by decide +kernel)]
      refine iteF ⟨_, rfl, rfl, _, rfl, ?_⟩
      rw [es, decide_eq_true rfl]
      refine iteT ⟨_, rfl, _, rfl, _, _, rfl, rfl, _, rfl, ?_⟩
      exact .inr ⟨tk, a + 1, _, ev, ts, G, rfl, ht, st, sG, fail⟩
    | cmp h1 h2 h3 h4 st =>
      obtain ⟨p1, x1, d1, g1⟩ := Toks.get gt da h1
      refine ⟨_, rfl, _, rfl, tk, _, _, _, rfl, rfl, SqL.of (sG _ _ gt), atI_nat x1, p1, _, _, _, rfl, rfl, SqT.of (sG _ _ g1), rfl, _, rfl, rfl, _, rfl, ?_⟩
      rw [es, decide_eq_false h2]
      refine iteF ⟨_, rfl, rfl, _, rfl, ?_⟩
      rw [es, decide_eq_false h3]
      refine iteF ⟨_, rfl, rfl, _, rfl, ?_⟩
      rw [es, decide_eq_false h4]
      refine iteF ⟨_, rfl, _, rfl, _, rfl, ?_⟩
      exact .inr ⟨tk, x, a, _, ts, cols, G, rfl, ht, tab, good, st, sG, fail⟩
end
end Nw
namespace Nw
open PySem L2 PySem.Spec PyProof.Rows RZ
/-- a level, as functions of the name -/
structure Lv where
  p : Leaf → Int
  a : Leaf → Int
  n : Bool
def Lv.zero (ev : Int) : Lv := ⟨fun _ => 0, fun _ => ev, false⟩
def Lv.withA (l : Lv) (ev : Int) (f : Leaf → Int) : Lv := ⟨l.p, fun k => Builtin.bitAnd (l.a k) (if l.n = true then Builtin.bitXor ev (f k) else f k), false⟩
def Lv.whole (l : Lv) : Leaf → Int := fun k => Builtin.bitOr (l.p k) (l.a k)
/-- the brackets that close behind an atom -/
inductive Close (ev : Int) (ts : List Tok) : List Lv → Lv → Nat → List Lv → Lv → Nat → Prop
  | stop {o : List Lv} {l : Lv} {e : Nat} {t : Tok} : ts[e]? = some t → (o = [] ∨ t.1 ≠ ")") → Close ev ts o l e o l e
  | pop {o o' : List Lv} {u l l' : Lv} {e e' : Nat} {t : Tok} : ts[e]? = some t → t.1 = ")" → Close ev ts o (u.withA ev l.whole) (e + 1) o' l' e' → Close ev ts (u :: o) l e o' l' e'
/-- the reader's way: outside, level, place; what comes of it, and where it ends -/
inductive Run (cols : List Col) (ev : Int) (ts : List Tok) : List Lv → Lv → Nat → (Leaf → Int) → Nat → Prop
  | no {o : List Lv} {l : Lv} {a e : Nat} {f : Leaf → Int} {t : Tok} : ts[a]? = some t → t.1 = "not" → Run cols ev ts o ⟨l.p, l.a, !l.n⟩ (a + 1) f e → Run cols ev ts o l a f e
  | opn {o : List Lv} {l : Lv} {a e : Nat} {f : Leaf → Int} {t : Tok} : ts[a]? = some t → t.1 = "(" → Run cols ev ts (l :: o) (Lv.zero ev) (a + 1) f e → Run cols ev ts o l a f e
  | fin {o : List Lv} {l l' : Lv} {a e e' : Nat} {f : Leaf → Int} {ks : List Leaf} {t u : Tok} : ts[a]? = some t → t.1 ≠ "not" → t.1 ≠ "(" → PlainAt cols ev ts a f ks e → Close ev ts o (l.withA ev f) e [] l' e' → ts[e']? = some u → u.1 = "" → Run cols ev ts o l a l'.whole e'
  | or {o o' : List Lv} {l l' : Lv} {a e e' e2 : Nat} {f g : Leaf → Int} {ks : List Leaf} {t u : Tok} : ts[a]? = some t → t.1 ≠ "not" → t.1 ≠ "(" → PlainAt cols ev ts a f ks e → Close ev ts o (l.withA ev f) e o' l' e' → ts[e']? = some u → u.1 = "or" → Run cols ev ts o' ⟨l'.whole, fun _ => ev, false⟩ (e' + 1) g e2 → Run cols ev ts o l a g e2
  | and {o o' : List Lv} {l l' : Lv} {a e e' e2 : Nat} {f g : Leaf → Int} {ks : List Leaf} {t u : Tok} : ts[a]? = some t → t.1 ≠ "not" → t.1 ≠ "(" → PlainAt cols ev ts a f ks e → Close ev ts o (l.withA ev f) e o' l' e' → ts[e']? = some u → u.1 = "and" → Run cols ev ts o' l' (e' + 1) g e2 → Run cols ev ts o l a g e2
def keysOf (ts : List Tok) : List Leaf := .none :: ts.map fun t => .text t.1
/-- a level that stands there -/
def LvAt (P : Program) (w : World) (S : List Leaf) (G : Hp) (lv : Addr) (l : Lv) : Prop := ∃ m n : Nk, Lev P w G lv m n l.n ∧ (∀ k, mv m k = l.p k) ∧ (∀ k, mv n k = l.a k) ∧ (∀ k ∈ m.map (·.1), k ∈ S) ∧ (∀ k ∈ n.map (·.1), k ∈ S)
theorem LvAt.mono {P : Program} {w : World} {S : List Leaf} {G G' : Hp} {lv : Addr} {l : Lv} (s : Same G G') (h : LvAt P w S G lv l) : LvAt P w S G' lv l := by
  obtain ⟨m, n, h1, h2⟩ := h
  exact ⟨m, n, h1.mono s, h2⟩
theorem nodup_len {α : Type} [DecidableEq α] : ∀ {l S : List α}, l.Nodup → (∀ x ∈ l, x ∈ S) → l.length ≤ S.length
  | [], S, _, _ => Nat.zero_le _
  | a :: l, S, nd, h => by
    obtain ⟨n1, n2⟩ := List.nodup_cons.mp nd
    have ha := h a List.mem_cons_self
    have ih := nodup_len (S := S.erase a) n2 fun x hx => by
      have ne : x ≠ a := fun e => n1 (by rw [← e]; exact hx)
      exact (List.mem_erase_of_ne ne).mpr (h x (List.mem_cons_of_mem _ hx))
    rw [List.length_erase_of_mem ha] at ih
    have := List.length_pos_of_mem ha
    rw [List.length_cons]
    omega
theorem Mn.short {P : Program} {w : World} {G : Hp} {d : Addr} {m : Nk} {S : List Leaf} (h : Mn P w G d m) (hs : ∀ k ∈ m.map (·.1), k ∈ S) : m.length ≤ S.length := by
  have := nodup_len h.2.nd hs
  rwa [List.length_map] at this
theorem plain_keys {cols : List Col} {ev : Int} {ts : List Tok} {a e : Nat} {f : Leaf → Int} {ks : List Leaf} (h : PlainAt cols ev ts a f ks e) : ∀ k ∈ ks, k ∈ keysOf ts := by
  intro k hk
  cases h with
  | tru => rw [List.mem_singleton.mp hk]; exact List.mem_cons_self
  | fls => rw [List.mem_singleton.mp hk]; exact List.mem_cons_self
  | cmp => rw [List.mem_singleton.mp hk]; exact List.mem_cons_self
  | nam h1 h2 h3 h4 h5 h6 =>
    rcases List.mem_cons.mp hk with rfl | hk
    · exact List.mem_cons_self
    · rw [List.mem_singleton.mp hk]
      exact List.mem_cons_of_mem _ (List.mem_map.mpr ⟨_, List.mem_of_getElem? h5, rfl⟩)
theorem Close.len {ev : Int} {ts : List Tok} {o o' : List Lv} {l l' : Lv} {e e' : Nat} (h : Close ev ts o l e o' l' e') : o'.length ≤ o.length ∧ e ≤ e' ∧ e' < ts.length := by
  induction h with
  | stop h1 _ => exact ⟨Nat.le_refl _, Nat.le_refl _, (List.getElem?_eq_some_iff.mp h1).1⟩
  | pop _ _ _ ih =>
    obtain ⟨i1, i2, i3⟩ := ih
    exact ⟨by rw [List.length_cons]; omega, by omega, i3⟩
def spReadCond (P : Program) (w : World) (C : Addr) : Sp := fun vs H Q _ => ∃ (tk x : Addr) (e : Nat) (ts : List Tok) (f : Leaf → Int) (cols : List Col) (G : Hp), vs = [.ref tk, .ref x] ∧ Toks G tk ts ∧ ts.length ≤ 400 ∧ TabF C G x cols ∧ Good n11 cols ∧ Run cols (2 ^ (allV (cols.map (·.2))).length - 1) ts [] (Lv.zero (2 ^ (allV (cols.map (·.2))).length - 1)) 0 f e ∧ Same G H ∧
  ∀ (p : Addr) (m : Nk) (H' G' : Hp), Xt none H G H' G' → Mn P w G' p m → (∀ k, mv m k = f k) → (∀ k ∈ m.map (·.1), k ∈ keysOf ts) → Q (.ref p) H'
end Nw
namespace Nw
open PySem L2 PySem.Spec PyProof.Rows RZ
/-- the levels outside, the outermost first in the list -/
inductive Outs (P : Program) (w : World) (S : List Leaf) (G : Hp) : List V → List Lv → Prop
  | nil : Outs P w S G [] []
  | snoc {ys : List V} {o : List Lv} {lv : Addr} {l : Lv} : Outs P w S G ys o → LvAt P w S G lv l → Outs P w S G (ys ++ [.ref lv]) (l :: o)
theorem Outs.mono {P : Program} {w : World} {S : List Leaf} {G G' : Hp} {ys : List V} {o : List Lv} (s : Same G G') (h : Outs P w S G ys o) : Outs P w S G' ys o := by
  induction h with
  | nil => exact .nil
  | snoc _ h2 ih => exact .snoc ih (h2.mono s)
theorem tru_lst {K : PySem.W.Frag} {H : Hp} {p : Addr} {xs : List V} {b : Bool} (h : SqL K H p xs) (e : (!xs.isEmpty) = b) : TruV K (.ref p) H b := by
  subst e
  exact .inl ⟨xs, h, rfl⟩
theorem SumAt.lt {cols : List Str} {ts : List Tok} {a e : Nat} {r : List Term} (s : SumAt cols ts a r e) : a < e := by
  obtain ⟨t, v, r', rfl, h1, h2, h3, h4⟩ := s.ex
  obtain ⟨i1, i2, i3⟩ := h4.inn
  omega
theorem plain_lt {cols : List Col} {ev : Int} {ts : List Tok} {a e : Nat} {f : Leaf → Int} {ks : List Leaf} (h : PlainAt cols ev ts a f ks e) : a < e := by
  cases h with
  | tru => omega
  | fls => omega
  | nam => omega
  | cmp h1 h2 h3 h4 h5 h6 h7 h8 =>
    have := h5.lt
    have := h8.lt
    omega
section
variable {P : Program} {w : World} {K : PySem.W.Frag} {mg : Str → Option Value} {base : Heap}
theorem readCondition {f C : Addr} {fd : FuncData} (F : C8.Def K mg "read_condition" s_read_condition f fd) (b : Binds K fd P_read_condition []) (T : Names K mg) (c_every_bit : C8.Cal P w K mg base 2 "every_bit" (spEvery C) []) (c_read_plain : C8.Cal P w K mg base 5 "read_plain" (spPlain P w C) [])
    (c_with_atom : C8.Cal P w K mg base 3 "with_atom" (spWith P w) []) (c_whole_level : C8.Cal P w K mg base 3 "whole_level" (spWhole P w) []) : C8.Cal P w K mg base 6 "read_condition" (spReadCond P w C) [] := by
  refine C8.cal0 (N := N_read_condition) F b .nil sc_read_condition (fun vs H Q E h => ?_) (fun cdv A outer s H vs Q E hr h => ?_)
  · obtain ⟨tk, x, e, ts, f, cols, G, rfl, _⟩ := h
    rfl
  · obtain ⟨tk, x, e, ts, f, cols, G, rfl, ht, l400, tab, good, run, sG, k⟩ := h
    refine ⟨_, (pss_cons (ps_set (i := 2) sc_read_condition.nd rfl (Or.inl rfl) (C8.pe_c c_every_bit hr (by decide) rfl (pa_cons (pv 1) pa_nil)))
 (pss_cons (ps_set (i := 3) sc_read_condition.nd rfl (Or.inl rfl) (pe_tup (pa_cons (pe_frz (pe_ndisp (pps_cons pe_non pe_int pps_nil) rfl rfl (fun q => nomatch q) (by decide))) (pa_cons (pe_frz (pe_ndisp (pps_cons pe_non (pv 2) pps_nil) rfl rfl (fun q => nomatch q) (by decide))) (pa_cons pe_bl pa_nil)))))
 (pss_cons (ps_set (i := 4) sc_read_condition.nd rfl (Or.inl rfl) (pe_lst pa_nil))
 (pss_cons (ps_set (i := 5) sc_read_condition.nd rfl (Or.inl rfl) (pv 3))
 (pss_cons (ps_set (i := 6) sc_read_condition.nd rfl (Or.inl rfl) pe_int)
 (C8.pss_cut (ps_while PassesOwn.never (pt_val pe_bl) (C8.pss_cut (ps_if (pt_cmpR op_eq (pe_ix ix_tup (pe_ix ix_list (pv 0) (pv 6) (fun _ _ => rfl)) pe_int (fun _ _ => rfl)) pe_str (nomark _)) (pss_one (ps_set (i := 5) sc_read_condition.nd rfl (Or.inl rfl) (pe_tup (pa_cons (pe_ix ix_tup (pv 5) pe_int (fun _ _ => rfl)) (pa_cons (pe_ix ix_tup (pv 5) pe_int (fun _ _ => rfl)) (pa_cons (pe_not (pe_ix ix_tup (pv 5) pe_int (fun _ _ => rfl))) pa_nil)))))) (pss_one (ps_if (pt_cmpR op_eq (pe_ix ix_tup (pe_ix ix_list (pv 0) (pv 6) (fun _ _ => rfl)) pe_int (fun _ _ => rfl)) pe_str (nomark _)) (pss_cons (ps_expr (pe_bm PySem.F.plainAttrs_list PySem.F.slot_list_append PySem.F.type_list_append mt_append (pv 4) (pa_cons (pv 5) pa_nil)))
 (pss_one (ps_set (i := 5) sc_read_condition.nd rfl (Or.inl rfl) (pv 3)))) (pss_cons (ps_asg (C8.pe_c c_read_plain hr (by decide) rfl (pa_cons (pv 0) (pa_cons (pv 6) (pa_cons (pv 1) (pa_cons (pv 2) pa_nil))))) (pg_tup rfl (pgs_cons (pg_name (i := 7) sc_read_condition.nd rfl (Or.inl rfl)) (pgs_cons (pg_name (i := 6) sc_read_condition.nd rfl (Or.inl rfl)) pgs_nil))))
 (pss_cons (ps_set (i := 5) sc_read_condition.nd rfl (Or.inl rfl) (C8.pe_c c_with_atom hr (by decide) rfl (pa_cons (pv 5) (pa_cons (pv 7) (pa_cons (pv 2) pa_nil)))))
 (C8.pss_cut (ps_while PassesOwn.never (PW.pt (pw_and (pt_truth (pv 4) (by intro _; rfl)) (pw_and1 (pt_cmpR op_eq (pe_ix ix_tup (pe_ix ix_list (pv 0) (pv 6) (fun _ _ => rfl)) pe_int (fun _ _ => rfl)) pe_str (nomark _))))) (pss_cons (ps_set (i := 5) sc_read_condition.nd rfl (Or.inl rfl) (C8.pe_c c_with_atom hr (by decide) rfl (pa_cons (pe_bm0 PySem.F.plainAttrs_list PySem.F.slot_list_pop PySem.F.type_list_pop mt_pop (pv 4)) (pa_cons (C8.pe_c c_whole_level hr (by decide) rfl (pa_cons (pv 5) pa_nil)) (pa_cons (pv 2) pa_nil)))))
 (pss_one (ps_aug (i := 6) sc_read_condition.nd rfl (Or.inl rfl) pe_int ip_add))))
 (pss_one (ps_if (pt_cmpR op_eq (pe_ix ix_tup (pe_ix ix_list (pv 0) (pv 6) (fun _ _ => rfl)) pe_int (fun _ _ => rfl)) pe_str (nomark _)) (pss_one (ps_set (i := 5) sc_read_condition.nd rfl (Or.inl rfl) (pe_tup (pa_cons (C8.pe_c c_whole_level hr (by decide) rfl (pa_cons (pv 5) pa_nil)) (pa_cons (pe_frz (pe_ndisp (pps_cons pe_non (pv 2) pps_nil) rfl rfl (fun q => nomatch q) (by decide))) (pa_cons pe_bl pa_nil)))))) (pss_one (ps_if (pt_cmpR op_ne (pe_ix ix_tup (pe_ix ix_list (pv 0) (pv 6) (fun _ _ => rfl)) pe_int (fun _ _ => rfl)) pe_str (nomark _)) (pss_one ps_break) pss_nil))))))))))
 (pss_one (ps_aug (i := 6) sc_read_condition.nd rfl (Or.inl rfl) pe_int ip_add))))
 (pss_cons (ps_asg (pe_ix ix_list (pv 0) (pv 6) (fun _ _ => rfl)) (pg_tup rfl (pgs_cons (pg_name (i := 8) sc_read_condition.nd rfl (Or.inl rfl)) (pgs_cons (pg_name (i := 9) sc_read_condition.nd rfl (Or.inl rfl)) pgs_nil))))
 (pss_cons (ps_if (PW.pt (pw_or (pt_truth (pv 4) (by intro _; rfl)) (pw_or1 (pt_cmpR op_ne (pv 8) pe_str (nomark _))))) (pss_one ps_never) pss_nil)
 (pss_one (ps_ret (C8.pe_c c_whole_level hr (by decide) rfl (pa_cons (pv 5) pa_nil)))))))))))), ?_⟩
    obtain ⟨tk_, xs, e0, gt, da⟩ := id ht.at_.list_inv
    cases e0
    have es : ∀ z t : Str, decide (V.str z = V.str t) = decide (z = t) := fun z t => by
      by_cases q : z = t
      · rw [q, decide_eq_true rfl, decide_eq_true rfl]
      · rw [decide_eq_false q, decide_eq_false fun e => q (by injection e)]
    have hS : (keysOf ts).length ≤ 401 := by
      show (ts.map _).length + 1 ≤ 401
      rw [List.length_map]
      omega
    have nS : Leaf.none ∈ keysOf ts := List.mem_cons_self
    refine ⟨_, rfl, x, cols, G, rfl, tab, good, sG, fun H1 X1 => ?_⟩
    obtain ⟨ev, eev⟩ : ∃ ev : Int, ev = 2 ^ (allV (cols.map (·.2))).length - 1 := ⟨_, rfl⟩
    rw [← eev] at run ⊢
    refine fun d1 hd1 => ⟨upd_same, [(Leaf.none, .int 0)], rfl, (by show 1 ≤ 15; decide), d1, _, rfl, upd_same, True.intro, fun od1 => ?_⟩
    obtain ⟨X2, hm1⟩ := frz_end (P := P) (w := w) (m := [(Leaf.none, .int 0)]) X1 hd1 (mok_one 0) od1
    refine fun d2 hd2 => ⟨_, rfl, upd_same, [(Leaf.none, .int ev)], rfl, (by show 1 ≤ 15; decide), d2, _, rfl, upd_same, True.intro, fun od2 => ?_⟩
    obtain ⟨X3, hm2⟩ := frz_end (P := P) (w := w) (m := [(Leaf.none, .int ev)]) (Xt.refl X2.sub) hd2 (mok_one ev) od2
    refine ⟨(by show 3 ≤ sizeLine; decide), fun em hem => ?_⟩
    have X4 := X3.alloc (o := .tup [.ref d1, .ref d2, .bl false]) hem
    obtain ⟨G5, eG5⟩ : ∃ G5, G5 = upd (upd (upd G d1 (.frz od1 (dN P w d1 [(Leaf.none, .int 0)]))) d2 (.frz od2 (dN P w d2 [(Leaf.none, .int ev)]))) em (.tup [.ref d1, .ref d2, .bl false]) := ⟨_, rfl⟩
    have lz : LvAt P w (keysOf ts) G5 em (Lv.zero ev) := by
      rw [eG5]
      exact ⟨_, _, ⟨d1, d2, upd_same, hm1.mono X4.gg, hm2.mono (upd_same_ (X3.sub.free hem))⟩, fun j => mv_one _ _, fun j => mv_one _ _, fun j hj => by rw [List.mem_singleton.mp hj]; exact nS, fun j hj => by rw [List.mem_singleton.mp hj]; exact nS⟩
    have X5 := X2.trans X4
    rw [← eG5] at X5
    clear X4 X3 X2 hm1 hm2
    refine ⟨Nat.zero_le _, fun lo hlo => ?_⟩
    have X6 := X5.allocT (o := .lst []) hlo
    have lo0 := X5.fresh hlo
    have gtA : ∀ {H' G' : Hp}, Xt none H G H' G' → True := fun _ => trivial
    refine ⟨_, rfl, ?_⟩
    refine ⟨fun σ' H' => ∃ (G' : Hp) (lv : Addr) (l : Lv) (v7 : Option V) (u : Tok), σ' = [some (.ref tk), some (.ref x), some (.int ev), some (.ref em), some (.ref lo), some (.ref lv), some (.int (e : Int)), v7, none, none] ∧ Xt none H G H' G' ∧ H' lo = some (.lst []) ∧ LvAt P w (keysOf ts) G' lv l ∧ l.whole = f ∧ ts[e]? = some u ∧ u.1 = "", ?_, ?_⟩
    · refine ⟨fun m σ' H' => ∃ (a : Nat) (G' : Hp) (lv : Addr) (l : Lv) (o : List Lv) (ys : List V) (v7 : Option V), m = ts.length - a ∧ σ' = [some (.ref tk), some (.ref x), some (.int ev), some (.ref em), some (.ref lo), some (.ref lv), some (.int (a : Int)), v7, none, none] ∧ Xt none H G H' G' ∧ Same G5 G' ∧
        H' lo = some (.lst ys) ∧ G' lo = none ∧ LvAt P w (keysOf ts) G' lv l ∧ Outs P w (keysOf ts) G' ys o ∧ ys.length ≤ a ∧ Run cols ev ts o l a f e, ⟨_, 0, G5, em, Lv.zero ev, [], [], none, rfl, rfl, X6, fun _ _ h => h, upd_same, X5.sub.free hlo, lz, .nil, Nat.le_refl _, run⟩, ?_⟩
      rintro m σ' H' ⟨a, G', lv, l, o, ys, v7, rfl, rfl, X, s5, hlo', glo, hlv, outs, ya, run⟩
      have gt' := X.gg _ _ gt
      have da' := da.mono X.gg
      refine ⟨_, rfl, iteT ⟨_, fun σ' H' h => h, ?_⟩⟩
      have tst : ∃ (p1 : Addr) (t : Tok), ts[a]? = some t ∧ xs[a]? = some (.ref p1) ∧ G' p1 = some (.tup [.str t.1, .int (t.2 : Int)]) := by
        have : ∃ t, ts[a]? = some t := by cases run <;> exact ⟨_, by assumption⟩
        obtain ⟨t, h⟩ := this
        obtain ⟨p1, x1, _, g1⟩ := Toks.get gt' da' h
        exact ⟨p1, t, h, x1, g1⟩
      obtain ⟨p1, t, hta, x1, g1⟩ := tst
      have alt : a < ts.length := (List.getElem?_eq_some_iff.mp hta).1
      refine ⟨fun σ2 H2 => ∃ (a2 : Nat) (G2 : Hp) (lv2 : Addr) (l2 : Lv) (o2 : List Lv) (ys2 : List V) (v72 : Option V), σ2 = [some (.ref tk), some (.ref x), some (.int ev), some (.ref em), some (.ref lo), some (.ref lv2), some (.int (a2 : Int)), v72, none, none] ∧ Xt none H G H2 G2 ∧ Same G5 G2 ∧
        H2 lo = some (.lst ys2) ∧ G2 lo = none ∧ LvAt P w (keysOf ts) G2 lv2 l2 ∧ Outs P w (keysOf ts) G2 ys2 o2 ∧ ys2.length ≤ a2 + 1 ∧ a ≤ a2 ∧ Run cols ev ts o2 l2 (a2 + 1) f e, ?_, ?_⟩
      · refine ⟨_, rfl, _, rfl, tk, _, _, _, rfl, rfl, SqL.of (X.sub _ _ gt'), atI_nat x1, p1, _, _, _, rfl, rfl, SqT.of (X.sub _ _ g1), rfl, rfl, _, rfl, ?_⟩
        rw [es]
        obtain ⟨m1, n1, ⟨dp, da_, q1, q2, q3⟩, q4, q5, q6, q7⟩ := id hlv
        by_cases hno : t.1 = "not"
        · rw [decide_eq_true hno]
          have hs := SqT.of (K := K) (X.sub _ _ q1)
          refine iteT ⟨_, rfl, lv, _, _, _, rfl, rfl, hs, rfl, _, rfl, lv, _, _, _, rfl, rfl, hs, rfl, _, rfl, lv, _, _, _, rfl, rfl, hs, rfl, _, rfl, (by show 3 ≤ sizeLine; decide), fun q hq => ?_⟩
          have nlq : lo ≠ q := fun z => by subst z; rw [hlo'] at hq; cases hq
          have X7 := X.alloc (o := .tup [.ref dp, .ref da_, .bl (!l.n)]) hq
          have s7 := upd_same_ (o := .tup [.ref dp, .ref da_, .bl (!l.n)]) (X.sub.free hq)
          have run2 : Run cols ev ts o ⟨l.p, l.a, !l.n⟩ (a + 1) f e := by
            cases run with
            | no _ _ r => exact r
            | opn h1 h2 _ => rw [hta] at h1; obtain rfl := Option.some.inj h1; rw [h2] at hno; exact absurd hno (by decide +kernel)
            | fin h1 h2 => rw [hta] at h1; obtain rfl := Option.some.inj h1; exact absurd hno h2
            | or h1 h2 => rw [hta] at h1; obtain rfl := Option.some.inj h1; exact absurd hno h2
            | and h1 h2 => rw [hta] at h1; obtain rfl := Option.some.inj h1; exact absurd hno h2
          exact ⟨a, _, q, ⟨l.p, l.a, !l.n⟩, o, ys, v7, rfl, X7, fun u o h => s7 u o (s5 u o h), by rw [upd_ne nlq]; exact hlo', none_of_ne glo nlq, ⟨m1, n1, ⟨dp, da_, upd_same, q2.mono s7, q3.mono s7⟩, q4, q5, q6, q7⟩, outs.mono s7, by omega, Nat.le_refl _, run2⟩
        rw [decide_eq_false hno]
        refine iteF ⟨_, rfl, _, rfl, tk, _, _, _, rfl, rfl, SqL.of (X.sub _ _ gt'), atI_nat x1, p1, _, _, _, rfl, rfl, SqT.of (X.sub _ _ g1), rfl, rfl, _, rfl, ?_⟩
        rw [es]
        by_cases hop : t.1 = "("
        · rw [decide_eq_true hop]
          have run2 : Run cols ev ts (l :: o) (Lv.zero ev) (a + 1) f e := by
            cases run with
            | no h1 h2 _ => rw [hta] at h1; obtain rfl := Option.some.inj h1; exact absurd h2 hno
            | opn h1 h2 r => exact r
            | fin h1 h2 h3 => rw [hta] at h1; obtain rfl := Option.some.inj h1; exact absurd hop h3
            | or h1 h2 h3 => rw [hta] at h1; obtain rfl := Option.some.inj h1; exact absurd hop h3
            | and h1 h2 h3 => rw [hta] at h1; obtain rfl := Option.some.inj h1; exact absurd hop h3
          refine iteT ⟨_, rfl, .inl ⟨rfl, _, SqL.of hlo'⟩, _, rfl, lo, ys, _, rfl, rfl, hlo', small_lt (by omega), ?_⟩
          refine ⟨_, rfl, ?_⟩
          exact ⟨a, G', em, Lv.zero ev, l :: o, ys ++ [.ref lv], v7, rfl, X.set lo0 glo, s5, upd_same, glo, lz.mono s5, .snoc outs hlv, by rw [List.length_append]; show _ + 1 ≤ _; omega, Nat.le_refl _, run2⟩
        rw [decide_eq_false hop]
        refine iteF ?_
        have view : ∃ (f1 : Leaf → Int) (ks : List Leaf) (e1 e' : Nat) (o' : List Lv) (l' : Lv) (u : Tok), PlainAt cols ev ts a f1 ks e1 ∧ Close ev ts o (l.withA ev f1) e1 o' l' e' ∧ ts[e']? = some u ∧
            ((u.1 = "" ∧ o' = [] ∧ f = l'.whole ∧ e = e') ∨ (u.1 = "or" ∧ Run cols ev ts o' ⟨l'.whole, fun _ => ev, false⟩ (e' + 1) f e) ∨ (u.1 = "and" ∧ Run cols ev ts o' l' (e' + 1) f e)) := by
          cases run with
          | no h1 h2 _ => rw [hta] at h1; obtain rfl := Option.some.inj h1; exact absurd h2 hno
          | opn h1 h2 _ => rw [hta] at h1; obtain rfl := Option.some.inj h1; exact absurd h2 hop
          | fin h1 h2 h3 h4 h5 h6 h7 => exact ⟨_, _, _, _, _, _, _, h4, h5, h6, .inl ⟨h7, rfl, rfl, rfl⟩⟩
          | or h1 h2 h3 h4 h5 h6 h7 h8 => exact ⟨_, _, _, _, _, _, _, h4, h5, h6, .inr (.inl ⟨h7, h8⟩)⟩
          | and h1 h2 h3 h4 h5 h6 h7 h8 => exact ⟨_, _, _, _, _, _, _, h4, h5, h6, .inr (.inr ⟨h7, h8⟩)⟩
        obtain ⟨f1, ks, e1, e', o', l', u, pl, cl, hu, fin⟩ := view
        obtain ⟨cl1, cl2, cl3⟩ := cl.len
        refine ⟨_, rfl, _, rfl, _, rfl, _, rfl, tk, x, a, e1, ev, ts, f1, ks, cols, G', rfl, ht.mono X.gg, tab.mono X.gg, good, pl, X.sub, fun pv m H1' G1 X1' got hm hks => ?_⟩
        obtain ⟨pt, dd, rfl, hpt, hmn⟩ := got
        refine ⟨pt, _, rfl, SqT.of (X1'.sub _ _ hpt), rfl, _, _, rfl, _, _, rfl, rfl, ?_⟩
        have kS : ∀ k ∈ m.map (·.1), k ∈ keysOf ts := by rw [hks]; exact plain_keys pl
        have len1 := (q3.mono X1'.gg).short q7
        have len2 := hmn.short kS
        refine ⟨_, rfl, _, rfl, _, rfl, lv, dd, ev, m1, n1, m, l.n, G1, rfl, ⟨dp, da_, X1'.gg _ _ q1, q2.mono X1'.gg, q3.mono X1'.gg⟩, hmn, by omega, X1'.sub, fun lv3 r3 H3 G3 X3' lev3 hl3 hv3 hk3 => ?_⟩
        have lat3 : LvAt P w (keysOf ts) G3 lv3 (l.withA ev f1) := by
          refine ⟨m1, r3, lev3, q4, fun j => ?_, q6, fun j hj => ?_⟩
          · rw [hv3, q5, hm]; rfl
          · rcases (hk3 j).mp hj with z | z
            · exact q7 j z
            · exact kS j z
        have Xa := X1'.trans X3'
        have XX := X.trans Xa
        have hlo3 := Xa.hh lo _ (fun q => by cases q) hlo'
        have glo3 := Xa.non (ne_none_of hlo') glo
        have pe1 : a < e1 := plain_lt pl
        refine ⟨fun σ2 H2 => ∃ (G2 : Hp) (lv2 : Addr) (ys2 : List V) (v72 : Option V), σ2 = [some (.ref tk), some (.ref x), some (.int ev), some (.ref em), some (.ref lo), some (.ref lv2), some (.int (e' : Int)), v72, none, none] ∧ Xt none H G H2 G2 ∧ Same G5 G2 ∧
          H2 lo = some (.lst ys2) ∧ G2 lo = none ∧ LvAt P w (keysOf ts) G2 lv2 l' ∧ Outs P w (keysOf ts) G2 ys2 o' ∧ ys2.length ≤ e', ?_, ?_⟩
        · refine ⟨fun m' σ2 H2 => ∃ (a2 : Nat) (G2 : Hp) (lv2 : Addr) (l2 : Lv) (o2 : List Lv) (ys2 : List V), m' = o2.length ∧ σ2 = [some (.ref tk), some (.ref x), some (.int ev), some (.ref em), some (.ref lo), some (.ref lv2), some (.int (a2 : Int)), some (.ref dd), none, none] ∧ Xt none H G H2 G2 ∧ Same G5 G2 ∧
            H2 lo = some (.lst ys2) ∧ G2 lo = none ∧ LvAt P w (keysOf ts) G2 lv2 l2 ∧ Outs P w (keysOf ts) G2 ys2 o2 ∧ ys2.length ≤ a2 ∧ Close ev ts o2 l2 a2 o' l' e',
            ⟨_, e1, G3, lv3, l.withA ev f1, o, ys, rfl, rfl, XX, fun u o h => Xa.gg u o (s5 u o h), hlo3, glo3, lat3, outs.mono Xa.gg, by omega, cl⟩, ?_⟩
          rintro m' σ2 H2 ⟨a2, G2, lv2, l2, o2, ys2, rfl, rfl, X2, s2, h2, g2, hl2, ou2, y2, cl2_⟩
          have gt2 := X2.gg _ _ gt
          have da2 := da.mono X2.gg
          cases cl2_ with
          | stop c1 c2 =>
            obtain ⟨p5, x5, _, g5⟩ := Toks.get gt2 da2 c1
            have done : ∃ (G2' : Hp) (lv2' : Addr) (ys2' : List V) (v72 : Option V), [some (V.ref tk), some (.ref x), some (.int ev), some (.ref em), some (.ref lo), some (.ref lv2), some (.int (e' : Int)), some (.ref dd), none, none] = [some (.ref tk), some (.ref x), some (.int ev), some (.ref em), some (.ref lo), some (.ref lv2'), some (.int (e' : Int)), v72, none, none] ∧ Xt none H G H2 G2' ∧ Same G5 G2' ∧
              H2 lo = some (.lst ys2') ∧ G2' lo = none ∧ LvAt P w (keysOf ts) G2' lv2' l' ∧ Outs P w (keysOf ts) G2' ys2' o' ∧ ys2'.length ≤ e' := ⟨G2, lv2, ys2, _, rfl, X2, s2, h2, g2, hl2, ou2, y2⟩
            cases ou2 with
            | nil =>
              refine ⟨_, rfl, false, tru_lst (SqL.of h2) rfl, iteF (iteF ?_)⟩
              exact done
            | snoc oo ll =>
              have ct := c2.resolve_left (fun q => by cases q)
              refine ⟨_, rfl, true, tru_lst (SqL.of h2) (by simp), iteT ?_⟩
              refine ⟨_, rfl, _, rfl, tk, _, _, _, rfl, rfl, SqL.of (X2.sub _ _ gt2), atI_nat x5, p5, _, _, _, rfl, rfl, SqT.of (X2.sub _ _ g5), rfl, rfl, _, rfl, ?_⟩
              rw [es, decide_eq_false ct]
              exact iteF done
          | pop c1 c2 c3 =>
            obtain ⟨p5, x5, _, g5⟩ := Toks.get gt2 da2 c1
            cases ou2 with
            | snoc oo ll =>
              rename_i yo lu
              refine ⟨_, rfl, true, tru_lst (SqL.of h2) (by simp), iteT ?_⟩
              refine ⟨_, rfl, _, rfl, tk, _, _, _, rfl, rfl, SqL.of (X2.sub _ _ gt2), atI_nat x5, p5, _, _, _, rfl, rfl, SqT.of (X2.sub _ _ g5), rfl, rfl, _, rfl, ?_⟩
              rw [es, c2, decide_eq_true rfl]
              refine iteT ⟨_, fun σ' H' h => h, ?_⟩
              refine ⟨_, rfl, .inl ⟨rfl, _, SqL.of h2⟩, ?_⟩
              refine ⟨lo, yo ++ [.ref lu], .ref lu, rfl, rfl, h2, by simp, ?_⟩
              have X3 := X2.set (o := .lst (yo ++ [V.ref lu]).dropLast) lo0 g2
              have lo3 : upd H2 lo (.lst (yo ++ [V.ref lu]).dropLast) lo = some (.lst yo) := by rw [upd_same, List.dropLast_concat]
              have yo2 : yo.length ≤ a2 := by rw [List.length_append] at y2; omega
              obtain ⟨m5, n5, lev5, w4, w5, w6, w7⟩ := id hl2
              obtain ⟨dp5, da5, _, z2, z3⟩ := id lev5
              have sh1 := z2.short w6
              have sh2 := z3.short w7
              refine ⟨_, rfl, lv2, m5, n5, l2.n, G2, rfl, lev5, by omega, X3.sub, fun pw rw_ H7 G7 X7 hmw hlw hvw hkw => ?_⟩
              obtain ⟨m6, n6, ⟨dp6, da6, y1, y2', y3⟩, v4, v5, v6, v7⟩ := ll
              have kW : ∀ k ∈ rw_.map (·.1), k ∈ keysOf ts := fun j hj => by
                rcases (hkw j).mp hj with z | z
                · exact w6 j z
                · exact w7 j z
              have sh3 := (y3.mono X7.gg).short v7
              have sh4 := hmw.short kW
              refine ⟨_, rfl, lu, pw, ev, m6, n6, rw_, _, G7, rfl, ⟨dp6, da6, X7.gg _ _ y1, y2'.mono X7.gg, y3.mono X7.gg⟩, hmw, by omega, X7.sub, fun lv3 r3 H3 G3 X3' lev3 hl3 hv3 hk3 => ?_⟩
              have Xa := X7.trans X3'
              refine ⟨_, rfl, _, _, rfl, rfl, ?_⟩
              refine ⟨_, ?_, a2 + 1, G3, lv3, Lv.withA _ ev l2.whole, _, yo, rfl, rfl, X3.trans Xa, fun u o h => Xa.gg u o (s2 u o h), Xa.hh lo _ (fun q => by cases q) lo3, Xa.non (ne_none_of lo3) g2, ⟨m6, r3, lev3, v4, fun j => ?_, v6, fun j hj => ?_⟩, oo.mono Xa.gg, by omega, c3⟩
              · simp
              · rw [hv3, v5, hvw, w4, w5]; rfl
              · rcases (hk3 j).mp hj with z | z
                · exact v7 j z
                · exact kW j z
        · rintro σ2 H2 ⟨G2, lv2, ys2, v72, rfl, X2, s2, h2, g2, hl2, ou2, y2⟩
          obtain ⟨p5, x5, _, g5⟩ := Toks.get (X2.gg _ _ gt) (da.mono X2.gg) hu
          have gt2 := X2.gg _ _ gt
          refine ⟨_, rfl, _, rfl, tk, _, _, _, rfl, rfl, SqL.of (X2.sub _ _ gt2), atI_nat x5, p5, _, _, _, rfl, rfl, SqT.of (X2.sub _ _ g5), rfl, rfl, _, rfl, ?_⟩
          rw [es]
          rcases fin with ⟨hu1, rfl, rfl, rfl⟩ | ⟨hu1, run2⟩ | ⟨hu1, run2⟩
          · rw [hu1, decide_eq_false (by decide +kernel)]
            refine iteF ⟨_, rfl, _, rfl, tk, _, _, _, rfl, rfl, SqL.of (X2.sub _ _ gt2), atI_nat x5, p5, _, _, _, rfl, rfl, SqT.of (X2.sub _ _ g5), rfl, rfl, _, rfl, ?_⟩
            rw [es, hu1, decide_eq_false (by decide +kernel)]
            cases ou2
            exact iteT ⟨G2, lv2, l', v72, u, rfl, X2, h2, hl2, rfl, hu, hu1⟩
          · rw [hu1, decide_eq_true rfl]
            obtain ⟨m5, n5, lev5, w4, w5, w6, w7⟩ := id hl2
            obtain ⟨dp5, da5, _, z2, z3⟩ := id lev5
            have sh1 := z2.short w6
            have sh2 := z3.short w7
            refine iteT ⟨_, rfl, lv2, m5, n5, l'.n, G2, rfl, lev5, by omega, X2.sub, fun pw rw_ H7 G7 X7 hmw hlw hvw hkw => ?_⟩
            refine fun d7 hd7 => ⟨_, rfl, upd_same, [(Leaf.none, .int ev)], rfl, (by show 1 ≤ 15; decide), d7, _, rfl, upd_same, True.intro, fun od7 => ?_⟩
            obtain ⟨X8, hm8⟩ := frz_end (P := P) (w := w) (m := [(Leaf.none, .int ev)]) (Xt.refl X7.sub) hd7 (mok_one ev) od7
            refine ⟨(by show 3 ≤ sizeLine; decide), fun q hq => ?_⟩
            have X9 := X8.alloc (o := .tup [.ref pw, .ref d7, .bl false]) hq
            have s9 := upd_same_ (o := .tup [.ref pw, .ref d7, .bl false]) (X8.sub.free hq)
            have Z := X7.trans X9
            refine ⟨e', _, q, ⟨l'.whole, fun _ => ev, false⟩, o', ys2, _, rfl, X2.trans Z, fun u o h => Z.gg u o (s2 u o h), Z.hh lo _ (fun q => by cases q) h2, Z.non (ne_none_of h2) g2, ⟨rw_, _, ⟨pw, d7, upd_same, hmw.mono X9.gg, hm8.mono s9⟩, fun j => ?_, fun j => mv_one _ _, fun j hj => ?_, fun j hj => ?_⟩, ou2.mono Z.gg, by omega, by omega, run2⟩
            · rw [hvw, w4, w5]; rfl
            · rcases (hkw j).mp hj with z | z
              · exact w6 j z
              · exact w7 j z
            · rw [List.mem_singleton.mp hj]; exact nS
          · rw [hu1, decide_eq_false (by decide +kernel)]
            refine iteF ⟨_, rfl, _, rfl, tk, _, _, _, rfl, rfl, SqL.of (X2.sub _ _ gt2), atI_nat x5, p5, _, _, _, rfl, rfl, SqT.of (X2.sub _ _ g5), rfl, rfl, _, rfl, ?_⟩
            rw [es, hu1, decide_eq_true rfl]
            exact iteF ⟨e', G2, lv2, l', o', ys2, v72, rfl, X2, s2, h2, g2, hl2, ou2, by omega, by omega, run2⟩
      · rintro σ2 H2 ⟨a2, G2, lv2, l2, o2, ys2, v72, rfl, X2, s2, h2, g2, hl2, ou2, y2, le2, run2⟩
        refine ⟨_, rfl, _, _, rfl, rfl, ?_⟩
        refine ⟨_, ?_, a2 + 1, G2, lv2, l2, o2, ys2, v72, rfl, rfl, X2, s2, h2, g2, hl2, ou2, y2, run2⟩
        omega
    · rintro σ' H' ⟨G', lv, l, v7, u, rfl, X, hlo', ⟨m, n, lev, hm, hn, km, kn⟩, rfl, hu, hu0⟩
      obtain ⟨p1, x1, d1', g1⟩ := Toks.get (X.gg _ _ gt) (da.mono X.gg) hu
      refine ⟨_, rfl, _, rfl, tk, _, _, _, rfl, rfl, SqL.of (X.sub _ _ (X.gg _ _ gt)), atI_nat x1, p1, _, rfl, SqT.of (X.sub _ _ g1), rfl, _, _, rfl, _, _, rfl, rfl, ?_⟩
      obtain ⟨dp, da_, l1, l2, l3⟩ := id lev
      have lm := l2.short km
      have ln := l3.short kn
      have tru : TruV K (.ref lo) H' false := tru_lst (SqL.of hlo') rfl
      refine ⟨_, rfl, false, tru, iteF ?_⟩
      refine ⟨_, rfl, rfl, _, rfl, ?_⟩
      rw [es, hu0, decide_eq_true rfl]
      refine iteF ⟨_, rfl, lv, m, n, l.n, G', rfl, lev, by omega, X.sub, fun p r H2 G2 X2 hr hl hv hk => ?_⟩
      refine k p r _ _ (X.trans X2) hr (fun j => by rw [hv, hm, hn]; rfl) (fun j hj => ?_)
      rcases (hk j).mp hj with q | q
      · exact km j q
      · exact kn j q
end
end Nw
namespace Nw
open PySem L2 PySem.Spec PyProof.Rows RZ
/-! a condition that breaks off -/
inductive CloseN (ts : List Tok) : Nat → Nat → Nat → Nat → Prop
  | stop {o e : Nat} {t : Tok} : ts[e]? = some t → (o = 0 ∨ t.1 ≠ ")") → CloseN ts o e o e
  | pop {o o' e e' : Nat} {t : Tok} : ts[e]? = some t → t.1 = ")" → CloseN ts o (e + 1) o' e' → CloseN ts (o + 1) e o' e'
theorem CloseN.len {ts : List Tok} {o o' e e' : Nat} (h : CloseN ts o e o' e') : o' ≤ o ∧ e ≤ e' ∧ e' < ts.length := by
  induction h with
  | stop h1 _ => exact ⟨Nat.le_refl _, Nat.le_refl _, (List.getElem?_eq_some_iff.mp h1).1⟩
  | pop _ _ _ ih =>
    obtain ⟨i1, i2, i3⟩ := ih
    exact ⟨by omega, by omega, i3⟩
def PlainE (cols : List Col) (ev : Int) (ts : List Tok) (a e : Nat) : Prop := ∃ (f : Leaf → Int) (ks : List Leaf), PlainAt cols ev ts a f ks e
inductive RunStuck (cols : List Col) (ev : Int) (ts : List Tok) : Nat → Nat → Nat → Prop
  | no {o a n : Nat} {t : Tok} : ts[a]? = some t → t.1 = "not" → RunStuck cols ev ts o (a + 1) n → RunStuck cols ev ts o a n
  | opn {o a n : Nat} {t : Tok} : ts[a]? = some t → t.1 = "(" → RunStuck cols ev ts (o + 1) (a + 1) n → RunStuck cols ev ts o a n
  | pl {o a n : Nat} {t : Tok} : ts[a]? = some t → t.1 ≠ "not" → t.1 ≠ "(" → PlainStuck (cols.map (·.1)) ts a n → RunStuck cols ev ts o a n
  | fin {o o' a e e' : Nat} {t u : Tok} : ts[a]? = some t → t.1 ≠ "not" → t.1 ≠ "(" → PlainE cols ev ts a e → CloseN ts o e o' e' → ts[e']? = some u → u.1 ≠ "or" → u.1 ≠ "and" → (o' ≠ 0 ∨ u.1 ≠ "") → RunStuck cols ev ts o a u.2
  | next {o o' a e e' n : Nat} {t u : Tok} : ts[a]? = some t → t.1 ≠ "not" → t.1 ≠ "(" → PlainE cols ev ts a e → CloseN ts o e o' e' → ts[e']? = some u → (u.1 = "or" ∨ u.1 = "and") → RunStuck cols ev ts o' (e' + 1) n → RunStuck cols ev ts o a n
def spCondF (CW C : Addr) : Sp := fun vs H Q E => ∃ (tk x : Addr) (n : Nat) (ts : List Tok) (cols : List Col) (G : Hp), vs = [.ref tk, .ref x] ∧ Toks G tk ts ∧ ts.length ≤ 400 ∧ TabF C G x cols ∧ Good n11 cols ∧ RunStuck cols (2 ^ (allV (cols.map (·.2))).length - 1) ts 0 0 n ∧ Same G H ∧ FailE E CW H G n
theorem Outs.len {P : Program} {w : World} {S : List Leaf} {G : Hp} {ys : List V} {o : List Lv} (h : Outs P w S G ys o) : ys.length = o.length := by
  induction h with
  | nil => rfl
  | snoc _ _ ih => rw [List.length_append, ih]; rfl
section
variable {P : Program} {w : World} {K : PySem.W.Frag} {mg : Str → Option Value} {base : Heap}
theorem readConditionF {f C CW : Addr} {fd : FuncData} (F : C8.Def K mg "read_condition" s_read_condition f fd) (b : Binds K fd P_read_condition []) (T : Names K mg) (WT_ : WT P w K mg base CW) (c_every_bit : C8.Cal P w K mg base 2 "every_bit" (spEvery C) []) (c_read_plain : C8.Cal P w K mg base 5 "read_plain" (spPlain P w C) []) (x_read_plain : Xal P w K mg base 6 "read_plain" (spPlainF CW C))
    (c_with_atom : C8.Cal P w K mg base 3 "with_atom" (spWith P w) []) (c_whole_level : C8.Cal P w K mg base 3 "whole_level" (spWhole P w) []) : Xal P w K mg base 7 "read_condition" (spCondF CW C) := by
  refine xal0 (N := N_read_condition) F b sc_read_condition (fun vs H Q E h => ?_) (fun cdv A outer s H vs Q E hr h => ?_)
  · obtain ⟨tk, x, n, ts, cols, G, rfl, _⟩ := h
    rfl
  · obtain ⟨tk, x, n, ts, cols, G, rfl, ht, l400, tab, good, run, sG, fail⟩ := h
    obtain ⟨fE, fdE, OC, iC, tI, FE, bE, gE⟩ := WT_.ex
    refine ⟨_, (pss_cons (ps_set (i := 2) sc_read_condition.nd rfl (Or.inl rfl) (C8.pe_c c_every_bit hr (by decide) rfl (pa_cons (pv 1) pa_nil)))
 (pss_cons (ps_set (i := 3) sc_read_condition.nd rfl (Or.inl rfl) (pe_tup (pa_cons (pe_frz (pe_ndisp (pps_cons pe_non pe_int pps_nil) rfl rfl (fun q => nomatch q) (by decide))) (pa_cons (pe_frz (pe_ndisp (pps_cons pe_non (pv 2) pps_nil) rfl rfl (fun q => nomatch q) (by decide))) (pa_cons pe_bl pa_nil)))))
 (pss_cons (ps_set (i := 4) sc_read_condition.nd rfl (Or.inl rfl) (pe_lst pa_nil))
 (pss_cons (ps_set (i := 5) sc_read_condition.nd rfl (Or.inl rfl) (pv 3))
 (pss_cons (ps_set (i := 6) sc_read_condition.nd rfl (Or.inl rfl) pe_int)
 (C8.pss_cut (ps_while (L2.passes_of rfl) (pt_val pe_bl) (C8.pss_cut (ps_if (pt_cmpR op_eq (pe_ix ix_tup (pe_ix ix_list (pv 0) (pv 6) (fun _ _ => rfl)) pe_int (fun _ _ => rfl)) pe_str (nomark _)) (pss_one (ps_set (i := 5) sc_read_condition.nd rfl (Or.inl rfl) (pe_tup (pa_cons (pe_ix ix_tup (pv 5) pe_int (fun _ _ => rfl)) (pa_cons (pe_ix ix_tup (pv 5) pe_int (fun _ _ => rfl)) (pa_cons (pe_not (pe_ix ix_tup (pv 5) pe_int (fun _ _ => rfl))) pa_nil)))))) (pss_one (ps_if (pt_cmpR op_eq (pe_ix ix_tup (pe_ix ix_list (pv 0) (pv 6) (fun _ _ => rfl)) pe_int (fun _ _ => rfl)) pe_str (nomark _)) (pss_cons (ps_expr (pe_bm PySem.F.plainAttrs_list PySem.F.slot_list_append PySem.F.type_list_append mt_append (pv 4) (pa_cons (pv 5) pa_nil)))
 (pss_one (ps_set (i := 5) sc_read_condition.nd rfl (Or.inl rfl) (pv 3)))) (pss_cons (ps_asg (pe_callO c_read_plain x_read_plain hr (by decide) (by decide) rfl (fun σ => L2N.passAt (L2N.takes_of rfl rfl rfl rfl) σ) (pa_cons (pv 0) (pa_cons (pv 6) (pa_cons (pv 1) (pa_cons (pv 2) pa_nil))))) (pg_tup rfl (pgs_cons (pg_name (i := 7) sc_read_condition.nd rfl (Or.inl rfl)) (pgs_cons (pg_name (i := 6) sc_read_condition.nd rfl (Or.inl rfl)) pgs_nil))))
 (pss_cons (ps_set (i := 5) sc_read_condition.nd rfl (Or.inl rfl) (C8.pe_c c_with_atom hr (by decide) rfl (pa_cons (pv 5) (pa_cons (pv 7) (pa_cons (pv 2) pa_nil)))))
 (C8.pss_cut (ps_while (L2.passes_of rfl) (PW.pt (pw_and (pt_truth (pv 4) (by intro _; rfl)) (pw_and1 (pt_cmpR op_eq (pe_ix ix_tup (pe_ix ix_list (pv 0) (pv 6) (fun _ _ => rfl)) pe_int (fun _ _ => rfl)) pe_str (nomark _))))) (pss_cons (ps_set (i := 5) sc_read_condition.nd rfl (Or.inl rfl) (C8.pe_c c_with_atom hr (by decide) rfl (pa_cons (pe_bm0 PySem.F.plainAttrs_list PySem.F.slot_list_pop PySem.F.type_list_pop mt_pop (pv 4)) (pa_cons (C8.pe_c c_whole_level hr (by decide) rfl (pa_cons (pv 5) pa_nil)) (pa_cons (pv 2) pa_nil)))))
 (pss_one (ps_aug (i := 6) sc_read_condition.nd rfl (Or.inl rfl) pe_int ip_add))))
 (pss_one (ps_if (pt_cmpR op_eq (pe_ix ix_tup (pe_ix ix_list (pv 0) (pv 6) (fun _ _ => rfl)) pe_int (fun _ _ => rfl)) pe_str (nomark _)) (pss_one (ps_set (i := 5) sc_read_condition.nd rfl (Or.inl rfl) (pe_tup (pa_cons (C8.pe_c c_whole_level hr (by decide) rfl (pa_cons (pv 5) pa_nil)) (pa_cons (pe_frz (pe_ndisp (pps_cons pe_non (pv 2) pps_nil) rfl rfl (fun q => nomatch q) (by decide))) (pa_cons pe_bl pa_nil)))))) (pss_one (ps_if (pt_cmpR op_ne (pe_ix ix_tup (pe_ix ix_list (pv 0) (pv 6) (fun _ _ => rfl)) pe_int (fun _ _ => rfl)) pe_str (nomark _)) (pss_one ps_break) pss_nil))))))))))
 (pss_one (ps_aug (i := 6) sc_read_condition.nd rfl (Or.inl rfl) pe_int ip_add))))
 (pss_cons (ps_asg (pe_ix ix_list (pv 0) (pv 6) (fun _ _ => rfl)) (pg_tup rfl (pgs_cons (pg_name (i := 8) sc_read_condition.nd rfl (Or.inl rfl)) (pgs_cons (pg_name (i := 9) sc_read_condition.nd rfl (Or.inl rfl)) pgs_nil))))
 (pss_cons (ps_if (PW.pt (pw_or (pt_truth (pv 4) (by intro _; rfl)) (pw_or1 (pt_cmpR op_ne (pv 8) pe_str (nomark _))))) (pss_one (L2N.ps_raise rfl (L2N.takes_of rfl rfl rfl rfl) (pmkN_oex OC iC tI FE (hr.mono (by decide)) bE C8.pass0 rfl gE (pa_cons (pv 9) pa_nil)))) pss_nil)
 (pss_one (ps_ret (C8.pe_c c_whole_level hr (by decide) rfl (pa_cons (pv 5) pa_nil)))))))))))), ?_⟩
    obtain ⟨tk_, xs, e0, gt, da⟩ := id ht.at_.list_inv
    cases e0
    have es : ∀ z t : Str, decide (V.str z = V.str t) = decide (z = t) := fun z t => by
      by_cases q : z = t
      · rw [q, decide_eq_true rfl, decide_eq_true rfl]
      · rw [decide_eq_false q, decide_eq_false fun e => q (by injection e)]
    have hS : (keysOf ts).length ≤ 401 := by
      show (ts.map _).length + 1 ≤ 401
      rw [List.length_map]
      omega
    have nS : Leaf.none ∈ keysOf ts := List.mem_cons_self
    refine ⟨_, rfl, x, cols, G, rfl, tab, good, sG, fun H1 X1 => ?_⟩
    obtain ⟨ev, eev⟩ : ∃ ev : Int, ev = 2 ^ (allV (cols.map (·.2))).length - 1 := ⟨_, rfl⟩
    rw [← eev] at run ⊢
    refine fun d1 hd1 => ⟨upd_same, [(Leaf.none, .int 0)], rfl, (by show 1 ≤ 15; decide), d1, _, rfl, upd_same, True.intro, fun od1 => ?_⟩
    obtain ⟨X2, hm1⟩ := frz_end (P := P) (w := w) (m := [(Leaf.none, .int 0)]) X1 hd1 (mok_one 0) od1
    refine fun d2 hd2 => ⟨_, rfl, upd_same, [(Leaf.none, .int ev)], rfl, (by show 1 ≤ 15; decide), d2, _, rfl, upd_same, True.intro, fun od2 => ?_⟩
    obtain ⟨X3, hm2⟩ := frz_end (P := P) (w := w) (m := [(Leaf.none, .int ev)]) (Xt.refl X2.sub) hd2 (mok_one ev) od2
    refine ⟨(by show 3 ≤ sizeLine; decide), fun em hem => ?_⟩
    have X4 := X3.alloc (o := .tup [.ref d1, .ref d2, .bl false]) hem
    obtain ⟨G5, eG5⟩ : ∃ G5, G5 = upd (upd (upd G d1 (.frz od1 (dN P w d1 [(Leaf.none, .int 0)]))) d2 (.frz od2 (dN P w d2 [(Leaf.none, .int ev)]))) em (.tup [.ref d1, .ref d2, .bl false]) := ⟨_, rfl⟩
    have lz : LvAt P w (keysOf ts) G5 em (Lv.zero ev) := by
      rw [eG5]
      exact ⟨_, _, ⟨d1, d2, upd_same, hm1.mono X4.gg, hm2.mono (upd_same_ (X3.sub.free hem))⟩, fun j => mv_one _ _, fun j => mv_one _ _, fun j hj => by rw [List.mem_singleton.mp hj]; exact nS, fun j hj => by rw [List.mem_singleton.mp hj]; exact nS⟩
    have X5 := X2.trans X4
    rw [← eG5] at X5
    clear X4 X3 X2 hm1 hm2
    refine ⟨Nat.zero_le _, fun lo hlo => ?_⟩
    have X6 := X5.allocT (o := .lst []) hlo
    have lo0 := X5.fresh hlo
    refine ⟨_, rfl, ?_⟩
    refine ⟨fun σ' H' => ∃ (G' : Hp) (lv : Addr) (e : Nat) (ys : List V) (v7 : Option V) (u : Tok), σ' = [some (.ref tk), some (.ref x), some (.int ev), some (.ref em), some (.ref lo), some (.ref lv), some (.int (e : Int)), v7, none, none] ∧ Xt none H G H' G' ∧ H' lo = some (.lst ys) ∧ ts[e]? = some u ∧ u.2 = n ∧ (ys ≠ [] ∨ u.1 ≠ ""), ?_, ?_⟩
    · refine ⟨fun m σ' H' => ∃ (a : Nat) (G' : Hp) (lv : Addr) (l : Lv) (o : List Lv) (ys : List V) (v7 : Option V), m = ts.length - a ∧ σ' = [some (.ref tk), some (.ref x), some (.int ev), some (.ref em), some (.ref lo), some (.ref lv), some (.int (a : Int)), v7, none, none] ∧ Xt none H G H' G' ∧ Same G5 G' ∧
        H' lo = some (.lst ys) ∧ G' lo = none ∧ LvAt P w (keysOf ts) G' lv l ∧ Outs P w (keysOf ts) G' ys o ∧ ys.length ≤ a ∧ RunStuck cols ev ts o.length a n, ⟨_, 0, G5, em, Lv.zero ev, [], [], none, rfl, rfl, X6, fun _ _ h => h, upd_same, X5.sub.free hlo, lz, .nil, Nat.le_refl _, run⟩, ?_⟩
      rintro m σ' H' ⟨a, G', lv, l, o, ys, v7, rfl, rfl, X, s5, hlo', glo, hlv, outs, ya, run⟩
      have gt' := X.gg _ _ gt
      have da' := da.mono X.gg
      refine ⟨_, rfl, iteT ⟨_, fun σ' H' h => h, ?_⟩⟩
      have tst : ∃ (p1 : Addr) (t : Tok), ts[a]? = some t ∧ xs[a]? = some (.ref p1) ∧ G' p1 = some (.tup [.str t.1, .int (t.2 : Int)]) := by
        have : ∃ t, ts[a]? = some t := by cases run <;> exact ⟨_, by assumption⟩
        obtain ⟨t, h⟩ := this
        obtain ⟨p1, x1, _, g1⟩ := Toks.get gt' da' h
        exact ⟨p1, t, h, x1, g1⟩
      obtain ⟨p1, t, hta, x1, g1⟩ := tst
      have alt : a < ts.length := (List.getElem?_eq_some_iff.mp hta).1
      refine ⟨fun σ2 H2 => ∃ (a2 : Nat) (G2 : Hp) (lv2 : Addr) (l2 : Lv) (o2 : List Lv) (ys2 : List V) (v72 : Option V), σ2 = [some (.ref tk), some (.ref x), some (.int ev), some (.ref em), some (.ref lo), some (.ref lv2), some (.int (a2 : Int)), v72, none, none] ∧ Xt none H G H2 G2 ∧ Same G5 G2 ∧
        H2 lo = some (.lst ys2) ∧ G2 lo = none ∧ LvAt P w (keysOf ts) G2 lv2 l2 ∧ Outs P w (keysOf ts) G2 ys2 o2 ∧ ys2.length ≤ a2 + 1 ∧ a ≤ a2 ∧ RunStuck cols ev ts o2.length (a2 + 1) n, ?_, ?_⟩
      · refine ⟨_, rfl, _, rfl, tk, _, _, _, rfl, rfl, SqL.of (X.sub _ _ gt'), atI_nat x1, p1, _, _, _, rfl, rfl, SqT.of (X.sub _ _ g1), rfl, rfl, _, rfl, ?_⟩
        rw [es]
        obtain ⟨m1, n1, ⟨dp, da_, q1, q2, q3⟩, q4, q5, q6, q7⟩ := id hlv
        by_cases hno : t.1 = "not"
        · rw [decide_eq_true hno]
          have hs := SqT.of (K := K) (X.sub _ _ q1)
          refine iteT ⟨_, rfl, lv, _, _, _, rfl, rfl, hs, rfl, _, rfl, lv, _, _, _, rfl, rfl, hs, rfl, _, rfl, lv, _, _, _, rfl, rfl, hs, rfl, _, rfl, (by show 3 ≤ sizeLine; decide), fun q hq => ?_⟩
          have nlq : lo ≠ q := fun z => by subst z; rw [hlo'] at hq; cases hq
          have X7 := X.alloc (o := .tup [.ref dp, .ref da_, .bl (!l.n)]) hq
          have s7 := upd_same_ (o := .tup [.ref dp, .ref da_, .bl (!l.n)]) (X.sub.free hq)
          have run2 : RunStuck cols ev ts o.length (a + 1) n := by
            cases run with
            | no _ _ r => exact r
            | opn h1 h2 _ => rw [hta] at h1; obtain rfl := Option.some.inj h1; rw [h2] at hno; exact absurd hno (by decide +kernel)
            | pl h1 h2 => rw [hta] at h1; obtain rfl := Option.some.inj h1; exact absurd hno h2
            | fin h1 h2 => rw [hta] at h1; obtain rfl := Option.some.inj h1; exact absurd hno h2
            | next h1 h2 => rw [hta] at h1; obtain rfl := Option.some.inj h1; exact absurd hno h2
          exact ⟨a, _, q, ⟨l.p, l.a, !l.n⟩, o, ys, v7, rfl, X7, fun u o h => s7 u o (s5 u o h), by rw [upd_ne nlq]; exact hlo', none_of_ne glo nlq, ⟨m1, n1, ⟨dp, da_, upd_same, q2.mono s7, q3.mono s7⟩, q4, q5, q6, q7⟩, outs.mono s7, by omega, Nat.le_refl _, run2⟩
        rw [decide_eq_false hno]
        refine iteF ⟨_, rfl, _, rfl, tk, _, _, _, rfl, rfl, SqL.of (X.sub _ _ gt'), atI_nat x1, p1, _, _, _, rfl, rfl, SqT.of (X.sub _ _ g1), rfl, rfl, _, rfl, ?_⟩
        rw [es]
        by_cases hop : t.1 = "("
        · rw [decide_eq_true hop]
          have run2 : RunStuck cols ev ts (o.length + 1) (a + 1) n := by
            cases run with
            | no h1 h2 _ => rw [hta] at h1; obtain rfl := Option.some.inj h1; exact absurd h2 hno
            | opn h1 h2 r => exact r
            | pl h1 h2 h3 => rw [hta] at h1; obtain rfl := Option.some.inj h1; exact absurd hop h3
            | fin h1 h2 h3 => rw [hta] at h1; obtain rfl := Option.some.inj h1; exact absurd hop h3
            | next h1 h2 h3 => rw [hta] at h1; obtain rfl := Option.some.inj h1; exact absurd hop h3
          refine iteT ⟨_, rfl, .inl ⟨rfl, _, SqL.of hlo'⟩, _, rfl, lo, ys, _, rfl, rfl, hlo', small_lt (by omega), ?_⟩
          refine ⟨_, rfl, ?_⟩
          exact ⟨a, G', em, Lv.zero ev, l :: o, ys ++ [.ref lv], v7, rfl, X.set lo0 glo, s5, upd_same, glo, lz.mono s5, .snoc outs hlv, by rw [List.length_append]; show _ + 1 ≤ _; omega, Nat.le_refl _, run2⟩
        rw [decide_eq_false hop]
        refine iteF ?_
        have view : PlainStuck (cols.map (·.1)) ts a n ∨ ∃ (f1 : Leaf → Int) (ks : List Leaf) (e1 e' o' : Nat) (u : Tok), PlainAt cols ev ts a f1 ks e1 ∧ CloseN ts o.length e1 o' e' ∧ ts[e']? = some u ∧
            ((u.1 ≠ "or" ∧ u.1 ≠ "and" ∧ (o' ≠ 0 ∨ u.1 ≠ "") ∧ n = u.2) ∨ ((u.1 = "or" ∨ u.1 = "and") ∧ RunStuck cols ev ts o' (e' + 1) n)) := by
          cases run with
          | no h1 h2 _ => rw [hta] at h1; obtain rfl := Option.some.inj h1; exact absurd h2 hno
          | opn h1 h2 _ => rw [hta] at h1; obtain rfl := Option.some.inj h1; exact absurd h2 hop
          | pl h1 h2 h3 h4 => exact .inl h4
          | fin h1 h2 h3 h4 h5 h6 h7 h8 h9 =>
            obtain ⟨f1, ks, h4⟩ := h4
            exact .inr ⟨f1, ks, _, _, _, _, h4, h5, h6, .inl ⟨h7, h8, h9, rfl⟩⟩
          | next h1 h2 h3 h4 h5 h6 h7 h8 =>
            obtain ⟨f1, ks, h4⟩ := h4
            exact .inr ⟨f1, ks, _, _, _, _, h4, h5, h6, .inr ⟨h7, h8⟩⟩
        rcases view with st | ⟨f1, ks, e1, e', o', u, pl, cl, hu, fin⟩
        · exact ⟨_, rfl, _, rfl, _, rfl, _, rfl, .inr ⟨tk, x, a, n, ev, ts, cols, G', rfl, ht.mono X.gg, tab.mono X.gg, good, st, X.sub, fail.mono X⟩⟩
        obtain ⟨cl1, cl2, cl3⟩ := cl.len
        refine ⟨_, rfl, _, rfl, _, rfl, _, rfl, .inl ⟨tk, x, a, e1, ev, ts, f1, ks, cols, G', rfl, ht.mono X.gg, tab.mono X.gg, good, pl, X.sub, fun pv m H1 G1 X1' got hm hks => ?_⟩⟩
        obtain ⟨pt, dd, rfl, hpt, hmn⟩ := got
        refine ⟨pt, _, rfl, SqT.of (X1'.sub _ _ hpt), rfl, _, _, rfl, _, _, rfl, rfl, ?_⟩
        have kS : ∀ k ∈ m.map (·.1), k ∈ keysOf ts := by rw [hks]; exact plain_keys pl
        have len1 := (q3.mono X1'.gg).short q7
        have len2 := hmn.short kS
        refine ⟨_, rfl, _, rfl, _, rfl, lv, dd, ev, m1, n1, m, l.n, G1, rfl, ⟨dp, da_, X1'.gg _ _ q1, q2.mono X1'.gg, q3.mono X1'.gg⟩, hmn, by omega, X1'.sub, fun lv3 r3 H3 G3 X3' lev3 hl3 hv3 hk3 => ?_⟩
        have lat3 : LvAt P w (keysOf ts) G3 lv3 (l.withA ev f1) := by
          refine ⟨m1, r3, lev3, q4, fun j => ?_, q6, fun j hj => ?_⟩
          · rw [hv3, q5, hm]; rfl
          · rcases (hk3 j).mp hj with z | z
            · exact q7 j z
            · exact kS j z
        have Xa := X1'.trans X3'
        have XX := X.trans Xa
        have hlo3 := Xa.hh lo _ (fun q => by cases q) hlo'
        have glo3 := Xa.non (ne_none_of hlo') glo
        have pe1 : a < e1 := plain_lt pl
        refine ⟨fun σ2 H2 => ∃ (G2 : Hp) (lv2 : Addr) (l2 : Lv) (o2 : List Lv) (ys2 : List V) (v72 : Option V), σ2 = [some (.ref tk), some (.ref x), some (.int ev), some (.ref em), some (.ref lo), some (.ref lv2), some (.int (e' : Int)), v72, none, none] ∧ Xt none H G H2 G2 ∧ Same G5 G2 ∧
          H2 lo = some (.lst ys2) ∧ G2 lo = none ∧ LvAt P w (keysOf ts) G2 lv2 l2 ∧ Outs P w (keysOf ts) G2 ys2 o2 ∧ o2.length = o' ∧ ys2.length ≤ e', ?_, ?_⟩
        · refine ⟨fun m' σ2 H2 => ∃ (a2 : Nat) (G2 : Hp) (lv2 : Addr) (l2 : Lv) (o2 : List Lv) (ys2 : List V), m' = o2.length ∧ σ2 = [some (.ref tk), some (.ref x), some (.int ev), some (.ref em), some (.ref lo), some (.ref lv2), some (.int (a2 : Int)), some (.ref dd), none, none] ∧ Xt none H G H2 G2 ∧ Same G5 G2 ∧
            H2 lo = some (.lst ys2) ∧ G2 lo = none ∧ LvAt P w (keysOf ts) G2 lv2 l2 ∧ Outs P w (keysOf ts) G2 ys2 o2 ∧ ys2.length ≤ a2 ∧ CloseN ts o2.length a2 o' e',
            ⟨_, e1, G3, lv3, l.withA ev f1, o, ys, rfl, rfl, XX, fun u o h => Xa.gg u o (s5 u o h), hlo3, glo3, lat3, outs.mono Xa.gg, by omega, cl⟩, ?_⟩
          rintro m' σ2 H2 ⟨a2, G2, lv2, l2, o2, ys2, rfl, rfl, X2, s2, h2, g2, hl2, ou2, y2, cl2_⟩
          have gt2 := X2.gg _ _ gt
          have da2 := da.mono X2.gg
          generalize eo : o2.length = on at cl2_
          cases cl2_ with
          | stop c1 c2 =>
            obtain ⟨p5, x5, _, g5⟩ := Toks.get gt2 da2 c1
            have done : ∃ (G2' : Hp) (lv2' : Addr) (l2' : Lv) (o2' : List Lv) (ys2' : List V) (v72 : Option V), [some (V.ref tk), some (V.ref x), some (V.int ev), some (V.ref em), some (V.ref lo), some (V.ref lv2), some (V.int (e' : Int)), some (V.ref dd), none, none] = [some (.ref tk), some (.ref x), some (.int ev), some (.ref em), some (.ref lo), some (.ref lv2'), some (.int (e' : Int)), v72, none, none] ∧ Xt none H G H2 G2' ∧ Same G5 G2' ∧
              H2 lo = some (.lst ys2') ∧ G2' lo = none ∧ LvAt P w (keysOf ts) G2' lv2' l2' ∧ Outs P w (keysOf ts) G2' ys2' o2' ∧ o2'.length = o' ∧ ys2'.length ≤ e' := ⟨G2, lv2, l2, o2, ys2, _, rfl, X2, s2, h2, g2, hl2, ou2, eo, y2⟩
            cases ou2 with
            | nil =>
              refine ⟨_, rfl, false, tru_lst (SqL.of h2) rfl, iteF (iteF ?_)⟩
              exact done
            | snoc oo ll =>
              have ct := c2.resolve_left (fun q => by rw [q] at eo; cases eo)
              refine ⟨_, rfl, true, tru_lst (SqL.of h2) (by simp), iteT ?_⟩
              refine ⟨_, rfl, _, rfl, tk, _, _, _, rfl, rfl, SqL.of (X2.sub _ _ gt2), atI_nat x5, p5, _, _, _, rfl, rfl, SqT.of (X2.sub _ _ g5), rfl, rfl, _, rfl, ?_⟩
              rw [es, decide_eq_false ct]
              exact iteF done
          | pop c1 c2 c3 =>
            obtain ⟨p5, x5, _, g5⟩ := Toks.get gt2 da2 c1
            cases ou2 with
            | nil => cases eo
            | snoc oo ll =>
              rename_i yo o3 lu ul
              have eo3 : o3.length = _ := Nat.succ.inj eo
              refine ⟨_, rfl, true, tru_lst (SqL.of h2) (by simp), iteT ?_⟩
              refine ⟨_, rfl, _, rfl, tk, _, _, _, rfl, rfl, SqL.of (X2.sub _ _ gt2), atI_nat x5, p5, _, _, _, rfl, rfl, SqT.of (X2.sub _ _ g5), rfl, rfl, _, rfl, ?_⟩
              rw [es, c2, decide_eq_true rfl]
              refine iteT ⟨_, fun σ' H' h => h, ?_⟩
              refine ⟨_, rfl, .inl ⟨rfl, _, SqL.of h2⟩, ?_⟩
              refine ⟨lo, yo ++ [.ref lu], .ref lu, rfl, rfl, h2, by simp, ?_⟩
              have X3 := X2.set (o := .lst (yo ++ [V.ref lu]).dropLast) lo0 g2
              have lo3 : upd H2 lo (.lst (yo ++ [V.ref lu]).dropLast) lo = some (.lst yo) := by rw [upd_same, List.dropLast_concat]
              have yo2 : yo.length ≤ a2 := by rw [List.length_append] at y2; omega
              obtain ⟨m5, n5, lev5, w4, w5, w6, w7⟩ := id hl2
              obtain ⟨dp5, da5, _, z2, z3⟩ := id lev5
              have sh1 := z2.short w6
              have sh2 := z3.short w7
              refine ⟨_, rfl, lv2, m5, n5, l2.n, G2, rfl, lev5, by omega, X3.sub, fun pw rw_ H7 G7 X7 hmw hlw hvw hkw => ?_⟩
              obtain ⟨m6, n6, ⟨dp6, da6, y1, y2', y3⟩, v4, v5, v6, v7⟩ := ll
              have kW : ∀ k ∈ rw_.map (·.1), k ∈ keysOf ts := fun j hj => by
                rcases (hkw j).mp hj with z | z
                · exact w6 j z
                · exact w7 j z
              have sh3 := (y3.mono X7.gg).short v7
              have sh4 := hmw.short kW
              refine ⟨_, rfl, lu, pw, ev, m6, n6, rw_, _, G7, rfl, ⟨dp6, da6, X7.gg _ _ y1, y2'.mono X7.gg, y3.mono X7.gg⟩, hmw, by omega, X7.sub, fun lv3 r3 H3 G3 X3' lev3 hl3 hv3 hk3 => ?_⟩
              have Xa := X7.trans X3'
              refine ⟨_, rfl, _, _, rfl, rfl, ?_⟩
              refine ⟨_, ?_, a2 + 1, G3, lv3, Lv.withA _ ev l2.whole, o3, yo, rfl, rfl, X3.trans Xa, fun u o h => Xa.gg u o (s2 u o h), Xa.hh lo _ (fun q => by cases q) lo3, Xa.non (ne_none_of lo3) g2, ⟨m6, r3, lev3, v4, fun j => ?_, v6, fun j hj => ?_⟩, oo.mono Xa.gg, by omega, by rw [eo3]; exact c3⟩
              · omega
              · rw [hv3, v5, hvw, w4, w5]; rfl
              · rcases (hk3 j).mp hj with z | z
                · exact v7 j z
                · exact kW j z
        · rintro σ2 H2 ⟨G2, lv2, l2, o2, ys2, v72, rfl, X2, s2, h2, g2, hl2, ou2, eo, y2⟩
          obtain ⟨p5, x5, _, g5⟩ := Toks.get (X2.gg _ _ gt) (da.mono X2.gg) hu
          have gt2 := X2.gg _ _ gt
          refine ⟨_, rfl, _, rfl, tk, _, _, _, rfl, rfl, SqL.of (X2.sub _ _ gt2), atI_nat x5, p5, _, _, _, rfl, rfl, SqT.of (X2.sub _ _ g5), rfl, rfl, _, rfl, ?_⟩
          rw [es]
          rcases fin with ⟨hu1, hu2, hu3, rfl⟩ | ⟨hu1 | hu1, run2⟩
          · rw [decide_eq_false hu1]
            refine iteF ⟨_, rfl, _, rfl, tk, _, _, _, rfl, rfl, SqL.of (X2.sub _ _ gt2), atI_nat x5, p5, _, _, _, rfl, rfl, SqT.of (X2.sub _ _ g5), rfl, rfl, _, rfl, ?_⟩
            rw [es, decide_eq_false hu2]
            refine iteT ⟨G2, lv2, e', ys2, v72, u, rfl, X2, h2, hu, rfl, ?_⟩
            rcases hu3 with q | q
            · refine .inl fun z => q ?_
              have := ou2.len
              rw [z] at this
              rw [← eo, ← this]; rfl
            · exact .inr q
          · rw [hu1, decide_eq_true rfl]
            obtain ⟨m5, n5, lev5, w4, w5, w6, w7⟩ := id hl2
            obtain ⟨dp5, da5, _, z2, z3⟩ := id lev5
            have sh1 := z2.short w6
            have sh2 := z3.short w7
            refine iteT ⟨_, rfl, lv2, m5, n5, l2.n, G2, rfl, lev5, by omega, X2.sub, fun pw rw_ H7 G7 X7 hmw hlw hvw hkw => ?_⟩
            refine fun d7 hd7 => ⟨_, rfl, upd_same, [(Leaf.none, .int ev)], rfl, (by show 1 ≤ 15; decide), d7, _, rfl, upd_same, True.intro, fun od7 => ?_⟩
            obtain ⟨X8, hm8⟩ := frz_end (P := P) (w := w) (m := [(Leaf.none, .int ev)]) (Xt.refl X7.sub) hd7 (mok_one ev) od7
            refine ⟨(by show 3 ≤ sizeLine; decide), fun q hq => ?_⟩
            have X9 := X8.alloc (o := .tup [.ref pw, .ref d7, .bl false]) hq
            have s9 := upd_same_ (o := .tup [.ref pw, .ref d7, .bl false]) (X8.sub.free hq)
            have Z := X7.trans X9
            refine ⟨e', _, q, ⟨l2.whole, fun _ => ev, false⟩, o2, ys2, _, rfl, X2.trans Z, fun u o h => Z.gg u o (s2 u o h), Z.hh lo _ (fun q => by cases q) h2, Z.non (ne_none_of h2) g2, ⟨rw_, _, ⟨pw, d7, upd_same, hmw.mono X9.gg, hm8.mono s9⟩, fun j => ?_, fun j => mv_one _ _, fun j hj => ?_, fun j hj => ?_⟩, ou2.mono Z.gg, by omega, by omega, by rw [eo]; exact run2⟩
            · rw [hvw, w4, w5]; rfl
            · rcases (hkw j).mp hj with z | z
              · exact w6 j z
              · exact w7 j z
            · rw [List.mem_singleton.mp hj]; exact nS
          · rw [hu1, decide_eq_false (by decide +kernel)]
            refine iteF ⟨_, rfl, _, rfl, tk, _, _, _, rfl, rfl, SqL.of (X2.sub _ _ gt2), atI_nat x5, p5, _, _, _, rfl, rfl, SqT.of (X2.sub _ _ g5), rfl, rfl, _, rfl, ?_⟩
            rw [es, hu1, decide_eq_true rfl]
            exact iteF ⟨e', G2, lv2, l2, o2, ys2, v72, rfl, X2, s2, h2, g2, hl2, ou2, by omega, by omega, by rw [eo]; exact run2⟩
      · rintro σ2 H2 ⟨a2, G2, lv2, l2, o2, ys2, v72, rfl, X2, s2, h2, g2, hl2, ou2, y2, le2, run2⟩
        refine ⟨_, rfl, _, _, rfl, rfl, ?_⟩
        refine ⟨_, ?_, a2 + 1, G2, lv2, l2, o2, ys2, v72, rfl, rfl, X2, s2, h2, g2, hl2, ou2, y2, run2⟩
        omega
    · rintro σ' H' ⟨G', lv, e, ys, v7, u, rfl, X, hlo', hu, rfl, bad⟩
      obtain ⟨p1, x1, d1', g1⟩ := Toks.get (X.gg _ _ gt) (da.mono X.gg) hu
      refine ⟨_, rfl, _, rfl, tk, _, _, _, rfl, rfl, SqL.of (X.sub _ _ (X.gg _ _ gt)), atI_nat x1, p1, _, rfl, SqT.of (X.sub _ _ g1), rfl, _, _, rfl, _, _, rfl, rfl, ?_⟩
      have gone : ∀ e he, spErrP CW _ _ _ _ := wt_go (fail.mono X) X.sub
      by_cases hy : ys = []
      · subst hy
        have hne := bad.resolve_left fun q => q rfl
        have tru : TruV K (.ref lo) H' false := tru_lst (SqL.of hlo') rfl
        refine ⟨_, rfl, false, tru, iteF ?_⟩
        refine ⟨_, rfl, rfl, _, rfl, ?_⟩
        rw [es, decide_eq_false hne]
        exact iteT ⟨_, rfl, (by show 1 ≤ 1000; decide), gone⟩
      · have tru : TruV K (.ref lo) H' true := tru_lst (SqL.of hlo') (by cases ys with | nil => exact absurd rfl hy | cons _ _ => rfl)
        exact ⟨_, rfl, true, tru, iteT ⟨_, rfl, (by show 1 ≤ 1000; decide), gone⟩⟩
end
end Nw
namespace Nw
open PySem L2 PySem.Spec PyProof.Rows RZ
/-! where a condition cannot go on: token by token, and as it is read -/
inductive S4 | atom | first | second | left | right | sign | word | done
  deriving DecidableEq
def nxt (cs : List Str) : S4 → Str → Nat → Option (S4 × Nat)
  | .atom, z, k => if z = "not" then some (.atom, k) else if z = "(" then some (.atom, k + 1) else if z = "true" then some (.done, k) else if z = "false" then some (.done, k) else if z = "name" then some (.sign, k) else if isTermB cs z = true then some (.left, k) else none
  | .first, z, k => if isTermB cs z = true then some (.left, k) else none
  | .second, z, k => if isTermB cs z = true then some (.right, k) else none
  | .sign, z, k => if z = "=" ∨ z = "!=" then some (.word, k) else none
  | .word, z, k => if isWordS z = true then some (.done, k) else none
  | .left, z, k => if z = "+" ∨ z = "-" then some (.first, k) else if z ∈ SIG then some (.second, k) else none
  | .right, z, k => if z = "+" ∨ z = "-" then some (.second, k) else if z = "and" ∨ z = "or" then some (.atom, k) else if z = ")" ∧ 0 < k then some (.done, k - 1) else none
  | .done, z, k => if z = "and" ∨ z = "or" then some (.atom, k) else if z = ")" ∧ 0 < k then some (.done, k - 1) else none
def stuckL (cs : List Str) : List Tok → S4 → Nat → Option Nat
  | [], _, _ => none
  | [t], st, k => if (st = .right ∨ st = .done) ∧ k = 0 then none else some t.2
  | t :: t' :: ts, st, k => match nxt cs st t.1 k with
    | none => some t.2
    | some (s, k') => stuckL cs (t' :: ts) s k'
/-- tokens: the last one, and it alone, is empty -/
structure Wf (ts : List Tok) : Prop where
  pos : 0 < ts.length
  last : ∀ (a : Nat) (t : Tok), ts[a]? = some t → (t.1 = "" ↔ a + 1 = ts.length)
section
variable {cs : List Str} {ts : List Tok}
theorem Wf.at {a : Nat} (W : Wf ts) (h : a < ts.length) : ∃ t, ts[a]? = some t := ⟨_, List.getElem?_eq_getElem h⟩
theorem Wf.lt {a : Nat} {t : Tok} (W : Wf ts) (h : ts[a]? = some t) (ne : t.1 ≠ "") : a + 1 < ts.length := by
  have l := (List.getElem?_eq_some_iff.mp h).1
  have n : ¬ a + 1 = ts.length := fun q => ne ((W.last a t h).mpr q)
  omega
theorem nxt_atom {z : Str} {k : Nat} : nxt cs .atom z k = if z = "not" then some (.atom, k) else if z = "(" then some (.atom, k + 1) else if z = "true" then some (.done, k) else if z = "false" then some (.done, k) else if z = "name" then some (.sign, k) else if isTermB cs z = true then some (.left, k) else none := rfl
theorem nxt_left {z : Str} {k : Nat} : nxt cs .left z k = if z = "+" ∨ z = "-" then some (.first, k) else if z ∈ SIG then some (.second, k) else none := rfl
theorem nxt_right {z : Str} {k : Nat} : nxt cs .right z k = if z = "+" ∨ z = "-" then some (.second, k) else if z = "and" ∨ z = "or" then some (.atom, k) else if z = ")" ∧ 0 < k then some (.done, k - 1) else none := rfl
theorem nxt_done {z : Str} {k : Nat} : nxt cs .done z k = if z = "and" ∨ z = "or" then some (.atom, k) else if z = ")" ∧ 0 < k then some (.done, k - 1) else none := rfl
theorem drop_at {a : Nat} {t : Tok} (h : ts[a]? = some t) : ts.drop a = t :: ts.drop (a + 1) := by
  obtain ⟨h1, h2⟩ := List.getElem?_eq_some_iff.mp h
  rw [List.drop_eq_getElem_cons h1, h2]
theorem stuck_last {a : Nat} {t : Tok} {st : S4} {k : Nat} (h : ts[a]? = some t) (l : a + 1 = ts.length) : stuckL cs (ts.drop a) st k = if (st = .right ∨ st = .done) ∧ k = 0 then none else some t.2 := by
  rw [drop_at h, List.drop_eq_nil_of_le (by omega)]
  rfl
theorem stuck_no {a : Nat} {t : Tok} {st : S4} {k : Nat} (h : ts[a]? = some t) (l : a + 1 < ts.length) (n : nxt cs st t.1 k = none) : stuckL cs (ts.drop a) st k = some t.2 := by
  obtain ⟨t', h'⟩ : ∃ t', ts[a + 1]? = some t' := ⟨_, List.getElem?_eq_getElem l⟩
  rw [drop_at h, drop_at h']
  show (match nxt cs st t.1 k with | none => some t.2 | some (s, k') => stuckL cs _ s k') = _
  rw [n]
theorem stuck_go {a : Nat} {t : Tok} {st st' : S4} {k k' : Nat} (h : ts[a]? = some t) (l : a + 1 < ts.length) (n : nxt cs st t.1 k = some (st', k')) : stuckL cs (ts.drop a) st k = stuckL cs (ts.drop (a + 1)) st' k' := by
  obtain ⟨t', h'⟩ : ∃ t', ts[a + 1]? = some t' := ⟨_, List.getElem?_eq_getElem l⟩
  rw [drop_at h, drop_at h']
  show (match nxt cs st t.1 k with | none => some t.2 | some (s, k') => stuckL cs _ s k') = _
  rw [n]
theorem num_some {z : Str} (h : isNum z = true) : ∃ n, PySem.intText? z = some n ∧ n.natAbs < 1000000 := by
  unfold isNum at h
  simp only [Bool.and_eq_true, decide_eq_true_eq] at h
  obtain ⟨⟨⟨h1, h2⟩, _⟩, h4⟩ := h
  obtain ⟨c⟩ := z
  obtain ⟨l⟩ := c
  have h1 : 1 ≤ l.length := h1
  have h2 : l.length ≤ 3 := h2
  have h4 : ∀ x ∈ l, x ∈ DIG.cps.toList := fun x hx => of_decide_eq_true (List.all_eq_true.mp h4 x hx)
  have one : ∀ a ∈ DIG.cps.toList, ((PySem.intText? (⟨⟨[a]⟩⟩ : Str)).elim false fun n => decide (n.natAbs < 1000000)) = true := by decide +kernel
  have two : ∀ a ∈ DIG.cps.toList, ∀ b ∈ DIG.cps.toList, ((PySem.intText? (⟨⟨[a, b]⟩⟩ : Str)).elim false fun n => decide (n.natAbs < 1000000)) = true := by decide +kernel
  have three : ∀ a ∈ DIG.cps.toList, ∀ b ∈ DIG.cps.toList, ∀ c ∈ DIG.cps.toList, ((PySem.intText? (⟨⟨[a, b, c]⟩⟩ : Str)).elim false fun n => decide (n.natAbs < 1000000)) = true := by decide +kernel
  have got : ((PySem.intText? (⟨⟨l⟩⟩ : Str)).elim false fun n => decide (n.natAbs < 1000000)) = true := by
    match l, h1, h2, h4 with
    | [a], _, _, h => exact one a (h a (by simp))
    | [a, b], _, _, h => exact two a (h a (by simp)) b (h b (by simp))
    | [a, b, c], _, _, h => exact three a (h a (by simp)) b (h b (by simp)) c (h c (by simp))
  cases e : PySem.intText? (⟨⟨l⟩⟩ : Str) with
  | none => rw [e] at got; cases got
  | some n => rw [e] at got; exact ⟨n, rfl, of_decide_eq_true got⟩
theorem first_at {α : Type} [DecidableEq α] {x : α} : ∀ {l : List α}, x ∈ l → ∃ j : Nat, l[j]? = some x ∧ ∀ m : Nat, m < j → l[m]? ≠ some x
  | [], h => by cases h
  | a :: l, h => by
    by_cases e : a = x
    · exact ⟨0, by rw [e]; rfl, fun m hm => by omega⟩
    · obtain ⟨j, h1, h2⟩ := first_at (l := l) ((List.mem_cons.mp h).resolve_left fun q => e q.symm)
      refine ⟨j + 1, h1, fun m hm => ?_⟩
      cases m with
      | zero => exact fun q => e (Option.some.inj q)
      | succ m => exact h2 m (by omega)
theorem term_of {z : Str} (h : isTermB cs z = true) : ∃ v : Term, termOK cs z v ∧ v.1.natAbs < 1000000 := by
  cases hn : isNum z with
  | true =>
    obtain ⟨n, h1, h2⟩ := num_some hn
    exact ⟨(n, none), .inl ⟨hn, n, h1, rfl⟩, h2⟩
  | false =>
    unfold isTermB at h
    rw [hn, Bool.false_or] at h
    obtain ⟨j, h1, h2⟩ := first_at (of_decide_eq_true h)
    exact ⟨(1, some j), .inr ⟨hn, j, h1, h2, rfl⟩, by show (1 : Nat) < 1000000; decide⟩
theorem num_nil : isNum "" = false := by decide +kernel
theorem word_nil : isWordS "" = false := by decide +kernel
/-- behind a term: more of the sum, or it breaks off -/
theorem more_dec (W : Wf ts) (nt : isTermB cs "" = false) {R S : S4} (go1 : ∀ (z : Str) (k : Nat), (z = "+" ∨ z = "-") → nxt cs R z k = some (S, k)) (go2 : ∀ (z : Str) (k : Nat), isTermB cs z = true → nxt cs S z k = some (R, k)) (go3 : ∀ (z : Str) (k : Nat), isTermB cs z = false → nxt cs S z k = none) (nS : ¬ (S = .right ∨ S = .done)) :
    ∀ (m e : Nat), ts.length - e ≤ m → e < ts.length →
      (∃ n, MoreStuck cs ts e n ∧ ∀ k, stuckL cs (ts.drop e) R k = some n) ∨
      ∃ r e', More cs ts e r e' ∧ e ≤ e' ∧ e' < ts.length ∧ (∀ t, ts[e']? = some t → t.1 ≠ "+" ∧ t.1 ≠ "-") ∧ ∀ k, stuckL cs (ts.drop e) R k = stuckL cs (ts.drop e') R k
  | 0, e, hm, he => by omega
  | m + 1, e, hm, he => by
    obtain ⟨s, hs⟩ := W.at he
    by_cases pm : s.1 = "+" ∨ s.1 = "-"
    · have ne : s.1 ≠ "" := by rcases pm with q | q <;> rw [q] <;> decide +kernel
      have l1 : e + 1 < ts.length := by
        exact W.lt (by assumption) ne
      obtain ⟨t, ht⟩ := W.at l1
      have st1 : ∀ k, stuckL cs (ts.drop e) R k = stuckL cs (ts.drop (e + 1)) S k := fun k => stuck_go hs l1 (go1 _ _ pm)
      cases tm : isTermB cs t.1 with
      | false =>
        refine .inl ⟨t.2, .here hs pm ht tm, fun k => ?_⟩
        rw [st1]
        by_cases l2 : e + 1 + 1 = ts.length
        · rw [stuck_last ht l2, if_neg fun q => nS q.1]
        · exact stuck_no ht (by omega) (go3 _ _ tm)
      | true =>
        have l2 : e + 1 + 1 < ts.length := by
          have : t.1 ≠ "" := fun q => by rw [q, nt] at tm; cases tm
          exact W.lt (by assumption) this
        obtain ⟨v, hv, vb⟩ := term_of tm
        have st2 : ∀ k, stuckL cs (ts.drop e) R k = stuckL cs (ts.drop (e + 2)) R k := fun k => (st1 k).trans (stuck_go ht l2 (go2 _ _ tm))
        rcases more_dec W nt go1 go2 go3 nS m (e + 2) (by omega) l2 with ⟨n, h1, h2⟩ | ⟨r, e', h1, h2, h3, h4, h5⟩
        · exact .inl ⟨n, .step hs pm ht hv vb h1, fun k => (st2 k).trans (h2 k)⟩
        · refine .inr ?_
          rcases pm with q | q
          · exact ⟨v :: r, e', .plus hs q ht hv vb h1, by omega, h3, h4, fun k => (st2 k).trans (h5 k)⟩
          · exact ⟨neg v :: r, e', .minus hs q ht hv vb h1, by omega, h3, h4, fun k => (st2 k).trans (h5 k)⟩
    · have np := not_or.mp pm
      exact .inr ⟨[], e, .stop hs np.1 np.2, Nat.le_refl _, he, fun t ht => by rw [hs] at ht; obtain rfl := Option.some.inj ht; exact np, fun k => rfl⟩
theorem sum_dec (W : Wf ts) (nt : isTermB cs "" = false) {R S I : S4} (go1 : ∀ (z : Str) (k : Nat), (z = "+" ∨ z = "-") → nxt cs R z k = some (S, k)) (go2 : ∀ (z : Str) (k : Nat), isTermB cs z = true → nxt cs S z k = some (R, k)) (go3 : ∀ (z : Str) (k : Nat), isTermB cs z = false → nxt cs S z k = none) (nS : ¬ (S = .right ∨ S = .done)) (nI : ¬ (I = .right ∨ I = .done))
    {a : Nat} {t : Tok} (ht : ts[a]? = some t) (i1 : ∀ k, isTermB cs t.1 = true → nxt cs I t.1 k = some (R, k)) (i2 : ∀ k, isTermB cs t.1 = false → nxt cs I t.1 k = none) :
      (∃ n, SumStuck cs ts a n ∧ ∀ k, stuckL cs (ts.drop a) I k = some n) ∨
      ∃ r e', SumAt cs ts a r e' ∧ a < e' ∧ e' < ts.length ∧ (∀ t, ts[e']? = some t → t.1 ≠ "+" ∧ t.1 ≠ "-") ∧ ∀ k, stuckL cs (ts.drop a) I k = stuckL cs (ts.drop e') R k := by
  have la : a < ts.length := (List.getElem?_eq_some_iff.mp ht).1
  cases tm : isTermB cs t.1 with
  | false =>
    refine .inl ⟨t.2, .here ht tm, fun k => ?_⟩
    by_cases l2 : a + 1 = ts.length
    · rw [stuck_last ht l2, if_neg fun q => nI q.1]
    · exact stuck_no ht (by omega) (i2 _ tm)
  | true =>
    have l2 : a + 1 < ts.length := by
      have : t.1 ≠ "" := fun q => by rw [q, nt] at tm; cases tm
      exact W.lt (by assumption) this
    obtain ⟨v, hv, vb⟩ := term_of tm
    have st : ∀ k, stuckL cs (ts.drop a) I k = stuckL cs (ts.drop (a + 1)) R k := fun k => stuck_go ht l2 (i1 _ tm)
    rcases more_dec W nt go1 go2 go3 nS ts.length (a + 1) (by omega) l2 with ⟨n, h1, h2⟩ | ⟨r, e', h1, h2, h3, h4, h5⟩
    · exact .inl ⟨n, .more ht hv vb h1, fun k => (st k).trans (h2 k)⟩
    · exact .inr ⟨v :: r, e', ⟨t, v, r, rfl, ht, hv, vb, h1⟩, by omega, h3, h4, fun k => (st k).trans (h5 k)⟩
end
section
variable {cols : List Col} {ts : List Tok} {ev : Int}
theorem SIG_in {z : Str} : z ∈ SIG ↔ z = "=" ∨ z = "!=" ∨ z = "<" ∨ z = "<=" ∨ z = ">" ∨ z = ">=" := by
  simp only [SIG, List.mem_cons, List.mem_nil_iff, or_false]
/-- an atom without not and brackets -/
theorem plain_dec (W : Wf ts) (nt : isTermB (cols.map (·.1)) "" = false) {a : Nat} {t : Tok} (ht : ts[a]? = some t) (n1 : t.1 ≠ "not") (n2 : t.1 ≠ "(") :
    (∃ n, PlainStuck (cols.map (·.1)) ts a n ∧ ∀ k, stuckL (cols.map (·.1)) (ts.drop a) .atom k = some n) ∨
    ∃ e st, PlainE cols ev ts a e ∧ a < e ∧ e < ts.length ∧ ((st = .right ∧ ∀ t, ts[e]? = some t → t.1 ≠ "+" ∧ t.1 ≠ "-") ∨ st = .done) ∧ ∀ k, stuckL (cols.map (·.1)) (ts.drop a) .atom k = stuckL (cols.map (·.1)) (ts.drop e) st k := by
  have la : a < ts.length := (List.getElem?_eq_some_iff.mp ht).1
  have nl : t.1 ≠ "" → a + 1 < ts.length := fun q => by
    exact W.lt (by assumption) q
  by_cases e1 : t.1 = "true"
  · have l1 := nl (by rw [e1]; decide +kernel)
    refine .inr ⟨a + 1, .done, ⟨_, _, .tru ht e1⟩, by omega, l1, .inr rfl, fun k => stuck_go ht l1 ?_⟩
    rw [e1, nxt_atom, if_neg (by decide +kernel), if_neg (by decide +kernel), if_pos rfl]
  by_cases e2 : t.1 = "false"
  · have l1 := nl (by rw [e2]; decide +kernel)
    refine .inr ⟨a + 1, .done, ⟨_, _, .fls ht e2⟩, by omega, l1, .inr rfl, fun k => stuck_go ht l1 ?_⟩
    rw [e2, nxt_atom, if_neg (by decide +kernel), if_neg (by decide +kernel), if_neg (by decide +kernel), if_pos rfl]
  by_cases e3 : t.1 = "name"
  · have l1 := nl (by rw [e3]; decide +kernel)
    obtain ⟨s, hs⟩ := W.at l1
    have st1 : ∀ k, stuckL (cols.map (·.1)) (ts.drop a) .atom k = stuckL (cols.map (·.1)) (ts.drop (a + 1)) .sign k := fun k => stuck_go ht l1 (by
      rw [e3, nxt_atom, if_neg (by decide +kernel), if_neg (by decide +kernel), if_neg (by decide +kernel), if_neg (by decide +kernel), if_pos rfl])
    by_cases es : s.1 = "=" ∨ s.1 = "!="
    · have l2 : a + 1 + 1 < ts.length := by
        have : s.1 ≠ "" := by rcases es with q | q <;> rw [q] <;> decide +kernel
        exact W.lt (by assumption) this
      obtain ⟨w, hw⟩ := W.at l2
      have st2 : ∀ k, stuckL (cols.map (·.1)) (ts.drop a) .atom k = stuckL (cols.map (·.1)) (ts.drop (a + 1 + 1)) .word k := fun k => (st1 k).trans (stuck_go hs l2 (if_pos es))
      cases ww : isWordS w.1 with
      | false =>
        refine .inl ⟨w.2, .nam ht e3 (.word hs es hw ww), fun k => (st2 k).trans ?_⟩
        by_cases l3 : a + 1 + 1 + 1 = ts.length
        · rw [stuck_last hw l3, if_neg (fun q => by rcases q.1 with h | h <;> cases h)]
        · exact stuck_no hw (by omega) (if_neg (by rw [ww]; decide))
      | true =>
        have l3 : a + 1 + 1 + 1 < ts.length := by
          have : w.1 ≠ "" := fun q => by rw [q, word_nil] at ww; cases ww
          exact W.lt (by assumption) this
        exact .inr ⟨a + 3, .done, ⟨_, _, .nam ht e3 hs es hw ww⟩, by omega, l3, .inr rfl, fun k => (st2 k).trans (stuck_go hw l3 (if_pos ww))⟩
    · refine .inl ⟨s.2, .nam ht e3 (.sign hs (not_or.mp es).1 (not_or.mp es).2), fun k => (st1 k).trans ?_⟩
      by_cases l2 : a + 1 + 1 = ts.length
      · rw [stuck_last hs l2, if_neg (fun q => by rcases q.1 with h | h <;> cases h)]
      · exact stuck_no hs (by omega) (if_neg es)
  have atom_ : ∀ k, nxt (cols.map (·.1)) .atom t.1 k = if isTermB (cols.map (·.1)) t.1 = true then some (.left, k) else none := fun k => by
    rw [nxt_atom, if_neg n1, if_neg n2, if_neg e1, if_neg e2, if_neg e3]
  have F1 : ∀ (z : Str) (k : Nat), (z = "+" ∨ z = "-") → nxt (cols.map (·.1)) .left z k = some (.first, k) := fun z k h => if_pos h
  have F2 : ∀ (z : Str) (k : Nat), isTermB (cols.map (·.1)) z = true → nxt (cols.map (·.1)) .first z k = some (.left, k) := fun z k h => if_pos h
  have F3 : ∀ (z : Str) (k : Nat), isTermB (cols.map (·.1)) z = false → nxt (cols.map (·.1)) .first z k = none := fun z k h => if_neg (by rw [h]; decide)
  have G1 : ∀ (z : Str) (k : Nat), (z = "+" ∨ z = "-") → nxt (cols.map (·.1)) .right z k = some (.second, k) := fun z k h => if_pos h
  have G2 : ∀ (z : Str) (k : Nat), isTermB (cols.map (·.1)) z = true → nxt (cols.map (·.1)) .second z k = some (.right, k) := fun z k h => if_pos h
  have G3 : ∀ (z : Str) (k : Nat), isTermB (cols.map (·.1)) z = false → nxt (cols.map (·.1)) .second z k = none := fun z k h => if_neg (by rw [h]; decide)
  rcases sum_dec W nt F1 F2 F3 (by decide) (I := .atom) (by decide) ht (fun k h => by rw [atom_, if_pos h]) (fun k h => by rw [atom_, if_neg (by rw [h]; decide)]) with ⟨n, h1, h2⟩ | ⟨l, e, h1, h2, h3, h4, h5⟩
  · exact .inl ⟨n, .cmp ht e1 e2 e3 (.left h1), h2⟩
  obtain ⟨s, hs⟩ := W.at h3
  have pm := h4 s hs
  by_cases si : s.1 ∈ SIG
  · have l2 : e + 1 < ts.length := by
      have : s.1 ≠ "" := fun q => by rw [q] at si; exact absurd si (by decide +kernel)
      exact W.lt (by assumption) this
    obtain ⟨u, hu⟩ := W.at l2
    have st : ∀ k, stuckL (cols.map (·.1)) (ts.drop a) .atom k = stuckL (cols.map (·.1)) (ts.drop (e + 1)) .second k := fun k => (h5 k).trans (stuck_go hs l2 (by
      rw [nxt_left, if_neg (by exact fun q => q.elim pm.1 pm.2), if_pos si]))
    rcases sum_dec W nt G1 G2 G3 (by decide) (I := .second) (by decide) hu (fun k h => G2 _ k h) (fun k h => G3 _ k h) with ⟨n, g1, g2⟩ | ⟨r, e', g1, g2, g3, g4, g5⟩
    · exact .inl ⟨n, .cmp ht e1 e2 e3 (.right h1 hs si g1), fun k => (st k).trans (g2 k)⟩
    · exact .inr ⟨e', .right, ⟨_, _, .cmp ht e1 e2 e3 h1 hs si g1⟩, by omega, g3, .inl ⟨rfl, g4⟩, fun k => (st k).trans (g5 k)⟩
  · refine .inl ⟨s.2, .cmp ht e1 e2 e3 (.sign h1 hs si), fun k => (h5 k).trans ?_⟩
    by_cases l2 : e + 1 = ts.length
    · rw [stuck_last hs l2, if_neg (fun q => by rcases q.1 with h | h <;> cases h)]
    · refine stuck_no hs (by omega) ?_
      rw [nxt_left, if_neg (by exact fun q => q.elim pm.1 pm.2), if_neg si]
/-- behind an atom: brackets that close -/
theorem close_dec (W : Wf ts) {cs : List Str} : ∀ (m e : Nat) (st : S4) (k : Nat), ts.length - e ≤ m → e < ts.length → ((st = .right ∧ ∀ t, ts[e]? = some t → t.1 ≠ "+" ∧ t.1 ≠ "-") ∨ st = .done) →
    ∃ o' e' st', CloseN ts k e o' e' ∧ e ≤ e' ∧ e' < ts.length ∧ ((st' = .right ∧ ∀ t, ts[e']? = some t → t.1 ≠ "+" ∧ t.1 ≠ "-") ∨ st' = .done) ∧ (∀ t, ts[e']? = some t → o' = 0 ∨ t.1 ≠ ")") ∧ stuckL cs (ts.drop e) st k = stuckL cs (ts.drop e') st' o' ∧
      ∀ (os : List Lv) (l : Lv), os.length = k → ∃ o'' l', Close ev ts os l e o'' l' e' ∧ o''.length = o'
  | 0, e, st, k, hm, he, _ => by omega
  | m + 1, e, st, k, hm, he, hst => by
    obtain ⟨t, ht⟩ := W.at he
    by_cases c : t.1 = ")" ∧ 0 < k
    · have l1 : e + 1 < ts.length := by
        have : t.1 ≠ "" := by rw [c.1]; decide +kernel
        exact W.lt (by assumption) this
      obtain ⟨k, rfl⟩ : ∃ j, k = j + 1 := ⟨k - 1, by omega⟩
      have step : stuckL cs (ts.drop e) st (k + 1) = stuckL cs (ts.drop (e + 1)) .done k := by
        refine stuck_go ht l1 ?_
        rcases hst with ⟨rfl, _⟩ | rfl
        · rw [c.1, nxt_right, if_neg (by decide +kernel), if_neg (by decide +kernel), if_pos ⟨rfl, by omega⟩]; rfl
        · rw [c.1, nxt_done, if_neg (by decide +kernel), if_pos ⟨rfl, by omega⟩]; rfl
      obtain ⟨o', e', st', h1, h2, h3, h4, h5, h6, h7⟩ := close_dec W (cs := cs) m (e + 1) .done k (by omega) l1 (.inr rfl)
      refine ⟨o', e', st', .pop ht c.1 h1, by omega, h3, h4, h5, step.trans h6, fun os l ho => ?_⟩
      cases os with
      | nil => cases ho
      | cons u os =>
        obtain ⟨o'', l', g1, g2⟩ := h7 os (u.withA ev l.whole) (Nat.succ.inj ho)
        exact ⟨o'', l', .pop ht c.1 g1, g2⟩
    · have stop : k = 0 ∨ t.1 ≠ ")" := by
        by_cases q : k = 0
        · exact .inl q
        · exact .inr fun z => c ⟨z, by omega⟩
      refine ⟨k, e, st, .stop ht stop, Nat.le_refl _, he, hst, fun t' ht' => ?_, rfl, fun os l ho => ⟨os, l, .stop ht ?_, ho⟩⟩
      · rw [ht] at ht'; obtain rfl := Option.some.inj ht'; exact stop
      · exact stop.imp (fun q => List.length_eq_zero_iff.mp (ho.trans q)) id
/-- the whole: what stops it, token by token, is what stops the reader -/
theorem run_dec (W : Wf ts) (nt : isTermB (cols.map (·.1)) "" = false) : ∀ (m a k : Nat), ts.length - a ≤ m → a < ts.length →
    (stuckL (cols.map (·.1)) (ts.drop a) .atom k = none → ∀ (os : List Lv) (l : Lv), os.length = k → ∃ f e, Run cols ev ts os l a f e) ∧ (∀ n, stuckL (cols.map (·.1)) (ts.drop a) .atom k = some n → RunStuck cols ev ts k a n)
  | 0, a, k, hm, ha => by omega
  | m + 1, a, k, hm, ha => by
    obtain ⟨t, ht⟩ := W.at ha
    have nl : t.1 ≠ "" → a + 1 < ts.length := fun q => by
      exact W.lt (by assumption) q
    by_cases e1 : t.1 = "not"
    · have l1 := nl (by rw [e1]; decide +kernel)
      have st : stuckL (cols.map (·.1)) (ts.drop a) .atom k = stuckL (cols.map (·.1)) (ts.drop (a + 1)) .atom k := stuck_go ht l1 (if_pos e1)
      obtain ⟨h1, h2⟩ := run_dec W nt m (a + 1) k (by omega) l1
      rw [st]
      refine ⟨fun h os l ho => ?_, fun n h => .no ht e1 (h2 n h)⟩
      obtain ⟨f, e, r⟩ := h1 h os ⟨l.p, l.a, !l.n⟩ ho
      exact ⟨f, e, .no ht e1 r⟩
    by_cases e2 : t.1 = "("
    · have l1 := nl (by rw [e2]; decide +kernel)
      have st : stuckL (cols.map (·.1)) (ts.drop a) .atom k = stuckL (cols.map (·.1)) (ts.drop (a + 1)) .atom (k + 1) := stuck_go ht l1 (by
        rw [nxt_atom, if_neg e1, if_pos e2])
      obtain ⟨h1, h2⟩ := run_dec W nt m (a + 1) (k + 1) (by omega) l1
      rw [st]
      refine ⟨fun h os l ho => ?_, fun n h => .opn ht e2 (h2 n h)⟩
      obtain ⟨f, e, r⟩ := h1 h (l :: os) (Lv.zero ev) (by rw [List.length_cons, ho])
      exact ⟨f, e, .opn ht e2 r⟩
    rcases plain_dec (ev := ev) W nt ht e1 e2 with ⟨n, h1, h2⟩ | ⟨e, st, h1, h2, h3, h4, h5⟩
    · rw [h2]
      exact ⟨(fun h => by cases h), (fun n' h => by obtain rfl := Option.some.inj h; exact .pl ht e1 e2 h1)⟩
    obtain ⟨o', e', st', c1, c2, c3, c4, c5, c6, c7⟩ := close_dec (ev := ev) W (cs := cols.map (·.1)) ts.length e st k (by omega) h3 h4
    rw [h5, c6]
    obtain ⟨u, hu⟩ := W.at c3
    have stp := c5 u hu
    have fin : ∀ (f : Leaf → Int) (ks : List Leaf), PlainAt cols ev ts a f ks e → u.1 = "" → o' = 0 → ∀ (os : List Lv) (l : Lv), os.length = k → ∃ f e, Run cols ev ts os l a f e := by
      intro f ks pl ue oe os l ho
      obtain ⟨o'', l', g1, g2⟩ := c7 os (l.withA ev f) ho
      have : o'' = [] := List.length_eq_zero_iff.mp (g2.trans oe)
      subst this
      exact ⟨_, _, .fin ht e1 e2 pl g1 hu ue⟩
    by_cases lu : e' + 1 = ts.length
    · have ue : u.1 = "" := (W.last _ _ hu).mpr lu
      rw [stuck_last hu lu]
      have std : st' = .right ∨ st' = .done := c4.imp (·.1) id
      by_cases oe : o' = 0
      · rw [if_pos ⟨std, oe⟩]
        obtain ⟨f, ks, pl⟩ := h1
        exact ⟨(fun _ => fin f ks pl ue oe), (fun n h => by cases h)⟩
      · rw [if_neg fun q => oe q.2]
        refine ⟨(fun h => by cases h), fun n h => ?_⟩
        obtain rfl := Option.some.inj h
        exact .fin ht e1 e2 h1 c1 hu (by rw [ue]; decide +kernel) (by rw [ue]; decide +kernel) (.inl oe)
    · have l2 : e' + 1 < ts.length := by omega
      have une : u.1 ≠ "" := fun q => lu ((W.last _ _ hu).mp q)
      by_cases ao : u.1 = "and" ∨ u.1 = "or"
      · have go : stuckL (cols.map (·.1)) (ts.drop e') st' o' = stuckL (cols.map (·.1)) (ts.drop (e' + 1)) .atom o' := by
          refine stuck_go hu l2 ?_
          rcases c4 with ⟨rfl, pm⟩ | rfl
          · rw [nxt_right, if_neg (by exact fun q => q.elim (pm u hu).1 (pm u hu).2), if_pos ao]
          · exact if_pos ao
        obtain ⟨g1, g2⟩ := run_dec W nt m (e' + 1) o' (by omega) l2
        rw [go]
        refine ⟨fun h os l ho => ?_, fun n h => .next ht e1 e2 h1 c1 hu ao.symm (g2 n h)⟩
        obtain ⟨f, ks, pl⟩ := h1
        obtain ⟨o'', l', q1, q2⟩ := c7 os (l.withA ev f) ho
        rcases ao with q | q
        · obtain ⟨g, e2', r⟩ := g1 h o'' l' q2
          exact ⟨g, e2', .and ht e1 e2 pl q1 hu q r⟩
        · obtain ⟨g, e2', r⟩ := g1 h o'' ⟨l'.whole, fun _ => ev, false⟩ q2
          exact ⟨g, e2', .or ht e1 e2 pl q1 hu q r⟩
      · have no : stuckL (cols.map (·.1)) (ts.drop e') st' o' = some u.2 := by
          refine stuck_no hu l2 ?_
          have nc : ¬ (u.1 = ")" ∧ 0 < o') := fun q => stp.elim (fun z => by omega) fun z => z q.1
          rcases c4 with ⟨rfl, pm⟩ | rfl
          · rw [nxt_right, if_neg (by exact fun q => q.elim (pm u hu).1 (pm u hu).2), if_neg ao, if_neg nc]
          · rw [nxt_done, if_neg ao, if_neg nc]
        rw [no]
        refine ⟨(fun h => by cases h), fun n h => ?_⟩
        obtain rfl := Option.some.inj h
        exact .fin ht e1 e2 h1 c1 hu (not_or.mp ao).2 (not_or.mp ao).1 (.inr une)
end
/-! the tokens of a text -/
theorem toks_ne : ∀ (m a : Nat) (l : List Nat), l.length ≤ m → ∀ t ∈ toks a l, t.1 ≠ ""
  | m, a, [], _, t, ht => by rw [toks_nil] at ht; cases ht
  | 0, a, c :: l, hm, t, ht => by cases hm
  | m + 1, a, c :: l, hm, t, ht => by
    obtain ⟨b1, b2⟩ := tokLen_bound (l := c :: l) (by simp)
    rw [toks_cons (by simp)] at ht
    rcases List.mem_append.mp ht with h | h
    · split at h
      · cases h
      · rw [List.mem_singleton.mp h]
        intro z
        have z : (⟨((c :: l).take (tokLen (c :: l))).toArray⟩ : Str) = "" := z
        have q := congrArg (fun s : Str => s.cps.toList.length) z
        have q : ((c :: l).take (tokLen (c :: l))).length = (Str.cps "").toList.length := q
        rw [show (Str.cps "").toList.length = 0 from by decide +kernel, List.length_take] at q
        omega
    · exact toks_ne m _ _ (by rw [List.length_drop]; simp only [List.length_cons] at hm ⊢; omega) t h
theorem all_wf (z : Str) : Wf (allToks z) := by
  refine ⟨by unfold allToks; simp, fun a t h => ?_⟩
  unfold allToks at h ⊢
  have la := (List.getElem?_eq_some_iff.mp h).1
  rw [List.length_append] at la ⊢
  have la : a < (toks 0 z.cps.toList).length + 1 := la
  by_cases c : a < (toks 0 z.cps.toList).length
  · rw [List.getElem?_append_left c] at h
    have := toks_ne _ 0 z.cps.toList (Nat.le_refl _) t (List.mem_of_getElem? h)
    constructor
    · exact fun q => absurd q this
    · intro q
      have q : a + 1 = (toks 0 z.cps.toList).length + 1 := q
      omega
  · have e : a = (toks 0 z.cps.toList).length := by omega
    subst e
    rw [List.getElem?_append_right (Nat.le_refl _), Nat.sub_self] at h
    obtain rfl := Option.some.inj h
    exact ⟨fun _ => rfl, fun _ => rfl⟩
theorem toks_len : ∀ (m a : Nat) (l : List Nat), l.length ≤ m → (toks a l).length ≤ l.length ∧ ∀ t ∈ toks a l, t.1.length ≤ l.length
  | m, a, [], _ => by rw [toks_nil]; exact ⟨Nat.le_refl _, fun t h => by cases h⟩
  | 0, a, c :: l, hm => by cases hm
  | m + 1, a, c :: l, hm => by
    obtain ⟨b1, b2⟩ := tokLen_bound (l := c :: l) (by simp)
    have ih := toks_len m (a + tokLen (c :: l)) ((c :: l).drop (tokLen (c :: l))) (by rw [List.length_drop]; simp only [List.length_cons] at hm ⊢; omega)
    rw [List.length_drop] at ih
    rw [toks_cons (by simp)]
    constructor
    · rw [List.length_append]
      have : (if (c :: l).head (by simp) = 32 then ([] : List Tok) else [((⟨((c :: l).take (tokLen (c :: l))).toArray⟩ : Str), a)]).length ≤ 1 := by split <;> simp
      omega
    · intro t ht
      rcases List.mem_append.mp ht with h | h
      · split at h
        · cases h
        · rw [List.mem_singleton.mp h]
          show ((c :: l).take (tokLen (c :: l))).length ≤ _
          rw [List.length_take]
          omega
      · exact Nat.le_trans (ih.2 t h) (by omega)
end Nw
namespace Nw
open PySem L2 PySem.Spec PyProof.Rows RZ
def spJoin : Sp := fun vs H Q _ => ∃ (tk : Addr) (ts : List Tok) (G : Hp), vs = [.ref tk] ∧ Toks G tk ts ∧ Same G H ∧
  ∀ H', Xt none H G H' G → Q (.str (Txt.join " " (ts.dropLast.map (·.1)))) H'
theorem tNoPart_ {σ : L2.St} {H : Hp} {Q : Option Int → Hp → Prop} (h : Q none H) : tNoPart σ H Q := h
theorem cutD_last (ds : List PyData) : cutD ds none (some (-1)) = ds.dropLast := by
  unfold cutD
  rw [HT.sIx_none, List.drop_zero, Nat.sub_zero, List.dropLast_eq_take]
  show ds.take ((-1 : Int) + (ds.length : Int)).toNat = _
  congr 1
  omega
section
variable {P : Program} {w : World} {K : PySem.W.Frag} {mg : Str → Option Value} {base : Heap}
theorem joinedTokens {f : Addr} {fd : FuncData} (F : C8.Def K mg "joined_tokens" s_joined_tokens f fd) (b : Binds K fd P_joined_tokens []) (T : Names K mg) : C8.Cal P w K mg base 1 "joined_tokens" spJoin [] := by
  refine C8.cal0 (N := N_joined_tokens) F b .nil sc_joined_tokens (fun vs H Q E h => ?_) (fun cdv A outer s H vs Q E hr h => ?_)
  · obtain ⟨tk, ts, G, rfl, _⟩ := h
    rfl
  · obtain ⟨tk, ts, G, rfl, ht, sG, k⟩ := h
    refine ⟨_, (pss_one (ps_ret (pe_join pe_str (pe_lc (own := [("token", 1), ("_", 2)]) (g := (gTup K 2 (gCons (gName 1) (gCons (gName 2) gNil)))) (tt := tYes) rfl sc_joined_tokens.nd (pi_list (pe_slice (sl_listK (K := K) rfl) (pv 0) po_none (po_some (pe_un un_neg pe_int)))) (blkOk_by (own := [("token", 1), ("_", 2)]) (N := N_joined_tokens) (sc := C8.fnScope s_joined_tokens) (by decide +kernel)) (fun _ _ _ _ _ => (pg_tup rfl (pgs_cons (pg_name (i := 1) sc_joined_tokens.nd rfl (Or.inl rfl)) (pgs_cons (pg_name (i := 2) sc_joined_tokens.nd rfl (Or.inl rfl)) pgs_nil)))) (fun _ _ _ _ _ => pts_nil) (fun _ _ _ _ _ => (pv 1)))))), ?_⟩
    refine ⟨⟨_, rfl⟩, _, rfl, ?_⟩
    refine tNoPart_ ?_
    refine ⟨_, rfl, _, rfl, ?_⟩
    refine slL_data ht.at_ sG fun q H1 G1 X1 dq => ?_
    rw [cutD_last, ← List.map_dropLast] at dq
    obtain ⟨qa, xs, e0, gq, da⟩ := id dq.list_inv
    cases e0
    have hl := da.length
    rw [List.length_map] at hl
    have l1 : ts.dropLast.length ≤ 10000 := by rw [List.length_dropLast]; have := ht.len; omega
    refine ⟨qa, rfl, ⟨_, SqL.of (X1.sub _ _ gq)⟩, fun Dl hD => ?_⟩
    refine lc_data (b := none) (R := fun _ _ => True) (walk_list (xs := xs)) (ts.dropLast.map fun c => .str c.1) (by rw [List.length_map, hl]) (by omega) hD X1.sub (fun q => by cases q) trivial (fun _ _ _ _ => trivial) (fun i H4 G4 X4 _ => SqL.of (X4.sub _ _ (X4.gg _ _ gq))) ?_ ?_
    · rintro i y H4 G4 H5 d hd X4 _ ⟨rfl, hy⟩ Qy hq
      rw [List.getElem?_map] at hd
      cases e : ts.dropLast[i]? with
      | none => rw [e] at hd; cases hd
      | some c =>
        rw [e] at hd
        obtain rfl := Option.some.inj hd
        obtain ⟨t, x1, _, gt⟩ := Toks.get gq da e
        rw [x1] at hy
        obtain rfl := Option.some.inj hy
        exact ⟨t, _, rfl, SqT.of (X4.sub _ _ (X4.gg _ _ gt)), rfl, _, _, rfl, _, _, rfl, rfl, rfl, _, rfl, hq _ _ _ (Xt.refl X4.sub) trivial (.str _)⟩
    · intro H4 G4 ys X4 _ hl4 hg4 da4
      have e := DA.strs (ns := ts.dropLast.map (·.1)) (by rw [List.map_map]; exact da4)
      have hs : ∀ y ∈ ts.dropLast.map (·.1), y.length ≤ 600 := fun y hy => by
        obtain ⟨c, hc, rfl⟩ := List.mem_map.mp hy
        exact ht.short c (List.dropLast_subset _ hc)
      have hsum := sum_le 600 _ hs
      rw [List.length_map] at hsum
      have f3 : ((" " : String) : Str).length = 1 := by decide +kernel
      refine ⟨_, Dl, ts.dropLast.map (·.1), rfl, rfl, .inl (SqL.of (by rw [hl4, e])), by rw [f3, List.length_map]; omega, ?_⟩
      exact k H4 (X1.trans X4).back
end
end Nw
namespace Nw
open PySem L2 PySem.Spec PyProof.Rows RZ
/-- a term of the law's sums: factor, the column's place or none, number -/
structure LT where
  f : Int
  pl : Option Nat
  num : Int
/-- the law's trees -/
inductive Tr
  | plain (b : Bool)
  | name (e : Bool) (z : Str)
  | cmp (l : List LT) (s : Str) (r : List LT)
  | no (t : Tr)
  | two (o : Bool) (a b : Tr)
def dLT (t : LT) : PyData := .tuple [.int t.f, (match t.pl with | none => .none | some j => .int (j : Int)), .int t.num]
def opS (o : Bool) : Str := if o = true then "or" else "and"
def eqS (e : Bool) : Str := if e = true then "=" else "!="
def tfS (b : Bool) : Str := if b = true then "true" else "false"
def dTr : Tr → PyData
  | .plain b => .tuple [.str "plain", .str (tfS b)]
  | .name e z => .tuple [.str "name", .str (eqS e), .str z]
  | .cmp l s r => .tuple [.str "compare", .list (l.map dLT), .str s, .list (r.map dLT)]
  | .no t => .tuple [.str "not", dTr t]
  | .two o a b => .tuple [.str (opS o), dTr a, dTr b]
def termS (cols : List Col) (t : LT) : Str := match t.pl with
  | none => ((toString t.num : String) : Str)
  | some j => (cols.getD j ("", 0)).1
def moreS (cols : List Col) (t : LT) : List Str := [if t.f = 1 then "+" else "-", termS cols t]
def sumS (cols : List Col) : List LT → List Str
  | [] => []
  | t :: r => termS cols t :: (r.map (moreS cols)).flatten
def ltV (row : List Int) (t : LT) : Int := t.f * (match t.pl with | none => t.num | some j => row.getD j 0)
def lsumV (row : List Int) (l : List LT) : Int := (l.map (ltV row)).sum
def holdsT : Tr → List Int → Leaf → Bool
  | .plain b, _, _ => b
  | .name e z, _, k => decide (k = .text z) == e
  | .cmp l s r, row, _ => cmpV s (lsumV row l) (lsumV row r)
  | .no t, row, k => !holdsT t row k
  | .two o a b, row, k => if o = true then holdsT a row k || holdsT b row k else holdsT a row k && holdsT b row k
/-- the tokens, with brackets where they are needed; u: what stands around -/
def tokT (cols : List Col) : Tr → Str → List Str
  | .plain b, _ => [tfS b]
  | .name e z, _ => ["name", eqS e, z]
  | .cmp l s r, _ => sumS cols l ++ [s] ++ sumS cols r
  | .no t, _ => [("not" : Str)] ++ tokT cols t "not"
  | .two o a b, u => if u = "not" ∨ (u = "and" ∧ o = true) then [("(" : Str)] ++ (tokT cols a (opS o) ++ [opS o] ++ tokT cols b (opS o)) ++ [(")" : Str)] else tokT cols a (opS o) ++ [opS o] ++ tokT cols b (opS o)
def NUM : List Int := [0, 1, 2, 3, 10, 999]
def NMS : List Str := ["k", "kk", "and", "where", "abcdefgh"]
structure LTok (n : Nat) (t : LT) : Prop where
  f : t.f = 1 ∨ t.f = -1
  pl : ∀ j, t.pl = some j → j < n
  num : t.num ∈ NUM
structure SumOk (n : Nat) (l : List LT) : Prop where
  ne : l ≠ []
  len : l.length ≤ 2
  all : ∀ t ∈ l, LTok n t
  fst : ∀ t, l.head? = some t → t.f = 1
def TrOk (n : Nat) : Tr → Prop
  | .plain _ => True
  | .name _ z => z ∈ NMS
  | .cmp l s r => SumOk n l ∧ s ∈ SIG ∧ SumOk n r
  | .no t => TrOk n t
  | .two _ a b => TrOk n a ∧ TrOk n b

/-! ### tokens by their texts -/
theorem drop_tok {ts : List Tok} {a : Nat} {z : Str} {r : List Str} (h : (ts.map (·.1)).drop a = z :: r) : (∃ t, ts[a]? = some t ∧ t.1 = z) ∧ (ts.map (·.1)).drop (a + 1) = r := by
  have h0 : (ts.map (·.1))[a]? = some z := by
    rw [← List.head?_drop, h]; rfl
  rw [List.getElem?_map] at h0
  obtain ⟨t, h1, h2⟩ := Option.map_eq_some_iff.mp h0
  refine ⟨⟨t, h1, h2⟩, ?_⟩
  rw [← List.drop_drop, h]; rfl
theorem drop_app {S : List Str} {a : Nat} {l r : List Str} (h : S.drop a = l ++ r) : S.drop (a + l.length) = r := by
  rw [← List.drop_drop, h, List.drop_left]
/-- what may stand behind a condition -/
def Endish (r : List Str) : Prop := ∃ z r', r = z :: r' ∧ (z = "" ∨ z = "and" ∨ z = "or" ∨ z = ")")
theorem num_ok : ∀ n ∈ NUM, isNum ((toString n : String) : Str) = true ∧ PySem.intText? ((toString n : String) : Str) = some n ∧ n.natAbs < 1000000 := by decide +kernel
theorem n11_num : ∀ n ∈ n11, isNum n = false := by decide +kernel
def tV (t : LT) : Term := match t.pl with
  | none => (t.num, none)
  | some j => (1, some j)
theorem term_ok {cols : List Col} (g : Good n11 cols) {t : LT} (h : LTok cols.length t) : termOK (cols.map (·.1)) (termS cols t) (tV t) ∧ (tV t).1.natAbs < 1000000 := by
  obtain ⟨f, pl, num⟩ := t
  have hn : num ∈ NUM := h.num
  obtain ⟨q1, q2, q3⟩ := num_ok num hn
  cases pl with
  | none => exact ⟨.inl ⟨q1, num, q2, rfl⟩, q3⟩
  | some j =>
    have hj : j < cols.length := h.pl j rfl
    have e : termS cols ⟨f, some j, num⟩ = (cols[j]).1 := by
      show (cols.getD j ("", 0)).1 = _
      rw [List.getD_eq_getElem?_getD, List.getElem?_eq_getElem hj]; rfl
    have e2 : (cols.map (·.1))[j]? = some (termS cols ⟨f, some j, num⟩) := by
      rw [e, List.getElem?_map, List.getElem?_eq_getElem hj]; rfl
    refine ⟨.inr ⟨?_, j, e2, fun m hm q => ?_, rfl⟩, by show (1 : Int).natAbs < 1000000; decide⟩
    · rw [e]; exact n11_num _ (g.names _ (List.getElem_mem hj))
    · have h1 := (List.getElem?_eq_some_iff.mp q)
      have h2 := (List.getElem?_eq_some_iff.mp e2)
      obtain ⟨l1, v1⟩ := h1
      obtain ⟨l2, v2⟩ := h2
      have := List.pairwise_iff_getElem.mp g.nd m j l1 l2 hm
      exact this (v1.trans v2.symm)
theorem tV_val {row : List Int} {t : LT} : termV row (tV t) = (match t.pl with | none => t.num | some j => row.getD j 0) := by
  obtain ⟨f, pl, num⟩ := t
  cases pl with
  | none => rfl
  | some j =>
    show termV row (1, some j) = row.getD j 0
    show (1 : Int) * _ = _
    rw [Int.one_mul]
theorem neg_val {row : List Int} {v : Term} : termV row (neg v) = - termV row v := by
  obtain ⟨c, j⟩ := v
  cases j with
  | none => rfl
  | some j => show -c * _ = -(c * _); rw [Int.neg_mul]
theorem more_run {cols : List Col} (g : Good n11 cols) {ts : List Tok} : ∀ (l : List LT) (a : Nat) (r : List Str), (∀ t ∈ l, LTok cols.length t) → (ts.map (·.1)).drop a = (l.map (moreS cols)).flatten ++ r → (∃ z r', r = z :: r' ∧ z ≠ "+" ∧ z ≠ "-") →
    ∃ r', More (cols.map (·.1)) ts a r' (a + ((l.map (moreS cols)).flatten).length) ∧ ∀ row, sumV r' row = lsumV row l
  | [], a, r, _, h, he => by
    obtain ⟨z, r', rfl, z1, z2⟩ := he
    obtain ⟨⟨t, h1, h2⟩, _⟩ := drop_tok (h : _ = z :: r')
    exact ⟨[], .stop h1 (by rw [h2]; exact z1) (by rw [h2]; exact z2), fun row => rfl⟩
  | t :: l, a, r, hl, h, he => by
    have ht := hl t List.mem_cons_self
    obtain ⟨q1, q2⟩ := term_ok g ht
    have h' : (ts.map (·.1)).drop a = (if t.f = 1 then ("+" : Str) else "-") :: termS cols t :: ((l.map (moreS cols)).flatten ++ r) := h
    obtain ⟨⟨s, s1, s2⟩, h2⟩ := drop_tok h'
    obtain ⟨⟨u, u1, u2⟩, h3⟩ := drop_tok h2
    obtain ⟨r', m, hv⟩ := more_run g l (a + 2) r (fun x hx => hl x (List.mem_cons_of_mem _ hx)) h3 he
    have el : a + (((t :: l).map (moreS cols)).flatten).length = a + 2 + ((l.map (moreS cols)).flatten).length := by
      show a + ([_, _] ++ (l.map (moreS cols)).flatten).length = _
      rw [List.length_append]
      show a + (2 + _) = _
      omega
    rw [el]
    have ev : ∀ row, lsumV row (t :: l) = ltV row t + lsumV row l := fun row => rfl
    rcases ht.f with e | e
    · rw [if_pos e] at s2
      refine ⟨tV t :: r', .plus s1 s2 u1 (by rw [u2]; exact q1) q2 m, fun row => ?_⟩
      show termV row (tV t) + sumV r' row = _
      rw [hv, ev, tV_val]
      unfold ltV
      rw [e, Int.one_mul]
    · rw [if_neg (by rw [e]; decide)] at s2
      refine ⟨neg (tV t) :: r', .minus s1 s2 u1 (by rw [u2]; exact q1) q2 m, fun row => ?_⟩
      show termV row (neg (tV t)) + sumV r' row = _
      rw [hv, ev, neg_val, tV_val]
      unfold ltV
      rw [e, Int.neg_one_mul]
theorem Endish.cons {z : Str} {r : List Str} (h : z = "" ∨ z = "and" ∨ z = "or" ∨ z = ")") : Endish (z :: r) := ⟨z, r, rfl, h⟩
/-- a sum, with what stops it behind -/
theorem sum_run {cols : List Col} (g : Good n11 cols) {ts : List Tok} {l : List LT} {a : Nat} {r : List Str} (ok : SumOk cols.length l) (h : (ts.map (·.1)).drop a = sumS cols l ++ r) (he : ∃ z r', r = z :: r' ∧ z ≠ "+" ∧ z ≠ "-") :
    ∃ r', SumAt (cols.map (·.1)) ts a r' (a + (sumS cols l).length) ∧ ∀ row, sumV r' row = lsumV row l := by
  obtain ⟨n1, n2, n3, n4⟩ := ok
  match l, n1 with
  | t :: l, _ =>
    have ht := n3 t List.mem_cons_self
    obtain ⟨q1, q2⟩ := term_ok g ht
    have hf := n4 t rfl
    obtain ⟨⟨u, u1, u2⟩, h2⟩ := drop_tok (h : _ = termS cols t :: ((l.map (moreS cols)).flatten ++ r))
    obtain ⟨r', m, hv⟩ := more_run g l (a + 1) r (fun x hx => n3 x (List.mem_cons_of_mem _ hx)) h2 he
    refine ⟨tV t :: r', ⟨u, tV t, r', rfl, u1, by rw [u2]; exact q1, q2, ?_⟩, fun row => ?_⟩
    · have e : a + (sumS cols (t :: l)).length = a + 1 + ((l.map (moreS cols)).flatten).length := by
        show a + (((l.map (moreS cols)).flatten).length + 1) = _
        omega
      rw [e]; exact m
    · show termV row (tV t) + sumV r' row = ltV row t + lsumV row l
      rw [hv, tV_val]; unfold ltV; rw [hf, Int.one_mul]
theorem Endish.no {r : List Str} (h : Endish r) : ∃ z r', r = z :: r' ∧ z ≠ "+" ∧ z ≠ "-" := by
  obtain ⟨z, r', e, hz⟩ := h
  exact ⟨z, r', e, by rcases hz with rfl | rfl | rfl | rfl <;> decide +kernel⟩
theorem cmpBits_bP {s : Str} {l r : List Term} {rows : List (List Int)} : cmpBits s l r rows = ((bP rows.length (fun i => cmpV s (sumV l (rows.getD i [])) (sumV r (rows.getD i []))) : Nat) : Int) := by
  have key : ∀ n, (bitsTo s l r rows n).sum = ((bP n (fun i => cmpV s (sumV l (rows.getD i [])) (sumV r (rows.getD i []))) : Nat) : Int) := by
    intro n
    induction n with
    | zero => rfl
    | succ n ih =>
      rw [bitsTo_succ, List.sum_append, ih]
      show _ = (((if cmpV s (sumV l (rows.getD n [])) (sumV r (rows.getD n [])) = true then 2 ^ n else 0) + bP n _ : Nat) : Int)
      rw [Int.natCast_add]
      by_cases c : cmpV s (sumV l (rows.getD n [])) (sumV r (rows.getD n [])) = true
      · rw [if_pos c, if_pos c]
        have : ((2 ^ n : Nat) : Int) = 2 ^ n := by simp
        rw [this, List.sum_cons, List.sum_nil]
        omega
      · rw [if_neg c, if_neg c, List.sum_nil]
        simp
  exact key _
/-- which values of the table a tree holds for, by the name -/
def hF (rows : List (List Int)) (t : Tr) (k : Leaf) (i : Nat) : Bool := holdsT t (rows.getD i []) k
/-- a level by its truth -/
structure BL where
  p : Leaf → Nat → Bool
  a : Leaf → Nat → Bool
  n : Bool
def BL.lv (N : Nat) (L : BL) : Lv := ⟨fun k => (bP N (L.p k) : Nat), fun k => (bP N (L.a k) : Nat), L.n⟩
def BL.withB (L : BL) (f : Leaf → Nat → Bool) : BL := ⟨L.p, fun k i => L.a k i && (if L.n = true then !f k i else f k i), false⟩
theorem with_lv (N : Nat) (L : BL) (f : Leaf → Nat → Bool) : (L.lv N).withA (2 ^ N - 1) (fun k => (bP N (f k) : Nat)) = (L.withB f).lv N := by
  unfold Lv.withA BL.lv BL.withB
  simp only [Lv.mk.injEq, and_true, true_and]
  funext k
  cases hn : L.n with
  | false =>
    simp only [Bool.false_eq_true, if_false]
    exact bP_and N _ _
  | true =>
    simp only [if_true]
    rw [bP_not]
    exact bP_and N _ _
theorem whole_lv (N : Nat) (L : BL) : (L.lv N).whole = fun k => ((bP N fun i => L.p k i || L.a k i : Nat) : Int) := by
  funext k
  exact bP_or N _ _
def BL.zero : BL := ⟨fun _ _ => false, fun _ _ => true, false⟩
theorem zero_lv (N : Nat) : BL.zero.lv N = Lv.zero (2 ^ N - 1) := by
  unfold BL.zero BL.lv Lv.zero
  simp only [Lv.mk.injEq, and_true]
  exact ⟨funext fun k => by rw [bP_none]; rfl, funext fun k => bP_all N⟩
end Nw
namespace Nw
open PySem L2 PySem.Spec PyProof.Rows RZ
section
variable {cols : List Col} {ev : Int} {ts : List Tok}
/-- what comes behind an atom that ended at e -/
def After (cols : List Col) (ev : Int) (ts : List Tok) (o : List Lv) (l : Lv) (e : Nat) (g : Leaf → Int) (e2 : Nat) : Prop :=
  ∃ (o' : List Lv) (l' : Lv) (e' : Nat) (u : Tok), Close ev ts o l e o' l' e' ∧ ts[e']? = some u ∧
    ((u.1 = "" ∧ o' = [] ∧ g = l'.whole ∧ e2 = e') ∨ (u.1 = "or" ∧ Run cols ev ts o' ⟨l'.whole, fun _ => ev, false⟩ (e' + 1) g e2) ∨ (u.1 = "and" ∧ Run cols ev ts o' l' (e' + 1) g e2))
theorem run_plain {o : List Lv} {l : Lv} {a e e2 : Nat} {f g : Leaf → Int} {ks : List Leaf} {t : Tok} (h1 : ts[a]? = some t) (h2 : t.1 ≠ "not") (h3 : t.1 ≠ "(") (pl : PlainAt cols ev ts a f ks e) (af : After cols ev ts o (l.withA ev f) e g e2) : Run cols ev ts o l a g e2 := by
  obtain ⟨o', l', e', u, c, hu, h | h | h⟩ := af
  · obtain ⟨u0, rfl, rfl, rfl⟩ := h
    exact .fin h1 h2 h3 pl c hu u0
  · exact .or h1 h2 h3 pl c hu h.1 h.2
  · exact .and h1 h2 h3 pl c hu h.1 h.2
theorem after_pop {o : List Lv} {u l : Lv} {e e2 : Nat} {g : Leaf → Int} {t : Tok} (h1 : ts[e]? = some t) (h2 : t.1 = ")") (af : After cols ev ts o (u.withA ev l.whole) (e + 1) g e2) : After cols ev ts (u :: o) l e g e2 := by
  obtain ⟨o', l', e', v, c, r⟩ := af
  exact ⟨o', l', e', v, .pop h1 h2 c, r⟩
theorem after_and {o : List Lv} {l : Lv} {e e2 : Nat} {g : Leaf → Int} {t : Tok} (h1 : ts[e]? = some t) (h2 : t.1 = "and") (r : Run cols ev ts o l (e + 1) g e2) : After cols ev ts o l e g e2 :=
  ⟨o, l, e, t, .stop h1 (.inr (by rw [h2]; decide +kernel)), h1, .inr (.inr ⟨h2, r⟩)⟩
theorem after_or {o : List Lv} {l : Lv} {e e2 : Nat} {g : Leaf → Int} {t : Tok} (h1 : ts[e]? = some t) (h2 : t.1 = "or") (r : Run cols ev ts o ⟨l.whole, fun _ => ev, false⟩ (e + 1) g e2) : After cols ev ts o l e g e2 :=
  ⟨o, l, e, t, .stop h1 (.inr (by rw [h2]; decide +kernel)), h1, .inr (.inl ⟨h2, r⟩)⟩
theorem after_end {l : Lv} {e : Nat} {t : Tok} (h1 : ts[e]? = some t) (h2 : t.1 = "") : After cols ev ts [] l e l.whole e :=
  ⟨[], l, e, t, .stop h1 (.inl rfl), h1, .inl ⟨h2, rfl, rfl, rfl⟩⟩
end
theorem words_no : ∀ n ∈ n11, n ≠ "true" ∧ n ≠ "false" ∧ n ≠ "name" ∧ n ≠ "not" ∧ n ≠ "(" := by decide +kernel
theorem nums_no : ∀ n ∈ NUM, ((toString n : String) : Str) ≠ "true" ∧ ((toString n : String) : Str) ≠ "false" ∧ ((toString n : String) : Str) ≠ "name" ∧ ((toString n : String) : Str) ≠ "not" ∧ ((toString n : String) : Str) ≠ "(" := by decide +kernel
theorem term_no {cols : List Col} (g : Good n11 cols) {t : LT} (h : LTok cols.length t) : termS cols t ≠ "true" ∧ termS cols t ≠ "false" ∧ termS cols t ≠ "name" ∧ termS cols t ≠ "not" ∧ termS cols t ≠ "(" := by
  obtain ⟨f, pl, num⟩ := t
  cases pl with
  | none => exact nums_no num h.num
  | some j =>
    have hj : j < cols.length := h.pl j rfl
    have e : termS cols ⟨f, some j, num⟩ = (cols[j]).1 := by
      show (cols.getD j ("", 0)).1 = _
      rw [List.getD_eq_getElem?_getD, List.getElem?_eq_getElem hj]; rfl
    rw [e]
    exact words_no _ (g.names _ (List.getElem_mem hj))
theorem sig_no : ∀ s ∈ SIG, s ≠ "+" ∧ s ≠ "-" := by decide +kernel
theorem nms_word : ∀ z ∈ NMS, isWordS z = true := by decide +kernel
def leafT : Tr → Bool
  | .plain _ => true
  | .name _ _ => true
  | .cmp _ _ _ => true
  | _ => false
theorem leaf_tok {cols : List Col} {t : Tr} (h : leafT t = true) (u v : Str) : tokT cols t u = tokT cols t v := by
  cases t <;> first | rfl | cases h
/-- an atom without brackets -/
theorem leaf_run {cols : List Col} (g : Good n11 cols) {rows : List (List Int)} (hr : rows = allV (cols.map (·.2))) {ts : List Tok} {t : Tr} (hl : leafT t = true) (ok : TrOk cols.length t) {a : Nat} {r : List Str} {u : Str} (h : (ts.map (·.1)).drop a = tokT cols t u ++ r) (he : Endish r) :
    ∃ (x : Tok) (ks : List Leaf), ts[a]? = some x ∧ x.1 ≠ "not" ∧ x.1 ≠ "(" ∧ PlainAt cols (2 ^ rows.length - 1) ts a (fun k => (bP rows.length (hF rows t k) : Nat)) ks (a + (tokT cols t u).length) := by
  cases t with
  | no t => cases hl
  | two o a b => cases hl
  | plain b =>
    obtain ⟨⟨x, x1, x2⟩, _⟩ := drop_tok (h : _ = tfS b :: r)
    cases b with
    | true =>
      have e : (fun k => ((bP rows.length (hF rows (.plain true) k) : Nat) : Int)) = fun _ => 2 ^ rows.length - 1 := funext fun k => bP_all _
      rw [e]
      exact ⟨x, _, x1, by rw [x2]; decide +kernel, by rw [x2]; decide +kernel, .tru x1 x2⟩
    | false =>
      have e : (fun k => ((bP rows.length (hF rows (.plain false) k) : Nat) : Int)) = fun _ => 0 := funext fun k => congrArg Int.ofNat (bP_none _)
      rw [e]
      exact ⟨x, _, x1, by rw [x2]; decide +kernel, by rw [x2]; decide +kernel, .fls x1 x2⟩
  | name e z =>
    obtain ⟨⟨x, x1, x2⟩, h2⟩ := drop_tok (h : _ = ("name" : Str) :: eqS e :: z :: r)
    obtain ⟨⟨y, y1, y2⟩, h3⟩ := drop_tok h2
    obtain ⟨⟨w, w1, w2⟩, _⟩ := drop_tok h3
    have ef : (fun k => ((bP rows.length (hF rows (.name e z) k) : Nat) : Int)) = fun k => if (k = .text w.1) = (y.1 = "=") then 2 ^ rows.length - 1 else 0 := by
      funext k
      rw [w2, y2]
      cases e with
      | true =>
        have hyes : eqS true = "=" := rfl
        by_cases c : k = .text z
        · rw [if_pos (propext ⟨fun _ => hyes, fun _ => c⟩), ← bP_all]
          congr 2
          funext i
          show (decide (k = .text z) == true) = true
          rw [decide_eq_true c]; rfl
        · rw [if_neg (fun q => c (q.mpr hyes)), show (0 : Int) = ((0 : Nat) : Int) from rfl, ← bP_none rows.length]
          congr 2
          funext i
          show (decide (k = .text z) == true) = false
          rw [decide_eq_false c]; rfl
      | false =>
        have hne : ¬ (eqS false = "=") := by decide +kernel
        by_cases c : k = .text z
        · rw [if_neg (fun q => hne (q.mp c)), show (0 : Int) = ((0 : Nat) : Int) from rfl, ← bP_none rows.length]
          congr 2
          funext i
          show (decide (k = .text z) == false) = false
          rw [decide_eq_true c]; rfl
        · rw [if_pos (propext ⟨fun q => absurd q c, fun q => absurd q hne⟩), ← bP_all]
          congr 2
          funext i
          show (decide (k = .text z) == false) = true
          rw [decide_eq_false c]; rfl
    rw [ef]
    refine ⟨x, _, x1, by rw [x2]; decide +kernel, by rw [x2]; decide +kernel, .nam x1 x2 y1 ?_ w1 ?_⟩
    · rw [y2]; cases e
      · exact .inr rfl
      · exact .inl rfl
    · rw [w2]; exact nms_word z ok
  | cmp l s q =>
    obtain ⟨ok1, hs, ok2⟩ := ok
    have h' : (ts.map (·.1)).drop a = sumS cols l ++ ([s] ++ (sumS cols q ++ r)) := by
      rw [h]
      show (sumS cols l ++ [s] ++ sumS cols q) ++ r = _
      simp only [List.append_assoc]
    obtain ⟨l', sl, vl⟩ := sum_run g ok1 h' ⟨s, sumS cols q ++ r, rfl, sig_no s hs⟩
    have h2 := drop_app h'
    obtain ⟨⟨y, y1, y2⟩, h3⟩ := drop_tok (h2 : _ = s :: (sumS cols q ++ r))
    obtain ⟨q', sq, vq⟩ := sum_run g ok2 h3 he.no
    have el : a + (tokT cols (.cmp l s q) u).length = a + (sumS cols l).length + 1 + (sumS cols q).length := by
      show a + (sumS cols l ++ [s] ++ sumS cols q).length = _
      rw [List.length_append, List.length_append, List.length_singleton]
      omega
    have nl : ∃ x, ts[a]? = some x ∧ x.1 ≠ "true" ∧ x.1 ≠ "false" ∧ x.1 ≠ "name" ∧ x.1 ≠ "not" ∧ x.1 ≠ "(" := by
      obtain ⟨n1, _, n3, _⟩ := ok1
      match l, n1, n3, h' with
      | t :: l, _, n3, h' =>
        obtain ⟨⟨x, x1, x2⟩, _⟩ := drop_tok (h' : _ = termS cols t :: ((l.map (moreS cols)).flatten ++ ([s] ++ (sumS cols q ++ r))))
        exact ⟨x, x1, by rw [x2]; exact term_no g (n3 t List.mem_cons_self)⟩
    obtain ⟨x, x1, t1, t2, t3, t4, t5⟩ := nl
    rw [el]
    have ef : (fun k => ((bP rows.length (hF rows (.cmp l s q) k) : Nat) : Int)) = fun _ => cmpBits y.1 l' q' (allV (cols.map (·.2))) := by
      funext k
      rw [cmpBits_bP, ← hr, y2]
      congr 2
      funext i
      show cmpV s (lsumV (rows.getD i []) l) (lsumV (rows.getD i []) q) = _
      rw [vl, vq]
    rw [ef]
    exact ⟨x, _, x1, t4, t5, .cmp x1 t1 t2 t3 sl y1 (by rw [y2]; exact hs) sq⟩
end Nw
namespace Nw
open PySem L2 PySem.Spec PyProof.Rows RZ
theorem tok_two (cols : List Col) (o : Bool) (a b : Tr) (u : Str) : tokT cols (.two o a b) u = if u = "not" ∨ (u = "and" ∧ o = true) then [("(" : Str)] ++ (tokT cols a (opS o) ++ [opS o] ++ tokT cols b (opS o)) ++ [(")" : Str)] else tokT cols a (opS o) ++ [opS o] ++ tokT cols b (opS o) := by rw [tokT]
theorem withB_no (L : BL) (rows : List (List Int)) (t : Tr) : (BL.mk L.p L.a (!L.n)).withB (hF rows t) = L.withB (hF rows (.no t)) := by
  unfold BL.withB
  simp only [BL.mk.injEq, and_true, true_and]
  funext k i
  show (L.a k i && if (!L.n) = true then !hF rows t k i else hF rows t k i) = (L.a k i && if L.n = true then !(!holdsT t (rows.getD i []) k) else !holdsT t (rows.getD i []) k)
  cases L.n
  · rfl
  · simp only [Bool.not_true, Bool.false_eq_true, if_false, if_true, Bool.not_not]
    rfl
theorem withB_and (L : BL) (hn : L.n = false) (rows : List (List Int)) (a b : Tr) : (L.withB (hF rows a)).withB (hF rows b) = L.withB (hF rows (.two false a b)) := by
  unfold BL.withB
  simp only [BL.mk.injEq, and_true, true_and, hn, Bool.false_eq_true, if_false]
  funext k i
  show ((L.a k i && holdsT a (rows.getD i []) k) && holdsT b (rows.getD i []) k) = (L.a k i && (holdsT a (rows.getD i []) k && holdsT b (rows.getD i []) k))
  rw [Bool.and_assoc]
section
variable {cols : List Col} {rows : List (List Int)} {ts : List Tok}
/-- as an atom -/
def RdA (cols : List Col) (rows : List (List Int)) (ts : List Tok) (m : List Str) (t : Tr) : Prop := ∀ (o : List Lv) (L : BL) (a : Nat) (r : List Str), (ts.map (·.1)).drop a = m ++ r → Endish r → ∀ f e2,
  After cols (2 ^ rows.length - 1) ts o ((L.withB (hF rows t)).lv rows.length) (a + m.length) f e2 → Run cols (2 ^ rows.length - 1) ts o (L.lv rows.length) a f e2
/-- as a part of an `and` -/
def RdB (cols : List Col) (rows : List (List Int)) (ts : List Tok) (m : List Str) (t : Tr) : Prop := ∀ (o : List Lv) (L : BL) (a : Nat) (r : List Str), L.n = false → (ts.map (·.1)).drop a = m ++ r → Endish r → ∀ f e2,
  After cols (2 ^ rows.length - 1) ts o ((L.withB (hF rows t)).lv rows.length) (a + m.length) f e2 → Run cols (2 ^ rows.length - 1) ts o (L.lv rows.length) a f e2
/-- as a whole condition -/
def RdO (cols : List Col) (rows : List (List Int)) (ts : List Tok) (m : List Str) (t : Tr) : Prop := ∀ (o : List Lv) (L : BL) (a : Nat) (r : List Str), L.n = false → (∀ k i, L.a k i = true) → (ts.map (·.1)).drop a = m ++ r → Endish r →
  ∃ L2 : BL, L2.n = false ∧ (∀ k i, (L2.p k i || L2.a k i) = (L.p k i || hF rows t k i)) ∧ ∀ f e2, After cols (2 ^ rows.length - 1) ts o (L2.lv rows.length) (a + m.length) f e2 → Run cols (2 ^ rows.length - 1) ts o (L.lv rows.length) a f e2
theorem RdA.b {m : List Str} {t : Tr} (h : RdA cols rows ts m t) : RdB cols rows ts m t := fun o L a r _ => h o L a r
theorem RdB.o {m : List Str} {t : Tr} (h : RdB cols rows ts m t) : RdO cols rows ts m t := fun o L a r hn ha hd he =>
  ⟨L.withB (hF rows t), rfl, fun k i => by
    show (L.p k i || (L.a k i && if L.n = true then !hF rows t k i else hF rows t k i)) = _
    rw [ha, hn, Bool.true_and]; rfl, h o L a r hn hd he⟩
/-- in brackets -/
theorem RdO.br {m : List Str} {t : Tr} (h : RdO cols rows ts m t) : RdA cols rows ts ([("(" : Str)] ++ m ++ [(")" : Str)]) t := by
  intro o L a r hd he f e2 af
  have hd' : (ts.map (·.1)).drop a = ("(" : Str) :: (m ++ ((")" : Str) :: r)) := by
    rw [hd]; simp
  obtain ⟨⟨x, x1, x2⟩, h2⟩ := drop_tok hd'
  obtain ⟨L2, n2, v2, go⟩ := h (L.lv rows.length :: o) BL.zero (a + 1) ((")" : Str) :: r) rfl (fun _ _ => rfl) h2 (.cons (by simp))
  obtain ⟨⟨y, y1, y2⟩, _⟩ := drop_tok (drop_app h2)
  refine .opn x1 x2 ?_
  rw [← zero_lv]
  refine go f e2 (after_pop y1 y2 ?_)
  have e : (L2.lv rows.length).whole = fun k => ((bP rows.length (hF rows t k) : Nat) : Int) := by
    rw [whole_lv]
    funext k
    congr 2
    funext i
    rw [v2]; rfl
  rw [e, with_lv]
  have el : a + 1 + m.length + 1 = a + ([("(" : Str)] ++ m ++ [(")" : Str)]).length := by
    rw [List.length_append, List.length_append, List.length_singleton, List.length_singleton]; omega
  rw [el]
  exact af
theorem tree_run (g : Good n11 cols) (hr : rows = allV (cols.map (·.2))) : ∀ (t : Tr), TrOk cols.length t →
    RdA cols rows ts (tokT cols t "not") t ∧ RdB cols rows ts (tokT cols t "and") t ∧ ∀ u : Str, u = "or" ∨ u = "" → RdO cols rows ts (tokT cols t u) t := by
  intro t
  have leaf : ∀ t : Tr, leafT t = true → TrOk cols.length t → RdA cols rows ts (tokT cols t "not") t ∧ RdB cols rows ts (tokT cols t "and") t ∧ ∀ u : Str, u = "or" ∨ u = "" → RdO cols rows ts (tokT cols t u) t := by
    intro t hl ok
    have A : ∀ u : Str, RdA cols rows ts (tokT cols t u) t := fun u o L a r hd he f e2 af => by
      obtain ⟨x, ks, x1, x2, x3, pl⟩ := leaf_run g hr hl ok hd he
      exact run_plain x1 x2 x3 pl (by rw [with_lv]; exact af)
    exact ⟨A _, (A _).b, fun u _ => (A u).b.o⟩
  induction t with
  | plain b => exact leaf _ rfl
  | name e z => exact leaf _ rfl
  | cmp l s r => exact leaf _ rfl
  | no t ih =>
    intro ok
    obtain ⟨ia, _, _⟩ := ih ok
    have A : RdA cols rows ts ([("not" : Str)] ++ tokT cols t "not") (.no t) := by
      intro o L a r hd he f e2 af
      obtain ⟨⟨x, x1, x2⟩, h2⟩ := drop_tok (hd : _ = ("not" : Str) :: (tokT cols t "not" ++ r))
      refine .no x1 x2 (ia o ⟨L.p, L.a, !L.n⟩ (a + 1) r h2 he f e2 ?_)
      rw [withB_no]
      have el : a + 1 + (tokT cols t "not").length = a + ([("not" : Str)] ++ tokT cols t "not").length := by
        rw [List.length_append, List.length_singleton]; omega
      rw [el]
      exact af
    exact ⟨A, A.b, fun u _ => A.b.o⟩
  | two b x y ihx ihy =>
    intro ok
    obtain ⟨ax, bx, ox⟩ := ihx ok.1
    obtain ⟨ay, by_, oy⟩ := ihy ok.2
    cases b with
    | false =>
      have B : RdB cols rows ts (tokT cols x "and" ++ [("and" : Str)] ++ tokT cols y "and") (.two false x y) := by
        intro o L a r hn hd he f e2 af
        have h1 : (ts.map (·.1)).drop a = tokT cols x "and" ++ (("and" : Str) :: (tokT cols y "and" ++ r)) := by rw [hd]; simp
        have h2 := drop_app h1
        obtain ⟨⟨z, z1, z2⟩, h3⟩ := drop_tok h2
        refine bx o L a _ hn h1 (.cons (by simp)) f e2 (after_and z1 z2 (by_ o (L.withB (hF rows x)) _ r rfl h3 he f e2 ?_))
        rw [withB_and L hn]
        have el : a + (tokT cols x "and").length + 1 + (tokT cols y "and").length = a + (tokT cols x "and" ++ [("and" : Str)] ++ tokT cols y "and").length := by
          rw [List.length_append, List.length_append, List.length_singleton]; omega
        rw [el]
        exact af
      have e1 : tokT cols (.two false x y) "not" = [("(" : Str)] ++ (tokT cols x "and" ++ [("and" : Str)] ++ tokT cols y "and") ++ [(")" : Str)] := by
        rw [tok_two, if_pos (.inl rfl)]
        rfl
      have e2 : ∀ u : Str, u ≠ "not" → tokT cols (.two false x y) u = tokT cols x "and" ++ [("and" : Str)] ++ tokT cols y "and" := by
        intro u hu
        rw [tok_two, if_neg (fun q => q.elim hu fun q => by cases q.2)]
        rfl
      rw [e1, e2 "and" (by decide +kernel)]
      refine ⟨B.o.br, B, fun u hu => ?_⟩
      rw [e2 u (by rcases hu with rfl | rfl <;> decide +kernel)]
      exact B.o
    | true =>
      have O : RdO cols rows ts (tokT cols x "or" ++ [("or" : Str)] ++ tokT cols y "or") (.two true x y) := by
        intro o L a r hn ha hd he
        have h1 : (ts.map (·.1)).drop a = tokT cols x "or" ++ (("or" : Str) :: (tokT cols y "or" ++ r)) := by rw [hd]; simp
        have h2 := drop_app h1
        obtain ⟨⟨z, z1, z2⟩, h3⟩ := drop_tok h2
        obtain ⟨L1, n1, v1, go1⟩ := ox "or" (.inl rfl) o L a _ hn ha h1 (.cons (by simp))
        obtain ⟨L2, n2, v2, go2⟩ := oy "or" (.inl rfl) o ⟨fun k i => L.p k i || hF rows x k i, fun _ _ => true, false⟩ _ r rfl (fun _ _ => rfl) h3 he
        refine ⟨L2, n2, fun k i => ?_, fun f e2 af => go1 f e2 (after_or z1 z2 ?_)⟩
        · rw [v2]
          show ((L.p k i || hF rows x k i) || hF rows y k i) = (L.p k i || (hF rows x k i || hF rows y k i))
          rw [Bool.or_assoc]
        · have e : (⟨(L1.lv rows.length).whole, fun _ => 2 ^ rows.length - 1, false⟩ : Lv) = BL.lv rows.length ⟨fun k i => L.p k i || hF rows x k i, fun _ _ => true, false⟩ := by
            show _ = Lv.mk _ _ _
            simp only [Lv.mk.injEq, and_true]
            refine ⟨?_, funext fun k => (bP_all _).symm⟩
            rw [whole_lv]
            funext k
            congr 2
            funext i
            exact v1 k i
          rw [e]
          refine go2 f e2 ?_
          have el : a + (tokT cols x "or").length + 1 + (tokT cols y "or").length = a + (tokT cols x "or" ++ [("or" : Str)] ++ tokT cols y "or").length := by
            rw [List.length_append, List.length_append, List.length_singleton]; omega
          rw [el]
          exact af
      have e1 : ∀ u : Str, u = "not" ∨ u = "and" → tokT cols (.two true x y) u = [("(" : Str)] ++ (tokT cols x "or" ++ [("or" : Str)] ++ tokT cols y "or") ++ [(")" : Str)] := by
        intro u hu
        rw [tok_two, if_pos (hu.elim .inl fun q => .inr ⟨q, rfl⟩)]
        rfl
      have e2 : ∀ u : Str, u = "or" ∨ u = "" → tokT cols (.two true x y) u = tokT cols x "or" ++ [("or" : Str)] ++ tokT cols y "or" := by
        intro u hu
        rw [tok_two, if_neg (fun q => by rcases hu with rfl | rfl <;> rcases q with q | ⟨q, _⟩ <;> revert q <;> decide +kernel)]
        rfl
      rw [e1 _ (.inl rfl), e1 _ (.inr rfl)]
      refine ⟨O.br, O.br.b, fun u hu => ?_⟩
      rw [e2 u hu]
      exact O
/-- the whole -/
theorem cond_run (g : Good n11 cols) (hr : rows = allV (cols.map (·.2))) {t : Tr} (ok : TrOk cols.length t) (h : ts.map (·.1) = tokT cols t "" ++ [("" : Str)]) :
    ∃ (f : Leaf → Int) (e : Nat), Run cols (2 ^ rows.length - 1) ts [] (Lv.zero (2 ^ rows.length - 1)) 0 f e ∧ ∀ k, f k = ((bP rows.length (hF rows t k) : Nat) : Int) := by
  obtain ⟨_, _, o⟩ := tree_run (ts := ts) g hr t ok
  have h0 : (ts.map (·.1)).drop 0 = tokT cols t "" ++ [("" : Str)] := h
  obtain ⟨L2, n2, v2, go⟩ := o "" (.inr rfl) [] BL.zero 0 [""] rfl (fun _ _ => rfl) h0 (.cons (.inl rfl))
  obtain ⟨⟨y, y1, y2⟩, _⟩ := drop_tok (drop_app h0)
  rw [← zero_lv]
  refine ⟨_, _, go _ _ (after_end y1 y2), fun k => ?_⟩
  rw [whole_lv]
  show ((bP rows.length (fun i => L2.p k i || L2.a k i) : Nat) : Int) = _
  congr 2
  funext i
  rw [v2]; rfl
end
end Nw
namespace Nw
open PySem L2 PySem.Spec PyProof.Rows RZ
def SGN : List Str := ["(", ")", "+", "-", "=", "!=", "<", "<=", ">", ">="]
/-- a token as it is written: letters, digits or a sign -/
inductive GT : Str → Prop
  | let_ {z : Str} : z.cps.toList ≠ [] → (∀ c ∈ z.cps.toList, c ∈ LET.cps.toList) → GT z
  | dig {z : Str} : z.cps.toList ≠ [] → (∀ c ∈ z.cps.toList, c ∈ DIG.cps.toList) → GT z
  | sgn {z : Str} : z ∈ SGN → GT z
/-- what follows directly does not lengthen the token -/
def Sep (z : Str) (c : List Nat) : Prop := ∀ x, c.head? = some x → ((∃ y ∈ z.cps.toList, y ∈ LET.cps.toList) → x ∉ LET.cps.toList) ∧ ((∃ y ∈ z.cps.toList, y ∈ DIG.cps.toList) → x ∉ DIG.cps.toList) ∧ (z ∈ SGN → x ≠ 61)
theorem stretch_all {alpha : Str} : ∀ {l r : List Nat}, (∀ c ∈ l, c ∈ alpha.cps.toList) → (∀ x, r.head? = some x → x ∉ alpha.cps.toList) → stretchL alpha (l ++ r) = l.length
  | [], [], _, _ => rfl
  | [], x :: r, _, h => by
    show (if x ∈ alpha.cps.toList then _ else 0) = 0
    exact if_neg (h x rfl)
  | c :: l, r, h, h2 => by
    show (if c ∈ alpha.cps.toList then stretchL alpha (l ++ r) + 1 else 0) = _
    rw [if_pos (h c List.mem_cons_self), stretch_all (fun x hx => h x (List.mem_cons_of_mem _ hx)) h2]
    rfl
theorem let_dig : ∀ c ∈ DIG.cps.toList, c ∉ LET.cps.toList := by decide +kernel
theorem sgn_one : ∀ z ∈ SGN, (z.cps.toList.length = 1 ∨ z.cps.toList.length = 2) ∧ z.cps.toList ≠ [] ∧ (∀ c ∈ z.cps.toList, c ∉ LET.cps.toList ∧ c ∉ DIG.cps.toList ∧ c ≠ 32) ∧ (z.cps.toList.length = 2 → z ∈ (["!=", "<=", ">="] : List Str)) := by decide +kernel
theorem long_sec : ∀ t ∈ (["!=", "<=", ">="] : List Str), t.cps.toList[1]? = some 61 := by decide +kernel
theorem str_list (z : Str) : (⟨z.cps.toList.toArray⟩ : Str) = z := rfl
theorem GT.ne {z : Str} (g : GT z) : z.cps.toList ≠ [] := by
  cases g with
  | let_ h _ => exact h
  | dig h _ => exact h
  | sgn h => exact (sgn_one z h).2.1
theorem spc_no : (32 : Nat) ∉ LET.cps.toList ∧ (32 : Nat) ∉ DIG.cps.toList := by decide +kernel
theorem GT.nsp {z : Str} (g : GT z) : ∀ c ∈ z.cps.toList, c ≠ 32 := by
  intro c hc e
  subst e
  cases g with
  | let_ _ h => exact spc_no.1 (h _ hc)
  | dig _ h => exact spc_no.2 (h _ hc)
  | sgn h => exact ((sgn_one z h).2.2.1 _ hc).2.2 rfl
theorem tokLen_tok {z : Str} (g : GT z) {c : List Nat} (s : Sep z c) : tokLen (z.cps.toList ++ c) = z.cps.toList.length := by
  have hne := g.ne
  cases g with
  | let_ h1 h2 =>
    match hz : z.cps.toList, h1 with
    | x :: l, _ =>
      rw [hz] at h2
      show (if x ∈ LET.cps.toList then stretchL LET (x :: (l ++ c)) else _) = _
      rw [if_pos (h2 x List.mem_cons_self)]
      exact stretch_all (l := x :: l) h2 fun y hy => (s y hy).1 ⟨x, by rw [hz]; exact List.mem_cons_self, h2 x List.mem_cons_self⟩
  | dig h1 h2 =>
    match hz : z.cps.toList, h1 with
    | x :: l, _ =>
      rw [hz] at h2
      show (if x ∈ LET.cps.toList then _ else if x ∈ DIG.cps.toList then stretchL DIG (x :: (l ++ c)) else _) = _
      rw [if_neg (let_dig x (h2 x List.mem_cons_self)), if_pos (h2 x List.mem_cons_self)]
      exact stretch_all (l := x :: l) h2 fun y hy => (s y hy).2.1 ⟨x, by rw [hz]; exact List.mem_cons_self, h2 x List.mem_cons_self⟩
  | sgn h =>
    obtain ⟨q1, q2, q3, q4⟩ := sgn_one z h
    match hz : z.cps.toList, q2 with
    | x :: l, _ =>
      rw [hz] at q1 q3 q4
      obtain ⟨n1, n2, _⟩ := q3 x List.mem_cons_self
      show (if x ∈ LET.cps.toList then _ else if x ∈ DIG.cps.toList then _ else if (⟨((x :: (l ++ c)).take 2).toArray⟩ : Str) ∈ (["!=", "<=", ">="] : List Str) then 2 else 1) = _
      rw [if_neg n1, if_neg n2]
      rcases q1 with q1 | q1
      · have el : l = [] := List.length_eq_zero_iff.mp (by rw [List.length_cons] at q1; omega)
        subst el
        rw [if_neg]
        · rfl
        · intro hm
          have h1 := long_sec _ hm
          match c, s with
          | [], _ => cases h1
          | y :: c, s =>
            have : some y = some 61 := h1
            exact (s y rfl).2.2 h (Option.some.inj this)
      · have hm := q4 q1
        match l, q1 with
        | [y], _ =>
          have e : (⟨((x :: ([y] ++ c)).take 2).toArray⟩ : Str) = z := by
            show (⟨[x, y].toArray⟩ : Str) = z
            rw [← hz]
          rw [e, if_pos hm]
          rfl
theorem tokLen_sp (c : List Nat) : tokLen (32 :: c) = 1 := by
  have h : (⟨((32 :: c).take 2).toArray⟩ : Str) ∉ (["!=", "<=", ">="] : List Str) := by
    intro hm
    have : ∀ t ∈ (["!=", "<=", ">="] : List Str), t.cps.toList[0]? ≠ some 32 := by decide +kernel
    exact this _ hm rfl
  have e : tokLen (32 :: c) = if (32 : Nat) ∈ LET.cps.toList then stretchL LET (32 :: c) else if (32 : Nat) ∈ DIG.cps.toList then stretchL DIG (32 :: c) else if (⟨((32 :: c).take 2).toArray⟩ : Str) ∈ (["!=", "<=", ">="] : List Str) then 2 else 1 := rfl
  rw [e, if_neg spc_no.1, if_neg spc_no.2, if_neg h]
theorem toks_sp (a : Nat) (c : List Nat) : toks a (32 :: c) = toks (a + 1) c := by
  rw [toks_cons (List.cons_ne_nil _ _), tokLen_sp, if_pos (show (32 :: c).head (List.cons_ne_nil _ _) = 32 from rfl)]
  rfl
theorem toks_sps : ∀ (n a : Nat) (c : List Nat), toks a (List.replicate n 32 ++ c) = toks (a + n) c
  | 0, _, _ => rfl
  | n + 1, a, c => by
    rw [List.replicate_succ, List.cons_append, toks_sp, toks_sps n (a + 1) c]
    congr 1
    omega
theorem toks_tok {z : Str} (g : GT z) {c : List Nat} (s : Sep z c) (a : Nat) : toks a (z.cps.toList ++ c) = (z, a) :: toks (a + z.cps.toList.length) c := by
  have hne : z.cps.toList ++ c ≠ [] := fun e => g.ne (List.append_eq_nil_iff.mp e).1
  have hm : ∀ (l : List Nat) (h : l ≠ []) (h2 : l ++ c ≠ []), (l ++ c).head h2 ∈ l := by
    intro l h h2
    match l, h with
    | x :: l, _ => exact List.mem_cons_self
  rw [toks_cons hne, tokLen_tok g s, List.take_left, List.drop_left, if_neg (g.nsp _ (hm _ g.ne hne)), str_list]
  rfl
/-- spaces and tokens, one behind the other -/
inductive Sps : List Str → List Nat → Prop
  | nil (n : Nat) : Sps [] (List.replicate n 32)
  | cons {z : Str} {l : List Str} {c : List Nat} (n : Nat) : GT z → Sep z c → Sps l c → Sps (z :: l) (List.replicate n 32 ++ (z.cps.toList ++ c))
theorem Sps.toks {l : List Str} {c : List Nat} (h : Sps l c) : ∀ a, (toks a c).map (·.1) = l := by
  induction h with
  | nil n =>
    intro a
    have := toks_sps n a []
    rw [List.append_nil] at this
    rw [this, toks_nil]; rfl
  | cons n g s _ ih =>
    intro a
    rw [toks_sps, toks_tok g s, List.map_cons, ih]
theorem Sps.all {l : List Str} {z : Str} (h : Sps l z.cps.toList) : (allToks z).map (·.1) = l ++ [("" : Str)] := by
  unfold allToks
  rw [List.map_append, h.toks]
  rfl

/-! ### no sign ahead of = -/
def chk : Bool → List Str → Bool
  | _, [] => true
  | p, z :: r => !(p && decide (z = "=")) && chk (decide (z ∈ SGN)) r
theorem chk_weak {l : List Str} (h : chk true l = true) (p : Bool) : chk p l = true := by
  cases p
  · match l, h with
    | [], _ => rfl
    | z :: r, h =>
      have h' : (!(true && decide (z = "=")) && chk (decide (z ∈ SGN)) r) = true := h
      rw [Bool.and_eq_true] at h'
      show (!(false && decide (z = "=")) && chk (decide (z ∈ SGN)) r) = true
      rw [h'.2]; rfl
  · exact h
def CK (l : List Str) : Prop := ∀ p rest, chk true rest = true → chk p (l ++ rest) = true
def CKn (l : List Str) : Prop := ∀ p rest, chk false rest = true → chk p (l ++ rest) = true
theorem CK.app {l m : List Str} (a : CK l) (b : CK m) : CK (l ++ m) := fun p rest h => by
  rw [List.append_assoc]; exact a p _ (b true rest h)
theorem CK.one {z : Str} (h : z ≠ "=") : CK [z] := fun p rest hr => by
  show (!(p && decide (z = "=")) && chk (decide (z ∈ SGN)) rest) = true
  rw [decide_eq_false h, Bool.and_false, chk_weak hr]; rfl
theorem CKn.ck {l : List Str} (h : CKn l) : CK l := fun p rest hr => h p rest (chk_weak hr false)
theorem CKn.one {z : Str} (h : z ≠ "=") (hs : z ∉ SGN) : CKn [z] := fun p rest hr => by
  show (!(p && decide (z = "=")) && chk (decide (z ∈ SGN)) rest) = true
  rw [decide_eq_false h, Bool.and_false, decide_eq_false hs, hr]; rfl
theorem CK.appn {l m : List Str} (a : CK l) (b : CKn m) : CKn (l ++ m) := fun p rest h => by
  rw [List.append_assoc]; exact a p _ (b true rest h)
theorem CKn.eq {l : List Str} (a : CKn l) {s : Str} {m : List Str} (b : CK m) : CK (l ++ [s] ++ m) := fun p rest h => by
  rw [List.append_assoc, List.append_assoc]
  refine a p _ ?_
  show (!(false && decide (s = "=")) && chk (decide (s ∈ SGN)) (m ++ rest)) = true
  rw [b _ rest h]; rfl
/-- good words: tokens of letters or digits -/
theorem n11_gt : ∀ n ∈ n11, n.cps.toList ≠ [] ∧ (∀ c ∈ n.cps.toList, c ∈ LET.cps.toList) ∧ n ≠ "=" ∧ n ∉ SGN ∧ n.length ≤ 8 := by decide +kernel
theorem num_gt : ∀ n ∈ NUM, ((toString n : String) : Str).cps.toList ≠ [] ∧ (∀ c ∈ ((toString n : String) : Str).cps.toList, c ∈ DIG.cps.toList) ∧ ((toString n : String) : Str) ≠ "=" ∧ ((toString n : String) : Str) ∉ SGN ∧ ((toString n : String) : Str).length ≤ 8 := by decide +kernel
theorem wrd_gt : ∀ n ∈ (["and", "or", "not", "true", "false", "name", "k", "kk", "where", "abcdefgh"] : List Str), n.cps.toList ≠ [] ∧ (∀ c ∈ n.cps.toList, c ∈ LET.cps.toList) ∧ n ≠ "=" ∧ n ∉ SGN ∧ n.length ≤ 8 := by decide +kernel
theorem sgn_len : ∀ n ∈ SGN, n.length ≤ 8 := by decide +kernel
theorem sig_sgn : ∀ s ∈ SIG, s ∈ SGN := by decide +kernel
structure Gd (z : Str) : Prop where
  gt : GT z
  len : z.length ≤ 8
theorem gd_word {z : Str} (h : z ∈ (["and", "or", "not", "true", "false", "name", "k", "kk", "where", "abcdefgh"] : List Str)) : Gd z := ⟨.let_ (wrd_gt z h).1 (wrd_gt z h).2.1, (wrd_gt z h).2.2.2.2⟩
theorem gd_sgn {z : Str} (h : z ∈ SGN) : Gd z := ⟨.sgn h, sgn_len z h⟩
theorem term_gd {cols : List Col} (g : Good n11 cols) {t : LT} (h : LTok cols.length t) : Gd (termS cols t) ∧ CKn [termS cols t] := by
  obtain ⟨f, pl, num⟩ := t
  cases pl with
  | none =>
    obtain ⟨q1, q2, q3, q4, q5⟩ := num_gt num h.num
    exact ⟨⟨.dig q1 q2, q5⟩, .one q3 q4⟩
  | some j =>
    have hj : j < cols.length := h.pl j rfl
    have e : termS cols ⟨f, some j, num⟩ = (cols[j]).1 := by
      show (cols.getD j ("", 0)).1 = _
      rw [List.getD_eq_getElem?_getD, List.getElem?_eq_getElem hj]; rfl
    rw [e]
    obtain ⟨q1, q2, q3, q4, q5⟩ := n11_gt _ (g.names _ (List.getElem_mem hj))
    exact ⟨⟨.let_ q1 q2, q5⟩, .one q3 q4⟩
theorem sum_gd {cols : List Col} (g : Good n11 cols) {l : List LT} (ok : SumOk cols.length l) : (∀ z ∈ sumS cols l, Gd z) ∧ CKn (sumS cols l) ∧ (sumS cols l).length ≤ 3 := by
  obtain ⟨n1, n2, n3, _⟩ := ok
  match l, n1, n2 with
  | [t], _, _ =>
    obtain ⟨q1, q2⟩ := term_gd g (n3 t (by simp))
    refine ⟨fun z hz => ?_, q2, by show 1 ≤ 3; decide⟩
    rw [List.mem_singleton.mp hz]; exact q1
  | [t, v], _, _ =>
    obtain ⟨q1, q2⟩ := term_gd g (n3 t (by simp))
    obtain ⟨p1, p2⟩ := term_gd g (n3 v (by simp))
    have hs : (if v.f = 1 then ("+" : Str) else "-") ∈ SGN ∧ (if v.f = 1 then ("+" : Str) else "-") ≠ "=" := by
      split <;> decide +kernel
    have e : sumS cols [t, v] = [termS cols t] ++ [if v.f = 1 then ("+" : Str) else "-"] ++ [termS cols v] := rfl
    rw [e]
    refine ⟨fun z hz => ?_, (q2.ck.app (.one hs.2)).appn p2, by simp⟩
    simp only [List.append_assoc, List.cons_append, List.nil_append, List.mem_cons, List.not_mem_nil, or_false] at hz
    rcases hz with rfl | rfl | rfl
    · exact q1
    · exact gd_sgn hs.1
    · exact p1
def depT : Tr → Nat
  | .no t => depT t + 1
  | .two _ a b => max (depT a) (depT b) + 1
  | _ => 0
def tokN : Nat → Nat
  | 0 => 7
  | n + 1 => 2 * tokN n + 3
theorem tokN_mono : ∀ {n m : Nat}, n ≤ m → tokN n ≤ tokN m := by
  intro n m h
  induction h with
  | refl => exact Nat.le_refl _
  | step _ ih => exact Nat.le_trans ih (by show _ ≤ 2 * tokN _ + 3; omega)
theorem tree_gd {cols : List Col} (g : Good n11 cols) : ∀ (t : Tr) (u : Str), TrOk cols.length t → (∀ z ∈ tokT cols t u, Gd z) ∧ CK (tokT cols t u) ∧ (tokT cols t u).length ≤ tokN (depT t)
  | .plain b, u, _ => by
    refine ⟨fun z hz => ?_, CK.one ?_, by show 1 ≤ 7; decide⟩
    · rw [List.mem_singleton.mp (hz : z ∈ [tfS b])]
      cases b <;> exact gd_word (by decide +kernel)
    · cases b <;> decide +kernel
  | .name e z, u, ok => by
    have hz : z ∈ (["and", "or", "not", "true", "false", "name", "k", "kk", "where", "abcdefgh"] : List Str) := by
      have : ∀ z ∈ NMS, z ∈ (["and", "or", "not", "true", "false", "name", "k", "kk", "where", "abcdefgh"] : List Str) := by decide +kernel
      exact this z ok
    have he : eqS e ∈ SGN := by cases e <;> decide +kernel
    have q := wrd_gt z hz
    refine ⟨fun y hy => ?_, ?_, by show 3 ≤ 7; decide⟩
    · rcases List.mem_cons.mp (hy : y ∈ [("name" : Str), eqS e, z]) with rfl | hy
      · exact gd_word (by decide +kernel)
      rcases List.mem_cons.mp hy with rfl | hy
      · exact gd_sgn he
      rw [List.mem_singleton.mp hy]
      exact gd_word hz
    · exact CKn.eq (l := ["name"]) (.one (by decide +kernel) (by decide +kernel)) (CK.one q.2.2.1)
  | .cmp l s r, u, ok => by
    obtain ⟨a1, a2, a3⟩ := sum_gd g ok.1
    obtain ⟨b1, b2, b3⟩ := sum_gd g ok.2.2
    refine ⟨fun z hz => ?_, a2.eq b2.ck, ?_⟩
    · rcases List.mem_append.mp (hz : z ∈ sumS cols l ++ [s] ++ sumS cols r) with hz | hz
      · rcases List.mem_append.mp hz with hz | hz
        · exact a1 z hz
        · rw [List.mem_singleton.mp hz]; exact gd_sgn (sig_sgn s ok.2.1)
      · exact b1 z hz
    · show (sumS cols l ++ [s] ++ sumS cols r).length ≤ 7
      rw [List.length_append, List.length_append, List.length_singleton]; omega
  | .no t, u, ok => by
    obtain ⟨a1, a2, a3⟩ := tree_gd g t "not" ok
    refine ⟨fun z hz => ?_, (CK.one (by decide +kernel)).app a2, ?_⟩
    · rcases List.mem_append.mp (hz : z ∈ [("not" : Str)] ++ tokT cols t "not") with hz | hz
      · rw [List.mem_singleton.mp hz]; exact gd_word (by decide +kernel)
      · exact a1 z hz
    · show ([("not" : Str)] ++ tokT cols t "not").length ≤ 2 * tokN (depT t) + 3
      rw [List.length_append, List.length_singleton]; omega
  | .two o x y, u, ok => by
    obtain ⟨a1, a2, a3⟩ := tree_gd g x (opS o) ok.1
    obtain ⟨b1, b2, b3⟩ := tree_gd g y (opS o) ok.2
    have m1 := tokN_mono (Nat.le_max_left (depT x) (depT y))
    have m2 := tokN_mono (Nat.le_max_right (depT x) (depT y))
    have ho : opS o ∈ (["and", "or", "not", "true", "false", "name", "k", "kk", "where", "abcdefgh"] : List Str) := by cases o <;> decide +kernel
    have M : (∀ z ∈ tokT cols x (opS o) ++ [opS o] ++ tokT cols y (opS o), Gd z) ∧ CK (tokT cols x (opS o) ++ [opS o] ++ tokT cols y (opS o)) ∧ (tokT cols x (opS o) ++ [opS o] ++ tokT cols y (opS o)).length ≤ 2 * tokN (max (depT x) (depT y)) + 1 := by
      refine ⟨fun z hz => ?_, (a2.app (.one (wrd_gt _ ho).2.2.1)).app b2, ?_⟩
      · rcases List.mem_append.mp hz with hz | hz
        · rcases List.mem_append.mp hz with hz | hz
          · exact a1 z hz
          · rw [List.mem_singleton.mp hz]; exact gd_word ho
        · exact b1 z hz
      · rw [List.length_append, List.length_append, List.length_singleton]; omega
    obtain ⟨M1, M2, M3⟩ := M
    rw [tok_two]
    by_cases c : u = "not" ∨ (u = "and" ∧ o = true)
    · rw [if_pos c]
      refine ⟨fun z hz => ?_, ((CK.one (by decide +kernel)).app M2).app (.one (by decide +kernel)), ?_⟩
      · rcases List.mem_append.mp hz with hz | hz
        · rcases List.mem_append.mp hz with hz | hz
          · rw [List.mem_singleton.mp hz]; exact gd_sgn (by decide +kernel)
          · exact M1 z hz
        · rw [List.mem_singleton.mp hz]; exact gd_sgn (by decide +kernel)
      · show _ ≤ 2 * tokN (max (depT x) (depT y)) + 3
        rw [List.length_append, List.length_append, List.length_singleton, List.length_singleton]; omega
    · rw [if_neg c]
      refine ⟨M1, M2, ?_⟩
      show _ ≤ 2 * tokN (max (depT x) (depT y)) + 3
      omega
end Nw
namespace Nw
open PySem L2 PySem.Spec PyProof.Rows RZ
/-- a condition's fields -/
def cf (md : Addr) (z : Str) (x bd : Addr) : List (Str × V) := [("_meaning", .ref md), ("_text", .str z), ("_table", .ref x), ("_bits", .ref bd)]
def cf3 (md : Addr) (z : Str) (x : Addr) : List (Str × V) := [("_meaning", .ref md), ("_text", .str z), ("_table", .ref x)]
def cf2 (md : Addr) (z : Str) : List (Str × V) := [("_meaning", .ref md), ("_text", .str z)]
def cf1 (md : Addr) : List (Str × V) := [("_meaning", .ref md)]
theorem cf_m (md : Addr) (z : Str) (x bd : Addr) : (cf md z x bd).lookup ("_meaning" : Str) = some (.ref md) := by
  simp [cf, List.lookup]
theorem cfe1 : (("_bits" : Str) == ("_meaning" : Str)) = false := by decide +kernel
theorem cfe2 : (("_bits" : Str) == ("_text" : Str)) = false := by decide +kernel
theorem cfe3 : (("_bits" : Str) == ("_table" : Str)) = false := by decide +kernel
theorem cfe4 : (("_text" : Str) == ("_meaning" : Str)) = false := by decide +kernel
theorem cfe5 : (("_table" : Str) == ("_meaning" : Str)) = false := by decide +kernel
theorem cfe6 : (("_table" : Str) == ("_text" : Str)) = false := by decide +kernel
theorem cf_b (md : Addr) (z : Str) (x bd : Addr) : (cf md z x bd).lookup ("_bits" : Str) = some (.ref bd) := by
  simp [cf, List.lookup, cfe1, cfe2, cfe3]
theorem cf_z (md : Addr) (z : Str) (x bd : Addr) : (cf md z x bd).lookup ("_text" : Str) = some (.str z) := by
  simp [cf, List.lookup, cfe4]
theorem cf_t (md : Addr) (z : Str) (x bd : Addr) : (cf md z x bd).lookup ("_table" : Str) = some (.ref x) := by
  simp [cf, List.lookup, cfe5, cfe6]
theorem cf_no (md : Addr) (z : Str) (x bd : Addr) {m : Str} (h1 : m ≠ "_meaning") (h2 : m ≠ "_text") (h3 : m ≠ "_table") (h4 : m ≠ "_bits") : (cf md z x bd).lookup m = none := by
  unfold cf
  simp [List.lookup, show (m == ("_meaning" : Str)) = false by simpa using h1, show (m == ("_text" : Str)) = false by simpa using h2, show (m == ("_table" : Str)) = false by simpa using h3, show (m == ("_bits" : Str)) = false by simpa using h4]
theorem cf_put1 (md : Addr) : putF "_meaning" (.ref md) [] = cf1 md := rfl
theorem cf_put2 (md : Addr) (z : Str) : putF "_text" (.str z) (cf1 md) = cf2 md z := by
  show (if ("_meaning" : Str) = "_text" then _ else (("_meaning" : Str), V.ref md) :: putF "_text" (V.str z) []) = _
  rw [if_neg (by decide +kernel)]; rfl
theorem cf_put3 (md : Addr) (z : Str) (x : Addr) : putF "_table" (.ref x) (cf2 md z) = cf3 md z x := by
  show (if ("_meaning" : Str) = "_table" then _ else (("_meaning" : Str), V.ref md) :: if ("_text" : Str) = "_table" then _ else (("_text" : Str), V.str z) :: putF "_table" (V.ref x) []) = _
  rw [if_neg (by decide +kernel), if_neg (by decide +kernel)]; rfl
theorem cf_put4 (md : Addr) (z : Str) (x bd : Addr) : putF "_bits" (.ref bd) (cf3 md z x) = cf md z x bd := by
  show (if ("_meaning" : Str) = "_bits" then _ else (("_meaning" : Str), V.ref md) :: if ("_text" : Str) = "_bits" then _ else (("_text" : Str), V.str z) :: if ("_table" : Str) = "_bits" then _ else (("_table" : Str), V.ref x) :: putF "_bits" (V.ref bd) []) = _
  rw [if_neg (by decide +kernel), if_neg (by decide +kernel), if_neg (by decide +kernel)]; rfl
/-- a condition, stable -/
def CondAt (P : Program) (w : World) (CT CC : Addr) (G : Hp) (c x : Addr) (cols : List Col) (z : Str) (m : Nk) : Prop := ∃ (dx md bd : Addr) (o : Obj), G c = some (.ins CC dx (cf md z x bd)) ∧ G dx = some (.own c) ∧ Mn P w G md m ∧ TabF CT G x cols ∧
  G bd = some (.frz o (.dT (bitsD (allV (cols.map (·.2))) (allV (cols.map (·.2))).length)))
theorem CondAt.mono {P : Program} {w : World} {CT CC : Addr} {G G' : Hp} {c x : Addr} {cols : List Col} {z : Str} {m : Nk} (s : Same G G') (h : CondAt P w CT CC G c x cols z m) : CondAt P w CT CC G' c x cols z m := by
  obtain ⟨dx, md, bd, o, h1, h2, h3, h4, h5⟩ := h
  exact ⟨dx, md, bd, o, s _ _ h1, s _ _ h2, h3.mono s, h4.mono s, s _ _ h5⟩
/-- what the top leaves of the class Condition -/
structure CondC (K : PySem.W.Frag) (C : Addr) : Prop where
  cl : Cls K C
  nM : NoAttr K C "_meaning"
  nX : NoAttr K C "_text"
  nT : NoAttr K C "_table"
  nB : NoAttr K C "_bits"
def spCond (P : Program) (w : World) (CT CC : Addr) : Sp := fun vs H Q _ => ∃ (c dx x : Addr) (z : Str) (e : Nat) (f : Leaf → Int) (cols : List Col) (H0 G : Hp), vs = [.ref c, .str z, .ref x] ∧ H0 c = none ∧ H0 dx = none ∧ dx ≠ c ∧ H = upd (upd H0 dx (.own c)) c (.ins CC dx []) ∧
  z.length ≤ 10000 ∧ (allToks z).length ≤ 400 ∧ (∀ t ∈ allToks z, t.1.length ≤ 600) ∧ TabF CT G x cols ∧ Good n11 cols ∧ Run cols (2 ^ (allV (cols.map (·.2))).length - 1) (allToks z) [] (Lv.zero (2 ^ (allV (cols.map (·.2))).length - 1)) 0 f e ∧ Same G H0 ∧
  ∀ (m : Nk) (H' G' : Hp), Xt none H0 G H' G' → CondAt P w CT CC G' c x cols (Txt.join " " ((allToks z).dropLast.map (·.1))) m → (∀ k, mv m k = f k) → (∀ k ∈ m.map (·.1), k ∈ keysOf (allToks z)) → Q .non H'
theorem allV_nd {cols : List Col} (g : Good n11 cols) : (allV (cols.map (·.2))).Nodup := by
  have key1 : ∀ a ∈ ([1, 2, 3] : List Int), (allV [a]).Nodup := by decide +kernel
  have key2 : ∀ a ∈ ([1, 2, 3] : List Int), ∀ b ∈ ([1, 2, 3] : List Int), (allV [a, b]).Nodup := by decide +kernel
  have key3 : ∀ a ∈ ([1, 2, 3] : List Int), ∀ b ∈ ([1, 2, 3] : List Int), ∀ c ∈ ([1, 2, 3] : List Int), (allV [a, b, c]).Nodup := by decide +kernel
  have t3 : ∀ c ∈ cols, c.2 ∈ ([1, 2, 3] : List Int) := fun c hc => by
    rcases tops3 (g.tops c hc) with e | e | e <;> rw [e] <;> decide
  match cols, g.len, t3 with
  | [a], _, t => exact key1 _ (t a (by simp))
  | [a, b], _, t => exact key2 _ (t a (by simp)) _ (t b (by simp))
  | [a, b, c], _, t => exact key3 _ (t a (by simp)) _ (t b (by simp)) _ (t c (by simp))
  | [], h, _ => exact absurd h.1 (by decide)
  | _ :: _ :: _ :: _ :: _, h, _ => exact absurd h.2 (by simp)
theorem rows64 {cols : List Col} (good : Good n11 cols) : (allV (cols.map (·.2))).length ≤ 64 := by
  have hl : (cols.map (·.2)).length ≤ 3 := by rw [List.length_map]; exact good.len.2
  have := allV_small (tops := cols.map (·.2)) (i := 3) hl (fun t ht => by
    obtain ⟨c, hc, rfl⟩ := List.mem_map.mp ht
    exact good.tops c hc)
  rwa [List.take_of_length_le hl] at this
section
variable {P : Program} {w : World} {K : PySem.W.Frag} {mg : Str → Option Value} {base : Heap}
theorem cInit {f CC CT : Addr} {fd : FuncData} (F : C8.Fun K "__init__" "Condition.__init__" s_Condition____init__ f fd) (b : Binds K fd P_Condition____init__ []) (M : Mk K CC f) (hm : mg "Condition" = some (.ref CC)) (T : Names K mg) (CF : CondC K CC)
    (c_split_tokens : C8.Cal P w K mg base 3 "split_tokens" spSplit []) (c_read_condition : C8.Cal P w K mg base 6 "read_condition" (spReadCond P w CT) []) (c_joined_tokens : C8.Cal P w K mg base 1 "joined_tokens" spJoin []) (c_Table__all_values : C8.Met P w K mg base 1 CT "all_values" (spAllValuesF CT) []) : C8.Mak P w K mg base 7 "Condition" CC (spCond P w CT CC) [] := by
  refine C8.mak0 (N := N_Condition____init__) M hm F b .nil sc_Condition____init__ (fun vs H Q E h => ?_) (fun cdv A outer s H vs Q E hr h => ?_)
  · obtain ⟨c, dx, x, z, e, f, cols, H0, G, rfl, _⟩ := h
    rfl
  · obtain ⟨c, dx, x, z, e, f, cols, H0, G, rfl, nc, ndx, nec, hH, hz, hts, hsh, tab, good, run, sG, k⟩ := h
    have hu := hu_of hr
    refine ⟨_, (pss_cons (ps_if (pt_not (pt_val (pe_callB call_isi (by rfl) T.n_isinstance (by decide +kernel) (pa_cons (pv 1) (pa_cons (pe_bltn (v := .ty "str") (u := .type "str") (by rfl) T.n_str (by decide +kernel) rfl) pa_nil))))) (pss_one ps_never) pss_nil)
 (pss_cons (ps_set (i := 3) sc_Condition____init__.nd rfl (Or.inl rfl) (C8.pe_c c_split_tokens hr (by decide) rfl (pa_cons (pv 1) pa_nil)))
 (pss_cons (ps_try_thru0 (pss_one (ps_fld (pv 0) (C8.pe_c c_read_condition hr (by decide) rfl (pa_cons (pv 3) (pa_cons (pv 2) pa_nil))) rfl)))
 (pss_cons (ps_fld (pv 0) (C8.pe_c c_joined_tokens hr (by decide) rfl (pa_cons (pv 3) pa_nil)) rfl)
 (pss_cons (ps_fld (pv 0) (pv 2) rfl)
 (pss_one (ps_fld (pv 0) (pe_frz (pe_tdc (g := (gTup K 2 (gCons (gName 5) (gCons (gName 6) gNil)))) (tt := tYes) (own := [("bit", 5), ("values", 6)]) hu rfl sc_Condition____init__.nd (pi_enum (by rfl) T.n_enumerate (pa_cons (C8.pe_mt0 c_Table__all_values hr (by decide) (pv 2)) pa_nil)) (blkOk_by (own := [("bit", 5), ("values", 6)]) (N := N_Condition____init__) (sc := C8.fnScope s_Condition____init__) (by decide +kernel)) (fun _ _ _ _ _ => (pg_tup rfl (pgs_cons (pg_name (i := 5) sc_Condition____init__.nd rfl (Or.inl rfl)) (pgs_cons (pg_name (i := 6) sc_Condition____init__.nd rfl (Or.inl rfl)) pgs_nil)))) (fun _ _ _ _ _ => pts_nil) (fun _ _ _ _ _ => (pv 6)) (fun _ _ _ _ _ => (pv 5)))) rfl))))))), ?_⟩
    have hdx0 : upd H0 dx (.own c) c = none := by rw [upd_ne nec.symm]; exact nc
    have X0 : Xt none H0 G H G := by rw [hH]; exact (Xt.tmp sG ndx).allocT hdx0
    have hC : H c = some (.ins CC dx []) := by rw [hH]; exact upd_same
    have hD : H dx = some (.own c) := by rw [hH, upd_ne nec]; exact upd_same
    have gc : G c = none := sG.free nc
    have gdx : G dx = none := sG.free ndx
    clear hH hdx0
    obtain ⟨dxT, cxT, txT, t1, t2, t3, t4⟩ := id tab
    refine ⟨_, rfl, _, _, _, _, true, rfl, .ty _, .base (.str z), kit_ty (by decide +kernel), _, rfl, ?_⟩
    refine iteF ⟨_, rfl, z, G, rfl, hz, X0.sub, fun tk H1 G1 X1 dtk => ?_⟩
    have toks : Toks G1 tk (allToks z) := ⟨dtk, by omega, hsh⟩
    have Y1 := X0.trans X1
    refine ⟨_, rfl, _, rfl, tk, x, e, allToks z, f, cols, G1, rfl, toks, hts, tab.mono X1.gg, good, run, X1.sub, fun md m H2 G2 X2 hm2 hv2 hk2 => ?_⟩
    have Y2 := Y1.trans X2
    have nn : ∀ a : Addr, (none : Option Addr) ≠ some a := fun a q => by cases q
    have hC2 := (X1.trans X2).hh c _ (nn _) hC
    have hD2 := (X1.trans X2).hh dx _ (nn _) hD
    have gc2 := (X1.trans X2).non (ne_none_of hC) gc
    have gdx2 := (X1.trans X2).non (ne_none_of hD) gdx
    refine ⟨_, rfl, c, CC, dx, _, rfl, hC2, CF.cl, CF.nM, (by show 0 < 1000; decide), ?_⟩
    rw [cf_put1]
    have Y3 := Y2.set (o := .ins CC dx (cf1 md)) nc gc2
    refine ⟨_, rfl, tk, allToks z, G2, rfl, toks.mono X2.gg, Y3.sub, fun H4 X4 => ?_⟩
    have Y4 := Y3.trans X4
    have hC4 : H4 c = some (.ins CC dx (cf1 md)) := X4.hh c _ (nn _) upd_same
    have hD4 : H4 dx = some (.own c) := X4.hh dx _ (nn _) (by rw [upd_ne nec]; exact hD2)
    refine ⟨_, rfl, c, CC, dx, _, rfl, hC4, CF.cl, CF.nX, (by show 1 < 1000; decide), ?_⟩
    rw [cf_put2]
    have Y5 := Y4.set (o := .ins CC dx (cf2 md (Txt.join " " ((allToks z).dropLast.map (·.1))))) nc gc2
    refine ⟨_, rfl, _, rfl, c, CC, dx, _, rfl, upd_same, CF.cl, CF.nT, (by show 2 < 1000; decide), ?_⟩
    rw [cf_put3]
    have Y6 := Y5.set (o := .ins CC dx (cf3 md (Txt.join " " ((allToks z).dropLast.map (·.1))) x)) nc gc2
    revert Y6
    generalize Txt.join " " ((allToks z).dropLast.map (·.1)) = zt at k ⊢
    intro Y6
    have hC6 := @upd_same (upd H4 c (.ins CC dx (cf2 md zt))) c (HO.ins CC dx (cf3 md zt x))
    have hD6 : (upd (upd H4 c (.ins CC dx (cf2 md zt))) c (.ins CC dx (cf3 md zt x))) dx = some (.own c) := by rw [upd_ne nec, upd_ne nec]; exact hD4
    generalize upd (upd H4 c (.ins CC dx (cf2 md zt))) c (.ins CC dx (cf3 md zt x)) = H6 at Y6 hC6 hD6 ⊢
    have tab6 : TabF CT G2 x cols := tab.mono Y2.gg
    refine ⟨_, rfl, x, dxT, _, rfl, Y6.sub _ _ (Y6.gg _ _ t1), tf_no _ _ (by decide +kernel) (by decide +kernel), x, cols, G2, rfl, tab6, good, Y6.sub, fun pv xv H7 G7 X7 p0 gpv g7v dv => ?_⟩
    have r64 := rows64 good
    have rnd := allV_nd good
    obtain ⟨rows, erows⟩ : ∃ rows, rows = allV (cols.map (·.2)) := ⟨_, rfl⟩
    have kk : ∀ (m : Nk) (H' G' : Hp), Xt none H0 G H' G' → (∃ (dx md bd : Addr) (o : Obj), G' c = some (.ins CC dx (cf md zt x bd)) ∧ G' dx = some (.own c) ∧ Mn P w G' md m ∧ TabF CT G' x cols ∧ G' bd = some (.frz o (.dT (bitsD rows rows.length)))) → (∀ k, mv m k = f k) → (∀ k ∈ m.map (·.1), k ∈ keysOf (allToks z)) → Q .non H' := by
      rw [erows]; exact k
    rw [← erows] at dv r64 rnd
    clear k
    have lv := dv.length
    rw [dRows, List.length_map] at lv
    have X8 := X7.fix p0 gpv
    have dv8 := dv.mono (upd_same_ (o := HO.lst xv) g7v)
    have gp8 : upd G7 pv (.lst xv) pv = some (.lst xv) := upd_same
    generalize upd G7 pv (.lst xv) = G8 at X8 dv8 gp8
    refine ⟨pv, xv, rfl, SqL.of gpv, fun Dl hDl => ?_⟩
    refine tdc_it (walk_enum (xs := xv)) (fun i H' => ∃ (G' : Hp), Xt none H7 G8 H' G' ∧ H' Dl = some (.dT (bitsD rows i)) ∧ G' Dl = none) ?_ ?_ ?_ ?_
    · exact ⟨G8, Xt.tmp X8.sub hDl, upd_same, X8.sub.free hDl⟩
    · rintro i H' hi ⟨G', X, _⟩
      exact SqL.of (X.sub _ _ (X.gg _ _ gp8))
    · rintro i y H9 H10 hi ⟨G9, X9, h9, g9⟩ ⟨T_, u1, u2, rfl, hT, rfl, y1, y2⟩
      obtain rfl := Option.some.inj y1
      obtain ⟨row, rt, hrow, rfl, hrt⟩ := rows_at (dv8.mono X9.gg) y2
      have ilt : i < rows.length := (List.getElem?_eq_some_iff.mp hrow).1
      have X10 := X9.allocT (o := .tup [.int ((i : Nat) : Int), .ref rt]) hT
      have nT : Dl ≠ T_ := fun q => by subst q; rw [h9] at hT; cases hT
      refine ⟨T_, _, rfl, SqT.of upd_same, rfl, _, _, rfl, _, _, rfl, rfl, rfl, _, rfl, _, rfl, bitsD rows i, rowKey rows i, rt, rfl, ?_, ?_, ?_, ?_⟩
      · rw [rowKey_kV hrow]
        exact X10.sub _ _ hrt
      · rw [upd_ne nT]; exact h9
      · rw [bitsD_len]; exact small_lt (by omega)
      · rw [bitsD_put rnd ilt]
        exact ⟨G9, X10.set hDl g9, upd_same, g9⟩
    · rintro H9 ⟨G9, X9, h9, g9⟩
      rw [lv] at h9
      refine ⟨Dl, _, rfl, h9, True.intro, fun od => ?_⟩
      have X10 := (X9.set (o := .frz od (.dT (bitsD rows rows.length))) hDl g9).fix hDl upd_same
      have Z := X8.trans X10
      have hC10 := Z.hh c _ (nn _) hC6
      have hD10 := Z.hh dx _ (nn _) hD6
      have gc10 := Z.non (ne_none_of hC6) gc2
      have gdx10 := Z.non (ne_none_of hD6) gdx2
      have hb10 : (upd G9 Dl (HO.frz od (.dT (bitsD rows rows.length)))) Dl = some (HO.frz od (.dT (bitsD rows rows.length))) := upd_same
      generalize upd H9 Dl (.frz od (.dT (bitsD rows rows.length))) = H10 at X10 Z hC10 hD10 ⊢
      generalize upd G9 Dl (HO.frz od (.dT (bitsD rows rows.length))) = G10 at X10 Z gc10 gdx10 hb10
      refine ⟨_, rfl, c, CC, dx, _, rfl, hC10, CF.cl, CF.nB, (by show 3 < 1000; decide), ?_⟩
      rw [cf_put4]
      have W1 := (Y6.trans Z).set (o := .ins CC dx (cf md zt x Dl)) nc gc10
      have W2 := W1.fix nc upd_same
      have W3 := W2.fix (l := dx) (o := .own c) ndx (by rw [upd_ne nec]; exact hD10)
      have s10 : Same G10 (upd (upd G10 c (.ins CC dx (cf md zt x Dl))) dx (.own c)) := fun u o h => by
        rw [upd_ne (ne_of_none h gdx10), upd_ne (ne_of_none h gc10)]; exact h
      refine kk m _ _ W3 ⟨dx, md, Dl, od, ?_, upd_same, ?_, ?_, s10 _ _ hb10⟩ hv2 hk2
      · rw [upd_ne nec.symm, upd_same]
      · exact (hm2.mono (Z.gg)).mono s10
      · exact (tab6.mono Z.gg).mono s10
end
end Nw
namespace Nw
open PySem L2 PySem.Spec PyProof.Rows RZ
/-- asking a condition -/
def spAsk (P : Program) (w : World) (CT CC : Addr) : Sp := fun vs H Q _ => ∃ (c x t : Addr) (k : Leaf) (cols : List Col) (z : Str) (m : Nk) (i : Nat) (row : List Int) (G : Hp), vs = [.ref c, .ref t, nV k] ∧ CondAt P w CT CC G c x cols z m ∧ Good n11 cols ∧ (allV (cols.map (·.2)))[i]? = some row ∧ H t = some (.tup (row.map V.int)) ∧ Same G H ∧
  Q (.bl (decide (Builtin.bitAnd (mv m k / 2 ^ i) 1 = 1))) H
section
variable {P : Program} {w : World} {K : PySem.W.Frag} {mg : Str → Option Value} {base : Heap}
theorem cCall {f CC CT : Addr} {fd : FuncData} (F : C8.Fun K "__call__" "Condition.__call__" s_Condition____call__ f fd) (CF : CondC K CC) (c_bits_for : C8.Cal P w K mg base 1 "bits_for" (spBits P w) []) : FnOk P w K mg base CX0 2 f fd P_Condition____call__ (spAsk P w CT CC) := by
  refine C8.fn0 (N := N_Condition____call__) F sc_Condition____call__ (fun vs H Q E h => ?_) (fun cdv A outer s H vs Q E hr h => ?_)
  · obtain ⟨c, x, t, k, cols, z, m, i, row, G, rfl, _⟩ := h
    rfl
  · obtain ⟨c, x, t, k, cols, z, m, i, row, G, rfl, ca, good, hi, ht, sG, q⟩ := h
    have hu := hu_of hr
    obtain ⟨dx, md, bd, o, h1, h2, h3, h4, h5⟩ := id ca
    have lt := (List.getElem?_eq_some_iff.mp hi).1
    refine ⟨_, (pss_one (ps_ret (pe_cmpR op_eq (pe_op op_and (pe_op op_shr (C8.pe_c c_bits_for hr (by decide) rfl (pa_cons (pe_fld (pv 0) rfl) (pa_cons (pv 2) pa_nil))) (pe_dget hu (pe_fld (pv 0) rfl) (pv 1) (fun _ _ => rfl))) pe_int) pe_int (nomark _)))), ?_⟩
    refine ⟨_, rfl, c, CC, dx, _, _, rfl, sG _ _ h1, CF.cl, CF.nM, cf_m _ _ _ _, _, rfl, md, k, m, G, rfl, h3, sG, ?_⟩
    refine ⟨_, rfl, c, CC, dx, _, _, rfl, sG _ _ h1, CF.cl, CF.nB, cf_b _ _ _ _, _, rfl, bd, .int (i : Int), rfl, .inr ⟨_, rowKey (allV (cols.map (·.2))) i, t, .inr ⟨o, sG _ _ h5⟩, rfl, ?_, (bitsD_get (allV_nd good) _ i lt (Nat.le_refl _)).symm⟩, ?_⟩
    · rw [rowKey_kV hi]; exact ht
    refine ⟨_, _, rfl, rfl, Int.natCast_nonneg i, _, _, rfl, rfl, rfl, ?_⟩
    have e : ∀ a b : Int, decide (V.int a = V.int b) = decide (a = b) := fun a b => by
      by_cases c : a = b
      · rw [c]; simp
      · rw [decide_eq_false c, decide_eq_false fun q => c (by injection q)]
    rw [e, Int.toNat_natCast]
    exact q
/-- a class whose instances are called: by a promise -/
structure CalC (P : Program) (w : World) (K : PySem.W.Frag) (mg : Str → Option Value) (base : Heap) (k : Nat) (C : Addr) (sp : Sp) : Prop where
  ex : ∃ g : Addr, StX.CallO K C g ∧ FnR P w K mg base CX0 k g sp
end
/-- told(a, ..) -/
theorem pe_co {X : Cx} {k j : Nat} {C : Addr} {sp : Sp} {e fe : Expr} {es : List Expr} {tf : TE} {t : TA} {pos : Pos} (c : CalC X.prog X.w X.K X.mg X.base k C sp) (hr : Room j X.A) (hk : k ≤ j) (hf : PE X fe tf) (ha : PA X (e :: es) t)
    (ht : eval (.Call fe (e :: es) [] pos) X.env = (do callWith pos (← eval fe X.env) [] (backTo pos (starEach (e :: es) X.env)) (backToKw pos (keywordEach [] X.env))) := by rfl)
    (he : starEach (e :: es) X.env = (false, eval e X.env) :: starEach es X.env := by rfl) (hpl : (backTo pos (starEach es X.env)).any (·.1) = false := by rfl) : PE X (.Call fe (e :: es) [] pos) (StX.tCallO X C sp E0 tf t) := by
  obtain ⟨g, c1, c2⟩ := c.ex
  exact StX.pe_callO hf c1 c2 (hr.mono hk) pass0 ha ht he hpl
end Nw
namespace Nw
open PySem L2 PySem.Spec PyProof.Rows RZ
theorem lt_sh (l : List LT) : SeqAt.shaped (.list (l.map dLT)) = true := shaped_lst (layAll_map _ 63 _ fun t _ => by
  obtain ⟨f, pl, num⟩ := t
  cases pl <;> exact ⟨rfl, by show 1 ≤ 63; decide⟩)
theorem nil_sh : SeqAt.shaped (.list []) = true := rfl
theorem eqv_nil (ds : List PyData) : PyData.eqv (.list ds) (.list []) = decide (ds = []) := by
  cases ds <;> rfl
/-- _law_sum -/
def spLSum : Sp := fun vs H Q _ => ∃ (b a : Addr) (c : Int) (cs : List V) (cols : List Col) (G : Hp), vs = [.ref b, .ref a] ∧ G a = some (.lst cs) ∧ DA G cs (dCols cols) ∧ Good n10 cols ∧ Bag H b c ∧ c ≤ 100000 ∧ G b = none ∧ Same G H ∧
  ∀ (p : Addr) (l : List LT) (H' G' : Hp), Xt (some b) H G H' G' → Bag H' b (c + 9) → SumOk cols.length l → D G' (.ref p) (.list (l.map dLT)) → Q (.ref p) H'
section
variable {P : Program} {w : World} {K : PySem.W.Frag} {mg : Str → Option Value} {base : Heap}
theorem lSum {f : Addr} {fd : FuncData} (F : C8.Def K mg "_law_sum" s__law_sum f fd) (b : Binds K fd P__law_sum []) (T : Names K mg) (c__law_take : C8.Cal P w K mg base 1 "_law_take" spTake []) (c__law_of : C8.Cal P w K mg base 2 "_law_of" spOf []) : C8.Cal P w K mg base 3 "_law_sum" spLSum [] := by
  refine C8.cal0 (N := N__law_sum) F b .nil sc__law_sum (fun vs H Q E h => ?_) (fun cdv A outer s H vs Q E hr h => ?_)
  · obtain ⟨b, a, c, cs, cols, G, rfl, _⟩ := h
    rfl
  · obtain ⟨b, a, c, cs, cols, G, rfl, ga, dac, good, hB, hc, gb, sG, k⟩ := h
    have hu := hu_of hr
    have lc : cs.length = cols.length := by rw [dac.length, dCols, List.length_map]
    have c1 := good.len.1
    have c3 := good.len.2
    refine ⟨_, (pss_cons (ps_set (i := 2) sc__law_sum.nd rfl (Or.inl rfl) (pe_lst pa_nil))
 (pss_cons (ps_for PassesOwn.never rfl (pi_range1 rfl T.n_range (pa_cons (pe_op op_add pe_int (C8.pe_c c__law_take hr (by decide) rfl (pa_cons (pv 0) (pa_cons pe_int pa_nil)))) pa_nil)) (pg_name (i := 3) sc__law_sum.nd rfl (Or.inl rfl)) (C8.pss_cut (ps_set (i := 4) sc__law_sum.nd rfl (Or.inl rfl) (pe_ifExp (pt_cmpR (op_eqD hr.units) (pv 2) (pe_lst pa_nil) (nomark _)) pe_int (pe_op op_sub pe_int (pe_op op_mul pe_int (C8.pe_c c__law_take hr (by decide) rfl (pa_cons (pv 0) (pa_cons pe_int pa_nil)))))))
 (pss_cons (ps_par (i := 5) (j := 6) (by rfl) sc__law_sum.nd rfl rfl (by decide) rfl rfl (pa_cons (C8.pe_c c__law_of hr (by decide) rfl (pa_cons (pv 0) (pa_cons (pe_lst (pa_cons pe_int (pa_cons pe_int (pa_cons pe_int (pa_cons pe_int (pa_cons pe_int (pa_cons pe_int pa_nil))))))) pa_nil))) (pa_cons (C8.pe_c c__law_take hr (by decide) rfl (pa_cons (pv 0) (pa_cons (pe_callB call_len_seq (by rfl) T.n_len PySem.boot_len (pa_cons (pv 1) pa_nil)) pa_nil))) pa_nil)) (by rfl))
 (pss_one (ps_expr (pe_bm PySem.F.plainAttrs_list PySem.F.slot_list_append PySem.F.type_list_append mt_append (pv 2) (pa_cons (pe_ifExp (pt_cmpR op_eq (C8.pe_c c__law_take hr (by decide) rfl (pa_cons (pv 0) (pa_cons pe_int pa_nil))) pe_int (nomark _)) (pe_tup (pa_cons (pv 4) (pa_cons pe_non (pa_cons (pv 5) pa_nil)))) (pe_tup (pa_cons (pv 4) (pa_cons (pv 6) (pa_cons pe_int pa_nil))))) pa_nil)))))))
 (pss_one (ps_ret (pv 2))))), ?_⟩
    refine ⟨Nat.zero_le _, fun f hf => ⟨_, rfl, b, 2, c, rfl, by omega, by omega, ?_, by omega, fun r x y z r0 r1 hB3 => ⟨_, _, rfl, rfl, 1 + r, rfl, by omega, by omega, ?_⟩⟩⟩
    · exact hB.new hf
    have nbf : b ≠ f := fun q => hB.ne (by rw [q]; exact hf)
    have gf : G f = none := sG.free hf
    have X2 := Xt.tmp (b := some b) (o := .lst []) sG hf
    have X3 := X2.put (o := .lst [.int x, .int y, .int z]) gb
    refine for_range (n := (1 + r).toNat) (fun i σ' H' => ∃ (G' : Hp) (v1 v2 v3 v4 : Option V) (l : List LT) (xs : List V), σ' = [some (.ref b), some (.ref a), some (.ref f), v1, v2, v3, v4] ∧ Xt (some b) H G H' G' ∧ Bag H' b (c + 1 + 4 * i) ∧
      H' f = some (.lst xs) ∧ G' b = none ∧ G' f = none ∧ DA G' xs (l.map dLT) ∧ l.length = i ∧ (∀ t ∈ l, LTok cols.length t) ∧ ∀ t, l.head? = some t → t.f = 1) ?_ ?_ ?_
    · exact ⟨G, none, none, none, none, [], [], rfl, X3, hB3.mono (by omega), by rw [upd_ne nbf.symm, upd_same], gb, gf, .nil, rfl, (fun t h => by cases h), (fun t h => by cases h)⟩
    · rintro i σ' H' hi ⟨G', v1, v2, v3, v4, l, xs, rfl, X, hB4, h2, g1, g2, da, len, tk, fst⟩
      have hi2 : i < 2 := by omega
      have hA : H' a = some (.lst cs) := X.sub _ _ (X.gg _ _ ga)
      have nab : a ≠ b := fun q => by subst q; rw [gb] at ga; cases ga
      have naf : a ≠ f := fun q => by subst q; rw [gf] at ga; cases ga
      refine ⟨fun σ2 H2 => ∃ fc : Int, σ2 = [some (.ref b), some (.ref a), some (.ref f), some (.int (0 + (i : Int))), some (.int fc), v3, v4] ∧ Xt (some b) H G H2 G' ∧ Bag H2 b (c + 1 + 4 * i + 1) ∧ H2 f = some (.lst xs) ∧ (fc = 1 ∨ fc = -1) ∧ (l = [] → fc = 1), ?_, ?_⟩
      · refine ⟨_, rfl, Nat.zero_le _, fun e0 he0 => ?_⟩
        have X4 := X.allocT (o := .lst []) he0
        have nfe : f ≠ e0 := fun q => by subst q; rw [h2] at he0; cases he0
        have nbe : b ≠ e0 := fun q => hB4.ne (by rw [q]; exact he0)
        refine ⟨.list (l.map dLT), .list [], .lst (SqL.of (by rw [upd_ne nfe]; exact h2)) (da.dp X4.sub), .lst (SqL.of upd_same) .nil, lt_sh l, nil_sh, _, rfl, ?_⟩
        rw [eqv_nil]
        have h2' : upd H' e0 (.lst []) f = some (.lst xs) := by rw [upd_ne nfe]; exact h2
        refine ite2 (fun cc => ?_) (fun cc => ?_)
        · exact ⟨1, rfl, X4, (hB4.upd nbe).mono (by omega), h2', .inl rfl, fun _ => rfl⟩
        · refine ⟨_, rfl, b, 2, _, rfl, by omega, by omega, hB4.upd nbe, by omega, fun r2 x2 y2 z2 r20 r21 hB5 => ⟨_, _, rfl, rfl, .inl ⟨by decide, by decide⟩, _, _, rfl, rfl, ?_⟩⟩
          refine ⟨1 - 2 * r2, rfl, X4.put g1, hB5, by rw [upd_ne nbf.symm]; exact h2', by omega, fun e => absurd (decide_eq_true (by rw [e]; rfl)) cc⟩
      rintro σ2 H2 ⟨fc, rfl, X2_, hB5, h5, hfc, hf1⟩
      have fin : ∀ (t : LT) (H5 : Hp) (tp : Addr) (w3 w4 : Option V) (c5 : Int), LTok cols.length t → t.f = fc → Xt (some b) H G H5 G' → Bag H5 b c5 → c5 ≤ c + 1 + 4 * ((i + 1 : Nat) : Int) → H5 f = some (.lst xs) → H5 tp = none → 
          ∃ (G' : Hp) (v1 v2 v3 v4 : Option V) (l : List LT) (xs' : List V), [some (V.ref b), some (.ref a), some (.ref f), some (.int (0 + (i : Int))), some (.int fc), w3, w4] = [some (.ref b), some (.ref a), some (.ref f), v1, v2, v3, v4] ∧ Xt (some b) H G (upd (upd H5 tp (.tup [.int t.f, (match t.pl with | none => .non | some j => .int (j : Int)), .int t.num])) f (.lst (xs ++ [.ref tp]))) G' ∧ Bag (upd (upd H5 tp (.tup [.int t.f, (match t.pl with | none => .non | some j => .int (j : Int)), .int t.num])) f (.lst (xs ++ [.ref tp]))) b (c + 1 + 4 * ((i + 1 : Nat) : Int)) ∧
      (upd (upd H5 tp (.tup [.int t.f, (match t.pl with | none => .non | some j => .int (j : Int)), .int t.num])) f (.lst (xs ++ [.ref tp]))) f = some (.lst xs') ∧ G' b = none ∧ G' f = none ∧ DA G' xs' (l.map dLT) ∧ l.length = i + 1 ∧ (∀ t ∈ l, LTok cols.length t) ∧ ∀ t, l.head? = some t → t.f = 1 := by
        intro t H5 tp w3 w4 c5 ht hfe X5 hB6 hc5 h6 htp
        have X6 := X5.alloc (o := .tup [.int t.f, (match t.pl with | none => .non | some j => .int (j : Int)), .int t.num]) htp
        have nft : f ≠ tp := fun q => by subst q; rw [h6] at htp; cases htp
        have nbt : b ≠ tp := fun q => hB6.ne (by rw [q]; exact htp)
        refine ⟨_, _, _, _, _, l ++ [t], _, rfl, X6.set hf (none_of_ne g2 nft), ((hB6.upd nbt).upd nbf).mono hc5, upd_same, none_of_ne g1 nbt, none_of_ne g2 nft, ?_, by rw [List.length_append, len]; rfl, fun u hu => ?_, fun u hu => ?_⟩
        · rw [List.map_append]
          refine (da.mono (upd_same_ (X5.sub.free htp))).append (.one (.tup upd_same (.cons (.int _) (.cons ?_ (.cons (.int _) .nil)))))
          cases t.pl
          · exact .non
          · exact .int _
        · rcases List.mem_append.mp hu with hu | hu
          · exact tk u hu
          · rw [List.mem_singleton.mp hu]; exact ht
        · cases l with
          | nil =>
            obtain rfl := Option.some.inj hu
            rw [hfe]; exact hf1 rfl
          | cons y l => exact fst u hu
      have ls : xs.length < 100000 := by have := da.length; rw [List.length_map] at this; omega
      refine ⟨_, rfl, (by show 6 ≤ sizeLine; decide), fun q hq => ?_⟩
      have nbq : b ≠ q := fun e => hB5.ne (by rw [e]; exact hq)
      have nfq : f ≠ q := fun e => by subst e; rw [h5] at hq; cases hq
      have X6 := X2_.allocT (o := .lst [V.int 0, V.int 1, V.int 2, V.int 3, V.int 10, V.int 999]) hq
      refine ⟨b, q, [V.int 0, V.int 1, V.int 2, V.int 3, V.int 10, V.int 999], _, rfl, upd_same, nbq.symm, by decide, by decide, hB5.upd nbq, by omega, fun v iv x2 y2 z2 hv hB7 => ?_⟩
      have X7 := X6.put (o := .lst [.int x2, .int y2, .int z2]) g1
      obtain ⟨num, hnum, ev⟩ : ∃ num, num ∈ NUM ∧ v = .int num := by
        have hv : (NUM.map V.int)[iv]? = some v := hv
        rw [List.getElem?_map] at hv
        obtain ⟨num, h1, h2⟩ := Option.map_eq_some_iff.mp hv
        exact ⟨num, List.mem_of_getElem? h1, h2.symm⟩
      subst ev
      have hA7 : (upd (upd H2 q (.lst [V.int 0, V.int 1, V.int 2, V.int 3, V.int 10, V.int 999])) b (.lst [.int x2, .int y2, .int z2])) a = some (.lst cs) := X7.sub _ _ (X7.gg _ _ ga)
      refine ⟨_, rfl, _, rfl, a, _, rfl, .inl (SqL.of hA7), b, _, _, rfl, by omega, by omega, hB7, by omega, fun pl x3 y3 z3 p0 p1 hB8 => ⟨_, _, rfl, ?_⟩⟩
      have X8 := X7.put (o := .lst [.int x3, .int y3, .int z3]) g1
      have h8 : (upd (upd (upd H2 q (.lst [V.int 0, V.int 1, V.int 2, V.int 3, V.int 10, V.int 999])) b (.lst [.int x2, .int y2, .int z2])) b (.lst [.int x3, .int y3, .int z3])) f = some (.lst xs) := by
        rw [upd_ne nbf.symm, upd_ne nbf.symm, upd_ne nfq]; exact h5
      generalize upd (upd (upd H2 q (.lst [V.int 0, V.int 1, V.int 2, V.int 3, V.int 10, V.int 999])) b (.lst [.int x2, .int y2, .int z2])) b (.lst [.int x3, .int y3, .int z3]) = H8 at X8 h8 hB8 ⊢
      refine ⟨_, rfl, .inl ⟨rfl, _, SqL.of h8⟩, _, rfl, b, 3, _, rfl, by omega, by omega, hB8, by omega, fun r4 x4 y4 z4 r40 r41 hB9 => ⟨rfl, _, rfl, ?_⟩⟩
      have X9 := X8.put (o := .lst [.int x4, .int y4, .int z4]) g1
      have h9 : (upd H8 b (.lst [.int x4, .int y4, .int z4])) f = some (.lst xs) := by rw [upd_ne nbf.symm]; exact h8
      generalize upd H8 b (.lst [.int x4, .int y4, .int z4]) = H9 at X9 h9 hB9 ⊢
      refine ite2 (fun cc => ?_) (fun cc => ?_)
      · refine ⟨_, rfl, _, rfl, (by show 3 ≤ sizeLine; decide), fun tp htp => ?_⟩
        have nft : f ≠ tp := fun q => by subst q; rw [h9] at htp; cases htp
        refine ⟨f, xs, _, rfl, rfl, by rw [upd_ne nft]; exact h9, small_lt ls, ?_⟩
        exact fin ⟨fc, none, num⟩ H9 tp _ _ _ ⟨hfc, (fun j e => by cases e), hnum⟩ rfl X9 hB9 (by omega) h9 htp
      · refine ⟨_, rfl, _, rfl, (by show 3 ≤ sizeLine; decide), fun tp htp => ?_⟩
        have nft : f ≠ tp := fun q => by subst q; rw [h9] at htp; cases htp
        refine ⟨f, xs, _, rfl, rfl, by rw [upd_ne nft]; exact h9, small_lt ls, ?_⟩
        have ep : pl = ((pl.toNat : Nat) : Int) := by omega
        rw [ep]
        exact fin ⟨fc, some pl.toNat, 0⟩ H9 tp _ _ _ ⟨hfc, (fun j e => by cases e; omega), (show (0 : Int) ∈ NUM by decide)⟩ rfl X9 hB9 (by omega) h9 htp
    · rintro σ' H' ⟨G', v1, v2, v3, v4, l, xs, rfl, X, hB4, h2, g1, g2, da, len, tk, fst⟩
      have hn : (1 + r).toNat ≤ 2 ∧ 1 ≤ (1 + r).toNat := by omega
      refine ⟨_, rfl, k f l H' _ (X.fix hf h2) (hB4.mono (by omega)) ⟨fun e => by rw [e] at len; simp at len; omega, by omega, tk, fst⟩ (.lst upd_same (da.mono (upd_same_ g2)))⟩
end
end Nw
namespace Nw
open PySem L2 PySem.Spec PyProof.Rows RZ
theorem n11_lay : ∀ n ∈ n11, (PyData.str n).canLay0 = true := by decide +kernel
theorem num_lay : ∀ n ∈ NUM, (PyData.str ((toString n : String) : Str)).canLay0 = true ∧ n.natAbs.log2 < 1920 := by decide +kernel
theorem term_lay {cols : List Col} (g : Good n11 cols) {t : LT} (h : LTok cols.length t) : (PyData.str (termS cols t)).canLay0 = true := by
  obtain ⟨f, pl, num⟩ := t
  cases pl with
  | none => exact (num_lay num h.num).1
  | some j =>
    have hj : j < cols.length := h.pl j rfl
    have e : termS cols ⟨f, some j, num⟩ = (cols[j]).1 := by
      show (cols.getD j ("", 0)).1 = _
      rw [List.getD_eq_getElem?_getD, List.getElem?_eq_getElem hj]; rfl
    rw [e]
    exact n11_lay _ (g.names _ (List.getElem_mem hj))
theorem more_lay {cols : List Col} (g : Good n11 cols) {t : LT} (h : LTok cols.length t) : ∀ z ∈ moreS cols t, (PyData.str z).canLay0 = true := by
  intro z hz
  rcases List.mem_cons.mp hz with rfl | hz
  · split <;> decide +kernel
  · rw [List.mem_singleton.mp hz]; exact term_lay g h
theorem sum_lay {cols : List Col} (g : Good n11 cols) : ∀ {l : List LT}, (∀ t ∈ l, LTok cols.length t) → ∀ z ∈ sumS cols l, (PyData.str z).canLay0 = true
  | [], _, z, hz => by cases hz
  | t :: l, h, z, hz => by
    rcases List.mem_cons.mp (hz : z ∈ termS cols t :: _) with rfl | hz
    · exact term_lay g (h t List.mem_cons_self)
    · obtain ⟨q, hq, hz⟩ := List.mem_flatten.mp hz
      obtain ⟨u, hu, rfl⟩ := List.mem_map.mp hq
      exact more_lay g (h u (List.mem_cons_of_mem _ hu)) z hz
theorem strs_sh {l : List Str} (h : ∀ z ∈ l, (PyData.str z).canLay0 = true) : SeqAt.shaped (.list (l.map .str)) = true := shaped_lst (layAll_map _ 63 _ fun z hz => ⟨h z hz, Nat.zero_le _⟩)
theorem sumS_snoc (cols : List Col) : ∀ (l : List LT) (t : LT), sumS cols (l ++ [t]) = sumS cols l ++ (if l = [] then [termS cols t] else moreS cols t)
  | [], t => rfl
  | u :: l, t => by
    rw [if_neg (List.cons_ne_nil _ _)]
    show termS cols u :: ((l ++ [t]).map (moreS cols)).flatten = (termS cols u :: (l.map (moreS cols)).flatten) ++ moreS cols t
    rw [List.map_append, List.flatten_append]
    simp
theorem lt_at {G : Hp} {xs : List V} {l : List LT} {i : Nat} {y : V} (da : DA G xs (l.map dLT)) (h : xs[i]? = some y) : ∃ (t : LT) (a : Addr), l[i]? = some t ∧ y = .ref a ∧ G a = some (.tup [.int t.f, (match t.pl with | none => .non | some j => .int (j : Int)), .int t.num]) := by
  obtain ⟨d, h1, h2⟩ := da.get h
  rw [List.getElem?_map] at h1
  obtain ⟨t, h3, rfl⟩ := Option.map_eq_some_iff.mp h1
  obtain ⟨a, ws, rfl, ha, dw⟩ := h2.tup_inv
  refine ⟨t, a, h3, rfl, ?_⟩
  rw [ha]
  congr 2
  obtain ⟨f, pl, num⟩ := t
  cases pl with
  | none =>
    cases dw with
    | cons h1 dw => cases dw with
      | cons h2 dw => cases dw with
        | cons h3 dw => cases dw; cases h1; cases h2; cases h3; rfl
  | some j =>
    cases dw with
    | cons h1 dw => cases dw with
      | cons h2 dw => cases dw with
        | cons h3 dw => cases dw; cases h1; cases h2; cases h3; rfl
def spSumTok : Sp := fun vs H Q _ => ∃ (p a : Addr) (cs : List V) (l : List LT) (cols : List Col) (G : Hp), vs = [.ref p, .ref a] ∧ D G (.ref p) (.list (l.map dLT)) ∧ G a = some (.lst cs) ∧ DA G cs (dCols cols) ∧ Good n10 cols ∧ SumOk cols.length l ∧ Same G H ∧
  ∀ (q : V) (H' G' : Hp), Xt none H G H' G' → D G' q (.list ((sumS cols l).map .str)) → Q q H'
def spSumOf : Sp := fun vs H Q _ => ∃ (p t : Addr) (l : List LT) (row : List Int) (n : Nat) (G : Hp), vs = [.ref p, .ref t] ∧ D G (.ref p) (.list (l.map dLT)) ∧ H t = some (.tup (row.map V.int)) ∧ row.length = n ∧ SumOk n l ∧ Same G H ∧
  ∀ H', Xt none H G H' G → Q (.int (lsumV row l)) H'
section
variable {P : Program} {w : World} {K : PySem.W.Frag} {mg : Str → Option Value} {base : Heap}
theorem lSumTok {f : Addr} {fd : FuncData} (F : C8.Def K mg "_law_sum_tokens" s__law_sum_tokens f fd) (b : Binds K fd P__law_sum_tokens []) (T : Names K mg) : C8.Cal P w K mg base 1 "_law_sum_tokens" spSumTok [] := by
  refine C8.cal0 (N := N__law_sum_tokens) F b .nil sc__law_sum_tokens (fun vs H Q E h => ?_) (fun cdv A outer s H vs Q E hr h => ?_)
  · obtain ⟨p, a, cs, l, cols, G, rfl, _⟩ := h
    rfl
  · obtain ⟨p, a, cs, l, cols, G, rfl, hp, ga, dac, good10, ok, sG, k⟩ := h
    have hu := hu_of hr
    have good := good11 good10
    obtain ⟨p_, xs, e0, gp, da⟩ := id hp.list_inv
    cases e0
    have lx := da.length
    rw [List.length_map] at lx
    have l2 := ok.len
    refine ⟨_, (pss_cons (ps_set (i := 2) sc__law_sum_tokens.nd rfl (Or.inl rfl) (pe_lst pa_nil))
 (pss_cons (ps_for PassesOwn.never rfl (pi_list (pv 0)) (pg_tup rfl (pgs_cons (pg_name (i := 3) sc__law_sum_tokens.nd rfl (Or.inl rfl)) (pgs_cons (pg_name (i := 4) sc__law_sum_tokens.nd rfl (Or.inl rfl)) (pgs_cons (pg_name (i := 5) sc__law_sum_tokens.nd rfl (Or.inl rfl)) pgs_nil)))) (C8.pss_cut (ps_if (pt_cmpR (op_neD hr.units) (pv 2) (pe_lst pa_nil) (nomark _)) (pss_one (ps_expr (pe_bm PySem.F.plainAttrs_list PySem.F.slot_list_append PySem.F.type_list_append mt_append (pv 2) (pa_cons (pe_ifExp (pt_cmpR op_eq (pv 3) pe_int (nomark _)) pe_str pe_str) pa_nil)))) pss_nil)
 (pss_one (ps_expr (pe_bm PySem.F.plainAttrs_list PySem.F.slot_list_append PySem.F.type_list_append mt_append (pv 2) (pa_cons (pe_ifExp (pt_cmpR op_isN (pv 4) pe_non (nomark _)) (pe_callTy call_str_int (by rfl) T.n_str (by decide +kernel) (pa_cons (pv 5) pa_nil)) (pe_ix ix_tup (pe_ix ix_list (pv 1) (pv 4) (fun _ _ => rfl)) pe_int (fun _ _ => rfl))) pa_nil))))))
 (pss_one (ps_ret (pv 2))))), ?_⟩
    refine ⟨Nat.zero_le _, fun f hf => ?_⟩
    have gf : G f = none := sG.free hf
    have nn : ∀ a : Addr, (none : Option Addr) ≠ some a := fun a q => by cases q
    refine ⟨_, rfl, p, rfl, ⟨xs, SqL.of (upd_same_ hf _ _ (sG _ _ gp))⟩, for_it (walk_list (xs := xs)) (fun i σ' H' => ∃ (G' : Hp) (v3 v4 v5 : Option V), σ' = [some (.ref p), some (.ref a), some (.ref f), v3, v4, v5] ∧ Xt none H G H' G' ∧ H' f = some (.lst ((sumS cols (l.take i)).map V.str)) ∧ G' f = none) ?_ ?_ ?_ ?_⟩
    · exact ⟨G, none, none, none, rfl, Xt.tmp sG hf, upd_same, gf⟩
    · rintro i σ' H' hi ⟨G', v3, v4, v5, rfl, X, _⟩
      exact SqL.of (X.sub _ _ (X.gg _ _ gp))
    · rintro i y σ' H0_ H' hi ⟨G', v3, v4, v5, rfl, X, h1, g1⟩ ⟨rfl, hy⟩
      obtain ⟨t, ta, ht, rfl, hta⟩ := lt_at (da.mono X.gg) hy
      have hm := List.mem_of_getElem? ht
      have tok := ok.all t hm
      have hA := X.sub _ _ (X.gg _ _ ga)
      refine ⟨ta, _, rfl, SqT.of (X.sub _ _ hta), rfl, _, _, rfl, _, _, rfl, _, _, rfl, rfl, ?_⟩
      have lts : ∀ z ∈ sumS cols (l.take i), (PyData.str z).canLay0 = true := sum_lay good fun u hu => ok.all u (List.mem_of_mem_take hu)
      have lsz : (sumS cols (l.take i)).length ≤ 10 := by
        have : ∀ m : List LT, (sumS cols m).length ≤ 2 * m.length := fun m => by
          cases m with
          | nil => exact Nat.le_refl _
          | cons u m =>
            show ((m.map (moreS cols)).flatten).length + 1 ≤ 2 * (m.length + 1)
            have e : ((m.map (moreS cols)).flatten).length = 2 * m.length := by
              induction m with
              | nil => rfl
              | cons v m ih => rw [List.map_cons, List.flatten_cons, List.length_append, ih, List.length_cons]; show 2 + _ = _; omega
            omega
        have := this (l.take i)
        rw [List.length_take] at this
        omega
      have ef : decide (V.int t.f = V.int 1) = decide (t.f = 1) := by
        by_cases c : t.f = 1
        · rw [c]; simp
        · rw [decide_eq_false c, decide_eq_false fun q => c (by injection q)]
      obtain ⟨pre, hpre⟩ : ∃ pre : List Str, pre = if l.take i = [] then [] else sumS cols (l.take i) ++ [if t.f = 1 then ("+" : Str) else "-"] := ⟨_, rfl⟩
      have next : sumS cols (l.take (i + 1)) = pre ++ [termS cols t] := by
        rw [take_succ_of ht, sumS_snoc, hpre]
        by_cases c : l.take i = []
        · rw [if_pos c, if_pos c, c]; rfl
        · rw [if_neg c, if_neg c, List.append_assoc]; rfl
      refine ⟨fun σ2 H2 => σ2 = [some (.ref p), some (.ref a), some (.ref f), some (.int t.f), some (match t.pl with | none => .non | some j => .int (j : Int)), some (.int t.num)] ∧ Xt none H G H2 G' ∧ H2 f = some (.lst (pre.map V.str)), ?_, ?_⟩
      · refine ⟨_, rfl, Nat.zero_le _, fun e0 he0 => ?_⟩
        have X4 := X.allocT (o := .lst []) he0
        have nfe : f ≠ e0 := fun q => by subst q; rw [h1] at he0; cases he0
        have h4 : upd H' e0 (.lst []) f = some (.lst ((sumS cols (l.take i)).map V.str)) := by rw [upd_ne nfe]; exact h1
        refine ⟨.list ((sumS cols (l.take i)).map .str), .list [], .lst (SqL.of h4) (DA.dp X4.sub (DA.ofStrs _)), .lst (SqL.of upd_same) .nil, strs_sh lts, nil_sh, _, rfl, ?_⟩
        rw [eqv_nil]
        generalize upd H' e0 (.lst []) = H4 at X4 h4 ⊢
        by_cases c : l.take i = []
        · have e0 : sumS cols (l.take i) = [] := by rw [c]; rfl
          rw [e0] at h4 ⊢
          rw [show (!decide (([] : List Str).map PyData.str = [])) = false from rfl]
          refine iteF ⟨rfl, X4, ?_⟩
          rw [hpre, if_pos c]
          exact h4
        · have ne : sumS cols (l.take i) ≠ [] := by
            match l.take i, c with
            | u :: m, _ => exact List.cons_ne_nil _ _
          have e1 : (!decide ((sumS cols (l.take i)).map PyData.str = [])) = true := by
            rw [decide_eq_false (fun q => ne (List.map_eq_nil_iff.mp q))]; rfl
          rw [e1]
          refine iteT ⟨_, rfl, .inl ⟨rfl, _, SqL.of h4⟩, _, rfl, rfl, _, rfl, ?_⟩
          rw [ef]
          have go : ∀ s : Str, s = (if t.f = 1 then ("+" : Str) else "-") → Xt none H G (upd H4 f (.lst ((sumS cols (l.take i)).map V.str ++ [.str s]))) G' ∧ upd H4 f (.lst ((sumS cols (l.take i)).map V.str ++ [.str s])) f = some (.lst (pre.map V.str)) := by
            intro s hs
            refine ⟨X4.set hf g1, ?_⟩
            rw [upd_same, hpre, if_neg c, List.map_append, hs]
            rfl
          have sz : ((sumS cols (l.take i)).map V.str).length < sizeLine := small_lt (by rw [List.length_map]; omega)
          refine ite2 (fun cc => ?_) (fun cc => ?_)
          · exact ⟨f, _, _, rfl, rfl, h4, sz, rfl, go _ (by rw [if_pos (of_decide_eq_true cc)])⟩
          · exact ⟨f, _, _, rfl, rfl, h4, sz, rfl, go _ (by rw [if_neg (fun q => cc (decide_eq_true q))])⟩
      rintro σ2 H2 ⟨rfl, X2, h2⟩
      have lpre : pre.length ≤ 20 := by
        rw [hpre]
        split
        · exact Nat.zero_le _
        · rw [List.length_append, List.length_singleton]; omega
      have done : Xt none H G (upd H2 f (.lst (pre.map V.str ++ [.str (termS cols t)]))) G' ∧ upd H2 f (.lst (pre.map V.str ++ [.str (termS cols t)])) f = some (.lst ((sumS cols (l.take (i + 1))).map V.str)) := by
        refine ⟨X2.set hf g1, ?_⟩
        rw [upd_same, next, List.map_append]; rfl
      have sz : (pre.map V.str).length < sizeLine := small_lt (by rw [List.length_map]; omega)
      refine ⟨_, rfl, .inl ⟨rfl, _, SqL.of h2⟩, ?_⟩
      obtain ⟨tf_, pl, num⟩ := t
      cases pl with
      | none =>
        refine ⟨_, rfl, rfl, _, rfl, ?_⟩
        rw [decide_eq_true rfl]
        refine iteT ⟨_, rfl, num, rfl, (num_lay num tok.num).2, ?_⟩
        exact ⟨f, _, _, rfl, rfl, h2, sz, G', _, _, _, rfl, done.1, done.2, g1⟩
      | some j =>
        refine ⟨_, rfl, rfl, _, rfl, ?_⟩
        rw [decide_eq_false (fun q => by cases q)]
        have hj : j < cols.length := tok.pl j rfl
        have lc : cs.length = cols.length := by rw [dac.length, dCols, List.length_map]
        obtain ⟨c, tc, hc, ec, htc⟩ := cols_at (dac) (show cs[j]? = some cs[j] from List.getElem?_eq_getElem (by omega))
        have es : termS cols ⟨tf_, some j, num⟩ = c.1 := by
          show (cols.getD j ("", 0)).1 = _
          rw [List.getD_eq_getElem?_getD, hc]; rfl
        rw [es] at done
        refine iteF ⟨_, rfl, _, rfl, a, cs, _, _, rfl, rfl, SqL.of (X2.sub _ _ (X2.gg _ _ ga)), atI_nat (show cs[j]? = some (.ref tc) by rw [List.getElem?_eq_getElem (by omega : j < cs.length), ec]), tc, _, _, _, rfl, rfl, SqT.of (X2.sub _ _ (X2.gg _ _ htc)), rfl, ?_⟩
        exact ⟨f, _, _, rfl, rfl, h2, sz, G', _, _, _, rfl, done.1, done.2, g1⟩
    · rintro σ' H' ⟨G', v3, v4, v5, rfl, X, h1, g1⟩
      rw [List.take_of_length_le (by omega)] at h1
      refine ⟨_, rfl, k _ _ _ (X.fix hf h1) (.lst upd_same (DA.ofStrs _))⟩
end
end Nw
namespace Nw
open PySem L2 PySem.Spec PyProof.Rows RZ
/-- the promises of the draws, not to be opened -/
structure SpTake (vs : List V) (H : Hp) (Q : VK) (E : XK) : Prop where
  ex : spTake vs H Q E
structure SpOf (vs : List V) (H : Hp) (Q : VK) (E : XK) : Prop where
  ex : spOf vs H Q E
theorem Cal.imp {P : Program} {w : World} {K : PySem.W.Frag} {mg : Str → Option Value} {base : Heap} {k : Nat} {x : Str} {sp sp' : Sp} {dvs : List V} (c : C8.Cal P w K mg base k x sp dvs) (h : ∀ vs H Q E, sp' vs H Q E → sp vs H Q E) : C8.Cal P w K mg base k x sp' dvs := by
  obtain ⟨f, fd, ps, ds, F, r⟩ := c.ex
  exact ⟨f, fd, ps, ds, F.imp h, r⟩
/-- a draw -/
theorem take_step {b : Addr} {c n : Int} {H0 G H G' : Hp} {Q : VK} {E : XK} (X : Xt (some b) H0 G H G') (g1 : G' b = none) (hB : Bag H b c) (hc : c ≤ 1000000) (hn : 0 < n ∧ n ≤ 1000000)
    (k : ∀ (r : Int) (H' : Hp), 0 ≤ r → r < n → Xt (some b) H0 G H' G' → Bag H' b (c + 1) → (∀ a, a ≠ b → ∀ o, H a = some o → H' a = some o) → Q (.int r) H') : SpTake [.ref b, .int n] H Q E :=
  ⟨b, n, c, rfl, hn.1, hn.2, hB, hc, fun r x y z r0 r1 hB2 => k r _ r0 r1 (X.put g1) hB2 fun a na o h => by rw [upd_ne na]; exact h⟩
/-- a draw of a written list of texts -/
theorem of_step {b q : Addr} {c : Int} {H0 G H G' : Hp} {Q : VK} {E : XK} (l : List Str) (X : Xt (some b) H0 G H G') (g1 : G' b = none) (hB : Bag H b c) (hc : c ≤ 1000000) (hl : 0 < l.length ∧ l.length ≤ 100) (hq : H q = none)
    (k : ∀ (z : Str) (H' : Hp), z ∈ l → Xt (some b) H0 G H' G' → Bag H' b (c + 1) → (∀ a, a ≠ b → ∀ o, H a = some o → H' a = some o) → Q (.str z) H') : SpOf [.ref b, .ref q] (upd H q (.lst (l.map V.str))) Q E := by
  have nbq : b ≠ q := fun e => hB.ne (by rw [e]; exact hq)
  refine ⟨b, q, l.map V.str, c, rfl, upd_same, nbq.symm, ?_, by rw [List.length_map]; omega, hB.upd nbq, hc, fun v iv x y z hv hB2 => ?_⟩
  · intro e
    have := List.map_eq_nil_iff.mp e
    rw [this] at hl
    exact absurd hl.1 (by decide)
  · rw [List.getElem?_map] at hv
    obtain ⟨s, h1, rfl⟩ := Option.map_eq_some_iff.mp hv
    refine k s _ (List.mem_of_getElem? h1) ((X.allocT (o := .lst (l.map V.str)) hq).put g1) hB2 fun a na o h => ?_
    rw [upd_ne na]
    exact upd_same_ hq _ _ h
def costT : Nat → Int
  | 0 => 30
  | n + 1 => 2 * costT n + 5
theorem costT_pos : ∀ n, 30 ≤ costT n
  | 0 => by decide
  | n + 1 => by have := costT_pos n; show 30 ≤ 2 * costT n + 5; omega
def spNone : Sp := fun _ _ _ _ => False
def spTree (n : Nat) : Sp := fun vs H Q _ => ∃ (b a : Addr) (c d : Int) (cs : List V) (cols : List Col) (G : Hp), vs = [.ref b, .ref a, .int d] ∧ 0 ≤ d ∧ d ≤ (n : Int) ∧ G a = some (.lst cs) ∧ DA G cs (dCols cols) ∧ Good n10 cols ∧ Bag H b c ∧ c + costT n ≤ 100000 ∧ G b = none ∧ Same G H ∧
  ∀ (p : Addr) (t : Tr) (H' G' : Hp), Xt (some b) H G H' G' → Bag H' b (c + costT n) → TrOk cols.length t → depT t ≤ n → D G' (.ref p) (dTr t) → Q (.ref p) H'
section
variable {P : Program} {w : World} {K : PySem.W.Frag} {mg : Str → Option Value} {base : Heap}
theorem Cal.up {x : Str} {sp : Sp} {dvs : List V} {j k : Nat} (c : C8.Cal P w K mg base j x sp dvs) (h : j ≤ k) : C8.Cal P w K mg base k x sp dvs := by
  obtain ⟨f, fd, ps, ds, F, r⟩ := c.ex
  exact ⟨f, fd, ps, ds, F.mono h, r⟩
theorem calNone {x : Str} {st : Stmt} {f : Addr} {fd : FuncData} {N ps : List Str} (F : C8.Def K mg x st f fd) (b : Binds K fd ps []) (S : FnScope N ps (C8.fnScope st)) : C8.Cal P w K mg base 1 x spNone [] :=
  C8.cal0 (N := N) F b .nil S (fun vs H Q E h => h.elim) (fun cdv A outer s H vs Q E hr h => h.elim)
theorem lTreeStep {f : Addr} {fd : FuncData} (F : C8.Def K mg "_law_tree" s__law_tree f fd) (b : Binds K fd P__law_tree []) (T : Names K mg) (n : Nat) (sp : Sp) (c__law_take : C8.Cal P w K mg base 1 "_law_take" SpTake []) (c__law_of : C8.Cal P w K mg base 2 "_law_of" SpOf []) (c__law_sum : C8.Cal P w K mg base 3 "_law_sum" spLSum [])
    (c__law_tree : C8.Cal P w K mg base (3 + n) "_law_tree" sp []) (hsp : ∀ m, n = m + 1 → sp = spTree m) : C8.Cal P w K mg base (4 + n) "_law_tree" (spTree n) [] := by
  rw [show 4 + n = (3 + n) + 1 by omega]
  refine C8.cal0 (N := N__law_tree) F b .nil sc__law_tree (fun vs H Q E h => ?_) (fun cdv A outer s H vs Q E hr h => ?_)
  · obtain ⟨b, a, c, d, cs, cols, G, rfl, _⟩ := h
    rfl
  · obtain ⟨b, a, c, d, cs, cols, G, rfl, d0, dn, ga, dac, good, hB, hc, gb, sG, k⟩ := h
    have hu := hu_of hr
    have cp := costT_pos n
    refine ⟨_, (pss_cons (ps_set (i := 3) sc__law_tree.nd rfl (Or.inl rfl) (C8.pe_c c__law_take hr (by omega) rfl (pa_cons (pv 0) (pa_cons pe_int pa_nil))))
 (pss_cons (ps_if (pt_cmpR op_eq (pv 3) pe_int (nomark _)) (pss_one (ps_ret (pe_tup (pa_cons pe_str (pa_cons (C8.pe_c c__law_of hr (by omega) rfl (pa_cons (pv 0) (pa_cons (pe_lst (pa_cons pe_str (pa_cons pe_str pa_nil))) pa_nil))) pa_nil))))) pss_nil)
 (pss_cons (ps_if (pt_cmpR op_eq (pv 3) pe_int (nomark _)) (pss_cons (ps_set (i := 4) sc__law_tree.nd rfl (Or.inl rfl) (C8.pe_c c__law_of hr (by omega) rfl (pa_cons (pv 0) (pa_cons (pe_lst (pa_cons pe_str (pa_cons pe_str pa_nil))) pa_nil))))
 (pss_one (ps_ret (pe_tup (pa_cons pe_str (pa_cons (pv 4) (pa_cons (C8.pe_c c__law_of hr (by omega) rfl (pa_cons (pv 0) (pa_cons (pe_lst (pa_cons pe_str (pa_cons pe_str (pa_cons pe_str (pa_cons pe_str (pa_cons pe_str pa_nil)))))) pa_nil))) pa_nil))))))) pss_nil)
 (pss_cons (ps_if (PW.pt (pw_or (pt_cmpR op_eq (pv 2) pe_int (nomark _)) (pw_or1 (pt_cmpR op_lt (pv 3) pe_int (nomark _))))) (pss_cons (ps_set (i := 4) sc__law_tree.nd rfl (Or.inl rfl) (C8.pe_c c__law_of hr (by omega) rfl (pa_cons (pv 0) (pa_cons (pe_lst (pa_cons pe_str (pa_cons pe_str (pa_cons pe_str (pa_cons pe_str (pa_cons pe_str (pa_cons pe_str pa_nil))))))) pa_nil))))
 (pss_one (ps_ret (pe_tup (pa_cons pe_str (pa_cons (C8.pe_c c__law_sum hr (by omega) rfl (pa_cons (pv 0) (pa_cons (pv 1) pa_nil))) (pa_cons (pv 4) (pa_cons (C8.pe_c c__law_sum hr (by omega) rfl (pa_cons (pv 0) (pa_cons (pv 1) pa_nil))) pa_nil)))))))) pss_nil)
 (pss_cons (ps_if (pt_cmpR op_eq (pv 3) pe_int (nomark _)) (pss_one (ps_ret (pe_tup (pa_cons pe_str (pa_cons (C8.pe_c c__law_tree hr (by omega) rfl (pa_cons (pv 0) (pa_cons (pv 1) (pa_cons (pe_op op_sub (pv 2) pe_int) pa_nil)))) pa_nil))))) pss_nil)
 (pss_cons (ps_set (i := 5) sc__law_tree.nd rfl (Or.inl rfl) (C8.pe_c c__law_tree hr (by omega) rfl (pa_cons (pv 0) (pa_cons (pv 1) (pa_cons (pe_op op_sub (pv 2) pe_int) pa_nil)))))
 (pss_one (ps_ret (pe_tup (pa_cons (C8.pe_c c__law_of hr (by omega) rfl (pa_cons (pv 0) (pa_cons (pe_lst (pa_cons pe_str (pa_cons pe_str pa_nil))) pa_nil))) (pa_cons (pv 5) (pa_cons (C8.pe_c c__law_tree hr (by omega) rfl (pa_cons (pv 0) (pa_cons (pv 1) (pa_cons (pe_op op_sub (pv 2) pe_int) pa_nil)))) pa_nil)))))))))))), ?_⟩
    have ei : ∀ i j : Int, decide (V.int i = V.int j) = decide (i = j) := fun i j => by
      by_cases q : i = j
      · rw [q, decide_eq_true rfl, decide_eq_true rfl]
      · rw [decide_eq_false q, decide_eq_false fun e => q (by injection e)]
    refine ⟨_, rfl, take_step (n := 9) (Xt.refl sG) gb hB (by omega) (by decide) fun road H1 r0 r1 X1 hB1 _ => ?_⟩
    refine ⟨_, rfl, rfl, _, rfl, ?_⟩
    rw [ei]
    refine ite2 (fun c8 => ?_) (fun c8 => ?_)
    · refine ⟨_, rfl, (by show 2 ≤ sizeLine; decide), fun q hq => of_step ["true", "false"] X1 gb hB1 (by omega) (by decide) hq fun z H2 hz X2 hB2 _ => ⟨(by show 2 ≤ sizeLine; decide), fun t ht => ?_⟩⟩
      obtain ⟨bb, rfl⟩ : ∃ bb, z = tfS bb := by
        rcases List.mem_cons.mp hz with rfl | hz
        · exact ⟨true, rfl⟩
        · rw [List.mem_singleton.mp hz]; exact ⟨false, rfl⟩
      have nbt : b ≠ t := fun e => hB2.ne (by rw [e]; exact ht)
      exact k t (.plain bb) _ _ (X2.alloc ht) ((hB2.upd nbt).mono (by omega)) trivial (Nat.zero_le _) (.tup upd_same (.cons (.str _) (.cons (.str _) .nil)))
    refine ⟨_, rfl, rfl, _, rfl, ?_⟩
    rw [ei]
    refine ite2 (fun c7 => ?_) (fun c7 => ?_)
    · refine ⟨_, rfl, (by show 2 ≤ sizeLine; decide), fun q hq => of_step ["=", "!="] X1 gb hB1 (by omega) (by decide) hq fun z H2 hz X2 hB2 _ => ?_⟩
      refine ⟨_, rfl, _, rfl, (by show 5 ≤ sizeLine; decide), fun q hq => of_step NMS X2 gb hB2 (by omega) (by decide) hq fun y H3 hy X3 hB3 _ => ⟨(by show 3 ≤ sizeLine; decide), fun t ht => ?_⟩⟩
      obtain ⟨bb, rfl⟩ : ∃ bb, z = eqS bb := by
        rcases List.mem_cons.mp hz with rfl | hz
        · exact ⟨true, rfl⟩
        · rw [List.mem_singleton.mp hz]; exact ⟨false, rfl⟩
      have nbt : b ≠ t := fun e => hB3.ne (by rw [e]; exact ht)
      exact k t (.name bb y) _ _ (X3.alloc ht) ((hB3.upd nbt).mono (by omega)) hy (Nat.zero_le _) (.tup upd_same (.cons (.str _) (.cons (.str _) (.cons (.str _) .nil))))
    refine ⟨_, rfl, rfl, _, rfl, ?_⟩
    rw [ei]
    refine ite2 (fun c0 => ?_) (fun c0 => ?_)
    · refine ⟨_, rfl, ?_⟩
      refine ⟨(by show 6 ≤ sizeLine; decide), fun q hq => of_step SIG X1 gb hB1 (by omega) (by decide) hq fun z H2 hz X2 hB2 _ => ?_⟩
      refine ⟨_, rfl, _, rfl, b, a, _, cs, cols, G, rfl, ga, dac, good, hB2, by omega, gb, X2.sub, fun p1 l1 H3 G3 X3 hB3 ok1 d1 => ?_⟩
      have gb3 := X3.non hB2.ne gb
      refine ⟨_, rfl, _, rfl, _, rfl, b, a, _, cs, cols, G3, rfl, X3.gg _ _ ga, dac.mono X3.gg, good, hB3, by omega, gb3, X3.sub, fun p2 l2 H4 G4 X4 hB4 ok2 d2 => ⟨(by show 4 ≤ sizeLine; decide), fun t ht => ?_⟩⟩
      have nbt : b ≠ t := fun e => hB4.ne (by rw [e]; exact ht)
      have X5 := X4.alloc (o := .tup [.str "compare", .ref p1, .str z, .ref p2]) ht
      exact k t (.cmp l1 z l2) _ _ ((X2.trans X3).trans X5) ((hB4.upd nbt).mono (by omega)) ⟨ok1, hz, ok2⟩ (Nat.zero_le _) (.tup upd_same (.cons (.str _) (.cons (d1.mono (fun u o h => X5.gg u o h)) (.cons (.str _) (.cons (d2.mono (upd_same_ (X4.sub.free ht))) .nil)))))
    refine ⟨_, rfl, _, _, rfl, rfl, _, rfl, ?_⟩
    refine ite2 (fun c3 => ?_) (fun c3 => ?_)
    · refine ⟨_, rfl, ?_⟩
      refine ⟨(by show 6 ≤ sizeLine; decide), fun q hq => of_step SIG X1 gb hB1 (by omega) (by decide) hq fun z H2 hz X2 hB2 _ => ?_⟩
      refine ⟨_, rfl, _, rfl, b, a, _, cs, cols, G, rfl, ga, dac, good, hB2, by omega, gb, X2.sub, fun p1 l1 H3 G3 X3 hB3 ok1 d1 => ?_⟩
      have gb3 := X3.non hB2.ne gb
      refine ⟨_, rfl, _, rfl, _, rfl, b, a, _, cs, cols, G3, rfl, X3.gg _ _ ga, dac.mono X3.gg, good, hB3, by omega, gb3, X3.sub, fun p2 l2 H4 G4 X4 hB4 ok2 d2 => ⟨(by show 4 ≤ sizeLine; decide), fun t ht => ?_⟩⟩
      have nbt : b ≠ t := fun e => hB4.ne (by rw [e]; exact ht)
      have X5 := X4.alloc (o := .tup [.str "compare", .ref p1, .str z, .ref p2]) ht
      exact k t (.cmp l1 z l2) _ _ ((X2.trans X3).trans X5) ((hB4.upd nbt).mono (by omega)) ⟨ok1, hz, ok2⟩ (Nat.zero_le _) (.tup upd_same (.cons (.str _) (.cons (d1.mono (fun u o h => X5.gg u o h)) (.cons (.str _) (.cons (d2.mono (upd_same_ (X4.sub.free ht))) .nil)))))
    have hd : d ≠ 0 := fun e => c0 (decide_eq_true e)
    obtain ⟨m, rfl⟩ : ∃ m, n = m + 1 := ⟨n - 1, by omega⟩
    obtain rfl := hsp m rfl
    have cm := costT_pos m
    have ec : costT (m + 1) = 2 * costT m + 5 := rfl
    refine ⟨_, rfl, rfl, _, rfl, ?_⟩
    rw [ei]
    refine ite2 (fun c4 => ?_) (fun c4 => ?_)
    · refine ⟨_, rfl, _, rfl, _, rfl, _, _, rfl, rfl, b, a, _, d - 1, cs, cols, G, rfl, by omega, by omega, ga, dac, good, hB1, by omega, gb, X1.sub, fun p1 t1 H2 G2 X2 hB2 ok1 dp1 d1 => ⟨(by show 2 ≤ sizeLine; decide), fun t ht => ?_⟩⟩
      have nbt : b ≠ t := fun e => hB2.ne (by rw [e]; exact ht)
      have X3 := X2.alloc (o := .tup [.str "not", .ref p1]) ht
      exact k t (.no t1) _ _ (X1.trans X3) ((hB2.upd nbt).mono (by omega)) ok1 (by show depT t1 + 1 ≤ m + 1; omega) (.tup upd_same (.cons (.str _) (.cons (d1.mono (upd_same_ (X2.sub.free ht))) .nil)))
    refine ⟨_, rfl, _, rfl, _, rfl, _, _, rfl, rfl, b, a, _, d - 1, cs, cols, G, rfl, by omega, by omega, ga, dac, good, hB1, by omega, gb, X1.sub, fun p1 t1 H2 G2 X2 hB2 ok1 dp1 d1 => ?_⟩
    have gb2 := X2.non hB1.ne gb
    refine ⟨_, rfl, (by show 2 ≤ sizeLine; decide), fun q hq => of_step ["and", "or"] (Xt.refl X2.sub) gb2 hB2 (by omega) (by decide) hq fun z H3 hz X3 hB3 _ => ?_⟩
    obtain ⟨bb, rfl⟩ : ∃ bb, z = opS bb := by
      rcases List.mem_cons.mp hz with rfl | hz
      · exact ⟨false, rfl⟩
      · rw [List.mem_singleton.mp hz]; exact ⟨true, rfl⟩
    refine ⟨_, rfl, _, rfl, _, rfl, _, rfl, _, _, rfl, rfl, b, a, _, d - 1, cs, cols, G2, rfl, by omega, by omega, X2.gg _ _ ga, dac.mono X2.gg, good, hB3, by omega, gb2, X3.sub, fun p2 t2 H4 G4 X4 hB4 ok2 dp2 d2 => ⟨(by show 3 ≤ sizeLine; decide), fun t ht => ?_⟩⟩
    have nbt : b ≠ t := fun e => hB4.ne (by rw [e]; exact ht)
    have X5 := X4.alloc (o := .tup [.str (opS bb), .ref p1, .ref p2]) ht
    exact k t (.two bb t1 t2) _ _ (X1.trans (X2.trans (X3.trans X5))) ((hB4.upd nbt).mono (by omega)) ⟨ok1, ok2⟩ (by show max (depT t1) (depT t2) + 1 ≤ m + 1; omega) (.tup upd_same (.cons (.str _) (.cons (d1.mono (fun u o h => X5.gg u o h)) (.cons (d2.mono (upd_same_ (X4.sub.free ht))) .nil))))
theorem lTree {f : Addr} {fd : FuncData} (F : C8.Def K mg "_law_tree" s__law_tree f fd) (b : Binds K fd P__law_tree []) (T : Names K mg) (c__law_take : C8.Cal P w K mg base 1 "_law_take" SpTake []) (c__law_of : C8.Cal P w K mg base 2 "_law_of" SpOf []) (c__law_sum : C8.Cal P w K mg base 3 "_law_sum" spLSum []) :
    ∀ n, C8.Cal P w K mg base (4 + n) "_law_tree" (spTree n) []
  | 0 => lTreeStep F b T 0 spNone c__law_take c__law_of c__law_sum (Cal.up (calNone F b sc__law_tree) (by omega)) (fun m e => by omega)
  | n + 1 => lTreeStep F b T (n + 1) (spTree n) c__law_take c__law_of c__law_sum (Cal.up (lTree F b T c__law_take c__law_of c__law_sum n) (by omega)) (fun m e => by cases e; rfl)
end
end Nw
namespace Nw
open PySem L2 PySem.Spec PyProof.Rows RZ
section
variable {G : Hp} {v : V}
theorem inv_plain {b : Bool} (h : D G v (dTr (.plain b))) : ∃ p, v = .ref p ∧ G p = some (.tup [.str "plain", .str (tfS b)]) := by
  obtain ⟨p, ws, rfl, hp, d⟩ := h.tup_inv
  cases d with
  | cons h1 d => cases d with
    | cons h2 d => cases d; cases h1; cases h2; exact ⟨p, rfl, hp⟩
theorem inv_name {e : Bool} {z : Str} (h : D G v (dTr (.name e z))) : ∃ p, v = .ref p ∧ G p = some (.tup [.str "name", .str (eqS e), .str z]) := by
  obtain ⟨p, ws, rfl, hp, d⟩ := h.tup_inv
  cases d with
  | cons h1 d => cases d with
    | cons h2 d => cases d with
      | cons h3 d => cases d; cases h1; cases h2; cases h3; exact ⟨p, rfl, hp⟩
theorem inv_cmp {l r : List LT} {s : Str} (h : D G v (dTr (.cmp l s r))) : ∃ p q1 q2, v = .ref p ∧ G p = some (.tup [.str "compare", .ref q1, .str s, .ref q2]) ∧ D G (.ref q1) (.list (l.map dLT)) ∧ D G (.ref q2) (.list (r.map dLT)) := by
  obtain ⟨p, ws, rfl, hp, d⟩ := h.tup_inv
  cases d with
  | cons h1 d => cases d with
    | cons h2 d => cases d with
      | cons h3 d => cases d with
        | cons h4 d =>
          cases d; cases h1; cases h3
          obtain ⟨q1, _, rfl, _, _⟩ := id h2.list_inv
          obtain ⟨q2, _, rfl, _, _⟩ := id h4.list_inv
          exact ⟨p, q1, q2, rfl, hp, h2, h4⟩
theorem dTr_ref {t : Tr} (h : D G v (dTr t)) : ∃ p, v = .ref p := by
  cases t with
  | plain b => obtain ⟨p, h, _⟩ := inv_plain h; exact ⟨p, h⟩
  | name e z => obtain ⟨p, h, _⟩ := inv_name h; exact ⟨p, h⟩
  | cmp l s r => obtain ⟨p, _, _, h, _⟩ := inv_cmp h; exact ⟨p, h⟩
  | no t => obtain ⟨p, ws, h, _⟩ := D.tup_inv h; exact ⟨p, h⟩
  | two o a b => obtain ⟨p, ws, h, _⟩ := D.tup_inv h; exact ⟨p, h⟩
theorem inv_no {t : Tr} (h : D G v (dTr (.no t))) : ∃ p q, v = .ref p ∧ G p = some (.tup [.str "not", .ref q]) ∧ D G (.ref q) (dTr t) := by
  obtain ⟨p, ws, rfl, hp, d⟩ := D.tup_inv (ds := [.str "not", dTr t]) h
  cases d with
  | cons h1 d => cases d with
    | cons h2 d =>
      cases d; cases h1
      obtain ⟨q, rfl⟩ := dTr_ref h2
      exact ⟨p, q, rfl, hp, h2⟩
theorem inv_two {o : Bool} {a b : Tr} (h : D G v (dTr (.two o a b))) : ∃ p q1 q2, v = .ref p ∧ G p = some (.tup [.str (opS o), .ref q1, .ref q2]) ∧ D G (.ref q1) (dTr a) ∧ D G (.ref q2) (dTr b) := by
  obtain ⟨p, ws, rfl, hp, d⟩ := D.tup_inv (ds := [.str (opS o), dTr a, dTr b]) h
  cases d with
  | cons h1 d => cases d with
    | cons h2 d => cases d with
      | cons h3 d =>
        cases d; cases h1
        obtain ⟨q1, rfl⟩ := dTr_ref h2
        obtain ⟨q2, rfl⟩ := dTr_ref h3
        exact ⟨p, q1, q2, rfl, hp, h2, h3⟩
end
theorem es_ (z t : Str) : decide (V.str z = V.str t) = decide (z = t) := by
  by_cases q : z = t
  · rw [q, decide_eq_true rfl, decide_eq_true rfl]
  · rw [decide_eq_false q, decide_eq_false fun e => q (by injection e)]
theorem ei_ (i j : Int) : decide (V.int i = V.int j) = decide (i = j) := by
  by_cases q : i = j
  · rw [q, decide_eq_true rfl, decide_eq_true rfl]
  · rw [decide_eq_false q, decide_eq_false fun e => q (by injection e)]
theorem eb_ (i j : Bool) : decide (V.bl i = V.bl j) = decide (i = j) := by
  cases i <;> cases j <;> rfl
/-- x[j] == a written text, for a tuple that stands -/
structure TagR (K : PySem.W.Frag) (H : Hp) (p : Addr) (ws : List V) : Prop where
  sq : H p = some (.tup ws)
def spTokens (n : Nat) : Sp := fun vs H Q _ => ∃ (p a : Addr) (u : Str) (t : Tr) (cs : List V) (cols : List Col) (G : Hp), vs = [.ref p, .ref a, .str u] ∧ D G (.ref p) (dTr t) ∧ TrOk cols.length t ∧ depT t ≤ n ∧ G a = some (.lst cs) ∧ DA G cs (dCols cols) ∧ Good n10 cols ∧ Same G H ∧
  ∀ (q : V) (H' G' : Hp), Xt none H G H' G' → D G' q (.list ((tokT cols t u).map .str)) → Q q H'
theorem tok77 {n : Nat} (h : n ≤ 3) : tokN n ≤ 77 := Nat.le_trans (tokN_mono h) (by decide)
theorem strs1 {G : Hp} {p : Addr} {l : List Str} (h : G p = some (.lst (l.map V.str))) : D G (.ref p) (.list (l.map .str)) := .lst h (DA.ofStrs l)
section
variable {P : Program} {w : World} {K : PySem.W.Frag} {mg : Str → Option Value} {base : Heap}
theorem lTokensStep {f : Addr} {fd : FuncData} (F : C8.Def K mg "_law_tokens" s__law_tokens f fd) (b : Binds K fd P__law_tokens []) (T : Names K mg) (n : Nat) (n3 : n ≤ 3) (sp : Sp) (c__law_sum_tokens : C8.Cal P w K mg base 1 "_law_sum_tokens" spSumTok [])
    (c__law_tokens : C8.Cal P w K mg base (1 + n) "_law_tokens" sp []) (hsp : ∀ m, n = m + 1 → sp = spTokens m) : C8.Cal P w K mg base (2 + n) "_law_tokens" (spTokens n) [] := by
  rw [show 2 + n = (1 + n) + 1 by omega]
  refine C8.cal0 (N := N__law_tokens) F b .nil sc__law_tokens (fun vs H Q E h => ?_) (fun cdv A outer s H vs Q E hr h => ?_)
  · obtain ⟨p, a, u, t, cs, cols, G, rfl, _⟩ := h
    rfl
  · obtain ⟨p, a, u, t, cs, cols, G, rfl, dt, ok, dep, ga, dac, good10, sG, k⟩ := h
    have good := good11 good10
    have hu := hu_of hr
    refine ⟨_, (pss_cons (ps_if (pt_cmpR op_eq (pe_ix ix_tup (pv 0) pe_int (fun _ _ => rfl)) pe_str (nomark _)) (pss_one (ps_ret (pe_lst (pa_cons (pe_ix ix_tup (pv 0) pe_int (fun _ _ => rfl)) pa_nil)))) pss_nil)
 (pss_cons (ps_if (pt_cmpR op_eq (pe_ix ix_tup (pv 0) pe_int (fun _ _ => rfl)) pe_str (nomark _)) (pss_one (ps_ret (pe_lst (pa_cons pe_str (pa_cons (pe_ix ix_tup (pv 0) pe_int (fun _ _ => rfl)) (pa_cons (pe_ix ix_tup (pv 0) pe_int (fun _ _ => rfl)) pa_nil)))))) pss_nil)
 (pss_cons (ps_if (pt_cmpR op_eq (pe_ix ix_tup (pv 0) pe_int (fun _ _ => rfl)) pe_str (nomark _)) (pss_cons (ps_set (i := 3) sc__law_tokens.nd rfl (Or.inl rfl) (pe_op op_cat (C8.pe_c c__law_sum_tokens hr (by omega) rfl (pa_cons (pe_ix ix_tup (pv 0) pe_int (fun _ _ => rfl)) (pa_cons (pv 1) pa_nil))) (pe_lst (pa_cons (pe_ix ix_tup (pv 0) pe_int (fun _ _ => rfl)) pa_nil))))
 (pss_one (ps_ret (pe_op op_cat (pv 3) (C8.pe_c c__law_sum_tokens hr (by omega) rfl (pa_cons (pe_ix ix_tup (pv 0) pe_int (fun _ _ => rfl)) (pa_cons (pv 1) pa_nil))))))) pss_nil)
 (pss_cons (ps_if (pt_cmpR op_eq (pe_ix ix_tup (pv 0) pe_int (fun _ _ => rfl)) pe_str (nomark _)) (pss_one (ps_ret (pe_op op_cat (pe_lst (pa_cons pe_str pa_nil)) (C8.pe_c c__law_tokens hr (by omega) rfl (pa_cons (pe_ix ix_tup (pv 0) pe_int (fun _ _ => rfl)) (pa_cons (pv 1) (pa_cons pe_str pa_nil))))))) pss_nil)
 (pss_cons (ps_set (i := 3) sc__law_tokens.nd rfl (Or.inl rfl) (pe_op op_cat (C8.pe_c c__law_tokens hr (by omega) rfl (pa_cons (pe_ix ix_tup (pv 0) pe_int (fun _ _ => rfl)) (pa_cons (pv 1) (pa_cons (pe_ix ix_tup (pv 0) pe_int (fun _ _ => rfl)) pa_nil)))) (pe_lst (pa_cons (pe_ix ix_tup (pv 0) pe_int (fun _ _ => rfl)) pa_nil))))
 (pss_cons (ps_set (i := 3) sc__law_tokens.nd rfl (Or.inl rfl) (pe_op op_cat (pv 3) (C8.pe_c c__law_tokens hr (by omega) rfl (pa_cons (pe_ix ix_tup (pv 0) pe_int (fun _ _ => rfl)) (pa_cons (pv 1) (pa_cons (pe_ix ix_tup (pv 0) pe_int (fun _ _ => rfl)) pa_nil))))))
 (C8.pss_cut (ps_set (i := 4) sc__law_tokens.nd rfl (Or.inl rfl) (pe_or (pe_cmpR op_eq (pv 2) pe_str (nomark _)) (pe_one (pe_and (pe_cmpR op_eq (pv 2) pe_str (nomark _)) (pe_one (pe_cmpR op_eq (pe_ix ix_tup (pv 0) pe_int (fun _ _ => rfl)) pe_str (nomark _)))))))
 (pss_one (ps_ret (pe_ifExp (pt_val (pv 4)) (pe_op op_cat (pe_op op_cat (pe_lst (pa_cons pe_str pa_nil)) (pv 3)) (pe_lst (pa_cons pe_str pa_nil))) (pv 3))))))))))), ?_⟩
    cases t with
    | plain b =>
      obtain ⟨p_, e0, hp⟩ := inv_plain dt
      cases e0
      have hT := SqT.of (K := K) (sG _ _ hp)
      refine ⟨_, rfl, p, _, _, _, rfl, rfl, hT, rfl, rfl, _, rfl, ?_⟩
      rw [es_, decide_eq_true rfl]
      refine iteT ⟨_, rfl, p, _, _, _, rfl, rfl, hT, rfl, (by show 1 ≤ sizeLine; decide), fun q hq => ?_⟩
      exact k _ _ _ (Xt.new sG hq) (strs1 (l := [tfS b]) upd_same)
    | name e z =>
      obtain ⟨p_, e0, hp⟩ := inv_name dt
      cases e0
      have hT := SqT.of (K := K) (sG _ _ hp)
      refine ⟨_, rfl, p, _, _, _, rfl, rfl, hT, rfl, rfl, _, rfl, ?_⟩
      rw [es_, decide_eq_false (by decide +kernel)]
      refine iteF ⟨_, rfl, p, _, _, _, rfl, rfl, hT, rfl, rfl, _, rfl, ?_⟩
      rw [es_, decide_eq_true rfl]
      refine iteT ⟨_, rfl, p, _, _, _, rfl, rfl, hT, rfl, _, rfl, p, _, _, _, rfl, rfl, hT, rfl, (by show 3 ≤ sizeLine; decide), fun q hq => ?_⟩
      exact k _ _ _ (Xt.new sG hq) (strs1 (l := ["name", eqS e, z]) upd_same)
    | cmp l s r =>
      obtain ⟨p_, q1, q2, e0, hp, d1, d2⟩ := inv_cmp dt
      cases e0
      obtain ⟨ok1, hs, ok2⟩ := ok
      have hT := SqT.of (K := K) (sG _ _ hp)
      have z1 := (sum_gd good ok1).2.2
      have z2 := (sum_gd good ok2).2.2
      refine ⟨_, rfl, p, _, _, _, rfl, rfl, hT, rfl, rfl, _, rfl, ?_⟩
      rw [es_, decide_eq_false (by decide +kernel)]
      refine iteF ⟨_, rfl, p, _, _, _, rfl, rfl, hT, rfl, rfl, _, rfl, ?_⟩
      rw [es_, decide_eq_false (by decide +kernel)]
      refine iteF ⟨_, rfl, p, _, _, _, rfl, rfl, hT, rfl, rfl, _, rfl, ?_⟩
      rw [es_, decide_eq_true rfl]
      refine iteT ⟨_, rfl, p, _, _, _, rfl, rfl, hT, rfl, _, rfl, q1, a, cs, l, cols, G, rfl, d1, ga, dac, good10, ok1, sG, fun v H1 G1 X1 dv => ?_⟩
      refine ⟨_, rfl, p, _, _, _, rfl, rfl, SqT.of (X1.sub _ _ (X1.gg _ _ hp)), rfl, (by show 1 ≤ sizeLine; decide), fun q hq => ?_⟩
      have X2 := X1.alloc (o := .lst [.str s]) hq
      refine catL_data (dv.mono (upd_same_ (X1.sub.free hq))) (strs1 (l := [s]) upd_same) X2.sub (by rw [List.length_map]; show _ + 1 ≤ _; omega) fun v3 H3 G3 X3 d3 => ?_
      have Y3 := X2.trans X3
      refine ⟨_, rfl, _, rfl, p, _, _, _, rfl, rfl, SqT.of (Y3.sub _ _ (Y3.gg _ _ hp)), rfl, _, rfl, q2, a, cs, r, cols, G3, rfl, d2.mono Y3.gg, Y3.gg _ _ ga, dac.mono Y3.gg, good10, ok2, Y3.sub, fun v4 H4 G4 X4 d4 => ?_⟩
      refine catL_data (d3.mono X4.gg) d4 X4.sub (by simp only [List.length_append, List.length_map, List.length_singleton, List.length_cons, List.length_nil]; omega) fun v5 H5 G5 X5 d5 => ?_
      refine k _ _ _ (Y3.trans (X4.trans X5)) ?_
      have e : (tokT cols (.cmp l s r) u).map PyData.str = (sumS cols l).map .str ++ [s].map .str ++ (sumS cols r).map .str := by
        show (sumS cols l ++ [s] ++ sumS cols r).map PyData.str = _
        rw [List.map_append, List.map_append]
      rw [e]
      exact d5
    | no t =>
      obtain ⟨m, rfl⟩ : ∃ m, n = m + 1 := ⟨n - 1, by have : depT t + 1 ≤ n := dep; omega⟩
      obtain rfl := hsp m rfl
      obtain ⟨p_, q1, e0, hp, d1⟩ := inv_no dt
      cases e0
      have hT := SqT.of (K := K) (sG _ _ hp)
      have z1 := (tree_gd good t "not" ok).2.2
      have dm : depT t ≤ m := by have : depT t + 1 ≤ m + 1 := dep; omega
      have z2 := tokN_mono dm
      have z3 := tok77 (n := m) (by omega)
      refine ⟨_, rfl, p, _, _, _, rfl, rfl, hT, rfl, rfl, _, rfl, ?_⟩
      rw [es_, decide_eq_false (by decide +kernel)]
      refine iteF ⟨_, rfl, p, _, _, _, rfl, rfl, hT, rfl, rfl, _, rfl, ?_⟩
      rw [es_, decide_eq_false (by decide +kernel)]
      refine iteF ⟨_, rfl, p, _, _, _, rfl, rfl, hT, rfl, rfl, _, rfl, ?_⟩
      rw [es_, decide_eq_false (by decide +kernel)]
      refine iteF ⟨_, rfl, p, _, _, _, rfl, rfl, hT, rfl, rfl, _, rfl, ?_⟩
      rw [es_, decide_eq_true rfl]
      refine iteT ⟨(by show 1 ≤ sizeLine; decide), fun q hq => ?_⟩
      have X2 := Xt.new (b := none) (o := .lst [.str "not"]) sG hq
      have dq : D (upd G q (.lst [.str "not"])) (.ref q) (.list ([("not" : Str)].map PyData.str)) := strs1 (l := ["not"]) upd_same
      refine ⟨_, rfl, p, _, _, _, rfl, rfl, SqT.of (X2.sub _ _ (X2.gg _ _ hp)), rfl, _, rfl, q1, a, "not", t, cs, cols, _, rfl, d1.mono X2.gg, ok, dm, X2.gg _ _ ga, dac.mono X2.gg, good10, X2.sub, fun v3 H3 G3 X3 d3 => ?_⟩
      refine catL_data (dq.mono X3.gg) d3 X3.sub (by simp only [List.length_append, List.length_map, List.length_singleton, List.length_cons, List.length_nil]; omega) fun v5 H5 G5 X5 d5 => ?_
      exact k _ _ _ (X2.trans (X3.trans X5)) d5
    | two o x y =>
      obtain ⟨m, rfl⟩ : ∃ m, n = m + 1 := ⟨n - 1, by have : max (depT x) (depT y) + 1 ≤ n := dep; omega⟩
      obtain rfl := hsp m rfl
      obtain ⟨p_, q1, q2, e0, hp, d1, d2⟩ := inv_two dt
      cases e0
      have hT := SqT.of (K := K) (sG _ _ hp)
      have z1 := (tree_gd good x (opS o) ok.1).2.2
      have z2 := (tree_gd good y (opS o) ok.2).2.2
      have dm1 : depT x ≤ m := by have : max (depT x) (depT y) + 1 ≤ m + 1 := dep; omega
      have dm2 : depT y ≤ m := by have : max (depT x) (depT y) + 1 ≤ m + 1 := dep; omega
      have z3 := tokN_mono dm1
      have z4 := tokN_mono dm2
      have z5 := tok77 (n := m) (by omega)
      refine ⟨_, rfl, p, _, _, _, rfl, rfl, hT, rfl, rfl, _, rfl, ?_⟩
      rw [es_, decide_eq_false (by cases o <;> decide +kernel)]
      refine iteF ⟨_, rfl, p, _, _, _, rfl, rfl, hT, rfl, rfl, _, rfl, ?_⟩
      rw [es_, decide_eq_false (by cases o <;> decide +kernel)]
      refine iteF ⟨_, rfl, p, _, _, _, rfl, rfl, hT, rfl, rfl, _, rfl, ?_⟩
      rw [es_, decide_eq_false (by cases o <;> decide +kernel)]
      refine iteF ⟨_, rfl, p, _, _, _, rfl, rfl, hT, rfl, rfl, _, rfl, ?_⟩
      rw [es_, decide_eq_false (by cases o <;> decide +kernel)]
      refine iteF ⟨_, rfl, p, _, _, _, rfl, rfl, hT, rfl, _, rfl, _, rfl, p, _, _, _, rfl, rfl, hT, rfl, q1, a, opS o, x, cs, cols, G, rfl, d1, ok.1, dm1, ga, dac, good10, sG, fun v1 H1 G1 X1 dv1 => ?_⟩
      refine ⟨_, rfl, p, _, _, _, rfl, rfl, SqT.of (X1.sub _ _ (X1.gg _ _ hp)), rfl, (by show 1 ≤ sizeLine; decide), fun q hq => ?_⟩
      have X2 := X1.alloc (o := .lst [.str (opS o)]) hq
      refine catL_data (dv1.mono (upd_same_ (X1.sub.free hq))) (strs1 (l := [opS o]) upd_same) X2.sub (by rw [List.length_map]; show _ + 1 ≤ _; omega) fun v3 H3 G3 X3 d3 => ?_
      have Y3 := X2.trans X3
      refine ⟨_, rfl, _, rfl, p, _, _, _, rfl, rfl, SqT.of (Y3.sub _ _ (Y3.gg _ _ hp)), rfl, _, rfl, _, rfl, p, _, _, _, rfl, rfl, SqT.of (Y3.sub _ _ (Y3.gg _ _ hp)), rfl, q2, a, opS o, y, cs, cols, G3, rfl, d2.mono Y3.gg, ok.2, dm2, Y3.gg _ _ ga, dac.mono Y3.gg, good10, Y3.sub, fun v4 H4 G4 X4 d4 => ?_⟩
      have l1 : ((tokT cols x (opS o)).map PyData.str ++ [opS o].map PyData.str).length ≤ 78 := by rw [List.length_append, List.length_map]; show _ + 1 ≤ _; omega
      refine catL_data (d3.mono X4.gg) d4 X4.sub (by rw [List.length_map]; omega) fun v5 H5 G5 X5 d5 => ?_
      have Y5 := Y3.trans (X4.trans X5)
      obtain ⟨M, eM⟩ : ∃ M, M = tokT cols x (opS o) ++ [opS o] ++ tokT cols y (opS o) := ⟨_, rfl⟩
      have d5' : D G5 v5 (.list (M.map .str)) := by
        rw [eM, List.map_append, List.map_append]; exact d5
      have lM : M.length ≤ 155 := by
        rw [eM, List.length_append, List.length_append, List.length_singleton]; omega
      have ek : tokT cols (.two o x y) u = if u = "not" ∨ (u = "and" ∧ o = true) then [("(" : Str)] ++ M ++ [(")" : Str)] else M := by rw [tok_two, eM]
      refine ⟨fun σ' H' => H' = H5 ∧ σ' = [some (.ref p), some (.ref a), some (.str u), some v5, some (.bl (decide (u = "not" ∨ (u = "and" ∧ o = true))))], ?_, ?_⟩
      · refine ⟨_, rfl, rfl, _, rfl, ?_⟩
        rw [es_]
        by_cases c1 : u = "not"
        · rw [decide_eq_true c1]
          refine iteT ⟨rfl, ?_⟩
          rw [decide_eq_true (show u = "not" ∨ (u = "and" ∧ o = true) from .inl c1)]; rfl
        · rw [decide_eq_false c1]
          refine iteF ⟨_, rfl, rfl, _, rfl, ?_⟩
          rw [es_]
          by_cases c2 : u = "and"
          · rw [decide_eq_true c2]
            refine iteT ⟨_, rfl, p, _, _, _, rfl, rfl, SqT.of (Y5.sub _ _ (Y5.gg _ _ hp)), rfl, rfl, rfl, ?_⟩
            rw [es_]
            cases o
            · rw [decide_eq_false (show ¬ (u = "not" ∨ (u = "and" ∧ false = true)) from fun q => q.elim c1 fun q => by cases q.2), decide_eq_false (by decide +kernel)]; rfl
            · rw [decide_eq_true (show (u = "not" ∨ (u = "and" ∧ true = true)) from .inr ⟨c2, rfl⟩), decide_eq_true (by decide +kernel)]; rfl
          · rw [decide_eq_false c2]
            refine iteF ⟨rfl, ?_⟩
            rw [decide_eq_false (show ¬ (u = "not" ∨ (u = "and" ∧ o = true)) from fun q => q.elim c1 fun q => c2 q.1)]; rfl
      rintro σ' H' ⟨rfl, rfl⟩
      refine ⟨_, rfl, _, rfl, ?_⟩
      by_cases c : u = "not" ∨ (u = "and" ∧ o = true)
      · rw [decide_eq_true c]
        rw [if_pos c] at ek
        refine iteT ⟨(by show 1 ≤ sizeLine; decide), fun q6 hq6 => ⟨_, rfl, ?_⟩⟩
        have X6 := Y5.alloc (o := .lst [.str "("]) hq6
        refine catL_data (strs1 (l := ["("]) upd_same) (d5'.mono (upd_same_ (Y5.sub.free hq6))) X6.sub (by simp only [List.length_append, List.length_map, List.length_singleton, List.length_cons, List.length_nil]; omega) fun v7 H7 G7 X7 d7 => ?_
        refine ⟨(by show 1 ≤ sizeLine; decide), fun q8 hq8 => ?_⟩
        have X8 := X7.alloc (o := .lst [.str ")"]) hq8
        refine catL_data (d7.mono (upd_same_ (X7.sub.free hq8))) (strs1 (l := [")"]) upd_same) X8.sub (by simp only [List.length_append, List.length_map, List.length_singleton, List.length_cons, List.length_nil]; omega) fun v9 H9 G9 X9 d9 => ?_
        refine k _ _ _ (X6.trans (X8.trans X9)) ?_
        rw [ek, List.map_append, List.map_append]
        exact d9
      · rw [decide_eq_false c]
        rw [if_neg c] at ek
        refine iteF ⟨_, rfl, ?_⟩
        refine k _ _ _ Y5 ?_
        rw [ek]
        exact d5'
theorem lTokens {f : Addr} {fd : FuncData} (F : C8.Def K mg "_law_tokens" s__law_tokens f fd) (b : Binds K fd P__law_tokens []) (T : Names K mg) (c__law_sum_tokens : C8.Cal P w K mg base 1 "_law_sum_tokens" spSumTok []) :
    ∀ n, n ≤ 3 → C8.Cal P w K mg base (2 + n) "_law_tokens" (spTokens n) []
  | 0, h => lTokensStep F b T 0 h spNone c__law_sum_tokens (Cal.up (calNone F b sc__law_tokens) (by omega)) (fun m e => by omega)
  | n + 1, h => lTokensStep F b T (n + 1) h (spTokens n) c__law_sum_tokens (Cal.up (lTokens F b T c__law_sum_tokens n (by omega)) (by omega)) (fun m e => by cases e; rfl)
end
end Nw
namespace Nw
open PySem L2 PySem.Spec PyProof.Rows RZ
theorem cmp_gap {s : Str} (h : s ∈ SIG) (a b : Int) : cmpV s a b = (if a - b = 0 then decide (s ∈ (["=", "<=", ">="] : List Str)) else if a - b < 0 then decide (s ∈ (["!=", "<", "<="] : List Str)) else decide (s ∈ (["!=", ">", ">="] : List Str))) := by
  rcases List.mem_cons.mp h with rfl | h
  · unfold cmpV
    rw [if_pos rfl, (show decide (("=" : Str) ∈ (["=", "<=", ">="] : List Str)) = true by decide +kernel), (show decide (("=" : Str) ∈ (["!=", "<", "<="] : List Str)) = false by decide +kernel), (show decide (("=" : Str) ∈ (["!=", ">", ">="] : List Str)) = false by decide +kernel)]
    rcases Int.lt_trichotomy a b with c | c | c
    · rw [if_neg (by omega : ¬ a - b = 0), if_pos (by omega : a - b < 0), decide_eq_false (by omega : ¬ a = b)]
    · rw [if_pos (by omega : a - b = 0), decide_eq_true (by omega : a = b)]
    · rw [if_neg (by omega : ¬ a - b = 0), if_neg (by omega : ¬ a - b < 0), decide_eq_false (by omega : ¬ a = b)]
  rcases List.mem_cons.mp h with rfl | h
  · unfold cmpV
    rw [if_neg (show ¬ (("!=" : Str) = "=") by decide +kernel), if_pos rfl, (show decide (("!=" : Str) ∈ (["=", "<=", ">="] : List Str)) = false by decide +kernel), (show decide (("!=" : Str) ∈ (["!=", "<", "<="] : List Str)) = true by decide +kernel), (show decide (("!=" : Str) ∈ (["!=", ">", ">="] : List Str)) = true by decide +kernel)]
    rcases Int.lt_trichotomy a b with c | c | c
    · rw [if_neg (by omega : ¬ a - b = 0), if_pos (by omega : a - b < 0), decide_eq_false (by omega : ¬ a = b)]; rfl
    · rw [if_pos (by omega : a - b = 0), decide_eq_true (by omega : a = b)]; rfl
    · rw [if_neg (by omega : ¬ a - b = 0), if_neg (by omega : ¬ a - b < 0), decide_eq_false (by omega : ¬ a = b)]; rfl
  rcases List.mem_cons.mp h with rfl | h
  · unfold cmpV
    rw [if_neg (show ¬ (("<" : Str) = "=") by decide +kernel), if_neg (show ¬ (("<" : Str) = "!=") by decide +kernel), if_pos rfl, (show decide (("<" : Str) ∈ (["=", "<=", ">="] : List Str)) = false by decide +kernel), (show decide (("<" : Str) ∈ (["!=", "<", "<="] : List Str)) = true by decide +kernel), (show decide (("<" : Str) ∈ (["!=", ">", ">="] : List Str)) = false by decide +kernel)]
    rcases Int.lt_trichotomy a b with c | c | c
    · rw [if_neg (by omega : ¬ a - b = 0), if_pos (by omega : a - b < 0), decide_eq_true (by omega : a < b)]
    · rw [if_pos (by omega : a - b = 0), decide_eq_false (by omega : ¬ a < b)]
    · rw [if_neg (by omega : ¬ a - b = 0), if_neg (by omega : ¬ a - b < 0), decide_eq_false (by omega : ¬ a < b)]
  rcases List.mem_cons.mp h with rfl | h
  · unfold cmpV
    rw [if_neg (show ¬ (("<=" : Str) = "=") by decide +kernel), if_neg (show ¬ (("<=" : Str) = "!=") by decide +kernel), if_neg (show ¬ (("<=" : Str) = "<") by decide +kernel), if_pos rfl, (show decide (("<=" : Str) ∈ (["=", "<=", ">="] : List Str)) = true by decide +kernel), (show decide (("<=" : Str) ∈ (["!=", "<", "<="] : List Str)) = true by decide +kernel), (show decide (("<=" : Str) ∈ (["!=", ">", ">="] : List Str)) = false by decide +kernel)]
    rcases Int.lt_trichotomy a b with c | c | c
    · rw [if_neg (by omega : ¬ a - b = 0), if_pos (by omega : a - b < 0), decide_eq_true (by omega : a ≤ b)]
    · rw [if_pos (by omega : a - b = 0), decide_eq_true (by omega : a ≤ b)]
    · rw [if_neg (by omega : ¬ a - b = 0), if_neg (by omega : ¬ a - b < 0), decide_eq_false (by omega : ¬ a ≤ b)]
  rcases List.mem_cons.mp h with rfl | h
  · unfold cmpV
    rw [if_neg (show ¬ ((">" : Str) = "=") by decide +kernel), if_neg (show ¬ ((">" : Str) = "!=") by decide +kernel), if_neg (show ¬ ((">" : Str) = "<") by decide +kernel), if_neg (show ¬ ((">" : Str) = "<=") by decide +kernel), if_pos rfl, (show decide ((">" : Str) ∈ (["=", "<=", ">="] : List Str)) = false by decide +kernel), (show decide ((">" : Str) ∈ (["!=", "<", "<="] : List Str)) = false by decide +kernel), (show decide ((">" : Str) ∈ (["!=", ">", ">="] : List Str)) = true by decide +kernel)]
    rcases Int.lt_trichotomy a b with c | c | c
    · rw [if_neg (by omega : ¬ a - b = 0), if_pos (by omega : a - b < 0), decide_eq_false (by omega : ¬ b < a)]
    · rw [if_pos (by omega : a - b = 0), decide_eq_false (by omega : ¬ b < a)]
    · rw [if_neg (by omega : ¬ a - b = 0), if_neg (by omega : ¬ a - b < 0), decide_eq_true (by omega : b < a)]
  have h5 := List.mem_singleton.mp h
  subst h5
  · unfold cmpV
    rw [if_neg (show ¬ ((">=" : Str) = "=") by decide +kernel), if_neg (show ¬ ((">=" : Str) = "!=") by decide +kernel), if_neg (show ¬ ((">=" : Str) = "<") by decide +kernel), if_neg (show ¬ ((">=" : Str) = "<=") by decide +kernel), if_neg (show ¬ ((">=" : Str) = ">") by decide +kernel), (show decide ((">=" : Str) ∈ (["=", "<=", ">="] : List Str)) = true by decide +kernel), (show decide ((">=" : Str) ∈ (["!=", "<", "<="] : List Str)) = false by decide +kernel), (show decide ((">=" : Str) ∈ (["!=", ">", ">="] : List Str)) = true by decide +kernel)]
    rcases Int.lt_trichotomy a b with c | c | c
    · rw [if_neg (by omega : ¬ a - b = 0), if_pos (by omega : a - b < 0), decide_eq_false (by omega : ¬ b ≤ a)]
    · rw [if_pos (by omega : a - b = 0), decide_eq_true (by omega : b ≤ a)]
    · rw [if_neg (by omega : ¬ a - b = 0), if_neg (by omega : ¬ a - b < 0), decide_eq_true (by omega : b ≤ a)]
def nk (k : Leaf) : Prop := k = .none ∨ ∃ z, k = .text z
def spHolds (n : Nat) : Sp := fun vs H Q _ => ∃ (p r : Addr) (k : Leaf) (t : Tr) (row : List Int) (G : Hp), vs = [.ref p, .ref r, nV k] ∧ nk k ∧ D G (.ref p) (dTr t) ∧ TrOk row.length t ∧ depT t ≤ n ∧ H r = some (.tup (row.map V.int)) ∧ Same G H ∧
  ∀ H', Xt none H G H' G → Q (.bl (holdsT t row k)) H'
section
variable {P : Program} {w : World} {K : PySem.W.Frag} {mg : Str → Option Value} {base : Heap}
end
end Nw
namespace Nw
open PySem L2 PySem.Spec PyProof.Rows RZ
structure SortNames (mg : Str → Option Value) : Prop where
  n_sorted : mg "sorted" = none
  n_set : mg "set" = none
def namesT : Tr → List Str
  | .name _ z => [z]
  | .no t => namesT t
  | .two _ a b => namesT a ++ namesT b
  | _ => []
def spNames (n : Nat) : Sp := fun vs H Q _ => ∃ (p : Addr) (t : Tr) (G : Hp), vs = [.ref p] ∧ D G (.ref p) (dTr t) ∧ depT t ≤ n ∧ Same G H ∧
  ∀ (q : V) (zs : List Str) (H' G' : Hp), Xt none H G H' G' → D G' q (.list (zs.map .str)) → zs.length ≤ 2 ^ n → (∀ z, z ∈ zs ↔ z ∈ namesT t) → Q q H'
section
variable {P : Program} {w : World} {K : PySem.W.Frag} {mg : Str → Option Value} {base : Heap}
end
end Nw
namespace Nw
open PySem L2 PySem.Spec PyProof.Rows RZ
/-- tokens, each with spaces ahead -/
def gapL (ps : List (Nat × Str)) : List Nat := (ps.map fun p => List.replicate p.1 32 ++ p.2.cps.toList).flatten
/-- the end of one and the beginning of the other do not melt -/
def NoT (y z : Str) : Prop := ∀ c d, y.cps.toList.getLast? = some c → z.cps.toList.head? = some d → ¬ (c ∈ LET.cps.toList ∧ d ∈ LET.cps.toList) ∧ ¬ (c ∈ DIG.cps.toList ∧ d ∈ DIG.cps.toList)
def GapsOK (ps : List (Nat × Str)) : Prop := ∀ i p q, ps[i]? = some p → ps[i + 1]? = some q → q.1 = 0 → NoT p.2 q.2
theorem gap_snoc (ps : List (Nat × Str)) (p : Nat × Str) : gapL (ps ++ [p]) = gapL ps ++ (List.replicate p.1 32 ++ p.2.cps.toList) := by
  unfold gapL
  rw [List.map_append, List.flatten_append]
  simp
theorem gap_cons (ps : List (Nat × Str)) (p : Nat × Str) : gapL (p :: ps) = List.replicate p.1 32 ++ (p.2.cps.toList ++ gapL ps) := by
  show (List.replicate p.1 32 ++ p.2.cps.toList) ++ gapL ps = _
  rw [List.append_assoc]
theorem GapsOK.tail {p : Nat × Str} {ps : List (Nat × Str)} (h : GapsOK (p :: ps)) : GapsOK ps := fun i a b ha hb => h (i + 1) a b ha hb
theorem GapsOK.snoc {ps : List (Nat × Str)} {g : Nat} {z : Str} (h : GapsOK ps) (hz : ∀ p, ps.getLast? = some p → g = 0 → NoT p.2 z) : GapsOK (ps ++ [(g, z)]) := by
  intro i p q hp hq h0
  have li := (List.getElem?_eq_some_iff.mp hq).1
  rw [List.length_append, List.length_singleton] at li
  rw [List.getElem?_append_left (by omega)] at hp
  by_cases c : i + 1 < ps.length
  · rw [List.getElem?_append_left c] at hq
    exact h i p q hp hq h0
  · have e : i + 1 = ps.length := by omega
    rw [List.getElem?_append_right (by omega), show i + 1 - ps.length = 0 by omega] at hq
    obtain rfl : (g, z) = q := by simpa using hq
    refine hz p ?_ h0
    rw [List.getLast?_eq_getElem?, show ps.length - 1 = i by omega]
    exact hp
theorem eq_of_61 : ∀ z ∈ SGN, z.cps.toList.head? = some 61 → z = "=" := by decide +kernel
theorem c61_no : (61 : Nat) ∉ LET.cps.toList ∧ (61 : Nat) ∉ DIG.cps.toList := by decide +kernel
theorem GT.head61 {z : Str} (g : GT z) (h : z.cps.toList.head? = some 61) : z = "=" := by
  have hm : (61 : Nat) ∈ z.cps.toList := List.mem_of_mem_head? h
  cases g with
  | let_ _ q => exact absurd (q _ hm) c61_no.1
  | dig _ q => exact absurd (q _ hm) c61_no.2
  | sgn q => exact eq_of_61 z q h
theorem GT.lastL {z : Str} (g : GT z) {alpha : Str} (ha : alpha = LET ∨ alpha = DIG) (h : ∃ y ∈ z.cps.toList, y ∈ alpha.cps.toList) : ∃ c, z.cps.toList.getLast? = some c ∧ c ∈ alpha.cps.toList := by
  have hne := g.ne
  refine ⟨z.cps.toList.getLast hne, List.getLast?_eq_some_getLast hne, ?_⟩
  have hl := List.getLast_mem hne
  obtain ⟨y, hy, hya⟩ := h
  cases g with
  | let_ _ q =>
    rcases ha with rfl | rfl
    · exact q _ hl
    · exact absurd (q _ hy) (let_dig y hya)
  | dig _ q =>
    rcases ha with rfl | rfl
    · exact absurd hya (let_dig y (q _ hy))
    · exact q _ hl
  | sgn q =>
    have := (sgn_one z q).2.2.1 y hy
    rcases ha with rfl | rfl
    · exact absurd hya this.1
    · exact absurd hya this.2.1
theorem sep_sp {z : Str} {c : List Nat} (h : ∀ x, c.head? = some x → x = 32) : Sep z c := fun x hx => by
  rw [h x hx]
  exact ⟨fun _ => spc_no.1, fun _ => spc_no.2, fun _ => by decide⟩
theorem head_rep (n : Nat) (r : List Nat) : ∀ x, (List.replicate (n + 1) 32 ++ r).head? = some x → x = 32 := fun x h => by
  rw [List.replicate_succ, List.cons_append, List.head?_cons] at h
  exact (Option.some.inj h).symm
theorem sps_of : ∀ (ps : List (Nat × Str)) (b : Bool) (n1 : Nat), GapsOK ps → (∀ p ∈ ps, GT p.2) → chk b (ps.map (·.2)) = true → Sps (ps.map (·.2)) (gapL ps ++ List.replicate n1 32)
  | [], _, n1, _, _, _ => .nil n1
  | p :: ps, b, n1, h, hg, hc => by
    have gp := hg p List.mem_cons_self
    have hc' : (!(b && decide (p.2 = "=")) && chk (decide (p.2 ∈ SGN)) (ps.map (·.2))) = true := hc
    rw [Bool.and_eq_true] at hc'
    have ih := sps_of ps _ n1 h.tail (fun q hq => hg q (List.mem_cons_of_mem _ hq)) hc'.2
    rw [gap_cons, List.append_assoc, List.append_assoc]
    refine .cons p.1 gp ?_ ih
    match ps, h, hg, hc'.2 with
    | [], _, _, _ =>
      refine sep_sp fun x hx => ?_
      have hm : x ∈ List.replicate n1 32 := List.mem_of_mem_head? hx
      exact (List.mem_replicate.mp hm).2
    | (0, y) :: ps, h, hg, hc2 =>
      have gy := hg (0, y) (by simp)
      have nt := h 0 p (0, y) rfl rfl rfl
      intro x hx
      have hx' : y.cps.toList.head? = some x := by
        rw [gap_cons] at hx
        match hy : y.cps.toList, gy.ne with
        | a :: l, _ =>
          rw [hy] at hx
          exact hx
      refine ⟨fun e q => ?_, fun e q => ?_, fun hs q => ?_⟩
      · obtain ⟨c, c1, c2⟩ := gp.lastL (.inl rfl) e
        exact (nt c x c1 hx').1 ⟨c2, q⟩
      · obtain ⟨c, c1, c2⟩ := gp.lastL (.inr rfl) e
        exact (nt c x c1 hx').2 ⟨c2, q⟩
      · subst q
        have ey := gy.head61 hx'
        have hc3 : (!(decide (p.2 ∈ SGN) && decide (y = "=")) && chk (decide (y ∈ SGN)) (ps.map (·.2))) = true := hc2
        rw [decide_eq_true hs, decide_eq_true ey] at hc3
        cases hc3
    | (g + 1, y) :: ps, _, _, _ =>
      rw [gap_cons, List.append_assoc]
      exact sep_sp (head_rep g _)
theorem Sps.more {l : List Str} {c : List Nat} (h : Sps l c) (n : Nat) : Sps l (List.replicate n 32 ++ c) := by
  cases h with
  | nil m => rw [List.replicate_append_replicate]; exact .nil _
  | cons m g s r => rw [← List.append_assoc, List.replicate_append_replicate]; exact .cons _ g s r
/-- the last sign of a text -/
theorem cut_last (T : Str) : (T.cps.toList = [] ∧ cutS T (some (-1)) none = "") ∨ ∃ c, T.cps.toList.getLast? = some c ∧ cutS T (some (-1)) none = ⟨#[c]⟩ := by
  have zl : T.length = T.cps.toList.length := by simp [Str.length]
  have e : cutS T (some (-1)) none = ⟨(T.cps.toList.drop (T.cps.toList.length - 1)).toArray⟩ := by
    unfold cutS
    rw [HT.sIx_none, zl]
    have e1 : HT.sIx T.cps.toList.length 0 (some (-1)) = T.cps.toList.length - 1 := by
      show (if (-1 : Int) < 0 then ((-1 : Int) + (T.cps.toList.length : Int)).toNat else min (-1 : Int).toNat T.cps.toList.length) = _
      rw [if_pos (by decide)]
      omega
    rw [e1, List.take_of_length_le (Nat.le_of_eq List.length_drop)]
  rw [e]
  cases hl : T.cps.toList.getLast? with
  | none =>
    have := List.getLast?_eq_none_iff.mp hl
    exact .inl ⟨this, by rw [this]; rfl⟩
  | some c =>
    refine .inr ⟨c, rfl, ?_⟩
    obtain ⟨l, hl⟩ := List.getLast?_eq_some_iff.mp hl
    rw [hl, List.length_append, List.length_singleton, Nat.add_sub_cancel, List.drop_left]
theorem gap_last {n0 : Nat} {ps : List (Nat × Str)} {p : Nat × Str} (h : ps.getLast? = some p) (hg : GT p.2) : (List.replicate n0 32 ++ gapL ps).getLast? = p.2.cps.toList.getLast? := by
  obtain ⟨l, rfl⟩ := List.getLast?_eq_some_iff.mp h
  rw [gap_snoc, ← List.append_assoc, ← List.append_assoc, List.getLast?_append]
  rw [List.getLast?_eq_some_getLast hg.ne]
  rfl
theorem join_eq_ (y : Str) (parts : List Str) : Txt.join y parts = Str.join y parts := PySem.StrLaws.glued_eq_join y parts
theorem snd_map (n : Nat) (l : List Str) : (l.map fun y => (n, y)).map (·.2) = l := by
  rw [List.map_map]
  exact List.map_id' l
/-- tokens with one space between two -/
theorem join_gap : ∀ (z : Str) (l : List Str), (Txt.join " " (z :: l)).cps.toList = z.cps.toList ++ gapL (l.map fun y => (1, y))
  | z, [] => by
    show z.cps.toList = z.cps.toList ++ []
    rw [List.append_nil]
  | z, y :: l => by
    have ih := join_gap y l
    rw [join_eq_] at ih ⊢
    rw [join_cons_cons]
    show ((z.cps ++ (" " : Str).cps) ++ (Str.join " " (y :: l)).cps).toList = _
    rw [Array.toList_append, Array.toList_append, ih, List.map_cons, gap_cons]
    simp only [List.append_assoc]
    rfl
theorem join_sps {l : List Str} (hg : ∀ z ∈ l, GT z) (hc : chk true l = true) : Sps l (Txt.join " " l).cps.toList := by
  cases l with
  | nil => exact .nil 0
  | cons z l =>
    rw [join_gap]
    have h := sps_of ((0, z) :: l.map fun y => (1, y)) true 0 (fun i p q hp hq h0 => by
      have hq2 : (l.map fun y => ((1 : Nat), y))[i]? = some q := hq
      rw [List.getElem?_map] at hq2
      obtain ⟨y, _, rfl⟩ := Option.map_eq_some_iff.mp hq2
      cases h0) (fun p hp => by
      rcases List.mem_cons.mp hp with rfl | hp
      · exact hg z List.mem_cons_self
      · obtain ⟨y, hy, rfl⟩ := List.mem_map.mp hp
        exact hg y (List.mem_cons_of_mem _ hy)) (by
      have e : ((0, z) :: l.map fun y => ((1 : Nat), y)).map (·.2) = z :: l := by rw [List.map_cons, snd_map]
      rw [e]; exact hc)
    have e : ((0, z) :: l.map fun y => ((1 : Nat), y)).map (·.2) = z :: l := by rw [List.map_cons, snd_map]
    rw [e, gap_cons] at h
    simpa using h
end Nw
namespace Nw
open PySem L2 PySem.Spec PyProof.Rows RZ
/-- a draw of a written list of numbers -/
theorem of_stepI {b q : Addr} {c : Int} {H0 G H G' : Hp} {Q : VK} {E : XK} (l : List Int) (X : Xt (some b) H0 G H G') (g1 : G' b = none) (hB : Bag H b c) (hc : c ≤ 1000000) (hl : 0 < l.length ∧ l.length ≤ 100) (hq : H q = none)
    (k : ∀ (z : Int) (H' : Hp), z ∈ l → Xt (some b) H0 G H' G' → Bag H' b (c + 1) → (∀ a, a ≠ b → ∀ o, H a = some o → H' a = some o) → Q (.int z) H') : SpOf [.ref b, .ref q] (upd H q (.lst (l.map V.int))) Q E := by
  have nbq : b ≠ q := fun e => hB.ne (by rw [e]; exact hq)
  refine ⟨b, q, l.map V.int, c, rfl, upd_same, nbq.symm, ?_, by rw [List.length_map]; omega, hB.upd nbq, hc, fun v iv x y z hv hB2 => ?_⟩
  · intro e
    have := List.map_eq_nil_iff.mp e
    rw [this] at hl
    exact absurd hl.1 (by decide)
  · rw [List.getElem?_map] at hv
    obtain ⟨s, h1, rfl⟩ := Option.map_eq_some_iff.mp hv
    refine k s _ (List.mem_of_getElem? h1) ((X.allocT (o := .lst (l.map V.int)) hq).put g1) hB2 fun a na o h => ?_
    rw [upd_ne na]
    exact upd_same_ hq _ _ h
theorem spS_len (n : Nat) : (spS n).cps.toList = List.replicate n 32 := rfl
theorem str_len (z : Str) : z.length = z.cps.toList.length := by simp [Str.length]
theorem str_app (x y : Str) : (x ++ y).cps.toList = x.cps.toList ++ y.cps.toList := by
  show (x.cps ++ y.cps).toList = _
  rw [Array.toList_append]
theorem gap_len : ∀ l : List Str, (∀ z ∈ l, z.length ≤ 8) → (gapL (l.map fun y => ((1 : Nat), y))).length ≤ 9 * l.length
  | [], _ => Nat.le_refl _
  | z :: l, h => by
    have ih := gap_len l fun y hy => h y (List.mem_cons_of_mem _ hy)
    have hz := h z List.mem_cons_self
    rw [str_len] at hz
    rw [List.map_cons, gap_cons, List.length_append, List.length_append, List.length_replicate, List.length_cons]
    show 1 + (z.cps.toList.length + _) ≤ _
    omega
theorem join_len : ∀ l : List Str, (∀ z ∈ l, z.length ≤ 8) → (Txt.join " " l).length ≤ 9 * l.length + 8
  | [], _ => by show 0 ≤ _; omega
  | z :: l, h => by
    have g := gap_len l fun y hy => h y (List.mem_cons_of_mem _ hy)
    have hz := h z List.mem_cons_self
    rw [str_len] at hz
    rw [str_len, join_gap, List.length_append, List.length_cons]
    omega
structure Spaced (vs : List V) (H : Hp) (Q : VK) (E : XK) : Prop where
  ex : ∃ (b p : Addr) (c : Int) (l : List Str) (G : Hp), vs = [.ref b, .ref p] ∧ G p = some (.lst (l.map V.str)) ∧ (∀ z ∈ l, Gd z) ∧ chk true l = true ∧ l.length ≤ 100 ∧ Bag H b c ∧ c ≤ 90000 ∧ G b = none ∧ Same G H ∧
    ∀ (z : Str) (H' : Hp), Xt (some b) H G H' G → Bag H' b (c + 2 + (l.length : Int)) → Sps l z.cps.toList → z.length ≤ 5000 → Q (.str z) H'
section
variable {P : Program} {w : World} {K : PySem.W.Frag} {mg : Str → Option Value} {base : Heap}
theorem lSpaced {f : Addr} {fd : FuncData} (F : C8.Def K mg "_law_spaced" s__law_spaced f fd) (b : Binds K fd P__law_spaced []) (T : Names K mg) (c__law_take : C8.Cal P w K mg base 1 "_law_take" SpTake []) (c__law_of : C8.Cal P w K mg base 2 "_law_of" SpOf []) : C8.Cal P w K mg base 3 "_law_spaced" Spaced [] := by
  refine C8.cal0 (N := N__law_spaced) F b .nil sc__law_spaced (fun vs H Q E h => ?_) (fun cdv A outer s H vs Q E hr h => ?_)
  · obtain ⟨b, p, c, l, G, rfl, _⟩ := h.ex
    rfl
  · obtain ⟨b, p, c, l, G, rfl, gp, gd, hchk, l100, hB, hc, gb, sG, k⟩ := h.ex
    have hu := hu_of hr
    refine ⟨_, (pss_cons (ps_set (i := 2) sc__law_spaced.nd rfl (Or.inl rfl) (pe_lst (pa_cons pe_str (pa_cons pe_str pa_nil))))
 (pss_cons (ps_set (i := 3) sc__law_spaced.nd rfl (Or.inl rfl) (pe_op op_spc pe_str (C8.pe_c c__law_take hr (by decide) rfl (pa_cons (pv 0) (pa_cons pe_int pa_nil)))))
 (pss_cons (ps_for PassesOwn.never rfl (pi_list (pv 1)) (pg_name (i := 4) sc__law_spaced.nd rfl (Or.inr rfl)) (pss_cons (ps_asg (pe_tup (pa_cons (pe_slice sl_str (pv 3) (po_some (pe_un un_neg pe_int)) po_none) (pa_cons (C8.pe_c c__law_of hr (by decide) rfl (pa_cons (pv 0) (pa_cons (pe_lst (pa_cons pe_int (pa_cons pe_int (pa_cons pe_int (pa_cons pe_int pa_nil))))) pa_nil))) pa_nil))) (pg_tup rfl (pgs_cons (pg_name (i := 5) sc__law_spaced.nd rfl (Or.inr rfl)) (pgs_cons (pg_name (i := 6) sc__law_spaced.nd rfl (Or.inl rfl)) pgs_nil))))
 (C8.pss_cut (ps_if (PW.pt (pw_and (pt_cmpR op_ne (pv 5) pe_str (nomark _)) (pw_and1 (pt_val (pe_callB (cr_any rfl) (by rfl) T.n_any (by decide +kernel) (pa_cons (pe_lc (own := [("_law_sort", 7)]) (g := (gName 7)) (tt := tYes) rfl sc__law_spaced.nd (pi_list (pv 2)) (blkOk_by (own := [("_law_sort", 7)]) (N := N__law_spaced) (sc := C8.fnScope s__law_spaced) (by decide +kernel)) (fun _ _ _ _ _ => (pg_name (i := 7) sc__law_spaced.nd rfl (Or.inl rfl))) (fun _ _ _ _ _ => pts_nil) (fun _ _ _ _ _ => (pe_and (pe_cmpR op_in_sign (pv 5) (pv 7) (by rfl)) (pe_one (pe_cmpR op_in_sign (pe_ix ix_str (pv 4) pe_int (fun _ _ => rfl)) (pv 7) (by rfl)))))) pa_nil)))))) (pss_one (ps_set (i := 6) sc__law_spaced.nd rfl (Or.inl rfl) (pe_callB (call_max2 rfl) (by rfl) T.n_max (by decide +kernel) (pa_cons pe_int (pa_cons (pv 6) pa_nil))))) pss_nil)
 (pss_one (ps_set (i := 3) sc__law_spaced.nd rfl (Or.inl rfl) (pe_op op_add_str (pe_op op_add_str (pv 3) (pe_op op_spc pe_str (pv 6))) (pv 4)))))))
 (pss_cons (ps_set (i := 3) sc__law_spaced.nd rfl (Or.inl rfl) (pe_op op_add_str (pv 3) (pe_op op_spc pe_str (C8.pe_c c__law_take hr (by decide) rfl (pa_cons (pv 0) (pa_cons pe_int pa_nil))))))
 (pss_one (ps_ret (pe_ifExp (pt_cmpR op_le (pe_callB call_len_str (by rfl) T.n_len PySem.boot_len (pa_cons (pv 3) pa_nil)) pe_int (nomark _)) (pv 3) (pe_join pe_str (pv 1))))))))), ?_⟩
    refine ⟨(by show 2 ≤ sizeLine; decide), fun so hso => ?_⟩
    have X0 := Xt.tmp (b := some b) (o := .lst [.str LET, .str DIG]) sG hso
    have nbs : b ≠ so := fun e => hB.ne (by rw [e]; exact hso)
    refine ⟨_, rfl, take_step (n := 2) X0 gb (hB.upd nbs) (by omega) (by decide) fun r H1 r0 r1 X1 hB1 kp1 => ?_⟩
    have hS1 : H1 so = some (.lst [.str LET, .str DIG]) := kp1 so nbs.symm _ upd_same
    obtain ⟨n0, rfl⟩ : ∃ n0 : Nat, r = (n0 : Int) := ⟨r.toNat, by omega⟩
    refine ⟨n0, by omega, rfl, rfl, ?_⟩
    refine ⟨_, rfl, p, rfl, ⟨_, SqL.of (X1.sub _ _ gp)⟩, for_it (walk_list (xs := l.map V.str)) (fun i σ' H' => ∃ (v4 v5 v6 : Option V) (t : Str) (ps : List (Nat × Str)), σ' = [some (.ref b), some (.ref p), some (.ref so), some (.str t), v4, v5, v6, none] ∧ Xt (some b) H G H' G ∧ Bag H' b (c + 1 + (i : Int)) ∧
      H' so = some (.lst [.str LET, .str DIG]) ∧ t.cps.toList = List.replicate n0 32 ++ gapL ps ∧ ps.map (·.2) = l.take i ∧ GapsOK ps ∧ t.length ≤ 2 + 10 * i) ?_ ?_ ?_ ?_⟩
    · refine ⟨none, none, none, _, [], rfl, X1, hB1.mono (by omega), hS1, ?_, rfl, (fun i p q h => by cases h), ?_⟩
      · rw [spS_len]; exact (List.append_nil _).symm
      · rw [str_len, spS_len, List.length_replicate]; omega
    · rintro i σ' H' hi ⟨v4, v5, v6, t, ps, rfl, X, _⟩
      exact SqL.of (X.sub _ _ gp)
    · rintro i y σ' H0_ H' hi ⟨v4, v5, v6, t, ps, rfl, X, hB2, hS2, ht, hps, gok, tl⟩ ⟨rfl, hy⟩
      rw [List.getElem?_map] at hy
      obtain ⟨z, hz, rfl⟩ := Option.map_eq_some_iff.mp hy
      have hm := List.mem_of_getElem? hz
      obtain ⟨gz, z8⟩ := gd z hm
      rw [List.length_map] at hi
      refine ⟨_, rfl, _, rfl, _, rfl, ?_⟩
      refine tNoPart_ ?_
      refine ⟨t, rfl, small_line (by omega), _, rfl, (by show 4 ≤ sizeLine; decide), fun q hq => of_stepI [0, 1, 1, 2] X gb hB2 (by omega) (by decide) hq fun g H3 hg X3 hB3 kp3 => ⟨(by show 2 ≤ sizeLine; decide), fun tp htp => ?_⟩⟩
      have g2 : 0 ≤ g ∧ g ≤ 2 := by
        have : ∀ x ∈ ([0, 1, 1, 2] : List Int), 0 ≤ x ∧ x ≤ 2 := by decide
        exact this g hg
      obtain ⟨gn, rfl⟩ : ∃ gn : Nat, g = (gn : Int) := ⟨g.toNat, by omega⟩
      have hS3 := kp3 so nbs.symm _ hS2
      have nst : so ≠ tp := fun e => by subst e; rw [hS3] at htp; cases htp
      have nbt : b ≠ tp := fun e => hB3.ne (by rw [e]; exact htp)
      have X4 := X3.allocT (o := .tup [.str (cutS t (some (-1)) none), .int (gn : Int)]) htp
      have hS4 : upd H3 tp (.tup [.str (cutS t (some (-1)) none), .int (gn : Int)]) so = some (.lst [.str LET, .str DIG]) := by rw [upd_ne nst]; exact hS3
      refine ⟨tp, _, rfl, SqT.of upd_same, rfl, _, _, rfl, _, _, rfl, rfl, ?_⟩
      have hB4 := hB3.upd (o := .tup [.str (cutS t (some (-1)) none), .int (gn : Int)]) nbt
      generalize upd H3 tp (.tup [.str (cutS t (some (-1)) none), .int (gn : Int)]) = H4 at X4 hS4 hB4 ⊢
      have gts : ∀ q ∈ ps, GT q.2 := fun q hq => (gd q.2 (List.mem_of_mem_take (by rw [← hps]; exact List.mem_map_of_mem hq))).gt
      -- what of a gap must be known
      have noT : ∀ g' : Nat, (g' = 0 → ∀ c d, t.cps.toList.getLast? = some c → z.cps.toList.head? = some d → ¬ (c ∈ LET.cps.toList ∧ d ∈ LET.cps.toList) ∧ ¬ (c ∈ DIG.cps.toList ∧ d ∈ DIG.cps.toList)) → ∀ q, ps.getLast? = some q → g' = 0 → NoT q.2 z := by
        intro g' h q hq h0 c d hc hd
        refine h h0 c d ?_ hd
        rw [ht, gap_last hq (gts q (List.mem_of_getLast? hq))]
        exact hc
      refine ⟨fun σ2 H2 => ∃ g' : Nat, σ2 = [some (.ref b), some (.ref p), some (.ref so), some (.str t), some (.str z), some (.str (cutS t (some (-1)) none)), some (.int (g' : Int)), none] ∧ Xt (some b) H G H2 G ∧ Bag H2 b (c + 1 + ((i + 1 : Nat) : Int)) ∧ H2 so = some (.lst [.str LET, .str DIG]) ∧ g' ≤ 2 ∧
        (g' = 0 → ∀ c d, t.cps.toList.getLast? = some c → z.cps.toList.head? = some d → ¬ (c ∈ LET.cps.toList ∧ d ∈ LET.cps.toList) ∧ ¬ (c ∈ DIG.cps.toList ∧ d ∈ DIG.cps.toList)), ?_, ?_⟩
      · refine ⟨_, rfl, rfl, _, rfl, ?_⟩
        rw [es_]
        rcases cut_last t with ⟨te, ce⟩ | ⟨cl, lc, ce⟩
        · rw [ce, decide_eq_true rfl]
          refine iteF (iteF ⟨gn, rfl, X4, hB4.mono (by omega), hS4, by omega, fun _ c d hc _ => ?_⟩)
          rw [te] at hc; cases hc
        · have ne : ¬ (cutS t (some (-1)) none = ("" : Str)) := by
            rw [ce]; intro e
            have := congrArg (fun z : Str => z.cps.size) e
            have h0 : ("" : Str).cps.size = 0 := by decide +kernel
            rw [h0] at this
            exact absurd this (by simp)
          rw [decide_eq_false ne]
          obtain ⟨d, zr, hz0⟩ : ∃ d zr, z.cps.toList = d :: zr := by
            match hz : z.cps.toList, gz.ne with
            | d :: zr, _ => exact ⟨d, zr, rfl⟩
          refine iteT ⟨_, rfl, so, rfl, ⟨_, SqL.of hS4⟩, fun Dl hD => ?_⟩
          have nsd : so ≠ Dl := fun e => by subst e; rw [hS4] at hD; cases hD
          refine lc_data (b := none) (R := fun _ H => H so = some (.lst [.str LET, .str DIG])) (G := G) (walk_list (xs := [.str LET, .str DIG])) [.bool (decide (cl ∈ LET.cps.toList) && decide (d ∈ LET.cps.toList)), .bool (decide (cl ∈ DIG.cps.toList) && decide (d ∈ DIG.cps.toList))] rfl (by decide) hD X4.sub (fun q => by cases q) hS4 (fun _ H o h => by rw [upd_ne nsd]; exact h) (fun i H5 G5 X5 h5 => SqL.of h5) ?_ ?_
          · rintro j y H5 G5 H6 dd hd X5 R5 ⟨rfl, hy⟩ Qy hq
            have el : ∃ al : Str, y = .str al ∧ dd = .bool (decide (cl ∈ al.cps.toList) && decide (d ∈ al.cps.toList)) := by
              match j, hy, hd with
              | 0, hy, hd => exact ⟨LET, (Option.some.inj hy).symm, (Option.some.inj hd).symm⟩
              | 1, hy, hd => exact ⟨DIG, (Option.some.inj hy).symm, (Option.some.inj hd).symm⟩
            obtain ⟨al, rfl, rfl⟩ := el
            refine ⟨rfl, _, rfl, _, rfl, cl, al, by rw [ce], rfl, _, rfl, ?_⟩
            by_cases c1 : cl ∈ al.cps.toList
            · rw [decide_eq_true c1]
              refine iteT ⟨_, rfl, z, 0, d, rfl, rfl, small_line (by omega), by rw [hz0]; exact atI_nat (j := 0) rfl, _, rfl, d, al, rfl, rfl, ?_⟩
              have e9 : (decide (cl ∈ al.cps.toList) && decide (d ∈ al.cps.toList)) = decide (d ∈ al.cps.toList) := by rw [decide_eq_true c1]; rfl
              rw [← e9]
              exact hq _ _ _ (Xt.refl X5.sub) R5 (.bl _)
            · rw [decide_eq_false c1]
              refine iteF ?_
              have e9 : (decide (cl ∈ al.cps.toList) && decide (d ∈ al.cps.toList)) = false := by rw [decide_eq_false c1]; rfl
              rw [← e9]
              exact hq _ _ _ (Xt.refl X5.sub) R5 (.bl _)
          · intro H5 G5 ys X5 R5 hl5 hg5 da5
            have ey := DA.bools (ns := [decide (cl ∈ LET.cps.toList) && decide (d ∈ LET.cps.toList), decide (cl ∈ DIG.cps.toList) && decide (d ∈ DIG.cps.toList)]) da5
            refine ⟨Dl, _, rfl, SqL.of (by rw [hl5, ey]), _, rfl, ?_⟩
            have X6 := X4.trans X5.of.back
            have hB5 := hB4.keep X5
            have ea : ([decide (cl ∈ LET.cps.toList) && decide (d ∈ LET.cps.toList), decide (cl ∈ DIG.cps.toList) && decide (d ∈ DIG.cps.toList)]).any id = (decide (cl ∈ LET.cps.toList) && decide (d ∈ LET.cps.toList) || (decide (cl ∈ DIG.cps.toList) && decide (d ∈ DIG.cps.toList))) := by
              show (_ || (_ || false)) = _
              rw [Bool.or_false]; rfl
            rw [ea]
            refine ite2 (fun cc => ?_) (fun cc => ?_)
            · refine ⟨_, rfl, _, _, rfl, ?_⟩
              have e2 : (if (gn : Int) > 1 then (gn : Int) else 1) = ((max 1 gn : Nat) : Int) := by
                split <;> omega
              rw [e2]
              refine ⟨max 1 gn, rfl, X6, hB5.mono (by omega), R5, by omega, fun h0 => by omega⟩
            · refine ⟨gn, rfl, X6, hB5.mono (by omega), R5, by omega, fun h0 c' d' hc' hd' => ?_⟩
              rw [lc] at hc'
              obtain rfl := Option.some.inj hc'
              rw [hz0] at hd'
              obtain rfl := Option.some.inj hd'
              rw [Bool.or_eq_true, Bool.and_eq_true, Bool.and_eq_true, decide_eq_true_eq, decide_eq_true_eq, decide_eq_true_eq, decide_eq_true_eq] at cc
              exact ⟨fun q => cc (.inl q), fun q => cc (.inr q)⟩
      rintro σ2 H2 ⟨g', rfl, X2, hB5, hS5, gl, gno⟩
      have e1 : (spS g').length = g' := by rw [str_len, spS_len, List.length_replicate]
      have e2 : (t ++ spS g').length = t.length + g' := by
        rw [str_len, str_app, List.length_append, spS_len, List.length_replicate, ← str_len]
      have e3 : (t ++ spS g' ++ z).length = t.length + g' + z.length := by
        rw [str_len, str_app, List.length_append, ← str_len, ← str_len, e2]
      refine ⟨_, rfl, _, rfl, g', gl, rfl, rfl, _, _, rfl, rfl, by rw [e1]; exact small_line (by omega), _, rfl, _, _, rfl, rfl, by rw [e2]; exact small_line (by omega), ?_⟩
      refine ⟨_, _, _, _, ps ++ [(g', z)], rfl, X2, hB5, hS5, ?_, ?_, gok.snoc (noT g' gno), by rw [e3]; omega⟩
      · rw [gap_snoc, str_app, str_app, ht, spS_len]
        simp only [List.append_assoc]
      · rw [List.map_append, hps, take_succ_of hz]; rfl
    · rintro σ' H' ⟨v4, v5, v6, t, ps, rfl, X, hB2, hS2, ht, hps, gok, tl⟩
      rw [List.length_map] at tl hps hB2
      rw [List.take_of_length_le (Nat.le_refl _)] at hps
      have gts : ∀ q ∈ ps, GT q.2 := fun q hq => (gd q.2 (by rw [← hps]; exact List.mem_map_of_mem hq)).gt
      refine ⟨_, rfl, _, rfl, take_step (n := 2) X gb hB2 (by omega) (by decide) fun r H3 r0 r1 X3 hB3 kp3 => ?_⟩
      obtain ⟨n1, rfl⟩ : ∃ n1 : Nat, r = (n1 : Int) := ⟨r.toNat, by omega⟩
      have el : (t ++ spS n1).length = t.length + n1 := by
        rw [str_len, str_app, List.length_append, spS_len, List.length_replicate, ← str_len]
      have e1 : (spS n1).length = n1 := by rw [str_len, spS_len, List.length_replicate]
      refine ⟨n1, by omega, rfl, rfl, _, _, rfl, rfl, by rw [e1]; exact small_line (by omega), ?_⟩
      have fin : Sps l (t ++ spS n1).cps.toList := by
        rw [str_app, ht, spS_len, List.append_assoc, ← hps]
        exact (sps_of ps true n1 gok gts (by rw [hps]; exact hchk)).more n0
      refine ⟨_, rfl, _, rfl, small_line (by rw [el]; omega), _, _, rfl, rfl, _, rfl, ?_⟩
      refine ite2 (fun cc => ?_) (fun cc => ?_)
      · exact ⟨_, rfl, k _ _ X3 (hB3.mono (by omega)) fin (by rw [el]; omega)⟩
      · have hs : ∀ y ∈ l, y.length ≤ 8 := fun y hy => (gd y hy).len
        have hsum := sum_le 8 _ hs
        have f3 : ((" " : String) : Str).length = 1 := by decide +kernel
        refine ⟨⟨_, rfl⟩, _, rfl, _, p, l, rfl, rfl, .inl (SqL.of (X3.sub _ _ gp)), by rw [f3]; omega, ?_⟩
        refine k _ _ X3 (hB3.mono (by omega)) (join_sps (fun y hy => (gd y hy).gt) hchk) ?_
        have := join_len l hs
        omega
end
end Nw
namespace Nw
open PySem L2 PySem.Spec PyProof.Rows RZ
/-! the law k04: words, numbers, terms, tokens -/
def spLWord : Sp := fun vs H Q _ => ∃ (z : Str) (G : Hp), vs = [.str z] ∧ z.length ≤ 10000 ∧ Same G H ∧ ∀ H', Xt none H G H' G → Q (.bl (isWordS z)) H'
def spLTerm : Sp := fun vs H Q _ => ∃ (z : Str) (a : Addr) (cols : List Col) (G : Hp), vs = [.str z, .ref a] ∧ z.length ≤ 10000 ∧ D G (.ref a) (.list (dCols cols)) ∧ cols.length ≤ 3 ∧ Same G H ∧ ∀ H', Xt none H G H' G → Q (.bl (isTermB (cols.map (·.1)) z)) H'
theorem zero_str {z : Str} (h0 : z.cps.toList[0]? = some 48) : decide (z = "0") = decide (z.cps.toList.length = 1) := by
  have e1 : (("0" : String) : Str) = ⟨#[48]⟩ := by decide +kernel
  by_cases c : z.cps.toList.length = 1
  · rw [decide_eq_true c, decide_eq_true]
    rw [e1]
    obtain ⟨l⟩ := z
    obtain ⟨l⟩ := l
    match l, h0, c with
    | [a], h0, _ =>
      obtain rfl : a = 48 := by simpa using h0
      rfl
  · rw [decide_eq_false c, decide_eq_false]
    intro q
    rw [q, e1] at c
    exact c rfl
section
variable {P : Program} {w : World} {K : PySem.W.Frag} {mg : Str → Option Value} {base : Heap}
theorem lIsWord {f : Addr} {fd : FuncData} (F : C8.Def K mg "_law_is_word" s__law_is_word f fd) (b : Binds K fd P__law_is_word []) (T : Names K mg) : C8.Cal P w K mg base 1 "_law_is_word" spLWord [] := by
  refine C8.cal0 (N := N__law_is_word) F b .nil sc__law_is_word (fun vs H Q E h => ?_) (fun cdv A outer s H vs Q E hr h => ?_)
  · obtain ⟨z, G, rfl, _⟩ := h
    rfl
  · obtain ⟨z, G, rfl, hz, sG, k⟩ := h
    refine ⟨_, (pss_one (ps_ret (pe_and (pe_chain op_lt op_lt pe_int (pe_callB call_len_str (by rfl) T.n_len PySem.boot_len (pa_cons (pv 0) pa_nil)) pe_int) (pe_one (pe_callB (cr_all rfl) (by rfl) T.n_all (by decide +kernel) (pa_cons (pe_lc (own := [("_law_letter", 1)]) (g := (gName 1)) (tt := tYes) rfl sc__law_is_word.nd (pi_str (pv 0)) (blkOk_by (own := [("_law_letter", 1)]) (N := N__law_is_word) (sc := C8.fnScope s__law_is_word) (by decide +kernel)) (fun _ _ _ _ _ => (pg_name (i := 1) sc__law_is_word.nd rfl (Or.inl rfl))) (fun _ _ _ _ _ => pts_nil) (fun _ _ _ _ _ => (pe_cmpR op_in_sign (pv 1) pe_str (by rfl)))) pa_nil)))))), ?_⟩
    have k0 := k H (Xt.refl sG)
    refine ⟨_, rfl, z, rfl, small_line (by omega), _, _, rfl, rfl, _, rfl, ?_⟩
    by_cases c1 : 1 ≤ z.length
    · rw [decide_eq_true (by omega : (0 : Int) < (z.length : Int))]
      refine iteT ⟨_, _, rfl, rfl, _, rfl, ?_⟩
      by_cases c2 : z.length ≤ 8
      · rw [decide_eq_true (by omega : (z.length : Int) < 9)]
        refine iteT ⟨_, rfl, z, rfl, fun Dl hD => ?_⟩
        refine lc_data (b := none) (R := fun _ _ => True) (G := G) walk_str (z.cps.toList.map fun c => .bool (letter c)) (by simp) (by show z.length < 100000; omega) hD sG (fun q => by cases q) trivial (fun _ _ _ _ => trivial) (fun _ _ _ _ _ => trivial) ?_ ?_
        · intro i x H1 G1 H2 d hd X1 _ ⟨e, c, hc, ex⟩ Qy hq
          subst e ex
          have ed : d = .bool (letter c) := by
            rw [List.getElem?_map, Array.getElem?_toList, hc] at hd
            exact (Option.some.inj hd).symm
          subst ed
          exact ⟨rfl, _, rfl, c, LET, rfl, rfl, hq _ _ _ (Xt.refl X1.sub) trivial (.bl _)⟩
        · intro H1 G1 xs X1 _ hl hg da
          have e := DA.bools (ns := z.cps.toList.map letter) (by rw [List.map_map]; exact da)
          refine ⟨Dl, _, rfl, SqL.of (by rw [hl, e]), ?_⟩
          have q := k H1 X1.back
          have e2 : isWordS z = (z.cps.toList.map letter).all id := by
            show (decide (1 ≤ z.length) && decide (z.length ≤ 8) && z.cps.toList.all letter) = _
            rw [decide_eq_true c1, decide_eq_true c2, List.all_map]
            rfl
          rw [e2] at q
          exact q
      · rw [decide_eq_false (by omega : ¬ (z.length : Int) < 9)]
        refine iteF ?_
        have e2 : isWordS z = false := by
          show (decide (1 ≤ z.length) && decide (z.length ≤ 8) && z.cps.toList.all letter) = _
          rw [decide_eq_false c2]; simp
        rw [e2] at k0
        exact k0
    · rw [decide_eq_false (by omega : ¬ (0 : Int) < (z.length : Int))]
      refine iteF ⟨_, rfl, iteF ?_⟩
      have e2 : isWordS z = false := by
        show (decide (1 ≤ z.length) && decide (z.length ≤ 8) && z.cps.toList.all letter) = _
        rw [decide_eq_false c1]; simp
      rw [e2] at k0
      exact k0
theorem lIsNumber {f : Addr} {fd : FuncData} (F : C8.Def K mg "_law_is_number" s__law_is_number f fd) (b : Binds K fd P__law_is_number []) (T : Names K mg) : C8.Cal P w K mg base 1 "_law_is_number" spIsNum [] := by
  refine C8.cal0 (N := N__law_is_number) F b .nil sc__law_is_number (fun vs H Q E h => ?_) (fun cdv A outer s H vs Q E hr h => ?_)
  · obtain ⟨z, G, rfl, _⟩ := h
    rfl
  · obtain ⟨z, G, rfl, hz, sG, k⟩ := h
    have zl : z.length = z.cps.toList.length := by simp [Str.length]
    have k0 := k H (Xt.refl sG)
    refine ⟨_, (pss_cons (ps_if (PW.pt (pw_or (pt_not (pt_chain op_lt op_lt pe_int (pe_callB call_len_str (by rfl) T.n_len PySem.boot_len (pa_cons (pv 0) pa_nil)) pe_int)) (pw_or1 (pt_not (pt_val (pe_callB (cr_all rfl) (by rfl) T.n_all (by decide +kernel) (pa_cons (pe_lc (own := [("_law_digit", 1)]) (g := (gName 1)) (tt := tYes) rfl sc__law_is_number.nd (pi_str (pv 0)) (blkOk_by (own := [("_law_digit", 1)]) (N := N__law_is_number) (sc := C8.fnScope s__law_is_number) (by decide +kernel)) (fun _ _ _ _ _ => (pg_name (i := 1) sc__law_is_number.nd rfl (Or.inl rfl))) (fun _ _ _ _ _ => pts_nil) (fun _ _ _ _ _ => (pe_cmpR op_in_sign (pv 1) pe_str (by rfl)))) pa_nil))))))) (pss_one (ps_ret pe_bl)) pss_nil)
 (pss_one (ps_ret (pe_or (pe_cmpR op_eq (pv 0) pe_str (nomark _)) (pe_one (pe_cmpR op_ne (pe_ix ix_str (pv 0) pe_int (fun _ _ => rfl)) pe_str (nomark _))))))), ?_⟩
    refine ⟨_, rfl, z, rfl, small_line (by omega), _, _, rfl, rfl, _, rfl, ?_⟩
    rcases Nat.lt_or_ge z.cps.toList.length 1 with c1 | c1
    · rw [decide_eq_false (by rw [zl]; omega : ¬ (0 : Int) < (z.length : Int))]
      rw [show isNum z = false by unfold isNum; rw [decide_eq_false (by omega : ¬ 1 ≤ z.cps.toList.length)]; rfl] at k0
      exact iteF ⟨_, rfl, iteT k0⟩
    rw [decide_eq_true (by rw [zl]; omega : (0 : Int) < (z.length : Int))]
    refine iteT ⟨_, _, rfl, rfl, _, rfl, ?_⟩
    rcases Nat.lt_or_ge 3 z.cps.toList.length with c3 | c3
    · rw [decide_eq_false (by rw [zl]; omega : ¬ (z.length : Int) < 4)]
      rw [show isNum z = false by unfold isNum; rw [decide_eq_false (by omega : ¬ z.cps.toList.length ≤ 3)]; simp] at k0
      exact iteT k0
    rw [decide_eq_true (by rw [zl]; omega : (z.length : Int) < 4)]
    have hc : z.cps.toList[0]? = some (z.cps.toList[0]) := List.getElem?_eq_getElem (by omega)
    have e0 : decide (V.str ⟨#[z.cps.toList[0]]⟩ = V.str "0") = decide (z.cps.toList[0]? = some 48) := by
      have e1 : (("0" : String) : Str) = ⟨#[48]⟩ := by decide +kernel
      rw [e1, hc]
      by_cases c : z.cps.toList[0] = 48
      · rw [c, decide_eq_true rfl, decide_eq_true rfl]
      · rw [decide_eq_false (fun q => c (by simpa using q)), decide_eq_false (fun q => c (Option.some.inj q))]
    have en : isNum z = (!(decide (1 < z.cps.toList.length) && decide (z.cps.toList[0]? = some 48)) && z.cps.toList.all fun c => decide (c ∈ DIG.cps.toList)) := by
      unfold isNum
      rw [decide_eq_true c1, decide_eq_true c3]
      rfl
    refine iteF ⟨_, rfl, z, rfl, fun Dl hD => ?_⟩
    refine lc_data (b := none) (R := fun _ _ => True) (G := G) walk_str (z.cps.toList.map fun c => .bool (decide (c ∈ DIG.cps.toList))) (by simp) (by show z.length < 100000; omega) hD sG (fun q => by cases q) trivial (fun _ _ _ _ => trivial) (fun _ _ _ _ _ => trivial) ?_ ?_
    · intro i x H1 G1 H2 d hd X1 _ ⟨e, c, hc, ex⟩ Qy hq
      subst e ex
      have ed : d = .bool (decide (c ∈ DIG.cps.toList)) := by
        rw [List.getElem?_map, Array.getElem?_toList, hc] at hd
        exact (Option.some.inj hd).symm
      subst ed
      exact ⟨rfl, _, rfl, c, DIG, rfl, rfl, hq _ _ _ (Xt.refl X1.sub) trivial (.bl _)⟩
    · intro H1 G1 xs X1 _ hl hg da
      have e := DA.bools (ns := z.cps.toList.map fun c => decide (c ∈ DIG.cps.toList)) (by rw [List.map_map]; exact da)
      have k1 := k H1 X1.back
      refine ⟨Dl, _, rfl, SqL.of (by rw [hl, e]), _, rfl, ?_⟩
      rw [List.all_map]
      cases al : z.cps.toList.all (id ∘ fun c => decide (c ∈ DIG.cps.toList)) with
      | false =>
        have al : (z.cps.toList.all fun c => decide (c ∈ DIG.cps.toList)) = false := al
        rw [en, al, Bool.and_false] at k1
        exact iteT k1
      | true =>
        have al : (z.cps.toList.all fun c => decide (c ∈ DIG.cps.toList)) = true := al
        rw [en, al, Bool.and_true] at k1
        refine iteF ⟨_, rfl, rfl, ?_⟩
        rw [es_]
        by_cases z0 : z = "0"
        · rw [decide_eq_true z0]
          have l1 : z.cps.toList.length = 1 := by rw [z0]; decide +kernel
          rw [decide_eq_false (by omega : ¬ 1 < z.cps.toList.length)] at k1
          exact ⟨_, rfl, iteT k1⟩
        · rw [decide_eq_false z0]
          refine ⟨_, rfl, iteF ⟨_, rfl, z, _, _, rfl, rfl, small_line (by omega), atI_nat hc, rfl, ?_⟩⟩
          rw [e0]
          by_cases d0 : z.cps.toList[0]? = some 48
          · have l1 : 1 < z.cps.toList.length := by
              have := zero_str d0
              rw [decide_eq_false z0] at this
              have := of_decide_eq_false this.symm
              omega
            rw [decide_eq_true l1, decide_eq_true d0] at k1
            rw [decide_eq_true d0]
            exact k1
          · rw [decide_eq_false d0] at k1 ⊢
            rw [Bool.and_false] at k1
            exact k1
theorem lIsTerm {f : Addr} {fd : FuncData} (F : C8.Def K mg "_law_is_term" s__law_is_term f fd) (b : Binds K fd P__law_is_term []) (T : Names K mg) (c__law_is_number : C8.Cal P w K mg base 1 "_law_is_number" spIsNum []) : C8.Cal P w K mg base 2 "_law_is_term" spLTerm [] := by
  refine C8.cal0 (N := N__law_is_term) F b .nil sc__law_is_term (fun vs H Q E h => ?_) (fun cdv A outer s H vs Q E hr h => ?_)
  · obtain ⟨z, a, cols, G, rfl, _⟩ := h
    rfl
  · obtain ⟨z, a, cols, G, rfl, hz, hd, c3, sG, k⟩ := h
    refine ⟨_, (pss_one (ps_ret (pe_or (pe_cmpR op_in_seq (pv 0) (pe_lc (own := [("_law_name", 2), ("_law_top", 3)]) (g := (gTup K 2 (gCons (gName 2) (gCons (gName 3) gNil)))) (tt := tYes) rfl sc__law_is_term.nd (pi_list (pv 1)) (blkOk_by (own := [("_law_name", 2), ("_law_top", 3)]) (N := N__law_is_term) (sc := C8.fnScope s__law_is_term) (by decide +kernel)) (fun _ _ _ _ _ => (pg_tup rfl (pgs_cons (pg_name (i := 2) sc__law_is_term.nd rfl (Or.inl rfl)) (pgs_cons (pg_name (i := 3) sc__law_is_term.nd rfl (Or.inl rfl)) pgs_nil)))) (fun _ _ _ _ _ => pts_nil) (fun _ _ _ _ _ => (pv 2))) (by rfl)) (pe_one (C8.pe_c c__law_is_number hr (by decide) rfl (pa_cons (pv 0) pa_nil)))))), ?_⟩
    obtain ⟨a_, cs, e0, ha, da⟩ := id hd.list_inv
    cases e0
    have lx : cs.length = cols.length := by rw [da.length, dCols, List.length_map]
    refine ⟨_, rfl, _, rfl, a, rfl, ⟨_, SqL.of (sG _ _ ha)⟩, fun Dl hD => ?_⟩
    refine lc_data (b := none) (R := fun _ _ => True) (G := G) (walk_list (xs := cs)) ((cols.map (·.1)).map .str) (by rw [List.length_map, List.length_map, lx]) (by omega) hD sG (fun q => by cases q) trivial (fun _ _ _ _ => trivial) (fun i HA GA XA _ => SqL.of (XA.sub _ _ (XA.gg _ _ ha))) ?_ ?_
    · rintro i y HA GA HB d hdd XA _ ⟨rfl, hy⟩ Qy hqy
      obtain ⟨c, t, hcc, rfl, ht⟩ := cols_at (da.mono XA.gg) hy
      rw [List.getElem?_map, List.getElem?_map, hcc] at hdd
      obtain rfl := Option.some.inj hdd
      exact ⟨t, _, rfl, SqT.of (XA.sub _ _ ht), rfl, _, _, rfl, _, _, rfl, rfl, rfl, _, rfl, hqy _ _ _ (Xt.refl XA.sub) trivial (.str _)⟩
    · intro H1 G1 xs X1 _ hl hg da1
      have e := DA.strs da1
      refine ⟨Dl, _, rfl, .inl (SqL.of hl), rfl, by rw [e]; exact flat_strs _, ?_⟩
      rw [e, inV_strs]
      by_cases c : z ∈ cols.map (·.1)
      · rw [decide_eq_true c]
        have q := k H1 X1.back
        unfold isTermB at q
        rw [decide_eq_true c, Bool.or_true] at q
        exact ⟨_, rfl, iteT q⟩
      · rw [decide_eq_false c]
        refine ⟨_, rfl, iteF ⟨_, rfl, z, G, rfl, hz, X1.back.sub, fun H2 X2 => ?_⟩⟩
        have q := k H2 (X1.back.trans X2)
        unfold isTermB at q
        rw [decide_eq_false c, Bool.or_false] at q
        exact q
end
end Nw
namespace Nw
open PySem L2 PySem.Spec PyProof.Rows RZ
/-! _law_next -/
def stS : S4 → Str
  | .atom => "atom" | .first => "first" | .second => "second" | .left => "left" | .right => "right" | .sign => "sign" | .word => "word" | .done => "done"
def D5 : List (L2.Key × V) := [(.inr "not", .str "atom"), (.inr "(", .str "atom"), (.inr "true", .str "done"), (.inr "false", .str "done"), (.inr "name", .str "sign")]
def D3 : List (L2.Key × V) := [(.inr "atom", .str "left"), (.inr "first", .str "left"), (.inr "second", .str "right")]
def D2 : List (L2.Key × V) := [(.inr "left", .str "first"), (.inr "right", .str "second")]
theorem dget_of {H : Hp} {a : Addr} {kvs : List (L2.Key × V)} {z : Str} {v : V} (e : H a = some (.dK kvs)) (h : valV kvs (.inr z) = some v) : DGet H a (.str z) (some v) := h ▸ DGet.k (k := .inr z) e
theorem sne : (("(" : String) : Str) ≠ (("not" : String) : Str) ∧ (("true" : String) : Str) ≠ (("not" : String) : Str) ∧ (("true" : String) : Str) ≠ (("(" : String) : Str) ∧ (("false" : String) : Str) ≠ (("not" : String) : Str) ∧ (("false" : String) : Str) ≠ (("(" : String) : Str) ∧ (("false" : String) : Str) ≠ (("true" : String) : Str) ∧
    (("name" : String) : Str) ≠ (("not" : String) : Str) ∧ (("name" : String) : Str) ≠ (("(" : String) : Str) ∧ (("name" : String) : Str) ≠ (("true" : String) : Str) ∧ (("name" : String) : Str) ≠ (("false" : String) : Str) := by decide +kernel
def nxtV (G : Hp) (v : V) : Option (S4 × Nat) → Prop
  | none => v = .non
  | some (s, j) => ∃ t : Addr, v = .ref t ∧ G t = some (.tup [.str (stS s), .int ((j : Nat) : Int)])
def spNext : Sp := fun vs H Q _ => ∃ (st : S4) (z : Str) (k : Nat) (a : Addr) (cols : List Col) (G : Hp), vs = [.str (stS st), .str z, .int ((k : Nat) : Int), .ref a] ∧ z.length ≤ 10000 ∧ D G (.ref a) (.list (dCols cols)) ∧ cols.length ≤ 3 ∧ Same G H ∧
  ∀ (v : V) (H' G' : Hp), Xt none H G H' G' → nxtV G' v (nxt (cols.map (·.1)) st z k) → Q v H'
section
variable {P : Program} {w : World} {K : PySem.W.Frag} {mg : Str → Option Value} {base : Heap}
theorem lNext {f : Addr} {fd : FuncData} (F : C8.Def K mg "_law_next" s__law_next f fd) (b : Binds K fd P__law_next []) (T : Names K mg) (c__law_is_word : C8.Cal P w K mg base 1 "_law_is_word" spLWord []) (c__law_is_term : C8.Cal P w K mg base 2 "_law_is_term" spLTerm []) : C8.Cal P w K mg base 3 "_law_next" spNext [] := by
  refine C8.cal0 (N := N__law_next) F b .nil sc__law_next (fun vs H Q E h => ?_) (fun cdv A outer s H0 vs Q E hr h => ?_)
  · obtain ⟨st, z, k, a, cols, G, rfl, _⟩ := h
    rfl
  · obtain ⟨st, z, k, a, cols, G, rfl, hz, hd, c3, sG, kk⟩ := h
    have hu := hu_of hr
    refine ⟨_, (pss_cons (ps_if (PW.pt (pw_and (pt_cmpR op_eq (pv 0) pe_str (nomark _)) (pw_and1 (pt_cmpR op_in_seq (pv 1) (pe_tup (pa_cons pe_str (pa_cons pe_str (pa_cons pe_str (pa_cons pe_str (pa_cons pe_str pa_nil)))))) (by rfl))))) (pss_cons (ps_set (i := 4) sc__law_next.nd rfl (Or.inl rfl) (pe_disp (pps_cons pe_str pe_str (pps_cons pe_str pe_str (pps_cons pe_str pe_str (pps_cons pe_str pe_str (pps_cons pe_str pe_str pps_nil))))) rfl rfl (fun q => nomatch q) (by decide)))
 (pss_one (ps_ret (pe_tup (pa_cons (pe_dget hu (pv 4) (pv 1) (fun _ _ => rfl)) (pa_cons (pe_op op_add (pv 2) (pe_callTy call_int1 (by rfl) T.n_int (by decide +kernel) (pa_cons (pe_cmpR op_eq (pv 1) pe_str (nomark _)) pa_nil))) pa_nil)))))) pss_nil)
 (pss_cons (ps_if (PW.pt (pw_and (pt_cmpR op_in_seq (pv 0) (pe_tup (pa_cons pe_str (pa_cons pe_str (pa_cons pe_str pa_nil)))) (by rfl)) (pw_and1 (pt_val (C8.pe_c c__law_is_term hr (by decide) rfl (pa_cons (pv 1) (pa_cons (pv 3) pa_nil))))))) (pss_one (ps_ret (pe_tup (pa_cons (pe_dget hu (pe_disp (pps_cons pe_str pe_str (pps_cons pe_str pe_str (pps_cons pe_str pe_str pps_nil))) rfl rfl (fun q => nomatch q) (by decide)) (pv 0) (fun _ _ => rfl)) (pa_cons (pv 2) pa_nil))))) pss_nil)
 (pss_cons (ps_if (pt_cmpR op_eq (pv 0) pe_str (nomark _)) (pss_one (ps_ret (pe_ifExp (pt_cmpR op_in_seq (pv 1) (pe_tup (pa_cons pe_str (pa_cons pe_str pa_nil))) (by rfl)) (pe_tup (pa_cons pe_str (pa_cons (pv 2) pa_nil))) pe_non))) pss_nil)
 (pss_cons (ps_if (pt_cmpR op_eq (pv 0) pe_str (nomark _)) (pss_one (ps_ret (pe_ifExp (pt_val (C8.pe_c c__law_is_word hr (by decide) rfl (pa_cons (pv 1) pa_nil))) (pe_tup (pa_cons pe_str (pa_cons (pv 2) pa_nil))) pe_non))) pss_nil)
 (pss_cons (ps_if (PW.pt (pw_and (pt_cmpR op_in_seq (pv 0) (pe_tup (pa_cons pe_str (pa_cons pe_str pa_nil))) (by rfl)) (pw_and1 (pt_cmpR op_in_seq (pv 1) (pe_tup (pa_cons pe_str (pa_cons pe_str pa_nil))) (by rfl))))) (pss_one (ps_ret (pe_tup (pa_cons (pe_dget hu (pe_disp (pps_cons pe_str pe_str (pps_cons pe_str pe_str pps_nil)) rfl rfl (fun q => nomatch q) (by decide)) (pv 0) (fun _ _ => rfl)) (pa_cons (pv 2) pa_nil))))) pss_nil)
 (pss_cons (ps_if (pt_cmpR op_eq (pv 0) pe_str (nomark _)) (pss_one (ps_ret (pe_ifExp (pt_cmpR op_in_seq (pv 1) (pe_tup (pa_cons pe_str (pa_cons pe_str (pa_cons pe_str (pa_cons pe_str (pa_cons pe_str (pa_cons pe_str pa_nil))))))) (by rfl)) (pe_tup (pa_cons pe_str (pa_cons (pv 2) pa_nil))) pe_non))) pss_nil)
 (pss_cons (ps_if (pt_cmpR op_in_seq (pv 0) (pe_tup (pa_cons pe_str (pa_cons pe_str pa_nil))) (by rfl)) (pss_cons (ps_if (pt_cmpR op_in_seq (pv 1) (pe_tup (pa_cons pe_str (pa_cons pe_str pa_nil))) (by rfl)) (pss_one (ps_ret (pe_tup (pa_cons pe_str (pa_cons (pv 2) pa_nil))))) pss_nil)
 (pss_one (ps_if (PW.pt (pw_and (pt_cmpR op_eq (pv 1) pe_str (nomark _)) (pw_and1 (pt_cmpR op_gt (pv 2) pe_int (nomark _))))) (pss_one (ps_ret (pe_tup (pa_cons pe_str (pa_cons (pe_op op_sub (pv 2) pe_int) pa_nil))))) pss_nil))) pss_nil)
 (pss_one (ps_ret pe_non))))))))), ?_⟩
    have X0 : Xt none H0 G H0 G := Xt.refl sG
    have kn : ∀ {H' G' : Hp}, Xt none H0 G H' G' → nxt (cols.map (·.1)) st z k = none → Q .non H' := fun X e => kk _ _ _ X (by rw [e]; rfl)
    have ks : ∀ {H' G' : Hp}, Xt none H0 G H' G' → ∀ {p : Addr}, H' p = none → ∀ (s : S4) (j : Nat) {i : Int}, i = ((j : Nat) : Int) → nxt (cols.map (·.1)) st z k = some (s, j) → Q (.ref p) (upd H' p (.tup [.str (stS s), .int i])) := fun X p hp s j i ei e => by
      subst ei
      exact kk _ _ _ (X.alloc hp) (by rw [e]; exact ⟨p, rfl, upd_same⟩)
    cases st with
    | atom =>
      refine ⟨_, rfl, rfl, _, rfl, ?_⟩
      rw [es_, decide_eq_true (by decide +kernel)]
      refine iteT ?_
      refine ⟨_, rfl, (by show 5 ≤ sizeLine; decide), fun t1 ht1 => ?_⟩
      have X1 := X0.allocT (o := .tup [.str "not", .str "(", .str "true", .str "false", .str "name"]) ht1
      refine ⟨t1, (["not", "(", "true", "false", "name"] : List Str).map V.str, rfl, .inr (SqT.of upd_same), rfl, flat_strs _, _, rfl, ?_⟩
      rw [inV_strs]
      generalize upd H0 t1 (.tup [.str "not", .str "(", .str "true", .str "false", .str "name"]) = H1 at X1 ⊢
      by_cases c1 : z ∈ (["not", "(", "true", "false", "name"] : List Str)
      · rw [decide_eq_true c1]
        refine iteT ?_
        refine fun dp hdp => ⟨upd_same, D5, rfl, (by show 5 ≤ 15; decide), ?_⟩
        have X2 := (X1.allocT (o := .dK []) hdp).set (o := .dK (mergeK [] D5)) (X1.fresh hdp) (X1.sub.free hdp)
        have hdd : upd (upd H1 dp (.dK [])) dp (.dK (mergeK [] D5)) dp = some (.dK (mergeK [] D5)) := upd_same
        generalize upd (upd H1 dp (.dK [])) dp (.dK (mergeK [] D5)) = H2 at X2 hdd ⊢
        simp only [List.mem_cons, List.mem_nil_iff, or_false] at c1
        rcases c1 with rfl | rfl | rfl | rfl | rfl
        · refine ⟨_, rfl, _, rfl, dp, .str "atom", rfl, dget_of hdd (by decide +kernel), _, rfl, _, rfl, rfl, .inr ⟨_, rfl, _, _, rfl, rfl, (by show 2 ≤ sizeLine; decide), fun tp htp => ks X2 htp .atom k (by rw [es_]; first | (rw [decide_eq_true (by decide +kernel)]; simp) | (rw [decide_eq_false (by decide +kernel)]; simp)) (by rw [nxt_atom]; simp [sne])⟩⟩
        · refine ⟨_, rfl, _, rfl, dp, .str "atom", rfl, dget_of hdd (by decide +kernel), _, rfl, _, rfl, rfl, .inr ⟨_, rfl, _, _, rfl, rfl, (by show 2 ≤ sizeLine; decide), fun tp htp => ks X2 htp .atom (k + 1) (by rw [es_]; first | (rw [decide_eq_true (by decide +kernel)]; simp) | (rw [decide_eq_false (by decide +kernel)]; simp)) (by rw [nxt_atom]; simp [sne])⟩⟩
        · refine ⟨_, rfl, _, rfl, dp, .str "done", rfl, dget_of hdd (by decide +kernel), _, rfl, _, rfl, rfl, .inr ⟨_, rfl, _, _, rfl, rfl, (by show 2 ≤ sizeLine; decide), fun tp htp => ks X2 htp .done k (by rw [es_]; first | (rw [decide_eq_true (by decide +kernel)]; simp) | (rw [decide_eq_false (by decide +kernel)]; simp)) (by rw [nxt_atom]; simp [sne])⟩⟩
        · refine ⟨_, rfl, _, rfl, dp, .str "done", rfl, dget_of hdd (by decide +kernel), _, rfl, _, rfl, rfl, .inr ⟨_, rfl, _, _, rfl, rfl, (by show 2 ≤ sizeLine; decide), fun tp htp => ks X2 htp .done k (by rw [es_]; first | (rw [decide_eq_true (by decide +kernel)]; simp) | (rw [decide_eq_false (by decide +kernel)]; simp)) (by rw [nxt_atom]; simp [sne])⟩⟩
        · refine ⟨_, rfl, _, rfl, dp, .str "sign", rfl, dget_of hdd (by decide +kernel), _, rfl, _, rfl, rfl, .inr ⟨_, rfl, _, _, rfl, rfl, (by show 2 ≤ sizeLine; decide), fun tp htp => ks X2 htp .sign k (by rw [es_]; first | (rw [decide_eq_true (by decide +kernel)]; simp) | (rw [decide_eq_false (by decide +kernel)]; simp)) (by rw [nxt_atom]; simp [sne])⟩⟩
      · rw [decide_eq_false c1]
        have n5 : z ≠ "not" ∧ z ≠ "(" ∧ z ≠ "true" ∧ z ≠ "false" ∧ z ≠ "name" := by simpa [not_or] using c1
        obtain ⟨a1, a2, a3, a4, a5⟩ := n5
        refine iteF ?_
        refine ⟨_, rfl, (by show 3 ≤ sizeLine; decide), fun t2 ht2 => ?_⟩
        have X2 := X1.allocT (o := .tup [.str "atom", .str "first", .str "second"]) ht2
        refine ⟨t2, (["atom", "first", "second"] : List Str).map V.str, rfl, .inr (SqT.of upd_same), rfl, flat_strs _, _, rfl, ?_⟩
        rw [inV_strs]
        generalize upd H1 t2 (.tup [.str "atom", .str "first", .str "second"]) = H2 at X2 ⊢
        rw [decide_eq_true (by decide +kernel)]
        refine iteT ⟨_, rfl, _, rfl, z, a, cols, G, rfl, hz, hd, c3, X2.back.sub, fun H3 Y3 => ⟨_, rfl, ?_⟩⟩
        have X3 := X2.back.trans Y3
        cases tm : isTermB (cols.map (·.1)) z with
        | true =>
          refine iteT fun dp hdp => ⟨upd_same, D3, rfl, (by show 3 ≤ 15; decide), _, rfl, dp, .str "left", rfl, dget_of upd_same (by decide +kernel), _, rfl, (by show 2 ≤ sizeLine; decide), fun tp htp => ?_⟩
          have X4 := (X3.allocT (o := .dK []) hdp).set (o := .dK (mergeK [] D3)) (X3.fresh hdp) (X3.sub.free hdp)
          exact ks X4 htp .left k rfl (by rw [nxt_atom, if_neg a1, if_neg a2, if_neg a3, if_neg a4, if_neg a5, if_pos tm])
        | false =>
          refine iteF ?_
          refine ⟨_, rfl, rfl, _, rfl, ?_⟩
          rw [es_, decide_eq_false (by decide +kernel)]
          refine iteF ?_
          refine ⟨_, rfl, rfl, _, rfl, ?_⟩
          rw [es_, decide_eq_false (by decide +kernel)]
          refine iteF ?_
          refine ⟨_, rfl, (by show 2 ≤ sizeLine; decide), fun t4 ht4 => ?_⟩
          have X4 := X3.allocT (o := .tup [.str "left", .str "right"]) ht4
          refine ⟨t4, (["left", "right"] : List Str).map V.str, rfl, .inr (SqT.of upd_same), rfl, flat_strs _, _, rfl, ?_⟩
          rw [inV_strs]
          generalize upd H3 t4 (.tup [.str "left", .str "right"]) = H4 at X4 ⊢
          rw [decide_eq_false (by decide +kernel)]
          refine iteF (iteF ?_)
          refine ⟨_, rfl, rfl, _, rfl, ?_⟩
          rw [es_, decide_eq_false (by decide +kernel)]
          refine iteF ?_
          refine ⟨_, rfl, (by show 2 ≤ sizeLine; decide), fun t5 ht5 => ?_⟩
          have X5 := X4.allocT (o := .tup [.str "right", .str "done"]) ht5
          refine ⟨t5, (["right", "done"] : List Str).map V.str, rfl, .inr (SqT.of upd_same), rfl, flat_strs _, _, rfl, ?_⟩
          rw [inV_strs]
          generalize upd H4 t5 (.tup [.str "right", .str "done"]) = H5 at X5 ⊢
          rw [decide_eq_false (by decide +kernel)]
          refine iteF ?_
          refine ?_
          exact kn X5 (by rw [nxt_atom, if_neg a1, if_neg a2, if_neg a3, if_neg a4, if_neg a5, if_neg (by rw [tm]; decide)])
    | first =>
      refine ⟨_, rfl, rfl, _, rfl, ?_⟩
      rw [es_, decide_eq_false (by decide +kernel)]
      refine iteF (iteF ?_)
      refine ⟨_, rfl, (by show 3 ≤ sizeLine; decide), fun t1 ht1 => ?_⟩
      have X1 := X0.allocT (o := .tup [.str "atom", .str "first", .str "second"]) ht1
      refine ⟨t1, (["atom", "first", "second"] : List Str).map V.str, rfl, .inr (SqT.of upd_same), rfl, flat_strs _, _, rfl, ?_⟩
      rw [inV_strs]
      generalize upd H0 t1 (.tup [.str "atom", .str "first", .str "second"]) = H1 at X1 ⊢
      rw [decide_eq_true (by decide +kernel)]
      refine iteT ⟨_, rfl, _, rfl, z, a, cols, G, rfl, hz, hd, c3, X1.back.sub, fun H2 Y2 => ⟨_, rfl, ?_⟩⟩
      have X2 := X1.back.trans Y2
      cases tm : isTermB (cols.map (·.1)) z with
      | true =>
        refine iteT fun dp hdp => ⟨upd_same, D3, rfl, (by show 3 ≤ 15; decide), _, rfl, dp, .str "left", rfl, dget_of upd_same (by decide +kernel), _, rfl, (by show 2 ≤ sizeLine; decide), fun tp htp => ?_⟩
        have X3 := (X2.allocT (o := .dK []) hdp).set (o := .dK (mergeK [] D3)) (X2.fresh hdp) (X2.sub.free hdp)
        exact ks X3 htp .left k rfl (if_pos tm)
      | false =>
        refine iteF ?_
        refine ⟨_, rfl, rfl, _, rfl, ?_⟩
        rw [es_, decide_eq_false (by decide +kernel)]
        refine iteF ?_
        refine ⟨_, rfl, rfl, _, rfl, ?_⟩
        rw [es_, decide_eq_false (by decide +kernel)]
        refine iteF ?_
        refine ⟨_, rfl, (by show 2 ≤ sizeLine; decide), fun t3 ht3 => ?_⟩
        have X3 := X2.allocT (o := .tup [.str "left", .str "right"]) ht3
        refine ⟨t3, (["left", "right"] : List Str).map V.str, rfl, .inr (SqT.of upd_same), rfl, flat_strs _, _, rfl, ?_⟩
        rw [inV_strs]
        generalize upd H2 t3 (.tup [.str "left", .str "right"]) = H3 at X3 ⊢
        rw [decide_eq_false (by decide +kernel)]
        refine iteF (iteF ?_)
        refine ⟨_, rfl, rfl, _, rfl, ?_⟩
        rw [es_, decide_eq_false (by decide +kernel)]
        refine iteF ?_
        refine ⟨_, rfl, (by show 2 ≤ sizeLine; decide), fun t4 ht4 => ?_⟩
        have X4 := X3.allocT (o := .tup [.str "right", .str "done"]) ht4
        refine ⟨t4, (["right", "done"] : List Str).map V.str, rfl, .inr (SqT.of upd_same), rfl, flat_strs _, _, rfl, ?_⟩
        rw [inV_strs]
        generalize upd H3 t4 (.tup [.str "right", .str "done"]) = H4 at X4 ⊢
        rw [decide_eq_false (by decide +kernel)]
        refine iteF ?_
        refine ?_
        exact kn X4 (by exact if_neg (by rw [tm]; decide))
    | second =>
      refine ⟨_, rfl, rfl, _, rfl, ?_⟩
      rw [es_, decide_eq_false (by decide +kernel)]
      refine iteF (iteF ?_)
      refine ⟨_, rfl, (by show 3 ≤ sizeLine; decide), fun t1 ht1 => ?_⟩
      have X1 := X0.allocT (o := .tup [.str "atom", .str "first", .str "second"]) ht1
      refine ⟨t1, (["atom", "first", "second"] : List Str).map V.str, rfl, .inr (SqT.of upd_same), rfl, flat_strs _, _, rfl, ?_⟩
      rw [inV_strs]
      generalize upd H0 t1 (.tup [.str "atom", .str "first", .str "second"]) = H1 at X1 ⊢
      rw [decide_eq_true (by decide +kernel)]
      refine iteT ⟨_, rfl, _, rfl, z, a, cols, G, rfl, hz, hd, c3, X1.back.sub, fun H2 Y2 => ⟨_, rfl, ?_⟩⟩
      have X2 := X1.back.trans Y2
      cases tm : isTermB (cols.map (·.1)) z with
      | true =>
        refine iteT fun dp hdp => ⟨upd_same, D3, rfl, (by show 3 ≤ 15; decide), _, rfl, dp, .str "right", rfl, dget_of upd_same (by decide +kernel), _, rfl, (by show 2 ≤ sizeLine; decide), fun tp htp => ?_⟩
        have X3 := (X2.allocT (o := .dK []) hdp).set (o := .dK (mergeK [] D3)) (X2.fresh hdp) (X2.sub.free hdp)
        exact ks X3 htp .right k rfl (if_pos tm)
      | false =>
        refine iteF ?_
        refine ⟨_, rfl, rfl, _, rfl, ?_⟩
        rw [es_, decide_eq_false (by decide +kernel)]
        refine iteF ?_
        refine ⟨_, rfl, rfl, _, rfl, ?_⟩
        rw [es_, decide_eq_false (by decide +kernel)]
        refine iteF ?_
        refine ⟨_, rfl, (by show 2 ≤ sizeLine; decide), fun t3 ht3 => ?_⟩
        have X3 := X2.allocT (o := .tup [.str "left", .str "right"]) ht3
        refine ⟨t3, (["left", "right"] : List Str).map V.str, rfl, .inr (SqT.of upd_same), rfl, flat_strs _, _, rfl, ?_⟩
        rw [inV_strs]
        generalize upd H2 t3 (.tup [.str "left", .str "right"]) = H3 at X3 ⊢
        rw [decide_eq_false (by decide +kernel)]
        refine iteF (iteF ?_)
        refine ⟨_, rfl, rfl, _, rfl, ?_⟩
        rw [es_, decide_eq_false (by decide +kernel)]
        refine iteF ?_
        refine ⟨_, rfl, (by show 2 ≤ sizeLine; decide), fun t4 ht4 => ?_⟩
        have X4 := X3.allocT (o := .tup [.str "right", .str "done"]) ht4
        refine ⟨t4, (["right", "done"] : List Str).map V.str, rfl, .inr (SqT.of upd_same), rfl, flat_strs _, _, rfl, ?_⟩
        rw [inV_strs]
        generalize upd H3 t4 (.tup [.str "right", .str "done"]) = H4 at X4 ⊢
        rw [decide_eq_false (by decide +kernel)]
        refine iteF ?_
        refine ?_
        exact kn X4 (by exact if_neg (by rw [tm]; decide))
    | left =>
      refine ⟨_, rfl, rfl, _, rfl, ?_⟩
      rw [es_, decide_eq_false (by decide +kernel)]
      refine iteF (iteF ?_)
      refine ⟨_, rfl, (by show 3 ≤ sizeLine; decide), fun t1 ht1 => ?_⟩
      have X1 := X0.allocT (o := .tup [.str "atom", .str "first", .str "second"]) ht1
      refine ⟨t1, (["atom", "first", "second"] : List Str).map V.str, rfl, .inr (SqT.of upd_same), rfl, flat_strs _, _, rfl, ?_⟩
      rw [inV_strs]
      generalize upd H0 t1 (.tup [.str "atom", .str "first", .str "second"]) = H1 at X1 ⊢
      rw [decide_eq_false (by decide +kernel)]
      refine iteF (iteF ?_)
      refine ⟨_, rfl, rfl, _, rfl, ?_⟩
      rw [es_, decide_eq_false (by decide +kernel)]
      refine iteF ?_
      refine ⟨_, rfl, rfl, _, rfl, ?_⟩
      rw [es_, decide_eq_false (by decide +kernel)]
      refine iteF ?_
      refine ⟨_, rfl, (by show 2 ≤ sizeLine; decide), fun t2 ht2 => ?_⟩
      have X2 := X1.allocT (o := .tup [.str "left", .str "right"]) ht2
      refine ⟨t2, (["left", "right"] : List Str).map V.str, rfl, .inr (SqT.of upd_same), rfl, flat_strs _, _, rfl, ?_⟩
      rw [inV_strs]
      generalize upd H1 t2 (.tup [.str "left", .str "right"]) = H2 at X2 ⊢
      rw [decide_eq_true (by decide +kernel)]
      refine iteT ?_
      refine ⟨_, rfl, (by show 2 ≤ sizeLine; decide), fun t3 ht3 => ?_⟩
      have X3 := X2.allocT (o := .tup [.str "+", .str "-"]) ht3
      refine ⟨t3, (["+", "-"] : List Str).map V.str, rfl, .inr (SqT.of upd_same), rfl, flat_strs _, _, rfl, ?_⟩
      rw [inV_strs]
      generalize upd H2 t3 (.tup [.str "+", .str "-"]) = H3 at X3 ⊢
      by_cases c1 : z ∈ (["+", "-"] : List Str)
      · rw [decide_eq_true c1]
        refine iteT fun dp hdp => ⟨upd_same, D2, rfl, (by show 2 ≤ 15; decide), _, rfl, dp, .str "first", rfl, dget_of upd_same (by decide +kernel), _, rfl, (by show 2 ≤ sizeLine; decide), fun tp htp => ?_⟩
        have X4 := (X3.allocT (o := .dK []) hdp).set (o := .dK (mergeK [] D2)) (X3.fresh hdp) (X3.sub.free hdp)
        exact ks X4 htp .first k rfl (if_pos (by simpa using c1))
      · rw [decide_eq_false c1]
        have n1 : ¬ (z = "+" ∨ z = "-") := by simpa using c1
        refine iteF ?_
        refine ⟨_, rfl, rfl, _, rfl, ?_⟩
        rw [es_, decide_eq_true (by decide +kernel)]
        refine iteT ?_
        refine ⟨_, rfl, (by show 6 ≤ sizeLine; decide), fun t4 ht4 => ?_⟩
        have X4 := X3.allocT (o := .tup [.str "=", .str "!=", .str "<", .str "<=", .str ">", .str ">="]) ht4
        refine ⟨t4, (["=", "!=", "<", "<=", ">", ">="] : List Str).map V.str, rfl, .inr (SqT.of upd_same), rfl, flat_strs _, _, rfl, ?_⟩
        rw [inV_strs]
        generalize upd H3 t4 (.tup [.str "=", .str "!=", .str "<", .str "<=", .str ">", .str ">="]) = H4 at X4 ⊢
        by_cases c2 : z ∈ (["=", "!=", "<", "<=", ">", ">="] : List Str)
        · rw [decide_eq_true c2]
          refine iteT ?_
          exact ⟨_, rfl, (by show 2 ≤ sizeLine; decide), fun tp htp => ks X4 htp .second k rfl (by rw [nxt_left, if_neg n1]; exact if_pos c2)⟩
        · rw [decide_eq_false c2]
          refine iteF ?_
          exact kn X4 (by rw [nxt_left, if_neg n1]; exact if_neg c2)
    | right =>
      refine ⟨_, rfl, rfl, _, rfl, ?_⟩
      rw [es_, decide_eq_false (by decide +kernel)]
      refine iteF (iteF ?_)
      refine ⟨_, rfl, (by show 3 ≤ sizeLine; decide), fun t1 ht1 => ?_⟩
      have X1 := X0.allocT (o := .tup [.str "atom", .str "first", .str "second"]) ht1
      refine ⟨t1, (["atom", "first", "second"] : List Str).map V.str, rfl, .inr (SqT.of upd_same), rfl, flat_strs _, _, rfl, ?_⟩
      rw [inV_strs]
      generalize upd H0 t1 (.tup [.str "atom", .str "first", .str "second"]) = H1 at X1 ⊢
      rw [decide_eq_false (by decide +kernel)]
      refine iteF (iteF ?_)
      refine ⟨_, rfl, rfl, _, rfl, ?_⟩
      rw [es_, decide_eq_false (by decide +kernel)]
      refine iteF ?_
      refine ⟨_, rfl, rfl, _, rfl, ?_⟩
      rw [es_, decide_eq_false (by decide +kernel)]
      refine iteF ?_
      refine ⟨_, rfl, (by show 2 ≤ sizeLine; decide), fun t2 ht2 => ?_⟩
      have X2 := X1.allocT (o := .tup [.str "left", .str "right"]) ht2
      refine ⟨t2, (["left", "right"] : List Str).map V.str, rfl, .inr (SqT.of upd_same), rfl, flat_strs _, _, rfl, ?_⟩
      rw [inV_strs]
      generalize upd H1 t2 (.tup [.str "left", .str "right"]) = H2 at X2 ⊢
      rw [decide_eq_true (by decide +kernel)]
      refine iteT ?_
      refine ⟨_, rfl, (by show 2 ≤ sizeLine; decide), fun t3 ht3 => ?_⟩
      have X3 := X2.allocT (o := .tup [.str "+", .str "-"]) ht3
      refine ⟨t3, (["+", "-"] : List Str).map V.str, rfl, .inr (SqT.of upd_same), rfl, flat_strs _, _, rfl, ?_⟩
      rw [inV_strs]
      generalize upd H2 t3 (.tup [.str "+", .str "-"]) = H3 at X3 ⊢
      by_cases c1 : z ∈ (["+", "-"] : List Str)
      · rw [decide_eq_true c1]
        refine iteT fun dp hdp => ⟨upd_same, D2, rfl, (by show 2 ≤ 15; decide), _, rfl, dp, .str "second", rfl, dget_of upd_same (by decide +kernel), _, rfl, (by show 2 ≤ sizeLine; decide), fun tp htp => ?_⟩
        have X4 := (X3.allocT (o := .dK []) hdp).set (o := .dK (mergeK [] D2)) (X3.fresh hdp) (X3.sub.free hdp)
        exact ks X4 htp .second k rfl (if_pos (by simpa using c1))
      · rw [decide_eq_false c1]
        have n1 : ¬ (z = "+" ∨ z = "-") := by simpa using c1
        refine iteF ?_
        refine ⟨_, rfl, rfl, _, rfl, ?_⟩
        rw [es_, decide_eq_false (by decide +kernel)]
        refine iteF ?_
        refine ⟨_, rfl, (by show 2 ≤ sizeLine; decide), fun t4 ht4 => ?_⟩
        have X4 := X3.allocT (o := .tup [.str "right", .str "done"]) ht4
        refine ⟨t4, (["right", "done"] : List Str).map V.str, rfl, .inr (SqT.of upd_same), rfl, flat_strs _, _, rfl, ?_⟩
        rw [inV_strs]
        generalize upd H3 t4 (.tup [.str "right", .str "done"]) = H4 at X4 ⊢
        rw [decide_eq_true (by decide +kernel)]
        refine iteT ?_
        refine ⟨_, rfl, (by show 2 ≤ sizeLine; decide), fun t5 ht5 => ?_⟩
        have X5 := X4.allocT (o := .tup [.str "and", .str "or"]) ht5
        refine ⟨t5, (["and", "or"] : List Str).map V.str, rfl, .inr (SqT.of upd_same), rfl, flat_strs _, _, rfl, ?_⟩
        rw [inV_strs]
        generalize upd H4 t5 (.tup [.str "and", .str "or"]) = H5 at X5 ⊢
        by_cases c3_ : z ∈ (["and", "or"] : List Str)
        · rw [decide_eq_true c3_]
          refine iteT ?_
          exact ⟨_, rfl, (by show 2 ≤ sizeLine; decide), fun tp htp => ks X5 htp .atom k rfl (by rw [nxt_right, if_neg n1, if_pos (by simpa using c3_)])⟩
        · rw [decide_eq_false c3_]
          have n3 : ¬ (z = "and" ∨ z = "or") := by simpa using c3_
          refine iteF ⟨_, rfl, rfl, _, rfl, ?_⟩
          rw [es_]
          by_cases c4 : z = ")"
          · rw [decide_eq_true c4]
            refine iteT ⟨_, rfl, _, _, rfl, rfl, _, rfl, ?_⟩
            by_cases c5 : 0 < k
            · rw [decide_eq_true (by omega : ((k : Nat) : Int) > 0)]
              refine iteT ⟨_, rfl, _, _, rfl, rfl, (by show 2 ≤ sizeLine; decide), fun tp htp => ks X5 htp .done (k - 1) (by omega) (by rw [nxt_right, if_neg n1, if_neg n3, if_pos ⟨c4, c5⟩])⟩
            · rw [decide_eq_false (by omega : ¬ ((k : Nat) : Int) > 0)]
              exact iteF (kn X5 (by rw [nxt_right, if_neg n1, if_neg n3, if_neg fun q => c5 q.2]))
          · rw [decide_eq_false c4]
            exact iteF (iteF (kn X5 (by rw [nxt_right, if_neg n1, if_neg n3, if_neg fun q => c4 q.1])))
    | sign =>
      refine ⟨_, rfl, rfl, _, rfl, ?_⟩
      rw [es_, decide_eq_false (by decide +kernel)]
      refine iteF (iteF ?_)
      refine ⟨_, rfl, (by show 3 ≤ sizeLine; decide), fun t1 ht1 => ?_⟩
      have X1 := X0.allocT (o := .tup [.str "atom", .str "first", .str "second"]) ht1
      refine ⟨t1, (["atom", "first", "second"] : List Str).map V.str, rfl, .inr (SqT.of upd_same), rfl, flat_strs _, _, rfl, ?_⟩
      rw [inV_strs]
      generalize upd H0 t1 (.tup [.str "atom", .str "first", .str "second"]) = H1 at X1 ⊢
      rw [decide_eq_false (by decide +kernel)]
      refine iteF (iteF ?_)
      refine ⟨_, rfl, rfl, _, rfl, ?_⟩
      rw [es_, decide_eq_true (by decide +kernel)]
      refine iteT ?_
      refine ⟨_, rfl, (by show 2 ≤ sizeLine; decide), fun t2 ht2 => ?_⟩
      have X2 := X1.allocT (o := .tup [.str "=", .str "!="]) ht2
      refine ⟨t2, (["=", "!="] : List Str).map V.str, rfl, .inr (SqT.of upd_same), rfl, flat_strs _, _, rfl, ?_⟩
      rw [inV_strs]
      generalize upd H1 t2 (.tup [.str "=", .str "!="]) = H2 at X2 ⊢
      by_cases c1 : z ∈ (["=", "!="] : List Str)
      · rw [decide_eq_true c1]
        refine iteT ?_
        exact ⟨_, rfl, (by show 2 ≤ sizeLine; decide), fun tp htp => ks X2 htp .word k rfl (by exact if_pos (by simpa using c1))⟩
      · rw [decide_eq_false c1]
        refine iteF ?_
        exact kn X2 (by exact if_neg (by simpa using c1))
    | word =>
      refine ⟨_, rfl, rfl, _, rfl, ?_⟩
      rw [es_, decide_eq_false (by decide +kernel)]
      refine iteF (iteF ?_)
      refine ⟨_, rfl, (by show 3 ≤ sizeLine; decide), fun t1 ht1 => ?_⟩
      have X1 := X0.allocT (o := .tup [.str "atom", .str "first", .str "second"]) ht1
      refine ⟨t1, (["atom", "first", "second"] : List Str).map V.str, rfl, .inr (SqT.of upd_same), rfl, flat_strs _, _, rfl, ?_⟩
      rw [inV_strs]
      generalize upd H0 t1 (.tup [.str "atom", .str "first", .str "second"]) = H1 at X1 ⊢
      rw [decide_eq_false (by decide +kernel)]
      refine iteF (iteF ?_)
      refine ⟨_, rfl, rfl, _, rfl, ?_⟩
      rw [es_, decide_eq_false (by decide +kernel)]
      refine iteF ?_
      refine ⟨_, rfl, rfl, _, rfl, ?_⟩
      rw [es_, decide_eq_true (by decide +kernel)]
      refine iteT ?_
      refine ⟨_, rfl, z, G, rfl, hz, X1.back.sub, fun H2 Y2 => ⟨_, rfl, ?_⟩⟩
      have X2 := X1.back.trans Y2
      cases tm : isWordS z with
      | true =>
        refine iteT ?_
        exact ⟨_, rfl, (by show 2 ≤ sizeLine; decide), fun tp htp => ks X2 htp .done k rfl (by exact if_pos tm)⟩
      | false =>
        refine iteF ?_
        exact kn X2 (by exact if_neg (by rw [tm]; decide))
    | done =>
      refine ⟨_, rfl, rfl, _, rfl, ?_⟩
      rw [es_, decide_eq_false (by decide +kernel)]
      refine iteF (iteF ?_)
      refine ⟨_, rfl, (by show 3 ≤ sizeLine; decide), fun t1 ht1 => ?_⟩
      have X1 := X0.allocT (o := .tup [.str "atom", .str "first", .str "second"]) ht1
      refine ⟨t1, (["atom", "first", "second"] : List Str).map V.str, rfl, .inr (SqT.of upd_same), rfl, flat_strs _, _, rfl, ?_⟩
      rw [inV_strs]
      generalize upd H0 t1 (.tup [.str "atom", .str "first", .str "second"]) = H1 at X1 ⊢
      rw [decide_eq_false (by decide +kernel)]
      refine iteF (iteF ?_)
      refine ⟨_, rfl, rfl, _, rfl, ?_⟩
      rw [es_, decide_eq_false (by decide +kernel)]
      refine iteF ?_
      refine ⟨_, rfl, rfl, _, rfl, ?_⟩
      rw [es_, decide_eq_false (by decide +kernel)]
      refine iteF ?_
      refine ⟨_, rfl, (by show 2 ≤ sizeLine; decide), fun t2 ht2 => ?_⟩
      have X2 := X1.allocT (o := .tup [.str "left", .str "right"]) ht2
      refine ⟨t2, (["left", "right"] : List Str).map V.str, rfl, .inr (SqT.of upd_same), rfl, flat_strs _, _, rfl, ?_⟩
      rw [inV_strs]
      generalize upd H1 t2 (.tup [.str "left", .str "right"]) = H2 at X2 ⊢
      rw [decide_eq_false (by decide +kernel)]
      refine iteF (iteF ?_)
      refine ⟨_, rfl, rfl, _, rfl, ?_⟩
      rw [es_, decide_eq_false (by decide +kernel)]
      refine iteF ?_
      refine ⟨_, rfl, (by show 2 ≤ sizeLine; decide), fun t3 ht3 => ?_⟩
      have X3 := X2.allocT (o := .tup [.str "right", .str "done"]) ht3
      refine ⟨t3, (["right", "done"] : List Str).map V.str, rfl, .inr (SqT.of upd_same), rfl, flat_strs _, _, rfl, ?_⟩
      rw [inV_strs]
      generalize upd H2 t3 (.tup [.str "right", .str "done"]) = H3 at X3 ⊢
      rw [decide_eq_true (by decide +kernel)]
      refine iteT ?_
      refine ⟨_, rfl, (by show 2 ≤ sizeLine; decide), fun t4 ht4 => ?_⟩
      have X4 := X3.allocT (o := .tup [.str "and", .str "or"]) ht4
      refine ⟨t4, (["and", "or"] : List Str).map V.str, rfl, .inr (SqT.of upd_same), rfl, flat_strs _, _, rfl, ?_⟩
      rw [inV_strs]
      generalize upd H3 t4 (.tup [.str "and", .str "or"]) = H4 at X4 ⊢
      by_cases c3_ : z ∈ (["and", "or"] : List Str)
      · rw [decide_eq_true c3_]
        refine iteT ?_
        exact ⟨_, rfl, (by show 2 ≤ sizeLine; decide), fun tp htp => ks X4 htp .atom k rfl (by rw [nxt_done, if_pos (by simpa using c3_)])⟩
      · rw [decide_eq_false c3_]
        have n3 : ¬ (z = "and" ∨ z = "or") := by simpa using c3_
        refine iteF ⟨_, rfl, rfl, _, rfl, ?_⟩
        rw [es_]
        by_cases c4 : z = ")"
        · rw [decide_eq_true c4]
          refine iteT ⟨_, rfl, _, _, rfl, rfl, _, rfl, ?_⟩
          by_cases c5 : 0 < k
          · rw [decide_eq_true (by omega : ((k : Nat) : Int) > 0)]
            refine iteT ⟨_, rfl, _, _, rfl, rfl, (by show 2 ≤ sizeLine; decide), fun tp htp => ks X4 htp .done (k - 1) (by omega) (by rw [nxt_done, if_neg n3, if_pos ⟨c4, c5⟩])⟩
          · rw [decide_eq_false (by omega : ¬ ((k : Nat) : Int) > 0)]
            exact iteF (kn X4 (by rw [nxt_done, if_neg n3, if_neg fun q => c5 q.2]))
        · rw [decide_eq_false c4]
          exact iteF (iteF (kn X4 (by rw [nxt_done, if_neg n3, if_neg fun q => c4 q.1])))
end
end Nw
namespace Nw
open PySem L2 PySem.Spec PyProof.Rows RZ
/-! the law k04: the tokens of a text -/
theorem let_dig4 : ∀ c ∈ LET.cps.toList, c ∉ DIG.cps.toList := by decide +kernel
theorem long_sign : ∀ t ∈ (["!=", "<=", ">="] : List Str), ∀ c ∈ t.cps.toList.take 1, c ∉ LET.cps.toList ∧ c ∉ DIG.cps.toList ∧ c ≠ 32 := by decide +kernel
theorem stretch_cons {alpha : Str} {c : Nat} {r : List Nat} (h : c ∈ alpha.cps.toList) : stretchL alpha (c :: r) = stretchL alpha r + 1 := if_pos h
theorem esp_ (c : Nat) : decide (V.str ⟨#[c]⟩ = V.str " ") = decide (c = 32) := by
  have e1 : ((" " : String) : Str) = ⟨#[32]⟩ := by decide +kernel
  rw [e1]
  by_cases h : c = 32
  · rw [h, decide_eq_true rfl, decide_eq_true rfl]
  · rw [decide_eq_false h, decide_eq_false fun q => h (by simpa using q)]
/-- the length of the token, as the law counts it: after each alphabet -/
def lEnd1 (c : Nat) (l : List Nat) : Nat := if c ∈ LET.cps.toList then stretchL LET l else 1
def lEnd2 (c : Nat) (l : List Nat) : Nat := if c ∈ DIG.cps.toList then stretchL DIG l else lEnd1 c l
theorem lEnd_tok {c : Nat} {r : List Nat} : tokLen (c :: r) = if (⟨((c :: r).take 2).toArray⟩ : Str) ∈ (["!=", "<=", ">="] : List Str) then 2 else lEnd2 c (c :: r) := by
  unfold lEnd2 lEnd1
  show (if c ∈ LET.cps.toList then stretchL LET (c :: r) else if c ∈ DIG.cps.toList then stretchL DIG (c :: r) else if (⟨((c :: r).take 2).toArray⟩ : Str) ∈ (["!=", "<=", ">="] : List Str) then 2 else 1) = _
  by_cases h : (⟨((c :: r).take 2).toArray⟩ : Str) ∈ (["!=", "<=", ">="] : List Str)
  · have q := long_sign _ h c (by simp)
    rw [if_neg q.1, if_neg q.2.1, if_pos h, if_pos h]
  · rw [if_neg h, if_neg h]
    by_cases h1 : c ∈ LET.cps.toList
    · rw [if_pos h1, if_pos h1, if_neg (let_dig4 c h1)]
    · rw [if_neg h1, if_neg h1]
theorem cut2 (z : Str) (a : Nat) (ha : a ≤ z.cps.toList.length) : cutS z (some (a : Int)) (some ((a : Int) + 2)) = ⟨((z.cps.toList.drop a).take 2).toArray⟩ := by
  have zl : z.length = z.cps.toList.length := by simp [Str.length]
  unfold cutS
  rw [show ((a : Int) + 2) = ((a + 2 : Nat) : Int) by omega, HT.sIx_nat, HT.sIx_nat, zl, Nat.min_eq_left ha]
  rcases Nat.lt_or_ge z.cps.toList.length (a + 2) with q | q
  · rw [Nat.min_eq_right (Nat.le_of_lt q)]
    have e1 : (z.cps.toList.drop a).length = z.cps.toList.length - a := List.length_drop ..
    rw [List.take_of_length_le (by omega), List.take_of_length_le (by omega)]
  · rw [Nat.min_eq_left q, show a + 2 - a = 2 by omega]
section
variable {P : Program} {w : World} {K : PySem.W.Frag} {mg : Str → Option Value} {base : Heap}
theorem lSplit {f : Addr} {fd : FuncData} (F : C8.Def K mg "_law_split" s__law_split f fd) (b : Binds K fd P__law_split []) (T : Names K mg) : C8.Cal P w K mg base 1 "_law_split" spSplit [] := by
  refine C8.cal0 (N := N__law_split) F b .nil sc__law_split (fun vs H Q E h => ?_) (fun cdv A outer s H vs Q E hr h => ?_)
  · obtain ⟨z, G, rfl, _⟩ := h
    rfl
  · obtain ⟨z, G, rfl, hz, sG, k⟩ := h
    have zl : z.length = z.cps.toList.length := by simp [Str.length]
    refine ⟨_, (pss_cons (ps_par (i := 1) (j := 2) (by rfl) sc__law_split.nd rfl rfl (by decide) rfl rfl (pa_cons (pe_lst pa_nil) (pa_cons pe_int pa_nil)) (by rfl))
 (pss_cons (ps_while PassesOwn.never (pt_cmpR op_lt (pv 2) (pe_callB call_len_str (by rfl) T.n_len PySem.boot_len (pa_cons (pv 0) pa_nil)) (nomark _)) (pss_cons (ps_set (i := 3) sc__law_split.nd rfl (Or.inl rfl) (pe_op op_add (pv 2) pe_int))
 (pss_cons (ps_for PassesOwn.never rfl (pi_tup (pe_tup (pa_cons pe_str (pa_cons pe_str pa_nil)))) (pg_name (i := 4) sc__law_split.nd rfl (Or.inl rfl)) (pss_one (ps_if (pt_cmpR op_in_sign (pe_ix ix_str (pv 0) (pv 2) (fun _ _ => rfl)) (pv 4) (by rfl)) (pss_one (ps_while PassesOwn.never (PW.pt (pw_and (pt_cmpR op_lt (pv 3) (pe_callB call_len_str (by rfl) T.n_len PySem.boot_len (pa_cons (pv 0) pa_nil)) (nomark _)) (pw_and1 (pt_cmpR op_in_sign (pe_ix ix_str (pv 0) (pv 3) (fun _ _ => rfl)) (pv 4) (by rfl))))) (pss_one (ps_set (i := 3) sc__law_split.nd rfl (Or.inl rfl) (pe_op op_add (pv 3) pe_int))))) pss_nil)))
 (pss_cons (ps_if (pt_cmpR op_in_seq (pe_slice sl_str (pv 0) (po_some (pv 2)) (po_some (pe_op op_add (pv 2) pe_int))) (pe_tup (pa_cons pe_str (pa_cons pe_str (pa_cons pe_str pa_nil)))) (by rfl)) (pss_one (ps_set (i := 3) sc__law_split.nd rfl (Or.inl rfl) (pe_op op_add (pv 2) pe_int))) pss_nil)
 (pss_cons (ps_if (pt_cmpR op_ne (pe_ix ix_str (pv 0) (pv 2) (fun _ _ => rfl)) pe_str (nomark _)) (pss_one (ps_expr (pe_bm PySem.F.plainAttrs_list PySem.F.slot_list_append PySem.F.type_list_append mt_append (pv 1) (pa_cons (pe_tup (pa_cons (pe_slice sl_str (pv 0) (po_some (pv 2)) (po_some (pv 3))) (pa_cons (pv 2) pa_nil))) pa_nil)))) pss_nil)
 (pss_one (ps_set (i := 2) sc__law_split.nd rfl (Or.inl rfl) (pv 3))))))))
 (pss_one (ps_ret (pe_op op_cat (pv 1) (pe_lst (pa_cons (pe_tup (pa_cons pe_str (pa_cons (pe_callB call_len_str (by rfl) T.n_len PySem.boot_len (pa_cons (pv 0) pa_nil)) pa_nil))) pa_nil))))))), ?_⟩
    refine ⟨Nat.zero_le _, fun tk htk => ?_⟩
    have X1 := Xt.tmp (b := none) (o := .lst []) sG htk
    refine ⟨_, _, rfl, ?_⟩
    refine ⟨fun m σ' H' => ∃ (a : Nat) (G' : Hp) (xs : List V) (v3 v4 : Option V) (acc : List Tok), m = z.cps.toList.length - a ∧ a ≤ z.cps.toList.length ∧ σ' = [some (.str z), some (.ref tk), some (.int (a : Int)), v3, v4] ∧ Xt none H G H' G' ∧ H' tk = some (.lst xs) ∧ G' tk = none ∧
      DA G' xs (acc.map dTok) ∧ acc.length ≤ a ∧ acc ++ toks a (z.cps.toList.drop a) = toks 0 z.cps.toList, ⟨_, 0, G, [], none, none, [], rfl, Nat.zero_le _, rfl, X1, upd_same, sG.free htk, .nil, Nat.le_refl _, rfl⟩, ?_⟩
    rintro m σ' H1 ⟨a, G1, xs, v3, v4, acc, rfl, ha, rfl, X, h1, g1, da, la, eq⟩
    refine ⟨_, rfl, _, rfl, z, rfl, small_line (by omega), _, _, rfl, rfl, _, rfl, ?_⟩
    have xl := da.length
    rw [List.length_map] at xl
    rcases Nat.lt_or_ge a z.cps.toList.length with lt | ge
    · have hc : z.cps.toList[a]? = some (z.cps.toList[a]) := List.getElem?_eq_getElem lt
      have hd := drop_cons_ hc
      have ne : z.cps.toList.drop a ≠ [] := by rw [hd]; exact fun q => by cases q
      obtain ⟨t1, t2⟩ := tokLen_bound ne
      rw [List.length_drop] at t2
      rw [toks_cons ne] at eq
      have hh : (z.cps.toList.drop a).head ne = z.cps.toList[a] := by
        have : (z.cps.toList.drop a).head? = some z.cps.toList[a] := by rw [hd]; rfl
        rw [List.head?_eq_some_head ne] at this
        exact Option.some.inj this
      rw [hh, List.drop_drop] at eq
      rw [decide_eq_true (by rw [zl]; omega : ((a : Nat) : Int) < (z.length : Int))]
      refine iteT ⟨_, fun σ' H' h => h, ?_⟩
      refine ⟨_, rfl, _, _, rfl, rfl, ?_⟩
      refine ⟨(by show 2 ≤ sizeLine; decide), fun t ht => ?_⟩
      have ntk : tk ≠ t := fun q => by subst q; rw [h1] at ht; cases ht
      have X2 := X.allocT (o := .tup [.str LET, .str DIG]) ht
      have h2 : upd H1 t (.tup [.str LET, .str DIG]) tk = some (.lst xs) := by rw [upd_ne ntk]; exact h1
      obtain ⟨E1, eE1⟩ : ∃ n, n = lEnd1 z.cps.toList[a] (z.cps.toList.drop a) := ⟨_, rfl⟩
      obtain ⟨E2, eE2⟩ : ∃ n, n = lEnd2 z.cps.toList[a] (z.cps.toList.drop a) := ⟨_, rfl⟩
      refine ⟨t, rfl, ⟨_, SqT.of upd_same⟩, for_it (walk_tup (xs := [.str LET, .str DIG])) (fun i σ' H' => ∃ v : Option V, σ' = [some (.str z), some (.ref tk), some (.int (a : Int)), some (.int ((a + (if i = 0 then 1 else if i = 1 then E1 else E2) : Nat) : Int)), v] ∧ H' = upd H1 t (.tup [.str LET, .str DIG])) ?_ ?_ ?_ ?_⟩
      · exact ⟨_, rfl, rfl⟩
      · rintro i σ' H' hi ⟨v, rfl, rfl⟩
        exact SqT.of upd_same
      · rintro i y σ' H' H2 hi ⟨v, rfl, rfl⟩ ⟨rfl, hy⟩
        have hi2 : i < 2 := hi
        obtain ⟨cur, ecur⟩ : ∃ n, n = (if i = 0 then 1 else if i = 1 then E1 else E2) := ⟨_, rfl⟩
        obtain ⟨nxt_, enxt⟩ : ∃ n, n = (if i + 1 = 0 then 1 else if i + 1 = 1 then E1 else E2) := ⟨_, rfl⟩
        rw [← ecur, ← enxt]
        obtain ⟨alpha, rfl, hin, hout⟩ : ∃ alpha : Str, y = .str alpha ∧ (z.cps.toList[a] ∈ alpha.cps.toList → cur = 1 ∧ nxt_ = stretchL alpha (z.cps.toList.drop a)) ∧ (z.cps.toList[a] ∉ alpha.cps.toList → cur = nxt_) := by
          rcases (by omega : i = 0 ∨ i = 1) with rfl | rfl
          · obtain rfl : V.str LET = y := by simpa using hy
            have e1 : cur = 1 := ecur
            have e2 : nxt_ = E1 := enxt
            refine ⟨LET, rfl, fun q => ⟨e1, by rw [e2, eE1]; exact if_pos q⟩, fun q => by rw [e1, e2, eE1]; exact (if_neg q).symm⟩
          · obtain rfl : V.str DIG = y := by simpa using hy
            have e1 : cur = E1 := ecur
            have e2 : nxt_ = E2 := enxt
            refine ⟨DIG, rfl, fun q => ⟨by rw [e1, eE1]; exact if_neg fun q2 => let_dig4 _ q2 q, by rw [e2, eE2]; exact if_pos q⟩, fun q => by rw [e1, e2, eE2]; unfold lEnd2; rw [if_neg q, eE1]⟩
        refine ⟨_, rfl, _, rfl, z, _, _, rfl, rfl, small_line (by omega), atI_nat hc, _, rfl, _, alpha, rfl, rfl, _, rfl, ?_⟩
        by_cases c : z.cps.toList[a] ∈ alpha.cps.toList
        · rw [decide_eq_true c]
          obtain ⟨rfl, en⟩ := hin c
          rw [hd, stretch_cons c] at en
          refine iteT ?_
          refine ⟨fun m σ' H' => ∃ e : Nat, m = z.cps.toList.length - e ∧ σ' = [some (.str z), some (.ref tk), some (.int (a : Int)), some (.int (e : Int)), some (.str alpha)] ∧ H' = upd H1 t (.tup [.str LET, .str DIG]) ∧ e ≤ z.cps.toList.length ∧ a + nxt_ = e + stretchL alpha (z.cps.toList.drop e), ⟨_, a + 1, rfl, rfl, rfl, by omega, by omega⟩, ?_⟩
          rintro m σ' H' ⟨e, rfl, rfl, rfl, he, eq_⟩
          refine ⟨_, rfl, _, rfl, z, rfl, small_line (by omega), _, _, rfl, rfl, _, rfl, ?_⟩
          rcases Nat.lt_or_ge e z.cps.toList.length with lt2 | ge2
          · have hc2 : z.cps.toList[e]? = some (z.cps.toList[e]) := List.getElem?_eq_getElem lt2
            have hd2 := drop_cons_ hc2
            rw [decide_eq_true (by rw [zl]; omega : ((e : Nat) : Int) < (z.length : Int))]
            refine iteT ⟨_, rfl, _, rfl, z, _, _, rfl, rfl, small_line (by omega), atI_nat hc2, _, rfl, _, alpha, rfl, rfl, _, rfl, ?_⟩
            rw [hd2] at eq_
            by_cases c2 : z.cps.toList[e] ∈ alpha.cps.toList
            · rw [decide_eq_true c2]
              rw [stretch_cons c2] at eq_
              refine iteT ⟨_, fun σ' H' h => h, ?_⟩
              refine ⟨_, rfl, _, _, rfl, rfl, ?_⟩
              refine ⟨_, ?_, e + 1, rfl, rfl, rfl, lt2, by omega⟩
              omega
            · rw [decide_eq_false c2]
              rw [show stretchL alpha (z.cps.toList[e] :: z.cps.toList.drop (e + 1)) = 0 from if_neg c2] at eq_
              rw [show a + nxt_ = e from eq_]
              exact iteF ⟨_, rfl, rfl⟩
          · rw [decide_eq_false (by rw [zl]; omega : ¬ ((e : Nat) : Int) < (z.length : Int))]
            rw [List.drop_eq_nil_of_le ge2, show stretchL alpha [] = 0 from rfl] at eq_
            rw [show a + nxt_ = e from eq_]
            exact iteF (iteF ⟨_, rfl, rfl⟩)
        · rw [decide_eq_false c]
          rw [hout c]
          exact iteF ⟨_, rfl, rfl⟩
      · rintro σ' H' ⟨v, rfl, rfl⟩
        have el : (if [V.str LET, V.str DIG].length = 0 then 1 else if [V.str LET, V.str DIG].length = 1 then E1 else E2) = E2 := rfl
        rw [el]
        have etk : tokLen (z.cps.toList.drop a) = if (⟨((z.cps.toList.drop a).take 2).toArray⟩ : Str) ∈ (["!=", "<=", ">="] : List Str) then 2 else E2 := by
          rw [eE2, hd]
          exact lEnd_tok
        refine ⟨_, rfl, _, rfl, _, rfl, _, rfl, _, _, rfl, rfl, _, rfl, z, rfl, small_line (by omega), ?_⟩
        rw [cut2 z a ha]
        have X3 := X2
        generalize upd H1 t (.tup [.str LET, .str DIG]) = H3 at X3 h2 ⊢
        refine ⟨(by show 3 ≤ sizeLine; decide), fun d2 hd2 => ?_⟩
        have ntk2 : tk ≠ d2 := fun q => by subst q; rw [h2] at hd2; cases hd2
        have X4 := X3.allocT (o := .tup [.str "!=", .str "<=", .str ">="]) hd2
        have h4 : upd H3 d2 (.tup [.str "!=", .str "<=", .str ">="]) tk = some (.lst xs) := by rw [upd_ne ntk2]; exact h2
        refine ⟨d2, (["!=", "<=", ">="] : List Str).map V.str, rfl, .inr (SqT.of upd_same), rfl, flat_strs _, _, rfl, ?_⟩
        rw [inV_strs]
        generalize upd H3 d2 (.tup [.str "!=", .str "<=", .str ">="]) = H4 at X4 h4 ⊢
        obtain ⟨L, eL⟩ : ∃ n, n = tokLen (z.cps.toList.drop a) := ⟨_, rfl⟩
        rw [← eL] at eq etk t1 t2
        by_cases c : (⟨((z.cps.toList.drop a).take 2).toArray⟩ : Str) ∈ (["!=", "<=", ">="] : List Str)
        case' pos =>
          rw [decide_eq_true c]
          rw [if_pos c] at etk
          refine iteT ⟨_, rfl, _, _, rfl, rfl, ?_⟩
          show ∃ _, _
          have e : ([some (V.str z), some (V.ref tk), some (V.int (a : Int)), some (V.int ((a + E2 : Nat) : Int)), v].set 3 (some (V.int ((a : Int) + 2)))) = [some (.str z), some (.ref tk), some (.int (a : Int)), some (.int ((a + L : Nat) : Int)), v] := by
            rw [show ((a + L : Nat) : Int) = (a : Int) + 2 by omega]
            rfl
          rw [e]
        case' neg =>
          rw [decide_eq_false c]
          rw [if_neg c] at etk
          rw [← etk]
          refine iteF ?_
        all_goals
          clear c etk
          refine ⟨_, rfl, _, rfl, z, _, _, rfl, rfl, small_line (by omega), atI_nat hc, rfl, _, rfl, ?_⟩
          rw [esp_]
          by_cases c : z.cps.toList[a] = 32
          · rw [decide_eq_true c]
            rw [if_pos c, List.nil_append] at eq
            refine iteF ⟨_, rfl, ?_⟩
            exact ⟨_, by omega, a + L, G1, xs, _, _, acc, rfl, by omega, rfl, X4, h4, g1, da, by omega, eq⟩
          · rw [decide_eq_false c]
            rw [if_neg c, ← List.append_assoc] at eq
            have ecut : cutS z (some (a : Int)) (some ((a + L : Nat) : Int)) = ⟨((z.cps.toList.drop a).take L).toArray⟩ := by
              unfold cutS
              rw [HT.sIx_nat, HT.sIx_nat, zl, Nat.min_eq_left ha, Nat.min_eq_left (by omega), show a + L - a = L by omega]
            refine iteT ⟨_, rfl, .inl ⟨rfl, _, SqL.of h4⟩, ?_⟩
            refine ⟨_, rfl, _, rfl, _, rfl, _, rfl, _, rfl, z, rfl, small_line (by omega), ?_⟩
            rw [ecut]
            obtain ⟨tok, etok⟩ : ∃ tok : Str, tok = ⟨((z.cps.toList.drop a).take L).toArray⟩ := ⟨_, rfl⟩
            rw [← etok] at eq ⊢
            refine ⟨_, rfl, (by show 2 ≤ sizeLine; decide), fun p hp => ?_⟩
            have ntp : tk ≠ p := fun q => by subst q; rw [h4] at hp; cases hp
            have X5 := X4.alloc (o := .tup [.str tok, .int (a : Int)]) hp
            have s5 := upd_same_ (o := .tup [.str tok, .int (a : Int)]) (X4.sub.free hp)
            have dt : D _ (.ref p) (dTok (tok, a)) := D.newT (xs := [.str tok, .int (a : Int)]) (.cons (.str _) (.one (.int _))) X4.sub hp
            refine ⟨tk, xs, _, rfl, rfl, by rw [upd_ne ntp]; exact h4, small_lt (by omega), ?_⟩
            refine ⟨_, rfl, ?_⟩
            refine ⟨_, by omega, a + L, _, xs ++ [.ref p], _, _, acc ++ [(tok, a)], rfl, by omega, rfl, X5.set htk (none_of_ne g1 ntp), upd_same, none_of_ne g1 ntp, ?_, by rw [List.length_append]; show _ + 1 ≤ _; omega, eq⟩
            rw [List.map_append]
            exact (da.mono s5).append (.one dt)
    · rw [decide_eq_false (by rw [zl]; omega : ¬ ((a : Nat) : Int) < (z.length : Int))]
      have ea : a = z.cps.toList.length := by omega
      rw [List.drop_eq_nil_of_le ge, toks_nil, List.append_nil] at eq
      refine iteF ?_
      refine ⟨_, rfl, _, rfl, z, rfl, small_line (by omega), (by show 2 ≤ sizeLine; decide), fun p hp => ?_⟩
      have ntp : tk ≠ p := fun q => by subst q; rw [h1] at hp; cases hp
      have X3 := X.alloc (o := .tup [.str "", .int (z.length : Int)]) hp
      have s3 := upd_same_ (o := .tup [.str "", .int (z.length : Int)]) (X.sub.free hp)
      have dt : D _ (.ref p) (.tuple [.str "", .int (z.length : Int)]) := D.newT (xs := [.str "", .int (z.length : Int)]) (.cons (.str _) (.one (.int _))) X.sub hp
      have h3 : upd H1 p (.tup [.str "", .int (z.length : Int)]) tk = some (.lst xs) := by rw [upd_ne ntp]; exact h1
      generalize upd H1 p (.tup [.str "", .int (z.length : Int)]) = H3 at X3 h3 ⊢
      have g3 : upd G1 p (.tup [.str "", .int (z.length : Int)]) tk = none := none_of_ne g1 ntp
      generalize upd G1 p (.tup [.str "", .int (z.length : Int)]) = G3 at X3 s3 dt g3
      refine ⟨(by show 1 ≤ sizeLine; decide), fun q hq => ?_⟩
      have ntq : tk ≠ q := fun e => by subst e; rw [h3] at hq; cases hq
      have X4 := X3.alloc (o := .lst [.ref p]) hq
      have h4 : upd H3 q (.lst [.ref p]) tk = some (.lst xs) := by rw [upd_ne ntq]; exact h3
      have s4 := upd_same_ (o := .lst [.ref p]) (X3.sub.free hq)
      have g4 : upd G3 q (.lst [.ref p]) tk = none := none_of_ne g3 ntq
      have X5 := X4.fix htk h4
      have dl : D (upd G3 q (.lst [.ref p])) (.ref q) (.list [.tuple [.str "", .int (z.length : Int)]]) := .lst upd_same (.one (dt.mono s4))
      have dk : D (upd (upd G3 q (.lst [.ref p])) tk (.lst xs)) (.ref tk) (.list (acc.map dTok)) := .lst upd_same (((da.mono s3).mono s4).mono (upd_same_ g4))
      refine catL_data dk (dl.mono (upd_same_ g4)) X5.sub (by rw [List.length_map]; show _ + 1 ≤ _; omega) fun w3 H6 G6 X6 d6 => ?_
      obtain ⟨r, ys, rfl, hr, dr⟩ := d6.list_inv
      have ef : (allToks z).map dTok = acc.map dTok ++ [.tuple [.str "", .int (z.length : Int)]] := by
        unfold allToks
        rw [← eq, List.map_append, zl]
        rfl
      refine k r _ _ (X5.trans X6) ?_
      rw [ef]
      exact d6
end
end Nw
namespace Nw
open PySem L2 PySem.Spec PyProof.Rows RZ
/-! the law k04: where a text is stuck -/
def optV : Option Nat → V
  | none => .non
  | some n => .int ((n : Nat) : Int)
def spStuck : Sp := fun vs H Q _ => ∃ (p a : Addr) (ts : List Tok) (cols : List Col) (G : Hp), vs = [.ref p, .int 0, .ref a] ∧ D G (.ref p) (.list (ts.map dTok)) ∧ Wf ts ∧ ts.length ≤ 1000 ∧ (∀ t ∈ ts, t.1.length ≤ 10000) ∧ D G (.ref a) (.list (dCols cols)) ∧ cols.length ≤ 3 ∧ Same G H ∧
  ∀ (H' : Hp), Xt none H G H' G → Q (optV (stuckL (cols.map (·.1)) ts .atom 0)) H'
theorem cutD_last0 (ds : List PyData) : cutD ds (some 0) (some (-1)) = ds.dropLast := by
  unfold cutD
  rw [show (0 : Int) = ((0 : Nat) : Int) from rfl, HT.sIx_nat, Nat.zero_min, List.drop_zero, Nat.sub_zero, List.dropLast_eq_take]
  show ds.take ((-1 : Int) + (ds.length : Int)).toNat = _
  congr 1
  omega
theorem atI_neg1 {α : Type} {xs : List α} {v : α} (h : xs[xs.length - 1]? = some v) : atI xs (-1) = some v := by
  obtain ⟨l, e⟩ := List.getElem?_eq_some_iff.mp h
  have ne : xs ≠ [] := fun q => by subst q; cases l
  have e2 : xs.getLast ne = v := by rw [List.getLast_eq_getElem]; exact e
  rw [← List.dropLast_concat_getLast ne, e2]
  exact atI_last _ _
section
variable {P : Program} {w : World} {K : PySem.W.Frag} {mg : Str → Option Value} {base : Heap}
theorem lStuck {f : Addr} {fd : FuncData} (F : C8.Def K mg "_law_stuck" s__law_stuck f fd) (b : Binds K fd P__law_stuck []) (T : Names K mg) (c__law_next : C8.Cal P w K mg base 3 "_law_next" spNext []) : C8.Cal P w K mg base 4 "_law_stuck" spStuck [] := by
  refine C8.cal0 (N := N__law_stuck) F b .nil sc__law_stuck (fun vs H Q E h => ?_) (fun cdv A outer s H0 vs Q E hr h => ?_)
  · obtain ⟨p, a, ts, cols, G, rfl, _⟩ := h
    rfl
  · obtain ⟨p, a, ts, cols, G, rfl, dp, W, tl, tb, hd, c3, sG, kk⟩ := h
    have X0 : Xt none H0 G H0 G := Xt.refl sG
    refine ⟨_, (pss_cons (ps_asg (pe_tup (pa_cons pe_str (pa_cons pe_int pa_nil))) (pg_tup rfl (pgs_cons (pg_name (i := 3) sc__law_stuck.nd rfl (Or.inl rfl)) (pgs_cons (pg_name (i := 4) sc__law_stuck.nd rfl (Or.inl rfl)) pgs_nil))))
 (pss_cons (ps_for PassesOwn.never rfl (pi_list (pe_slice (sl_listK (K := K) rfl) (pv 0) (po_some (pv 1)) (po_some (pe_un un_neg pe_int)))) (pg_tup rfl (pgs_cons (pg_name (i := 5) sc__law_stuck.nd rfl (Or.inl rfl)) (pgs_cons (pg_name (i := 6) sc__law_stuck.nd rfl (Or.inl rfl)) pgs_nil))) (pss_cons (ps_set (i := 7) sc__law_stuck.nd rfl (Or.inl rfl) (C8.pe_c c__law_next hr (by decide) rfl (pa_cons (pv 3) (pa_cons (pv 5) (pa_cons (pv 4) (pa_cons (pv 2) pa_nil))))))
 (pss_cons (ps_if (pt_cmpR op_isN (pv 7) pe_non (nomark _)) (pss_one (ps_ret (pv 6))) pss_nil)
 (pss_one (ps_asg (pv 7) (pg_tup rfl (pgs_cons (pg_name (i := 3) sc__law_stuck.nd rfl (Or.inl rfl)) (pgs_cons (pg_name (i := 4) sc__law_stuck.nd rfl (Or.inl rfl)) pgs_nil))))))))
 (pss_one (ps_ret (pe_ifExp (PW.pt (pw_and (pt_cmpR op_in_seq (pv 3) (pe_tup (pa_cons pe_str (pa_cons pe_str pa_nil))) (by rfl)) (pw_and1 (pt_cmpR op_eq (pv 4) pe_int (nomark _))))) pe_non (pe_ix ix_tup (pe_ix ix_list (pv 0) (pe_un un_neg pe_int) (fun _ _ => rfl)) pe_int (fun _ _ => rfl))))))), ?_⟩
    refine ⟨(by show 2 ≤ sizeLine; decide), fun q0 hq0 => ?_⟩
    have X1 := X0.allocT (o := .tup [.str "atom", .int 0]) hq0
    refine ⟨q0, _, rfl, SqT.of upd_same, rfl, _, _, rfl, _, _, rfl, rfl, ?_⟩
    generalize upd H0 q0 (.tup [.str "atom", .int 0]) = H1 at X1 ⊢
    refine ⟨_, rfl, _, rfl, _, rfl, ?_⟩
    refine ⟨_, rfl, _, rfl, ?_⟩
    refine slL_data dp X1.sub fun q H2 G2 X2 dq => ?_
    have X2 := X1.trans X2
    rw [cutD_last0, ← List.map_dropLast] at dq
    obtain ⟨qa, xs, e0, gq, da⟩ := id dq.list_inv
    cases e0
    have hl := da.length
    rw [List.length_map, List.length_dropLast] at hl
    refine ⟨qa, rfl, ⟨xs, SqL.of (X2.sub _ _ gq)⟩, for_it (walk_list (xs := xs)) (fun i σ' H' => ∃ (G' : Hp) (st : S4) (k : Nat) (v5 v6 v7 : Option V), σ' = [some (.ref p), some (.int 0), some (.ref a), some (.str (stS st)), some (.int ((k : Nat) : Int)), v5, v6, v7] ∧ Xt none H2 G2 H' G' ∧ stuckL (cols.map (·.1)) (ts.drop i) st k = stuckL (cols.map (·.1)) ts .atom 0) ?_ ?_ ?_ ?_⟩
    · exact ⟨_, .atom, 0, none, none, none, rfl, Xt.refl X2.sub, rfl⟩
    · rintro i σ' H' hi ⟨G', st, k, v5, v6, v7, rfl, X, _⟩
      exact SqL.of (X.sub _ _ (X.gg _ _ gq))
    · rintro i y σ' H' H3 hi ⟨G', st, k, v5, v6, v7, rfl, X, eq⟩ ⟨rfl, hy⟩
      have hi2 : i + 1 < ts.length := by omega
      obtain ⟨t, ht⟩ := W.at (by omega : i < ts.length)
      have hd2 : ts.dropLast[i]? = some t := by rw [List.getElem?_dropLast, if_pos (by omega)]; exact ht
      obtain ⟨u, x1, _, gt⟩ := Toks.get gq da hd2
      rw [x1] at hy
      obtain rfl := Option.some.inj hy
      refine ⟨u, _, rfl, SqT.of (X.sub _ _ (X.gg _ _ gt)), rfl, _, _, rfl, _, _, rfl, rfl, ?_⟩
      refine ⟨_, rfl, _, rfl, _, rfl, _, rfl, st, t.1, k, a, cols, G', rfl, tb t (List.mem_of_getElem? ht), ?_, c3, X.sub, fun v H4 G4 X4 hv => ?_⟩
      · exact (hd.mono X2.gg).mono X.gg
      have XX := X2.trans X
      cases e : nxt (cols.map (·.1)) st t.1 k with
      | none =>
        rw [e] at hv
        have hv : v = .non := hv
        subst hv
        rw [stuck_no ht hi2 e] at eq
        refine ⟨_, rfl, rfl, _, rfl, ?_⟩
        rw [decide_eq_true rfl]
        refine iteT ⟨_, rfl, ?_⟩
        have r := kk _ (XX.trans X4).back
        rw [← eq] at r
        exact r
      | some sk =>
        obtain ⟨s', k'⟩ := sk
        rw [e] at hv
        obtain ⟨u2, rfl, gu⟩ := hv
        rw [stuck_go ht hi2 e] at eq
        refine ⟨_, rfl, rfl, _, rfl, ?_⟩
        rw [decide_eq_false (by exact fun q => by cases q)]
        refine iteF ?_
        refine ⟨_, rfl, u2, _, rfl, SqT.of (X4.sub _ _ gu), rfl, _, _, rfl, _, _, rfl, rfl, ?_⟩
        exact ⟨_, s', k', _, _, _, rfl, X.trans X4, eq⟩
    · rintro σ' H' ⟨G', st, k, v5, v6, v7, rfl, X, eq⟩
      have XX := X2.trans X
      rw [hl] at eq
      have pos := W.pos
      obtain ⟨t, ht⟩ := W.at (by omega : ts.length - 1 < ts.length)
      rw [stuck_last ht (by omega)] at eq
      have r := fun H' (Y : Xt none H0 G H' G) => kk H' Y
      rw [← eq] at r
      obtain ⟨pa, ys, e0, gp, dy⟩ := id dp.list_inv
      cases e0
      obtain ⟨u, y1, _, gu⟩ := Toks.get gp dy ht
      have yl := dy.length
      rw [List.length_map] at yl
      refine ⟨_, rfl, (by show 2 ≤ sizeLine; decide), fun d hd => ?_⟩
      have X5 := XX.allocT (o := .tup [.str "right", .str "done"]) hd
      refine ⟨d, (["right", "done"] : List Str).map V.str, rfl, .inr (SqT.of upd_same), rfl, flat_strs _, _, rfl, ?_⟩
      rw [inV_strs]
      generalize upd H' d (.tup [.str "right", .str "done"]) = H5 at X5 ⊢
      have r5 := r H5 X5.back
      have els : ¬ ((st = .right ∨ st = .done) ∧ k = 0) → Q (.int ((t.2 : Nat) : Int)) H5 := fun q => by rw [if_neg q] at r5; exact r5
      have thn : ((st = .right ∨ st = .done) ∧ k = 0) → Q .non H5 := fun q => by rw [if_pos q] at r5; exact r5
      clear r r5
      have ed : (st = .right ∨ st = .done) ↔ stS st ∈ (["right", "done"] : List Str) := by cases st <;> decide +kernel
      have cz : decide (V.int ((k : Nat) : Int) = V.int 0) = decide (k = 0) := by
        by_cases q : k = 0
        · subst q; rfl
        · rw [decide_eq_false q, decide_eq_false]
          exact fun z => q (by have := V.int.inj z; omega)
      have lst : atI ys (-1) = some (.ref u) := by
        refine atI_neg1 ?_
        rw [yl]
        exact y1
      have el : Q (.int ((t.2 : Nat) : Int)) H5 → tOp (rIxT K) (tOp (rIxL K) (tVar 0) (tUn (rU fun i => V.int (-i)) (tC (V.int 1)))) (tC (V.int 1)) [some (.ref p), some (.int 0), some (.ref a), some (.str (stS st)), some (.int ((k : Nat) : Int)), v5, v6, v7] H5 Q := fun h =>
        ⟨_, rfl, _, rfl, p, ys, -1, _, rfl, rfl, SqL.of (X5.sub _ _ (X5.gg _ _ gp)), lst, u, _, 1, _, rfl, rfl, SqT.of (X5.sub _ _ (X5.gg _ _ gu)), rfl, h⟩
      by_cases c1 : st = .right ∨ st = .done
      · rw [decide_eq_true (ed.mp c1)]
        refine iteT ⟨_, rfl, rfl, _, rfl, ?_⟩
        rw [cz]
        by_cases c2 : k = 0
        · rw [decide_eq_true c2]
          exact iteT (thn ⟨c1, c2⟩)
        · rw [decide_eq_false c2]
          exact iteF (el (els fun q => c2 q.2))
      · rw [decide_eq_false fun q => c1 (ed.mpr q)]
        exact iteF (iteF (el (els fun q => c1 q.1)))
end
end Nw
namespace Nw
open PySem L2 PySem.Spec PyProof.Rows RZ
/-! the law k04: tokens, whatever they are, laid out -/
theorem join_len10 : ∀ l : List Str, (∀ z ∈ l, z.length ≤ 10) → (gapL (l.map fun y => ((1 : Nat), y))).length ≤ 11 * l.length
  | [], _ => Nat.le_refl _
  | z :: l, h => by
    have ih := join_len10 l fun y hy => h y (List.mem_cons_of_mem _ hy)
    have hz := h z List.mem_cons_self
    rw [str_len] at hz
    rw [List.map_cons, gap_cons, List.length_append, List.length_append, List.length_replicate, List.length_cons]
    show 1 + (z.cps.toList.length + _) ≤ _
    omega
theorem joined10 : ∀ l : List Str, (∀ z ∈ l, z.length ≤ 10) → (Txt.join " " l).length ≤ 11 * l.length + 10
  | [], _ => by show 0 ≤ _; omega
  | z :: l, h => by
    have g := join_len10 l fun y hy => h y (List.mem_cons_of_mem _ hy)
    have hz := h z List.mem_cons_self
    rw [str_len] at hz
    rw [str_len, join_gap, List.length_append, List.length_cons]
    omega
structure SpacedA (vs : List V) (H : Hp) (Q : VK) (E : XK) : Prop where
  ex : ∃ (b p : Addr) (c : Int) (l : List Str) (G : Hp), vs = [.ref b, .ref p] ∧ G p = some (.lst (l.map V.str)) ∧ (∀ z ∈ l, 1 ≤ z.length ∧ z.length ≤ 10) ∧ l.length ≤ 25 ∧ Bag H b c ∧ c ≤ 90000 ∧ G b = none ∧ Same G H ∧
    ∀ (z : Str) (H' : Hp), Xt (some b) H G H' G → Bag H' b (c + 2 + (l.length : Int)) → z.length ≤ 290 → Q (.str z) H'
section
variable {P : Program} {w : World} {K : PySem.W.Frag} {mg : Str → Option Value} {base : Heap}
theorem lSpacedA {f : Addr} {fd : FuncData} (F : C8.Def K mg "_law_spaced" s__law_spaced f fd) (b : Binds K fd P__law_spaced []) (T : Names K mg) (c__law_take : C8.Cal P w K mg base 1 "_law_take" SpTake []) (c__law_of : C8.Cal P w K mg base 2 "_law_of" SpOf []) : C8.Cal P w K mg base 3 "_law_spaced" SpacedA [] := by
  refine C8.cal0 (N := N__law_spaced) F b .nil sc__law_spaced (fun vs H Q E h => ?_) (fun cdv A outer s H vs Q E hr h => ?_)
  · obtain ⟨b, p, c, l, G, rfl, _⟩ := h.ex
    rfl
  · obtain ⟨b, p, c, l, G, rfl, gp, gd, l100, hB, hc, gb, sG, k⟩ := h.ex
    have hu := hu_of hr
    refine ⟨_, (pss_cons (ps_set (i := 2) sc__law_spaced.nd rfl (Or.inl rfl) (pe_lst (pa_cons pe_str (pa_cons pe_str pa_nil))))
 (pss_cons (ps_set (i := 3) sc__law_spaced.nd rfl (Or.inl rfl) (pe_op op_spc pe_str (C8.pe_c c__law_take hr (by decide) rfl (pa_cons (pv 0) (pa_cons pe_int pa_nil)))))
 (pss_cons (ps_for PassesOwn.never rfl (pi_list (pv 1)) (pg_name (i := 4) sc__law_spaced.nd rfl (Or.inr rfl)) (pss_cons (ps_asg (pe_tup (pa_cons (pe_slice sl_str (pv 3) (po_some (pe_un un_neg pe_int)) po_none) (pa_cons (C8.pe_c c__law_of hr (by decide) rfl (pa_cons (pv 0) (pa_cons (pe_lst (pa_cons pe_int (pa_cons pe_int (pa_cons pe_int (pa_cons pe_int pa_nil))))) pa_nil))) pa_nil))) (pg_tup rfl (pgs_cons (pg_name (i := 5) sc__law_spaced.nd rfl (Or.inr rfl)) (pgs_cons (pg_name (i := 6) sc__law_spaced.nd rfl (Or.inl rfl)) pgs_nil))))
 (C8.pss_cut (ps_if (PW.pt (pw_and (pt_cmpR op_ne (pv 5) pe_str (nomark _)) (pw_and1 (pt_val (pe_callB (cr_any rfl) (by rfl) T.n_any (by decide +kernel) (pa_cons (pe_lc (own := [("_law_sort", 7)]) (g := (gName 7)) (tt := tYes) rfl sc__law_spaced.nd (pi_list (pv 2)) (blkOk_by (own := [("_law_sort", 7)]) (N := N__law_spaced) (sc := C8.fnScope s__law_spaced) (by decide +kernel)) (fun _ _ _ _ _ => (pg_name (i := 7) sc__law_spaced.nd rfl (Or.inl rfl))) (fun _ _ _ _ _ => pts_nil) (fun _ _ _ _ _ => (pe_and (pe_cmpR op_in_sign (pv 5) (pv 7) (by rfl)) (pe_one (pe_cmpR op_in_sign (pe_ix ix_str (pv 4) pe_int (fun _ _ => rfl)) (pv 7) (by rfl)))))) pa_nil)))))) (pss_one (ps_set (i := 6) sc__law_spaced.nd rfl (Or.inl rfl) (pe_callB (call_max2 rfl) (by rfl) T.n_max (by decide +kernel) (pa_cons pe_int (pa_cons (pv 6) pa_nil))))) pss_nil)
 (pss_one (ps_set (i := 3) sc__law_spaced.nd rfl (Or.inl rfl) (pe_op op_add_str (pe_op op_add_str (pv 3) (pe_op op_spc pe_str (pv 6))) (pv 4)))))))
 (pss_cons (ps_set (i := 3) sc__law_spaced.nd rfl (Or.inl rfl) (pe_op op_add_str (pv 3) (pe_op op_spc pe_str (C8.pe_c c__law_take hr (by decide) rfl (pa_cons (pv 0) (pa_cons pe_int pa_nil))))))
 (pss_one (ps_ret (pe_ifExp (pt_cmpR op_le (pe_callB call_len_str (by rfl) T.n_len PySem.boot_len (pa_cons (pv 3) pa_nil)) pe_int (nomark _)) (pv 3) (pe_join pe_str (pv 1))))))))), ?_⟩
    refine ⟨(by show 2 ≤ sizeLine; decide), fun so hso => ?_⟩
    have X0 := Xt.tmp (b := some b) (o := .lst [.str LET, .str DIG]) sG hso
    have nbs : b ≠ so := fun e => hB.ne (by rw [e]; exact hso)
    refine ⟨_, rfl, take_step (n := 2) X0 gb (hB.upd nbs) (by omega) (by decide) fun r H1 r0 r1 X1 hB1 kp1 => ?_⟩
    have hS1 : H1 so = some (.lst [.str LET, .str DIG]) := kp1 so nbs.symm _ upd_same
    obtain ⟨n0, rfl⟩ : ∃ n0 : Nat, r = (n0 : Int) := ⟨r.toNat, by omega⟩
    refine ⟨n0, by omega, rfl, rfl, ?_⟩
    refine ⟨_, rfl, p, rfl, ⟨_, SqL.of (X1.sub _ _ gp)⟩, for_it (walk_list (xs := l.map V.str)) (fun i σ' H' => ∃ (v4 v5 v6 : Option V) (t : Str), σ' = [some (.ref b), some (.ref p), some (.ref so), some (.str t), v4, v5, v6, none] ∧ Xt (some b) H G H' G ∧ Bag H' b (c + 1 + (i : Int)) ∧
      H' so = some (.lst [.str LET, .str DIG]) ∧ t.length ≤ 2 + 12 * i) ?_ ?_ ?_ ?_⟩
    · refine ⟨none, none, none, _, rfl, X1, hB1.mono (by omega), hS1, ?_⟩
      rw [str_len, spS_len, List.length_replicate]; omega
    · rintro i σ' H' hi ⟨v4, v5, v6, t, rfl, X, _⟩
      exact SqL.of (X.sub _ _ gp)
    · rintro i y σ' H0_ H' hi ⟨v4, v5, v6, t, rfl, X, hB2, hS2, tl⟩ ⟨rfl, hy⟩
      rw [List.getElem?_map] at hy
      obtain ⟨z, hz, rfl⟩ := Option.map_eq_some_iff.mp hy
      have hm := List.mem_of_getElem? hz
      obtain ⟨gz, z8⟩ := gd z hm
      have hi25 : i < l.length := (List.getElem?_eq_some_iff.mp hz).1
      rw [List.length_map] at hi
      refine ⟨_, rfl, _, rfl, _, rfl, ?_⟩
      refine tNoPart_ ?_
      refine ⟨t, rfl, small_line (by omega), _, rfl, (by show 4 ≤ sizeLine; decide), fun q hq => of_stepI [0, 1, 1, 2] X gb hB2 (by omega) (by decide) hq fun g H3 hg X3 hB3 kp3 => ⟨(by show 2 ≤ sizeLine; decide), fun tp htp => ?_⟩⟩
      have g2 : 0 ≤ g ∧ g ≤ 2 := by
        have : ∀ x ∈ ([0, 1, 1, 2] : List Int), 0 ≤ x ∧ x ≤ 2 := by decide
        exact this g hg
      obtain ⟨gn, rfl⟩ : ∃ gn : Nat, g = (gn : Int) := ⟨g.toNat, by omega⟩
      have hS3 := kp3 so nbs.symm _ hS2
      have nst : so ≠ tp := fun e => by subst e; rw [hS3] at htp; cases htp
      have nbt : b ≠ tp := fun e => hB3.ne (by rw [e]; exact htp)
      have X4 := X3.allocT (o := .tup [.str (cutS t (some (-1)) none), .int (gn : Int)]) htp
      have hS4 : upd H3 tp (.tup [.str (cutS t (some (-1)) none), .int (gn : Int)]) so = some (.lst [.str LET, .str DIG]) := by rw [upd_ne nst]; exact hS3
      refine ⟨tp, _, rfl, SqT.of upd_same, rfl, _, _, rfl, _, _, rfl, rfl, ?_⟩
      have hB4 := hB3.upd (o := .tup [.str (cutS t (some (-1)) none), .int (gn : Int)]) nbt
      generalize upd H3 tp (.tup [.str (cutS t (some (-1)) none), .int (gn : Int)]) = H4 at X4 hS4 hB4 ⊢
      refine ⟨fun σ2 H2 => ∃ g' : Nat, σ2 = [some (.ref b), some (.ref p), some (.ref so), some (.str t), some (.str z), some (.str (cutS t (some (-1)) none)), some (.int (g' : Int)), none] ∧ Xt (some b) H G H2 G ∧ Bag H2 b (c + 1 + ((i + 1 : Nat) : Int)) ∧ H2 so = some (.lst [.str LET, .str DIG]) ∧ g' ≤ 2, ?_, ?_⟩
      · refine ⟨_, rfl, rfl, _, rfl, ?_⟩
        rw [es_]
        rcases cut_last t with ⟨te, ce⟩ | ⟨cl, lc, ce⟩
        · rw [ce, decide_eq_true rfl]
          exact iteF (iteF ⟨gn, rfl, X4, hB4.mono (by omega), hS4, by omega⟩)
        · have ne : ¬ (cutS t (some (-1)) none = ("" : Str)) := by
            rw [ce]; intro e
            have := congrArg (fun z : Str => z.cps.size) e
            have h0 : ("" : Str).cps.size = 0 := by decide +kernel
            rw [h0] at this
            exact absurd this (by simp)
          rw [decide_eq_false ne]
          obtain ⟨d, zr, hz0⟩ : ∃ d zr, z.cps.toList = d :: zr := by
            rw [str_len] at gz
            match hz : z.cps.toList, gz with
            | d :: zr, _ => exact ⟨d, zr, rfl⟩
          refine iteT ⟨_, rfl, so, rfl, ⟨_, SqL.of hS4⟩, fun Dl hD => ?_⟩
          have nsd : so ≠ Dl := fun e => by subst e; rw [hS4] at hD; cases hD
          refine lc_data (b := none) (R := fun _ H => H so = some (.lst [.str LET, .str DIG])) (G := G) (walk_list (xs := [.str LET, .str DIG])) [.bool (decide (cl ∈ LET.cps.toList) && decide (d ∈ LET.cps.toList)), .bool (decide (cl ∈ DIG.cps.toList) && decide (d ∈ DIG.cps.toList))] rfl (by decide) hD X4.sub (fun q => by cases q) hS4 (fun _ H o h => by rw [upd_ne nsd]; exact h) (fun i H5 G5 X5 h5 => SqL.of h5) ?_ ?_
          · rintro j y H5 G5 H6 dd hd X5 R5 ⟨rfl, hy⟩ Qy hq
            have el : ∃ al : Str, y = .str al ∧ dd = .bool (decide (cl ∈ al.cps.toList) && decide (d ∈ al.cps.toList)) := by
              match j, hy, hd with
              | 0, hy, hd => exact ⟨LET, (Option.some.inj hy).symm, (Option.some.inj hd).symm⟩
              | 1, hy, hd => exact ⟨DIG, (Option.some.inj hy).symm, (Option.some.inj hd).symm⟩
            obtain ⟨al, rfl, rfl⟩ := el
            refine ⟨rfl, _, rfl, _, rfl, cl, al, by rw [ce], rfl, _, rfl, ?_⟩
            by_cases c1 : cl ∈ al.cps.toList
            · rw [decide_eq_true c1]
              refine iteT ⟨_, rfl, z, 0, d, rfl, rfl, small_line (by omega), by rw [hz0]; exact atI_nat (j := 0) rfl, _, rfl, d, al, rfl, rfl, ?_⟩
              have e9 : (decide (cl ∈ al.cps.toList) && decide (d ∈ al.cps.toList)) = decide (d ∈ al.cps.toList) := by rw [decide_eq_true c1]; rfl
              rw [← e9]
              exact hq _ _ _ (Xt.refl X5.sub) R5 (.bl _)
            · rw [decide_eq_false c1]
              refine iteF ?_
              have e9 : (decide (cl ∈ al.cps.toList) && decide (d ∈ al.cps.toList)) = false := by rw [decide_eq_false c1]; rfl
              rw [← e9]
              exact hq _ _ _ (Xt.refl X5.sub) R5 (.bl _)
          · intro H5 G5 ys X5 R5 hl5 hg5 da5
            have ey := DA.bools (ns := [decide (cl ∈ LET.cps.toList) && decide (d ∈ LET.cps.toList), decide (cl ∈ DIG.cps.toList) && decide (d ∈ DIG.cps.toList)]) da5
            refine ⟨Dl, _, rfl, SqL.of (by rw [hl5, ey]), _, rfl, ?_⟩
            have X6 := X4.trans X5.of.back
            have hB5 := hB4.keep X5
            have ea : ([decide (cl ∈ LET.cps.toList) && decide (d ∈ LET.cps.toList), decide (cl ∈ DIG.cps.toList) && decide (d ∈ DIG.cps.toList)]).any id = (decide (cl ∈ LET.cps.toList) && decide (d ∈ LET.cps.toList) || (decide (cl ∈ DIG.cps.toList) && decide (d ∈ DIG.cps.toList))) := by
              show (_ || (_ || false)) = _
              rw [Bool.or_false]; rfl
            rw [ea]
            refine ite2 (fun cc => ?_) (fun cc => ?_)
            · refine ⟨_, rfl, _, _, rfl, ?_⟩
              have e2 : (if (gn : Int) > 1 then (gn : Int) else 1) = ((max 1 gn : Nat) : Int) := by
                split <;> omega
              rw [e2]
              exact ⟨max 1 gn, rfl, X6, hB5.mono (by omega), R5, by omega⟩
            · exact ⟨gn, rfl, X6, hB5.mono (by omega), R5, by omega⟩
      rintro σ2 H2 ⟨g', rfl, X2, hB5, hS5, gl⟩
      have e1 : (spS g').length = g' := by rw [str_len, spS_len, List.length_replicate]
      have e2 : (t ++ spS g').length = t.length + g' := by
        rw [str_len, str_app, List.length_append, spS_len, List.length_replicate, ← str_len]
      have e3 : (t ++ spS g' ++ z).length = t.length + g' + z.length := by
        rw [str_len, str_app, List.length_append, ← str_len, ← str_len, e2]
      refine ⟨_, rfl, _, rfl, g', gl, rfl, rfl, _, _, rfl, rfl, by rw [e1]; exact small_line (by omega), _, rfl, _, _, rfl, rfl, by rw [e2]; exact small_line (by omega), ?_⟩
      exact ⟨_, _, _, _, rfl, X2, hB5, hS5, by rw [e3]; omega⟩
    · rintro σ' H' ⟨v4, v5, v6, t, rfl, X, hB2, hS2, tl⟩
      rw [List.length_map] at tl hB2
      refine ⟨_, rfl, _, rfl, take_step (n := 2) X gb hB2 (by omega) (by decide) fun r H3 r0 r1 X3 hB3 kp3 => ?_⟩
      obtain ⟨n1, rfl⟩ : ∃ n1 : Nat, r = (n1 : Int) := ⟨r.toNat, by omega⟩
      have el : (t ++ spS n1).length = t.length + n1 := by
        rw [str_len, str_app, List.length_append, spS_len, List.length_replicate, ← str_len]
      have e1 : (spS n1).length = n1 := by rw [str_len, spS_len, List.length_replicate]
      refine ⟨n1, by omega, rfl, rfl, _, _, rfl, rfl, by rw [e1]; exact small_line (by omega), ?_⟩
      refine ⟨_, rfl, _, rfl, small_line (by rw [el]; omega), _, _, rfl, rfl, _, rfl, ?_⟩
      refine ite2 (fun cc => ?_) (fun cc => ?_)
      · exact ⟨_, rfl, k _ _ X3 (hB3.mono (by omega)) (by have q := of_decide_eq_true cc; omega)⟩
      · have hs : ∀ y ∈ l, y.length ≤ 10 := fun y hy => (gd y hy).2
        have hsum := sum_le 10 _ hs
        have f3 : ((" " : String) : Str).length = 1 := by decide +kernel
        refine ⟨⟨_, rfl⟩, _, rfl, _, p, l, rfl, rfl, .inl (SqL.of (X3.sub _ _ gp)), by rw [f3]; omega, ?_⟩
        refine k _ _ X3 (hB3.mono (by omega)) ?_
        have := joined10 l hs
        omega
end
end Nw
namespace Nw
open PySem L2 PySem.Spec PyProof.Rows RZ
/-! the law k04: tokens with one of them spoilt -/
structure Spoilt (vs : List V) (H : Hp) (Q : VK) (E : XK) : Prop where
  ex : ∃ (b p m : Addr) (c : Int) (l ms : List Str) (G : Hp), vs = [.ref b, .ref p, .ref m] ∧ D G (.ref p) (.list (l.map .str)) ∧ D G (.ref m) (.list (ms.map .str)) ∧ 0 < l.length ∧ l.length ≤ 100 ∧ 0 < ms.length ∧ ms.length ≤ 100 ∧ Bag H b c ∧ c ≤ 90000 ∧ G b = none ∧ Same G H ∧
    ∀ (q : Addr) (l' : List Str) (H' G' : Hp), Xt (some b) H G H' G' → Bag H' b (c + 3) → D G' (.ref q) (.list (l'.map .str)) → l'.length ≤ l.length + 1 → (∀ z ∈ l', z ∈ l ∨ z ∈ ms) → Q (.ref q) H'
/-- a draw of a list that stands -/
theorem of_data {b a : Addr} {c : Int} {H0 G H G' : Hp} {ds : List PyData} {Q : VK} {E : XK} (X : Xt (some b) H0 G H G') (g1 : G' b = none) (hB : Bag H b c) (hc : c ≤ 1000000) (d : D G' (.ref a) (.list ds)) (hl : 0 < ds.length ∧ ds.length ≤ 1000)
    (k : ∀ (v : V) (d : PyData) (H' : Hp), d ∈ ds → D G' v d → Xt (some b) H0 G H' G' → Bag H' b (c + 1) → Q v H') : SpOf [.ref b, .ref a] H Q E := by
  obtain ⟨a_, xs, e0, ga, da⟩ := id d.list_inv
  cases e0
  have lx := da.length
  refine ⟨b, a, xs, c, rfl, X.sub _ _ ga, fun e => ?_, fun e => ?_, by omega, hB, hc, fun v iv x y z hv hB2 => ?_⟩
  · rw [e, g1] at ga; cases ga
  · rw [e] at lx; simp at lx; omega
  · obtain ⟨d, h1, h2⟩ := da.get hv
    exact k v d _ (List.mem_of_getElem? h1) h2 (X.put g1) hB2
section
variable {P : Program} {w : World} {K : PySem.W.Frag} {mg : Str → Option Value} {base : Heap}
section
variable {G H : Hp} {x y : V} {l l2 : List Str} {Q : VK} {i : Int}
theorem sl_take (hx : D G x (.list (l.map .str))) (s : Same G H) (i0 : 0 ≤ i) (k : ∀ q H' G', Xt none H G H' G' → D G' q (.list ((l.take i.toNat).map .str)) → Q q H') : rSlL K x none (some i) H Q :=
  slL_data hx s fun q H' G' X d => k q H' G' X (by
    have e : i = ((i.toNat : Nat) : Int) := by omega
    rw [e, cutD_take, ← List.map_take] at d
    exact d)
theorem sl_drop (hx : D G x (.list (l.map .str))) (s : Same G H) (i0 : 0 ≤ i) (k : ∀ q H' G', Xt none H G H' G' → D G' q (.list ((l.drop i.toNat).map .str)) → Q q H') : rSlL K x (some i) none H Q :=
  slL_data hx s fun q H' G' X d => k q H' G' X (by
    have e : i = ((i.toNat : Nat) : Int) := by omega
    rw [e, cutD_drop, ← List.map_drop] at d
    exact d)
theorem cat_strs (hx : D G x (.list (l.map .str))) (hy : D G y (.list (l2.map .str))) (s : Same G H) (hl : l.length + l2.length ≤ 100000) (k : ∀ q H' G', Xt none H G H' G' → D G' q (.list ((l ++ l2).map .str)) → Q q H') : rCat x y H Q :=
  catL_data hx hy s (by rw [List.length_map, List.length_map]; exact hl) fun q H' G' X d => k q H' G' X (by rw [List.map_append]; exact d)
end
theorem new_lst4 {H G : Hp} {q : Addr} {xs : List V} {ds : List PyData} (s : Same G H) (hp : H q = none) (da : DA G xs ds) : ∃ G', Xt none H G (upd H q (.lst xs)) G' ∧ D G' (.ref q) (.list ds) := ⟨_, Xt.new s hp, .lst upd_same (da.mono (upd_same_ (s.free hp)))⟩
theorem one_da {G : Hp} (z : Str) : DA G [.str z] ([z].map .str) := .one (.str z)
theorem one_str {G H : Hp} {z : Str} {p : Addr} (s : Same G H) (hp : H p = none) : D (upd G p (.lst [.str z])) (.ref p) (.list ([z].map .str)) := .lst upd_same (.one (.str z))
theorem lSpoilt {f : Addr} {fd : FuncData} (F : C8.Def K mg "_law_spoilt" s__law_spoilt f fd) (b : Binds K fd P__law_spoilt []) (T : Names K mg) (c__law_take : C8.Cal P w K mg base 1 "_law_take" SpTake []) (c__law_of : C8.Cal P w K mg base 2 "_law_of" SpOf []) : C8.Cal P w K mg base 3 "_law_spoilt" Spoilt [] := by
  refine C8.cal0 (N := N__law_spoilt) F b .nil sc__law_spoilt (fun vs H Q E h => ?_) (fun cdv A outer s H vs Q E hr h => ?_)
  · obtain ⟨b, p, m, c, l, ms, G, rfl, _⟩ := h.ex
    rfl
  · obtain ⟨b, p, m, c, l, ms, G, rfl, dl, dm, l0, l1, m0, m1, hB, hc, gb, sG, k⟩ := h.ex
    have hu := hu_of hr
    refine ⟨_, (pss_cons (ps_par (i := 3) (j := 4) (by rfl) sc__law_spoilt.nd rfl rfl (by decide) rfl rfl (pa_cons (C8.pe_c c__law_take hr (by decide) rfl (pa_cons (pv 0) (pa_cons (pe_callB call_len_seq (by rfl) T.n_len PySem.boot_len (pa_cons (pv 1) pa_nil)) pa_nil))) (pa_cons (C8.pe_c c__law_of hr (by decide) rfl (pa_cons (pv 0) (pa_cons (pv 2) pa_nil))) pa_nil)) (by rfl))
 (pss_cons (ps_set (i := 5) sc__law_spoilt.nd rfl (Or.inl rfl) (pe_lst (pa_cons (pe_op op_cat (pe_slice (sl_listK (K := K) rfl) (pv 1) po_none (po_some (pv 3))) (pe_slice (sl_listK (K := K) rfl) (pv 1) (po_some (pe_op op_add (pv 3) pe_int)) po_none)) (pa_cons (pe_op op_cat (pe_slice (sl_listK (K := K) rfl) (pv 1) po_none (po_some (pe_op op_add (pv 3) pe_int))) (pe_slice (sl_listK (K := K) rfl) (pv 1) (po_some (pv 3)) po_none)) (pa_cons (pe_op op_cat (pe_op op_cat (pe_slice (sl_listK (K := K) rfl) (pv 1) po_none (po_some (pv 3))) (pe_lst (pa_cons (pv 4) pa_nil))) (pe_slice (sl_listK (K := K) rfl) (pv 1) (po_some (pe_op op_add (pv 3) pe_int)) po_none)) pa_nil)))))
 (pss_cons (ps_set (i := 5) sc__law_spoilt.nd rfl (Or.inl rfl) (pe_op op_cat (pv 5) (pe_lst (pa_cons (pe_op op_cat (pe_op op_cat (pe_slice (sl_listK (K := K) rfl) (pv 1) po_none (po_some (pv 3))) (pe_lst (pa_cons (pv 4) pa_nil))) (pe_slice (sl_listK (K := K) rfl) (pv 1) (po_some (pv 3)) po_none)) (pa_cons (pe_slice (sl_listK (K := K) rfl) (pv 1) po_none (po_some (pe_op op_add (pv 3) pe_int))) (pa_cons (pe_op op_cat (pv 1) (pe_lst (pa_cons (pv 4) pa_nil))) pa_nil))))))
 (pss_one (ps_ret (C8.pe_c c__law_of hr (by decide) rfl (pa_cons (pv 0) (pa_cons (pv 5) pa_nil)))))))), ?_⟩
    obtain ⟨p_, xs, e0, gp, da⟩ := id dl.list_inv
    cases e0
    have lx := da.length
    rw [List.length_map] at lx
    refine ⟨_, rfl, _, rfl, p, xs, rfl, .inl (SqL.of (sG _ _ gp)), take_step (Xt.refl sG) gb hB (by omega) ⟨by omega, by omega⟩ fun r H1 r0 r1 X1 hB1 _ => ?_⟩
    refine ⟨_, rfl, _, rfl, of_data X1 gb hB1 (by omega) dm (by rw [List.length_map]; omega) fun v d H2 hd dv X2 hB2 => ?_⟩
    obtain ⟨o, ho, rfl⟩ := List.mem_map.mp hd
    cases dv
    refine ⟨_, _, rfl, ?_⟩
    have rn : (r + 1).toNat = r.toNat + 1 := by omega
    -- what is drawn from
    have lt : ∀ n, (l.take n).length ≤ n ∧ (l.take n).length ≤ l.length := fun n => by rw [List.length_take]; omega
    have ld : ∀ n, (l.drop n).length = l.length - n := fun n => List.length_drop ..
    have L1 := lt r.toNat
    have L2 := lt (r.toNat + 1)
    have L3 := ld r.toNat
    have L4 := ld (r.toNat + 1)
    have hB3 := hB2
    refine ⟨_, rfl, tNoPart_ ⟨_, rfl, _, rfl, ?_⟩⟩
    refine sl_take dl X2.sub (by omega) fun q3 H3 G3 X3 d3 => ?_
    replace dl := dl.mono X3.gg
    replace X2 := X2.trans X3.of
    replace hB3 := hB3.keep X3
    clear X3
    refine ⟨_, rfl, _, rfl, _, _, rfl, rfl, _, rfl, tNoPart_ ?_⟩
    refine sl_drop dl X2.sub (by omega) fun q4 H4 G4 X4 d4 => ?_
    replace dl := dl.mono X4.gg
    replace d3 := d3.mono X4.gg
    replace X2 := X2.trans X4.of
    replace hB3 := hB3.keep X4
    clear X4
    rw [rn] at d4
    refine cat_strs d3 d4 X2.sub (by (try simp only [List.length_append, List.length_singleton]); omega) fun q5 H5 G5 X5 d5 => ?_
    replace dl := dl.mono X5.gg
    replace d3 := d3.mono X5.gg
    replace d4 := d4.mono X5.gg
    replace X2 := X2.trans X5.of
    replace hB3 := hB3.keep X5
    clear X5
    refine ⟨_, rfl, tNoPart_ ⟨_, rfl, _, _, rfl, rfl, _, rfl, ?_⟩⟩
    refine sl_take dl X2.sub (by omega) fun q6 H6 G6 X6 d6 => ?_
    replace dl := dl.mono X6.gg
    replace d5 := d5.mono X6.gg
    replace X2 := X2.trans X6.of
    replace hB3 := hB3.keep X6
    clear X6
    rw [rn] at d6
    refine ⟨_, rfl, _, rfl, _, rfl, tNoPart_ ?_⟩
    refine sl_drop dl X2.sub (by omega) fun q7 H7 G7 X7 d7 => ?_
    replace dl := dl.mono X7.gg
    replace d5 := d5.mono X7.gg
    replace d6 := d6.mono X7.gg
    replace X2 := X2.trans X7.of
    replace hB3 := hB3.keep X7
    clear X7
    refine cat_strs d6 d7 X2.sub (by (try simp only [List.length_append, List.length_singleton]); omega) fun q8 H8 G8 X8 d8 => ?_
    replace dl := dl.mono X8.gg
    replace d5 := d5.mono X8.gg
    replace d6 := d6.mono X8.gg
    replace d7 := d7.mono X8.gg
    replace X2 := X2.trans X8.of
    replace hB3 := hB3.keep X8
    clear X8
    refine ⟨_, rfl, tNoPart_ ⟨_, rfl, _, rfl, ?_⟩⟩
    refine sl_take dl X2.sub (by omega) fun q9 H9 G9 X9 d9 => ?_
    replace dl := dl.mono X9.gg
    replace d5 := d5.mono X9.gg
    replace d8 := d8.mono X9.gg
    replace X2 := X2.trans X9.of
    replace hB3 := hB3.keep X9
    clear X9
    refine ⟨_, rfl, ?_⟩
    refine ⟨(by show 1 ≤ sizeLine; decide), fun p10 hp10 => ?_⟩
    obtain ⟨G10, X10, d10⟩ := new_lst4 X2.sub hp10 (one_da o)
    generalize upd H9 p10 _ = H10 at X10 ⊢
    replace dl := dl.mono X10.gg
    replace d5 := d5.mono X10.gg
    replace d8 := d8.mono X10.gg
    replace d9 := d9.mono X10.gg
    replace X2 := X2.trans X10.of
    replace hB3 := hB3.keep X10
    clear X10
    refine cat_strs d9 d10 X2.sub (by (try simp only [List.length_append, List.length_singleton]); omega) fun q11 H11 G11 X11 d11 => ?_
    replace dl := dl.mono X11.gg
    replace d5 := d5.mono X11.gg
    replace d8 := d8.mono X11.gg
    replace d9 := d9.mono X11.gg
    replace d10 := d10.mono X11.gg
    replace X2 := X2.trans X11.of
    replace hB3 := hB3.keep X11
    clear X11
    refine ⟨_, rfl, _, rfl, _, _, rfl, rfl, _, rfl, tNoPart_ ?_⟩
    refine sl_drop dl X2.sub (by omega) fun q12 H12 G12 X12 d12 => ?_
    replace dl := dl.mono X12.gg
    replace d5 := d5.mono X12.gg
    replace d8 := d8.mono X12.gg
    replace d11 := d11.mono X12.gg
    replace X2 := X2.trans X12.of
    replace hB3 := hB3.keep X12
    clear X12
    rw [rn] at d12
    refine cat_strs d11 d12 X2.sub (by (try simp only [List.length_append, List.length_singleton]); omega) fun q13 H13 G13 X13 d13 => ?_
    replace dl := dl.mono X13.gg
    replace d5 := d5.mono X13.gg
    replace d8 := d8.mono X13.gg
    replace d11 := d11.mono X13.gg
    replace d12 := d12.mono X13.gg
    replace X2 := X2.trans X13.of
    replace hB3 := hB3.keep X13
    clear X13
    refine ⟨(by show 3 ≤ sizeLine; decide), fun p14 hp14 => ?_⟩
    obtain ⟨G14, X14, d14⟩ := new_lst4 X2.sub hp14 (.cons d5 (.cons d8 (.one d13)))
    generalize upd H13 p14 _ = H14 at X14 ⊢
    replace dl := dl.mono X14.gg
    replace d5 := d5.mono X14.gg
    replace d8 := d8.mono X14.gg
    replace d13 := d13.mono X14.gg
    replace X2 := X2.trans X14.of
    replace hB3 := hB3.keep X14
    clear X14
    refine ⟨_, rfl, ?_⟩
    refine ⟨_, rfl, tNoPart_ ⟨_, rfl, _, rfl, ?_⟩⟩
    refine sl_take dl X2.sub (by omega) fun q15 H15 G15 X15 d15 => ?_
    replace dl := dl.mono X15.gg
    replace d14 := d14.mono X15.gg
    replace X2 := X2.trans X15.of
    replace hB3 := hB3.keep X15
    clear X15
    refine ⟨_, rfl, ?_⟩
    refine ⟨(by show 1 ≤ sizeLine; decide), fun p16 hp16 => ?_⟩
    obtain ⟨G16, X16, d16⟩ := new_lst4 X2.sub hp16 (one_da o)
    generalize upd H15 p16 _ = H16 at X16 ⊢
    replace dl := dl.mono X16.gg
    replace d14 := d14.mono X16.gg
    replace d15 := d15.mono X16.gg
    replace X2 := X2.trans X16.of
    replace hB3 := hB3.keep X16
    clear X16
    refine cat_strs d15 d16 X2.sub (by (try simp only [List.length_append, List.length_singleton]); omega) fun q17 H17 G17 X17 d17 => ?_
    replace dl := dl.mono X17.gg
    replace d14 := d14.mono X17.gg
    replace d15 := d15.mono X17.gg
    replace d16 := d16.mono X17.gg
    replace X2 := X2.trans X17.of
    replace hB3 := hB3.keep X17
    clear X17
    refine ⟨_, rfl, _, rfl, _, rfl, tNoPart_ ?_⟩
    refine sl_drop dl X2.sub (by omega) fun q18 H18 G18 X18 d18 => ?_
    replace dl := dl.mono X18.gg
    replace d14 := d14.mono X18.gg
    replace d17 := d17.mono X18.gg
    replace X2 := X2.trans X18.of
    replace hB3 := hB3.keep X18
    clear X18
    refine cat_strs d17 d18 X2.sub (by (try simp only [List.length_append, List.length_singleton]); omega) fun q19 H19 G19 X19 d19 => ?_
    replace dl := dl.mono X19.gg
    replace d14 := d14.mono X19.gg
    replace d17 := d17.mono X19.gg
    replace d18 := d18.mono X19.gg
    replace X2 := X2.trans X19.of
    replace hB3 := hB3.keep X19
    clear X19
    refine ⟨_, rfl, tNoPart_ ⟨_, rfl, _, _, rfl, rfl, _, rfl, ?_⟩⟩
    refine sl_take dl X2.sub (by omega) fun q20 H20 G20 X20 d20 => ?_
    replace dl := dl.mono X20.gg
    replace d14 := d14.mono X20.gg
    replace d19 := d19.mono X20.gg
    replace X2 := X2.trans X20.of
    replace hB3 := hB3.keep X20
    clear X20
    rw [rn] at d20
    refine ⟨_, rfl, ?_⟩
    refine ⟨_, rfl, ?_⟩
    refine ⟨(by show 1 ≤ sizeLine; decide), fun p21 hp21 => ?_⟩
    obtain ⟨G21, X21, d21⟩ := new_lst4 X2.sub hp21 (one_da o)
    generalize upd H20 p21 _ = H21 at X21 ⊢
    replace dl := dl.mono X21.gg
    replace d14 := d14.mono X21.gg
    replace d19 := d19.mono X21.gg
    replace d20 := d20.mono X21.gg
    replace X2 := X2.trans X21.of
    replace hB3 := hB3.keep X21
    clear X21
    refine cat_strs dl d21 X2.sub (by (try simp only [List.length_append, List.length_singleton]); omega) fun q22 H22 G22 X22 d22 => ?_
    replace dl := dl.mono X22.gg
    replace d14 := d14.mono X22.gg
    replace d19 := d19.mono X22.gg
    replace d20 := d20.mono X22.gg
    replace d21 := d21.mono X22.gg
    replace X2 := X2.trans X22.of
    replace hB3 := hB3.keep X22
    clear X22
    refine ⟨(by show 3 ≤ sizeLine; decide), fun p23 hp23 => ?_⟩
    obtain ⟨G23, X23, d23⟩ := new_lst4 X2.sub hp23 (.cons d19 (.cons d20 (.one d22)))
    generalize upd H22 p23 _ = H23 at X23 ⊢
    replace dl := dl.mono X23.gg
    replace d14 := d14.mono X23.gg
    replace d19 := d19.mono X23.gg
    replace d20 := d20.mono X23.gg
    replace d22 := d22.mono X23.gg
    replace X2 := X2.trans X23.of
    replace hB3 := hB3.keep X23
    clear X23
    refine catL_data d14 d23 X2.sub (by show 3 + 3 ≤ 100000; decide) fun q24 H24 G24 X24 d24 => ?_
    replace X2 := X2.trans X24.of
    replace hB3 := hB3.keep X24
    obtain ⟨sa, sx, rfl, gs, ds⟩ := id d24.list_inv
    refine ⟨_, rfl, _, rfl, of_data X2 (X2.non hB.ne gb) hB3 (by omega) d24 (by show 0 < 6 ∧ 6 ≤ 1000; decide) fun v d Hz hd dv Xz hBz => ?_⟩
    have hd : d ∈ [l.take r.toNat ++ l.drop (r.toNat + 1), l.take (r.toNat + 1) ++ l.drop r.toNat, l.take r.toNat ++ [o] ++ l.drop (r.toNat + 1), l.take r.toNat ++ [o] ++ l.drop r.toNat, l.take (r.toNat + 1), l ++ [o]].map (fun z => PyData.list (z.map .str)) := hd
    obtain ⟨l', hl', rfl⟩ := List.mem_map.mp hd
    obtain ⟨va, _, rfl, _, _⟩ := id dv.list_inv
    refine k va l' Hz _ Xz (hBz.mono (by omega)) dv ?_ ?_
    · simp only [List.mem_cons, List.mem_nil_iff, or_false] at hl'
      rcases hl' with rfl | rfl | rfl | rfl | rfl | rfl <;> (try simp only [List.length_append, List.length_singleton]) <;> omega
    · intro z hz
      have tk : ∀ {n}, z ∈ l.take n → z ∈ l := fun h => List.mem_of_mem_take h
      have dr : ∀ {n}, z ∈ l.drop n → z ∈ l := fun h => List.mem_of_mem_drop h
      simp only [List.mem_cons, List.mem_nil_iff, or_false] at hl'
      have hz : z ∈ l ∨ z = o := by
        rcases hl' with rfl | rfl | rfl | rfl | rfl | rfl <;> (try simp only [List.mem_append, List.mem_singleton] at hz)
        · exact .inl (hz.elim tk dr)
        · exact .inl (hz.elim tk dr)
        · exact hz.elim (fun h => h.elim (fun h => .inl (tk h)) .inr) (fun h => .inl (dr h))
        · exact hz.elim (fun h => h.elim (fun h => .inl (tk h)) .inr) (fun h => .inl (dr h))
        · exact .inl (tk hz)
        · exact hz
      rcases hz with h | rfl
      · exact .inl h
      · exact .inr ho
end
end Nw
namespace Nw
open PySem L2 PySem.Spec PyProof.Rows RZ
/-! the law k04: a text that may be a condition -/
def MORE1 : List Str := ["and", "or", "not", "(", ")", "=", "!=", "<", ">=", "+", "-", "true", "name", "where", "k", "0", "7", "999"]
def MORE2 (z : Str) : List Str := ["1000", "00", "01", "!", "A", "_", ",", ".", "abcdefghi", "other", z, "nothing"]
def Ok4 (z : Str) : Prop := (1 ≤ z.length ∧ z.length ≤ 10) ∧ (PyData.str z).canLay0 = true
instance (z : Str) : Decidable (Ok4 z) := inferInstanceAs (Decidable (_ ∧ _))
theorem more1_ok : ∀ z ∈ MORE1, Ok4 z := by decide +kernel
theorem more2_ok (n : Str) (h : Ok4 n) : ∀ z ∈ MORE2 n, Ok4 z := by
  have e : ∀ z ∈ (["1000", "00", "01", "!", "A", "_", ",", ".", "abcdefghi", "other", "nothing"] : List Str), Ok4 z := by decide +kernel
  intro z hz
  simp only [MORE2, List.mem_cons, List.mem_nil_iff, or_false] at hz
  rcases hz with rfl | rfl | rfl | rfl | rfl | rfl | rfl | rfl | rfl | rfl | rfl | rfl
  all_goals first | exact h | exact e _ (by simp)
theorem n10_ok : ∀ z ∈ n10, Ok4 z := by decide +kernel
theorem gd_ok {z : Str} (g : Gd z) : Ok4 z := by
  have hL : ∀ c ∈ LET.cps.toList, c < 0x110000 := by decide +kernel
  have hD : ∀ c ∈ DIG.cps.toList, c < 0x110000 := by decide +kernel
  have hS : ∀ z ∈ SGN, (PyData.str z).canLay0 = true ∧ 1 ≤ z.length := by decide +kernel
  have key : (∀ c ∈ z.cps.toList, c < 0x110000) → (PyData.str z).canLay0 = true := fun h => by
    show (z.cps.all fun c => decide (c < 0x110000)) = true
    rw [← Array.all_toList, List.all_eq_true]
    exact fun c hc => decide_eq_true (h c hc)
  have l8 := g.len
  have pos : z.cps.toList ≠ [] → 1 ≤ z.length := fun h => by
    rw [str_len]
    exact List.length_pos_iff.mpr h
  cases g.gt with
  | let_ n h => exact ⟨⟨pos n, by omega⟩, key fun c hc => hL c (h c hc)⟩
  | dig n h => exact ⟨⟨pos n, by omega⟩, key fun c hc => hD c (h c hc)⟩
  | sgn h => exact ⟨⟨(hS z h).2, by omega⟩, (hS z h).1⟩
theorem cut_take_len (z : Str) (m : Nat) : (cutS z none (some (m : Int))).length ≤ m := by
  unfold cutS
  rw [HT.sIx_none, HT.sIx_nat, str_len]
  show (List.take _ (List.drop 0 z.cps.toList)).length ≤ m
  rw [List.length_take]; omega
theorem cut_drop_len (z : Str) (m : Nat) (h : m ≤ z.length) : (cutS z (some (m : Int)) none).length ≤ z.length - m := by
  unfold cutS
  rw [HT.sIx_none, HT.sIx_nat, str_len]
  show (List.take _ (List.drop _ z.cps.toList)).length ≤ _
  rw [List.length_take]; omega
def spLText : Sp := fun vs H Q _ => ∃ (b a : Addr) (c : Int) (cs : List V) (cols : List Col) (G : Hp), vs = [.ref b, .ref a] ∧ G a = some (.lst cs) ∧ DA G cs (dCols cols) ∧ Good n10 cols ∧ Bag H b c ∧ c ≤ 50000 ∧ G b = none ∧ Same G H ∧
  ∀ (z : Str) (H' G' : Hp), Xt (some b) H G H' G' → Bag H' b (c + 200) → z.length ≤ 300 → Q (.str z) H'
section
variable {P : Program} {w : World} {K : PySem.W.Frag} {mg : Str → Option Value} {base : Heap}
theorem lText {f : Addr} {fd : FuncData} (F : C8.Def K mg "_law_text" s__law_text f fd) (b : Binds K fd P__law_text []) (T : Names K mg)
    (c__law_take : C8.Cal P w K mg base 1 "_law_take" SpTake []) (c__law_of : C8.Cal P w K mg base 2 "_law_of" SpOf []) (c__law_tree : C8.Cal P w K mg base 5 "_law_tree" (spTree 1) []) (c__law_tokens : C8.Cal P w K mg base 3 "_law_tokens" (spTokens 1) []) (c__law_spaced : C8.Cal P w K mg base 3 "_law_spaced" SpacedA [])
    (c__law_spoilt : C8.Cal P w K mg base 3 "_law_spoilt" Spoilt []) : C8.Cal P w K mg base 6 "_law_text" spLText [] := by
  refine C8.cal0 (N := N__law_text) F b .nil sc__law_text (fun vs H Q E h => ?_) (fun cdv A outer s H vs Q E hr h => ?_)
  · obtain ⟨b, a, c, cs, cols, G, rfl, _⟩ := h
    rfl
  · obtain ⟨b, a, c, cs, cols, G, rfl, ga, dac, good, hB, hc, gb, sG, k⟩ := h
    have good11_ := good11 good
    have hu := hu_of hr
    refine ⟨_, (pss_cons (ps_set (i := 2) sc__law_text.nd rfl (Or.inl rfl) (C8.pe_c c__law_tokens hr (by decide) rfl (pa_cons (C8.pe_c c__law_tree hr (by decide) rfl (pa_cons (pv 0) (pa_cons (pv 1) (pa_cons (C8.pe_c c__law_take hr (by decide) rfl (pa_cons (pv 0) (pa_cons pe_int pa_nil))) pa_nil)))) (pa_cons (pv 1) (pa_cons pe_str pa_nil)))))
 (pss_cons (ps_set (i := 3) sc__law_text.nd rfl (Or.inl rfl) (pe_lst (pa_cons pe_str (pa_cons pe_str (pa_cons pe_str (pa_cons pe_str (pa_cons pe_str (pa_cons pe_str (pa_cons pe_str (pa_cons pe_str (pa_cons pe_str (pa_cons pe_str (pa_cons pe_str (pa_cons pe_str (pa_cons pe_str (pa_cons pe_str (pa_cons pe_str (pa_cons pe_str (pa_cons pe_str (pa_cons pe_str pa_nil))))))))))))))))))))
 (pss_cons (ps_set (i := 3) sc__law_text.nd rfl (Or.inl rfl) (pe_op op_cat (pv 3) (pe_lst (pa_cons pe_str (pa_cons pe_str (pa_cons pe_str (pa_cons pe_str (pa_cons pe_str (pa_cons pe_str (pa_cons pe_str (pa_cons pe_str (pa_cons pe_str (pa_cons pe_str (pa_cons (pe_ix ix_tup (pe_ix ix_list (pv 1) pe_int (fun _ _ => rfl)) pe_int (fun _ _ => rfl)) (pa_cons pe_str pa_nil)))))))))))))))
 (pss_cons (ps_for PassesOwn.never rfl (pi_range1 rfl T.n_range (pa_cons (C8.pe_c c__law_take hr (by decide) rfl (pa_cons (pv 0) (pa_cons pe_int pa_nil))) pa_nil)) (pg_name (i := 4) sc__law_text.nd rfl (Or.inl rfl)) (pss_one (ps_set (i := 2) sc__law_text.nd rfl (Or.inl rfl) (C8.pe_c c__law_spoilt hr (by decide) rfl (pa_cons (pv 0) (pa_cons (pe_ifExp (pt_cmpR (op_neD hr.units) (pv 2) (pe_lst pa_nil) (nomark _)) (pv 2) (pe_lst (pa_cons pe_str pa_nil))) (pa_cons (pv 3) pa_nil)))))))
 (pss_cons (ps_set (i := 5) sc__law_text.nd rfl (Or.inl rfl) (C8.pe_c c__law_spaced hr (by decide) rfl (pa_cons (pv 0) (pa_cons (pe_lc (own := [("_law_token", 6)]) (g := (gName 6)) rfl sc__law_text.nd (pi_list (pv 2)) (blkOk_by (own := [("_law_token", 6)]) (N := N__law_text) (sc := C8.fnScope s__law_text) (by decide +kernel)) (fun _ _ _ _ _ => (pg_name (i := 6) sc__law_text.nd rfl (Or.inl rfl))) (fun _ _ _ _ _ => (pts_one (pt_cmpR op_ne (pv 6) pe_str (nomark _)))) (fun _ _ _ _ _ => (pv 6))) pa_nil))))
 (C8.pss_cut (ps_if (pt_cmpR op_eq (C8.pe_c c__law_take hr (by decide) rfl (pa_cons (pv 0) (pa_cons pe_int pa_nil))) pe_int (nomark _)) (pss_cons (ps_set (i := 7) sc__law_text.nd rfl (Or.inl rfl) (C8.pe_c c__law_take hr (by decide) rfl (pa_cons (pv 0) (pa_cons (pe_op op_add (pe_callB call_len_str (by rfl) T.n_len PySem.boot_len (pa_cons (pv 5) pa_nil)) pe_int) pa_nil))))
 (pss_one (ps_set (i := 5) sc__law_text.nd rfl (Or.inl rfl) (C8.pe_c c__law_of hr (by decide) rfl (pa_cons (pv 0) (pa_cons (pe_lst (pa_cons (pe_slice sl_str (pv 5) po_none (po_some (pv 7))) (pa_cons (pe_op op_add_str (pe_op op_add_str (pe_slice sl_str (pv 5) po_none (po_some (pv 7))) (C8.pe_c c__law_of hr (by decide) rfl (pa_cons (pv 0) (pa_cons (pe_lst (pa_cons pe_str (pa_cons pe_str (pa_cons pe_str (pa_cons pe_str (pa_cons pe_str (pa_cons pe_str (pa_cons pe_str (pa_cons pe_str pa_nil))))))))) pa_nil)))) (pe_slice sl_str (pv 5) (po_some (pv 7)) po_none)) pa_nil))) pa_nil)))))) pss_nil)
 (pss_one (ps_ret (pv 5))))))))), ?_⟩
    have c3 : costT 1 = 65 := rfl
    refine ⟨_, rfl, _, rfl, _, rfl, take_step (n := 2) (Xt.refl sG) gb hB (by omega) (by decide) fun dp H1 d0 d1 X1 hB1 _ => ?_⟩
    refine ⟨b, a, _, dp, cs, cols, G, rfl, d0, by omega, ga, dac, good, hB1, by omega, gb, X1.sub, fun p t H2 G2 X2 hB2 ok dep dt => ?_⟩
    have Y2 := X1.trans X2
    refine ⟨_, rfl, p, a, "", t, cs, cols, G2, rfl, dt, ok, dep, X2.gg _ _ ga, dac.mono X2.gg, good, X2.sub, fun q H3 G3 X3 dq => ?_⟩
    have Y3 := Y2.trans X3.of
    have hB3 := hB2.keep X3
    obtain ⟨q_, ts3, rfl, hq3, da3⟩ := id dq.list_inv
    have tg := tree_gd good11_ t "" ok
    have t17 : (tokT cols t "").length ≤ 17 := Nat.le_trans tg.2.2 (Nat.le_trans (tokN_mono dep) (by decide))
    have tok : ∀ z ∈ tokT cols t "", Ok4 z := fun z hz => gd_ok (tg.1 z hz)
    -- more
    refine ⟨(by show 18 ≤ sizeLine; decide), fun m1 hm1 => ?_⟩
    obtain ⟨G4, X4, dm1⟩ := new_lst4 (ds := MORE1.map .str) Y3.sub hm1 (DA.ofStrs MORE1)
    have dq4 := dq.mono X4.gg
    replace Y3 := Y3.trans X4.of
    replace hB3 := hB3.keep X4
    have ga4 := Y3.gg _ _ ga
    have lcs := dac.length
    rw [dCols, List.length_map] at lcs
    have l1 := good.len.1
    have h0 : cs[0]? = some (cs[0]'(by omega)) := List.getElem?_eq_getElem _
    obtain ⟨c0, t0, hc0, et0, ht0⟩ := cols_at (dac.mono Y3.gg) h0
    rw [et0] at h0
    have o0 : Ok4 c0.1 := n10_ok _ (good.names c0 (List.mem_of_getElem? hc0))
    refine ⟨_, rfl, _, rfl, a, cs, 0, _, rfl, rfl, SqL.of (Y3.sub _ _ ga4), atI_nat (j := 0) h0, t0, _, 0, _, rfl, rfl, SqT.of (Y3.sub _ _ ht0), rfl, (by show 12 ≤ sizeLine; decide), fun m2 hm2 => ?_⟩
    obtain ⟨G5, X5, dm2⟩ := new_lst4 (ds := (MORE2 c0.1).map .str) Y3.sub hm2 (DA.ofStrs (MORE2 c0.1))
    replace dq4 := dq4.mono X5.gg
    replace dm1 := dm1.mono X5.gg
    replace Y3 := Y3.trans X5.of
    replace hB3 := hB3.keep X5
    refine cat_strs dm1 dm2 Y3.sub (by show 18 + 12 ≤ 100000; decide) fun q6 H6 G6 X6 dm => ?_
    replace dq4 := dq4.mono X6.gg
    replace Y3 := Y3.trans X6.of
    replace hB3 := hB3.keep X6
    have mok : ∀ z ∈ MORE1 ++ MORE2 c0.1, Ok4 z := fun z hz => (List.mem_append.mp hz).elim (more1_ok z) (more2_ok _ o0 z)
    have mlen : (MORE1 ++ MORE2 c0.1).length = 30 := rfl
    generalize MORE1 ++ MORE2 c0.1 = MO at dm mok mlen
    obtain ⟨m_, mx, rfl, gm, dam⟩ := id dm.list_inv
    clear X1 X2 X3 X4 X5 X6 dm1 dm2 Y2 da3
    -- spoilt
    refine ⟨_, rfl, take_step (n := 3) Y3 (Y3.non hB.ne gb) hB3 (by omega) (by decide) fun tn H7 tn0 tn1 Y7 hB7 _ => ?_⟩
    have ga7 := Y7.gg _ _ ga
    refine ⟨_, rfl, by omega, by omega, ?_⟩
    refine for_range (n := tn.toNat) (fun i σ' H' => ∃ (G' : Hp) (v4 : Option V) (p : Addr) (l : List Str), σ' = [some (.ref b), some (.ref a), some (.ref p), some (.ref m_), v4, none, none, none] ∧ Xt (some b) H G H' G' ∧ Bag H' b (c + 67 + 3 * (i : Int)) ∧ D G' (.ref p) (.list (l.map .str)) ∧ D G' (.ref m_) (.list (MO.map .str)) ∧ l.length ≤ 17 + i ∧ ∀ z ∈ l, Ok4 z) ?_ ?_ ?_
    · exact ⟨_, none, q_, _, rfl, Y7, hB7.mono (by omega), dq4, dm, by omega, tok⟩
    · rintro i σ' H' hi ⟨G', v4, p, l, rfl, Y, hB8, dp, dm, ll, okl⟩
      have hi2 : i < 2 := by omega
      obtain ⟨p_, ps, e0, gp, dap⟩ := id dp.list_inv
      cases e0
      refine ⟨_, rfl, _, rfl, Nat.zero_le _, fun e0 he0 => ?_⟩
      have Z := Y.allocT (o := .lst []) he0
      refine ⟨.list (l.map .str), .list [], dp.dp Z.sub, .lst (SqL.of upd_same) .nil, strs_sh fun z hz => (okl z hz).2, nil_sh, _, rfl, ?_⟩
      rw [eqv_nil]
      have nbe : b ≠ e0 := fun e => hB8.ne (by rw [e]; exact he0)
      have hB9 := hB8.upd (o := .lst []) nbe
      generalize upd H' e0 (.lst []) = H9 at Z hB9 ⊢
      by_cases lz : l.map PyData.str = []
      · rw [decide_eq_true lz]
        refine iteF ⟨(by show 1 ≤ sizeLine; decide), fun tp htp => ?_⟩
        obtain ⟨Ga, Xa, da⟩ := new_lst4 Z.sub htp (one_da "true")
        refine ⟨_, rfl, ⟨b, tp, m_, _, ["true"], MO, Ga, rfl, da, dm.mono Xa.gg, by decide, by decide, by omega, by omega, hB9.keep Xa, by omega, (Z.trans Xa.of).non hB.ne gb, Xa.sub, fun q l' H' G' X hB' dq ln mem => ?_⟩⟩
        refine ⟨_, _, q, l', rfl, (Z.trans Xa.of).trans X, hB'.mono (by push_cast; omega), dq, (dm.mono Xa.gg).mono X.gg, by have : (["true"] : List Str).length = 1 := rfl; omega, fun z hz => ?_⟩
        rcases mem z hz with h | h
        · rw [List.mem_singleton.mp h]; decide +kernel
        · exact mok z h
      · rw [decide_eq_false lz]
        have lp : 0 < l.length := by
          rcases l with _ | ⟨x, l⟩
          · exact absurd rfl lz
          · simp
        refine iteT ⟨_, rfl, _, rfl, ⟨b, p, m_, _, l, MO, G', rfl, dp, dm, lp, by omega, by omega, by omega, hB9, by omega, Z.non hB.ne gb, Z.sub, fun q l' H' G' X hB' dq ln mem => ?_⟩⟩
        refine ⟨_, _, q, l', rfl, Z.trans X, hB'.mono (by push_cast; omega), dq, dm.mono X.gg, by omega, fun z hz => ?_⟩
        rcases mem z hz with h | h
        · exact okl z h
        · exact mok z h
    clear dq4 dm tok t17 tg hq3
    rintro σ' H8 ⟨G8, v4, p, l, rfl, Y, hB8, dp, dm, ll, okl⟩
    obtain ⟨p_, ps, e0, gp, dap⟩ := id dp.list_inv
    cases e0
    have lps := dap.length
    rw [List.length_map] at lps
    have eps := DA.strs dap
    subst eps
    have l19 : l.length ≤ 19 := by omega
    -- without empty ones
    refine ⟨_, rfl, _, rfl, p, rfl, ⟨_, SqL.of (Y.sub _ _ gp)⟩, fun Dl hD => ?_⟩
    have gD : G8 Dl = none := Y.sub.free hD
    refine lcf_it (walk_list (xs := l.map V.str)) (fun i H' => Xt none H8 G8 H' G8 ∧ H' Dl = some (.lst ((l.take i).map V.str))) ?_ ?_ ?_ ?_
    · exact ⟨(Xt.refl Y.sub).allocT hD, upd_same⟩
    · rintro i H' hi ⟨X3, _⟩
      exact SqL.of (X3.sub _ _ (X3.gg _ _ gp))
    · rintro i y H9_ H9 hi ⟨X3, h3⟩ ⟨rfl, hy⟩
      rw [List.getElem?_map] at hy
      obtain ⟨z, hz, rfl⟩ := Option.map_eq_some_iff.mp hy
      have nz : z ≠ "" := fun e => by
        have := (okl z (List.mem_of_getElem? hz)).1.1
        rw [e] at this
        exact absurd this (by decide +kernel)
      refine ⟨rfl, _, rfl, rfl, ?_⟩
      rw [es_, decide_eq_false nz]
      refine ⟨_, rfl, iteT ⟨_, rfl, _, h3, small_lt (by rw [List.length_map, List.length_take]; omega), X3.set hD gD, ?_⟩⟩
      rw [upd_same, take_succ_of hz, List.map_append]; rfl
    rintro H9 ⟨X9, h9⟩
    rw [List.length_map, List.take_of_length_le (Nat.le_refl _)] at h9
    have X10 := X9.fix hD h9
    have Y10 := Y.trans X10.of
    have g10 : upd G8 Dl (HO.lst (l.map V.str)) Dl = some (.lst (l.map V.str)) := upd_same
    generalize upd G8 Dl (HO.lst (l.map V.str)) = G10 at X10 Y10 g10
    refine ⟨⟨b, Dl, _, l, G10, rfl, g10, fun z hz => (okl z hz).1, by omega, hB8.keep X10, by omega, Y10.non hB.ne gb, Y10.sub, fun z H11 Y11 hB11 zl => ?_⟩⟩
    replace Y11 := Y10.trans Y11
    have g11 := Y11.non hB.ne gb
    refine ⟨fun σ2 H2 => ∃ (v7 : Option V) (z2 : Str) (G2 : Hp), σ2 = [some (.ref b), some (.ref a), some (.ref p), some (.ref m_), v4, some (.str z2), none, v7] ∧ Xt (some b) H G H2 G2 ∧ Bag H2 b (c + 200) ∧ z2.length ≤ 300, ?_, ?_⟩
    · refine ⟨_, rfl, take_step (n := 4) Y11 g11 hB11 (by omega) (by decide) fun r H12 r0 r1 Y12 hB12 _ => ⟨rfl, _, rfl, ?_⟩⟩
      rw [ei_]
      refine ite2 (fun _ => ?_) (fun _ => ?_)
      · refine ⟨_, rfl, _, rfl, z, rfl, small_line (by omega), _, _, rfl, rfl, take_step (n := (z.length : Int) + 1) Y12 g11 hB12 (by omega) ⟨by omega, by omega⟩ fun n H13 n0 n1 Y13 hB13 _ => ?_⟩
        obtain ⟨m, rfl⟩ : ∃ m : Nat, n = (m : Int) := ⟨n.toNat, by omega⟩
        have k1 := cut_take_len z m
        have k2 := cut_drop_len z m (by omega)
        refine ⟨_, rfl, _, rfl, tNoPart_ ⟨_, rfl, _, rfl, z, rfl, small_line (by omega), ?_⟩⟩
        refine ⟨_, rfl, tNoPart_ ⟨_, rfl, _, rfl, z, rfl, small_line (by omega), ?_⟩⟩
        refine ⟨_, rfl, (by show 8 ≤ sizeLine; decide), fun q1 hq1 => of_step [" ", "!", "=", "0", "a", "(", "Z", "~"] Y13 g11 hB13 (by omega) (by decide) hq1 fun y H14 hy Y14 hB14 _ => ?_⟩
        have y1 : y.length ≤ 1 := by
          have : ∀ y ∈ ([" ", "!", "=", "0", "a", "(", "Z", "~"] : List Str), y.length ≤ 1 := by decide +kernel
          exact this y hy
        have e1 : (cutS z none (some (m : Int)) ++ y).length = (cutS z none (some (m : Int))).length + y.length := by
          rw [str_len, str_app, List.length_append, ← str_len, ← str_len]
        have e2 : (cutS z none (some (m : Int)) ++ y ++ cutS z (some (m : Int)) none).length = (cutS z none (some (m : Int))).length + y.length + (cutS z (some (m : Int)) none).length := by
          rw [str_len, str_app, List.length_append, ← str_len, ← str_len, e1]
        refine ⟨_, _, rfl, rfl, small_line (by omega), ?_⟩
        refine ⟨_, rfl, _, rfl, _, rfl, tNoPart_ ⟨z, rfl, small_line (by omega), ?_⟩⟩
        refine ⟨_, _, rfl, rfl, small_line (by omega), ?_⟩
        refine ⟨(by show 2 ≤ sizeLine; decide), fun q2 hq2 => of_step [cutS z none (some (m : Int)), cutS z none (some (m : Int)) ++ y ++ cutS z (some (m : Int)) none] Y14 g11 hB14 (by omega) (by show 0 < 2 ∧ 2 ≤ 100; decide) hq2 fun y2 H15 hy2 Y15 hB15 _ => ?_⟩
        refine ⟨_, y2, _, rfl, Y15, hB15.mono (by omega), ?_⟩
        simp only [List.mem_cons, List.mem_nil_iff, or_false] at hy2
        rcases hy2 with rfl | rfl
        · omega
        · rw [e2]; omega
      · exact ⟨_, z, _, rfl, Y12, hB12.mono (by omega), by omega⟩
    · rintro σ2 H2 ⟨v7, z2, G2, rfl, Yf, hBf, zl2⟩
      exact ⟨_, rfl, k z2 H2 G2 Yf hBf zl2⟩
end
end Nw
namespace Nw
open PySem L2 PySem.Spec PyProof.Rows RZ
/-! Condition refused -/
def spCopI : Sp := fun vs H Q _ => ∃ i : Int, vs = [.int i] ∧ Q (.int i) H
/-- an error of C with this place -/
def FailI (E : XK) (C : Addr) (H G : Hp) (i : Int) : Prop := ∀ (H1 G1 : Hp) (d : Addr), Xt none H G H1 G1 → H1 d = none → E (.ref C) (some d) (upd H1 d (.xd [("at", .int i)]))
theorem FailI.mono {E : XK} {C : Addr} {H G H' G' : Hp} {i : Int} (f : FailI E C H G i) (X : Xt none H G H' G') : FailI E C H' G' i := fun H1 G1 d X1 hd => f H1 G1 d (X.trans X1) hd
theorem err_go {E : XK} {C : Addr} {H G : Hp} {i : Int} (f : FailI E C H G i) (sG : Same G H) (e : Addr) (he : H e = none) :
    spErrP C (.ref e :: ([.int i] ++ [])) (upd H e (exo e C none)) (fun v H2 => v = .non ∧ ∃ (d : Addr) (fs : List (Str × V)), H2 e = some (exo e C (some d)) ∧ H2 d = some (exd d fs) ∧ H d = none ∧ E (.ref C) (some d) (upd (del H2 e) d (.xd fs))) (fun _ _ _ => False) := by
  refine ⟨e, _, rfl, upd_same, fun dx hd ne => ⟨rfl, dx, [("at", .int i)], upd_same, by rw [upd_ne ne]; exact upd_same, ?_, ?_⟩⟩
  · rw [upd_ne ne] at hd; exact hd
  · rw [err_heap he ne]
    exact f H G dx (Xt.refl sG) (by rw [upd_ne ne] at hd; exact hd)
/-- what the top leaves of BadCondition -/
structure BC (P : Program) (w : World) (K : PySem.W.Frag) (mg : Str → Option Value) (base : Heap) (CB : Addr) : Prop where
  ex : ∃ (fB : Addr) (fdB : FuncData), OexC K CB ∧ PySem.W.findIn K (.ref CB) "__init__" = some (some (.ref fB)) ∧ PySem.W.typeIn K (.ref fB) = some (.type "function") ∧ FnOk P w K mg base C8.CX0 2 fB fdB P_BadCondition____init__ (spErrP CB) ∧ L2H.FnH P w K mg base C8.CX0 2 fB fdB P_BadCondition____init__ (spErrP CB) ∧ Binds K fdB P_BadCondition____init__ [] ∧ mg "BadCondition" = some (.ref CB)
/-- what must be known of WrongToken as it is caught -/
structure WC (K : PySem.W.Frag) (mg : Str → Option Value) (CW : Addr) : Prop where
  xf : XfC K CW
  nA : PySem.W.findIn K (.ref CW) "at" = some none
  gW : mg "WrongToken" = some (.ref CW)
  ex : PySem.W.exmOne K (.ref CW) (.ref CW) = some true
def noStr : PyData → Prop
  | .str _ => False
  | _ => True
def spCondXF (CT CC CB : Addr) : Sp := fun vs H Q E => ∃ (c dx x : Addr) (v : V) (d : PyData) (i : Int) (cols : List Col) (H0 G : Hp), vs = [.ref c, v, .ref x] ∧ H0 c = none ∧ H0 dx = none ∧ dx ≠ c ∧ H = upd (upd H0 dx (.own c)) c (.ins CC dx []) ∧ D G v d ∧ TabF CT G x cols ∧ Good n11 cols ∧ Same G H0 ∧
  ((noStr d ∧ i = -1) ∨ ∃ (z : Str) (n : Nat), d = .str z ∧ i = ((n : Nat) : Int) ∧ z.length ≤ 10000 ∧ (allToks z).length ≤ 400 ∧ (∀ t ∈ allToks z, t.1.length ≤ 600) ∧ RunStuck cols (2 ^ (allV (cols.map (·.2))).length - 1) (allToks z) 0 0 n) ∧ FailI E CB H0 G i
section
variable {P : Program} {w : World} {K : PySem.W.Frag} {mg : Str → Option Value} {base : Heap}
theorem copiedI {f : Addr} {fd : FuncData} (F : C8.Def K mg "copied" s_copied f fd) (b : Binds K fd P_copied []) (T : Names K mg) (n_dict : mg "dict" = none) : C8.Cal P w K mg base 1 "copied" spCopI [] := by
  refine C8.cal0 (N := N_copied) F b .nil sc_copied (fun vs H Q E h => ?_) (fun cdv A outer s H vs Q E hr h => ?_)
  · obtain ⟨v, rfl, _⟩ := h
    rfl
  · obtain ⟨i, rfl, k⟩ := h
    refine ⟨_, pss_cons (ps_if (pt_val (pe_callB call_isi (by rfl) T.n_isinstance (by decide +kernel) (pa_cons (pv 0) (pa_cons (pe_bltn (v := .ty "list") (u := .type "list") (by rfl) T.n_list (by decide +kernel) rfl) pa_nil)))) (pss_one ps_never) pss_nil)
      (pss_cons (ps_if (pt_val (pe_callB call_isi (by rfl) T.n_isinstance (by decide +kernel) (pa_cons (pv 0) (pa_cons (pe_bltn (v := .ty "tuple") (u := .type "tuple") (by rfl) T.n_tuple (by decide +kernel) rfl) pa_nil)))) (pss_one ps_never) pss_nil)
      (pss_cons (ps_if (pt_val (pe_callB call_isi (by rfl) T.n_isinstance (by decide +kernel) (pa_cons (pv 0) (pa_cons (pe_bltn (v := .ty "dict") (u := .type "dict") (by rfl) n_dict (by decide +kernel) rfl) pa_nil)))) (pss_one ps_never) pss_nil)
      (pss_one (ps_ret (pv 0))))), ?_⟩
    refine ⟨_, rfl, _, _, _, _, false, rfl, .ty _, .base (.int i), kit_ty (by decide +kernel), _, rfl, iteF ?_⟩
    refine ⟨_, rfl, _, _, _, _, false, rfl, .ty _, .base (.int i), kit_ty (by decide +kernel), _, rfl, iteF ?_⟩
    refine ⟨_, rfl, _, _, _, _, false, rfl, .ty _, .base (.int i), kit_ty (by decide +kernel), _, rfl, iteF ?_⟩
    exact ⟨_, rfl, k⟩
theorem copiedH {f : Addr} {fd : FuncData} (F : C8.Def K mg "copied" s_copied f fd) (T : Names K mg) (n_dict : mg "dict" = none) : L2H.FnH P w K mg base C8.CX0 1 f fd P_copied spCopI := by
  refine fnH0 (N := N_copied) F.fn sc_copied (fun vs H Q E h => ?_) (fun cdv A outer s H vs Q E p hot hr h => ?_)
  · obtain ⟨v, rfl, _⟩ := h
    rfl
  · obtain ⟨i, rfl, k⟩ := h
    refine ⟨_, pss_cons (ps_if (pt_val (pe_callB call_isi (by rfl) T.n_isinstance (by decide +kernel) (pa_cons (pv 0) (pa_cons (pe_bltn (v := .ty "list") (u := .type "list") (by rfl) T.n_list (by decide +kernel) rfl) pa_nil)))) (pss_one ps_never) pss_nil)
      (pss_cons (ps_if (pt_val (pe_callB call_isi (by rfl) T.n_isinstance (by decide +kernel) (pa_cons (pv 0) (pa_cons (pe_bltn (v := .ty "tuple") (u := .type "tuple") (by rfl) T.n_tuple (by decide +kernel) rfl) pa_nil)))) (pss_one ps_never) pss_nil)
      (pss_cons (ps_if (pt_val (pe_callB call_isi (by rfl) T.n_isinstance (by decide +kernel) (pa_cons (pv 0) (pa_cons (pe_bltn (v := .ty "dict") (u := .type "dict") (by rfl) n_dict (by decide +kernel) rfl) pa_nil)))) (pss_one ps_never) pss_nil)
      (pss_one (ps_ret (pv 0))))), ?_⟩
    refine ⟨_, rfl, _, _, _, _, false, rfl, .ty _, .base (.int i), kit_ty (by decide +kernel), _, rfl, iteF ?_⟩
    refine ⟨_, rfl, _, _, _, _, false, rfl, .ty _, .base (.int i), kit_ty (by decide +kernel), _, rfl, iteF ?_⟩
    refine ⟨_, rfl, _, _, _, _, false, rfl, .ty _, .base (.int i), kit_ty (by decide +kernel), _, rfl, iteF ?_⟩
    exact ⟨_, rfl, k⟩
theorem bcInit {f C : Addr} {fd : FuncData} (F : C8.Fun K "__init__" "BadCondition.__init__" s_BadCondition____init__ f fd) (OC : OexC K C) (nA : PySem.W.findIn K (.ref C) "at" = some none) (c_copied : C8.Cal P w K mg base 1 "copied" spCopI []) : FnOk P w K mg base C8.CX0 2 f fd P_BadCondition____init__ (spErrP C) := by
  refine C8.fn0 (N := N_BadCondition____init__) F sc_BadCondition____init__ (fun vs H Q E h => ?_) (fun cdv A outer s H vs Q E hr h => ?_)
  · obtain ⟨x, v, rfl, _⟩ := h
    rfl
  · obtain ⟨x, v, rfl, hx, k⟩ := h
    refine ⟨_, pss_one (ps_ost (pv 0) (C8.pe_c c_copied hr (by decide) rfl (pa_cons (pv 1) pa_nil))), ?_⟩
    exact ⟨_, rfl, v, rfl, _, rfl, x, C, rfl, OC, nA, .inl ⟨hx, fun dx hd ne => k dx hd ne⟩⟩
theorem bcInitH {f fC C : Addr} {fd fdC : FuncData} (F : C8.Fun K "__init__" "BadCondition.__init__" s_BadCondition____init__ f fd) (OC : OexC K C) (nA : PySem.W.findIn K (.ref C) "at" = some none) (FC : L2H.FnH P w K mg base C8.CX0 1 fC fdC P_copied spCopI) (gC : mg "copied" = some (.ref fC)) (kC : PySem.W.keepIn K (.ref fC) = true) (bC : Binds K fdC P_copied []) :
    L2H.FnH P w K mg base C8.CX0 2 f fd P_BadCondition____init__ (spErrP C) := by
  refine fnH0 (N := N_BadCondition____init__) F sc_BadCondition____init__ (fun vs H Q E h => ?_) (fun cdv A outer s H vs Q E p hot hr h => ?_)
  · obtain ⟨x, v, rfl, _⟩ := h
    rfl
  · obtain ⟨x, v, rfl, hx, k⟩ := h
    refine ⟨_, pss_one (ps_ost (pv 0) (L2H.pe_callH (E := fun _ => C8.E0) FC hr ⟨p, ⟨hot.1, hot.2⟩, List.mem_cons_self⟩ rfl gC kC bC (fun σ => fun _ _ _ _ _ _ h => h.elim) (pa_cons (pv 1) pa_nil))), ?_⟩
    exact ⟨_, rfl, v, rfl, _, rfl, x, C, rfl, OC, nA, .inl ⟨hx, fun dx hd ne => k dx hd ne⟩⟩
theorem cInitF {f CC CT CB CW : Addr} {fd : FuncData} (F : C8.Fun K "__init__" "Condition.__init__" s_Condition____init__ f fd) (T : Names K mg) (CF : CondC K CC) (BC_ : BC P w K mg base CB) (WC_ : WC K mg CW)
    (c_split_tokens : C8.Cal P w K mg base 3 "split_tokens" spSplit []) (c_read_condition : C8.Cal P w K mg base 6 "read_condition" (spReadCond P w CT) []) (x_read_condition : Xal P w K mg base 7 "read_condition" (spCondF CW CT)) (c_joined_tokens : C8.Cal P w K mg base 1 "joined_tokens" spJoin []) (c_Table__all_values : C8.Met P w K mg base 1 CT "all_values" (spAllValuesF CT) []) :
    FnOk P w K mg base (L2.CX P w) 8 f fd P_Condition____init__ (spCondXF CT CC CB) := by
  refine fnX (N := N_Condition____init__) F sc_Condition____init__ (fun vs H Q E h => ?_) (fun cdv A outer s H vs Q E hr h => ?_)
  · obtain ⟨c, dx, x, v, d, i, cols, H0, G, rfl, _⟩ := h
    rfl
  · obtain ⟨c, dx, x, v, d, i, cols, H0, G, rfl, nc, ndx, nec, hH, dv, tab, good, sG, what, fail⟩ := h
    obtain ⟨fB, fdB, OCB, iCB, tIB, FB, FHB, bB, gB⟩ := BC_.ex
    obtain ⟨XW, nW, gW, exW⟩ := WC_
    have hu := hu_of hr
    refine ⟨_, (pss_cons (ps_if (pt_not (pt_val (pe_callB call_isi (by rfl) T.n_isinstance (by decide +kernel) (pa_cons (pv 1) (pa_cons (pe_bltn (v := .ty "str") (u := .type "str") (by rfl) T.n_str (by decide +kernel) rfl) pa_nil))))) (pss_one (L2.ps_raise rfl (L2.takes_of rfl rfl rfl rfl) (L2.pmk_oex OCB iCB tIB FB (hr.mono (by decide)) bB .nil C8.pass0 rfl gB (pa_cons (pe_un un_neg pe_int) pa_nil)))) pss_nil)
 (pss_cons (ps_set (i := 3) sc_Condition____init__.nd rfl (Or.inl rfl) (C8.pe_c c_split_tokens hr (by decide) rfl (pa_cons (pv 1) pa_nil)))
 (pss_cons (ps_try_asX (i := 4) (tb := fun W => sFld K (tVar 0) (tCallO (spReadCond P w CT) (spCondF CW CT) (WE W) (tCons (tVar 3) (tCons (tVar 2) tNil))) "_meaning") (ts := fun a cls d => fun _ σ H => tMkO CB (spErrP CB) [] (tCons (tXf a cls d CW "at" (tVar 4)) tNil) σ H fun c2 d2 G2 => E c2 d2 G2) rfl rfl rfl sc_Condition____init__.nd rfl rfl ⟨rfl, by decide, Or.inl gW⟩ (L2.takes_of rfl rfl rfl rfl) (fun W pn xe tk _ => (pss_one (ps_fld (pv 0) (pe_callO c_read_condition x_read_condition hr (by decide) (by decide) rfl (fun σ => L2N.passAt tk σ) (by exact (pa_cons (pv 3) (pa_cons (pv 2) pa_nil)))) rfl))) (fun a oe cls d pn xe hz hf tk hot => (pss_one (L2H.ps_raiseHN hot tk (L2H.pmk5_oexH OCB iCB tIB FHB (L2H.roomH_mark (hr.mono (by decide)) _) hot bB C8.pass0 rfl gB (by exact (pa_cons (pe_ofNox (pe_xf XW nW hz hf (pv 4))) pa_nil)))))))
 (pss_cons (ps_fld (pv 0) (C8.pe_c c_joined_tokens hr (by decide) rfl (pa_cons (pv 3) pa_nil)) rfl)
 (pss_cons (ps_fld (pv 0) (pv 2) rfl)
 (pss_one (ps_fld (pv 0) (pe_frz (pe_tdc (g := (gTup K 2 (gCons (gName 5) (gCons (gName 6) gNil)))) (tt := tYes) (own := [("bit", 5), ("values", 6)]) hu rfl sc_Condition____init__.nd (pi_enum (by rfl) T.n_enumerate (pa_cons (C8.pe_mt0 c_Table__all_values hr (by decide) (pv 2)) pa_nil)) (blkOk_by (own := [("bit", 5), ("values", 6)]) (N := N_Condition____init__) (sc := C8.fnScope s_Condition____init__) (by decide +kernel)) (fun _ _ _ _ _ => (pg_tup rfl (pgs_cons (pg_name (i := 5) sc_Condition____init__.nd rfl (Or.inl rfl)) (pgs_cons (pg_name (i := 6) sc_Condition____init__.nd rfl (Or.inl rfl)) pgs_nil)))) (fun _ _ _ _ _ => pts_nil) (fun _ _ _ _ _ => (pv 6)) (fun _ _ _ _ _ => (pv 5)))) rfl))))))), ?_⟩
    have hdx0 : upd H0 dx (.own c) c = none := by rw [upd_ne nec.symm]; exact nc
    have X0 : Xt none H0 G H G := by rw [hH]; exact (Xt.tmp sG ndx).allocT hdx0
    clear hH hdx0
    have fail0 := fail.mono X0
    rcases what with ⟨ns, rfl⟩ | ⟨z, n, rfl, rfl, hz, hts, hsh, run⟩
    · have no : ∀ {q : V}, q = q → True := fun _ => trivial
      have bad : ∀ e, H e = none → spErrP CB (.ref e :: ([.int (-1)] ++ [])) (upd H e (exo e CB none)) (fun v H2 => v = .non ∧ ∃ (d : Addr) (fs : List (Str × V)), H2 e = some (exo e CB (some d)) ∧ H2 d = some (exd d fs) ∧ H d = none ∧ E (.ref CB) (some d) (upd (del H2 e) d (.xd fs))) (fun _ _ _ => False) := err_go fail0 X0.sub
      cases dv with
      | non => exact ⟨_, rfl, _, _, _, _, false, rfl, .ty _, .base .non, kit_ty (by decide +kernel), _, rfl, iteT ⟨_, rfl, (by show 1 ≤ 1000; decide), bad⟩⟩
      | bl q => exact ⟨_, rfl, _, _, _, _, false, rfl, .ty _, .base (.bl q), kit_ty (by decide +kernel), _, rfl, iteT ⟨_, rfl, (by show 1 ≤ 1000; decide), bad⟩⟩
      | int q => exact ⟨_, rfl, _, _, _, _, false, rfl, .ty _, .base (.int q), kit_ty (by decide +kernel), _, rfl, iteT ⟨_, rfl, (by show 1 ≤ 1000; decide), bad⟩⟩
      | str q => exact ns.elim
      | lst hh _ => exact ⟨_, rfl, _, _, _, _, false, rfl, .ty _, .base (.lst (X0.sub _ _ hh)), kit_ty (by decide +kernel), _, rfl, iteT ⟨_, rfl, (by show 1 ≤ 1000; decide), bad⟩⟩
      | tup hh _ => exact ⟨_, rfl, _, _, _, _, false, rfl, .ty _, .base (.tup (X0.sub _ _ hh)), kit_ty (by decide +kernel), _, rfl, iteT ⟨_, rfl, (by show 1 ≤ 1000; decide), bad⟩⟩
    · cases dv
      refine ⟨_, rfl, _, _, _, _, true, rfl, .ty _, .base (.str z), kit_ty (by decide +kernel), _, rfl, ?_⟩
      refine iteF ⟨_, rfl, z, G, rfl, hz, X0.sub, fun tk H1 G1 X1 dtk => ?_⟩
      have toks : Toks G1 tk (allToks z) := ⟨dtk, by omega, hsh⟩
      have fail1 := fail0.mono X1
      refine ⟨_, rfl, _, rfl, .inr ⟨tk, x, n, allToks z, cols, G1, rfl, toks, hts, tab.mono X1.gg, good, run, X1.sub, fun H2 G2 d X2 hd => ?_⟩⟩
      refine ⟨true, exW, fun _ a ha => ?_, fun q => by cases q⟩
      have X3 := X2.allocT (o := .xd [("at", .int ((n : Nat) : Int))]) hd
      have lk : List.lookup ("at" : Str) [(("at" : Str), V.int ((n : Nat) : Int))] = some (.int ((n : Nat) : Int)) := by simp [List.lookup]
      exact ⟨_, rfl, rfl, rfl, d, _, _, rfl, upd_same, lk, (by show 1 ≤ 1000; decide), fun e he => err_go (fail1.mono X3) X3.sub e he⟩
end
end Nw
namespace Nw
open PySem L2 PySem.Spec PyProof.Rows RZ
/-! the law k04: what is told of a text or of anything else -/
/-- what is told of data -/
def told4 (cs : List Str) : PyData → Option Int
  | .str z => (stuckL cs (allToks z) .atom 0).map fun n => ((n : Nat) : Int)
  | _ => some (-1)
def xdAt (i : Int) : HO := .xd [("at", .int i)]
def toldV : Option Int → V
  | none => .non
  | some i => .int i
def spTold4 (CT : Addr) : Sp := fun vs H Q _ => ∃ (x : Addr) (v : V) (d : PyData) (cols : List Col) (G : Hp), vs = [v, .ref x] ∧ D G v d ∧ (∀ z, d = .str z → z.length ≤ 350) ∧ TabF CT G x cols ∧ Good n11 cols ∧ Same G H ∧
  ∀ H' G', Xt none H G H' G' → Q (toldV (told4 (cols.map (·.1)) d)) H'
/-- the suite: what stands in it of the error at a -/
def tsTold (K : PySem.W.Frag) (CE CC CM CN : Addr) : Addr → Value → Option Addr → TS := fun a cls d =>
  tSeq (tAsg (tOrV (tCB (rIsXT K CE a cls d) (tCons (tVar 2) (tCons (tTup (tCons (tC (.ref CC)) (tCons (tC (.ref CM)) tNil))) tNil))) (tOrV (tNotV (tCB (rIsX K CE a cls d) (tCons (tVar 2) (tCons (tC (.ref CN)) tNil)))) (tCB (rIsi K) (tCons (tXf a cls d CE "at" (tVar 2)) (tCons (tC (.ty "bool")) tNil))))) (gName 3))
    (tRet (tIf (tB (tVar 3)) (tC (.str "wrong")) (tXf a cls d CE "at" (tVar 2))))
/-- what the top leaves of the errors -/
structure ErrT (K : PySem.W.Frag) (mg : Str → Option Value) (CE CC CM CN : Addr) : Prop where
  ec : ErrC K CE
  xc : XfC K CE
  nA : PySem.W.findIn K (.ref CE) "at" = some none
  gE : mg "BadCondition" = some (.ref CE)
  gC : mg "BadStatement" = some (.ref CC)
  gM : mg "BadTable" = some (.ref CM)
  gN : mg "NewestrowError" = some (.ref CN)
  ex : PySem.W.exmOne K (.ref CE) (.ref CE) = some true
  kA : PySem.W.kitAny K (.ref CE) [.ref CC, .ref CM] = some false
  kN : PySem.W.kitOne K (.ref CE) (.ref CN) = some true
section
variable {P : Program} {w : World} {K : PySem.W.Frag} {mg : Str → Option Value} {base : Heap}
theorem FnOk.anyX {CX : CXT} {k : Nat} {f : Addr} {fd : FuncData} {ps : List Str} {sp : Sp} (F : FnOk P w K mg base C8.CX0 k f fd ps sp) : FnOk P w K mg base CX k f fd ps sp :=
  ⟨F.len, fun A outer s H args us vs Q E hr he hb hv hs => codeAny_mono (F.run A outer s H args us vs Q E hr he hb hv hs) fun r s' hq => by
    cases r with
    | error e => exact hq.elim
    | ok fl => cases fl <;> exact hq⟩
theorem good_nt {cols : List Col} (g : Good n11 cols) : isTermB (cols.map (·.1)) "" = false := by
  have h : ("" : Str) ∉ n11 := by decide +kernel
  unfold isTermB
  rw [num_nil, Bool.false_or, decide_eq_false]
  intro q
  obtain ⟨c, hc, e⟩ := List.mem_map.mp q
  exact h (by rw [← e]; exact g.names c hc)
theorem lTold {f fT CT CC CB CS CM CN : Addr} {fd fdT : FuncData} (F : C8.Def K mg "_law_told" s__law_told f fd) (b : Binds K fd P__law_told []) (T : Names K mg) (TE : ErrT K mg CB CS CM CN)
    (m_Condition : C8.Mak P w K mg base 7 "Condition" CC (spCond P w CT CC) []) (M : Mk K CC fT) (FT : FnOk P w K mg base (L2.CX P w) 8 fT fdT P_Condition____init__ (spCondXF CT CC CB)) (bT : Binds K fdT P_Condition____init__ []) (gT : mg "Condition" = some (.ref CC)) : C8.Cal P w K mg base 10 "_law_told" (spTold4 CT) [] := by
  refine C8.cal0 (N := N__law_told) F b .nil sc__law_told (fun vs H Q E h => ?_) (fun cdv A outer s H vs Q E hr h => ?_)
  · obtain ⟨x, v, d, cols, G, rfl, _⟩ := h
    rfl
  · obtain ⟨x, v, d, cols, G, rfl, dv, short, tab, good, sG, k⟩ := h
    obtain ⟨f1, fd1, ps1, spx, M1, FT1, bT1, hspx⟩ : ∃ (f1 : Addr) (fd1 : FuncData) (ps1 : List Str) (spx : Sp), Mk K CC f1 ∧ FnOk P w K mg base (L2.CX P w) 8 f1 fd1 ps1 spx ∧ Binds K fd1 ps1 [] ∧ ∀ (c dx : Addr) (Q' : VK) (E' : XK), H c = none → H dx = none → dx ≠ c →
        (told4 (cols.map (·.1)) d = none → ∀ H' G', Xt none H G H' G' → Q' .non H') → (∀ i, told4 (cols.map (·.1)) d = some i → FailI E' CB H G i) → spx [.ref c, v, .ref x] (upd (upd H dx (.own c)) c (.ins CC dx [])) Q' E' := by
      have bad : noStr d → ∃ (f1 : Addr) (fd1 : FuncData) (ps1 : List Str) (spx : Sp), Mk K CC f1 ∧ FnOk P w K mg base (L2.CX P w) 8 f1 fd1 ps1 spx ∧ Binds K fd1 ps1 [] ∧ ∀ (c dx : Addr) (Q' : VK) (E' : XK), H c = none → H dx = none → dx ≠ c →
        (told4 (cols.map (·.1)) d = none → ∀ H' G', Xt none H G H' G' → Q' .non H') → (∀ i, told4 (cols.map (·.1)) d = some i → FailI E' CB H G i) → spx [.ref c, v, .ref x] (upd (upd H dx (.own c)) c (.ins CC dx [])) Q' E' := fun ns => by
        have e : told4 (cols.map (·.1)) d = some (-1) := by
          cases d <;> first | rfl | exact ns.elim
        exact ⟨fT, fdT, _, spCondXF CT CC CB, M, FT, bT, fun c dx Q' E' nc ndx nec _ fl => ⟨c, dx, x, v, d, -1, cols, H, G, rfl, nc, ndx, nec, rfl, dv, tab, good, sG, .inl ⟨ns, rfl⟩, fl _ e⟩⟩
      by_cases ns : noStr d
      · exact bad ns
      · obtain ⟨z, rfl⟩ : ∃ z, d = .str z := by
          cases d <;> first | exact ⟨_, rfl⟩ | exact absurd trivial ns
        clear bad ns
        have zl := short z rfl
        have W := all_wf z
        have tl := toks_len z.cps.toList.length 0 z.cps.toList (Nat.le_refl _)
        have zl2 : z.cps.toList.length ≤ 350 := by rw [← str_len]; exact zl
        have n400 : (allToks z).length ≤ 400 := by
          unfold allToks
          rw [List.length_append]
          show _ + 1 ≤ 400
          omega
        have n600 : ∀ t ∈ allToks z, t.1.length ≤ 600 := fun t ht => by
          unfold allToks at ht
          rcases List.mem_append.mp ht with h | h
          · have := tl.2 t h
            omega
          · rw [List.mem_singleton.mp h]
            show (("" : Str)).length ≤ 600
            decide +kernel
        obtain ⟨r1, r2⟩ := run_dec (cols := cols) (ev := 2 ^ (allV (cols.map (·.2))).length - 1) W (good_nt good) (allToks z).length 0 0 (by omega) W.pos
        rw [List.drop_zero] at r1 r2
        cases st : stuckL (cols.map (·.1)) (allToks z) .atom 0 with
        | none =>
          obtain ⟨f1, fd1, ps1, ds1, M1, F1, g1, b1, v1⟩ := m_Condition.ex
          cases v1
          obtain ⟨ff, fe, run⟩ := r1 st [] (Lv.zero _) rfl
          refine ⟨f1, fd1, ps1, _, M1, (FnOk.anyX F1).mono (by decide), b1, fun c dx Q' E' nc ndx nec ok _ => ⟨c, dx, x, z, fe, ff, cols, H, G, ?_, nc, ndx, nec, rfl, by omega, n400, n600, tab, good, run, sG, fun m H' G' X _ _ _ => ok ?_ H' G' X⟩⟩
          · cases dv; rfl
          · show (stuckL (cols.map (·.1)) (allToks z) .atom 0).map _ = none
            rw [st]; rfl
        | some n =>
          exact ⟨fT, fdT, _, spCondXF CT CC CB, M, FT, bT, fun c dx Q' E' nc ndx nec _ fl => ⟨c, dx, x, v, .str z, ((n : Nat) : Int), cols, H, G, rfl, nc, ndx, nec, rfl, dv, tab, good, sG, .inr ⟨z, n, rfl, rfl, by omega, n400, n600, r2 n st⟩, fl _ (by
            show (stuckL (cols.map (·.1)) (allToks z) .atom 0).map _ = _
            rw [st]; rfl)⟩⟩
    refine ⟨_, pss_cons (ps_try_as (i := 2) (tb := fun W => tDrop (tMakeS CC spx (WE W) (tCons (tVar 0) (tCons (tVar 1) tNil)))) (ts := tsTold K CB CS CM CN) (Wout := fun _ _ _ _ => False) rfl rfl sc__law_told.nd rfl rfl ⟨rfl, by decide, Or.inl TE.gE⟩ takes0
          (fun W pn xe tk _ => pss_one (ps_expr (by exact (pe_makeS M1 FT1 hr rfl gT bT1 (fun σ => passAt tk σ) (by exact (pa_cons (pv 0) (pa_cons (pv 1) pa_nil)))))))
          (fun a oe cls d pn hz hf => pss_cons (ps_set (i := 3) sc__law_told.nd rfl (Or.inl rfl) (by exact (pe_or (pe_callB (call_isXT TE.ec hz hf) (by rfl) T.n_isinstance (by decide +kernel) (pa_cons (pv 2) (pa_cons (pe_tup (pa_cons (C8.pe_gc rfl ⟨_, TE.gC, rfl⟩) (pa_cons (C8.pe_gc rfl ⟨_, TE.gM, rfl⟩) pa_nil))) pa_nil))) (pe_or (pe_not (pe_callB (call_isX TE.ec hz hf) (by rfl) T.n_isinstance (by decide +kernel) (pa_cons (pv 2) (pa_cons (C8.pe_gc rfl ⟨_, TE.gN, rfl⟩) pa_nil)))) (pe_one (pe_callB call_isi (by rfl) T.n_isinstance (by decide +kernel) (pa_cons (pe_xf TE.xc TE.nA hz hf (pv 2)) (pa_cons (pe_bltn (v := .ty "bool") (u := .type "bool") (by rfl) T.n_bool (by decide +kernel) rfl) pa_nil))))))))
            (pss_one (ps_ret (by exact (pe_ifExp (pt_val (pv 3)) pe_str (pe_xf TE.xc TE.nA hz hf (pv 2))))))))
      (pss_one (ps_ret pe_non)), ?_⟩
    refine ⟨_, rfl, _, rfl, fun c dx nc ndx nec => hspx c dx _ _ nc ndx nec (fun hb H' G' X => ⟨rfl, ?_⟩) (fun i hb H' G' d X hd => ?_)⟩
    · have q := k H' G' X
      rw [hb] at q
      exact q
    · have hne : H' d = none := hd
      have Xd : Xt none H G (upd H' d (xdAt i)) G' := X.allocT hd
      have q := k _ _ Xd
      rw [hb] at q
      refine ⟨true, TE.ex, fun _ a0 ha0 => ?_, fun z => by cases z⟩
      refine ⟨_, rfl, (by show 2 ≤ sizeLine; decide), fun tp htp => ?_⟩
      have ntp : d ≠ tp := fun z => by subst z; rw [upd_same] at htp; cases htp
      have hdd : upd (upd H' d (xdAt i)) tp (.tup [.ref CS, .ref CM]) d = some (xdAt i) := by rw [upd_ne ntp, upd_same]
      have Xt2 := Xd.allocT (o := .tup [.ref CS, .ref CM]) htp
      have q2 := k _ _ Xt2
      rw [hb] at q2
      have lk : List.lookup ("at" : Str) [(("at" : Str), V.int i)] = some (.int i) := by simp [List.lookup]
      refine ⟨rfl, tp, [.ref CS, .ref CM], [.ref CS, .ref CM], false, d, _, rfl, upd_same, .cons (.own CS) (.cons (.own CM) .nil), rfl, hdd, TE.kA, _, rfl, iteF ?_⟩
      refine ⟨_, rfl, rfl, .ref CN, .ref CN, true, d, _, rfl, .own CN, rfl, hdd, TE.kN, _, rfl, ?_⟩
      refine ⟨_, rfl, iteF ?_⟩
      refine ⟨_, rfl, rfl, rfl, d, _, _, rfl, hdd, lk, _, _, _, _, false, rfl, .ty _, .base (.int i), kit_ty (by decide +kernel), ?_⟩
      refine ⟨_, rfl, _, rfl, iteF ?_⟩
      exact ⟨_, rfl, rfl, rfl, d, _, _, rfl, hdd, lk, q2⟩
end
end Nw
namespace Nw
open PySem L2 PySem.Spec PyProof.Rows RZ
/-! the law k04 -/
theorem new_tup4 {H G : Hp} {q : Addr} {xs : List V} {ds : List PyData} (s : Same G H) (hp : H q = none) (da : DA G xs ds) : ∃ G', Xt none H G (upd H q (.tup xs)) G' ∧ D G' (.ref q) (.tuple ds) := ⟨_, Xt.new s hp, .tup upd_same (da.mono (upd_same_ (s.free hp)))⟩
def spLaw (K : PySem.W.Frag) : Sp := fun vs H Q _ => ∃ (a : Addr) (ns : List Int), vs = [.ref a] ∧ SqL K H a (ns.map V.int) ∧ ns.length ≤ 63 ∧ ∀ H', Q (.bl true) H'
def toldD : Option Int → PyData
  | none => .none
  | some i => .int i
theorem told_d (G : Hp) (r : Option Int) : D G (toldV r) (toldD r) := by
  cases r with
  | none => exact .non
  | some i => exact .int i
theorem told_sh (r : Option Int) : SeqAt.shaped (toldD r) = true := by
  cases r <;> rfl
theorem told_eqv (r : Option Int) : PyData.eqv (toldD r) (toldD r) = true := by
  cases r with
  | none => rfl
  | some i =>
    show (i == i) = true
    simp
theorem opt_told (cs : List Str) (z : Str) : optV (stuckL cs (allToks z) .atom 0) = toldV (told4 cs (.str z)) := by
  show _ = toldV ((stuckL cs (allToks z) .atom 0).map fun n => ((n : Nat) : Int))
  cases stuckL cs (allToks z) .atom 0 <;> rfl
def DUES : List (Str × Option Int) := [("", some 0), ("  ", some 2), ("true", none), ("( true", some 6), ("not", some 3), ("true )", some 5), ("name", some 4)]
theorem dues_ok (cs : List Str) (nt : isTermB cs "" = false) : ∀ x ∈ DUES, told4 cs (.str x.1) = x.2 ∧ x.1.length ≤ 350 := by
  intro x hx
  simp only [DUES, List.mem_cons, List.mem_nil_iff, or_false] at hx
  have e1 : allToks "" = ([((("" : String) : Str), 0)] : List Tok) := by decide +kernel
  have e2 : allToks "  " = ([((("" : String) : Str), 2)] : List Tok) := by decide +kernel
  have e3 : allToks "true" = ([((("true" : String) : Str), 0), ((("" : String) : Str), 4)] : List Tok) := by decide +kernel
  have e4 : allToks "( true" = ([((("(" : String) : Str), 0), ((("true" : String) : Str), 2), ((("" : String) : Str), 6)] : List Tok) := by decide +kernel
  have e5 : allToks "not" = ([((("not" : String) : Str), 0), ((("" : String) : Str), 3)] : List Tok) := by decide +kernel
  have e6 : allToks "true )" = ([((("true" : String) : Str), 0), (((")" : String) : Str), 5), ((("" : String) : Str), 6)] : List Tok) := by decide +kernel
  have e7 : allToks "name" = ([((("name" : String) : Str), 0), ((("" : String) : Str), 4)] : List Tok) := by decide +kernel
  have sl : ∀ {l : List Tok} {z : Str} {r : Option Nat}, allToks z = l → stuckL cs l .atom 0 = r → told4 cs (.str z) = r.map fun n => ((n : Nat) : Int) := fun e q => by
    show (stuckL cs (allToks _) .atom 0).map _ = _
    rw [e, q]
  rcases hx with rfl | rfl | rfl | rfl | rfl | rfl | rfl
  · exact ⟨sl e1 rfl, by decide +kernel⟩
  · exact ⟨sl e2 rfl, by decide +kernel⟩
  · exact ⟨sl e3 rfl, by decide +kernel⟩
  · exact ⟨sl e4 rfl, by decide +kernel⟩
  · exact ⟨sl e5 rfl, by decide +kernel⟩
  · exact ⟨sl e6 rfl, by decide +kernel⟩
  · exact ⟨sl e7 rfl, by decide +kernel⟩
def dueD (z : Str) (r : Option Int) : PyData := .tuple [.str z, toldD r]
theorem due_da {G : Hp} (z : Str) (r : Option Int) : DA G [.str z, toldV r] [.str z, toldD r] := .cons (.str z) (.one (told_d G r))
theorem due_inv {G : Hp} {z : Str} {r : Option Int} {ys : List V} (h : DA G ys [.str z, toldD r]) : True ∧ ys = [.str z, toldV r] := by
  cases h with
  | cons h1 h2 =>
    cases h2 with
    | cons h3 h4 =>
      cases h4
      cases h1
      cases r with
      | none => cases h3; exact ⟨trivial, rfl⟩
      | some i => cases h3; exact ⟨trivial, rfl⟩
section
variable {P : Program} {w : World} {K : PySem.W.Frag} {mg : Str → Option Value} {base : Heap}
theorem lLaw {f CT : Addr} {fd : FuncData} (F : C8.Def K mg "law" s_law f fd) (T : Names K mg)
    (c__law_bag : C8.Cal P w K mg base 1 "_law_bag" (spBag K) []) (c__law_columns : C8.Cal P w K mg base 2 "_law_columns" spColumns []) (m_Table : C8.Mak P w K mg base 3 "Table" CT (spInitF CT) []) (c__law_text : C8.Cal P w K mg base 6 "_law_text" spLText [])
    (c__law_told : C8.Cal P w K mg base 10 "_law_told" (spTold4 CT) []) (c__law_split : C8.Cal P w K mg base 1 "_law_split" spSplit []) (c__law_stuck : C8.Cal P w K mg base 4 "_law_stuck" spStuck []) :
    FnOk P w K mg base C8.CX0 11 f fd ["_law_script"] (spLaw K) := by
  refine C8.fn0 F.fn sc_law (fun vs H Q E h => ?_) (fun cdv A outer s H vs Q E hr h => ?_)
  · obtain ⟨a, ns, rfl, _⟩ := h
    rfl
  · obtain ⟨a, ns, rfl, hS, hlen, k⟩ := h
    have hu := hu_of hr
    refine ⟨_, (pss_cons (ps_for PassesOwn.never rfl (pi_range1 rfl T.n_range (pa_cons (pe_callB (call_max2 rfl) (by rfl) T.n_max (by decide +kernel) (pa_cons pe_int (pa_cons (pe_callB (call_min2 rfl) (by rfl) T.n_min (by decide +kernel) (pa_cons pe_int (pa_cons (pe_callB call_len_seq (by rfl) T.n_len PySem.boot_len (pa_cons (pv 0) pa_nil)) pa_nil))) pa_nil))) pa_nil)) (pg_name (i := 1) sc_law.nd rfl (Or.inl rfl)) (pss_cons (ps_set (i := 2) sc_law.nd rfl (Or.inl rfl) (C8.pe_c c__law_bag hr (by decide) rfl (pa_cons (pv 0) (pa_cons (pv 1) pa_nil))))
 (pss_cons (ps_set (i := 3) sc_law.nd rfl (Or.inl rfl) (C8.pe_c c__law_columns hr (by decide) rfl (pa_cons (pv 2) pa_nil)))
 (pss_cons (ps_set (i := 4) sc_law.nd rfl (Or.inl rfl) (C8.pe_mk m_Table hr (by decide) rfl (pa_cons (pv 3) pa_nil)))
 (pss_cons (ps_for PassesOwn.never rfl (pi_range1 rfl T.n_range (pa_cons pe_int pa_nil)) (pg_name (i := 5) sc_law.nd rfl (Or.inl rfl)) (pss_cons (ps_set (i := 7) sc_law.nd rfl (Or.inl rfl) (C8.pe_c c__law_text hr (by decide) rfl (pa_cons (pv 2) (pa_cons (pv 3) pa_nil))))
 (pss_one (ps_if (pt_cmpR (op_neD hr.units) (C8.pe_c c__law_told hr (by decide) rfl (pa_cons (pv 7) (pa_cons (pv 4) pa_nil))) (C8.pe_c c__law_stuck hr (by decide) rfl (pa_cons (C8.pe_c c__law_split hr (by decide) rfl (pa_cons (pv 7) pa_nil)) (pa_cons pe_int (pa_cons (pv 3) pa_nil)))) (nomark _)) (pss_one (ps_ret pe_bl)) pss_nil))))
 (pss_cons (ps_for PassesOwn.never rfl (pi_tup (pe_tup (pa_cons pe_non (pa_cons pe_int (pa_cons pe_bl (pa_cons (pe_lst pa_nil) (pa_cons (pe_lst (pa_cons pe_str pa_nil)) (pa_cons (pe_tup (pa_cons pe_str pa_nil)) (pa_cons (pe_op op_pow pe_int pe_int) pa_nil))))))))) (pg_name (i := 6) sc_law.nd rfl (Or.inl rfl)) (pss_one (ps_if (pt_cmpR (op_neD hr.units) (C8.pe_c c__law_told hr (by decide) rfl (pa_cons (pv 6) (pa_cons (pv 4) pa_nil))) (pe_un un_neg pe_int) (nomark _)) (pss_one (ps_ret pe_bl)) pss_nil)))
 (pss_one (ps_for PassesOwn.never rfl (pi_tup (pe_tup (pa_cons (pe_tup (pa_cons pe_str (pa_cons pe_int pa_nil))) (pa_cons (pe_tup (pa_cons pe_str (pa_cons pe_int pa_nil))) (pa_cons (pe_tup (pa_cons pe_str (pa_cons pe_non pa_nil))) (pa_cons (pe_tup (pa_cons pe_str (pa_cons pe_int pa_nil))) (pa_cons (pe_tup (pa_cons pe_str (pa_cons pe_int pa_nil))) (pa_cons (pe_tup (pa_cons pe_str (pa_cons pe_int pa_nil))) (pa_cons (pe_tup (pa_cons pe_str (pa_cons pe_int pa_nil))) pa_nil))))))))) (pg_tup rfl (pgs_cons (pg_name (i := 7) sc_law.nd rfl (Or.inl rfl)) (pgs_cons (pg_name (i := 8) sc_law.nd rfl (Or.inl rfl)) pgs_nil))) (pss_one (ps_if (pt_cmpR (op_neD hr.units) (C8.pe_c c__law_told hr (by decide) rfl (pa_cons (pv 7) (pa_cons (pv 4) pa_nil))) (pv 8) (nomark _)) (pss_one (ps_ret pe_bl)) pss_nil))))))))))
 (pss_one (ps_ret pe_bl))), ?_⟩
    have small : ∀ n : Int, (if (if n < 4 then n else 4) > 1 then (if n < 4 then n else 4) else 1) ≤ 4 := fun n => by split <;> split <;> omega
    have big : ∀ n : Int, 1 ≤ (if (if n < 4 then n else 4) > 1 then (if n < 4 then n else 4) else 1) := fun n => by split <;> omega
    refine ⟨_, rfl, a, _, rfl, .inl hS, _, _, rfl, _, _, rfl, _, rfl, Int.le_trans (by decide) (big _), Int.lt_of_le_of_lt (small _) (by decide), ?_⟩
    refine for_it walk_range (fun i σ' H' => ∃ v1 v2 v3 v4 v5 v6 v7 v8 : Option V, σ' = [some (.ref a), v1, v2, v3, v4, v5, v6, v7, v8] ∧ Same H H') ?_ ?_ ?_ ?_
    · exact ⟨none, none, none, none, none, none, none, none, rfl, fun _ _ h => h⟩
    · exact fun _ _ _ _ _ => trivial
    · rintro i y σ' H1 H2 hi ⟨v1, v2, v3, v4, v5, v6, v7, v8, rfl, s1⟩ ⟨rfl, rfl⟩
      have hi4 : (i : Int) ≤ 4 := by
        have := small (((ns.map V.int).length : Nat) : Int)
        omega
      refine ⟨_, rfl, _, rfl, a, ns, _, rfl, s1.seq hS, by omega, by omega, fun b x y z hp hB => ?_⟩
      have X0 : Xt (some b) (upd H2 b (.lst [.int x, .int y, .int z])) H2 (upd H2 b (.lst [.int x, .int y, .int z])) H2 := Xt.refl (upd_same_ hp)
      revert X0 hB
      generalize upd H2 b (.lst [.int x, .int y, .int z]) = Hb
      intro hB X0
      refine ⟨_, rfl, b, _, H2, rfl, hB, by omega, hp, X0.sub, fun q cols xs H3 G3 X3 hB3 good gq dq => ?_⟩
      have good11_ := good11 good
      have cl3 := good.len.2
      have Y3 := X0.trans X3
      refine ⟨_, rfl, fun x dx nx ndx nex => ⟨x, dx, q, xs, cols, H3, G3, rfl, nx, ndx, nex, rfl, Y3.sub _ _ gq, dq, good11_, Y3.sub, fun H4 G4 X4 tab => ⟨rfl, ?_⟩⟩⟩
      have Y4 := Y3.trans X4.of
      have hB4 := hB3.keep X4
      have dq4 : D G4 (.ref q) (.list (dCols cols)) := (D.lst gq dq).mono X4.gg
      have nt := good_nt good11_
      refine ⟨_, rfl, by decide, by decide, ?_⟩
      refine for_it walk_range (fun j σ' H' => ∃ (G' : Hp) (v5 v7 : Option V), σ' = [some (.ref a), some (.int (0 + (i : Int))), some (.ref b), some (.ref q), some (.ref x), v5, v6, v7, v8] ∧ Xt (some b) Hb H2 H' G' ∧ Same G4 G' ∧ Bag H' b (1000 + 200 * (j : Int))) ?_ ?_ ?_ ?_
      · exact ⟨G4, _, _, rfl, Y4, fun _ _ h => h, hB4.mono (by omega)⟩
      · exact fun _ _ _ _ _ => trivial
      · rintro j y2 σ' H5 H6 hj ⟨G5, v5, v7, rfl, Y5, s5, hB5⟩ ⟨rfl, rfl⟩
        have hj10 : (j : Int) < 10 := by
          have : ((10 : Int) - 0).toNat = 10 := rfl
          omega
        have g5 := Y5.non hB.ne hp
        obtain ⟨q_, qs, e0, gq5, dqs⟩ := id (dq4.mono s5).list_inv
        cases e0
        refine ⟨_, rfl, _, rfl, b, q, _, qs, cols, G5, rfl, gq5, dqs, good, hB5, by omega, g5, Y5.sub, fun z H7 G7 X7 hB7 zl => ?_⟩
        have Y7 := Y5.trans X7
        have s7 : Same G4 G7 := fun u o h => X7.gg u o (s5 u o h)
        refine ⟨_, rfl, _, rfl, x, .str z, .str z, cols, G7, rfl, .str z, (fun z' e => by cases e; omega), tab.mono s7, good11_, Y7.sub, fun H8 G8 X8 => ?_⟩
        have Y8 := Y7.trans X8.of
        refine ⟨_, rfl, z, G8, rfl, by omega, Y8.sub, fun tk H9 G9 X9 dtk => ?_⟩
        have Y9 := Y8.trans X9.of
        have s9 : Same G4 G9 := fun u o h => X9.gg u o (X8.gg u o (s7 u o h))
        have tl := toks_len z.cps.toList.length 0 z.cps.toList (Nat.le_refl _)
        have zl2 : z.cps.toList.length ≤ 300 := by rw [← str_len]; exact zl
        refine ⟨_, rfl, tk, q, allToks z, cols, G9, rfl, dtk, all_wf z, ?_, fun t ht => ?_, dq4.mono s9, cl3, Y9.sub, fun H10 X10 => ?_⟩
        · unfold allToks
          rw [List.length_append]
          show _ + 1 ≤ 1000
          omega
        · unfold allToks at ht
          rcases List.mem_append.mp ht with h | h
          · have := tl.2 t h
            omega
          · rw [List.mem_singleton.mp h]
            show (("" : Str)).length ≤ 10000
            decide +kernel
        have Y10 := Y9.trans X10.of
        rw [opt_told]
        refine ⟨_, _, (told_d G9 _).dp X10.sub, (told_d G9 _).dp X10.sub, told_sh _, told_sh _, _, rfl, ?_⟩
        rw [told_eqv]
        refine iteF ?_
        exact ⟨G9, _, _, rfl, Y10, s9, (((hB7.keep X8).keep X9).keep X10).mono (by push_cast; omega)⟩
      rintro σ' H5 ⟨G5, v5', v7', rfl, Y5, s5, hB5⟩
      -- things
      refine ⟨Nat.zero_le _, fun l0 hl0 => ?_⟩
      obtain ⟨G6, X6, d6⟩ := new_lst4 Y5.sub hl0 .nil
      have Y6 := Y5.trans X6.of
      refine ⟨(by show 1 ≤ sizeLine; decide), fun l1 hl1 => ?_⟩
      obtain ⟨G7, X7, d7⟩ := new_lst4 Y6.sub hl1 (one_da "true")
      have Y7 := Y6.trans X7.of
      refine ⟨(by show 1 ≤ sizeLine; decide), fun t1 ht1 => ?_⟩
      obtain ⟨G8, X8, d8⟩ := new_tup4 Y7.sub ht1 (one_da "true")
      have Y8 := Y7.trans X8.of
      refine ⟨_, _, rfl, rfl, ⟨by decide, by decide, by decide⟩, ?_⟩
      refine ⟨(by show 7 ≤ sizeLine; decide), fun tt htt => ?_⟩
      have s68 : Same G6 G8 := fun u o h => X8.gg u o (X7.gg u o h)
      obtain ⟨G9, X9, d9⟩ := new_tup4 Y8.sub htt (.cons .non (.cons (.int 0) (.cons (.bl true) (.cons (d6.mono s68) (.cons (d7.mono X8.gg) (.cons d8 (.one (.int (10 ^ 20)))))))))
      have Y9 := Y8.trans X9.of
      have hB9 := (((hB5.keep X6).keep X7).keep X8).keep X9
      have s9 : Same G4 G9 := fun u o h => X9.gg u o (s68 u o (X6.gg u o (s5 u o h)))
      clear X6 X7 X8 X9 Y6 Y7 Y8 d6 d7 d8 s68 hl0 hl1 ht1
      obtain ⟨tt_, xs9, e0, g9, da9⟩ := id d9.tup_inv
      cases e0
      refine ⟨tt, rfl, ⟨_, SqT.of (Y9.sub _ _ g9)⟩, for_it (walk_tup (xs := xs9)) (fun j σ' H' => ∃ (G' : Hp) (v6 : Option V), σ' = [some (.ref a), some (.int (0 + (i : Int))), some (.ref b), some (.ref q), some (.ref x), v5', v6, v7', v8] ∧ Xt (some b) Hb H2 H' G' ∧ Same G9 G') ?_ ?_ ?_ ?_⟩
      · exact ⟨G9, _, rfl, Y9, fun _ _ h => h⟩
      · rintro j σ' H' hj ⟨G', v6, rfl, Y, s⟩
        exact SqT.of (Y.sub _ _ (s _ _ g9))
      · rintro j y σ' H6 H7 hj ⟨G', v6, rfl, Y, s⟩ ⟨rfl, hy⟩
        obtain ⟨d, hd, dy⟩ := (da9.mono s).get hy
        have nd : noStr d ∧ told4 (cols.map (·.1)) d = some (-1) := by
          have hd := List.mem_of_getElem? hd
          simp only [List.mem_cons, List.mem_nil_iff, or_false] at hd
          rcases hd with rfl | rfl | rfl | rfl | rfl | rfl | rfl <;> exact ⟨trivial, rfl⟩
        refine ⟨_, rfl, _, rfl, x, y, d, cols, G', rfl, dy, (fun z e => by subst e; exact nd.1.elim), (tab.mono s9).mono s, good11_, Y.sub, fun H8 G8 X8 => ?_⟩
        rw [nd.2]
        refine ⟨_, rfl, ?_⟩
        refine ⟨_, _, (told_d G8 (some (-1))).dp X8.sub, (told_d G8 (some (-1))).dp X8.sub, told_sh _, told_sh _, _, rfl, ?_⟩
        rw [told_eqv]
        refine iteF ?_
        exact ⟨G8, _, rfl, Y.trans X8.of, fun u o h => X8.gg u o (s u o h)⟩
      clear Y9 hB9 da9 d9
      rintro σ' H10 ⟨G10, v6', rfl, Y10, s10⟩
      replace s10 : Same G4 G10 := fun u o h => s10 u o (s9 u o h)
      clear s9 g9
      -- written texts
      refine ⟨(by show 2 ≤ sizeLine; decide), fun t11 ht11 => ?_⟩
      obtain ⟨G11, X11, d11⟩ := new_tup4 Y10.sub ht11 (due_da "" (some 0))
      have Y11 := Y10.trans X11.of
      refine ⟨(by show 2 ≤ sizeLine; decide), fun t12 ht12 => ?_⟩
      obtain ⟨G12, X12, d12⟩ := new_tup4 Y11.sub ht12 (due_da "  " (some 2))
      have Y12 := Y11.trans X12.of
      refine ⟨(by show 2 ≤ sizeLine; decide), fun t13 ht13 => ?_⟩
      obtain ⟨G13, X13, d13⟩ := new_tup4 Y12.sub ht13 (due_da "true" none)
      have Y13 := Y12.trans X13.of
      refine ⟨(by show 2 ≤ sizeLine; decide), fun t14 ht14 => ?_⟩
      obtain ⟨G14, X14, d14⟩ := new_tup4 Y13.sub ht14 (due_da "( true" (some 6))
      have Y14 := Y13.trans X14.of
      refine ⟨(by show 2 ≤ sizeLine; decide), fun t15 ht15 => ?_⟩
      obtain ⟨G15, X15, d15⟩ := new_tup4 Y14.sub ht15 (due_da "not" (some 3))
      have Y15 := Y14.trans X15.of
      refine ⟨(by show 2 ≤ sizeLine; decide), fun t16 ht16 => ?_⟩
      obtain ⟨G16, X16, d16⟩ := new_tup4 Y15.sub ht16 (due_da "true )" (some 5))
      have Y16 := Y15.trans X16.of
      refine ⟨(by show 2 ≤ sizeLine; decide), fun t17 ht17 => ?_⟩
      obtain ⟨G17, X17, d17⟩ := new_tup4 Y16.sub ht17 (due_da "name" (some 4))
      have Y17 := Y16.trans X17.of
      refine ⟨(by show 7 ≤ sizeLine; decide), fun tt htt => ?_⟩
      replace d11 := d11.mono X12.gg
      replace d11 := d11.mono X13.gg
      replace d11 := d11.mono X14.gg
      replace d11 := d11.mono X15.gg
      replace d11 := d11.mono X16.gg
      replace d11 := d11.mono X17.gg
      replace d12 := d12.mono X13.gg
      replace d12 := d12.mono X14.gg
      replace d12 := d12.mono X15.gg
      replace d12 := d12.mono X16.gg
      replace d12 := d12.mono X17.gg
      replace d13 := d13.mono X14.gg
      replace d13 := d13.mono X15.gg
      replace d13 := d13.mono X16.gg
      replace d13 := d13.mono X17.gg
      replace d14 := d14.mono X15.gg
      replace d14 := d14.mono X16.gg
      replace d14 := d14.mono X17.gg
      replace d15 := d15.mono X16.gg
      replace d15 := d15.mono X17.gg
      replace d16 := d16.mono X17.gg
      obtain ⟨G18, X18, d18⟩ := new_tup4 Y17.sub htt (.cons d11 (.cons d12 (.cons d13 (.cons d14 (.cons d15 (.cons d16 (.one d17)))))))
      have Y18 := Y17.trans X18.of
      have s18 : Same G4 G18 := fun u o h => X18.gg u o (X17.gg u o (X16.gg u o (X15.gg u o (X14.gg u o (X13.gg u o (X12.gg u o (X11.gg u o (s10 u o h))))))))
      clear X11 X12 X13 X14 X15 X16 X17 X18 Y11 Y12 Y13 Y14 Y15 Y16 Y17 d11 d12 d13 d14 d15 d16 d17
      obtain ⟨tt_, xs9, e0, g9, da9⟩ := id d18.tup_inv
      cases e0
      refine ⟨tt, rfl, ⟨_, SqT.of (Y18.sub _ _ g9)⟩, for_it (walk_tup (xs := xs9)) (fun j σ' H' => ∃ (G' : Hp) (v7 v8 : Option V), σ' = [some (.ref a), some (.int (0 + (i : Int))), some (.ref b), some (.ref q), some (.ref x), v5', v6', v7, v8] ∧ Xt (some b) Hb H2 H' G' ∧ Same G18 G') ?_ ?_ ?_ ?_⟩
      · exact ⟨G18, _, _, rfl, Y18, fun _ _ h => h⟩
      · rintro j σ' H' hj ⟨G', v7, v8, rfl, Y, s⟩
        exact SqT.of (Y.sub _ _ (s _ _ g9))
      · rintro j y σ' H6 H7 hj ⟨G', v7, v8, rfl, Y, s⟩ ⟨rfl, hy⟩
        obtain ⟨d, hd, dy⟩ := (da9.mono s).get hy
        obtain ⟨w, hw, rfl⟩ : ∃ w ∈ DUES, d = dueD w.1 w.2 := by
          have hd : d ∈ DUES.map fun w => dueD w.1 w.2 := List.mem_of_getElem? hd
          obtain ⟨w, h1, h2⟩ := List.mem_map.mp hd
          exact ⟨w, h1, h2.symm⟩
        obtain ⟨dw1, dw2⟩ := dues_ok (cols.map (·.1)) nt w hw
        obtain ⟨ya, ys, rfl, gy, dys⟩ := id dy.tup_inv
        obtain ⟨e1, e2⟩ := due_inv dys
        subst e2
        refine ⟨ya, _, rfl, SqT.of (Y.sub _ _ gy), rfl, _, _, rfl, _, _, rfl, rfl, ?_⟩
        refine ⟨_, rfl, _, rfl, x, .str w.1, .str w.1, cols, G', rfl, .str _, (fun z e => by cases e; exact dw2), (tab.mono s18).mono s, good11_, Y.sub, fun H8 G8 X8 => ?_⟩
        rw [dw1]
        refine ⟨_, rfl, ?_⟩
        refine ⟨_, _, (told_d G8 w.2).dp X8.sub, (told_d G8 w.2).dp X8.sub, told_sh _, told_sh _, _, rfl, ?_⟩
        rw [told_eqv]
        refine iteF ?_
        exact ⟨G8, _, _, rfl, Y.trans X8.of, fun u o h => X8.gg u o (s u o h)⟩
      rintro σ' H19 ⟨G19, v7, v8, rfl, Y19, s19⟩
      exact ⟨_, _, _, _, _, _, _, _, rfl, fun u o h => Y19.sub u o (Y19.gg u o (s1 u o h))⟩
    · rintro σ' H1 ⟨v1, v2, v3, v4, v5, v6, v7, v8, rfl, s1⟩
      exact k _
end
end Nw
namespace Nw
open PySem L2 PySem.Spec PyProof.Rows RZ
/-! ### what the top has written -/
theorem all_mk {P : Program} {w : World} {K : PySem.W.Frag} {h : Heap} {mg : Str → Option Value} {fa C CC CB CW CS CM CN R S LS : Addr} {f_d0 f_d1 f_d2 f_d3 f_d4 f_d5 f_d6 f_d7 f_d8 f_d9 f_d10 f_d11 f_d12 f_d13 f_d14 f_d15 f_d16 f_d17 f_d18 f_d19 f_d20 f_d21 f_d22 f_d23 f_d24 f_d25 f_d26 f_d27 f_d28 f_d29 f_d30 f_d31 f_d32 f_d33 f_d34 f_d35 f_d36 f_d37 f_d38 f_d39 f_d40 f_d41 f_d42 f_d43 f_m0 f_m1 f_m2 f_m3 f_m4 : Addr} (X : K.In h) (G : h.Ns mainGlobals mg) (hfa : mg "law" = some (.ref fa))
    {fd_d0 fd_d1 fd_d2 fd_d3 fd_d4 fd_d5 fd_d6 fd_d7 fd_d8 fd_d9 fd_d10 fd_d11 fd_d12 fd_d13 fd_d14 fd_d15 fd_d16 fd_d17 fd_d18 fd_d19 fd_d20 fd_d21 fd_d22 fd_d23 fd_d24 fd_d25 fd_d26 fd_d27 fd_d28 fd_d29 fd_d30 fd_d31 fd_d32 fd_d33 fd_d34 fd_d35 fd_d36 fd_d37 fd_d38 fd_d39 fd_d40 fd_d41 fd_d42 fd_d43 fd_m0 fd_m1 fd_m2 fd_m3 fd_m4 : FuncData} {uL uD : Value}
    (a_d0 : PySem.W.nsIn K mainGlobals "copied" = some (some (.ref f_d0)))
    (D_d0 : FunD K "copied" "copied" (C8.fnArgs s_copied) (C8.fnBody s_copied) (C8.fnScope s_copied) [] [] f_d0 fd_d0)
    (a_d1 : PySem.W.nsIn K mainGlobals "is_word" = some (some (.ref f_d1)))
    (D_d1 : FunD K "is_word" "is_word" (C8.fnArgs s_is_word) (C8.fnBody s_is_word) (C8.fnScope s_is_word) [] [] f_d1 fd_d1)
    (a_d2 : PySem.W.nsIn K mainGlobals "is_number" = some (some (.ref f_d2)))
    (D_d2 : FunD K "is_number" "is_number" (C8.fnArgs s_is_number) (C8.fnBody s_is_number) (C8.fnScope s_is_number) [] [] f_d2 fd_d2)
    (a_d3 : PySem.W.nsIn K mainGlobals "split_tokens" = some (some (.ref f_d3)))
    (D_d3 : FunD K "split_tokens" "split_tokens" (C8.fnArgs s_split_tokens) (C8.fnBody s_split_tokens) (C8.fnScope s_split_tokens) [] [] f_d3 fd_d3)
    (a_d4 : PySem.W.nsIn K mainGlobals "token_end" = some (some (.ref f_d4)))
    (D_d4 : FunD K "token_end" "token_end" (C8.fnArgs s_token_end) (C8.fnBody s_token_end) (C8.fnScope s_token_end) [] [] f_d4 fd_d4)
    (a_d5 : PySem.W.nsIn K mainGlobals "stretch_end" = some (some (.ref f_d5)))
    (D_d5 : FunD K "stretch_end" "stretch_end" (C8.fnArgs s_stretch_end) (C8.fnBody s_stretch_end) (C8.fnScope s_stretch_end) [] [] f_d5 fd_d5)
    (a_d6 : PySem.W.nsIn K mainGlobals "joined_tokens" = some (some (.ref f_d6)))
    (D_d6 : FunD K "joined_tokens" "joined_tokens" (C8.fnArgs s_joined_tokens) (C8.fnBody s_joined_tokens) (C8.fnScope s_joined_tokens) [] [] f_d6 fd_d6)
    (a_d7 : PySem.W.nsIn K mainGlobals "read_sum" = some (some (.ref f_d7)))
    (D_d7 : FunD K "read_sum" "read_sum" (C8.fnArgs s_read_sum) (C8.fnBody s_read_sum) (C8.fnScope s_read_sum) [] [] f_d7 fd_d7)
    (a_d8 : PySem.W.nsIn K mainGlobals "read_term" = some (some (.ref f_d8)))
    (D_d8 : FunD K "read_term" "read_term" (C8.fnArgs s_read_term) (C8.fnBody s_read_term) (C8.fnScope s_read_term) [] [] f_d8 fd_d8)
    (a_d9 : PySem.W.nsIn K mainGlobals "sum_value" = some (some (.ref f_d9)))
    (D_d9 : FunD K "sum_value" "sum_value" (C8.fnArgs s_sum_value) (C8.fnBody s_sum_value) (C8.fnScope s_sum_value) [] [] f_d9 fd_d9)
    (a_d10 : PySem.W.nsIn K mainGlobals "bits_for" = some (some (.ref f_d10)))
    (D_d10 : FunD K "bits_for" "bits_for" (C8.fnArgs s_bits_for) (C8.fnBody s_bits_for) (C8.fnScope s_bits_for) [] [] f_d10 fd_d10)
    (a_d11 : PySem.W.nsIn K mainGlobals "every_bit" = some (some (.ref f_d11)))
    (D_d11 : FunD K "every_bit" "every_bit" (C8.fnArgs s_every_bit) (C8.fnBody s_every_bit) (C8.fnScope s_every_bit) [] [] f_d11 fd_d11)
    (a_d12 : PySem.W.nsIn K mainGlobals "both" = some (some (.ref f_d12)))
    (D_d12 : FunD K "both" "both" (C8.fnArgs s_both) (C8.fnBody s_both) (C8.fnScope s_both) [] [] f_d12 fd_d12)
    (a_d13 : PySem.W.nsIn K mainGlobals "either" = some (some (.ref f_d13)))
    (D_d13 : FunD K "either" "either" (C8.fnArgs s_either) (C8.fnBody s_either) (C8.fnScope s_either) [] [] f_d13 fd_d13)
    (a_d14 : PySem.W.nsIn K mainGlobals "opposite" = some (some (.ref f_d14)))
    (D_d14 : FunD K "opposite" "opposite" (C8.fnArgs s_opposite) (C8.fnBody s_opposite) (C8.fnScope s_opposite) [] [] f_d14 fd_d14)
    (a_d15 : PySem.W.nsIn K mainGlobals "compares" = some (some (.ref f_d15)))
    (D_d15 : FunD K "compares" "compares" (C8.fnArgs s_compares) (C8.fnBody s_compares) (C8.fnScope s_compares) [] [] f_d15 fd_d15)
    (a_d16 : PySem.W.nsIn K mainGlobals "read_comparison" = some (some (.ref f_d16)))
    (D_d16 : FunD K "read_comparison" "read_comparison" (C8.fnArgs s_read_comparison) (C8.fnBody s_read_comparison) (C8.fnScope s_read_comparison) [] [] f_d16 fd_d16)
    (a_d17 : PySem.W.nsIn K mainGlobals "read_name" = some (some (.ref f_d17)))
    (D_d17 : FunD K "read_name" "read_name" (C8.fnArgs s_read_name) (C8.fnBody s_read_name) (C8.fnScope s_read_name) [] [] f_d17 fd_d17)
    (a_d18 : PySem.W.nsIn K mainGlobals "read_plain" = some (some (.ref f_d18)))
    (D_d18 : FunD K "read_plain" "read_plain" (C8.fnArgs s_read_plain) (C8.fnBody s_read_plain) (C8.fnScope s_read_plain) [] [] f_d18 fd_d18)
    (a_d19 : PySem.W.nsIn K mainGlobals "with_atom" = some (some (.ref f_d19)))
    (D_d19 : FunD K "with_atom" "with_atom" (C8.fnArgs s_with_atom) (C8.fnBody s_with_atom) (C8.fnScope s_with_atom) [] [] f_d19 fd_d19)
    (a_d20 : PySem.W.nsIn K mainGlobals "whole_level" = some (some (.ref f_d20)))
    (D_d20 : FunD K "whole_level" "whole_level" (C8.fnArgs s_whole_level) (C8.fnBody s_whole_level) (C8.fnScope s_whole_level) [] [] f_d20 fd_d20)
    (a_d21 : PySem.W.nsIn K mainGlobals "read_condition" = some (some (.ref f_d21)))
    (D_d21 : FunD K "read_condition" "read_condition" (C8.fnArgs s_read_condition) (C8.fnBody s_read_condition) (C8.fnScope s_read_condition) [] [] f_d21 fd_d21)
    (a_d22 : PySem.W.nsIn K mainGlobals "is_integer" = some (some (.ref f_d22)))
    (D_d22 : FunD K "is_integer" "is_integer" (C8.fnArgs s_is_integer) (C8.fnBody s_is_integer) (C8.fnScope s_is_integer) [] [] f_d22 fd_d22)
    (a_d23 : PySem.W.nsIn K mainGlobals "is_tuple_of" = some (some (.ref f_d23)))
    (D_d23 : FunD K "is_tuple_of" "is_tuple_of" (C8.fnArgs s_is_tuple_of) (C8.fnBody s_is_tuple_of) (C8.fnScope s_is_tuple_of) [] [] f_d23 fd_d23)
    (a_d24 : PySem.W.nsIn K mainGlobals "is_column" = some (some (.ref f_d24)))
    (D_d24 : FunD K "is_column" "is_column" (C8.fnArgs s_is_column) (C8.fnBody s_is_column) (C8.fnScope s_is_column) [] [] f_d24 fd_d24)
    (a_d25 : PySem.W.nsIn K mainGlobals "_law_bag" = some (some (.ref f_d25)))
    (D_d25 : FunD K "_law_bag" "_law_bag" (C8.fnArgs s__law_bag) (C8.fnBody s__law_bag) (C8.fnScope s__law_bag) [] [] f_d25 fd_d25)
    (a_d26 : PySem.W.nsIn K mainGlobals "_law_take" = some (some (.ref f_d26)))
    (D_d26 : FunD K "_law_take" "_law_take" (C8.fnArgs s__law_take) (C8.fnBody s__law_take) (C8.fnScope s__law_take) [] [] f_d26 fd_d26)
    (a_d27 : PySem.W.nsIn K mainGlobals "_law_of" = some (some (.ref f_d27)))
    (D_d27 : FunD K "_law_of" "_law_of" (C8.fnArgs s__law_of) (C8.fnBody s__law_of) (C8.fnScope s__law_of) [] [] f_d27 fd_d27)
    (a_d28 : PySem.W.nsIn K mainGlobals "_law_columns" = some (some (.ref f_d28)))
    (D_d28 : FunD K "_law_columns" "_law_columns" (C8.fnArgs s__law_columns) (C8.fnBody s__law_columns) (C8.fnScope s__law_columns) [] [] f_d28 fd_d28)
    (a_d29 : PySem.W.nsIn K mainGlobals "_law_sum" = some (some (.ref f_d29)))
    (D_d29 : FunD K "_law_sum" "_law_sum" (C8.fnArgs s__law_sum) (C8.fnBody s__law_sum) (C8.fnScope s__law_sum) [] [] f_d29 fd_d29)
    (a_d30 : PySem.W.nsIn K mainGlobals "_law_sum_tokens" = some (some (.ref f_d30)))
    (D_d30 : FunD K "_law_sum_tokens" "_law_sum_tokens" (C8.fnArgs s__law_sum_tokens) (C8.fnBody s__law_sum_tokens) (C8.fnScope s__law_sum_tokens) [] [] f_d30 fd_d30)
    (a_d31 : PySem.W.nsIn K mainGlobals "_law_tree" = some (some (.ref f_d31)))
    (D_d31 : FunD K "_law_tree" "_law_tree" (C8.fnArgs s__law_tree) (C8.fnBody s__law_tree) (C8.fnScope s__law_tree) [] [] f_d31 fd_d31)
    (a_d32 : PySem.W.nsIn K mainGlobals "_law_tokens" = some (some (.ref f_d32)))
    (D_d32 : FunD K "_law_tokens" "_law_tokens" (C8.fnArgs s__law_tokens) (C8.fnBody s__law_tokens) (C8.fnScope s__law_tokens) [] [] f_d32 fd_d32)
    (a_d33 : PySem.W.nsIn K mainGlobals "_law_spaced" = some (some (.ref f_d33)))
    (D_d33 : FunD K "_law_spaced" "_law_spaced" (C8.fnArgs s__law_spaced) (C8.fnBody s__law_spaced) (C8.fnScope s__law_spaced) [] [] f_d33 fd_d33)
    (a_d34 : PySem.W.nsIn K mainGlobals "_law_split" = some (some (.ref f_d34)))
    (D_d34 : FunD K "_law_split" "_law_split" (C8.fnArgs s__law_split) (C8.fnBody s__law_split) (C8.fnScope s__law_split) [] [] f_d34 fd_d34)
    (a_d35 : PySem.W.nsIn K mainGlobals "_law_is_word" = some (some (.ref f_d35)))
    (D_d35 : FunD K "_law_is_word" "_law_is_word" (C8.fnArgs s__law_is_word) (C8.fnBody s__law_is_word) (C8.fnScope s__law_is_word) [] [] f_d35 fd_d35)
    (a_d36 : PySem.W.nsIn K mainGlobals "_law_is_number" = some (some (.ref f_d36)))
    (D_d36 : FunD K "_law_is_number" "_law_is_number" (C8.fnArgs s__law_is_number) (C8.fnBody s__law_is_number) (C8.fnScope s__law_is_number) [] [] f_d36 fd_d36)
    (a_d37 : PySem.W.nsIn K mainGlobals "_law_is_term" = some (some (.ref f_d37)))
    (D_d37 : FunD K "_law_is_term" "_law_is_term" (C8.fnArgs s__law_is_term) (C8.fnBody s__law_is_term) (C8.fnScope s__law_is_term) [] [] f_d37 fd_d37)
    (a_d38 : PySem.W.nsIn K mainGlobals "_law_next" = some (some (.ref f_d38)))
    (D_d38 : FunD K "_law_next" "_law_next" (C8.fnArgs s__law_next) (C8.fnBody s__law_next) (C8.fnScope s__law_next) [] [] f_d38 fd_d38)
    (a_d39 : PySem.W.nsIn K mainGlobals "_law_stuck" = some (some (.ref f_d39)))
    (D_d39 : FunD K "_law_stuck" "_law_stuck" (C8.fnArgs s__law_stuck) (C8.fnBody s__law_stuck) (C8.fnScope s__law_stuck) [] [] f_d39 fd_d39)
    (a_d40 : PySem.W.nsIn K mainGlobals "_law_spoilt" = some (some (.ref f_d40)))
    (D_d40 : FunD K "_law_spoilt" "_law_spoilt" (C8.fnArgs s__law_spoilt) (C8.fnBody s__law_spoilt) (C8.fnScope s__law_spoilt) [] [] f_d40 fd_d40)
    (a_d41 : PySem.W.nsIn K mainGlobals "_law_told" = some (some (.ref f_d41)))
    (D_d41 : FunD K "_law_told" "_law_told" (C8.fnArgs s__law_told) (C8.fnBody s__law_told) (C8.fnScope s__law_told) [] [] f_d41 fd_d41)
    (a_d42 : PySem.W.nsIn K mainGlobals "_law_text" = some (some (.ref f_d42)))
    (D_d42 : FunD K "_law_text" "_law_text" (C8.fnArgs s__law_text) (C8.fnBody s__law_text) (C8.fnScope s__law_text) [] [] f_d42 fd_d42)
    (a_d43 : PySem.W.nsIn K mainGlobals "law" = some (some (.ref f_d43)))
    (D_d43 : FunD K "law" "law" (C8.fnArgs s_law) (C8.fnBody s_law) (C8.fnScope s_law) [] [] f_d43 fd_d43)
    (aC : PySem.W.nsIn K mainGlobals "Table" = some (some (.ref C)))
    (aCC : PySem.W.nsIn K mainGlobals "Condition" = some (some (.ref CC)))
    (aCB : PySem.W.nsIn K mainGlobals "BadCondition" = some (some (.ref CB)))
    (aCW : PySem.W.nsIn K mainGlobals "WrongToken" = some (some (.ref CW)))
    (aCS : PySem.W.nsIn K mainGlobals "BadStatement" = some (some (.ref CS)))
    (aCM : PySem.W.nsIn K mainGlobals "BadTable" = some (some (.ref CM)))
    (aCN : PySem.W.nsIn K mainGlobals "NewestrowError" = some (some (.ref CN)))
    (a_m0 : PySem.W.findIn K (.ref C) "__init__" = some (some (.ref f_m0)))
    (i_m0 : PySem.W.isFn K (.ref f_m0) = true)
    (D_m0 : FunD K "__init__" "Table.__init__" (C8.fnArgs s_Table____init__) (C8.fnBody s_Table____init__) (C8.fnScope s_Table____init__) [] [] f_m0 fd_m0)
    (a_m1 : PySem.W.findIn K (.ref C) "all_values" = some (some (.ref f_m1)))
    (i_m1 : PySem.W.isFn K (.ref f_m1) = true)
    (D_m1 : FunD K "all_values" "Table.all_values" (C8.fnArgs s_Table__all_values) (C8.fnBody s_Table__all_values) (C8.fnScope s_Table__all_values) [] [] f_m1 fd_m1)
    (a_m2 : PySem.W.findIn K (.ref CC) "__init__" = some (some (.ref f_m2)))
    (i_m2 : PySem.W.isFn K (.ref f_m2) = true)
    (D_m2 : FunD K "__init__" "Condition.__init__" (C8.fnArgs s_Condition____init__) (C8.fnBody s_Condition____init__) (C8.fnScope s_Condition____init__) [] [] f_m2 fd_m2)
    (a_m3 : PySem.W.findIn K (.ref CB) "__init__" = some (some (.ref f_m3)))
    (i_m3 : PySem.W.isFn K (.ref f_m3) = true)
    (D_m3 : FunD K "__init__" "BadCondition.__init__" (C8.fnArgs s_BadCondition____init__) (C8.fnBody s_BadCondition____init__) (C8.fnScope s_BadCondition____init__) [] [] f_m3 fd_m3)
    (a_m4 : PySem.W.findIn K (.ref CW) "__init__" = some (some (.ref f_m4)))
    (i_m4 : PySem.W.isFn K (.ref f_m4) = true)
    (D_m4 : FunD K "__init__" "WrongToken.__init__" (C8.fnArgs s_WrongToken____init__) (C8.fnBody s_WrongToken____init__) (C8.fnScope s_WrongToken____init__) [] [] f_m4 fd_m4)
    (pgC : PySem.W.plainGet K C Str.empty = true)
    (hdC : PySem.W.hasDictIn K C = true)
    (poC : PySem.W.plainOver K C = true)
    (saC : PySem.W.findIn K (.ref C) "__setattr__" = some (some (.builtin "object.__setattr__")))
    (mkC : PySem.W.makesIn K C = true)
    (kcC : PySem.W.keepIn K (.ref C) = true)
    (pgCC : PySem.W.plainGet K CC Str.empty = true)
    (hdCC : PySem.W.hasDictIn K CC = true)
    (poCC : PySem.W.plainOver K CC = true)
    (saCC : PySem.W.findIn K (.ref CC) "__setattr__" = some (some (.builtin "object.__setattr__")))
    (mkCC : PySem.W.makesIn K CC = true)
    (kcCC : PySem.W.keepIn K (.ref CC) = true)
    (nC_columns : PySem.W.findIn K (.ref C) "columns" = some none)
    (nC_tops : PySem.W.findIn K (.ref C) "tops" = some none)
    (nCC__meaning : PySem.W.findIn K (.ref CC) "_meaning" = some none)
    (nCC__text : PySem.W.findIn K (.ref CC) "_text" = some none)
    (nCC__table : PySem.W.findIn K (.ref CC) "_table" = some none)
    (nCC__bits : PySem.W.findIn K (.ref CC) "_bits" = some none)
    (nCB_at : PySem.W.findIn K (.ref CB) "at" = some none)
    (nCW_at : PySem.W.findIn K (.ref CW) "at" = some none)
    (hn : PySem.W.specialIn K (.builtin "object.__class__") "__get__" = some (some (.builtin "getset_descriptor.__get__")))
    (htk : PySem.W.takesIn K (.builtin "object.__class__") = some true)
    (oxCB : oexB K CB = true)
    (esaCB : PySem.W.findIn K (.ref CB) "__setattr__" = some (some (.builtin "object.__setattr__")))
    (eexCB : PySem.W.subIn K (.ref CB) (.type "BaseException") = some true)
    (etyCB : some (PySem.W.typeIn K (.ref CB)) = some (some (.type "type")))
    (ekcCB : PySem.W.keepIn K (.ref CB) = true)
    (egaCB : PySem.W.findIn K (.ref CB) "__getattribute__" = some (some (.builtin "BaseException.__getattribute__")))
    (egtCB : PySem.W.findIn K (.ref CB) "__getattr__" = some none)
    (ehdCB : PySem.W.hasDictIn K CB = true)
    (eclCB : (PySem.W.clsIn K CB).isSome = true)
    (ehaCB : PySem.W.findIn K (.ref CB) "__class__" = some (some (.builtin "object.__class__")))
    (emrCB : PySem.W.mroIn K CB (.type "object") = some true)
    (oxCW : oexB K CW = true)
    (esaCW : PySem.W.findIn K (.ref CW) "__setattr__" = some (some (.builtin "object.__setattr__")))
    (eexCW : PySem.W.subIn K (.ref CW) (.type "BaseException") = some true)
    (etyCW : some (PySem.W.typeIn K (.ref CW)) = some (some (.type "type")))
    (ekcCW : PySem.W.keepIn K (.ref CW) = true)
    (egaCW : PySem.W.findIn K (.ref CW) "__getattribute__" = some (some (.builtin "BaseException.__getattribute__")))
    (egtCW : PySem.W.findIn K (.ref CW) "__getattr__" = some none)
    (ehdCW : PySem.W.hasDictIn K CW = true)
    (eclCW : (PySem.W.clsIn K CW).isSome = true)
    (ehaCW : PySem.W.findIn K (.ref CW) "__class__" = some (some (.builtin "object.__class__")))
    (emrCW : PySem.W.mroIn K CW (.type "object") = some true)
    (guL : PySem.W.nsIn K mainGlobals "LETTERS" = some (some uL))
    (guD : PySem.W.nsIn K mainGlobals "DIGITS" = some (some uD))
    (gR : PySem.W.nsIn K mainGlobals "RESERVED" = some (some (.ref R)))
    (sqR : ∀ H : Hp, SqT K H R (RES.map V.str))
    (gS : PySem.W.nsIn K mainGlobals "SIGNS" = some (some (.ref S)))
    (sqS : ∀ H : Hp, SqT K H S ((["=", "!=", "<", "<=", ">", ">="] : List Str).map V.str))
    (gLS : PySem.W.nsIn K mainGlobals "LONG_SIGNS" = some (some (.ref LS)))
    (sqLS : ∀ H : Hp, SqT K H LS ((["!=", "<=", ">="] : List Str).map V.str))
    (tyB : some (PySem.W.typeIn K (.ref f_m3)) = some (some (.type "function")))
    (tyW : some (PySem.W.typeIn K (.ref f_m4)) = some (some (.type "function")))
    (exB : PySem.W.exmOne K (.ref CB) (.ref CB) = some true)
    (exW : PySem.W.exmOne K (.ref CW) (.ref CW) = some true)
    (kA : PySem.W.kitAny K (.ref CB) [.ref CS, .ref CM] = some false)
    (kN : PySem.W.kitOne K (.ref CB) (.ref CN) = some true)
    (z_len : PySem.W.nsIn K mainGlobals "len" = some none)
    (z_range : PySem.W.nsIn K mainGlobals "range" = some none)
    (z_abs : PySem.W.nsIn K mainGlobals "abs" = some none)
    (z_int : PySem.W.nsIn K mainGlobals "int" = some none)
    (z_str : PySem.W.nsIn K mainGlobals "str" = some none)
    (z_bool : PySem.W.nsIn K mainGlobals "bool" = some none)
    (z_tuple : PySem.W.nsIn K mainGlobals "tuple" = some none)
    (z_list : PySem.W.nsIn K mainGlobals "list" = some none)
    (z_isinstance : PySem.W.nsIn K mainGlobals "isinstance" = some none)
    (z_all : PySem.W.nsIn K mainGlobals "all" = some none)
    (z_any : PySem.W.nsIn K mainGlobals "any" = some none)
    (z_max : PySem.W.nsIn K mainGlobals "max" = some none)
    (z_min : PySem.W.nsIn K mainGlobals "min" = some none)
    (z_enumerate : PySem.W.nsIn K mainGlobals "enumerate" = some none)
    (z_zip : PySem.W.nsIn K mainGlobals "zip" = some none)
    (z_repr : PySem.W.nsIn K mainGlobals "repr" = some none)
    (z_sum : PySem.W.nsIn K mainGlobals "sum" = some none)
    (z_dict : PySem.W.nsIn K mainGlobals "dict" = some none)
    (ruL : RelV (.str LET) uL)
    (ruD : RelV (.str ("0123456789" : Str)) uD)
    :
    ∃ fd : FuncData, (∀ (s : Shared) (v : Value), BindsTo s fd ⟨[v], []⟩ [("_law_script", v)]) ∧ ∀ base : Heap, K.In base → base.Ns mainGlobals mg → FnOk P w K mg base C8.CX0 11 fa fd ["_law_script"] (spLaw K) := by
  have e := hfa.symm.trans (PySem.W.mg_of X G a_d43)
  cases e
  have n_len : mg "len" = none := PySem.W.mg_none_of X G z_len
  have n_range : mg "range" = none := PySem.W.mg_none_of X G z_range
  have n_abs : mg "abs" = none := PySem.W.mg_none_of X G z_abs
  have n_int : mg "int" = none := PySem.W.mg_none_of X G z_int
  have n_str : mg "str" = none := PySem.W.mg_none_of X G z_str
  have n_bool : mg "bool" = none := PySem.W.mg_none_of X G z_bool
  have n_tuple : mg "tuple" = none := PySem.W.mg_none_of X G z_tuple
  have n_list : mg "list" = none := PySem.W.mg_none_of X G z_list
  have n_isinstance : mg "isinstance" = none := PySem.W.mg_none_of X G z_isinstance
  have n_all : mg "all" = none := PySem.W.mg_none_of X G z_all
  have n_any : mg "any" = none := PySem.W.mg_none_of X G z_any
  have n_max : mg "max" = none := PySem.W.mg_none_of X G z_max
  have n_min : mg "min" = none := PySem.W.mg_none_of X G z_min
  have n_enumerate : mg "enumerate" = none := PySem.W.mg_none_of X G z_enumerate
  have n_zip : mg "zip" = none := PySem.W.mg_none_of X G z_zip
  have n_repr : mg "repr" = none := PySem.W.mg_none_of X G z_repr
  have n_sum : mg "sum" = none := PySem.W.mg_none_of X G z_sum
  have n_dict : mg "dict" = none := PySem.W.mg_none_of X G z_dict
  have gC := PySem.W.mg_of X G aC
  have gCC := PySem.W.mg_of X G aCC
  have gCB := PySem.W.mg_of X G aCB
  have gCW := PySem.W.mg_of X G aCW
  have gCS := PySem.W.mg_of X G aCS
  have gCM := PySem.W.mg_of X G aCM
  have gCN := PySem.W.mg_of X G aCN
  have F_d0 : C8.Def K mg "copied" s_copied f_d0 _ := ⟨fun_ofD D_d0, PySem.W.mg_of X G a_d0, D_d0.kp⟩
  have b_d0 : Binds K _ P_copied [] := D_d0.bindsN fun _ _ _ _ _ _ us hl => match us, hl with | [_], _ => rfl
  have F_d1 : C8.Def K mg "is_word" s_is_word f_d1 _ := ⟨fun_ofD D_d1, PySem.W.mg_of X G a_d1, D_d1.kp⟩
  have b_d1 : Binds K _ P_is_word [] := D_d1.bindsN fun _ _ _ _ _ _ us hl => match us, hl with | [_], _ => rfl
  have F_d2 : C8.Def K mg "is_number" s_is_number f_d2 _ := ⟨fun_ofD D_d2, PySem.W.mg_of X G a_d2, D_d2.kp⟩
  have b_d2 : Binds K _ P_is_number [] := D_d2.bindsN fun _ _ _ _ _ _ us hl => match us, hl with | [_], _ => rfl
  have F_d3 : C8.Def K mg "split_tokens" s_split_tokens f_d3 _ := ⟨fun_ofD D_d3, PySem.W.mg_of X G a_d3, D_d3.kp⟩
  have b_d3 : Binds K _ P_split_tokens [] := D_d3.bindsN fun _ _ _ _ _ _ us hl => match us, hl with | [_], _ => rfl
  have F_d4 : C8.Def K mg "token_end" s_token_end f_d4 _ := ⟨fun_ofD D_d4, PySem.W.mg_of X G a_d4, D_d4.kp⟩
  have b_d4 : Binds K _ P_token_end [] := D_d4.bindsN fun _ _ _ _ _ _ us hl => match us, hl with | [_, _], _ => rfl
  have F_d5 : C8.Def K mg "stretch_end" s_stretch_end f_d5 _ := ⟨fun_ofD D_d5, PySem.W.mg_of X G a_d5, D_d5.kp⟩
  have b_d5 : Binds K _ P_stretch_end [] := D_d5.bindsN fun _ _ _ _ _ _ us hl => match us, hl with | [_, _, _], _ => rfl
  have F_d6 : C8.Def K mg "joined_tokens" s_joined_tokens f_d6 _ := ⟨fun_ofD D_d6, PySem.W.mg_of X G a_d6, D_d6.kp⟩
  have b_d6 : Binds K _ P_joined_tokens [] := D_d6.bindsN fun _ _ _ _ _ _ us hl => match us, hl with | [_], _ => rfl
  have F_d7 : C8.Def K mg "read_sum" s_read_sum f_d7 _ := ⟨fun_ofD D_d7, PySem.W.mg_of X G a_d7, D_d7.kp⟩
  have b_d7 : Binds K _ P_read_sum [] := D_d7.bindsN fun _ _ _ _ _ _ us hl => match us, hl with | [_, _, _], _ => rfl
  have F_d8 : C8.Def K mg "read_term" s_read_term f_d8 _ := ⟨fun_ofD D_d8, PySem.W.mg_of X G a_d8, D_d8.kp⟩
  have b_d8 : Binds K _ P_read_term [] := D_d8.bindsN fun _ _ _ _ _ _ us hl => match us, hl with | [_, _, _], _ => rfl
  have F_d9 : C8.Def K mg "sum_value" s_sum_value f_d9 _ := ⟨fun_ofD D_d9, PySem.W.mg_of X G a_d9, D_d9.kp⟩
  have b_d9 : Binds K _ P_sum_value [] := D_d9.bindsN fun _ _ _ _ _ _ us hl => match us, hl with | [_, _], _ => rfl
  have F_d10 : C8.Def K mg "bits_for" s_bits_for f_d10 _ := ⟨fun_ofD D_d10, PySem.W.mg_of X G a_d10, D_d10.kp⟩
  have b_d10 : Binds K _ P_bits_for [] := D_d10.bindsN fun _ _ _ _ _ _ us hl => match us, hl with | [_, _], _ => rfl
  have F_d11 : C8.Def K mg "every_bit" s_every_bit f_d11 _ := ⟨fun_ofD D_d11, PySem.W.mg_of X G a_d11, D_d11.kp⟩
  have b_d11 : Binds K _ P_every_bit [] := D_d11.bindsN fun _ _ _ _ _ _ us hl => match us, hl with | [_], _ => rfl
  have F_d12 : C8.Def K mg "both" s_both f_d12 _ := ⟨fun_ofD D_d12, PySem.W.mg_of X G a_d12, D_d12.kp⟩
  have b_d12 : Binds K _ P_both [] := D_d12.bindsN fun _ _ _ _ _ _ us hl => match us, hl with | [_, _], _ => rfl
  have F_d13 : C8.Def K mg "either" s_either f_d13 _ := ⟨fun_ofD D_d13, PySem.W.mg_of X G a_d13, D_d13.kp⟩
  have b_d13 : Binds K _ P_either [] := D_d13.bindsN fun _ _ _ _ _ _ us hl => match us, hl with | [_, _], _ => rfl
  have F_d14 : C8.Def K mg "opposite" s_opposite f_d14 _ := ⟨fun_ofD D_d14, PySem.W.mg_of X G a_d14, D_d14.kp⟩
  have b_d14 : Binds K _ P_opposite [] := D_d14.bindsN fun _ _ _ _ _ _ us hl => match us, hl with | [_, _], _ => rfl
  have F_d15 : C8.Def K mg "compares" s_compares f_d15 _ := ⟨fun_ofD D_d15, PySem.W.mg_of X G a_d15, D_d15.kp⟩
  have b_d15 : Binds K _ P_compares [] := D_d15.bindsN fun _ _ _ _ _ _ us hl => match us, hl with | [_, _, _], _ => rfl
  have F_d16 : C8.Def K mg "read_comparison" s_read_comparison f_d16 _ := ⟨fun_ofD D_d16, PySem.W.mg_of X G a_d16, D_d16.kp⟩
  have b_d16 : Binds K _ P_read_comparison [] := D_d16.bindsN fun _ _ _ _ _ _ us hl => match us, hl with | [_, _, _], _ => rfl
  have F_d17 : C8.Def K mg "read_name" s_read_name f_d17 _ := ⟨fun_ofD D_d17, PySem.W.mg_of X G a_d17, D_d17.kp⟩
  have b_d17 : Binds K _ P_read_name [] := D_d17.bindsN fun _ _ _ _ _ _ us hl => match us, hl with | [_, _, _], _ => rfl
  have F_d18 : C8.Def K mg "read_plain" s_read_plain f_d18 _ := ⟨fun_ofD D_d18, PySem.W.mg_of X G a_d18, D_d18.kp⟩
  have b_d18 : Binds K _ P_read_plain [] := D_d18.bindsN fun _ _ _ _ _ _ us hl => match us, hl with | [_, _, _, _], _ => rfl
  have F_d19 : C8.Def K mg "with_atom" s_with_atom f_d19 _ := ⟨fun_ofD D_d19, PySem.W.mg_of X G a_d19, D_d19.kp⟩
  have b_d19 : Binds K _ P_with_atom [] := D_d19.bindsN fun _ _ _ _ _ _ us hl => match us, hl with | [_, _, _], _ => rfl
  have F_d20 : C8.Def K mg "whole_level" s_whole_level f_d20 _ := ⟨fun_ofD D_d20, PySem.W.mg_of X G a_d20, D_d20.kp⟩
  have b_d20 : Binds K _ P_whole_level [] := D_d20.bindsN fun _ _ _ _ _ _ us hl => match us, hl with | [_], _ => rfl
  have F_d21 : C8.Def K mg "read_condition" s_read_condition f_d21 _ := ⟨fun_ofD D_d21, PySem.W.mg_of X G a_d21, D_d21.kp⟩
  have b_d21 : Binds K _ P_read_condition [] := D_d21.bindsN fun _ _ _ _ _ _ us hl => match us, hl with | [_, _], _ => rfl
  have F_d22 : C8.Def K mg "is_integer" s_is_integer f_d22 _ := ⟨fun_ofD D_d22, PySem.W.mg_of X G a_d22, D_d22.kp⟩
  have b_d22 : Binds K _ P_is_integer [] := D_d22.bindsN fun _ _ _ _ _ _ us hl => match us, hl with | [_], _ => rfl
  have F_d23 : C8.Def K mg "is_tuple_of" s_is_tuple_of f_d23 _ := ⟨fun_ofD D_d23, PySem.W.mg_of X G a_d23, D_d23.kp⟩
  have b_d23 : Binds K _ P_is_tuple_of [] := D_d23.bindsN fun _ _ _ _ _ _ us hl => match us, hl with | [_, _], _ => rfl
  have F_d24 : C8.Def K mg "is_column" s_is_column f_d24 _ := ⟨fun_ofD D_d24, PySem.W.mg_of X G a_d24, D_d24.kp⟩
  have b_d24 : Binds K _ P_is_column [] := D_d24.bindsN fun _ _ _ _ _ _ us hl => match us, hl with | [_], _ => rfl
  have F_d25 : C8.Def K mg "_law_bag" s__law_bag f_d25 _ := ⟨fun_ofD D_d25, PySem.W.mg_of X G a_d25, D_d25.kp⟩
  have b_d25 : Binds K _ P__law_bag [] := D_d25.bindsN fun _ _ _ _ _ _ us hl => match us, hl with | [_, _], _ => rfl
  have F_d26 : C8.Def K mg "_law_take" s__law_take f_d26 _ := ⟨fun_ofD D_d26, PySem.W.mg_of X G a_d26, D_d26.kp⟩
  have b_d26 : Binds K _ P__law_take [] := D_d26.bindsN fun _ _ _ _ _ _ us hl => match us, hl with | [_, _], _ => rfl
  have F_d27 : C8.Def K mg "_law_of" s__law_of f_d27 _ := ⟨fun_ofD D_d27, PySem.W.mg_of X G a_d27, D_d27.kp⟩
  have b_d27 : Binds K _ P__law_of [] := D_d27.bindsN fun _ _ _ _ _ _ us hl => match us, hl with | [_, _], _ => rfl
  have F_d28 : C8.Def K mg "_law_columns" s__law_columns f_d28 _ := ⟨fun_ofD D_d28, PySem.W.mg_of X G a_d28, D_d28.kp⟩
  have b_d28 : Binds K _ P__law_columns [] := D_d28.bindsN fun _ _ _ _ _ _ us hl => match us, hl with | [_], _ => rfl
  have F_d29 : C8.Def K mg "_law_sum" s__law_sum f_d29 _ := ⟨fun_ofD D_d29, PySem.W.mg_of X G a_d29, D_d29.kp⟩
  have b_d29 : Binds K _ P__law_sum [] := D_d29.bindsN fun _ _ _ _ _ _ us hl => match us, hl with | [_, _], _ => rfl
  have F_d30 : C8.Def K mg "_law_sum_tokens" s__law_sum_tokens f_d30 _ := ⟨fun_ofD D_d30, PySem.W.mg_of X G a_d30, D_d30.kp⟩
  have b_d30 : Binds K _ P__law_sum_tokens [] := D_d30.bindsN fun _ _ _ _ _ _ us hl => match us, hl with | [_, _], _ => rfl
  have F_d31 : C8.Def K mg "_law_tree" s__law_tree f_d31 _ := ⟨fun_ofD D_d31, PySem.W.mg_of X G a_d31, D_d31.kp⟩
  have b_d31 : Binds K _ P__law_tree [] := D_d31.bindsN fun _ _ _ _ _ _ us hl => match us, hl with | [_, _, _], _ => rfl
  have F_d32 : C8.Def K mg "_law_tokens" s__law_tokens f_d32 _ := ⟨fun_ofD D_d32, PySem.W.mg_of X G a_d32, D_d32.kp⟩
  have b_d32 : Binds K _ P__law_tokens [] := D_d32.bindsN fun _ _ _ _ _ _ us hl => match us, hl with | [_, _, _], _ => rfl
  have F_d33 : C8.Def K mg "_law_spaced" s__law_spaced f_d33 _ := ⟨fun_ofD D_d33, PySem.W.mg_of X G a_d33, D_d33.kp⟩
  have b_d33 : Binds K _ P__law_spaced [] := D_d33.bindsN fun _ _ _ _ _ _ us hl => match us, hl with | [_, _], _ => rfl
  have F_d34 : C8.Def K mg "_law_split" s__law_split f_d34 _ := ⟨fun_ofD D_d34, PySem.W.mg_of X G a_d34, D_d34.kp⟩
  have b_d34 : Binds K _ P__law_split [] := D_d34.bindsN fun _ _ _ _ _ _ us hl => match us, hl with | [_], _ => rfl
  have F_d35 : C8.Def K mg "_law_is_word" s__law_is_word f_d35 _ := ⟨fun_ofD D_d35, PySem.W.mg_of X G a_d35, D_d35.kp⟩
  have b_d35 : Binds K _ P__law_is_word [] := D_d35.bindsN fun _ _ _ _ _ _ us hl => match us, hl with | [_], _ => rfl
  have F_d36 : C8.Def K mg "_law_is_number" s__law_is_number f_d36 _ := ⟨fun_ofD D_d36, PySem.W.mg_of X G a_d36, D_d36.kp⟩
  have b_d36 : Binds K _ P__law_is_number [] := D_d36.bindsN fun _ _ _ _ _ _ us hl => match us, hl with | [_], _ => rfl
  have F_d37 : C8.Def K mg "_law_is_term" s__law_is_term f_d37 _ := ⟨fun_ofD D_d37, PySem.W.mg_of X G a_d37, D_d37.kp⟩
  have b_d37 : Binds K _ P__law_is_term [] := D_d37.bindsN fun _ _ _ _ _ _ us hl => match us, hl with | [_, _], _ => rfl
  have F_d38 : C8.Def K mg "_law_next" s__law_next f_d38 _ := ⟨fun_ofD D_d38, PySem.W.mg_of X G a_d38, D_d38.kp⟩
  have b_d38 : Binds K _ P__law_next [] := D_d38.bindsN fun _ _ _ _ _ _ us hl => match us, hl with | [_, _, _, _], _ => rfl
  have F_d39 : C8.Def K mg "_law_stuck" s__law_stuck f_d39 _ := ⟨fun_ofD D_d39, PySem.W.mg_of X G a_d39, D_d39.kp⟩
  have b_d39 : Binds K _ P__law_stuck [] := D_d39.bindsN fun _ _ _ _ _ _ us hl => match us, hl with | [_, _, _], _ => rfl
  have F_d40 : C8.Def K mg "_law_spoilt" s__law_spoilt f_d40 _ := ⟨fun_ofD D_d40, PySem.W.mg_of X G a_d40, D_d40.kp⟩
  have b_d40 : Binds K _ P__law_spoilt [] := D_d40.bindsN fun _ _ _ _ _ _ us hl => match us, hl with | [_, _, _], _ => rfl
  have F_d41 : C8.Def K mg "_law_told" s__law_told f_d41 _ := ⟨fun_ofD D_d41, PySem.W.mg_of X G a_d41, D_d41.kp⟩
  have b_d41 : Binds K _ P__law_told [] := D_d41.bindsN fun _ _ _ _ _ _ us hl => match us, hl with | [_, _], _ => rfl
  have F_d42 : C8.Def K mg "_law_text" s__law_text f_d42 _ := ⟨fun_ofD D_d42, PySem.W.mg_of X G a_d42, D_d42.kp⟩
  have b_d42 : Binds K _ P__law_text [] := D_d42.bindsN fun _ _ _ _ _ _ us hl => match us, hl with | [_, _], _ => rfl
  have F_d43 : C8.Def K mg "law" s_law fa _ := ⟨fun_ofD D_d43, PySem.W.mg_of X G a_d43, D_d43.kp⟩
  have F_m0 : C8.Fun K "__init__" "Table.__init__" s_Table____init__ f_m0 _ := fun_ofD D_m0
  have b_m0 : Binds K _ P_Table____init__ [] := D_m0.bindsN fun _ _ _ _ _ _ us hl => match us, hl with | [_, _], _ => rfl
  have k_m0 := D_m0.kp
  have F_m1 : C8.Fun K "all_values" "Table.all_values" s_Table__all_values f_m1 _ := fun_ofD D_m1
  have b_m1 : Binds K _ P_Table__all_values [] := D_m1.bindsN fun _ _ _ _ _ _ us hl => match us, hl with | [_], _ => rfl
  have k_m1 := D_m1.kp
  have F_m2 : C8.Fun K "__init__" "Condition.__init__" s_Condition____init__ f_m2 _ := fun_ofD D_m2
  have b_m2 : Binds K _ P_Condition____init__ [] := D_m2.bindsN fun _ _ _ _ _ _ us hl => match us, hl with | [_, _, _], _ => rfl
  have k_m2 := D_m2.kp
  have F_m3 : C8.Fun K "__init__" "BadCondition.__init__" s_BadCondition____init__ f_m3 _ := fun_ofD D_m3
  have b_m3 : Binds K _ P_BadCondition____init__ [] := D_m3.bindsN fun _ _ _ _ _ _ us hl => match us, hl with | [_, _], _ => rfl
  have k_m3 := D_m3.kp
  have F_m4 : C8.Fun K "__init__" "WrongToken.__init__" s_WrongToken____init__ f_m4 _ := fun_ofD D_m4
  have b_m4 : Binds K _ P_WrongToken____init__ [] := D_m4.bindsN fun _ _ _ _ _ _ us hl => match us, hl with | [_, _], _ => rfl
  have k_m4 := D_m4.kp
  refine ⟨fd_d43, fun s v => D_d43.bindsA (ps := ["_law_script"]) (fun _ _ _ _ _ _ us hl => match us, hl with | [_], _ => rfl) s [v] rfl, fun base _ _ => ?_⟩
  have T : Names K mg := ⟨n_len, n_range, n_abs, n_int, n_str, n_bool, n_tuple, n_list, n_isinstance, n_all, n_any, n_max, n_min, n_enumerate, n_zip, n_repr, ⟨_, PySem.W.mg_of X G guL, ruL⟩, R, ⟨_, PySem.W.mg_of X G gR, rfl⟩, sqR⟩
  have TN : TextNames mg := ⟨⟨_, PySem.W.mg_of X G guD, ruD⟩, n_sum⟩
  have g_LONG : ∃ (a : Addr), (∃ u, mg "LONG_SIGNS" = some u ∧ RelV (.ref a) u) ∧ ∀ H : Hp, SqT K H a ((["!=", "<=", ">="] : List Str).map V.str) := ⟨LS, ⟨_, PySem.W.mg_of X G gLS, rfl⟩, sqLS⟩
  have g_SIGNS : ∃ (a : Addr), (∃ u, mg "SIGNS" = some u ∧ RelV (.ref a) u) ∧ ∀ H : Hp, SqT K H a (SIG.map V.str) := ⟨S, ⟨_, PySem.W.mg_of X G gS, rfl⟩, sqS⟩
  have TC : TabC K mg C := ⟨⟨pgC, hdC, poC, saC⟩, nC_columns, nC_tops⟩
  have CF : CondC K CC := ⟨⟨pgCC, hdCC, poCC, saCC⟩, nCC__meaning, nCC__text, nCC__table, nCC__bits⟩
  have c_take : C8.Cal P w K mg base 1 "_law_take" spTake [] := take F_d26 b_d26 T
  have s_take : C8.Cal P w K mg base 1 "_law_take" SpTake [] := Cal.imp c_take fun _ _ _ _ h => h.ex
  have c_bag : C8.Cal P w K mg base 1 "_law_bag" (spBag K) [] := bag F_d25 b_d25 T
  have c_of : C8.Cal P w K mg base 2 "_law_of" spOf [] := of_ F_d27 b_d27 T c_take
  have s_of : C8.Cal P w K mg base 2 "_law_of" SpOf [] := Cal.imp c_of fun _ _ _ _ h => h.ex
  have c_columns : C8.Cal P w K mg base 2 "_law_columns" spColumns [] := columns F_d28 b_d28 T c_take
  have c_int : C8.Cal P w K mg base 1 "is_integer" spIsInt [] := isInteger F_d22 b_d22 T
  have c_tup : C8.Cal P w K mg base 1 "is_tuple_of" spTupOf [] := isTupleOf F_d23 b_d23 T
  have c_word : C8.Cal P w K mg base 1 "is_word" spWord [] := isWord_ F_d1 b_d1 T
  have c_col : C8.Cal P w K mg base 2 "is_column" spCol [] := isColumn F_d24 b_d24 T c_word c_int c_tup
  have m_T : C8.Mak P w K mg base 3 "Table" C (spInitF C) [] := tInit F_m0 b_m0 ⟨mkC, a_m0, i_m0, kcC⟩ gC T TC c_col
  have m_all : C8.Met P w K mg base 1 C "all_values" (spAllValuesF C) [] := tAll F_m1 b_m1 TC ⟨a_m1, i_m1, k_m1⟩ T
  have c_bits : C8.Cal P w K mg base 1 "bits_for" (spBits P w) [] := bitsFor F_d10 b_d10
  have c_both : C8.Cal P w K mg base 2 "both" (spTwo P w Builtin.bitAnd) [] := both_ F_d12 b_d12 c_bits
  have c_either : C8.Cal P w K mg base 2 "either" (spTwo P w Builtin.bitOr) [] := either_ F_d13 b_d13 c_bits
  have c_opp : C8.Cal P w K mg base 1 "opposite" (spOpp P w) [] := opposite_ F_d14 b_d14
  have c_st : C8.Cal P w K mg base 1 "stretch_end" spStretch [] := stretchEnd F_d5 b_d5 T
  have c_te : C8.Cal P w K mg base 2 "token_end" spTokEnd [] := tokenEnd F_d4 b_d4 T TN g_LONG c_st
  have c_split : C8.Cal P w K mg base 3 "split_tokens" spSplit [] := splitTokens F_d3 b_d3 T c_te
  have c_num : C8.Cal P w K mg base 1 "is_number" spIsNum [] := isNumber F_d2 b_d2 T TN
  have c_term : C8.Cal P w K mg base 2 "read_term" spReadTerm [] := readTerm F_d8 b_d8 T c_num
  have c_sum : C8.Cal P w K mg base 3 "read_sum" spReadSum [] := readSum F_d7 b_d7 T c_term
  have c_sv : C8.Cal P w K mg base 1 "sum_value" spSumV [] := sumValue F_d9 b_d9 T TN
  have c_cmp : C8.Cal P w K mg base 1 "compares" spCompares [] := compares_ F_d15 b_d15
  have c_every : C8.Cal P w K mg base 2 "every_bit" (spEvery C) [] := everyBit F_d11 b_d11 T TC m_all
  have c_rc : C8.Cal P w K mg base 4 "read_comparison" (spReadCmp P w C) [] := readComparison F_d16 b_d16 T TN TC g_SIGNS c_sum c_cmp c_sv m_all
  have c_rn : C8.Cal P w K mg base 2 "read_name" (spReadName P w) [] := readName F_d17 b_d17 T c_word
  have c_plain : C8.Cal P w K mg base 5 "read_plain" (spPlain P w C) [] := readPlain F_d18 b_d18 T c_rn c_rc
  have c_wl : C8.Cal P w K mg base 3 "whole_level" (spWhole P w) [] := wholeLevel F_d20 b_d20 c_either
  have c_wa : C8.Cal P w K mg base 3 "with_atom" (spWith P w) [] := withAtom F_d19 b_d19 c_both c_opp
  have c_rcond : C8.Cal P w K mg base 6 "read_condition" (spReadCond P w C) [] := readCondition F_d21 b_d21 T c_every c_plain c_wa c_wl
  have c_join : C8.Cal P w K mg base 1 "joined_tokens" spJoin [] := joinedTokens F_d6 b_d6 T
  have M_C : Mk K CC f_m2 := ⟨mkCC, a_m2, i_m2, kcCC⟩
  have m_C : C8.Mak P w K mg base 7 "Condition" CC (spCond P w C CC) [] := cInit F_m2 b_m2 M_C gCC T CF c_split c_rcond c_join m_all
  have OCB : OexC K CB := ⟨oexB_ok oxCB, esaCB, eexCB, Option.some.inj etyCB, ekcCB⟩
  have OCW : OexC K CW := ⟨oexB_ok oxCW, esaCW, eexCW, Option.some.inj etyCW, ekcCW⟩
  have F_W : FnOk P w K mg base C8.CX0 1 f_m4 _ P_WrongToken____init__ (spErrP CW) := wtInit F_m4 OCW nCW_at
  have WT_ : WT P w K mg base CW := ⟨f_m4, _, OCW, a_m4, Option.some.inj tyW, F_W, b_m4, gCW⟩
  have c_cop : C8.Cal P w K mg base 1 "copied" spCopI [] := copiedI F_d0 b_d0 T n_dict
  have h_cop := copiedH (P := P) (w := w) (base := base) F_d0 T n_dict
  have F_B : FnOk P w K mg base C8.CX0 2 f_m3 _ P_BadCondition____init__ (spErrP CB) := bcInit F_m3 OCB nCB_at c_cop
  have H_B := bcInitH (P := P) (w := w) (base := base) F_m3 OCB nCB_at h_cop (PySem.W.mg_of X G a_d0) D_d0.kp b_d0
  have BC_ : BC P w K mg base CB := ⟨f_m3, _, OCB, a_m3, Option.some.inj tyB, F_B, H_B, b_m3, gCB⟩
  have WC_ : WC K mg CW := ⟨⟨egaCW, egtCW, eexCW, ehdCW⟩, nCW_at, gCW, exW⟩
  have x_term := readTermF F_d8 b_d8 T WT_ c_num
  have x_sum := readSumF F_d7 b_d7 T c_term x_term
  have x_name := readNameF F_d17 b_d17 T WT_ c_word
  have x_cmp := readComparisonF F_d16 b_d16 T TN TC WT_ g_SIGNS c_sum x_sum c_cmp c_sv m_all
  have x_plain := readPlainF F_d18 b_d18 T c_rn x_name c_rc x_cmp
  have x_cond := readConditionF F_d21 b_d21 T WT_ c_every c_plain x_plain c_wa c_wl
  have F_CX : FnOk P w K mg base (L2.CX P w) 8 f_m2 _ P_Condition____init__ (spCondXF C CC CB) := cInitF F_m2 T CF BC_ WC_ c_split c_rcond x_cond c_join m_all
  have TE : ErrT K mg CB CS CM CN := ⟨⟨eclCB, egaCB, egtCB, eexCB, ehaCB, hn, htk, emrCB⟩, ⟨egaCB, egtCB, eexCB, ehdCB⟩, nCB_at, gCB, gCS, gCM, gCN, exB, kA, kN⟩
  have c_told : C8.Cal P w K mg base 10 "_law_told" (spTold4 C) [] := lTold F_d41 b_d41 T TE m_C M_C F_CX b_m2 gCC
  have c_lsum : C8.Cal P w K mg base 3 "_law_sum" spLSum [] := lSum F_d29 b_d29 T c_take c_of
  have c_ltok : C8.Cal P w K mg base 1 "_law_sum_tokens" spSumTok [] := lSumTok F_d30 b_d30 T
  have c_tree : C8.Cal P w K mg base 5 "_law_tree" (spTree 1) [] := lTree F_d31 b_d31 T s_take s_of c_lsum 1
  have c_tokens : C8.Cal P w K mg base 3 "_law_tokens" (spTokens 1) [] := lTokens F_d32 b_d32 T c_ltok 1 (by decide)
  have c_spaced : C8.Cal P w K mg base 3 "_law_spaced" SpacedA [] := lSpacedA F_d33 b_d33 T s_take s_of
  have c_spoilt : C8.Cal P w K mg base 3 "_law_spoilt" Spoilt [] := lSpoilt F_d40 b_d40 T s_take s_of
  have c_text : C8.Cal P w K mg base 6 "_law_text" spLText [] := lText F_d42 b_d42 T s_take s_of c_tree c_tokens c_spaced c_spoilt
  have c_lsplit : C8.Cal P w K mg base 1 "_law_split" spSplit [] := lSplit F_d34 b_d34 T
  have c_lw : C8.Cal P w K mg base 1 "_law_is_word" spLWord [] := lIsWord F_d35 b_d35 T
  have c_ln : C8.Cal P w K mg base 1 "_law_is_number" spIsNum [] := lIsNumber F_d36 b_d36 T
  have c_lt : C8.Cal P w K mg base 2 "_law_is_term" spLTerm [] := lIsTerm F_d37 b_d37 T c_ln
  have c_next : C8.Cal P w K mg base 3 "_law_next" spNext [] := lNext F_d38 b_d38 T c_lw c_lt
  have c_stuck : C8.Cal P w K mg base 4 "_law_stuck" spStuck [] := lStuck F_d39 b_d39 T c_next
  exact lLaw F_d43 T c_bag c_columns m_T c_text c_told c_lsplit c_stuck
theorem hd_facts {P : Program} {w : World} {K : PySem.W.Frag} {h : Heap} {mg : Str → Option Value} {fa : Addr} (X : K.In h) (G : h.Ns mainGlobals mg) (hfa : mg "law" = some (.ref fa)) (c : ToldN hdFs hdDs hdTs w K) :
    ∃ fd : FuncData, (∀ (s : Shared) (v : Value), BindsTo s fd ⟨[v], []⟩ [("_law_script", v)]) ∧ ∀ base : Heap, K.In base → base.Ns mainGlobals mg → FnOk P w K mg base C8.CX0 11 fa fd ["_law_script"] (spLaw K) := by
  obtain ⟨fd_d0, D_d0⟩ := c.fn 0 hdD0 rfl
  obtain ⟨fd_d1, D_d1⟩ := c.fn 1 hdD1 rfl
  obtain ⟨fd_d2, D_d2⟩ := c.fn 2 hdD2 rfl
  obtain ⟨fd_d3, D_d3⟩ := c.fn 3 hdD3 rfl
  obtain ⟨fd_d4, D_d4⟩ := c.fn 4 hdD4 rfl
  obtain ⟨fd_d5, D_d5⟩ := c.fn 5 hdD5 rfl
  obtain ⟨fd_d6, D_d6⟩ := c.fn 6 hdD6 rfl
  obtain ⟨fd_d7, D_d7⟩ := c.fn 7 hdD7 rfl
  obtain ⟨fd_d8, D_d8⟩ := c.fn 8 hdD8 rfl
  obtain ⟨fd_d9, D_d9⟩ := c.fn 9 hdD9 rfl
  obtain ⟨fd_d10, D_d10⟩ := c.fn 10 hdD10 rfl
  obtain ⟨fd_d11, D_d11⟩ := c.fn 11 hdD11 rfl
  obtain ⟨fd_d12, D_d12⟩ := c.fn 12 hdD12 rfl
  obtain ⟨fd_d13, D_d13⟩ := c.fn 13 hdD13 rfl
  obtain ⟨fd_d14, D_d14⟩ := c.fn 14 hdD14 rfl
  obtain ⟨fd_d15, D_d15⟩ := c.fn 15 hdD15 rfl
  obtain ⟨fd_d16, D_d16⟩ := c.fn 16 hdD16 rfl
  obtain ⟨fd_d17, D_d17⟩ := c.fn 17 hdD17 rfl
  obtain ⟨fd_d18, D_d18⟩ := c.fn 18 hdD18 rfl
  obtain ⟨fd_d19, D_d19⟩ := c.fn 19 hdD19 rfl
  obtain ⟨fd_d20, D_d20⟩ := c.fn 20 hdD20 rfl
  obtain ⟨fd_d21, D_d21⟩ := c.fn 21 hdD21 rfl
  obtain ⟨fd_d22, D_d22⟩ := c.fn 22 hdD22 rfl
  obtain ⟨fd_d23, D_d23⟩ := c.fn 23 hdD23 rfl
  obtain ⟨fd_d24, D_d24⟩ := c.fn 24 hdD24 rfl
  obtain ⟨fd_d25, D_d25⟩ := c.fn 25 hdD25 rfl
  obtain ⟨fd_d26, D_d26⟩ := c.fn 26 hdD26 rfl
  obtain ⟨fd_d27, D_d27⟩ := c.fn 27 hdD27 rfl
  obtain ⟨fd_d28, D_d28⟩ := c.fn 28 hdD28 rfl
  obtain ⟨fd_d29, D_d29⟩ := c.fn 29 hdD29 rfl
  obtain ⟨fd_d30, D_d30⟩ := c.fn 30 hdD30 rfl
  obtain ⟨fd_d31, D_d31⟩ := c.fn 31 hdD31 rfl
  obtain ⟨fd_d32, D_d32⟩ := c.fn 32 hdD32 rfl
  obtain ⟨fd_d33, D_d33⟩ := c.fn 33 hdD33 rfl
  obtain ⟨fd_d34, D_d34⟩ := c.fn 34 hdD34 rfl
  obtain ⟨fd_d35, D_d35⟩ := c.fn 35 hdD35 rfl
  obtain ⟨fd_d36, D_d36⟩ := c.fn 36 hdD36 rfl
  obtain ⟨fd_d37, D_d37⟩ := c.fn 37 hdD37 rfl
  obtain ⟨fd_d38, D_d38⟩ := c.fn 38 hdD38 rfl
  obtain ⟨fd_d39, D_d39⟩ := c.fn 39 hdD39 rfl
  obtain ⟨fd_d40, D_d40⟩ := c.fn 40 hdD40 rfl
  obtain ⟨fd_d41, D_d41⟩ := c.fn 41 hdD41 rfl
  obtain ⟨fd_d42, D_d42⟩ := c.fn 42 hdD42 rfl
  obtain ⟨fd_d43, D_d43⟩ := c.fn 43 hdD43 rfl
  obtain ⟨fd_m0, D_m0⟩ := c.fn 44 hdD44 rfl
  obtain ⟨fd_m1, D_m1⟩ := c.fn 45 hdD45 rfl
  obtain ⟨fd_m2, D_m2⟩ := c.fn 46 hdD46 rfl
  obtain ⟨fd_m3, D_m3⟩ := c.fn 47 hdD47 rfl
  obtain ⟨fd_m4, D_m4⟩ := c.fn 48 hdD48 rfl
  obtain ⟨uL, q_uL, r_uL⟩ := rvB_ok (c.test 105 hdF105 rfl)
  obtain ⟨uD, q_uD, r_uD⟩ := rvB_ok (c.test 106 hdF106 rfl)
  exact all_mk X G hfa (He.eqO_ok (c.test 0 hdF0 rfl)) D_d0 (He.eqO_ok (c.test 1 hdF1 rfl)) D_d1 (He.eqO_ok (c.test 2 hdF2 rfl)) D_d2 (He.eqO_ok (c.test 3 hdF3 rfl)) D_d3 (He.eqO_ok (c.test 4 hdF4 rfl)) D_d4 (He.eqO_ok (c.test 5 hdF5 rfl)) D_d5 (He.eqO_ok (c.test 6 hdF6 rfl)) D_d6 (He.eqO_ok (c.test 7 hdF7 rfl)) D_d7 (He.eqO_ok (c.test 8 hdF8 rfl)) D_d8 (He.eqO_ok (c.test 9 hdF9 rfl)) D_d9 (He.eqO_ok (c.test 10 hdF10 rfl)) D_d10 (He.eqO_ok (c.test 11 hdF11 rfl)) D_d11 (He.eqO_ok (c.test 12 hdF12 rfl)) D_d12 (He.eqO_ok (c.test 13 hdF13 rfl)) D_d13 (He.eqO_ok (c.test 14 hdF14 rfl)) D_d14 (He.eqO_ok (c.test 15 hdF15 rfl)) D_d15 (He.eqO_ok (c.test 16 hdF16 rfl)) D_d16 (He.eqO_ok (c.test 17 hdF17 rfl)) D_d17 (He.eqO_ok (c.test 18 hdF18 rfl)) D_d18 (He.eqO_ok (c.test 19 hdF19 rfl)) D_d19 (He.eqO_ok (c.test 20 hdF20 rfl)) D_d20 (He.eqO_ok (c.test 21 hdF21 rfl)) D_d21 (He.eqO_ok (c.test 22 hdF22 rfl)) D_d22 (He.eqO_ok (c.test 23 hdF23 rfl)) D_d23 (He.eqO_ok (c.test 24 hdF24 rfl)) D_d24 (He.eqO_ok (c.test 25 hdF25 rfl)) D_d25 (He.eqO_ok (c.test 26 hdF26 rfl)) D_d26 (He.eqO_ok (c.test 27 hdF27 rfl)) D_d27 (He.eqO_ok (c.test 28 hdF28 rfl)) D_d28 (He.eqO_ok (c.test 29 hdF29 rfl)) D_d29 (He.eqO_ok (c.test 30 hdF30 rfl)) D_d30 (He.eqO_ok (c.test 31 hdF31 rfl)) D_d31 (He.eqO_ok (c.test 32 hdF32 rfl)) D_d32 (He.eqO_ok (c.test 33 hdF33 rfl)) D_d33 (He.eqO_ok (c.test 34 hdF34 rfl)) D_d34 (He.eqO_ok (c.test 35 hdF35 rfl)) D_d35 (He.eqO_ok (c.test 36 hdF36 rfl)) D_d36 (He.eqO_ok (c.test 37 hdF37 rfl)) D_d37 (He.eqO_ok (c.test 38 hdF38 rfl)) D_d38 (He.eqO_ok (c.test 39 hdF39 rfl)) D_d39 (He.eqO_ok (c.test 40 hdF40 rfl)) D_d40 (He.eqO_ok (c.test 41 hdF41 rfl)) D_d41 (He.eqO_ok (c.test 42 hdF42 rfl)) D_d42 (He.eqO_ok (c.test 43 hdF43 rfl)) D_d43 (He.eqO_ok (c.test 44 hdF44 rfl)) (He.eqO_ok (c.test 45 hdF45 rfl)) (He.eqO_ok (c.test 46 hdF46 rfl)) (He.eqO_ok (c.test 47 hdF47 rfl)) (He.eqO_ok (c.test 48 hdF48 rfl)) (He.eqO_ok (c.test 49 hdF49 rfl)) (He.eqO_ok (c.test 50 hdF50 rfl)) (He.eqO_ok (c.test 51 hdF51 rfl)) (c.test 52 hdF52 rfl) D_m0 (He.eqO_ok (c.test 53 hdF53 rfl)) (c.test 54 hdF54 rfl) D_m1 (He.eqO_ok (c.test 55 hdF55 rfl)) (c.test 56 hdF56 rfl) D_m2 (He.eqO_ok (c.test 57 hdF57 rfl)) (c.test 58 hdF58 rfl) D_m3 (He.eqO_ok (c.test 59 hdF59 rfl)) (c.test 60 hdF60 rfl) D_m4 (c.test 61 hdF61 rfl) (c.test 62 hdF62 rfl) (c.test 63 hdF63 rfl) (He.eqO_ok (c.test 64 hdF64 rfl)) (c.test 65 hdF65 rfl) (c.test 66 hdF66 rfl) (c.test 67 hdF67 rfl) (c.test 68 hdF68 rfl) (c.test 69 hdF69 rfl) (He.eqO_ok (c.test 70 hdF70 rfl)) (c.test 71 hdF71 rfl) (c.test 72 hdF72 rfl) (He.eqO_ok (c.test 73 hdF73 rfl)) (He.eqO_ok (c.test 74 hdF74 rfl)) (He.eqO_ok (c.test 75 hdF75 rfl)) (He.eqO_ok (c.test 76 hdF76 rfl)) (He.eqO_ok (c.test 77 hdF77 rfl)) (He.eqO_ok (c.test 78 hdF78 rfl)) (He.eqO_ok (c.test 79 hdF79 rfl)) (He.eqO_ok (c.test 80 hdF80 rfl)) (He.eqO_ok (c.test 81 hdF81 rfl)) (of_decide_eq_true (c.test 82 hdF82 rfl)) (c.test 83 hdF83 rfl) (He.eqO_ok (c.test 84 hdF84 rfl)) (of_decide_eq_true (c.test 85 hdF85 rfl)) (He.eqO_ok (c.test 86 hdF86 rfl)) (c.test 87 hdF87 rfl) (He.eqO_ok (c.test 88 hdF88 rfl)) (He.eqO_ok (c.test 89 hdF89 rfl)) (c.test 90 hdF90 rfl) (c.test 91 hdF91 rfl) (He.eqO_ok (c.test 92 hdF92 rfl)) (of_decide_eq_true (c.test 93 hdF93 rfl)) (c.test 94 hdF94 rfl) (He.eqO_ok (c.test 95 hdF95 rfl)) (of_decide_eq_true (c.test 96 hdF96 rfl)) (He.eqO_ok (c.test 97 hdF97 rfl)) (c.test 98 hdF98 rfl) (He.eqO_ok (c.test 99 hdF99 rfl)) (He.eqO_ok (c.test 100 hdF100 rfl)) (c.test 101 hdF101 rfl) (c.test 102 hdF102 rfl) (He.eqO_ok (c.test 103 hdF103 rfl)) (of_decide_eq_true (c.test 104 hdF104 rfl)) q_uL q_uD (He.eqO_ok (c.test 107 hdF107 rfl)) (fun H => He.tupB_ok (c.test 108 hdF108 rfl) H) (He.eqO_ok (c.test 109 hdF109 rfl)) (fun H => He.tupB_ok (c.test 110 hdF110 rfl) H) (He.eqO_ok (c.test 111 hdF111 rfl)) (fun H => He.tupB_ok (c.test 112 hdF112 rfl) H) (He.eqO_ok (c.test 113 hdF113 rfl)) (He.eqO_ok (c.test 114 hdF114 rfl)) (of_decide_eq_true (c.test 115 hdF115 rfl)) (of_decide_eq_true (c.test 116 hdF116 rfl)) (of_decide_eq_true (c.test 117 hdF117 rfl)) (of_decide_eq_true (c.test 118 hdF118 rfl)) (He.eqO_ok (c.test 119 hdF119 rfl)) (He.eqO_ok (c.test 120 hdF120 rfl)) (He.eqO_ok (c.test 121 hdF121 rfl)) (He.eqO_ok (c.test 122 hdF122 rfl)) (He.eqO_ok (c.test 123 hdF123 rfl)) (He.eqO_ok (c.test 124 hdF124 rfl)) (He.eqO_ok (c.test 125 hdF125 rfl)) (He.eqO_ok (c.test 126 hdF126 rfl)) (He.eqO_ok (c.test 127 hdF127 rfl)) (He.eqO_ok (c.test 128 hdF128 rfl)) (He.eqO_ok (c.test 129 hdF129 rfl)) (He.eqO_ok (c.test 130 hdF130 rfl)) (He.eqO_ok (c.test 131 hdF131 rfl)) (He.eqO_ok (c.test 132 hdF132 rfl)) (He.eqO_ok (c.test 133 hdF133 rfl)) (He.eqO_ok (c.test 134 hdF134 rfl)) (He.eqO_ok (c.test 135 hdF135 rfl)) (He.eqO_ok (c.test 136 hdF136 rfl)) r_uL r_uD
end Nw
open PySem PySem.W PySem.Calls PyProof.Rows in
set_option maxRecDepth 100000 in
set_option maxHeartbeats 0 in
theorem PySem.Challenge.cw_newestrow_k04_conditions_refused_holds : PySem.Challenge.rw_newestrow_k04_conditions_refused.Holds := by
  w_on; o_law
  refine HandSHeadRun.head_any (r := Nw.hdR) (q := Nw.hdQ) (H := Nw.hdK) (ob := Nw.hdO) (M := 9000) (loose := Nw.hdN) (d := HandSHeadRun.topDef Nw.hdR.prog 62) (kwd := []) Nw.hdO_eq
    (by kernel_rfl) (fun s => by kernel_rfl) Nw.hd_run (by kernel_rfl) (by kernel_rfl) (by kernel_rfl) (by rfl) (by first | assumption | decide +kernel) (by decide +kernel) ⟨rfl, rfl, rfl, rfl, rfl, by decide +kernel⟩ ?hw ?hc
  case hw => w_witness2
  case hc =>
    refine L2.walk_ofE (l := PySem.Challenge.rw_newestrow_k04_conditions_refused) (n := 63) (k := 11) (x := "_law_script") (CX := C8.CX0) rfl (by decide) (by kernel_rfl) ⟨rfl, by decide, by decide⟩ ?F (fun _ _ _ _ z => z)
    intro w mg fa h Y G hmg0
    obtain ⟨K, KX, c⟩ := Y
    have hmg : mg ("law" : PySem.Str) = some (.ref fa) := by
      have e : (HandSHeadRun.topDef Nw.hdR.prog 62).name = ("law" : PySem.Str) := by kernel_rfl
      rw [← e]
      exact hmg0
    obtain ⟨fd, hb, hF⟩ := Nw.hd_facts (P := (PySem.Challenge.rw_newestrow_k04_conditions_refused).prog) (w := w) KX G hmg c
    exact ⟨K, fd, Nw.spLaw K, KX, hb, fun H a ns hl _ hS => ⟨a, ns, rfl, hS, hl, fun _ => rfl⟩, hF⟩
