import PyProof.Rows.All
import Wide.All
import OpenK.AllK
import Wide.FinOn
import HandS.ForMost
import HandS.EndBits
import HandS.Evl
import HandS.Codes
import HandS.Gcd
import HandS.Wide
import HandS.Strs
import HandS.SetFor
import HandS.Zip
import HandS.IsInst
import HandS.Deep
import HandS.More
import HandS.Style
import HandS.Walk
import HandS.SetBool
import HandS.Conv
import HandS.WordsExc
import HandS.ExcIs
import PySem.Challenge.RW_linehold_k05_refused
set_option Elab.async false
set_option linter.all false
set_option maxRecDepth 100000
set_option maxHeartbeats 4000000
namespace LH
open PySem PySem.Spec PyProof.Rows L2
/-! ### sets of whole numbers, out of a list -/
/-- a list's members, each once -/
def dd : List Int → List Int
  | [] => []
  | x :: r => if x ∈ dd r then dd r else x :: dd r
theorem dd_mem {k : Int} : ∀ {l : List Int}, k ∈ dd l ↔ k ∈ l
  | [] => Iff.rfl
  | x :: r => by
    have ih := dd_mem (k := k) (l := r)
    unfold dd
    by_cases h : x ∈ dd r
    · rw [if_pos h, List.mem_cons, ih]
      constructor
      · exact Or.inr
      · rintro (rfl | e)
        · exact dd_mem.mp h
        · exact e
    · rw [if_neg h, List.mem_cons, List.mem_cons, ih]
theorem dd_nodup : ∀ l : List Int, (dd l).Nodup
  | [] => List.nodup_nil
  | x :: r => by
    unfold dd
    by_cases h : x ∈ dd r
    · rw [if_pos h]
      exact dd_nodup r
    · rw [if_neg h]
      exact List.nodup_cons.mpr ⟨h, dd_nodup r⟩
theorem dd_le : ∀ l : List Int, (dd l).length ≤ l.length
  | [] => Nat.le_refl _
  | x :: r => by
    have ih := dd_le r
    unfold dd
    split
    · exact Nat.le_succ_of_le ih
    · exact Nat.succ_le_succ ih
theorem dd_id : ∀ {l : List Int}, l.Nodup → dd l = l
  | [], _ => rfl
  | x :: r, h => by
    obtain ⟨h1, h2⟩ := List.nodup_cons.mp h
    unfold dd
    rw [dd_id h2, if_neg h1]
theorem dd_lt : ∀ {l : List Int}, ¬ l.Nodup → (dd l).length < l.length
  | [], h => absurd List.nodup_nil h
  | x :: r, h => by
    unfold dd
    by_cases hx : x ∈ dd r
    · rw [if_pos hx]
      exact Nat.lt_succ_of_le (dd_le r)
    · rw [if_neg hx]
      have h2 : ¬ r.Nodup := fun z => h (List.nodup_cons.mpr ⟨fun e => hx (dd_mem.mpr e), z⟩)
      exact Nat.succ_lt_succ (dd_lt h2)
theorem dd_len_iff (l : List Int) : (dd l).length = l.length ↔ l.Nodup := by
  constructor
  · intro e
    by_cases h : l.Nodup
    · exact h
    · have := dd_lt h
      omega
  · intro h
    rw [dd_id h]
/-- a list without repetitions of the same members has as many -/
theorem dd_len_of {l ks : List Int} (h : ks.Nodup) (m : ∀ k, k ∈ ks ↔ k ∈ l) : ks.length = (dd l).length :=
  ((List.perm_ext_iff_of_nodup h (dd_nodup l)).mpr fun k => (m k).trans dd_mem.symm).length_eq

theorem setR_count {w : World} {h : Heap} {a : Addr} {S : Int → Bool} {n : Nat} (R : SetR w h a S n) : ∃ ks : List Int, ks.Nodup ∧ ks.length = n ∧ ∀ k, k ∈ ks ↔ S k = true := by
  obtain ⟨o, es, ep, t, ho, hex, hd, g, nd, hm, hb, hf, hn, hr, hl⟩ := R
  refine ⟨es.toList.map keyOf, nd, ?_, fun k => (hm k).symm⟩
  rw [List.length_map, Array.length_toList]
  exact hn

section
variable {P : Program} {w : World} {A : Around} {E : Value → Shared → Prop} {s : Shared}
theorem out2 {a b c : Nat} (h1 : a ≠ b) (h2 : a ≠ c) : a ∉ [b, c] := fun z => (List.mem_cons.mp z).elim h1 fun z => h2 (List.mem_singleton.mp z)
/-- the object of an empty set, as set.__new__ lays it -/
abbrev bare (w : World) : Obj := { cls := .type "set", dict := none, data := .set #[] 0 (.fresh 0 0 (!w.params.followText "set-order")) }
/-- set(x): __new__ lays the bare set, then __init__ runs with x -/
theorem set_by {x : Value} {Q : Value → Shared → Prop}
    (run : wpAny (model P w) A.in1.in1 (Builtin.«set.__init__» ⟨[.ref s.heap.objs.size, x], []⟩)
      (fun fin t => match fin with | .done f => wants (fun r u => r = .none ∧ Q (.ref s.heap.objs.size) u) E (.ok f) t | .again k => k.quiet = true ∧ codeAny (model P w) A.in1 k (wants (fun r u => r = .none ∧ Q (.ref s.heap.objs.size) u) E) t)
      (fun e t => wants (fun r u => r = .none ∧ Q (.ref s.heap.objs.size) u) E (.error e) t) { s with heap := s.heap.push (bare w) }) : wpAny (model P w) A (call (.type "set") [x]) Q E s := by
  have new : (s.heap.push (bare w)).get? s.heap.objs.size = some (bare w) := Heap.get?_push_size _ rfl
  have isSet : Shared.TypeIs { s with heap := s.heap.push (bare w) } (.ref s.heap.objs.size) "set" := ⟨_, new, rfl⟩
  obtain ⟨_, _, f1⟩ := F.called_set.mro
  have f2 := F.called_set.made
  have f3 := F.called_set.sub
  have f4 := F.called_set.notType
  have f5 := F.called_set.canCreate
  have f6 := F.typeCall_set_1 x
  have f7 := F.called_set.init.lookup
  have f8 := F.called_set.init.bind (.ref s.heap.objs.size)
  refine wpAny_call (codeAny_of_tree (show wpAny _ _ (callAny (.type "set") _) _ _ _ from wpAny_pure ⟨Code.quiet_builtin _ (by decide +kernel), codeAny_builtin F.entry_type_call ?_⟩))
  rw [Around.under_plain (weight_type_call_type "set" [x] []) rfl]
  repeat (any_goals (first | assumption | wp_step))
  refine codeAny_mono (code_set_led1 x (E := E) (Q₁ := fun o t => o = .ref s.heap.objs.size ∧ t = { s with heap := s.heap.push (bare w) }) ⟨rfl, rfl⟩) fun r t hr => ?_
  match r, hr with
  | .error _, hr => exact hr
  | .ok (.ret _), hr =>
    obtain ⟨rfl, rfl⟩ := hr
    repeat (any_goals (first | assumption | wp_step))
    refine codeAny_mono (codeAny_call_builtin F.called_set.init.plain F.entry_set_init (check_set_init_1 isSet run)) fun r t hr => ?_
    match r, hr with
    | .error _, hr => exact hr
    | .ok (.ret _), hr =>
      obtain ⟨rfl, q⟩ := hr
      repeat (any_goals (first | assumption | wp_step))
/-- set(l), l a list of whole numbers: the members, each once -/
theorem set_of_list {l : Addr} {its : Array Value} {ns : List Int} {Q : Value → Shared → Prop} (calm : A.handled = none) (isl : s.heap.IsList l its) (isn : IntsAre its.toList ns) (few : ns.length + 1 < scanBound)
    (done : ∀ h2 tk c, SetR w h2 s.heap.objs.size (fun j => decide (j ∈ ns)) c → (∀ b o, s.heap.get? b = some o → h2.get? b = some o) → Q (.ref s.heap.objs.size) { s with heap := h2, toks := tk }) :
    wpAny (model P w) A (call (.type "set") [.ref l]) Q E s := by
  have size : its.size = ns.length := by rw [← Array.length_toList]; exact IntsAre.length isn
  refine set_by ?_
  have new : (s.heap.push (bare w)).get? s.heap.objs.size = some (bare w) := Heap.get?_push_size _ rfl
  obtain ⟨⟨k, dt, d, sl⟩, lo, kk, m, kd⟩ := isl
  subst kk
  cases kd
  have lo1 : (s.heap.push (bare w)).get? l = some { cls := .type "list", dict := dt, data := .seq its m, slots := sl } := Heap.get?_push_of_some _ lo
  have isl1 : (s.heap.push (bare w)).IsList l its := ⟨_, lo1, rfl, m, rfl⟩
  have ll : l < s.heap.objs.size := Heap.lt_size lo
  have n1 := F.sub_list_set
  have n2 := F.sub_list_frozenset
  have n3 : (Value.type "list" == Value.type "dict") = false := by decide
  unfold Builtin.«set.__init__» noKeywords Builtin.Frozenset.updateFrom
  generalize PI : pyIter = pI
  wp_walk
  subst PI
  refine wpAny_pyIter_list isl1 (wpAny_bind (wpAny_runValue ?_))
  have sz : s.heap.objs.size < (s.heap.push (bare w)).objs.size := by rw [Heap.size_push]; exact Nat.lt_succ_self _
  refine set_update_ints ((Walks.list (by simpa using calm) _ l (Nat.ne_of_lt (Nat.lt_trans ll sz)) its).toS) s.heap.objs.size (out2 (Nat.ne_of_lt sz) (Nat.ne_of_gt ll))
    ns size few (fun i v e => ?_) its.size 0 _ (by omega) (Nat.zero_le _) ⟨⟨_, Heap.get?_push_size _ rfl, rfl, rfl⟩, isl1.push _⟩ ⟨0, Nat.le_refl _, setR_new_at (Heap.get?_push_of_some _ new)⟩ ?_
  · have il : i < ns.length := size ▸ (Array.getElem?_eq_some_iff.mp e).1
    obtain ⟨t, q⟩ := IntsAre.int_at isn i v (by rw [Array.getElem?_toList]; exact e)
    exact ⟨ns[i], t, List.getElem?_eq_getElem il, by rw [q, List.getD_eq_getElem?_getD, List.getElem?_eq_getElem il] <;> rfl⟩
  · rintro ⟨h2, g2, d2, t2, o2⟩ c mv cl R
    cases (show g2 = s.gens from mv.gens)
    cases (show d2 = s.drawn from mv.drawn)
    cases (show o2 = s.os from mv.os)
    refine wpAny_pure (wpAny_pure ⟨rfl, done h2 t2 c R fun b o e => ?_⟩)
    have bl := Heap.lt_size e
    exact mv.heap b o (out2 (Nat.ne_of_lt bl) (Nat.ne_of_lt (Nat.lt_trans bl sz))) (Heap.get?_push_of_some _ (Heap.get?_push_of_some _ e))
end
section
variable {X : Cx}
/-- set(xs), xs a list of whole numbers -/
def rSetOf (K : PySem.W.Frag) (w : World) : List V → Hp → VK → Prop := fun vs H Q => ∃ (a : Addr) (ns : List Int), vs = [.ref a] ∧ SqL K H a (ns.map V.int) ∧ ns.length ≤ 4000 ∧
  ∀ p, H p = none → Q (.ref p) (upd H p (SetO w p (fun j => decide (j ∈ ns)) (dd ns).length))
theorem cr_setL (hc : X.calm = true) : CallR X (.type "set") (rSetOf X.K X.w) := by
  intro pins s σ H vs us Q I r h
  obtain ⟨a, ns, rfl, hq, hl, q⟩ := h
  obtain ⟨its, rv, pl, hz⟩ := I.list hq
  rw [Vals.ref1 r]
  refine set_of_list (I.ok.hd hc) pl.isList (by simpa using Vals.ints rv) (by unfold scanBound; omega) fun h' tk c R k => ?_
  have ec : c = (dd ns).length := by
    obtain ⟨ks, n1, n2, n3⟩ := setR_count R
    rw [← n2]
    exact dd_len_of n1 fun k => (n3 k).trans decide_eq_true_iff
  subst ec
  have hn : H s.heap.objs.size = none := I.hok.fresh (Nat.le_refl _)
  exact ⟨.ref s.heap.objs.size, _, I.laid (t' := tk) k (Nat.le_refl _) (setO_new R), rfl, q _ hn⟩
/-- len(s), s a set of whole numbers -/
def rLenSet (w : World) : List V → Hp → VK → Prop := fun vs H Q => ∃ (a : Addr) (S : Int → Bool) (n : Nat), vs = [.ref a] ∧ H a = some (SetO w a S n) ∧ Q (.int (n : Nat)) H
theorem cr_lenSet : CallR X (.builtin "len") (rLenSet X.w) := by
  intro pins s σ H vs us Q I r h
  obtain ⟨a, S, n, rfl, ha, q⟩ := h
  rw [Vals.ref1 r]
  have R := setO_get I ha
  obtain ⟨o, es, ep, t, ho, hex, hd, g, nd, hm, hb, hf, hn, hr, hl⟩ := R
  refine call_len_set ho hex hd hf (by unfold scanBound at hb; omega) ⟨.int (n : Nat), H, I.tok _, ⟨_, by rw [hn]⟩, q⟩
end
end LH

namespace LH
open PySem L2 Evl
/-! ### small heaps: what is known (Hs), within what stands (H); a step lets both grow, and takes nothing of H that was not known -/
structure Grow (Hs H Hs2 H2 : Hp) : Prop where
  s : Ex Hs Hs2
  b : Ex H H2
  i : Ex Hs2 H2
  f : ∀ p, Hs p = none → H p ≠ none → Hs2 p = none
section
variable {Hs H Hs2 H2 Hs3 H3 Hc : Hp} {p : Addr} {o : HO}
theorem up_some (e : Ex H H2) (h : H p ≠ none) : H2 p ≠ none := by
  cases q : H p with
  | none => exact absurd q h
  | some o => rw [e p o q]; exact fun z => nomatch z
theorem Grow.refl (e : Ex Hs H) : Grow Hs H Hs H := ⟨Ex.refl _, Ex.refl _, e, fun _ h _ => h⟩
theorem Grow.up (e : Ex Hs H) (b : Ex H H2) : Grow Hs H Hs H2 := ⟨Ex.refl _, b, e.trans b, fun _ h _ => h⟩
theorem Grow.trans (x : Grow Hs H Hs2 H2) (y : Grow Hs2 H2 Hs3 H3) : Grow Hs H Hs3 H3 :=
  ⟨x.s.trans y.s, x.b.trans y.b, y.i, fun p h n => y.f p (x.f p h n) (up_some x.b n)⟩
theorem Grow.new (e : Ex Hs H) (h : H p = none) : Grow Hs H (upd Hs p o) (upd H p o) := by
  refine ⟨Ex.new (fresh_back e h), Ex.new h, fun a u q => ?_, fun q h1 h2 => ?_⟩
  · by_cases ha : a = p
    · subst ha; rw [upd_same] at q ⊢; exact q
    · rw [upd_ne ha] at q ⊢; exact e a u q
  · rw [upd_ne (fun z => h2 (by rw [z]; exact h))]; exact h1
/-- a new object is known from here on -/
theorem Grow.know (x : Grow Hs H Hs2 H2) (h : H p = none) (h2 : H2 p = some o) : Grow Hs H (upd Hs2 p o) H2 := by
  have keep : Ex Hs2 (upd Hs2 p o) := fun a u q => by
    by_cases ha : a = p
    · subst ha; rw [upd_same]; rw [x.i a u q] at h2; exact h2.symm
    · rw [upd_ne ha]; exact q
  refine ⟨x.s.trans keep, x.b, fun a u q => ?_, fun q n1 n2 => ?_⟩
  · by_cases ha : a = p
    · subst ha; rw [upd_same] at q; cases q; exact h2
    · rw [upd_ne ha] at q; exact x.i a u q
  · rw [upd_ne (fun z => n2 (by rw [z]; exact h))]; exact x.f q n1 n2
def uni (A B : Hp) : Hp := fun a => match A a with | some o => some o | none => B a
theorem uni_l {A B : Hp} : Ex A (uni A B) := fun a o h => by unfold uni; rw [h]
theorem uni_r {A B C : Hp} (a : Ex A C) (b : Ex B C) : Ex B (uni A B) := fun x o h => by
  unfold uni
  cases q : A x with
  | none => exact h
  | some u => exact (a x u q).symm.trans (b x o h)
theorem uni_in {A B C : Hp} (a : Ex A C) (b : Ex B C) : Ex (uni A B) C := fun x o h => by
  unfold uni at h
  cases q : A x with
  | none => rw [q] at h; exact b x o h
  | some u => rw [q] at h; exact a x o (q.trans h)
theorem uni_none {A B : Hp} {x : Addr} (a : A x = none) (b : B x = none) : uni A B x = none := by unfold uni; rw [a]; exact b
/-- the same step where more is known -/
theorem Grow.uni (x : Grow Hs H Hs2 H2) (k : Ex Hs Hc) (e : Ex Hc H) : Grow Hc H (LH.uni Hc Hs2) H2 :=
  ⟨uni_l, x.b, uni_in (e.trans x.b) x.i, fun p h n => uni_none h (x.f p (fresh_back k h) n)⟩
theorem Grow.uniR (x : Grow Hs H Hs2 H2) (e : Ex Hc H) : Ex Hs2 (LH.uni Hc Hs2) := uni_r (e.trans x.b) x.i
end

/-! ### codes: what a value tells of data, in a heap -/
abbrev Cd (α : Type) := α → Hp → V → Prop
class Mo {α : Type} (c : Cd α) : Prop where
  mo : ∀ {a : α} {H H2 : Hp} {v : V}, Ex H H2 → c a H v → c a H2 v
def cI : Cd Int := fun n _ v => v = .int n
def cN : Cd Nat := fun n _ v => v = .int (n : Int)
def cB : Cd Bool := fun b _ v => v = .bl b
def cU : Cd Unit := fun _ _ v => v = .non
def cL {α : Type} (c : Cd α) : Cd (List α) := fun l H v => ∃ a xs, v = .ref a ∧ H a = some (.lst xs) ∧ Paired (fun b x => c b H x) l xs
/-- a tuple of things of one kind -/
def cQ {α : Type} (c : Cd α) : Cd (List α) := fun l H v => ∃ a xs, v = .ref a ∧ H a = some (.tup xs) ∧ Paired (fun b x => c b H x) l xs
def cP {α β : Type} (c : Cd α) (d : Cd β) : Cd (α × β) := fun p H v => ∃ a x y, v = .ref a ∧ H a = some (.tup [x, y]) ∧ c p.1 H x ∧ d p.2 H y
def cO {α : Type} (c : Cd α) : Cd (Option α) := fun o H v => match o with | none => v = .non | some a => c a H v
instance : Mo cI := ⟨fun _ h => h⟩
instance : Mo cN := ⟨fun _ h => h⟩
instance : Mo cB := ⟨fun _ h => h⟩
instance : Mo cU := ⟨fun _ h => h⟩
theorem paired_mo {α : Type} {c : Cd α} [Mo c] {l : List α} {xs : List V} {H H2 : Hp} (e : Ex H H2) (p : Paired (fun b x => c b H x) l xs) : Paired (fun b x => c b H2 x) l xs := Paired.mono (fun _ _ h => Mo.mo e h) p
instance {α : Type} {c : Cd α} [Mo c] : Mo (cL c) := ⟨fun e ⟨a, xs, h1, h2, h3⟩ => ⟨a, xs, h1, e _ _ h2, paired_mo e h3⟩⟩
instance {α : Type} {c : Cd α} [Mo c] : Mo (cQ c) := ⟨fun e ⟨a, xs, h1, h2, h3⟩ => ⟨a, xs, h1, e _ _ h2, paired_mo e h3⟩⟩
instance {α β : Type} {c : Cd α} {d : Cd β} [Mo c] [Mo d] : Mo (cP c d) := ⟨fun e ⟨a, x, y, h1, h2, h3, h4⟩ => ⟨a, x, y, h1, e _ _ h2, Mo.mo e h3, Mo.mo e h4⟩⟩
instance {α : Type} {c : Cd α} [Mo c] : Mo (cO c) := ⟨fun {a _ _ _} e h => match a, h with | none, h => h | some _, h => Mo.mo (c := c) e h⟩
theorem paired_ints : ∀ {l : List Int} {xs : List V} {H : Hp}, Paired (fun b x => cI b H x) l xs → xs = l.map V.int
  | _, _, _, .nil => rfl
  | _, _, _, .cons h t => by rw [paired_ints t, h]; rfl
theorem ints_paired {H : Hp} : ∀ l : List Int, Paired (fun b x => cI b H x) l (l.map V.int)
  | [] => .nil
  | _ :: r => .cons rfl (ints_paired r)
theorem paired_bls : ∀ {l : List Bool} {xs : List V} {H : Hp}, Paired (fun b x => cB b H x) l xs → xs = l.map V.bl
  | _, _, _, .nil => rfl
  | _, _, _, .cons h t => by rw [paired_bls t, h]; rfl
theorem cL_ints {l : List Int} {H : Hp} {v : V} (h : cL cI l H v) : ∃ a, v = .ref a ∧ H a = some (.lst (l.map V.int)) := by
  obtain ⟨a, xs, h1, h2, h3⟩ := h
  exact ⟨a, h1, by rw [h2, paired_ints h3]⟩
theorem ints_cL {l : List Int} {H : Hp} {a : Addr} (h : H a = some (.lst (l.map V.int))) : cL cI l H (.ref a) := ⟨a, _, rfl, h, ints_paired l⟩
theorem Paired.at {α β : Type} {F : α → β → Prop} : ∀ {l : List α} {xs : List β} {i : Nat} {x : β}, Paired F l xs → xs[i]? = some x → ∃ a, l[i]? = some a ∧ F a x
  | _, _, _, _, .nil, h => by simp at h
  | _, _, 0, x, .cons h _, e => ⟨_, rfl, (Option.some.inj e) ▸ h⟩
  | _, _, i + 1, x, .cons _ t, e => Paired.at (i := i) t (by simpa using e)
theorem Paired.at2 {α β : Type} {F : α → β → Prop} : ∀ {l : List α} {xs : List β} {i : Nat} {a : α}, Paired F l xs → l[i]? = some a → ∃ x, xs[i]? = some x ∧ F a x
  | _, _, _, _, .nil, h => by simp at h
  | _, _, 0, x, .cons h _, e => ⟨_, rfl, (Option.some.inj e) ▸ h⟩
  | _, _, i + 1, x, .cons _ t, e => Paired.at2 (i := i) t (by simpa using e)
theorem Paired.app {α β : Type} {F : α → β → Prop} : ∀ {l m : List α} {xs ys : List β}, Paired F l xs → Paired F m ys → Paired F (l ++ m) (xs ++ ys)
  | _, _, _, _, .nil, h => h
  | _, _, _, _, .cons h t, k => .cons h (Paired.app t k)

/-! ### what evaluates to what -/
def EvP (te : TE) (σ : L2.St) (Hs : Hp) (P : V → Hp → Prop) : Prop := ∀ H, Ex Hs H → ∀ Q : VK, (∀ v H2 Hs2, Grow Hs H Hs2 H2 → P v Hs2 → Q v H2) → te σ H Q
/-- a new list, not known as yet -/
def EvF (te : TE) (σ : L2.St) (Hs : Hp) (P : List V → Hp → Prop) : Prop :=
  ∀ H, Ex Hs H → ∀ Q : VK, (∀ p xs H2 Hs2, Grow Hs H Hs2 H2 → H p = none → Hs2 p = none → H2 p = some (.lst xs) → P xs Hs2 → Q (.ref p) H2) → te σ H Q
def EvAs (ta : TA) (σ : L2.St) (Hs : Hp) (P : List V → Hp → Prop) : Prop := ∀ H, Ex Hs H → ∀ Q : List V → Hp → Prop, (∀ vs H2 Hs2, Grow Hs H Hs2 H2 → P vs Hs2 → Q vs H2) → ta σ H Q
abbrev EvC {α : Type} (te : TE) (σ : L2.St) (Hs : Hp) (c : Cd α) (a : α) : Prop := EvP te σ Hs fun v H => c a H v
/-- a new list of data -/
abbrev EvFC {α : Type} (te : TE) (σ : L2.St) (Hs : Hp) (c : Cd α) (l : List α) : Prop := EvF te σ Hs fun xs H => Paired (fun b x => c b H x) l xs
def RetP (Hs H : Hp) (P : V → Hp → Prop) (Q : VK) : Prop := ∀ v H2 Hs2, Grow Hs H Hs2 H2 → P v Hs2 → Q v H2
abbrev RetC {α : Type} (Hs H : Hp) (c : Cd α) (a : α) (Q : VK) : Prop := RetP Hs H (fun v H => c a H v) Q
def RetF (Hs H : Hp) (P : List V → Hp → Prop) (Q : VK) : Prop := ∀ p xs H2 Hs2, Grow Hs H Hs2 H2 → H p = none → Hs2 p = none → H2 p = some (.lst xs) → P xs Hs2 → Q (.ref p) H2
abbrev RetFC {α : Type} (Hs H : Hp) (c : Cd α) (l : List α) (Q : VK) : Prop := RetF Hs H (fun xs H => Paired (fun b x => c b H x) l xs) Q
section
variable {α β : Type} {c : Cd α} {d : Cd β} {σ : L2.St} {Hs H Hs2 H2 : Hp} {te ta tb : TE} {tt : TT} {v x y z : V} {P P' : V → Hp → Prop} {K : PySem.W.Frag} {r : R2} {targ : TA}
theorem ep_ev (h : Ev te σ Hs v) (p : P v Hs) : EvP te σ Hs P := fun H e Q q => h H e Q fun H2 b => q v H2 Hs (Grow.up e b) p
theorem ep_var {i : Nat} (h : σ[i]? = some (some v)) (p : P v Hs) : EvP (tVar i) σ Hs P := ep_ev (ev_var h) p
theorem ec_var {i : Nat} {a : α} (h : σ[i]? = some (some v)) (p : c a Hs v) : EvC (tVar i) σ Hs c a := ep_ev (ev_var h) p
theorem ev_ep (h : EvP te σ Hs fun u _ => u = v) : Ev te σ Hs v := fun H e Q q => h H e Q fun u H2 Hs2 g p => p ▸ q H2 g.b
theorem EvP.imp (h : EvP te σ Hs P) (k : ∀ v H, Ex Hs H → P v H → P' v H) : EvP te σ Hs P' := fun H e Q q => h H e Q fun v H2 Hs2 g p => q v H2 Hs2 g (k v Hs2 g.s p)
theorem EvP.lift (h : EvP te σ Hs P) (e : Ex Hs Hs2) (mo : ∀ v H H2, Ex H H2 → P v H → P v H2) : EvP te σ Hs2 P := fun H e2 Q q => h H (e.trans e2) Q fun v H3 Hs3 g p =>
  q v H3 (uni Hs2 Hs3) (g.uni e e2) (mo v Hs3 _ (g.uniR e2) p)
theorem EvC.lift [Mo c] {a : α} (h : EvC te σ Hs c a) (e : Ex Hs Hs2) : EvC te σ Hs2 c a := EvP.lift h e fun _ _ _ e p => Mo.mo e p
/-- a new list, taken as known -/
theorem EvF.toP {P : List V → Hp → Prop} (h : EvF te σ Hs P) (k : ∀ p xs Hs2, Ex Hs Hs2 → P xs Hs2 → Hs2 p = none → P' (.ref p) (upd Hs2 p (.lst xs))) : EvP te σ Hs P' := fun H e Q q => h H e Q fun p xs H2 Hs2 g h1 h2 h3 h4 =>
  q (.ref p) H2 _ (g.know h1 h3) (k p xs Hs2 g.s h4 h2)
theorem EvF.toC [Mo c] {l : List α} (h : EvFC te σ Hs c l) : EvC te σ Hs (cL c) l := EvF.toP h fun p xs Hs2 _ hp hn => ⟨p, xs, rfl, upd_same, paired_mo (Ex.new hn) hp⟩
theorem EvF.imp {P P' : List V → Hp → Prop} (h : EvF te σ Hs P) (k : ∀ xs H, Ex Hs H → P xs H → P' xs H) : EvF te σ Hs P' := fun H e Q q => h H e Q fun p xs H2 Hs2 g h1 h2 h3 h4 => q p xs H2 Hs2 g h1 h2 h3 (k xs Hs2 g.s h4)
/-- Evl's new list of known values -/
theorem ef_el {xs : List V} (h : EvL te σ Hs xs) : EvF te σ Hs fun ys _ => ys = xs := fun H e Q q => h H e Q fun p H2 hp b h2 => q p xs H2 Hs (Grow.up e b) hp (fresh_back e hp) h2 rfl
theorem el_ef {xs : List V} (h : EvF te σ Hs fun ys _ => ys = xs) : EvL te σ Hs xs := fun H e Q q => h H e Q fun p ys H2 Hs2 g h1 _ h3 h4 => q p H2 h1 g.b (h4 ▸ h3)
theorem elI {l : List Int} (h : EvFC te σ Hs cI l) : EvL te σ Hs (l.map V.int) := el_ef (h.imp fun _ _ _ p => paired_ints p)
theorem efI {l : List Int} (h : EvL te σ Hs (l.map V.int)) : EvFC te σ Hs cI l := (ef_el h).imp fun _ _ _ p => p ▸ ints_paired l
theorem elB {l : List Bool} (h : EvFC te σ Hs cB l) : EvL te σ Hs (l.map V.bl) := el_ef (h.imp fun _ _ _ p => paired_bls p)

/-! arguments -/
theorem as_nil : EvAs tNil σ Hs fun vs _ => vs = [] := fun H e Q q => q [] H Hs (Grow.refl e) rfl
theorem as_cons {P2 : List V → Hp → Prop} (h : EvP te σ Hs P) (mo : ∀ v H H2, Ex H H2 → P v H → P v H2) (hr : ∀ Hs1, Ex Hs Hs1 → EvAs targ σ Hs1 P2) : EvAs (tCons te targ) σ Hs fun vs H => ∃ v r, vs = v :: r ∧ P v H ∧ P2 r H := fun H e Q q =>
  h H e _ fun v H2 Hs2 g p => hr Hs2 g.s H2 g.i _ fun vs H3 Hs3 g2 p2 => q _ H3 Hs3 (g.trans g2) ⟨v, vs, rfl, mo v Hs2 Hs3 g2.s p, p2⟩
theorem as_ea {vs : List V} (h : EvA targ σ Hs vs) : EvAs targ σ Hs fun ws _ => ws = vs := fun H e Q q => h H e Q fun H2 b => q vs H2 Hs (Grow.up e b) rfl
theorem ea_as {vs : List V} (h : EvAs targ σ Hs fun ws _ => ws = vs) : EvA targ σ Hs vs := fun H e Q q => h H e Q fun ws H2 Hs2 g p => p ▸ q H2 g.b
theorem EvAs.imp {P P' : List V → Hp → Prop} (h : EvAs targ σ Hs P) (k : ∀ v H, Ex Hs H → P v H → P' v H) : EvAs targ σ Hs P' := fun H e Q q => h H e Q fun v H2 Hs2 g p => q v H2 Hs2 g (k v Hs2 g.s p)

/-! calls of defs -/
theorem ev_callS {sp : Sp} {dvs : List V} {E : XK} {P : List V → Hp → Prop} (h : EvAs targ σ Hs P) (hs : ∀ vs Hs1, Ex Hs Hs1 → P vs Hs1 → ∀ H, Ex Hs1 H → ∀ Q : VK, RetV z H Q → sp (vs ++ dvs) H Q E) : Ev (tCall sp dvs E targ) σ Hs z := fun H e Q q =>
  h H e _ fun vs H2 Hs2 g p => hs vs Hs2 g.s p H2 g.i Q fun H3 b => q H3 (g.b.trans b)
theorem ep_call {sp : Sp} {dvs : List V} {E : XK} {P : List V → Hp → Prop} (h : EvAs targ σ Hs P) (hs : ∀ vs Hs1, Ex Hs Hs1 → P vs Hs1 → ∀ H, Ex Hs1 H → ∀ Q : VK, RetP Hs1 H P' Q → sp (vs ++ dvs) H Q E) : EvP (tCall sp dvs E targ) σ Hs P' := fun H e Q q =>
  h H e _ fun vs H2 Hs2 g p => hs vs Hs2 g.s p H2 g.i Q fun v H3 Hs3 g2 p2 => q v H3 Hs3 (g.trans g2) p2
theorem ef_call {sp : Sp} {dvs : List V} {E : XK} {P P' : List V → Hp → Prop} (h : EvAs targ σ Hs P) (hs : ∀ vs Hs1, Ex Hs Hs1 → P vs Hs1 → ∀ H, Ex Hs1 H → ∀ Q : VK, RetF Hs1 H P' Q → sp (vs ++ dvs) H Q E) : EvF (tCall sp dvs E targ) σ Hs P' := fun H e Q q =>
  h H e _ fun vs H2 Hs2 g p => hs vs Hs2 g.s p H2 g.i Q fun p xs H3 Hs3 g2 h1 h2 h3 h4 => q p xs H3 Hs3 (g.trans g2) (fresh_back g.b h1) h2 h3 h4

/-! operators where one side is a thing -/
theorem ev_opP (ha : EvP ta σ Hs P) (mo : ∀ v H H2, Ex H H2 → P v H → P v H2) (hb : EvP tb σ Hs P') (mo' : ∀ v H H2, Ex H H2 → P' v H → P' v H2) (hr : ∀ x y Hs1, Ex Hs Hs1 → P x Hs1 → P' y Hs1 → RV r x y Hs1 z) : Ev (tOp r ta tb) σ Hs z := fun H e Q q =>
  ha H e _ fun x H2 Hs2 g p => (EvP.lift hb g.s mo') H2 g.i _ fun y H3 Hs3 g2 p2 => hr x y Hs3 (g.s.trans g2.s) (mo x Hs2 Hs3 g2.s p) p2 H3 g2.i Q fun H4 b => q H4 ((g.b.trans g2.b).trans b)
end
end LH

namespace LH
open PySem L2 Evl
/-! ### what a loop or a comprehension walks: a list of data -/
structure Src {α : Type} (J : It) (Hs : Hp) (src : List α) (c : Cd α) : Prop where
  ex : ∃ (G : Hp → Prop) (Y : Nat → Hp → V → Hp → Prop), Walk J src.length G Y ∧ (∀ H, Ex Hs H → G H) ∧
    ∀ i H x H', i < src.length → Ex Hs H → Y i H x H' → ∃ a Hs', src[i]? = some a ∧ Grow Hs H Hs' H' ∧ c a Hs' x
def EvI {α : Type} (wi : TI) (σ : L2.St) (Hs : Hp) (src : List α) (c : Cd α) : Prop :=
  ∀ H, Ex Hs H → ∀ R : It → Hp → Prop, (∀ J H2 Hs2, Grow Hs H Hs2 H2 → Src J Hs2 src c → R J H2) → wi σ H R
theorem sq_ex {K : PySem.W.Frag} {Hs H : Hp} {a : Addr} {xs : List V} (e : Ex Hs H) (h : Hs a = some (.lst xs)) : SqL K H a xs := SqL.of (e _ _ h)
theorem sqt_ex {K : PySem.W.Frag} {Hs H : Hp} {a : Addr} {xs : List V} (e : Ex Hs H) (h : Hs a = some (.tup xs)) : SqT K H a xs := SqT.of (e _ _ h)
section
variable {α β : Type} {c : Cd α} {d : Cd β} {σ : L2.St} {Hs H : Hp} {te : TE} {ta : TA} {K : PySem.W.Frag} {l : List α} {m : List β}
/-- a list of data stands: it is walked as such -/
theorem src_list {a : Addr} {xs : List V} (h : Hs a = some (.lst xs)) (p : Paired (fun b x => c b Hs x) l xs) : Src (Itl K a) Hs l c := by
  have e : xs.length = l.length := p.length.symm
  refine ⟨_, _, e ▸ walk_list (K := K) (a := a) (xs := xs), fun H e => sq_ex e h, fun i H x H' hi eH y => ?_⟩
  obtain ⟨rfl, hx⟩ := y
  obtain ⟨b, hb, cb⟩ := Paired.at p hx
  exact ⟨b, Hs, hb, Grow.refl eH, cb⟩
theorem src_tup {a : Addr} {xs : List V} (h : Hs a = some (.tup xs)) (p : Paired (fun b x => c b Hs x) l xs) : Src (Itt K a) Hs l c := by
  have e : xs.length = l.length := p.length.symm
  refine ⟨_, _, e ▸ walk_tup (K := K) (a := a) (xs := xs), fun H e => sqt_ex e h, fun i H x H' hi eH y => ?_⟩
  obtain ⟨rfl, hx⟩ := y
  obtain ⟨b, hb, cb⟩ := Paired.at p hx
  exact ⟨b, Hs, hb, Grow.refl eH, cb⟩
theorem ei_list (h : EvC te σ Hs (cL c) l) : EvI (iList K te) σ Hs l c := fun H e R k => h H e _ fun v H2 Hs2 g ⟨a, xs, h1, h2, h3⟩ =>
  ⟨a, h1, ⟨xs, sq_ex g.i h2⟩, k _ H2 Hs2 g (src_list h2 h3)⟩
theorem ei_tup (h : EvC te σ Hs (cQ c) l) : EvI (iTup K te) σ Hs l c := fun H e R k => h H e _ fun v H2 Hs2 g ⟨a, xs, h1, h2, h3⟩ =>
  ⟨a, h1, ⟨xs, sqt_ex g.i h2⟩, k _ H2 Hs2 g (src_tup h2 h3)⟩
/-- range(n) -/
theorem ei_rng {n : Int} (h : EvA ta σ Hs [.int n]) (hn : n < 2 ^ 62) (h0 : -(2 ^ 62) ≤ n) : EvI (iRng1 ta) σ Hs (List.range n.toNat) cN := fun H e R k => h H e _ fun H2 b =>
  ⟨n, rfl, h0, hn, k _ H2 Hs (Grow.up e b) ⟨_, _, by rw [List.length_range]; exact walk_range, fun _ _ => trivial, fun i H x H' hi eH y => by
    obtain ⟨rfl, rfl⟩ := y
    rw [List.length_range] at hi
    exact ⟨i, Hs, by simp [hi], Grow.refl eH, by show V.int ((0 : Int) + (i : Int)) = V.int (i : Int); rw [Int.zero_add]⟩⟩⟩
/-- enumerate(l) -/
theorem ei_enum [Mo c] (h : EvAs ta σ Hs fun vs H => ∃ v, vs = [v] ∧ cL c l H v) : EvI (iEnum K ta) σ Hs ((List.range l.length).zip l) (cP cN c) := fun H e R k => h H e _ fun vs H2 Hs2 g hv => by
  obtain ⟨v, h1, a, xs, h2, h3, h4⟩ := hv
  have el : xs.length = l.length := h4.length.symm
  have e2 : ((List.range l.length).zip l).length = xs.length := by rw [List.length_zip, List.length_range, Nat.min_self, el]
  have S : Src (Ite K a) Hs2 ((List.range l.length).zip l) (cP cN c) := by
    refine ⟨_, _, e2 ▸ walk_enum (K := K) (a := a) (xs := xs), fun H e => sq_ex e h3, fun i H x H' hi eH y => ?_⟩
    obtain ⟨T, u, w, rfl, hT, rfl, q1, q2⟩ := y
    obtain ⟨b, hb, cb⟩ := Paired.at h4 q2
    have hil : i < l.length := (List.getElem?_eq_some_iff.mp hb).1
    refine ⟨(i, b), upd Hs2 T (.tup [u, w]), ?_, Grow.new eH hT, T, u, w, rfl, upd_same, (Option.some.inj q1).symm, Mo.mo (Ex.new (fresh_back eH hT)) cb⟩
    rw [List.getElem?_zip_eq_some]
    exact ⟨by simp [hil], hb⟩
  exact ⟨a, xs, by rw [h1, h2], sq_ex g.i h3, k _ H2 Hs2 g S⟩
/-- zip(l, m) -/
theorem ei_zip [Mo c] [Mo d] (h : EvAs ta σ Hs fun vs H => ∃ v w, vs = [v, w] ∧ cL c l H v ∧ cL d m H w) : EvI (iZip K ta) σ Hs (l.zip m) (cP c d) := fun H e R k => h H e _ fun vs H2 Hs2 g hv => by
  obtain ⟨v, w, h1, ⟨a, xs, h2, h3, h4⟩, b, ys, h5, h6, h7⟩ := hv
  have S : Src (Itz K a b) Hs2 (l.zip m) (cP c d) := by
    refine ⟨_, _, walk_zip (K := K) (a := a) (b := b) (xs := xs) (ys := ys) (by rw [List.length_zip, h4.length, h7.length]), fun H e => ⟨sq_ex e h3, sq_ex e h6⟩, fun i H x H' hi eH y => ?_⟩
    obtain ⟨T, u, z, rfl, hT, rfl, q1, q2⟩ := y
    obtain ⟨p, hp, cp⟩ := Paired.at h4 q1
    obtain ⟨q, hq, cq⟩ := Paired.at h7 q2
    refine ⟨(p, q), upd Hs2 T (.tup [u, z]), ?_, Grow.new eH hT, T, u, z, rfl, upd_same, Mo.mo (Ex.new (fresh_back eH hT)) cp, Mo.mo (Ex.new (fresh_back eH hT)) cq⟩
    rw [List.getElem?_zip_eq_some]
    exact ⟨hp, hq⟩
  exact ⟨a, b, xs, ys, by rw [h1, h2, h5], sq_ex g.i h3, sq_ex g.i h6, k _ H2 Hs2 g S⟩
end

/-! ### targets -/
section
variable {α β γ : Type} {c : Cd α} {d : Cd β} {e3 : Cd γ} {σ : L2.St} {Hs H : Hp} {K : PySem.W.Frag} {R : L2.St → Hp → Prop} {x : V}
theorem g_two {i j : Nat} {ab : α × β} (h : cP c d ab Hs x) (e : Ex Hs H) (k : ∀ u v, c ab.1 Hs u → d ab.2 Hs v → R ((σ.set i (some u)).set j (some v)) H) :
    gTup K 2 (gCons (gName i) (gCons (gName j) gNil)) x σ H R := by
  obtain ⟨a, u, v, h1, h2, h3, h4⟩ := h
  exact ⟨a, [u, v], h1, sqt_ex e h2, rfl, u, [v], rfl, v, [], rfl, rfl, k u v h3 h4⟩
end

/-! ### for -/
section
variable {α : Type} {c : Cd α} {σ : L2.St} {Hs H : Hp} {wi : TI} {src : List α} {g : TG} {tu tz : TS} {D : Ends}
theorem take_snoc {l : List α} {i : Nat} {a : α} (h : l[i]? = some a) : l.take (i + 1) = l.take i ++ [a] ∧ l = l.take i ++ a :: l.drop (i + 1) := by
  obtain ⟨hi, ha⟩ := List.getElem?_eq_some_iff.mp h
  refine ⟨by rw [List.take_add_one, h]; rfl, ?_⟩
  rw [← ha, List.getElem_cons_drop, List.take_append_drop]
theorem s_for (hI : EvI wi σ Hs src c) (e : Ex Hs H)
    (k : ∀ Hs2 H2, Grow Hs H Hs2 H2 → ∃ Pv : List α → L2.St → Hp → Prop, Pv [] σ H2 ∧ (∀ pre σ' H', Pv pre σ' H' → Ex Hs2 H') ∧
      (∀ pre a post x σ' H' Hs'' H'', src = pre ++ a :: post → Pv pre σ' H' → Grow Hs2 H' Hs'' H'' → c a Hs'' x → g x σ' H'' fun σ3 H3 => tu { D with nx := Pv (pre ++ [a]), ct := Pv (pre ++ [a]), bk := D.nx } σ3 H3) ∧
      ∀ σ' H', Pv src σ' H' → D.nx σ' H') : tFor wi g tu D σ H := hI H e _ fun J H2 Hs2 gr S => by
  obtain ⟨Pv, p0, pe, ps, pd⟩ := k Hs2 H2 gr
  obtain ⟨G, Y, W, hG, hY⟩ := S.ex
  refine for_it W (fun i σ' H' => Pv (src.take i) σ' H') (by simpa using p0) (fun i σ' H' _ p => hG H' (pe _ σ' H' p)) (fun i x σ' H' H'' hi p y => ?_) (fun σ' H' p => pd σ' H' (by simpa using p))
  obtain ⟨a, Hs'', ha, g2, ca⟩ := hY i H' x H'' hi (pe _ σ' H' p) y
  obtain ⟨e1, e2⟩ := take_snoc ha
  have q := ps (src.take i) a (src.drop (i + 1)) x σ' H' Hs'' H'' e2 p g2 ca
  rw [← e1] at q
  exact q
theorem q_for (hI : EvI wi σ Hs src c) (e : Ex Hs H)
    (k : ∀ Hs2 H2, Grow Hs H Hs2 H2 → ∃ Pv : List α → L2.St → Hp → Prop, Pv [] σ H2 ∧ (∀ pre σ' H', Pv pre σ' H' → Ex Hs2 H') ∧
      (∀ pre a post x σ' H' Hs'' H'', src = pre ++ a :: post → Pv pre σ' H' → Grow Hs2 H' Hs'' H'' → c a Hs'' x → g x σ' H'' fun σ3 H3 => tu { D with nx := Pv (pre ++ [a]), ct := Pv (pre ++ [a]), bk := tz D } σ3 H3) ∧
      ∀ σ' H', Pv src σ' H' → tz D σ' H') : tSeq (tFor wi g tu) tz D σ H := s_for (D := { D with nx := tz D }) hI e k
end

/-! ### comprehensions -/
section
variable {α β : Type} {c : Cd α} {d : Cd β} {σ : L2.St} {Hs H : Hp} {wi : TI} {src : List α} {g : TG} {tt : TT} {te : TE} {vs : List Nat}
theorem size_lt {n : Nat} (h : n ≤ 40000) : n < sizeLine := Nat.lt_of_le_of_lt h (by decide)
theorem ef_comp [Mo d] (hI : EvI wi σ Hs src c) (p : α → Bool) (f : α → β) (hz : src.length ≤ 40000)
    (hb : ∀ a x Hs', a ∈ src → Ex Hs Hs' → c a Hs' x → ∃ σ2, wipe σ2 vs = wipe σ vs ∧ (∀ H' (R : L2.St → Hp → Prop), Ex Hs' H' → R σ2 H' → g x (wipe σ vs) H' R) ∧ EvT tt σ2 Hs' (p a) ∧ (p a = true → EvC te σ2 Hs' d (f a))) :
    EvFC (tLc wi g tt te vs) σ Hs d ((src.filter p).map f) := fun H e Q q => hI H e _ fun J H2 Hs2 gr S Dl hD => by
  obtain ⟨G, Y, W, hG, hY⟩ := S.ex
  have hDs : Hs2 Dl = none := fresh_back gr.i hD
  refine lc_it W (fun i H' => ∃ Hi acc, Ex Hs2 Hi ∧ Grow Hs2 H2 Hi H' ∧ Hi Dl = none ∧ H' Dl = some (.lst acc) ∧ acc.length ≤ i ∧ Paired (fun b x => d b Hi x) (((src.take i).filter p).map f) acc)
    ⟨Hs2, [], Ex.refl _, Grow.up gr.i (Ex.new hD), hDs, upd_same, Nat.le_refl _, .nil⟩ (fun i H' _ ⟨Hi, _, e1, g1, _⟩ => hG H' (e1.trans g1.i)) (fun i x H' H'' hi ⟨Hi, acc, e1, g1, n1, d1, z1, p1⟩ y => ?_) (fun H' ⟨Hi, acc, e1, g1, n1, d1, z1, p1⟩ => ?_)
  · obtain ⟨a, Hs'', ha, g2, ca⟩ := hY i H' x H'' hi (e1.trans g1.i) y
    have g3 : Grow Hi H' (uni Hi Hs'') H'' := g2.uni e1 g1.i
    have n3 : uni Hi Hs'' Dl = none := g3.f Dl n1 (by rw [d1]; exact fun z => nomatch z)
    have d3 : H'' Dl = some (.lst acc) := g3.b _ _ d1
    obtain ⟨σ2, w2, tg, ht, he⟩ := hb a x Hs'' (List.mem_of_getElem? ha) (gr.s.trans g2.s) ca
    obtain ⟨tk, _⟩ := take_snoc ha
    refine tg H'' _ g2.i ⟨w2, ht H'' g2.i _ fun H3 b3 => ?_⟩
    have gg : Grow Hs2 H2 (uni Hi Hs'') H3 := (g1.trans g3).trans (Grow.up g3.i b3)
    have hg3 : Ex (uni Hi Hs'') H3 := g3.i.trans b3
    have d4 : H3 Dl = some (.lst acc) := b3 _ _ d3
    cases hp : p a with
    | false =>
      refine iteF ⟨uni Hi Hs'', acc, e1.trans g3.s, gg, n3, d4, Nat.le_succ_of_le z1, ?_⟩
      rw [tk, List.filter_append, List.filter_cons, if_neg (by rw [hp]; exact Bool.false_ne_true)]
      rw [show ([] : List α).filter p = [] from rfl, List.append_nil]
      exact paired_mo g3.s p1
    | true =>
      refine iteT ((EvC.lift (he hp) (g2.uniR g1.i)) H3 hg3 _ fun v H4 Hs4 g4 cv => ⟨acc, g4.b _ _ d4, size_lt (by omega), ?_⟩)
      have n4 : Hs4 Dl = none := g4.f Dl n3 (by rw [d4]; exact fun z => nomatch z)
      have g5 : Grow Hs2 H2 Hs4 H4 := gg.trans g4
      refine ⟨Hs4, acc ++ [v], (e1.trans g3.s).trans g4.s, ⟨g5.s, g5.b.mut hD, fun a u h => ?_, g5.f⟩, n4, upd_same, by rw [List.length_append]; exact Nat.succ_le_succ z1, ?_⟩
      · rw [upd_ne (fun z => by rw [z, n4] at h; cases h)]
        exact g4.i a u h
      · rw [tk, List.filter_append, List.map_append, List.filter_cons, if_pos hp]
        exact Paired.snoc (paired_mo (g3.s.trans g4.s) p1) cv
  · rw [List.take_length] at p1
    exact q Dl acc H' Hi (gr.trans g1) (fresh_back gr.b hD) n1 d1 p1
/-- every turn gives -/
theorem ef_map [Mo d] (hI : EvI wi σ Hs src c) (f : α → β) (hz : src.length ≤ 40000)
    (hb : ∀ a x Hs', a ∈ src → Ex Hs Hs' → c a Hs' x → ∃ σ2, wipe σ2 vs = wipe σ vs ∧ (∀ H' (R : L2.St → Hp → Prop), Ex Hs' H' → R σ2 H' → g x (wipe σ vs) H' R) ∧ EvC te σ2 Hs' d (f a)) :
    EvFC (tLc wi g tYes te vs) σ Hs d (src.map f) := by
  have h := ef_comp (tt := tYes) (te := te) (d := d) hI (fun _ => true) f hz fun a x Hs' ha e ca => by
    obtain ⟨σ2, h1, h2, h3⟩ := hb a x Hs' ha e ca
    exact ⟨σ2, h1, h2, fun H1 _ Q q => q H1 (Ex.refl _), fun _ => h3⟩
  rwa [List.filter_eq_self.mpr (fun _ _ => rfl)] at h
end
end LH
namespace LH
open PySem L2 Evl
section
variable {α β γ : Type} {c : Cd α} {d : Cd β} {e3 : Cd γ} {σ : L2.St} {Hs H : Hp} {wi : TI} {src : List α} {tt : TT} {te : TE} {vs : List Nat} {i j : Nat} {K : PySem.W.Frag}
/-- [e for x in l if t] -/
theorem ef_compN [Mo d] (hI : EvI wi σ Hs src c) (p : α → Bool) (f : α → β) (hz : src.length ≤ 40000)
    (hb : ∀ a x Hs', a ∈ src → Ex Hs Hs' → c a Hs' x → EvT tt ((wipe σ vs).set j (some x)) Hs' (p a) ∧ (p a = true → EvC te ((wipe σ vs).set j (some x)) Hs' d (f a)))
    (hw : ∀ x, wipe ((wipe σ vs).set j (some x)) vs = wipe σ vs := by intro _; rfl) : EvFC (tLc wi (gName j) tt te vs) σ Hs d ((src.filter p).map f) :=
  ef_comp hI p f hz fun a x Hs' ha e ca => ⟨_, hw x, fun _ _ _ r => r, hb a x Hs' ha e ca⟩
theorem ef_mapN [Mo d] (hI : EvI wi σ Hs src c) (f : α → β) (hz : src.length ≤ 40000)
    (hb : ∀ a x Hs', a ∈ src → Ex Hs Hs' → c a Hs' x → EvC te ((wipe σ vs).set j (some x)) Hs' d (f a))
    (hw : ∀ x, wipe ((wipe σ vs).set j (some x)) vs = wipe σ vs := by intro _; rfl) : EvFC (tLc wi (gName j) tYes te vs) σ Hs d (src.map f) :=
  ef_map hI f hz fun a x Hs' ha e ca => ⟨_, hw x, fun _ _ _ r => r, hb a x Hs' ha e ca⟩
/-- [x for x in l if t] -/
theorem ef_filter [Mo c] (hI : EvI wi σ Hs src c) (p : α → Bool) (hz : src.length ≤ 40000)
    (hb : ∀ a x Hs', a ∈ src → Ex Hs Hs' → c a Hs' x → EvT tt ((wipe σ vs).set j (some x)) Hs' (p a) ∧ (p a = true → EvC te ((wipe σ vs).set j (some x)) Hs' c a))
    (hw : ∀ x, wipe ((wipe σ vs).set j (some x)) vs = wipe σ vs := by intro _; rfl) : EvFC (tLc wi (gName j) tt te vs) σ Hs c (src.filter p) := by
  have h := ef_compN (f := fun a => a) hI p hz hb hw
  rwa [List.map_id'] at h
/-- [e for x, y in l if t] -/
theorem ef_compT [Mo d] {c1 : Cd α} {c2 : Cd γ} {src : List (α × γ)} (hI : EvI wi σ Hs src (cP c1 c2)) (p : α × γ → Bool) (f : α × γ → β) (hz : src.length ≤ 40000)
    (hb : ∀ a u v Hs', a ∈ src → Ex Hs Hs' → c1 a.1 Hs' u → c2 a.2 Hs' v → EvT tt (((wipe σ vs).set i (some u)).set j (some v)) Hs' (p a) ∧ (p a = true → EvC te (((wipe σ vs).set i (some u)).set j (some v)) Hs' d (f a)))
    (hw : ∀ u v, wipe (((wipe σ vs).set i (some u)).set j (some v)) vs = wipe σ vs := by intro _ _; rfl) : EvFC (tLc wi (gTup K 2 (gCons (gName i) (gCons (gName j) gNil))) tt te vs) σ Hs d ((src.filter p).map f) :=
  ef_comp hI p f hz fun a x Hs' ha e ca => by
    obtain ⟨T, u, w, h1, h2, h3, h4⟩ := ca
    exact ⟨_, hw u w, fun H' R e3 r => ⟨T, _, h1, sqt_ex e3 h2, rfl, u, _, rfl, w, _, rfl, rfl, r⟩, hb a u w Hs' ha e h3 h4⟩
theorem ef_mapT [Mo d] {c1 : Cd α} {c2 : Cd γ} {src : List (α × γ)} (hI : EvI wi σ Hs src (cP c1 c2)) (f : α × γ → β) (hz : src.length ≤ 40000)
    (hb : ∀ a u v Hs', a ∈ src → Ex Hs Hs' → c1 a.1 Hs' u → c2 a.2 Hs' v → EvC te (((wipe σ vs).set i (some u)).set j (some v)) Hs' d (f a))
    (hw : ∀ u v, wipe (((wipe σ vs).set i (some u)).set j (some v)) vs = wipe σ vs := by intro _ _; rfl) : EvFC (tLc wi (gTup K 2 (gCons (gName i) (gCons (gName j) gNil))) tYes te vs) σ Hs d (src.map f) :=
  ef_map hI f hz fun a x Hs' ha e ca => by
    obtain ⟨T, u, w, h1, h2, h3, h4⟩ := ca
    exact ⟨_, hw u w, fun H' R e3 r => ⟨T, _, h1, sqt_ex e3 h2, rfl, u, _, rfl, w, _, rfl, rfl, r⟩, hb a u w Hs' ha e h3 h4⟩
end
end LH

namespace LH
open PySem L2 Evl PyProof.Rows
/-! ### data for the comparisons -/
class Dt {α : Type} (c : Cd α) where
  d : α → PyData
  dp : ∀ {K : PySem.W.Frag} {a : α} {H : Hp} {v : V}, c a H v → Dp K H v (d a)
  lay : ∀ a, (d a).canLay0 = true
  dep : Nat
  depth : ∀ a, (d a).depth ≤ dep
  eqv : ∀ a b, PyData.eqv (d a) (d b) = true ↔ a = b
instance : Dt cI where
  d := .int
  dp := fun h => by cases h; exact .int _
  lay := fun _ => by simp only [PyData.canLay0]
  dep := 0
  depth := fun _ => by simp [PyData.depth]
  eqv := fun a b => by simp [PyData.eqv]
instance : Dt cB where
  d := .bool
  dp := fun h => by cases h; exact .bl _
  lay := fun _ => by simp only [PyData.canLay0]
  dep := 0
  depth := fun _ => by simp [PyData.depth]
  eqv := fun a b => by simp [PyData.eqv]
section
variable {α β : Type} {c : Cd α} {d : Cd β}
theorem dt_all [Dt c] {K : PySem.W.Frag} {H : Hp} : ∀ {l : List α} {xs : List V}, Paired (fun b x => c b H x) l xs → DpAll K H xs (l.map (Dt.d c))
  | _, _, .nil => .nil
  | _, _, .cons h t => .cons (Dt.dp h) (dt_all t)
theorem dt_lay [Dt c] : ∀ l : List α, PyData.canLayAll0 (l.map (Dt.d c)) = true
  | [] => by simp only [List.map_nil, PyData.canLayAll0]
  | x :: r => by simp only [List.map_cons, PyData.canLayAll0, Dt.lay (c := c) x, dt_lay r, Bool.and_self]
theorem dt_depth [Dt c] : ∀ l : List α, PyData.depthAll (l.map (Dt.d c)) ≤ Dt.dep c
  | [] => by simp [PyData.depthAll]
  | x :: r => by
    have h1 := Dt.depth (c := c) x
    have h2 := dt_depth r
    simp only [List.map_cons, PyData.depthAll]
    omega
theorem dt_eqv [Dt c] : ∀ l m : List α, PyData.eqvAll (l.map (Dt.d c)) (m.map (Dt.d c)) = true ↔ l = m
  | [], [] => by simp [PyData.eqvAll]
  | [], _ :: _ => by simp [PyData.eqvAll]
  | _ :: _, [] => by simp [PyData.eqvAll]
  | x :: r, y :: s => by
    simp only [List.map_cons, PyData.eqvAll, Bool.and_eq_true, Dt.eqv (c := c) x y, dt_eqv r s, List.cons.injEq]
instance [Dt c] : Dt (cL c) where
  d := fun l => .list (l.map (Dt.d c))
  dp := fun ⟨_, _, h1, h2, h3⟩ => by rw [h1]; exact .lst (SqL.of h2) (dt_all h3)
  lay := fun l => by simpa only [PyData.canLay0] using dt_lay l
  dep := Dt.dep c + 1
  depth := fun l => by
    have := dt_depth (c := c) l
    simp only [PyData.depth]
    omega
  eqv := fun l m => by simpa only [PyData.eqv] using dt_eqv l m
instance [Dt c] [Dt d] : Dt (cP c d) where
  d := fun p => .tuple [Dt.d c p.1, Dt.d d p.2]
  dp := fun ⟨_, _, _, h1, h2, h3, h4⟩ => by rw [h1]; exact .tup (SqT.of h2) (.cons (Dt.dp h3) (.cons (Dt.dp h4) .nil))
  lay := fun p => by simp [PyData.canLay0, PyData.canLayAll0, Dt.lay (c := c) p.1, Dt.lay (c := d) p.2]
  dep := max (Dt.dep c) (Dt.dep d) + 1
  depth := fun p => by
    have h1 := Dt.depth (c := c) p.1
    have h2 := Dt.depth (c := d) p.2
    simp only [PyData.depth, PyData.depthAll]
    omega
  eqv := fun p q => by
    simp only [PyData.eqv, PyData.eqvAll, Bool.and_true, Bool.and_eq_true, Dt.eqv (c := c), Dt.eqv (c := d)]
    exact ⟨fun h => Prod.ext h.1 h.2, fun h => by rw [h]; exact ⟨rfl, rfl⟩⟩
/-- what is never None -/
class Nn {α : Type} (c : Cd α) [Dt c] : Prop where
  l : ∀ a, PyData.eqv .none (Dt.d c a) = false
  r : ∀ a, PyData.eqv (Dt.d c a) .none = false
instance : Nn cI := ⟨fun _ => by simp [Dt.d, PyData.eqv], fun _ => by simp [Dt.d, PyData.eqv]⟩
instance [Dt c] [Dt d] : Nn (cP c d) := ⟨fun _ => by simp [Dt.d, PyData.eqv], fun _ => by simp [Dt.d, PyData.eqv]⟩
instance [Dt c] : Nn (cL c) := ⟨fun _ => by simp [Dt.d, PyData.eqv], fun _ => by simp [Dt.d, PyData.eqv]⟩
instance [Dt c] [Nn c] : Dt (cO c) where
  d := fun o => match o with | none => .none | some a => Dt.d c a
  dp := fun {K o H v} h => match o, h with | none, h => by cases (show v = .non from h); exact .non | some _, h => Dt.dp (c := c) h
  lay := fun o => match o with | none => by simp only [PyData.canLay0] | some a => Dt.lay (c := c) a
  dep := Dt.dep c
  depth := fun o => match o with | none => by simp [PyData.depth] | some a => Dt.depth (c := c) a
  eqv := fun o q => match o, q with
    | none, none => by simp [PyData.eqv]
    | none, some a => by simp [Nn.l (c := c) a]
    | some a, none => by simp [Nn.r (c := c) a]
    | some a, some b => by simp [Dt.eqv (c := c) a b]
theorem dt_dec [Dt c] [DecidableEq α] (a b : α) : PyData.eqv (Dt.d c a) (Dt.d c b) = decide (a = b) := by
  have h := Dt.eqv (c := c) a b
  cases e : PyData.eqv (Dt.d c a) (Dt.d c b) with
  | true => exact (decide_eq_true (h.mp e)).symm
  | false => exact (decide_eq_false fun z => by rw [h.mpr z] at e; cases e).symm
end

/-! ### the operators by which the text is read -/
def rAddI : R2 := rI0 fun i j => .int (i + j)
def rSubI : R2 := rI0 fun i j => .int (i - j)
def rMulI : R2 := rI IntMulOk fun i j => .int (i * j)
def rDivI : R2 := rI CDivW fun i j => .int (i / j)
def rModI : R2 := rI (fun _ j => 0 < j) fun i j => .int (i % j)
def rPowI : R2 := rI CPow fun i j => .int (i ^ j.toNat)
def rShlI : R2 := rI CPow fun i j => .int (i * 2 ^ j.toNat)
def rLtI : R2 := rI0 fun i j => .bl (decide (i < j))
def rLeI : R2 := rI0 fun i j => .bl (decide (i ≤ j))
def rGtI : R2 := rI0 fun i j => .bl (decide (j < i))
def rGeI : R2 := rI0 fun i j => .bl (decide (j ≤ i))
def rEqA (K : PySem.W.Frag) : R2 := fun x y H Q => rEq x y H Q ∨ rEqD K x y H Q
def rNeA (K : PySem.W.Frag) : R2 := fun x y H Q => rNe x y H Q ∨ rNeD K x y H Q
def rIsN : R2 := fun x y H Q => y = .non ∧ Q (.bl (decide (x = .non))) H
def rNotN : R2 := fun x y H Q => y = .non ∧ Q (.bl (!decide (x = .non))) H
def rNegU : V → Hp → VK → Prop := rU fun i => .int (-i)
section
variable {X : Cx}
theorem op_addI : OpR X (binaryOp .Add) rAddI := op_add
theorem op_subI : OpR X (binaryOp .Sub) rSubI := op_sub
theorem op_mulI : OpR X (binaryOp .Mult) rMulI := opI fun _ _ _ _ _ _ _ hc q => mul_int q hc
theorem op_divI : OpR X (binaryOp .FloorDiv) rDivI := op_fdivW
theorem op_modI : OpR X (binaryOp .Mod) rModI := op_mod
theorem op_powI : OpR X (binaryOp .Pow) rPowI := op_pow
theorem op_shlI : OpR X (binaryOp .LShift) rShlI := op_shl
theorem op_ltI : OpR X (compareOp .Lt) rLtI := op_lt
theorem op_leI : OpR X (compareOp .LtE) rLeI := op_le
theorem op_gtI : OpR X (compareOp .Gt) rGtI := op_gt
theorem op_geI : OpR X (compareOp .GtE) rGeI := op_ge
theorem op_eqA (hu : X.A.units + 64 < cLine) : OpR X (compareOp .Eq) (rEqA X.K) := op_eq.or (op_eqD hu)
theorem op_neA (hu : X.A.units + 64 < cLine) : OpR X (compareOp .NotEq) (rNeA X.K) := op_ne.or (op_neD hu)
theorem op_isNone : OpR X (compareOp .Is) rIsN := op_isN
theorem op_notNone : OpR X (compareOp .IsNot) rNotN := op_notN
theorem un_negU : UnR X (unaryOp .USub) rNegU := un_neg
end
/-- [..] + [..] of lists that stand -/
def rCatL (K : PySem.W.Frag) : R2 := fun x y H Q => ∃ l b xs zs, x = .ref l ∧ y = .ref b ∧ H l = some (.lst xs) ∧ H b = some (.lst zs) ∧ xs.length + zs.length ≤ sizeLine ∧ ∀ p, H p = none → Q (.ref p) (upd H p (.lst (xs ++ zs)))
theorem op_catL {X : Cx} : OpR X (binaryOp .Add) (rCatL X.K) := op_cat

section
variable {α β : Type} {c : Cd α} {d : Cd β} {σ : L2.St} {Hs H : Hp} {te ta tb tc : TE} {targ : TA} {x y v : V} {K : PySem.W.Frag} {i j : Int} {b k : Bool}
theorem ev_add (ha : Ev ta σ H (.int i)) (hb : Ev tb σ H (.int j)) : Ev (tOp rAddI ta tb) σ H (.int (i + j)) := ev_op ha hb rv_I0
theorem ev_sub (ha : Ev ta σ H (.int i)) (hb : Ev tb σ H (.int j)) : Ev (tOp rSubI ta tb) σ H (.int (i - j)) := ev_op ha hb rv_I0
theorem ev_mul (ha : Ev ta σ H (.int i)) (hb : Ev tb σ H (.int j)) (h : IntMulOk i j) : Ev (tOp rMulI ta tb) σ H (.int (i * j)) := ev_op ha hb (rv_I h)
theorem ev_div (ha : Ev ta σ H (.int i)) (hb : Ev tb σ H (.int j)) (h : CDivW i j) : Ev (tOp rDivI ta tb) σ H (.int (i / j)) := ev_op ha hb (rv_I h)
theorem ev_mod (ha : Ev ta σ H (.int i)) (hb : Ev tb σ H (.int j)) (h : 0 < j) : Ev (tOp rModI ta tb) σ H (.int (i % j)) := ev_op ha hb (rv_I h)
theorem ev_pow (ha : Ev ta σ H (.int i)) (hb : Ev tb σ H (.int j)) (h : CPow i j) : Ev (tOp rPowI ta tb) σ H (.int (i ^ j.toNat)) := ev_op ha hb (rv_I h)
theorem ev_shl (ha : Ev ta σ H (.int i)) (hb : Ev tb σ H (.int j)) (h : CPow i j) : Ev (tOp rShlI ta tb) σ H (.int (i * 2 ^ j.toNat)) := ev_op ha hb (rv_I h)
theorem ev_lt (ha : Ev ta σ H (.int i)) (hb : Ev tb σ H (.int j)) : Ev (tOp rLtI ta tb) σ H (.bl (decide (i < j))) := ev_op ha hb rv_I0
theorem ev_le (ha : Ev ta σ H (.int i)) (hb : Ev tb σ H (.int j)) : Ev (tOp rLeI ta tb) σ H (.bl (decide (i ≤ j))) := ev_op ha hb rv_I0
theorem ev_gt (ha : Ev ta σ H (.int i)) (hb : Ev tb σ H (.int j)) : Ev (tOp rGtI ta tb) σ H (.bl (decide (j < i))) := ev_op ha hb rv_I0
theorem ev_ge (ha : Ev ta σ H (.int i)) (hb : Ev tb σ H (.int j)) : Ev (tOp rGeI ta tb) σ H (.bl (decide (j ≤ i))) := ev_op ha hb rv_I0
theorem ev_neg (ha : Ev ta σ H (.int i)) : Ev (tUn rNegU ta) σ H (.int (-i)) := ev_un ha ru_neg
theorem ev_to {u : V} (h : Ev te σ H v) (e : v = u) : Ev te σ H u := e ▸ h
theorem int_dec : decide (V.int i = V.int j) = decide (i = j) := by
  by_cases h : i = j
  · rw [h]; simp
  · rw [decide_eq_false h, decide_eq_false fun z => h (V.int.inj z)]
theorem bl_dec : decide (V.bl b = V.bl k) = decide (b = k) := by
  by_cases h : b = k
  · rw [h]; simp
  · rw [decide_eq_false h, decide_eq_false fun z => h (V.bl.inj z)]
theorem ev_eqS (ha : Ev ta σ H x) (hb : Ev tb σ H y) (h : scal x y = true) : Ev (tOp (rEqA K) ta tb) σ H (.bl (decide (x = y))) := ev_op ha hb fun H1 e Q q => .inl ⟨h, q H1 (Ex.refl _)⟩
theorem ev_neS (ha : Ev ta σ H x) (hb : Ev tb σ H y) (h : scal x y = true) : Ev (tOp (rNeA K) ta tb) σ H (.bl (!decide (x = y))) := ev_op ha hb fun H1 e Q q => .inl ⟨h, q H1 (Ex.refl _)⟩
theorem ev_eqI (ha : Ev ta σ H (.int i)) (hb : Ev tb σ H (.int j)) : Ev (tOp (rEqA K) ta tb) σ H (.bl (decide (i = j))) := int_dec ▸ ev_eqS ha hb rfl
theorem ev_neI (ha : Ev ta σ H (.int i)) (hb : Ev tb σ H (.int j)) : Ev (tOp (rNeA K) ta tb) σ H (.bl (!decide (i = j))) := int_dec ▸ ev_neS ha hb rfl
theorem ev_eqB (ha : Ev ta σ H (.bl b)) (hb : Ev tb σ H (.bl k)) : Ev (tOp (rEqA K) ta tb) σ H (.bl (decide (b = k))) := bl_dec ▸ ev_eqS ha hb rfl
theorem ev_neB (ha : Ev ta σ H (.bl b)) (hb : Ev tb σ H (.bl k)) : Ev (tOp (rNeA K) ta tb) σ H (.bl (!decide (b = k))) := bl_dec ▸ ev_neS ha hb rfl
theorem shaped_of [Dt c] (h : Dt.dep c ≤ 64) (a : α) : SeqAt.shaped (Dt.d c a) = true := by
  unfold SeqAt.shaped
  rw [Dt.lay (c := c) a, Bool.true_and]
  exact decide_eq_true (Nat.le_trans (Dt.depth (c := c) a) h)
theorem ev_eqC [Mo c] [Dt c] [DecidableEq α] {a a' : α} (ha : EvC ta σ Hs c a) (hb : EvC tb σ Hs c a') (h : Dt.dep c ≤ 64 := by decide) : Ev (tOp (rEqA K) ta tb) σ Hs (.bl (decide (a = a'))) :=
  ev_opP ha (fun _ _ _ e p => Mo.mo e p) hb (fun _ _ _ e p => Mo.mo e p) fun x y Hs1 _ p q H e Q k => .inr ⟨_, _, Dt.dp (Mo.mo e p), Dt.dp (Mo.mo e q), shaped_of h a, shaped_of h a', by rw [dt_dec]; exact k H (Ex.refl _)⟩
theorem ev_neC [Mo c] [Dt c] [DecidableEq α] {a a' : α} (ha : EvC ta σ Hs c a) (hb : EvC tb σ Hs c a') (h : Dt.dep c ≤ 64 := by decide) : Ev (tOp (rNeA K) ta tb) σ Hs (.bl (!decide (a = a'))) :=
  ev_opP ha (fun _ _ _ e p => Mo.mo e p) hb (fun _ _ _ e p => Mo.mo e p) fun x y Hs1 _ p q H e Q k => .inr ⟨_, _, Dt.dp (Mo.mo e p), Dt.dp (Mo.mo e q), shaped_of h a, shaped_of h a', by rw [dt_dec]; exact k H (Ex.refl _)⟩
theorem ev_isN (ha : Ev ta σ H x) : Ev (tOp rIsN ta (tC .non)) σ H (.bl (decide (x = .non))) := ev_op ha ev_c fun H1 _ Q q => ⟨rfl, q H1 (Ex.refl _)⟩
theorem ev_notN (ha : Ev ta σ H x) : Ev (tOp rNotN ta (tC .non)) σ H (.bl (!decide (x = .non))) := ev_op ha ev_c fun H1 _ Q q => ⟨rfl, q H1 (Ex.refl _)⟩
theorem ev_isNP {P : V → Hp → Prop} (ha : EvP ta σ Hs P) (h : ∀ v H, P v H → decide (v = .non) = b) : Ev (tOp rIsN ta (tC .non)) σ Hs (.bl b) := fun H e Q q =>
  ha H e _ fun v H2 Hs2 g p => ⟨rfl, by rw [h v Hs2 p]; exact q H2 g.b⟩
theorem ev_notNP {P : V → Hp → Prop} (ha : EvP ta σ Hs P) (h : ∀ v H, P v H → decide (v = .non) = b) : Ev (tOp rNotN ta (tC .non)) σ Hs (.bl (!b)) := fun H e Q q =>
  ha H e _ fun v H2 Hs2 g p => ⟨rfl, by rw [h v Hs2 p]; exact q H2 g.b⟩
/-- a < b < c -/
theorem ev_chain {r r' : R2} {z : V} {k m : Bool} (ha : Ev ta σ H x) (hb : Ev tb σ H y) (hr : RV r x y H (.bl k)) (hc : k = true → Ev tc σ H z) (hr' : k = true → RV r' y z H (.bl m)) : Ev (tChain r r' ta tb tc) σ H (.bl (k && m)) := fun H1 e Q q =>
  ha H1 e _ fun H2 e2 => hb H2 (e.trans e2) _ fun H3 e3 => hr H3 ((e.trans e2).trans e3) _ fun H4 e4 => ⟨k, rfl, by
    cases k with
    | false => exact iteF (q H4 ((e2.trans e3).trans e4))
    | true =>
      have e' := ((e.trans e2).trans e3).trans e4
      exact iteT (hc rfl H4 e' _ fun H5 e5 => hr' rfl H5 (e'.trans e5) Q fun H6 e6 => q H6 ((((e2.trans e3).trans e4).trans e5).trans e6))⟩
theorem rv_I0' {g : Int → Int → V} : RV (rI0 g) (.int i) (.int j) H (g i j) := rv_I0
/-! in -/
theorem flat_ints (l : List Int) : (l.map V.int).all flatV = true := by
  rw [List.all_map]
  exact List.all_eq_true.mpr fun _ _ => rfl
theorem inV_ints : ∀ {n : Int} {l : List Int}, inV (.int n) (l.map V.int) = decide (n ∈ l)
  | n, [] => by simp [inV]
  | n, m :: l => by
    have ih := inV_ints (n := n) (l := l)
    have e : eqV (.int m) (.int n) = (m == n) := rfl
    show (eqV (.int m) (.int n) || inV (.int n) (l.map V.int)) = _
    rw [ih, e]
    by_cases h : n = m
    · subst h; simp
    · have h' : (m == n) = false := by simpa using fun z => h z.symm
      rw [h']
      simp [h]
theorem ev_in {l : List Int} (ha : Ev ta σ Hs (.int i)) (hb : EvC tb σ Hs (cL cI) l) : Ev (tOp (rIn K false) ta tb) σ Hs (.bl (decide (i ∈ l))) := fun H e Q q =>
  ha H e _ fun H2 e2 => hb H2 (e.trans e2) _ fun v H3 Hs3 g p => by
    obtain ⟨a, rfl, h2⟩ := cL_ints p
    refine ⟨a, _, rfl, .inl (sq_ex g.i h2), rfl, flat_ints l, ?_⟩
    show Q (.bl (inV (.int i) (l.map V.int))) H3
    rw [inV_ints]
    exact q H3 (e2.trans g.b)
theorem ev_notIn {l : List Int} (ha : Ev ta σ Hs (.int i)) (hb : EvC tb σ Hs (cL cI) l) : Ev (tOp (rIn K true) ta tb) σ Hs (.bl (!decide (i ∈ l))) := fun H e Q q =>
  ha H e _ fun H2 e2 => hb H2 (e.trans e2) _ fun v H3 Hs3 g p => by
    obtain ⟨a, rfl, h2⟩ := cL_ints p
    refine ⟨a, _, rfl, .inl (sq_ex g.i h2), rfl, flat_ints l, ?_⟩
    show Q (.bl (!inV (.int i) (l.map V.int))) H3
    rw [inV_ints]
    exact q H3 (e2.trans g.b)
/-! items -/
theorem ep_ixL {l : List α} {a : α} {n : Nat} [Mo c] (ha : EvC ta σ Hs (cL c) l) (hb : Ev tb σ Hs (.int (n : Int))) (h : l[n]? = some a) : EvC (tOp (rIx K) ta tb) σ Hs c a := fun H e Q q =>
  ha H e _ fun v H2 Hs2 g ⟨p, xs, h1, h2, h3⟩ => hb H2 (e.trans g.b) _ fun H3 e3 => by
    obtain ⟨x, hx, cx⟩ := Paired.at2 h3 h
    exact .inl ⟨p, xs, n, x, h1, rfl, sq_ex (g.i.trans e3) h2, atI_nat hx, q x H3 Hs2 (g.trans (Grow.up g.i e3)) cx⟩
theorem ep_ixLast {l : List α} {a : α} [Mo c] (ha : EvC ta σ Hs (cL c) (l ++ [a])) (hb : Ev tb σ Hs (.int (-1))) : EvC (tOp (rIx K) ta tb) σ Hs c a := fun H e Q q =>
  ha H e _ fun v H2 Hs2 g ⟨p, xs, h1, h2, h3⟩ => hb H2 (e.trans g.b) _ fun H3 e3 => by
    obtain ⟨x, hx, cx⟩ := Paired.at2 h3 (i := l.length) (a := a) (by simp)
    have hl : xs.length = l.length + 1 := by rw [← h3.length]; simp
    have ex : xs = xs.dropLast ++ [x] := by
      have hne : xs ≠ [] := fun z => by rw [z] at hl; simp at hl
      have e1 : xs.getLast hne = x := by
        rw [List.getLast_eq_getElem]
        have := (List.getElem?_eq_some_iff.mp hx).2
        simpa [hl] using this
      rw [← e1]
      exact (List.dropLast_concat_getLast hne).symm
    have hA : atI xs (-1) = some x := by
      rw [ex]
      exact atI_last _ _
    exact .inl ⟨p, xs, -1, x, h1, rfl, sq_ex (g.i.trans e3) h2, hA, q x H3 Hs2 (g.trans (Grow.up g.i e3)) cx⟩
theorem ep_ixQ {l : List α} {a : α} {n : Nat} [Mo c] (ha : EvC ta σ Hs (cQ c) l) (hb : Ev tb σ Hs (.int (n : Int))) (h : l[n]? = some a) : EvC (tOp (rIx K) ta tb) σ Hs c a := fun H e Q q =>
  ha H e _ fun v H2 Hs2 g ⟨p, xs, h1, h2, h3⟩ => hb H2 (e.trans g.b) _ fun H3 e3 => by
    obtain ⟨x, hx, cx⟩ := Paired.at2 h3 h
    exact .inr (.inl ⟨p, xs, n, x, h1, rfl, sqt_ex (g.i.trans e3) h2, atI_nat hx, q x H3 Hs2 (g.trans (Grow.up g.i e3)) cx⟩)
theorem ep_fst {p : α × β} (ha : EvC ta σ Hs (cP c d) p) (hb : Ev tb σ Hs (.int 0)) : EvC (tOp (rIx K) ta tb) σ Hs c p.1 := fun H e Q q =>
  ha H e _ fun v H2 Hs2 g ⟨a, x, y, h1, h2, h3, h4⟩ => hb H2 (e.trans g.b) _ fun H3 e3 =>
    .inr (.inl ⟨a, [x, y], 0, x, h1, rfl, sqt_ex (g.i.trans e3) h2, atI_nat (j := 0) rfl, q x H3 Hs2 (g.trans (Grow.up g.i e3)) h3⟩)
theorem ep_snd {p : α × β} (ha : EvC ta σ Hs (cP c d) p) (hb : Ev tb σ Hs (.int 1)) : EvC (tOp (rIx K) ta tb) σ Hs d p.2 := fun H e Q q =>
  ha H e _ fun v H2 Hs2 g ⟨a, x, y, h1, h2, h3, h4⟩ => hb H2 (e.trans g.b) _ fun H3 e3 =>
    .inr (.inl ⟨a, [x, y], 1, y, h1, rfl, sqt_ex (g.i.trans e3) h2, atI_nat (j := 1) rfl, q y H3 Hs2 (g.trans (Grow.up g.i e3)) h4⟩)
theorem evI_c (h : EvC te σ Hs cI i) : Ev te σ Hs (.int i) := ev_ep h
theorem evB_c (h : EvC te σ Hs cB b) : Ev te σ Hs (.bl b) := ev_ep h
theorem c_evI (h : Ev te σ Hs (.int i)) : EvC te σ Hs cI i := ep_ev h rfl
theorem c_evB (h : Ev te σ Hs (.bl b)) : EvC te σ Hs cB b := ep_ev h rfl
/-! slices of lists -/
theorem sIx_le' (n k : Nat) : HT.sIx n 0 (some (k : Int)) = min k n := HT.sIx_nat n 0 k
theorem cut_to (xs : List V) (k : Nat) : cutV xs none (some (k : Int)) = xs.take k := by
  unfold cutV
  rw [HT.sIx_none, HT.sIx_nat, List.drop_zero, Nat.sub_zero, List.take_eq_take_iff]
  omega
theorem cut_from (xs : List V) (k : Nat) : cutV xs (some (k : Int)) none = xs.drop k := by
  unfold cutV
  rw [HT.sIx_none, HT.sIx_nat]
  by_cases h : k ≤ xs.length
  · rw [Nat.min_eq_left h]
    exact List.take_of_length_le (by rw [List.length_drop]; exact Nat.le_refl _)
  · rw [Nat.min_eq_right (by omega), List.drop_eq_nil_of_le (Nat.le_refl _), List.drop_eq_nil_of_le (by omega), List.take_nil]
theorem Paired.cut {F : α → V → Prop} : ∀ {l : List α} {xs : List V} (n : Nat), Paired F l xs → Paired F (l.take n) (xs.take n)
  | _, _, 0, _ => by rw [List.take_zero, List.take_zero]; exact .nil
  | _, _, _ + 1, .nil => .nil
  | _, _, n + 1, .cons h t => .cons h (Paired.cut n t)
theorem Paired.rest {F : α → V → Prop} : ∀ {l : List α} {xs : List V} (n : Nat), Paired F l xs → Paired F (l.drop n) (xs.drop n)
  | _, _, 0, h => h
  | _, _, _ + 1, .nil => .nil
  | _, _, n + 1, .cons h t => Paired.rest n t
theorem ef_sl {l m : List α} {lo hi : Option Int} {tl th : TO} (ha : EvC ta σ Hs (cL c) l) (h1 : EvO tl σ Hs lo) (h2 : EvO th σ Hs hi) (h : ∀ xs : List V, ∀ H : Hp, Paired (fun b x => c b H x) l xs → Paired (fun b x => c b H x) m (cutV xs lo hi)) : EvFC (tSl (rSlL K) ta tl th) σ Hs c m := fun H e Q q =>
  ha H e _ fun v H2 Hs2 g ⟨a, xs, e1, e2, e3⟩ => h1 H2 (e.trans g.b) _ fun H3 b3 => h2 H3 ((e.trans g.b).trans b3) _ fun H4 b4 => ⟨a, xs, e1, sq_ex ((g.i.trans b3).trans b4) e2, fun p hp => by
    have gg : Grow Hs H Hs2 H4 := g.trans (Grow.up g.i (b3.trans b4))
    refine q p _ (upd H4 p _) Hs2 (gg.trans (Grow.up gg.i (Ex.new hp))) (fresh_back gg.b hp) (fresh_back gg.i hp) upd_same (h xs Hs2 e3)⟩
theorem ef_to {l : List α} {n : Nat} {th : TE} (ha : EvC ta σ Hs (cL c) l) (h2 : Ev th σ Hs (.int (n : Int))) : EvFC (tSl (rSlL K) ta tNoPart (tPart th)) σ Hs c (l.take n) :=
  ef_sl ha eo_none (eo_some h2) fun xs H p => by rw [cut_to]; exact Paired.cut n p
theorem ef_from {l : List α} {n : Nat} {tl : TE} (ha : EvC ta σ Hs (cL c) l) (h2 : Ev tl σ Hs (.int (n : Int))) : EvFC (tSl (rSlL K) ta (tPart tl) tNoPart) σ Hs c (l.drop n) :=
  ef_sl ha (eo_some h2) eo_none fun xs H p => by rw [cut_from]; exact Paired.rest n p
/-! displays -/
theorem ef_nil : EvFC (tLst tNil) σ Hs c [] := fun H e Q q => ⟨Nat.zero_le _, fun p hp => q p [] _ Hs (Grow.up e (Ex.new hp)) hp (fresh_back e hp) upd_same .nil⟩
theorem ef_lst {P : List V → Hp → Prop} (h : EvAs targ σ Hs P) (hl : ∀ vs H, P vs H → vs.length ≤ 40000) : EvF (tLst targ) σ Hs P := fun H e Q q => h H e _ fun vs H2 Hs2 g p =>
  ⟨Nat.le_of_lt (size_lt (hl vs Hs2 p)), fun a ha => q a vs _ Hs2 (g.trans (Grow.up g.i (Ex.new ha))) (fresh_back g.b ha) (fresh_back g.i ha) upd_same p⟩
theorem ep_tup {P : List V → Hp → Prop} (h : EvAs targ σ Hs P) (hl : ∀ vs H, P vs H → vs.length ≤ 40000) : EvP (tTup targ) σ Hs fun v H => ∃ a vs H0, v = .ref a ∧ H a = some (.tup vs) ∧ Ex H0 H ∧ P vs H0 := fun H e Q q => h H e _ fun vs H2 Hs2 g p =>
  ⟨Nat.le_of_lt (size_lt (hl vs Hs2 p)), fun a ha => by
    have gg := g.trans (Grow.new (o := .tup vs) g.i ha)
    exact q (.ref a) _ (upd Hs2 a (.tup vs)) gg ⟨a, vs, Hs2, rfl, upd_same, Ex.new (fresh_back g.i ha), p⟩⟩
/-- (a, b) -/
theorem ep_pair {a : α} {b : β} [Mo c] [Mo d] (h1 : EvC ta σ Hs c a) (h2 : EvC tb σ Hs d b) : EvC (tTup (tCons ta (tCons tb tNil))) σ Hs (cP c d) (a, b) := by
  have h := ep_tup (σ := σ) (Hs := Hs) (as_cons h1 (fun _ _ _ e p => Mo.mo e p) fun Hs1 e => as_cons (EvC.lift h2 e) (fun _ _ _ e p => Mo.mo e p) fun _ _ => as_nil) (fun vs H p => by
    obtain ⟨v, r, rfl, _, w, r2, rfl, _, rfl⟩ := p
    show 2 ≤ 40000
    decide)
  refine h.imp fun v H e p => ?_
  obtain ⟨p, vs, H0, rfl, h3, h4, u, r, rfl, cu, w, r2, rfl, cw, rfl⟩ := p
  exact ⟨p, u, w, rfl, h3, Mo.mo h4 cu, Mo.mo h4 cw⟩
/-! built-ins -/
def rLenA (K : PySem.W.Frag) : List V → Hp → VK → Prop := fun xs H Q => ∃ p ys, xs = [.ref p] ∧ (SqL K H p ys ∨ SqT K H p ys) ∧ Q (.int ys.length) H
theorem ev_lenC {l : List α} (ha : EvC ta σ Hs (cL c) l) : Ev (tCB (rLenA K) (tCons ta tNil)) σ Hs (.int (l.length : Int)) := fun H e Q q => ha H e _ fun v H2 Hs2 g ⟨p, xs, h1, h2, h3⟩ =>
  ⟨p, xs, by rw [h1], .inl (sq_ex g.i h2), by rw [← h3.length]; exact q H2 g.b⟩
theorem ev_lenQ {l : List α} (ha : EvC ta σ Hs (cQ c) l) : Ev (tCB (rLenA K) (tCons ta tNil)) σ Hs (.int (l.length : Int)) := fun H e Q q => ha H e _ fun v H2 Hs2 g ⟨p, xs, h1, h2, h3⟩ =>
  ⟨p, xs, by rw [h1], .inr (sqt_ex g.i h2), by rw [← h3.length]; exact q H2 g.b⟩
theorem ev_sum {l : List Int} (ha : EvC ta σ Hs (cL cI) l) : Ev (tCB (rSum K) (tCons ta tNil)) σ Hs (.int l.sum) := fun H e Q q => ha H e _ fun v H2 Hs2 g p => by
  obtain ⟨a, rfl, h2⟩ := cL_ints p
  exact ⟨a, l, rfl, sq_ex g.i h2, q H2 g.b⟩
theorem bls_of {l : List Bool} {H : Hp} {v : V} (h : cL cB l H v) : ∃ a, v = .ref a ∧ H a = some (.lst (l.map V.bl)) := by
  obtain ⟨a, xs, h1, h2, h3⟩ := h
  exact ⟨a, h1, by rw [h2, paired_bls h3]⟩
theorem ev_any {l : List Bool} (ha : EvC ta σ Hs (cL cB) l) : Ev (tCB (rAny K) (tCons ta tNil)) σ Hs (.bl (l.any id)) := fun H e Q q => ha H e _ fun v H2 Hs2 g p => by
  obtain ⟨a, rfl, h2⟩ := bls_of p
  exact ⟨a, l, rfl, sq_ex g.i h2, q H2 g.b⟩
theorem ev_all {l : List Bool} (ha : EvC ta σ Hs (cL cB) l) : Ev (tCB (rAll K) (tCons ta tNil)) σ Hs (.bl (l.all id)) := fun H e Q q => ha H e _ fun v H2 Hs2 g p => by
  obtain ⟨a, rfl, h2⟩ := bls_of p
  exact ⟨a, l, rfl, sq_ex g.i h2, q H2 g.b⟩
def rMaxI : List V → Hp → VK → Prop := fun xs H Q => ∃ i j, xs = [.int i, .int j] ∧ Q (.int (if j > i then j else i)) H
theorem ev_maxI (ha : Ev ta σ H (.int i)) (hb : Ev tb σ H (.int j)) : Ev (tCB rMaxI (tCons ta (tCons tb tNil))) σ H (.int (if j > i then j else i)) := fun H1 e Q q =>
  ha H1 e _ fun H2 e2 => hb H2 (e.trans e2) _ fun H3 e3 => ⟨i, j, rfl, q H3 (e2.trans e3)⟩
theorem ev_gcd (ha : Ev ta σ H (.int i)) (hb : Ev tb σ H (.int j)) : Ev (tCB rGcd (tCons ta (tCons tb tNil))) σ H (.int ((Nat.gcd i.natAbs j.natAbs : Nat) : Int)) := fun H1 e Q q =>
  ha H1 e _ fun H2 e2 => hb H2 (e.trans e2) _ fun H3 e3 => ⟨i, j, rfl, q H3 (e2.trans e3)⟩
def rListA (K : PySem.W.Frag) : List V → Hp → VK → Prop := fun xs H Q => ∃ p ys, xs = [.ref p] ∧ (SqL K H p ys ∨ SqT K H p ys) ∧ ∀ l, H l = none → Q (.ref l) (upd H l (.lst ys))
theorem ef_list {l : List α} (ha : EvC ta σ Hs (cL c) l) : EvFC (tCB (rListA K) (tCons ta tNil)) σ Hs c l := fun H e Q q => ha H e _ fun v H2 Hs2 g ⟨p, xs, h1, h2, h3⟩ =>
  ⟨p, xs, by rw [h1], .inl (sq_ex g.i h2), fun a ha => q a xs _ Hs2 (g.trans (Grow.up g.i (Ex.new ha))) (fresh_back g.b ha) (fresh_back g.i ha) upd_same h3⟩
theorem ef_listQ {l : List α} (ha : EvC ta σ Hs (cQ c) l) : EvFC (tCB (rListA K) (tCons ta tNil)) σ Hs c l := fun H e Q q => ha H e _ fun v H2 Hs2 g ⟨p, xs, h1, h2, h3⟩ =>
  ⟨p, xs, by rw [h1], .inr (sqt_ex g.i h2), fun a ha => q a xs _ Hs2 (g.trans (Grow.up g.i (Ex.new ha))) (fresh_back g.b ha) (fresh_back g.i ha) upd_same h3⟩
/-- sorted(set(l)) -/
theorem ef_sortedSet {w : World} {l : List Int} (ha : EvC ta σ Hs (cL cI) l) (h : (dd l).length < 64) (hl : l.length ≤ 4000) : EvF (tCB (rSortedSet w) (tCons (tCB (rSetOf K w) (tCons ta tNil)) tNil)) σ Hs fun xs _ => ∃ ns : List Int, xs = ns.map V.int ∧ ns.Pairwise (· < ·) ∧ ∀ k, k ∈ ns ↔ k ∈ l := fun H e Q q => ha H e _ fun v H2 Hs2 g p => by
  obtain ⟨a, rfl, h2⟩ := cL_ints p
  refine ⟨a, l, rfl, sq_ex g.i h2, hl, fun s hs => ⟨s, _, _, rfl, upd_same, h, fun ns r hp hm _ hr => ?_⟩⟩
  have g2 : Grow Hs H Hs2 (upd H2 s (SetO w s (fun j => decide (j ∈ l)) (dd l).length)) := g.trans (Grow.up g.i (Ex.new hs))
  exact q r _ _ Hs2 (g2.trans (Grow.up g2.i (Ex.new hr))) (fresh_back g2.b hr) (fresh_back g2.i hr) upd_same ⟨ns, rfl, hp, fun k => (hm k).trans decide_eq_true_iff⟩
/-- len(set(l)) -/
theorem ev_lenSet {w : World} {l : List Int} (ha : EvC ta σ Hs (cL cI) l) (hl : l.length ≤ 4000) : Ev (tCB (rLenSet w) (tCons (tCB (rSetOf K w) (tCons ta tNil)) tNil)) σ Hs (.int ((dd l).length : Nat)) := fun H e Q q => ha H e _ fun v H2 Hs2 g p => by
  obtain ⟨a, rfl, h2⟩ := cL_ints p
  exact ⟨a, l, rfl, sq_ex g.i h2, hl, fun s hs => ⟨s, _, _, rfl, upd_same, q _ (g.b.trans (Ex.new hs))⟩⟩
end
end LH

namespace LH
open PySem L2 Evl PyProof.Rows
/-! ### statements -/
section
variable {α β : Type} {c : Cd α} {d : Cd β} {σ : L2.St} {Hs H : Hp} {te ta tb : TE} {tt : TT} {v w : V} {P : V → Hp → Prop} {K : PySem.W.Frag} {D : Ends} {tz tu tw : TS} {i j : Nat} {b : Bool}
theorem q_set (h : Ev te σ Hs v) (e : Ex Hs H) (k : ∀ H2, Ex H H2 → tz D (σ.set i (some v)) H2) : tSeq (tAsg te (gName i)) tz D σ H := h H e _ k
theorem s_set (h : Ev te σ Hs v) (e : Ex Hs H) (k : ∀ H2, Ex H H2 → D.nx (σ.set i (some v)) H2) : tAsg te (gName i) D σ H := h H e _ k
theorem q_setP (h : EvP te σ Hs P) (e : Ex Hs H) (k : ∀ v H2 Hs2, Grow Hs H Hs2 H2 → P v Hs2 → tz D (σ.set i (some v)) H2) : tSeq (tAsg te (gName i)) tz D σ H := h H e _ k
theorem s_setP (h : EvP te σ Hs P) (e : Ex Hs H) (k : ∀ v H2 Hs2, Grow Hs H Hs2 H2 → P v Hs2 → D.nx (σ.set i (some v)) H2) : tAsg te (gName i) D σ H := h H e _ k
theorem q_setF {P : List V → Hp → Prop} (h : EvF te σ Hs P) (e : Ex Hs H) (k : ∀ p xs H2 Hs2, Grow Hs H Hs2 H2 → H p = none → Hs2 p = none → H2 p = some (.lst xs) → P xs Hs2 → tz D (σ.set i (some (.ref p))) H2) : tSeq (tAsg te (gName i)) tz D σ H := h H e _ k
theorem q_par (h1 : Ev ta σ Hs v) (h2 : Ev tb σ Hs w) (e : Ex Hs H) (k : ∀ H2, Ex H H2 → tz D ((σ.set i (some v)).set j (some w)) H2) : tSeq (tPar i j (tCons ta (tCons tb tNil))) tz D σ H :=
  h1 H e _ fun H2 e2 => h2 H2 (e.trans e2) _ fun H3 e3 => ⟨v, w, rfl, k H3 (e2.trans e3)⟩
theorem s_par (h1 : Ev ta σ Hs v) (h2 : Ev tb σ Hs w) (e : Ex Hs H) (k : ∀ H2, Ex H H2 → D.nx ((σ.set i (some v)).set j (some w)) H2) : tPar i j (tCons ta (tCons tb tNil)) D σ H :=
  h1 H e _ fun H2 e2 => h2 H2 (e.trans e2) _ fun H3 e3 => ⟨v, w, rfl, k H3 (e2.trans e3)⟩
/-- a, b = [..], [..] : two new lists -/
theorem q_parF {P P' : List V → Hp → Prop} (h1 : EvF ta σ Hs P) (h2 : ∀ Hs1, Ex Hs Hs1 → EvF tb σ Hs1 P') (e : Ex Hs H) (mo : ∀ xs H H2, Ex H H2 → P xs H → P xs H2)
    (k : ∀ p q xs ys H2 Hs2, Grow Hs H Hs2 H2 → H p = none → H q = none → p ≠ q → Hs2 p = none → Hs2 q = none → H2 p = some (.lst xs) → H2 q = some (.lst ys) → P xs Hs2 → P' ys Hs2 → tz D ((σ.set i (some (.ref p))).set j (some (.ref q))) H2) :
    tSeq (tPar i j (tCons ta (tCons tb tNil))) tz D σ H :=
  h1 H e _ fun p xs H2 Hs2 g a1 a2 a3 a4 => h2 Hs2 g.s H2 g.i _ fun q ys H3 Hs3 g3 b1 b2 b3 b4 => by
    have pq : p ≠ q := fun z => by rw [z, b1] at a3; cases a3
    exact ⟨.ref p, .ref q, rfl, k p q xs ys H3 Hs3 (g.trans g3) a1 (fresh_back g.b b1) pq (g3.f p a2 (by rw [a3]; exact fun z => nomatch z)) b2 (g3.b _ _ a3) b3 (mo xs Hs2 Hs3 g3.s a4) b4⟩
theorem q_two {ab : α × β} (h : EvC te σ Hs (cP c d) ab) (e : Ex Hs H) (k : ∀ u v H2 Hs2, Grow Hs H Hs2 H2 → c ab.1 Hs2 u → d ab.2 Hs2 v → tz D ((σ.set i (some u)).set j (some v)) H2) :
    tSeq (tAsg te (gTup K 2 (gCons (gName i) (gCons (gName j) gNil)))) tz D σ H := h H e _ fun x H2 Hs2 g p => g_two p g.i fun u v cu cv => k u v H2 Hs2 g cu cv
theorem q_ifB (h : EvT tt σ Hs b) (e : Ex Hs H) (h1 : b = true → ∀ H2, Ex H H2 → tu { D with nx := tz D } σ H2) (h2 : b = false → ∀ H2, Ex H H2 → tw { D with nx := tz D } σ H2) : tSeq (tIfS tt tu tw) tz D σ H :=
  s_if (D := { D with nx := tz D }) (h.mono e) h1 h2
/-- an if without else -/
theorem q_whenB (h : EvT tt σ Hs b) (e : Ex Hs H) (h1 : b = true → ∀ H2, Ex H H2 → tu { D with nx := tz D } σ H2) (h2 : b = false → ∀ H2, Ex H H2 → tz D σ H2) : tSeq (tIfS tt tu tNext) tz D σ H := q_ifB h e h1 h2
theorem s_whenB (h : EvT tt σ Hs b) (e : Ex Hs H) (h1 : b = true → ∀ H2, Ex H H2 → tu D σ H2) (h2 : b = false → ∀ H2, Ex H H2 → D.nx σ H2) : tIfS tt tu tNext D σ H := s_if (h.mono e) h1 h2
/-- an if whose suite is never run -/
theorem q_no (h : EvT tt σ Hs false) (e : Ex Hs H) (k : ∀ H2, Ex H H2 → tz D σ H2) : tSeq (tIfS tt tu tNext) tz D σ H := q_ifB h e (fun z => nomatch z) fun _ => k
theorem s_no (h : EvT tt σ Hs false) (e : Ex Hs H) (k : ∀ H2, Ex H H2 → D.nx σ H2) : tIfS tt tu tNext D σ H := s_if (h.mono e) (fun z => nomatch z) fun _ => k
theorem s_ifB (h : EvT tt σ Hs b) (e : Ex Hs H) (h1 : b = true → ∀ H2, Ex H H2 → tu D σ H2) (h2 : b = false → ∀ H2, Ex H H2 → tw D σ H2) : tIfS tt tu tw D σ H := s_if (h.mono e) h1 h2
theorem q_dropE (h : EvP te σ Hs P) (e : Ex Hs H) (k : ∀ H2 Hs2, Grow Hs H Hs2 H2 → tz D σ H2) : tSeq (tDrop te) tz D σ H := h H e _ fun v H2 Hs2 g _ => k H2 Hs2 g
theorem s_dropE (h : EvP te σ Hs P) (e : Ex Hs H) (k : ∀ H2 Hs2, Grow Hs H Hs2 H2 → D.nx σ H2) : tDrop te D σ H := h H e _ fun v H2 Hs2 g _ => k H2 Hs2 g
theorem s_retS (h : Ev te σ Hs v) (e : Ex Hs H) (k : RetV v H D.rt) : tRet te D σ H := h H e _ k
theorem s_retP (h : EvP te σ Hs P) (e : Ex Hs H) (k : RetP Hs H P D.rt) : tRet te D σ H := h H e _ k
theorem s_retF {P : List V → Hp → Prop} (h : EvF te σ Hs P) (e : Ex Hs H) (k : RetF Hs H P D.rt) : tRet te D σ H := h H e _ k
/-- what was begun is gone on with -/
theorem RetP.on {Hs2 H2 : Hp} {Q : VK} (k : RetP Hs H P Q) (g : Grow Hs H Hs2 H2) : RetP Hs2 H2 P Q := fun v H3 Hs3 g3 p => k v H3 Hs3 (g.trans g3) p
theorem RetV.on {H2 : Hp} {Q : VK} (k : RetV v H Q) (b : Ex H H2) : RetV v H2 Q := fun H3 e => k H3 (b.trans e)
theorem on_v {H2 : Hp} {Q : VK} (k : RetV v H Q) (b : Ex H H2) : RetV v H2 Q := fun H3 e => k H3 (b.trans e)
theorem on_p {Hs2 H2 : Hp} {Q : VK} (k : RetP Hs H P Q) (g : Grow Hs H Hs2 H2) : RetP Hs2 H2 P Q := RetP.on k g
theorem RetF.on {P : List V → Hp → Prop} {Hs2 H2 : Hp} {Q : VK} (k : RetF Hs H P Q) (g : Grow Hs H Hs2 H2) : RetF Hs2 H2 P Q := fun p xs H3 Hs3 g3 a b x y => k p xs H3 Hs3 (g.trans g3) (fresh_back g.b a) b x y
theorem on_f {P : List V → Hp → Prop} {Hs2 H2 : Hp} {Q : VK} (k : RetF Hs H P Q) (g : Grow Hs H Hs2 H2) : RetF Hs2 H2 P Q := RetF.on k g
/-- a thing that was begun over the whole heap -/
theorem on_b {H2 : Hp} {Q : VK} (k : RetP Hs H P Q) (e : Ex Hs H) (b : Ex H H2) : RetP Hs H2 P Q := RetP.on k (Grow.up e b)
/-- p.append(e), p our own list -/
theorem s_appP {p : Addr} {xs : List V} (hp : Hs p = none) (h2 : H p = some (.lst xs)) (e : Ex Hs H) (ho : Ev ta σ Hs (.ref p)) (h : EvP te σ Hs P) (hz : xs.length ≤ 40000)
    (k : ∀ v H2 Hs2, Ex Hs2 (upd H2 p (.lst (xs ++ [v]))) → Ex Hs Hs2 → Ex H H2 → Hs2 p = none → (∀ q, Hs q = none → H q ≠ none → Hs2 q = none) → P v Hs2 → D.nx σ (upd H2 p (.lst (xs ++ [v])))) :
    tDrop (tBM K "list" rAppend ta (tCons te tNil)) D σ H := ho H e _ fun H1 e1 =>
  ⟨.inl ⟨rfl, xs, sq_of (e1 p _ h2)⟩, h H1 (e.trans e1) _ fun v H2 Hs2 g pv => ⟨p, xs, v, rfl, rfl, g.b p _ (e1 p _ h2), size_lt hz, by
    have np : Hs2 p = none := g.f p hp (by rw [e1 p _ h2]; exact fun z => nomatch z)
    refine k v H2 Hs2 (fun a o q => ?_) g.s (e1.trans g.b) np (fun q h n => g.f q h (up_some e1 n)) pv
    rw [upd_ne (fun z => by rw [z, np] at q; cases q)]
    exact g.i a o q⟩⟩
theorem q_appP {p : Addr} {xs : List V} (hp : Hs p = none) (h2 : H p = some (.lst xs)) (e : Ex Hs H) (ho : Ev ta σ Hs (.ref p)) (h : EvP te σ Hs P) (hz : xs.length ≤ 40000)
    (k : ∀ v H2 Hs2, Ex Hs2 (upd H2 p (.lst (xs ++ [v]))) → Ex Hs Hs2 → Ex H H2 → Hs2 p = none → (∀ q, Hs q = none → H q ≠ none → Hs2 q = none) → P v Hs2 → tz D σ (upd H2 p (.lst (xs ++ [v])))) :
    tSeq (tDrop (tBM K "list" rAppend ta (tCons te tNil))) tz D σ H := s_appP (D := { D with nx := tz D }) hp h2 e ho h hz k
end
/-! ### built-ins by name -/
theorem b_len : bootBuiltins "len" = some (.builtin "len") := by decide +kernel
theorem b_sum : bootBuiltins "sum" = some (.builtin "sum") := by decide +kernel
theorem b_max : bootBuiltins "max" = some (.builtin "max") := by decide +kernel
theorem b_min : bootBuiltins "min" = some (.builtin "min") := by decide +kernel
theorem b_abs : bootBuiltins "abs" = some (.builtin "abs") := by decide +kernel
theorem b_any : bootBuiltins "any" = some (.builtin "any") := by decide +kernel
theorem b_all : bootBuiltins "all" = some (.builtin "all") := by decide +kernel
theorem b_isinstance : bootBuiltins "isinstance" = some (.builtin "isinstance") := by decide +kernel
theorem b_sorted : bootBuiltins "sorted" = some (.builtin "sorted") := by decide +kernel
theorem b_list : bootBuiltins "list" = some (.type "list") := by decide +kernel
theorem b_tuple : bootBuiltins "tuple" = some (.type "tuple") := by decide +kernel
theorem b_set : bootBuiltins "set" = some (.type "set") := by decide +kernel
theorem b_int : bootBuiltins "int" = some (.type "int") := by decide +kernel
theorem b_bool : bootBuiltins "bool" = some (.type "bool") := by decide +kernel
theorem b_str : bootBuiltins "str" = some (.type "str") := by decide +kernel
/-- a module's whole number -/
theorem pe_k {X : Cx} {x : Str} {n : Int} {pos : Pos} (hg : Gl X x) (h : ∃ t, X.mg x = some (.int n t)) (hd : (x == ("__debug__" : Str)) = false := by decide) : PE X (.Name x pos) (tC (.int n)) := by
  obtain ⟨t, ht⟩ := h
  exact pe_glob hg ht ⟨t, rfl⟩ hd
/-- what is the same for all readings: the written part, the world, the classes -/
structure Cn where
  K : PySem.W.Frag
  w : World
  pairs : Addr
  few : Addr
  answer : Addr
  lineError : Addr
  badPlaces : Addr
  badLines : Addr
  badTakings : Addr
end LH

namespace LH
open PySem L2 Evl PyProof.Rows
/-! ### anything that may be handed in -/
inductive Wd where
  | non | bl (b : Bool) | int (i : Int) | str (x : Str) | lst (l : List Wd) | tup (l : List Wd) | dct
mutual
inductive CW (H : Hp) : Wd → V → Prop
  | non : CW H .non .non
  | bl (b : Bool) : CW H (.bl b) (.bl b)
  | int (i : Int) : CW H (.int i) (.int i)
  | str (x : Str) : CW H (.str x) (.str x)
  | lst {a : Addr} {xs : List V} {l : List Wd} : H a = some (.lst xs) → CWs H l xs → CW H (.lst l) (.ref a)
  | tup {a : Addr} {xs : List V} {l : List Wd} : H a = some (.tup xs) → CWs H l xs → CW H (.tup l) (.ref a)
  | dct {a : Addr} : H a = some (.dK []) → CW H .dct (.ref a)
inductive CWs (H : Hp) : List Wd → List V → Prop
  | nil : CWs H [] []
  | cons {d : Wd} {x : V} {l : List Wd} {xs : List V} : CW H d x → CWs H l xs → CWs H (d :: l) (x :: xs)
end
mutual
theorem CW.mono {H H2 : Hp} (e : Ex H H2) : ∀ {d : Wd} {v : V}, CW H d v → CW H2 d v
  | _, _, .non => .non
  | _, _, .bl b => .bl b
  | _, _, .int i => .int i
  | _, _, .str x => .str x
  | _, _, .lst h t => .lst (e _ _ h) (CWs.mono e t)
  | _, _, .tup h t => .tup (e _ _ h) (CWs.mono e t)
  | _, _, .dct h => .dct (e _ _ h)
theorem CWs.mono {H H2 : Hp} (e : Ex H H2) : ∀ {l : List Wd} {xs : List V}, CWs H l xs → CWs H2 l xs
  | _, _, .nil => .nil
  | _, _, .cons h t => .cons (CW.mono e h) (CWs.mono e t)
end
def cW : Cd Wd := fun d H v => CW H d v
instance : Mo cW := ⟨fun e h => CW.mono e h⟩
theorem cws_paired {H : Hp} : ∀ {l : List Wd} {xs : List V}, CWs H l xs → Paired (fun b x => cW b H x) l xs
  | _, _, .nil => .nil
  | _, _, .cons h t => .cons h (cws_paired t)
theorem paired_cws {H : Hp} : ∀ {l : List Wd} {xs : List V}, Paired (fun b x => cW b H x) l xs → CWs H l xs
  | _, _, .nil => .nil
  | _, _, .cons h t => .cons h (paired_cws t)
theorem cW_lst {H : Hp} {l : List Wd} {v : V} (h : cW (.lst l) H v) : cL cW l H v := by
  cases h with
  | lst h t => exact ⟨_, _, rfl, h, cws_paired t⟩
theorem lst_cW {H : Hp} {l : List Wd} {v : V} (h : cL cW l H v) : cW (.lst l) H v := by
  obtain ⟨a, xs, rfl, h1, h2⟩ := h
  exact .lst h1 (paired_cws h2)
theorem ints_cW {H : Hp} {ns : List Int} {v : V} (h : cL cI ns H v) : cW (.lst (ns.map .int)) H v := by
  obtain ⟨a, xs, rfl, h1, h2⟩ := h
  refine .lst h1 (paired_cws ?_)
  clear h1
  induction h2 with
  | nil => exact .nil
  | cons h t ih => exact .cons (by cases (show _ = _ from h); exact CW.int _) ih
theorem cW_ints {H : Hp} {ns : List Int} {v : V} (h : cW (.lst (ns.map .int)) H v) : cL cI ns H v := by
  obtain ⟨a, xs, rfl, h1, h2⟩ := cW_lst h
  refine ⟨a, xs, rfl, h1, ?_⟩
  clear h1 h
  induction ns generalizing xs with
  | nil => cases h2; exact .nil
  | cons n r ih =>
    cases h2 with
    | cons h t => exact .cons (by cases h; rfl) (ih _ t)
/-- its type's name -/
def wTy : Wd → String
  | .non => "NoneType" | .bl _ => "bool" | .int _ => "int" | .str _ => "str" | .lst _ => "list" | .tup _ => "tuple" | .dct => "dict"
theorem wTy_ty {K : PySem.W.Frag} {H : Hp} {d : Wd} {v : V} (h : cW d H v) : TyX K H v (.type (wTy d)) := by
  cases h with
  | non => exact .base .non
  | bl b => exact .base (.bl b)
  | int i => exact .base (.int i)
  | str x => exact .base (.str x)
  | lst h _ => exact .base (.lst h)
  | tup h _ => exact .base (.tup h)
  | dct h => exact .base (.dK h)
def isTy (T : String) (d : Wd) : Bool := kitB (wTy d) T == some true
def TyOk (T : String) : Prop := ∀ d : Wd, kitB (wTy d) T = some (isTy T d)
theorem ty_int : TyOk "int" := fun d => by cases d <;> with_unfolding_all rfl
theorem ty_bool : TyOk "bool" := fun d => by cases d <;> with_unfolding_all rfl
theorem ty_list : TyOk "list" := fun d => by cases d <;> with_unfolding_all rfl
theorem ty_tuple : TyOk "tuple" := fun d => by cases d <;> with_unfolding_all rfl
theorem ev_isi {K : PySem.W.Frag} {σ : L2.St} {Hs : Hp} {ta : TE} {d : Wd} {T : String} (ok : TyOk T) (ha : EvC ta σ Hs cW d) : Ev (tCB (rIsi K) (tCons ta (tCons (tC (.ty T)) tNil))) σ Hs (.bl (isTy T d)) := fun H e Q q => ha H e _ fun v H2 Hs2 g p =>
  ⟨v, .ty T, _, _, isTy T d, rfl, .ty T, wTy_ty (Mo.mo g.i p), kit_ty (ok d), q H2 g.b⟩
/-! ### the looks at what is handed in, as functions -/
def wWhole : Wd → Bool | .int _ => true | _ => false
def wInt : Wd → Int | .int i => i | _ => 0
def inR (P i : Int) : Bool := decide (0 ≤ i) && decide (i < P)
def wCount (P : Int) (d : Wd) : Bool := wWhole d && inR P (wInt d)
def wItems : Wd → List Wd | .lst l => l | _ => []
def isL : Wd → Bool | .lst _ => true | _ => false
def wPlaces (P : Int) (d : Wd) : Bool := isL d && (wItems d).all (wCount P)
def rise (l : List Int) : Bool := (l.zip (l.drop 1)).all fun p => decide (p.1 < p.2)
def wLine (P : Int) (d : Wd) : Bool := wPlaces P d && (decide ((wItems d).length ≠ 0) && rise ((wItems d).map wInt))
theorem whole_eq (d : Wd) : (isTy "int" d && !isTy "bool" d) = wWhole d := by cases d <;> with_unfolding_all rfl
theorem list_eq (d : Wd) : isTy "list" d = isL d := by cases d <;> with_unfolding_all rfl
theorem tuple_eq (d : Wd) : isTy "tuple" d = (match d with | .tup _ => true | _ => false) := by cases d <;> with_unfolding_all rfl
theorem places_ints {P : Int} {d : Wd} (h : wPlaces P d = true) : ∃ ns : List Int, d = .lst (ns.map .int) ∧ ∀ n ∈ ns, inR P n = true := by
  cases d with
  | lst l =>
    have h2 : l.all (wCount P) = true := h
    clear h
    suffices ∃ ns : List Int, l = ns.map .int ∧ ∀ n ∈ ns, inR P n = true by
      obtain ⟨ns, e, r⟩ := this
      exact ⟨ns, by rw [e], r⟩
    induction l with
    | nil => exact ⟨[], rfl, fun _ h => by cases h⟩
    | cons d l ih =>
      rw [List.all_cons, Bool.and_eq_true] at h2
      obtain ⟨ns, rfl, r⟩ := ih h2.2
      have h3 := h2.1
      unfold wCount at h3
      rw [Bool.and_eq_true] at h3
      cases d with
      | int i => exact ⟨i :: ns, rfl, fun n hn => (List.mem_cons.mp hn).elim (fun z => z ▸ h3.2) (r n)⟩
      | _ => cases h3.1
  | _ => cases h
theorem ints_all (P : Int) : ∀ ns : List Int, (ns.map Wd.int).all (wCount P) = ns.all (inR P)
  | [] => rfl
  | n :: r => by
    rw [List.map_cons, List.all_cons, List.all_cons, ints_all P r]
    show (true && inR P n && _) = _
    rw [Bool.true_and]
theorem ints_wInt (ns : List Int) : (ns.map Wd.int).map wInt = ns := by
  rw [List.map_map]
  exact (List.map_congr_left fun _ _ => rfl).trans (List.map_id ns)
/-! ### promises of the looks -/
def sp_is_whole (c : Cn) : Sp := fun vs H Q _ => ∃ (Hs : Hp) (v : V) (d : Wd), Ex Hs H ∧ vs = [v] ∧ cW d Hs v ∧ RetV (.bl (wWhole d)) H Q
def sp_is_count (c : Cn) : Sp := fun vs H Q _ => ∃ (Hs : Hp) (P : Int) (v : V) (d : Wd), Ex Hs H ∧ vs = [.int P, v] ∧ cW d Hs v ∧ RetV (.bl (wCount P d)) H Q
def sp_is_list_of_places (c : Cn) : Sp := fun vs H Q _ => ∃ (Hs : Hp) (P : Int) (v : V) (d : Wd), Ex Hs H ∧ vs = [.int P, v] ∧ cW d Hs v ∧ (wItems d).length ≤ 40000 ∧ RetV (.bl (wPlaces P d)) H Q
def sp_is_line (c : Cn) : Sp := fun vs H Q _ => ∃ (Hs : Hp) (P : Int) (v : V) (d : Wd), Ex Hs H ∧ vs = [.int P, v] ∧ cW d Hs v ∧ (wItems d).length ≤ 40000 ∧ RetV (.bl (wLine P d)) H Q
structure OkLine (P : Int) (l : List Int) : Prop where
  ne : l ≠ []
  inr : ∀ x ∈ l, 0 ≤ x ∧ x < P
  up : rise l = true
  few : l.length ≤ 60
  len : (l.length : Int) ≤ P
structure OkLines (P : Int) (ls : List (List Int)) : Prop where
  few : ls.length ≤ 60
  ok : ∀ l ∈ ls, OkLine P l
structure OkTake (P : Int) (hs ms : List Int) : Prop where
  h : ∀ x ∈ hs, 0 ≤ x ∧ x < P
  m : ∀ x ∈ ms, 0 ≤ x ∧ x < P
  nd : (hs ++ ms).Nodup
  few : hs.length ≤ 60 ∧ ms.length ≤ 60
structure Board (P : Int) (ls : List (List Int)) (hs ms : List Int) : Prop where
  p : 1 ≤ P ∧ P ≤ 60
  l : OkLines P ls
  t : OkTake P hs ms
def sp_check_places (c : Cn) : Sp := fun vs H Q _ => ∃ P : Int, vs = [.int P] ∧ (1 ≤ P ∧ P ≤ 60) ∧ RetV .non H Q
def sp_check_lines (c : Cn) : Sp := fun vs H Q _ => ∃ (Hs : Hp) (P : Int) (v : V) (ls : List (List Int)), Ex Hs H ∧ vs = [.int P, v] ∧ cL (cL cI) ls Hs v ∧ OkLines P ls ∧ RetV .non H Q
def sp_check_takings (c : Cn) : Sp := fun vs H Q _ => ∃ (Hs : Hp) (P : Int) (u v : V) (hs ms : List Int), Ex Hs H ∧ vs = [.int P, u, v] ∧ cL cI hs Hs u ∧ cL cI ms Hs v ∧ OkTake P hs ms ∧ RetV .non H Q
/-- a play as it is handed in -/
def Play (Hs H : Hp) (vs : List V) (P : Int) (ls : List (List Int)) (hs ms : List Int) : Prop := ∃ u v w, Ex Hs H ∧ vs = [.int P, u, v, w] ∧ cL (cL cI) ls Hs u ∧ cL cI hs Hs v ∧ cL cI ms Hs w ∧ Board P ls hs ms
def sp_check_play (c : Cn) : Sp := fun vs H Q _ => ∃ (Hs : Hp) (P : Int) (ls : List (List Int)) (hs ms : List Int), Play Hs H vs P ls hs ms ∧ RetV .non H Q
end LH

namespace LH
open PySem L2 Evl PyProof.Rows
def t_check_play (c : Cn) : TS := (tSeq (tDrop (tCall (sp_check_places c) [] C8.E0 (tCons (tVar 0) tNil))) (tSeq (tDrop (tCall (sp_check_lines c) [] C8.E0 (tCons (tVar 0) (tCons (tVar 1) tNil)))) (tDrop (tCall (sp_check_takings c) [] C8.E0 (tCons (tVar 0) (tCons (tVar 2) (tCons (tVar 3) tNil)))))))
def t_check_places (c : Cn) : TS := (tIfS (tNot (tAnd (tB (tCall (sp_is_whole c) [] C8.E0 (tCons (tVar 0) tNil))) (tTest (tChain rLeI rLeI (tC (.int 1)) (tVar 0) (tC (.int 60)))))) tNever tNext)
def t_check_lines (c : Cn) : TS := (tSeq (tIfS (tOr (tNot (tB (tCB (rIsi c.K) (tCons (tVar 1) (tCons (tC (.ty "list")) tNil))))) (tTest (tOp rGtI (tCB (rLenA c.K) (tCons (tVar 1) tNil)) (tC (.int 60))))) tNever tNext) (tIfS (tNot (tB (tCB (rAll c.K) (tCons (tLc (iList c.K (tVar 1)) (gName 2) tYes (tCall (sp_is_line c) [] C8.E0 (tCons (tVar 0) (tCons (tVar 2) tNil))) [2]) tNil)))) tNever tNext))
def t_check_takings (c : Cn) : TS := (tSeq (tIfS (tNot (tAnd (tB (tCall (sp_is_list_of_places c) [] C8.E0 (tCons (tVar 0) (tCons (tVar 1) tNil)))) (tB (tCall (sp_is_list_of_places c) [] C8.E0 (tCons (tVar 0) (tCons (tVar 2) tNil)))))) tNever tNext) (tSeq (tAsg (tOp (rCatL c.K) (tVar 1) (tVar 2)) (gName 3)) (tIfS (tTest (tOp (rNeA c.K) (tCB (rLenSet c.w) (tCons (tCB (rSetOf c.K c.w) (tCons (tVar 3) tNil)) tNil)) (tCB (rLenA c.K) (tCons (tVar 3) tNil)))) tNever tNext)))
def t_is_count (c : Cn) : TS := (tRet (tAndV (tCall (sp_is_whole c) [] C8.E0 (tCons (tVar 1) tNil)) (tChain rLeI rLtI (tC (.int 0)) (tVar 1) (tVar 0))))
def t_is_whole (c : Cn) : TS := (tRet (tAndV (tCB (rIsi c.K) (tCons (tVar 0) (tCons (tC (.ty "int")) tNil))) (tNotV (tCB (rIsi c.K) (tCons (tVar 0) (tCons (tC (.ty "bool")) tNil))))))
def t_is_list_of_places (c : Cn) : TS := (tRet (tAndV (tCB (rIsi c.K) (tCons (tVar 1) (tCons (tC (.ty "list")) tNil))) (tCB (rAll c.K) (tCons (tLc (iList c.K (tVar 1)) (gName 2) tYes (tCall (sp_is_count c) [] C8.E0 (tCons (tVar 0) (tCons (tVar 2) tNil))) [2]) tNil))))
def t_is_line (c : Cn) : TS := (tSeq (tIfS (tOr (tNot (tB (tCall (sp_is_list_of_places c) [] C8.E0 (tCons (tVar 0) (tCons (tVar 1) tNil))))) (tTest (tOp (rEqA c.K) (tCB (rLenA c.K) (tCons (tVar 1) tNil)) (tC (.int 0))))) (tRet (tC (.bl false))) tNext) (tRet (tCB (rAll c.K) (tCons (tLc (iZip c.K (tCons (tVar 1) (tCons (tSl (rSlL c.K) (tVar 1) (tPart (tC (.int 1))) tNoPart) tNil))) (gTup c.K 2 (gCons (gName 2) (gCons (gName 3) gNil))) tYes (tOp rLtI (tVar 2) (tVar 3)) [2, 3]) tNil))))
theorem EvT_to {t : TT} {σ : L2.St} {H : Hp} {a b : Bool} (h : EvT t σ H a) (e : a = b) : EvT t σ H b := e ▸ h
section
variable {c : Cn} {vs : List V} {H : Hp} {Q : VK} {E : XK}
theorem rd_is_whole (h : sp_is_whole c vs H Q E) : t_is_whole c { nx := fun _ H' => Q .non H', rt := Q } (start ["value"] vs) H := by
  obtain ⟨Hs, v, d, e, rfl, hd, k⟩ := h
  refine s_retS (ev_to (ev_andV (ev_isi ty_int (ec_var rfl hd)) fun _ => ev_notV (ev_isi ty_bool (ec_var rfl hd))) ?_) e k
  rw [whole_eq]
theorem call_is_whole {σ : L2.St} {Hs : Hp} {ta : TE} {d : Wd} (h2 : EvC ta σ Hs cW d) : Ev (tCall (sp_is_whole c) [] C8.E0 (tCons ta tNil)) σ Hs (.bl (wWhole d)) := by
  refine ev_callS (as_cons h2 (fun _ _ _ e p => Mo.mo e p) fun _ _ => as_nil) ?_
  rintro vs Hs1 e1 ⟨u, r, rfl, hu, rfl⟩ H1 e2 Q1 k1
  exact ⟨Hs1, u, d, e2, rfl, hu, k1⟩
theorem rd_is_count (h : sp_is_count c vs H Q E) : t_is_count c { nx := fun _ H' => Q .non H', rt := Q } (start ["many", "value"] vs) H := by
  obtain ⟨Hs, P, v, d, e, rfl, hd, k⟩ := h
  refine s_retS (ev_andV (a := wWhole d) (b := inR P (wInt d)) (call_is_whole (ec_var rfl hd)) fun hw => ?_) e k
  cases d with
  | int i =>
    cases hd
    exact ev_chain ev_c (ev_var rfl) rv_I0 (fun _ => ev_var rfl) fun _ => rv_I0
  | _ => cases hw
theorem call_is_count {σ : L2.St} {Hs : Hp} {ta tb : TE} {P : Int} {d : Wd} (h1 : Ev ta σ Hs (.int P)) (h2 : EvC tb σ Hs cW d) : Ev (tCall (sp_is_count c) [] C8.E0 (tCons ta (tCons tb tNil))) σ Hs (.bl (wCount P d)) := by
  refine ev_callS (as_cons (c_evI h1) (fun _ _ _ e p => Mo.mo e p) fun Hs1 e1 => as_cons (EvC.lift h2 e1) (fun _ _ _ e p => Mo.mo e p) fun _ _ => as_nil) ?_
  rintro vs Hs1 e1 ⟨u, r, rfl, hu, w, r2, rfl, hw, rfl⟩ H1 e2 Q1 k1
  cases hu
  exact ⟨Hs1, P, w, d, e2, rfl, hw, k1⟩
theorem rd_is_list_of_places (h : sp_is_list_of_places c vs H Q E) : t_is_list_of_places c { nx := fun _ H' => Q .non H', rt := Q } (start ["places", "values", "value"] vs) H := by
  obtain ⟨Hs, P, v, d, e, rfl, hd, hz, k⟩ := h
  refine s_retS (ev_to (ev_andV (b := ((wItems d).map (wCount P)).all id) (ev_isi ty_list (ec_var rfl hd)) fun hw => ?_) ?_) e k
  · rw [list_eq] at hw
    cases d with
    | lst l =>
      refine ev_all (EvF.toC (ef_mapN (d := cB) (ei_list (ec_var rfl (cW_lst hd))) (wCount P) hz fun a x Hs' ha e' ca => c_evB (call_is_count (ev_var rfl) (ec_var rfl ca))))
    | _ => cases hw
  · rw [list_eq, List.all_map]
    rfl
theorem call_is_places {σ : L2.St} {Hs : Hp} {ta tb : TE} {P : Int} {d : Wd} (h1 : Ev ta σ Hs (.int P)) (h2 : EvC tb σ Hs cW d) (hz : (wItems d).length ≤ 40000) : Ev (tCall (sp_is_list_of_places c) [] C8.E0 (tCons ta (tCons tb tNil))) σ Hs (.bl (wPlaces P d)) := by
  refine ev_callS (as_cons (c_evI h1) (fun _ _ _ e p => Mo.mo e p) fun Hs1 e1 => as_cons (EvC.lift h2 e1) (fun _ _ _ e p => Mo.mo e p) fun _ _ => as_nil) ?_
  rintro vs Hs1 e1 ⟨u, r, rfl, hu, w, r2, rfl, hw, rfl⟩ H1 e2 Q1 k1
  cases hu
  exact ⟨Hs1, P, w, d, e2, rfl, hw, hz, k1⟩
theorem rd_is_line (h : sp_is_line c vs H Q E) : t_is_line c { nx := fun _ H' => Q .non H', rt := Q } (start ["places", "line", "low", "high"] vs) H := by
  obtain ⟨Hs, P, v, d, e, rfl, hd, hz, k⟩ := h
  refine q_whenB (et_or (et_not (et_B (call_is_places (ev_var rfl) (ec_var rfl hd) hz))) fun hp => et_test (ev_eqI (ev_lenC (c := cW) (l := wItems d) (ec_var rfl ?_)) ev_c)) e (fun hb H2 e2 => ?_) (fun hb H2 e2 => ?_)
  · cases d with
    | lst l => exact cW_lst hd
    | _ => cases hp
  · refine s_retS (ev_to ev_c ?_) (e.trans e2) (on_v k e2)
    unfold wLine
    cases hp : wPlaces P d with
    | false => rfl
    | true =>
      rw [hp] at hb
      have hb' : (wItems d).length = 0 := by simpa using hb
      rw [hb']
      rfl
  · rw [Bool.or_eq_false_iff, Bool.not_eq_false'] at hb
    obtain ⟨ns, rfl, hr⟩ := places_ints hb.1
    have hn : cL cI ns Hs v := cW_ints hd
    have hz2 : ns.length ≤ 40000 := by simpa [wItems] using hz
    refine s_retS (ev_to (ev_all (l := (ns.zip (ns.drop 1)).map fun p => decide (p.1 < p.2)) (EvF.toC (ef_mapT (d := cB) (c1 := cI) (c2 := cI) (ei_zip (c := cI) (d := cI) ?_) (fun p => decide (p.1 < p.2)) ?_ fun a u w Hs' ha e' hu hw => ?_))) ?_) (e.trans e2) (on_v k e2)
    · refine (as_cons (ec_var rfl hn) (fun _ _ _ e p => Mo.mo e p) fun Hs1 e1 => as_cons (EvF.toC (ef_from (c := cI) (n := 1) (ec_var rfl (Mo.mo e1 hn)) ev_c)) (fun _ _ _ e p => Mo.mo e p) fun _ _ => as_nil).imp ?_
      rintro vs Hs1 e1 ⟨u, r, rfl, hu, w, r2, rfl, hw, rfl⟩
      exact ⟨u, w, rfl, hu, hw⟩
    · rw [List.length_zip]
      omega
    · cases hu
      cases hw
      exact c_evB (ev_lt (ev_var rfl) (ev_var rfl))
    · unfold wLine
      rw [hb.1, Bool.true_and, List.all_map]
      have h0 : decide ((wItems (Wd.lst (ns.map .int))).length ≠ 0) = true := by
        have := hb.2
        simpa using this
      rw [h0, Bool.true_and, show wItems (Wd.lst (ns.map .int)) = ns.map .int from rfl, ints_wInt]
      rfl
theorem call_is_line {σ : L2.St} {Hs : Hp} {ta tb : TE} {P : Int} {d : Wd} (h1 : Ev ta σ Hs (.int P)) (h2 : EvC tb σ Hs cW d) (hz : (wItems d).length ≤ 40000) : Ev (tCall (sp_is_line c) [] C8.E0 (tCons ta (tCons tb tNil))) σ Hs (.bl (wLine P d)) := by
  refine ev_callS (as_cons (c_evI h1) (fun _ _ _ e p => Mo.mo e p) fun Hs1 e1 => as_cons (EvC.lift h2 e1) (fun _ _ _ e p => Mo.mo e p) fun _ _ => as_nil) ?_
  rintro vs Hs1 e1 ⟨u, r, rfl, hu, w, r2, rfl, hw, rfl⟩ H1 e2 Q1 k1
  cases hu
  exact ⟨Hs1, P, w, d, e2, rfl, hw, hz, k1⟩
theorem rd_check_places (h : sp_check_places c vs H Q E) : t_check_places c { nx := fun _ H' => Q .non H', rt := Q } (start ["places"] vs) H := by
  obtain ⟨P, rfl, hP, k⟩ := h
  have hd : cW (.int P) H (.int P) := CW.int P
  refine s_no (Hs := H) (EvT_to (et_not (et_and (et_B (call_is_whole (ec_var rfl hd))) fun _ => et_test (ev_chain ev_c (ev_var rfl) rv_I0 (fun _ => ev_c) fun _ => rv_I0))) ?_) (Ex.refl H) k
  rw [decide_eq_true hP.1, decide_eq_true hP.2]
  rfl
theorem okLine_w {P : Int} {l : List Int} (h : OkLine P l) : wLine P (.lst (l.map .int)) = true := by
  unfold wLine wPlaces
  rw [show wItems (.lst (l.map .int)) = l.map .int from rfl, ints_all, ints_wInt, h.up, show isL (.lst (l.map .int)) = true from rfl, List.length_map]
  have h1 : l.all (inR P) = true := List.all_eq_true.mpr fun x hx => by
    unfold inR
    rw [decide_eq_true (h.inr x hx).1, decide_eq_true (h.inr x hx).2]
    rfl
  have h2 : decide (l.length ≠ 0) = true := decide_eq_true fun z => h.ne (List.length_eq_zero_iff.mp z)
  rw [h1, h2]
  rfl
theorem line_cW {Hs : Hp} {l : List Int} {x : V} (h : cL cI l Hs x) : cW (.lst (l.map .int)) Hs x := ints_cW h
theorem lst_list {α : Type} {d : Cd α} {l : List α} {Hs : Hp} {v : V} (h : cL d l Hs v) : ∃ a xs, v = .ref a ∧ Hs a = some (.lst xs) := by
  obtain ⟨a, xs, h1, h2, _⟩ := h
  exact ⟨a, xs, h1, h2⟩
theorem ev_isList {K : PySem.W.Frag} {σ : L2.St} {Hs : Hp} {ta : TE} {α : Type} {d : Cd α} {l : List α} (ha : EvC ta σ Hs (cL d) l) : Ev (tCB (rIsi K) (tCons ta (tCons (tC (.ty "list")) tNil))) σ Hs (.bl true) := fun H e Q q => ha H e _ fun v H2 Hs2 g p => by
  obtain ⟨a, xs, rfl, h1⟩ := lst_list p
  exact ⟨.ref a, .ty "list", _, _, true, rfl, .ty "list", .base (.lst (g.i _ _ h1)), kit_ty (by with_unfolding_all rfl), q H2 g.b⟩
theorem rd_check_lines (h : sp_check_lines c vs H Q E) : t_check_lines c { nx := fun _ H' => Q .non H', rt := Q } (start ["places", "lines", "line"] vs) H := by
  obtain ⟨Hs, P, v, ls, e, rfl, hl, ok, k⟩ := h
  have f1 := ok.few
  refine q_no (EvT_to (et_or (et_not (et_B (ev_isList (ec_var rfl hl)))) fun _ => et_test (ev_gt (ev_lenC (ec_var rfl hl)) ev_c)) ?_) e fun H2 e2 => ?_
  · rw [decide_eq_false (by omega)]
    rfl
  · refine s_no (EvT_to (et_not (et_B (ev_all (l := ls.map fun _ => true) (EvF.toC (ef_mapN (d := cB) (ei_list (ec_var rfl hl)) (fun _ => true) (by omega) fun a x Hs' ha e' ca => c_evB (ev_to (call_is_line (ev_var rfl) (ec_var rfl (line_cW ca)) ?_) ?_)))))) ?_) (e.trans e2) (on_v k e2)
    · have := (ok.ok a ha).few
      simp only [wItems, List.length_map]
      omega
    · rw [okLine_w (ok.ok a ha)]
    · rw [List.all_map]
      have : (ls.all (id ∘ fun _ => true)) = true := List.all_eq_true.mpr fun _ _ => rfl
      rw [this]
      rfl
theorem okInts_w {P : Int} {l : List Int} (h : ∀ x ∈ l, 0 ≤ x ∧ x < P) : wPlaces P (.lst (l.map .int)) = true := by
  unfold wPlaces
  rw [show wItems (.lst (l.map .int)) = l.map .int from rfl, ints_all, show isL (.lst (l.map .int)) = true from rfl, Bool.true_and]
  exact List.all_eq_true.mpr fun x hx => by
    unfold inR
    rw [decide_eq_true (h x hx).1, decide_eq_true (h x hx).2]
    rfl
theorem ef_cat {α : Type} {d : Cd α} [Mo d] {K : PySem.W.Frag} {σ : L2.St} {Hs : Hp} {ta tb : TE} {l m : List α} (ha : EvC ta σ Hs (cL d) l) (hb : EvC tb σ Hs (cL d) m) (hz : l.length + m.length ≤ 40000) : EvFC (tOp (rCatL K) ta tb) σ Hs d (l ++ m) := fun H e Q q =>
  ha H e _ fun u H2 Hs2 g p => (EvC.lift hb g.s) H2 g.i _ fun v H3 Hs3 g3 p3 => by
    obtain ⟨a, xs, rfl, h1, h2⟩ := p
    obtain ⟨b, ys, rfl, h3, h4⟩ := p3
    have gg := g.trans g3
    refine ⟨a, b, xs, ys, rfl, rfl, g3.b _ _ (g.i _ _ h1), g3.i _ _ h3, ?_, fun r hr => ?_⟩
    · rw [← h2.length, ← h4.length]
      exact Nat.le_of_lt (size_lt hz)
    · exact q r _ _ Hs3 (gg.trans (Grow.up gg.i (Ex.new hr))) (fresh_back gg.b hr) (fresh_back gg.i hr) upd_same (Paired.app (paired_mo g3.s h2) h4)
theorem rd_check_takings (h : sp_check_takings c vs H Q E) : t_check_takings c { nx := fun _ H' => Q .non H', rt := Q } (start ["places", "his", "mine", "taken"] vs) H := by
  obtain ⟨Hs, P, u, v, hs, ms, e, rfl, h1, h2, ok, k⟩ := h
  have f1 := ok.few
  refine q_no (EvT_to (et_not (et_and (et_B (call_is_places (ev_var rfl) (ec_var rfl (ints_cW h1)) ?_)) fun _ => et_B (call_is_places (ev_var rfl) (ec_var rfl (ints_cW h2)) ?_))) ?_) e fun H2 e2 => ?_
  · simp only [wItems, List.length_map]
    omega
  · simp only [wItems, List.length_map]
    omega
  · rw [okInts_w ok.h, okInts_w ok.m]
    rfl
  · refine q_setP (EvF.toC (ef_cat (ec_var rfl h1) (ec_var rfl h2) (by omega))) (e.trans e2) fun w H3 Hs3 g hw => ?_
    have hl : (hs ++ ms).length ≤ 4000 := by
      rw [List.length_append]
      omega
    refine s_no (EvT_to (et_test (ev_neI (ev_lenSet (ec_var rfl hw) hl) (ev_lenC (ec_var rfl hw)))) ?_) g.i (on_v k (e2.trans g.b))
    rw [dd_id ok.nd]
    simp
section
variable {σ : L2.St} {Hs : Hp} {ta tb tc td : TE} {P : Int} {ls : List (List Int)} {hs ms : List Int}
theorem mo_c {α : Type} {d : Cd α} [Mo d] {a : α} : ∀ v H H2, Ex H H2 → d a H v → d a H2 v := fun _ _ _ e p => Mo.mo e p
/-- four arguments that are a play -/
theorem as_play (h1 : Ev ta σ Hs (.int P)) (h2 : EvC tb σ Hs (cL (cL cI)) ls) (h3 : EvC tc σ Hs (cL cI) hs) (h4 : EvC td σ Hs (cL cI) ms) (b : Board P ls hs ms) :
    EvAs (tCons ta (tCons tb (tCons tc (tCons td tNil)))) σ Hs fun vs H => ∀ H2, Ex H H2 → Play H H2 (vs ++ []) P ls hs ms := by
  refine (as_cons (c_evI h1) mo_c fun _ e1 => as_cons (EvC.lift h2 e1) mo_c fun _ e2 => as_cons (EvC.lift h3 (e1.trans e2)) mo_c fun _ e3 => as_cons (EvC.lift h4 ((e1.trans e2).trans e3)) mo_c fun _ _ => as_nil).imp ?_
  rintro vs H1 _ ⟨_, _, rfl, p1, u, _, rfl, p2, v, _, rfl, p3, w, _, rfl, p4, rfl⟩ H2 e2
  cases p1
  exact ⟨u, v, w, e2, rfl, p2, p3, p4, b⟩
end
theorem rd_check_play (h : sp_check_play c vs H Q E) : t_check_play c { nx := fun _ H' => Q .non H', rt := Q } (start ["places", "lines", "his", "mine"] vs) H := by
  obtain ⟨Hs, P, ls, hs, ms, ⟨u, v, w, e, rfl, h1, h2, h3, b⟩, k⟩ := h
  refine q_dropE (P := fun _ _ => True) (ep_ev (ev_callS (z := .non) (as_cons (c_evI (ev_var rfl)) mo_c fun _ _ => as_nil) ?_) trivial) e fun H2 Hs2 g => ?_
  · rintro vs H1 _ ⟨_, _, rfl, p1, rfl⟩ H2 _ Q1 k1
    cases p1
    exact ⟨P, rfl, b.p, k1⟩
  refine q_dropE (P := fun _ _ => True) (ep_ev (ev_callS (z := .non) (as_cons (c_evI (ev_var rfl)) mo_c fun _ e1 => as_cons (ec_var rfl (Mo.mo e1 (Mo.mo g.s h1))) mo_c fun _ _ => as_nil) ?_) trivial) g.i fun H3 Hs3 g3 => ?_
  · rintro vs H1 _ ⟨_, _, rfl, p1, x, _, rfl, p2, rfl⟩ H2 e2 Q1 k1
    cases p1
    exact ⟨H1, P, x, ls, e2, rfl, p2, b.l, k1⟩
  refine s_dropE (P := fun _ _ => True) (ep_ev (ev_callS (z := .non) (as_cons (c_evI (ev_var rfl)) mo_c fun _ e1 => as_cons (ec_var rfl (Mo.mo e1 (Mo.mo g3.s (Mo.mo g.s h2)))) mo_c fun _ e2 => as_cons (ec_var rfl (Mo.mo e2 (Mo.mo e1 (Mo.mo g3.s (Mo.mo g.s h3))))) mo_c fun _ _ => as_nil) ?_) trivial) g3.i fun H4 Hs4 g4 => ?_
  · rintro vs H1 _ ⟨_, _, rfl, p1, x, _, rfl, p2, y, _, rfl, p3, rfl⟩ H2 e2 Q1 k1
    cases p1
    exact ⟨H1, P, x, y, hs, ms, e2, rfl, p2, p3, b.t, k1⟩
  exact k H4 ((g.b.trans g3.b).trans g4.b)
end
end LH

namespace LH
open PySem L2 Evl PyProof.Rows
/-! ### the danger, as functions -/
def missing (l hs : List Int) : Nat := (l.filter fun x => !decide (x ∈ hs)).length
def unit (P : Int) (l hs ms : List Int) : Int := if (l.map fun x => decide (x ∈ ms)).any id = true then 0 else 1 * 2 ^ (P - (missing l hs : Int)).toNat
def unitsL (P : Int) (ls : List (List Int)) (hs ms : List Int) : List Int := ls.map fun l => unit P l hs ms
def total (P : Int) (ls : List (List Int)) (hs ms : List Int) : Int := (unitsL P ls hs ms).sum
def one (P : Int) : Int := 1 * 2 ^ P.toNat
def gcdI (a b : Int) : Int := ((Nat.gcd a.natAbs b.natAbs : Nat) : Int)
def lowest (u o : Int) : Int × Int := (u / gcdI u o, o / gcdI u o)
def freeP (P : Int) (hs ms : List Int) : List Nat := (List.range P.toNat).filter fun p => !decide ((p : Int) ∈ hs) && !decide ((p : Int) ∈ ms)
def worthU (P : Int) (ls : List (List Int)) (hs ms : List Int) (p : Int) : Int := (((ls.zip (unitsL P ls hs ms)).filter fun q => decide (p ∈ q.1)).map fun q => q.2).sum
def worthsM (P : Int) (ls : List (List Int)) (hs ms : List Int) : List (Option (Int × Int)) :=
  (List.range P.toNat).map fun (p : Nat) => if p ∈ freeP P hs ms then some (lowest (worthU P ls hs ms (p : Int)) (one P)) else none
def pick (w : Nat → Int) (o : Option Nat) (p : Nat) : Option Nat := match o with | none => some p | some q => if w q < w p then some p else some q
def bestM (P : Int) (ls : List (List Int)) (hs ms : List Int) : Option Nat := (freeP P hs ms).foldl (pick fun p => worthU P ls hs ms (p : Int)) none
def fullM (ls : List (List Int)) (hs : List Int) : List Nat := (((List.range ls.length).zip ls).filter fun q => decide ((missing q.2 hs : Int) = 0)).map fun q => q.1
def sureM (P : Int) (ls : List (List Int)) (hs ms : List Int) : Bool × Bool := (decide (total P ls hs ms < one P), decide (2 * total P ls hs ms < one P))
def dangerM (P : Int) (ls : List (List Int)) (hs ms : List Int) : Int × Int := lowest (total P ls hs ms) (one P)
/-! ### promises -/
def sp_one (c : Cn) : Sp := fun vs H Q _ => ∃ P : Int, vs = [.int P] ∧ (0 ≤ P ∧ P ≤ 60) ∧ RetV (.int (one P)) H Q
def sp_in_lowest_terms (c : Cn) : Sp := fun vs H Q _ => ∃ (Hs : Hp) (u o : Int), Ex Hs H ∧ vs = [.int u, .int o] ∧ (0 < o ∧ o ≤ 2 ^ 60) ∧ RetC Hs H (cP cI cI) (lowest u o) Q
def sp_missing (c : Cn) : Sp := fun vs H Q _ => ∃ (Hs : Hp) (u v : V) (l hs : List Int), Ex Hs H ∧ vs = [u, v] ∧ cL cI l Hs u ∧ cL cI hs Hs v ∧ l.length ≤ 40000 ∧ RetV (.int (missing l hs)) H Q
def sp_units_of_line (c : Cn) : Sp := fun vs H Q _ => ∃ (Hs : Hp) (P : Int) (u v w : V) (l hs ms : List Int), Ex Hs H ∧ vs = [.int P, u, v, w] ∧ cL cI l Hs u ∧ cL cI hs Hs v ∧ cL cI ms Hs w ∧ (P ≤ 60 ∧ (l.length : Int) ≤ P) ∧ RetV (.int (unit P l hs ms)) H Q
/-- a play whose lines are no longer than there are places -/
structure Fits (P : Int) (ls : List (List Int)) : Prop where
  p : 1 ≤ P ∧ P ≤ 60
  few : ls.length ≤ 60
  len : ∀ l ∈ ls, (l.length : Int) ≤ P
def Play3 (Hs H : Hp) (vs : List V) (P : Int) (ls : List (List Int)) (hs ms : List Int) : Prop := ∃ u v w, Ex Hs H ∧ vs = [.int P, u, v, w] ∧ cL (cL cI) ls Hs u ∧ cL cI hs Hs v ∧ cL cI ms Hs w ∧ Fits P ls
def sp_units_of_lines (c : Cn) : Sp := fun vs H Q _ => ∃ (Hs : Hp) (P : Int) (ls : List (List Int)) (hs ms : List Int), Play3 Hs H vs P ls hs ms ∧ RetFC Hs H cI (unitsL P ls hs ms) Q
def sp_total (c : Cn) : Sp := fun vs H Q _ => ∃ (Hs : Hp) (P : Int) (ls : List (List Int)) (hs ms : List Int), Play3 Hs H vs P ls hs ms ∧ RetV (.int (total P ls hs ms)) H Q
def sp_free_places (c : Cn) : Sp := fun vs H Q _ => ∃ (Hs : Hp) (P : Int) (u v : V) (hs ms : List Int), Ex Hs H ∧ vs = [.int P, u, v] ∧ cL cI hs Hs u ∧ cL cI ms Hs v ∧ (0 ≤ P ∧ P ≤ 60) ∧ RetFC Hs H cN (freeP P hs ms) Q
/-- a new dict -/
def RetD (Hs H : Hp) (kvs : List (Key × V)) (Q : VK) : Prop := ∀ d H2 Hs2, Grow Hs H Hs2 H2 → H d = none → Hs2 d = none → H2 d = some (.dK kvs) → Q (.ref d) H2
def unitsD (P : Int) (ls : List (List Int)) (hs ms : List Int) (l : List Nat) : List (Key × V) := l.map fun (p : Nat) => (Sum.inl (p : Int), V.int (worthU P ls hs ms (p : Int)))
def sp_units_of_free (c : Cn) : Sp := fun vs H Q _ => ∃ (Hs : Hp) (P : Int) (ls : List (List Int)) (hs ms : List Int), Play3 Hs H vs P ls hs ms ∧ RetD Hs H (unitsD P ls hs ms (freeP P hs ms)) Q
def sp_danger (c : Cn) : Sp := fun vs H Q _ => ∃ (Hs : Hp) (P : Int) (ls : List (List Int)) (hs ms : List Int), Play Hs H vs P ls hs ms ∧ RetC Hs H (cP cI cI) (dangerM P ls hs ms) Q
def sp_worths (c : Cn) : Sp := fun vs H Q _ => ∃ (Hs : Hp) (P : Int) (ls : List (List Int)) (hs ms : List Int), Play Hs H vs P ls hs ms ∧ RetFC Hs H (cO (cP cI cI)) (worthsM P ls hs ms) Q
def sp_sure (c : Cn) : Sp := fun vs H Q _ => ∃ (Hs : Hp) (P : Int) (ls : List (List Int)) (hs ms : List Int), Play Hs H vs P ls hs ms ∧ RetC Hs H (cP cB cB) (sureM P ls hs ms) Q
def oV (o : Option Nat) : V := match o with | none => .non | some p => .int (p : Int)
def sp_best (c : Cn) : Sp := fun vs H Q _ => ∃ (Hs : Hp) (P : Int) (ls : List (List Int)) (hs ms : List Int), Play Hs H vs P ls hs ms ∧ RetV (oV (bestM P ls hs ms)) H Q
def sp_full (c : Cn) : Sp := fun vs H Q _ => ∃ (Hs : Hp) (P : Int) (ls : List (List Int)) (hs ms : List Int), Play Hs H vs P ls hs ms ∧ RetFC Hs H cN (fullM ls hs) Q
end LH

namespace LH
open PySem L2 Evl PyProof.Rows
def t_danger (c : Cn) : TS := (tSeq (tDrop (tCall (sp_check_play c) [] C8.E0 (tCons (tVar 0) (tCons (tVar 1) (tCons (tVar 2) (tCons (tVar 3) tNil)))))) (tRet (tCall (sp_in_lowest_terms c) [] C8.E0 (tCons (tCall (sp_total c) [] C8.E0 (tCons (tVar 0) (tCons (tVar 1) (tCons (tVar 2) (tCons (tVar 3) tNil))))) (tCons (tCall (sp_one c) [] C8.E0 (tCons (tVar 0) tNil)) tNil)))))
def t_worths (c : Cn) : TS := (tSeq (tDrop (tCall (sp_check_play c) [] C8.E0 (tCons (tVar 0) (tCons (tVar 1) (tCons (tVar 2) (tCons (tVar 3) tNil)))))) (tSeq (tAsg (tCall (sp_units_of_free c) [] C8.E0 (tCons (tVar 0) (tCons (tVar 1) (tCons (tVar 2) (tCons (tVar 3) tNil))))) (gName 4)) (tSeq (tAsg (tOp rRep (tLst (tCons (tC .non) tNil)) (tVar 0)) (gName 5)) (tSeq (tLock (tFor (iKeys (tVar 4)) (gName 6) (tAsg (tCall (sp_in_lowest_terms c) [] C8.E0 (tCons (tDGet (tVar 4) (tVar 6)) (tCons (tCall (sp_one c) [] C8.E0 (tCons (tVar 0) tNil)) tNil))) (gSub (tVar 5) (tVar 6) rSetL)))) (tRet (tVar 5))))))
def t_sure (c : Cn) : TS := (tSeq (tDrop (tCall (sp_check_play c) [] C8.E0 (tCons (tVar 0) (tCons (tVar 1) (tCons (tVar 2) (tCons (tVar 3) tNil)))))) (tSeq (tAsg (tCall (sp_total c) [] C8.E0 (tCons (tVar 0) (tCons (tVar 1) (tCons (tVar 2) (tCons (tVar 3) tNil))))) (gName 4)) (tRet (tTup (tCons (tOp rLtI (tVar 4) (tCall (sp_one c) [] C8.E0 (tCons (tVar 0) tNil))) (tCons (tOp rLtI (tOp rMulI (tC (.int 2)) (tVar 4)) (tCall (sp_one c) [] C8.E0 (tCons (tVar 0) tNil))) tNil))))))
def t_best (c : Cn) : TS := (tSeq (tDrop (tCall (sp_check_play c) [] C8.E0 (tCons (tVar 0) (tCons (tVar 1) (tCons (tVar 2) (tCons (tVar 3) tNil)))))) (tSeq (tAsg (tCall (sp_units_of_free c) [] C8.E0 (tCons (tVar 0) (tCons (tVar 1) (tCons (tVar 2) (tCons (tVar 3) tNil))))) (gName 4)) (tSeq (tAsg (tC .non) (gName 5)) (tSeq (tLock (tFor (iKeys (tVar 4)) (gName 6) (tIfS (tOr (tTest (tOp rIsN (tVar 5) (tC .non))) (tTest (tOp rGtI (tDGet (tVar 4) (tVar 6)) (tDGet (tVar 4) (tVar 5))))) (tAsg (tVar 6) (gName 5)) tNext))) (tRet (tVar 5))))))
def t_full (c : Cn) : TS := (tSeq (tDrop (tCall (sp_check_play c) [] C8.E0 (tCons (tVar 0) (tCons (tVar 1) (tCons (tVar 2) (tCons (tVar 3) tNil)))))) (tRet (tLc (iEnum c.K (tCons (tVar 1) tNil)) (gTup c.K 2 (gCons (gName 4) (gCons (gName 5) gNil))) (tTest (tOp (rEqA c.K) (tCall (sp_missing c) [] C8.E0 (tCons (tVar 5) (tCons (tVar 2) tNil))) (tC (.int 0)))) (tVar 4) [4, 5])))
def t_free_places (c : Cn) : TS := (tRet (tLc (iRng1 (tCons (tVar 0) tNil)) (gName 3) (tAnd (tTest (tOp (rIn c.K true) (tVar 3) (tVar 1))) (tTest (tOp (rIn c.K true) (tVar 3) (tVar 2)))) (tVar 3) [3]))
def t_one (c : Cn) : TS := (tRet (tOp rShlI (tC (.int 1)) (tVar 0)))
def t_in_lowest_terms (c : Cn) : TS := (tSeq (tAsg (tCB rGcd (tCons (tVar 0) (tCons (tVar 1) tNil))) (gName 2)) (tRet (tTup (tCons (tOp rDivI (tVar 0) (tVar 2)) (tCons (tOp rDivI (tVar 1) (tVar 2)) tNil)))))
def t_missing (c : Cn) : TS := (tRet (tCB (rLenA c.K) (tCons (tLc (iList c.K (tVar 0)) (gName 2) (tTest (tOp (rIn c.K true) (tVar 2) (tVar 1))) (tVar 2) [2]) tNil)))
def t_units_of_line (c : Cn) : TS := (tSeq (tIfS (tB (tCB (rAny c.K) (tCons (tLc (iList c.K (tVar 1)) (gName 4) tYes (tOp (rIn c.K false) (tVar 4) (tVar 3)) [4]) tNil))) (tRet (tC (.int 0))) tNext) (tRet (tOp rShlI (tC (.int 1)) (tOp rSubI (tVar 0) (tCall (sp_missing c) [] C8.E0 (tCons (tVar 1) (tCons (tVar 2) tNil)))))))
def t_units_of_lines (c : Cn) : TS := (tRet (tLc (iList c.K (tVar 1)) (gName 4) tYes (tCall (sp_units_of_line c) [] C8.E0 (tCons (tVar 0) (tCons (tVar 4) (tCons (tVar 2) (tCons (tVar 3) tNil))))) [4]))
def t_total (c : Cn) : TS := (tRet (tCB (rSum c.K) (tCons (tCall (sp_units_of_lines c) [] C8.E0 (tCons (tVar 0) (tCons (tVar 1) (tCons (tVar 2) (tCons (tVar 3) tNil))))) tNil)))
def t_units_of_free (c : Cn) : TS := (tSeq (tAsg (tCall (sp_units_of_lines c) [] C8.E0 (tCons (tVar 0) (tCons (tVar 1) (tCons (tVar 2) (tCons (tVar 3) tNil))))) (gName 4)) (tSeq (tAsg tDNewK (gName 5)) (tSeq (tFor (iList c.K (tCall (sp_free_places c) [] C8.E0 (tCons (tVar 0) (tCons (tVar 2) (tCons (tVar 3) tNil))))) (gName 6) (sDPut (tVar 5) (tVar 6) (tCB (rSum c.K) (tCons (tLc (iZip c.K (tCons (tVar 1) (tCons (tVar 4) tNil))) (gTup c.K 2 (gCons (gName 7) (gCons (gName 8) gNil))) (tTest (tOp (rIn c.K false) (tVar 6) (tVar 7))) (tVar 8) [7, 8]) tNil)))) (tRet (tVar 5)))))
/-! ### arithmetic -/
theorem pow_pos' (n : Nat) : (0 : Int) < 2 ^ n := Int.pow_pos (by decide)
theorem gcd_pos {a b : Int} (h : 0 < b) : 0 < gcdI a b := by
  unfold gcdI
  have : 0 < Nat.gcd a.natAbs b.natAbs := Nat.gcd_pos_of_pos_right _ (by omega)
  omega
theorem gcd_le {a b : Int} (h : 0 < b) : gcdI a b ≤ b := by
  unfold gcdI
  have := Nat.gcd_le_right a.natAbs (n := b.natAbs) (by omega)
  omega
theorem divW {j : Int} (h : 0 < j) (h2 : j ≤ 2 ^ 60) (i : Int) : CDivW i j := wide_div h (b := 61) (by
  have : (2 : Int) ^ 60 = 1152921504606846976 := by decide
  have : (2 : Nat) ^ 61 = 2305843009213693952 := by decide
  omega) (by decide) (by decide)
theorem shl_ok {P : Int} (h : 0 ≤ P ∧ P ≤ 60) : CPow 1 P := ⟨h.1, by omega, by decide⟩
theorem one_pos (P : Int) : 0 < one P := by unfold one; rw [Int.one_mul]; exact pow_pos' _
theorem one_le {P : Int} (h : P ≤ 60) : one P ≤ 2 ^ 60 := by
  unfold one
  rw [Int.one_mul]
  have h1 : (2 : Nat) ^ P.toNat ≤ 2 ^ 60 := Nat.pow_le_pow_right (by decide) (by omega)
  have h2 : (2 : Int) ^ P.toNat = ((2 ^ P.toNat : Nat) : Int) := by simp
  have h3 : (2 : Int) ^ 60 = ((2 ^ 60 : Nat) : Int) := by simp
  rw [h2, h3]
  exact Int.ofNat_le.mpr h1
theorem missing_le (l hs : List Int) : missing l hs ≤ l.length := List.length_filter_le _ _
section
variable {c : Cn} {vs : List V} {H : Hp} {Q : VK} {E : XK} {σ : L2.St} {Hs : Hp} {ta tb tc td : TE} {P : Int} {ls : List (List Int)} {hs ms : List Int}
theorem rd_one (h : sp_one c vs H Q E) : t_one c { nx := fun _ H' => Q .non H', rt := Q } (start ["places"] vs) H := by
  obtain ⟨P, rfl, hP, k⟩ := h
  exact s_retS (ev_shl ev_c (ev_var rfl) (shl_ok hP)) (Ex.refl H) k
theorem call_one (h : Ev ta σ Hs (.int P)) (hP : 0 ≤ P ∧ P ≤ 60) : Ev (tCall (sp_one c) [] C8.E0 (tCons ta tNil)) σ Hs (.int (one P)) := by
  refine ev_callS (as_cons (c_evI h) mo_c fun _ _ => as_nil) ?_
  rintro vs H1 _ ⟨_, _, rfl, p1, rfl⟩ H2 _ Q1 k1
  cases p1
  exact ⟨P, rfl, hP, k1⟩
theorem rd_in_lowest_terms (h : sp_in_lowest_terms c vs H Q E) : t_in_lowest_terms c { nx := fun _ H' => Q .non H', rt := Q } (start ["units", "one", "common"] vs) H := by
  obtain ⟨Hs, u, o, e, rfl, ho, k⟩ := h
  have g1 := gcd_pos (a := u) ho.1
  have g2 := gcd_le (a := u) ho.1
  refine q_set (ev_gcd (ev_var rfl) (ev_var rfl)) e fun H2 e2 => ?_
  exact s_retP (ep_pair (c := cI) (d := cI) (c_evI (ev_div (ev_var rfl) (ev_var rfl) (divW g1 (by omega) _))) (c_evI (ev_div (ev_var rfl) (ev_var rfl) (divW g1 (by omega) _)))) (e.trans e2) (on_b k e e2)
theorem call_lowest {u o : Int} (h1 : Ev ta σ Hs (.int u)) (h2 : Ev tb σ Hs (.int o)) (ho : 0 < o ∧ o ≤ 2 ^ 60) : EvC (tCall (sp_in_lowest_terms c) [] C8.E0 (tCons ta (tCons tb tNil))) σ Hs (cP cI cI) (lowest u o) := by
  refine ep_call (as_cons (c_evI h1) mo_c fun _ e1 => as_cons (c_evI (h2.mono e1)) mo_c fun _ _ => as_nil) ?_
  rintro vs H1 _ ⟨_, _, rfl, p1, _, _, rfl, p2, rfl⟩ H2 e2 Q1 k1
  cases p1
  cases p2
  exact ⟨H1, u, o, e2, rfl, ho, k1⟩
theorem rd_missing (h : sp_missing c vs H Q E) : t_missing c { nx := fun _ H' => Q .non H', rt := Q } (start ["line", "his", "place"] vs) H := by
  obtain ⟨Hs, u, v, l, hs, e, rfl, hl, hh, hz, k⟩ := h
  refine s_retS (ev_lenC (EvF.toC (ef_filter (ei_list (ec_var rfl hl)) (fun x => !decide (x ∈ hs)) hz fun a x Hs' ha e' ca => ?_))) e k
  cases ca
  exact ⟨et_test (ev_notIn (ev_var rfl) (ec_var rfl (Mo.mo e' hh))), fun _ => ec_var rfl rfl⟩
theorem call_missing {l : List Int} (h1 : EvC ta σ Hs (cL cI) l) (h2 : EvC tb σ Hs (cL cI) hs) (hz : l.length ≤ 40000) : Ev (tCall (sp_missing c) [] C8.E0 (tCons ta (tCons tb tNil))) σ Hs (.int (missing l hs)) := by
  refine ev_callS (as_cons h1 mo_c fun _ e1 => as_cons (EvC.lift h2 e1) mo_c fun _ _ => as_nil) ?_
  rintro vs H1 _ ⟨_, _, rfl, p1, _, _, rfl, p2, rfl⟩ H2 e2 Q1 k1
  exact ⟨H1, _, _, l, hs, e2, rfl, p1, p2, hz, k1⟩
theorem rd_units_of_line (h : sp_units_of_line c vs H Q E) : t_units_of_line c { nx := fun _ H' => Q .non H', rt := Q } (start ["places", "line", "his", "mine", "place"] vs) H := by
  obtain ⟨Hs, P, u, v, w, l, hs, ms, e, rfl, h1, h2, h3, hP, k⟩ := h
  have hz : l.length ≤ 40000 := by omega
  have hm := missing_le l hs
  refine q_whenB (et_B (ev_any (EvF.toC (ef_mapN (d := cB) (ei_list (ec_var rfl h1)) (fun x => decide (x ∈ ms)) hz fun a x Hs' ha e' ca => ?_)))) e (fun hb H2 e2 => ?_) (fun hb H2 e2 => ?_)
  · cases ca
    exact c_evB (ev_in (ev_var rfl) (ec_var rfl (Mo.mo e' h3)))
  · refine s_retS ev_c (e.trans e2) (on_v (v := .int 0) ?_ e2)
    unfold unit at k
    rw [if_pos hb] at k
    exact k
  · refine s_retS (ev_shl ev_c (ev_sub (ev_var rfl) (call_missing (ec_var rfl h1) (ec_var rfl h2) hz)) (shl_ok (by omega))) (e.trans e2) (on_v (v := .int (1 * 2 ^ (P - (missing l hs : Int)).toNat)) ?_ e2)
    unfold unit at k
    rw [if_neg (by rw [hb]; exact Bool.false_ne_true)] at k
    exact k
theorem call_unit {l : List Int} (h0 : Ev ta σ Hs (.int P)) (h1 : EvC tb σ Hs (cL cI) l) (h2 : EvC tc σ Hs (cL cI) hs) (h3 : EvC td σ Hs (cL cI) ms) (hP : P ≤ 60 ∧ (l.length : Int) ≤ P) :
    Ev (tCall (sp_units_of_line c) [] C8.E0 (tCons ta (tCons tb (tCons tc (tCons td tNil))))) σ Hs (.int (unit P l hs ms)) := by
  refine ev_callS (as_cons (c_evI h0) mo_c fun _ e1 => as_cons (EvC.lift h1 e1) mo_c fun _ e2 => as_cons (EvC.lift h2 (e1.trans e2)) mo_c fun _ e3 => as_cons (EvC.lift h3 ((e1.trans e2).trans e3)) mo_c fun _ _ => as_nil) ?_
  rintro vs H1 _ ⟨_, _, rfl, p1, u, _, rfl, p2, v, _, rfl, p3, w, _, rfl, p4, rfl⟩ H2 e2 Q1 k1
  cases p1
  exact ⟨H1, P, u, v, w, l, hs, ms, e2, rfl, p2, p3, p4, hP, k1⟩
theorem rd_units_of_lines (h : sp_units_of_lines c vs H Q E) : t_units_of_lines c { nx := fun _ H' => Q .non H', rt := Q } (start ["places", "lines", "his", "mine", "line"] vs) H := by
  obtain ⟨Hs, P, ls, hs, ms, ⟨u, v, w, e, rfl, h1, h2, h3, f⟩, k⟩ := h
  have := f.few
  refine s_retF (ef_mapN (d := cI) (ei_list (ec_var rfl h1)) (fun l => unit P l hs ms) (by omega) fun a x Hs' ha e' ca => ?_) e k
  exact c_evI (call_unit (ev_var rfl) (ec_var rfl ca) (ec_var rfl (Mo.mo e' h2)) (ec_var rfl (Mo.mo e' h3)) ⟨f.p.2, f.len a ha⟩)
theorem as_play3 (h1 : Ev ta σ Hs (.int P)) (h2 : EvC tb σ Hs (cL (cL cI)) ls) (h3 : EvC tc σ Hs (cL cI) hs) (h4 : EvC td σ Hs (cL cI) ms) (b : Fits P ls) :
    EvAs (tCons ta (tCons tb (tCons tc (tCons td tNil)))) σ Hs fun vs H => ∀ H2, Ex H H2 → Play3 H H2 (vs ++ []) P ls hs ms := by
  refine (as_cons (c_evI h1) mo_c fun _ e1 => as_cons (EvC.lift h2 e1) mo_c fun _ e2 => as_cons (EvC.lift h3 (e1.trans e2)) mo_c fun _ e3 => as_cons (EvC.lift h4 ((e1.trans e2).trans e3)) mo_c fun _ _ => as_nil).imp ?_
  rintro vs H1 _ ⟨_, _, rfl, p1, u, _, rfl, p2, v, _, rfl, p3, w, _, rfl, p4, rfl⟩ H2 e2
  cases p1
  exact ⟨u, v, w, e2, rfl, p2, p3, p4, b⟩
theorem call_unitsL (h1 : Ev ta σ Hs (.int P)) (h2 : EvC tb σ Hs (cL (cL cI)) ls) (h3 : EvC tc σ Hs (cL cI) hs) (h4 : EvC td σ Hs (cL cI) ms) (b : Fits P ls) :
    EvFC (tCall (sp_units_of_lines c) [] C8.E0 (tCons ta (tCons tb (tCons tc (tCons td tNil))))) σ Hs cI (unitsL P ls hs ms) :=
  ef_call (as_play3 h1 h2 h3 h4 b) fun vs H1 _ p H2 e2 Q1 k1 => ⟨H1, P, ls, hs, ms, p H2 e2, k1⟩
theorem rd_total (h : sp_total c vs H Q E) : t_total c { nx := fun _ H' => Q .non H', rt := Q } (start ["places", "lines", "his", "mine"] vs) H := by
  obtain ⟨Hs, P, ls, hs, ms, ⟨u, v, w, e, rfl, h1, h2, h3, f⟩, k⟩ := h
  exact s_retS (ev_sum (EvF.toC (call_unitsL (ev_var rfl) (ec_var rfl h1) (ec_var rfl h2) (ec_var rfl h3) f))) e k
theorem call_total (h1 : Ev ta σ Hs (.int P)) (h2 : EvC tb σ Hs (cL (cL cI)) ls) (h3 : EvC tc σ Hs (cL cI) hs) (h4 : EvC td σ Hs (cL cI) ms) (b : Fits P ls) :
    Ev (tCall (sp_total c) [] C8.E0 (tCons ta (tCons tb (tCons tc (tCons td tNil))))) σ Hs (.int (total P ls hs ms)) :=
  ev_callS (as_play3 h1 h2 h3 h4 b) fun vs H1 _ p H2 e2 Q1 k1 => ⟨H1, P, ls, hs, ms, p H2 e2, k1⟩
theorem rd_free_places (h : sp_free_places c vs H Q E) : t_free_places c { nx := fun _ H' => Q .non H', rt := Q } (start ["places", "his", "mine", "place"] vs) H := by
  obtain ⟨Hs, P, u, v, hs, ms, e, rfl, h1, h2, hP, k⟩ := h
  refine s_retF (ef_filter (ei_rng (ea_cons (ev_var rfl) ea_nil) (by omega) (by omega)) (fun p => !decide ((p : Int) ∈ hs) && !decide ((p : Int) ∈ ms)) (by rw [List.length_range]; omega) fun a x Hs' ha e' ca => ?_) e k
  cases ca
  exact ⟨et_and (et_test (ev_notIn (ev_var rfl) (ec_var rfl (Mo.mo e' h1)))) fun _ => et_test (ev_notIn (ev_var rfl) (ec_var rfl (Mo.mo e' h2))), fun _ => ec_var rfl rfl⟩
theorem call_free (h1 : Ev ta σ Hs (.int P)) (h3 : EvC tb σ Hs (cL cI) hs) (h4 : EvC tc σ Hs (cL cI) ms) (hP : 0 ≤ P ∧ P ≤ 60) : EvFC (tCall (sp_free_places c) [] C8.E0 (tCons ta (tCons tb (tCons tc tNil)))) σ Hs cN (freeP P hs ms) := by
  refine ef_call (as_cons (c_evI h1) mo_c fun _ e1 => as_cons (EvC.lift h3 e1) mo_c fun _ e2 => as_cons (EvC.lift h4 (e1.trans e2)) mo_c fun _ _ => as_nil) ?_
  rintro vs H1 _ ⟨_, _, rfl, p1, u, _, rfl, p2, v, _, rfl, p3, rfl⟩ H2 e2 Q1 k1
  cases p1
  exact ⟨H1, P, u, v, hs, ms, e2, rfl, p2, p3, hP, k1⟩
end
end LH

namespace LH
open PySem L2 Evl PyProof.Rows
/-! ### dicts -/
def IsDct (H : Hp) (d : Addr) (kvs : List (Key × V)) : Prop := H d = some (.dK kvs) ∨ ∃ od, H d = some (.frz od (.dK kvs))
theorem isDct_ex {H H2 : Hp} {d : Addr} {kvs : List (Key × V)} (e : Ex H H2) (h : IsDct H d kvs) : IsDct H2 d kvs := h.elim (fun h => .inl (e _ _ h)) fun ⟨od, h⟩ => .inr ⟨od, e _ _ h⟩
theorem isDct_rd {H : Hp} {d : Addr} {kvs : List (Key × V)} (h : IsDct H d kvs) : Rd H d (.dK kvs) := h
section
variable {σ : L2.St} {Hs H : Hp} {ta tb tc : TE} {v : V} {K : PySem.W.Frag} {D : Ends} {tz tu : TS} {i j : Nat} {d p : Addr} {kvs : List (Key × V)} {k : Key}
theorem ev_dget (h : IsDct Hs d kvs) (ha : Ev ta σ Hs (.ref d)) (hb : Ev tb σ Hs (kV k)) (hv : valV kvs k = some v) : Ev (tDGet ta tb) σ Hs v := fun H e Q q =>
  ha H e _ fun H2 e2 => hb H2 (e.trans e2) _ fun H3 e3 => ⟨d, v, rfl, .inl ⟨kvs, k, isDct_rd (isDct_ex ((e.trans e2).trans e3) h), rfl, hv.symm⟩, q H3 (e2.trans e3)⟩
theorem ev_din (h : IsDct Hs d kvs) (hb : Ev tb σ Hs (kV k)) (ha : Ev ta σ Hs (.ref d)) : Ev (tDIn tb ta) σ Hs (.bl (valV kvs k).isSome) := fun H e Q q =>
  hb H e _ fun H2 e2 => ha H2 (e.trans e2) _ fun H3 e3 => ⟨d, _, rfl, .inl ⟨kvs, k, isDct_rd (isDct_ex ((e.trans e2).trans e3) h), rfl, rfl⟩, q H3 (e2.trans e3)⟩
theorem ev_dnotin (h : IsDct Hs d kvs) (hb : Ev tb σ Hs (kV k)) (ha : Ev ta σ Hs (.ref d)) : Ev (tDNotIn tb ta) σ Hs (.bl (!(valV kvs k).isSome)) := fun H e Q q =>
  hb H e _ fun H2 e2 => ha H2 (e.trans e2) _ fun H3 e3 => ⟨d, _, rfl, .inl ⟨kvs, k, isDct_rd (isDct_ex ((e.trans e2).trans e3) h), rfl, rfl⟩, q H3 (e2.trans e3)⟩
/-- d[k] = v, d our own -/
theorem s_dput (hd : H d = some (.dK kvs)) (e : Ex Hs H) (hv : Ev tc σ Hs v) (ha : Ev ta σ Hs (.ref d)) (hb : Ev tb σ Hs (kV k)) (hl : kvs.length ≤ 40000) (q : ∀ H2, Ex H H2 → D.nx σ (upd H2 d (.dK (putK kvs k v)))) : sDPut ta tb tc D σ H :=
  hv H e _ fun H1 e1 => ha H1 (e.trans e1) _ fun H2 e2 => hb H2 ((e.trans e1).trans e2) _ fun H3 e3 =>
    ⟨d, _, rfl, .inl ⟨kvs, k, e3 _ _ (e2 _ _ (e1 _ _ hd)), rfl, size_lt hl, rfl⟩, q H3 ((e1.trans e2).trans e3)⟩
theorem q_dput (hd : H d = some (.dK kvs)) (e : Ex Hs H) (hv : Ev tc σ Hs v) (ha : Ev ta σ Hs (.ref d)) (hb : Ev tb σ Hs (kV k)) (hl : kvs.length ≤ 40000) (q : ∀ H2, Ex H H2 → tz D σ (upd H2 d (.dK (putK kvs k v)))) : tSeq (sDPut ta tb tc) tz D σ H :=
  s_dput (D := { D with nx := tz D }) hd e hv ha hb hl q
/-- d = {} -/
theorem q_dnew (k : ∀ d, H d = none → tz D (σ.set i (some (.ref d))) (upd H d (.dK []))) : tSeq (tAsg tDNewK (gName i)) tz D σ H := fun d hd => k d hd
theorem mut_dk {kvs : List (Key × V)} : Mut (some (.dK kvs)) := trivial
/-- for k in d, d our own: locked within -/
theorem q_keys (hd : H d = some (.dK kvs)) (hv : σ[i]? = some (some (.ref d)))
    (k : ∀ od, ∃ Pv : List (Key × V) → L2.St → Hp → Prop, Pv [] σ (upd H d (.frz od (.dK kvs))) ∧ (∀ pre σ' H', Pv pre σ' H' → H' d = some (.frz od (.dK kvs))) ∧
      (∀ pre kv post σ' H', kvs = pre ++ kv :: post → Pv pre σ' H' → tu { nx := Pv (pre ++ [kv]), rt := fun v H' => H' d = some (.frz od (.dK kvs)) ∧ D.rt v (upd H' d (.dK kvs)), bk := fun σ' H' => H' d = some (.frz od (.dK kvs)) ∧ tz D σ' (upd H' d (.dK kvs)), ct := Pv (pre ++ [kv]) } (σ'.set j (some (kV kv.1))) H') ∧
      ∀ σ' H', Pv kvs σ' H' → tz D σ' (upd H' d (.dK kvs))) : tSeq (tLock (tFor (iKeys (tVar i)) (gName j) tu)) tz D σ H := by
  refine ⟨d, .dK kvs, hd, mut_dk, fun od => ⟨.ref d, hv, d, od, rfl, .inl ⟨kvs, upd_same, ?_⟩⟩⟩
  obtain ⟨Pv, p0, pf, ps, pd⟩ := k od
  refine for_it walk_keys (fun n σ' H' => Pv (kvs.take n) σ' H') (by simpa using p0) (fun n σ' H' _ p => pf _ _ _ p) (fun n x σ' H' H'' hn p y => ?_) (fun σ' H' p => ?_)
  · obtain ⟨rfl, key, w, h1, rfl⟩ := y
    obtain ⟨e1, e2⟩ := take_snoc h1
    have q := ps (kvs.take n) (key, w) (kvs.drop (n + 1)) σ' _ e2 p
    rw [← e1] at q
    exact q
  · rw [List.take_length] at p
    exact ⟨pf _ _ _ p, pd σ' H' p⟩
end
/-- p[n] = e, p our own list -/
theorem s_setAt {σ : L2.St} {Hs H : Hp} {te ta tb : TE} {P : V → Hp → Prop} {D : Ends} {p : Addr} {xs : List V} {n : Nat} (hp : Hs p = none) (h2 : H p = some (.lst xs)) (e : Ex Hs H) (h : EvP te σ Hs P) (ho : Ev ta σ Hs (.ref p)) (hi : Ev tb σ Hs (.int (n : Int))) (hn : n < xs.length)
    (k : ∀ v H2 Hs2, Ex Hs2 (upd H2 p (.lst (xs.set n v))) → Ex Hs Hs2 → Ex H H2 → Hs2 p = none → (∀ q, Hs q = none → H q ≠ none → Hs2 q = none) → P v Hs2 → D.nx σ (upd H2 p (.lst (xs.set n v)))) : tAsg te (gSub ta tb rSetL) D σ H :=
  h H e _ fun v H2 Hs2 g pv => ho H2 (e.trans g.b) _ fun H3 e3 => hi H3 ((e.trans g.b).trans e3) _ fun H4 e4 => by
    have np : Hs2 p = none := g.f p hp (by rw [h2]; exact fun z => nomatch z)
    refine ⟨p, xs, n, n, rfl, rfl, e4 _ _ (e3 _ _ (g.b _ _ h2)), ixN_nat hn, k v H4 Hs2 (fun a o q => ?_) g.s ((g.b.trans e3).trans e4) np g.f pv⟩
    rw [upd_ne (fun z => by rw [z, np] at q; cases q)]
    exact e4 _ _ (e3 _ _ (g.i a o q))
/-! what the dict holds -/
theorem valV_map {f : Nat → V} : ∀ {l : List Nat} {p : Nat}, p ∈ l → valV (l.map fun (q : Nat) => ((Sum.inl (q : Int) : Key), f q)) (Sum.inl (p : Int)) = some (f p)
  | [], p, h => by cases h
  | q :: r, p, h => by
    unfold valV
    rw [List.map_cons, List.find?_cons]
    by_cases e : q = p
    · subst e
      rw [decide_eq_true rfl]
      rfl
    · have e2 : decide ((Sum.inl (q : Int) : Key) = Sum.inl (p : Int)) = false := decide_eq_false fun z => e (by have := Sum.inl.inj z; omega)
      rw [e2]
      exact valV_map ((List.mem_cons.mp h).resolve_left fun z => e z.symm)
theorem putK_new' {f : Nat → V} {l : List Nat} {p : Nat} {v : V} (h : p ∉ l) : putK (l.map fun (q : Nat) => ((Sum.inl (q : Int) : Key), f q)) (Sum.inl (p : Int)) v = (l.map fun (q : Nat) => ((Sum.inl (q : Int) : Key), f q)) ++ [(Sum.inl (p : Int), v)] := by
  unfold putK
  rw [if_neg]
  intro z
  obtain ⟨kv, h1, h2⟩ := List.any_eq_true.mp z
  obtain ⟨q, h3, rfl⟩ := List.mem_map.mp h1
  have h4 := of_decide_eq_true h2
  have h5 : (q : Int) = (p : Int) := Sum.inl.inj h4
  exact h ((by omega : q = p) ▸ h3)
end LH

namespace LH
open PySem L2 Evl PyProof.Rows
section
variable {c : Cn} {vs : List V} {H : Hp} {Q : VK} {E : XK} {σ : L2.St} {Hs : Hp} {ta tb tc td : TE} {P : Int} {ls : List (List Int)} {hs ms : List Int}
theorem Board.fits (b : Board P ls hs ms) : Fits P ls := ⟨b.p, b.l.few, fun l hl => (b.l.ok l hl).len⟩
theorem freeP_nodup (P : Int) (hs ms : List Int) : (freeP P hs ms).Nodup := List.Nodup.sublist List.filter_sublist List.nodup_range
theorem freeP_len (P : Int) (hs ms : List Int) : (freeP P hs ms).length ≤ P.toNat := Nat.le_trans (List.length_filter_le _ _) (Nat.le_of_eq List.length_range)
theorem unitsD_len (l : List Nat) : (unitsD P ls hs ms l).length = l.length := by unfold unitsD; rw [List.length_map]
theorem rd_units_of_free (h : sp_units_of_free c vs H Q E) : t_units_of_free c { nx := fun _ H' => Q .non H', rt := Q } (start ["places", "lines", "his", "mine", "of_lines", "units", "place", "line", "part"] vs) H := by
  obtain ⟨Hs, P, ls, hs, ms, ⟨u, v, w, e, rfl, h1, h2, h3, f⟩, k⟩ := h
  have hp := f.p
  have hfew := f.few
  refine q_setP (EvF.toC (call_unitsL (ev_var rfl) (ec_var rfl h1) (ec_var rfl h2) (ec_var rfl h3) f)) e fun x H2 Hs2 g hx => ?_
  refine q_dnew fun d hd => ?_
  have d2 : Hs2 d = none := fresh_back g.i hd
  have d0 : H d = none := fresh_back g.b hd
  refine q_for (ei_list (EvF.toC (call_free (Hs := Hs2) (ev_var rfl) (ec_var rfl (Mo.mo g.s h2)) (ec_var rfl (Mo.mo g.s h3)) (by omega)))) (g.i.trans (Ex.new hd)) fun Hs3 H3 g3 => ?_
  have d3 : Hs3 d = none := g3.f d d2 (by rw [upd_same]; exact fun z => nomatch z)
  refine ⟨fun pre σ' H' => ∃ y, σ' = [some (.int P), some u, some v, some w, some x, some (.ref d), y, none, none] ∧ Ex Hs3 H' ∧ Ex H H' ∧ H' d = some (.dK (unitsD P ls hs ms pre)),
    ⟨none, rfl, g3.i, g.b.trans ((Ex.new hd).trans g3.b), g3.b _ _ upd_same⟩, fun pre σ' H' ⟨y, _, p, _⟩ => p, ?_, ?_⟩
  · rintro pre a post z σ' H' Hs4 H4 hsrc ⟨y, rfl, i1, i2, i3⟩ g4 ca
    cases ca
    have ha : a ∈ freeP P hs ms := by rw [hsrc]; simp
    have hna : a ∉ pre := by
      have nd := freeP_nodup P hs ms
      rw [hsrc] at nd
      exact fun z => (List.nodup_append.mp nd).2.2 a z a (by simp) rfl
    have hlen : pre.length ≤ 60 := by
      have h1 := freeP_len P hs ms
      rw [hsrc] at h1
      simp at h1
      omega
    have ex4 : Ex Hs Hs4 := (g.s.trans g3.s).trans g4.s
    have hx4 : cL cI (unitsL P ls hs ms) Hs4 x := Mo.mo (g3.s.trans g4.s) hx
    have hul : (unitsL P ls hs ms).length = ls.length := by unfold unitsL; rw [List.length_map]
    refine s_dput (Hs := Hs4) (kvs := unitsD P ls hs ms pre) (k := Sum.inl (a : Int)) (v := .int (worthU P ls hs ms a)) (g4.b _ _ i3) g4.i (ev_sum (EvF.toC (ef_compT (d := cI) (c1 := cL cI) (c2 := cI) (ei_zip (c := cL cI) (d := cI) (l := ls) (m := unitsL P ls hs ms) ?_) (fun q => decide ((a : Int) ∈ q.1)) (fun q => q.2) (by rw [List.length_zip]; omega) fun q s t Hs' hq e' cs ct => ?_))) (ev_var rfl) (ev_var rfl) (by rw [unitsD_len]; omega) fun H5 e5 => ?_
    · refine (as_cons (ec_var rfl (Mo.mo ex4 h1)) mo_c fun _ e1 => as_cons (ec_var rfl (Mo.mo e1 hx4)) mo_c fun _ _ => as_nil).imp ?_
      rintro vs H1 _ ⟨s, _, rfl, p1, t, _, rfl, p2, rfl⟩
      exact ⟨s, t, rfl, p1, p2⟩
    · cases ct
      exact ⟨et_test (ev_in (ev_var rfl) (ec_var rfl cs)), fun _ => ec_var rfl rfl⟩
    · refine ⟨some (.int (a : Int)), rfl, ((i1.trans g4.b).trans e5).mut d3, ((i2.trans g4.b).trans e5).mut d0, ?_⟩
      rw [upd_same]
      unfold unitsD
      rw [putK_new' hna, List.map_append]
      rfl
  · rintro σ' H' ⟨y, rfl, i1, i2, i3⟩
    refine s_retS (Hs := Hs3) (ev_var rfl) i1 fun H4 e4 => k d H4 Hs3 ⟨g.s.trans g3.s, i2.trans e4, i1.trans e4, fun q n1 n2 => ?_⟩ d0 d3 (e4 _ _ i3)
    exact g3.f q (g.f q n1 n2) (up_some (g.b.trans (Ex.new hd)) n2)
theorem call_check (h1 : Ev ta σ Hs (.int P)) (h2 : EvC tb σ Hs (cL (cL cI)) ls) (h3 : EvC tc σ Hs (cL cI) hs) (h4 : EvC td σ Hs (cL cI) ms) (b : Board P ls hs ms) :
    EvP (tCall (sp_check_play c) [] C8.E0 (tCons ta (tCons tb (tCons tc (tCons td tNil))))) σ Hs fun _ _ => True :=
  ep_ev (ev_callS (z := .non) (as_play h1 h2 h3 h4 b) fun vs H1 _ p H2 e2 Q1 k1 => ⟨H1, P, ls, hs, ms, p H2 e2, k1⟩) trivial
theorem call_unitsD {D : Ends} {tz : TS} {i : Nat} (h1 : Ev ta σ Hs (.int P)) (h2 : EvC tb σ Hs (cL (cL cI)) ls) (h3 : EvC tc σ Hs (cL cI) hs) (h4 : EvC td σ Hs (cL cI) ms) (b : Fits P ls) (e : Ex Hs H)
    (k : ∀ d H2 Hs2, Grow Hs H Hs2 H2 → H d = none → Hs2 d = none → H2 d = some (.dK (unitsD P ls hs ms (freeP P hs ms))) → tz D (σ.set i (some (.ref d))) H2) :
    tSeq (tAsg (tCall (sp_units_of_free c) [] C8.E0 (tCons ta (tCons tb (tCons tc (tCons td tNil))))) (gName i)) tz D σ H :=
  show tCall (sp_units_of_free c) [] C8.E0 (tCons ta (tCons tb (tCons tc (tCons td tNil)))) σ H fun x H1 => tz D (σ.set i (some x)) H1 from as_play3 h1 h2 h3 h4 b H e _ fun vs H2 Hs2 g p => ⟨Hs2, P, ls, hs, ms, p H2 g.i, fun d H3 Hs3 g3 n1 n2 n3 => k d H3 Hs3 (g.trans g3) (fresh_back g.b n1) n2 n3⟩
theorem rd_danger (h : sp_danger c vs H Q E) : t_danger c { nx := fun _ H' => Q .non H', rt := Q } (start ["places", "lines", "his", "mine"] vs) H := by
  obtain ⟨Hs, P, ls, hs, ms, ⟨u, v, w, e, rfl, h1, h2, h3, b⟩, k⟩ := h
  have hp := b.p
  refine q_dropE (call_check (ev_var rfl) (ec_var rfl h1) (ec_var rfl h2) (ec_var rfl h3) b) e fun H2 Hs2 g => ?_
  exact s_retP (call_lowest (call_total (ev_var rfl) (ec_var rfl (Mo.mo g.s h1)) (ec_var rfl (Mo.mo g.s h2)) (ec_var rfl (Mo.mo g.s h3)) b.fits) (call_one (ev_var rfl) (by omega)) ⟨one_pos P, one_le hp.2⟩) g.i (on_p k g)
theorem mul2_ok (i : Int) : IntMulOk 2 i := CMul.ok (.inl ⟨by decide, by decide⟩)
theorem rd_sure (h : sp_sure c vs H Q E) : t_sure c { nx := fun _ H' => Q .non H', rt := Q } (start ["places", "lines", "his", "mine", "total"] vs) H := by
  obtain ⟨Hs, P, ls, hs, ms, ⟨u, v, w, e, rfl, h1, h2, h3, b⟩, k⟩ := h
  have hp := b.p
  refine q_dropE (call_check (ev_var rfl) (ec_var rfl h1) (ec_var rfl h2) (ec_var rfl h3) b) e fun H2 Hs2 g => ?_
  refine q_set (call_total (ev_var rfl) (ec_var rfl (Mo.mo g.s h1)) (ec_var rfl (Mo.mo g.s h2)) (ec_var rfl (Mo.mo g.s h3)) b.fits) g.i fun H3 e3 => ?_
  exact s_retP (ep_pair (c := cB) (d := cB) (c_evB (ev_lt (ev_var rfl) (call_one (ev_var rfl) (by omega)))) (c_evB (ev_lt (ev_mul ev_c (ev_var rfl) (mul2_ok _)) (call_one (ev_var rfl) (by omega))))) (g.i.trans e3) (on_p k (g.trans (Grow.up g.i e3)))
theorem rd_full (h : sp_full c vs H Q E) : t_full c { nx := fun _ H' => Q .non H', rt := Q } (start ["places", "lines", "his", "mine", "count", "line"] vs) H := by
  obtain ⟨Hs, P, ls, hs, ms, ⟨u, v, w, e, rfl, h1, h2, h3, b⟩, k⟩ := h
  have hl := b.l.few
  refine q_dropE (call_check (ev_var rfl) (ec_var rfl h1) (ec_var rfl h2) (ec_var rfl h3) b) e fun H2 Hs2 g => ?_
  refine s_retF (ef_compT (d := cN) (c1 := cN) (c2 := cL cI) (ei_enum (c := cL cI) (l := ls) ?_) (fun q => decide ((missing q.2 hs : Int) = 0)) (fun q => q.1) (by rw [List.length_zip, List.length_range]; omega) fun q s t Hs' hq e' cs ct => ?_) g.i (on_f k g)
  · refine (as_cons (ec_var rfl (Mo.mo g.s h1)) mo_c fun _ _ => as_nil).imp ?_
    rintro vs H1 _ ⟨s, _, rfl, p1, rfl⟩
    exact ⟨s, rfl, p1⟩
  · have hq2 : q.2 ∈ ls := (List.of_mem_zip hq).2
    exact ⟨et_test (ev_eqI (call_missing (ec_var rfl ct) (ec_var rfl (Mo.mo e' (Mo.mo g.s h2))) (by have := (b.l.ok _ hq2).few; omega)) ev_c), fun _ => ec_var rfl cs⟩
theorem unitsD_get {p : Nat} (h : p ∈ freeP P hs ms) : valV (unitsD P ls hs ms (freeP P hs ms)) (Sum.inl (p : Int)) = some (.int (worthU P ls hs ms (p : Int))) := valV_map (f := fun p => V.int (worthU P ls hs ms (p : Int))) h
/-- the keys, one by one -/
theorem unitsD_split {pre post : List (Key × V)} {kv : Key × V} {l : List Nat} (h : unitsD P ls hs ms l = pre ++ kv :: post) : ∃ (a : List Nat) (p : Nat) (b : List Nat), l = a ++ p :: b ∧ pre = unitsD P ls hs ms a ∧ kv = (Sum.inl (p : Int), V.int (worthU P ls hs ms (p : Int))) ∧ post = unitsD P ls hs ms b := by
  unfold unitsD at h
  obtain ⟨a, r, rfl, e1, e2⟩ := List.map_eq_append_iff.mp h
  obtain ⟨p, b, rfl, e3, e4⟩ := List.map_eq_cons_iff.mp e2
  exact ⟨a, p, b, rfl, e1.symm, e3.symm, e4.symm⟩
theorem unitsD_inj {a b : List Nat} (h : unitsD P ls hs ms a = unitsD P ls hs ms b) : a = b := by
  unfold unitsD at h
  have := congrArg (List.map Prod.fst) h
  rw [List.map_map, List.map_map] at this
  refine (List.map_inj_right (f := fun (p : Nat) => (Sum.inl (p : Int) : Key)) fun x y z => ?_).mp this
  have := Sum.inl.inj z
  omega
theorem rd_best (h : sp_best c vs H Q E) : t_best c { nx := fun _ H' => Q .non H', rt := Q } (start ["places", "lines", "his", "mine", "units", "chosen", "place"] vs) H := by
  obtain ⟨Hs, P, ls, hs, ms, ⟨u, v, w, e, rfl, h1, h2, h3, b⟩, k⟩ := h
  refine q_dropE (call_check (ev_var rfl) (ec_var rfl h1) (ec_var rfl h2) (ec_var rfl h3) b) e fun H2 Hs2 g => ?_
  refine call_unitsD (ev_var rfl) (ec_var rfl (Mo.mo g.s h1)) (ec_var rfl (Mo.mo g.s h2)) (ec_var rfl (Mo.mo g.s h3)) b.fits g.i fun d H3 Hs3 g3 n1 n2 n3 => ?_
  refine q_set (Hs := Hs3) ev_c g3.i fun H4 e4 => ?_
  have b04 : Ex H H4 := (g.b.trans g3.b).trans e4
  have d0 : H d = none := fresh_back g.b n1
  refine q_keys (e4 _ _ n3) rfl fun od => ?_
  refine ⟨fun pre σ' H' => ∃ y a, pre = unitsD P ls hs ms a ∧ (∀ p ∈ a, p ∈ freeP P hs ms) ∧ σ' = [some (.int P), some u, some v, some w, some (.ref d), some (oV (a.foldl (pick fun p => worthU P ls hs ms (p : Int)) none)), y] ∧ Ex H H' ∧ H' d = some (.frz od (.dK (unitsD P ls hs ms (freeP P hs ms)))),
    ⟨none, [], rfl, (fun _ h => by cases h), rfl, b04.mut d0, upd_same⟩, fun pre σ' H' ⟨_, _, _, _, _, _, h⟩ => h, ?_, ?_⟩
  · rintro pre kv post σ' H' hsrc ⟨y, a, ea, ha, rfl, i1, i2⟩
    obtain ⟨a', p, r, e1, e2, rfl, _⟩ := unitsD_split hsrc
    have eaa : a = a' := unitsD_inj (ea.symm.trans e2)
    subst eaa
    have hpf : p ∈ freeP P hs ms := by rw [e1]; simp
    have dct : IsDct H' d (unitsD P ls hs ms (freeP P hs ms)) := .inr ⟨od, i2⟩
    have gp := unitsD_get (ls := ls) hpf
    have q1 : unitsD P ls hs ms a ++ [(Sum.inl (p : Int), V.int (worthU P ls hs ms (p : Int)))] = unitsD P ls hs ms (a ++ [p]) := by unfold unitsD; rw [List.map_append]; rfl
    have q2 : ∀ q ∈ a ++ [p], q ∈ freeP P hs ms := fun q hq => (List.mem_append.mp hq).elim (ha q) fun z => (List.mem_singleton.mp z) ▸ hpf
    cases ho : a.foldl (pick fun p => worthU P ls hs ms (p : Int)) none with
    | none =>
      refine s_whenB (Hs := H') (et_or (a := true) (b := true) (et_test (ev_to (ev_isN (ev_var rfl)) rfl)) (fun z => nomatch z)) (Ex.refl _) (fun _ H5 e5 => ?_) (fun z => nomatch z)
      refine s_set (Hs := H5) (ev_var rfl) (Ex.refl _) fun H6 e6 => ?_
      refine ⟨some (.int (p : Int)), a ++ [p], by rw [ea, q1], q2, ?_, (i1.trans e5).trans e6, e6 _ _ (e5 _ _ i2)⟩
      rw [List.foldl_append, ho]
      rfl
    | some q =>
      have hq : q ∈ freeP P hs ms := by
        have : ∀ (l : List Nat) (o : Option Nat), (∀ x, o = some x → x ∈ freeP P hs ms) → (∀ x ∈ l, x ∈ freeP P hs ms) → ∀ x, l.foldl (pick fun p => worthU P ls hs ms (p : Int)) o = some x → x ∈ freeP P hs ms := by
          intro l
          induction l with
          | nil => exact fun o h1 _ x hx => h1 x hx
          | cons z l ih =>
            intro o h1 h2 x hx
            refine ih _ (fun x hx => ?_) (fun x hx => h2 x (List.mem_cons_of_mem _ hx)) x hx
            unfold pick at hx
            cases o with
            | none => exact Option.some.inj hx ▸ h2 z List.mem_cons_self
            | some o =>
              dsimp only at hx
              split at hx
              · exact Option.some.inj hx ▸ h2 z List.mem_cons_self
              · exact Option.some.inj hx ▸ h1 o rfl
        exact this a none (fun _ h => nomatch h) ha q ho
      have gq := unitsD_get (ls := ls) hq
      refine s_whenB (Hs := H') (et_or (a := false) (b := decide (worthU P ls hs ms (q : Int) < worthU P ls hs ms (p : Int))) (et_test (ev_to (ev_isN (ev_var rfl)) rfl)) (fun _ => et_test (ev_gt (ev_dget (k := Sum.inl (p : Int)) dct (ev_var rfl) (ev_var rfl) gp) (ev_dget (k := Sum.inl (q : Int)) dct (ev_var rfl) (ev_var rfl) gq)))) (Ex.refl _) (fun hb H5 e5 => ?_) (fun hb H5 e5 => ?_)
      · refine s_set (Hs := H5) (ev_var rfl) (Ex.refl _) fun H6 e6 => ?_
        refine ⟨some (.int (p : Int)), a ++ [p], by rw [ea, q1], q2, ?_, (i1.trans e5).trans e6, e6 _ _ (e5 _ _ i2)⟩
        have hb' : worthU P ls hs ms (q : Int) < worthU P ls hs ms (p : Int) := by simpa using hb
        rw [List.foldl_append, ho]
        show _ = [some (V.int P), some u, some v, some w, some (.ref d), some (oV (if worthU P ls hs ms (q : Int) < worthU P ls hs ms (p : Int) then some p else some q)), some (.int (p : Int))]
        rw [if_pos hb']
        rfl
      · refine ⟨some (.int (p : Int)), a ++ [p], by rw [ea, q1], q2, ?_, i1.trans e5, e5 _ _ i2⟩
        have hb' : ¬ worthU P ls hs ms (q : Int) < worthU P ls hs ms (p : Int) := by simpa using hb
        rw [List.foldl_append, ho]
        show _ = [some (V.int P), some u, some v, some w, some (.ref d), some (oV (if worthU P ls hs ms (q : Int) < worthU P ls hs ms (p : Int) then some p else some q)), some (.int (p : Int))]
        rw [if_neg hb']
        rfl
  · rintro σ' H' ⟨y, a, ea, ha, rfl, i1, i2⟩
    have eaa : freeP P hs ms = a := unitsD_inj ea
    subst eaa
    exact s_retS (Hs := upd H' d (.dK (unitsD P ls hs ms (freeP P hs ms)))) (ev_var rfl) (Ex.refl _) (on_v k (i1.mut d0))
end
end LH

namespace LH
open PySem L2 Evl PyProof.Rows
theorem ef_rep {σ : L2.St} {Hs : Hp} {tb : TE} {n : Nat} {v : V} (hb : Ev tb σ Hs (.int (n : Int))) (hn : n ≤ 40000) : EvF (tOp rRep (tLst (tCons (tC v) tNil)) tb) σ Hs fun xs _ => xs = List.replicate n v := fun H e Q q =>
  ⟨Nat.le_of_lt (size_lt (show 1 ≤ 40000 by decide)), fun l hl => hb _ (e.trans (Ex.new hl)) _ fun H3 e3 => ⟨l, (n : Int), [v], rfl, rfl, e3 _ _ upd_same, by omega, by omega, by
    rw [Int.toNat_natCast]
    show 1 * n ≤ sizeLine
    rw [Nat.one_mul]
    exact Nat.le_of_lt (size_lt hn), fun p hp => by
    have b : Ex H H3 := (Ex.new hl).trans e3
    refine q p _ _ Hs (Grow.up e (b.trans (Ex.new hp))) (fresh_back b hp) (fresh_back (e.trans b) hp) upd_same ?_
    rw [Int.toNat_natCast, List.flatten_replicate_singleton]⟩⟩
theorem marks_snoc {β : Type} (n : Nat) (g : Nat → β) (a : List Nat) {p : Nat} (hp : p < n) :
    ((List.range n).map fun q => if q ∈ a ++ [p] then some (g q) else none) = ((List.range n).map fun q => if q ∈ a then some (g q) else none).set p (some (g p)) := by
  refine List.ext_getElem (by simp) fun i h1 h2 => ?_
  have hi : i < n := by simpa using h1
  rw [List.getElem_set]
  simp only [List.getElem_map, List.getElem_range, List.mem_append, List.mem_singleton]
  by_cases e : p = i
  · subst e
    simp
  · have e' : ¬ i = p := fun z => e z.symm
    simp [e, e']
theorem marks_nil {β : Type} (n : Nat) (g : Nat → β) : ((List.range n).map fun q => if q ∈ ([] : List Nat) then some (g q) else none) = List.replicate n none := by
  refine List.ext_getElem (by simp) fun i h1 h2 => ?_
  simp
theorem Paired.setAt {α : Type} {F : α → V → Prop} {a : α} {v : V} (h : F a v) : ∀ {l : List α} {xs : List V} (n : Nat), Paired F l xs → Paired F (l.set n a) (xs.set n v)
  | _, _, _, .nil => .nil
  | _, _, 0, .cons _ t => .cons h t
  | _, _, n + 1, .cons q t => .cons q (Paired.setAt h n t)
theorem paired_rep {H : Hp} {α : Type} {c : Cd α} : ∀ n : Nat, Paired (fun b x => cO c b H x) (List.replicate n none) (List.replicate n .non)
  | 0 => .nil
  | n + 1 => .cons rfl (paired_rep n)
/-- all but d -/
def del (H : Hp) (d : Addr) : Hp := fun b => if b = d then none else H b
theorem del_ex {H : Hp} {d : Addr} : Ex (del H d) H := fun a o h => by
  unfold del at h
  split at h
  · cases h
  · exact h
theorem del_at {H : Hp} {d a : Addr} (h : a ≠ d) : del H d a = H a := if_neg h
theorem del_same {H : Hp} {d : Addr} : del H d d = none := if_pos rfl
theorem ex_del {A H : Hp} {d : Addr} (e : Ex A H) (h : A d = none) : Ex A (del H d) := fun a o q => by
  rw [del_at (ne_of_none q h)]
  exact e a o q
section
variable {c : Cn} {vs : List V} {H : Hp} {Q : VK} {E : XK}
theorem rd_worths (h : sp_worths c vs H Q E) : t_worths c { nx := fun _ H' => Q .non H', rt := Q } (start ["places", "lines", "his", "mine", "units", "pairs", "place"] vs) H := by
  obtain ⟨Hs, P, ls, hs, ms, ⟨u, v, w, e, rfl, h1, h2, h3, b⟩, k⟩ := h
  have hp := b.p
  refine q_dropE (call_check (ev_var rfl) (ec_var rfl h1) (ec_var rfl h2) (ec_var rfl h3) b) e fun H2 Hs2 g => ?_
  refine call_unitsD (ev_var rfl) (ec_var rfl (Mo.mo g.s h1)) (ec_var rfl (Mo.mo g.s h2)) (ec_var rfl (Mo.mo g.s h3)) b.fits g.i fun d H3 Hs3 g3 n1 n2 n3 => ?_
  have eP : P = (P.toNat : Int) := by omega
  refine q_setF (ef_rep (Hs := Hs3) (n := P.toNat) (ev_var (v := .int (P.toNat : Int)) (by rw [← eP]; rfl)) (by omega)) g3.i fun p xs H4 Hs4 g4 m1 m2 m3 hx => ?_
  subst hx
  have d0 : H d = none := fresh_back g.b n1
  have p0 : H p = none := fresh_back (g.b.trans g3.b) m1
  have d4 : Hs4 d = none := g4.f d n2 (by rw [n3]; exact fun z => nomatch z)
  have n4 := g4.b _ _ n3
  have pd : p ≠ d := fun z => by rw [z, n3] at m1; cases m1
  have b04 : Ex H H4 := (g.b.trans g3.b).trans g4.b
  have s04 : Ex Hs Hs4 := (g.s.trans g3.s).trans g4.s
  have f04 : ∀ q, Hs q = none → H q ≠ none → Hs4 q = none := fun q x y => g4.f q (g3.f q (g.f q x y) (up_some g.b y)) (up_some (g.b.trans g3.b) y)
  refine q_keys n4 rfl fun od => ?_
  refine ⟨fun pre σ' H' => ∃ y a xs Hi, pre = unitsD P ls hs ms a ∧ σ' = [some (.int P), some u, some v, some w, some (.ref d), some (.ref p), y] ∧ Ex H H' ∧ H' d = some (.frz od (.dK (unitsD P ls hs ms (freeP P hs ms)))) ∧
      Ex Hs Hi ∧ Ex Hi H' ∧ (∀ q, Hs q = none → H q ≠ none → Hi q = none) ∧ Hi d = none ∧ Hi p = none ∧ H' p = some (.lst xs) ∧
      Paired (fun b x => cO (cP cI cI) b Hi x) ((List.range P.toNat).map fun q => if q ∈ a then some (lowest (worthU P ls hs ms (q : Int)) (one P)) else none) xs,
    ⟨none, [], _, Hs4, rfl, rfl, b04.mut d0, upd_same, s04, g4.i.mut d4, f04, d4, m2, by rw [upd_ne pd]; exact m3, by rw [marks_nil]; exact paired_rep _⟩, fun pre σ' H' ⟨_, _, _, _, _, _, _, h, _⟩ => h, ?_, ?_⟩
  · rintro pre kv post σ' H' hsrc ⟨y, a, xs, Hi, ea, rfl, i1, i2, i3, i4, i5, i6, i7, i8, i9⟩
    obtain ⟨a', q, r, e1, e2, rfl, _⟩ := unitsD_split hsrc
    have eaa : a = a' := unitsD_inj (ea.symm.trans e2)
    subst eaa
    have hqf : q ∈ freeP P hs ms := by rw [e1]; simp
    have hqn : q < P.toNat := List.mem_range.mp (List.mem_filter.mp hqf).1
    have ex' : Ex (upd Hi d (.frz od (.dK (unitsD P ls hs ms (freeP P hs ms))))) H' := fun x o hx => by
      by_cases hxd : x = d
      · subst hxd; rw [upd_same] at hx; cases hx; exact i2
      · rw [upd_ne hxd] at hx; exact i4 x o hx
    have dct : IsDct (upd Hi d (.frz od (.dK (unitsD P ls hs ms (freeP P hs ms))))) d (unitsD P ls hs ms (freeP P hs ms)) := .inr ⟨od, upd_same⟩
    have hlen : xs.length = P.toNat := by rw [← i9.length]; simp
    refine s_setAt (n := q) (by rw [upd_ne pd]; exact i7) i8 ex' (call_lowest (ev_dget (k := Sum.inl (q : Int)) dct (ev_var rfl) (ev_var rfl) (unitsD_get hqf)) (call_one (ev_var rfl) (by omega)) ⟨one_pos P, one_le hp.2⟩) (ev_var rfl) (ev_var rfl) (by omega) fun x H5 Hs5 j1 j2 j3 j4 j5 j6 => ?_
    have hd5 : Hs5 d = some (.frz od (.dK (unitsD P ls hs ms (freeP P hs ms)))) := j2 _ _ upd_same
    have exi : Ex Hi (del Hs5 d) := ex_del ((Ex.new i6).trans j2) i6
    refine ⟨some (.int (q : Int)), a ++ [q], xs.set q x, del Hs5 d, by rw [ea]; unfold unitsD; rw [List.map_append]; rfl, rfl, (i1.trans j3).mut p0, ?_, i3.trans exi, del_ex.trans j1, fun z hz1 hz2 => ?_, del_same, ?_, upd_same, ?_⟩
    · rw [upd_ne pd.symm]
      exact j3 _ _ i2
    · by_cases hzd : z = d
      · rw [hzd]; exact del_same
      · rw [del_at hzd]
        exact j5 z (by rw [upd_ne hzd]; exact i5 z hz1 hz2) (up_some i1 hz2)
    · rw [del_at pd]
      exact j4
    · rw [marks_snoc P.toNat (fun q => lowest (worthU P ls hs ms (q : Int)) (one P)) a hqn]
      refine Paired.setAt ?_ q (paired_mo exi i9)
      obtain ⟨T, s, t, rfl, hT, hs', ht'⟩ := j6
      have hTd : T ≠ d := fun z => by rw [z, hd5] at hT; cases hT
      exact ⟨T, s, t, rfl, by rw [del_at hTd]; exact hT, hs', ht'⟩
  · rintro σ' H' ⟨y, a, xs, Hi, ea, rfl, i1, i2, i3, i4, i5, i6, i7, i8, i9⟩
    have eaa : freeP P hs ms = a := unitsD_inj ea
    subst eaa
    refine s_retS (Hs := Hi) (ev_var rfl) (i4.mut i6) fun H6 e6 => k p xs H6 Hi ⟨i3, (i1.mut d0).trans e6, (i4.mut i6).trans e6, i5⟩ p0 i7 (e6 _ _ (by rw [upd_ne pd]; exact i8)) i9
end
end LH

namespace LH
open PySem L2 Evl PyProof.Rows
/-! ### the script: a list of whole numbers that stands (it may be written) -/
def cS (K : PySem.W.Frag) : Cd (List Int) := fun l H v => ∃ a, v = .ref a ∧ SqL K H a (l.map V.int)
instance {K : PySem.W.Frag} : Mo (cS K) := ⟨fun e ⟨a, h1, h2⟩ => ⟨a, h1, ex_l e h2⟩⟩
section
variable {α β γ : Type} {c : Cd α} {d : Cd β} {f : Cd γ} {σ : L2.St} {Hs H : Hp} {te ta tb tc td : TE} {tt : TT} {K : PySem.W.Frag} {l : List Int} {b : Bool} {P : V → Hp → Prop} {PL : List V → Hp → Prop} {targ : TA}
theorem src_listS {a : Addr} (h : SqL K Hs a (l.map V.int)) : Src (Itl K a) Hs l cI := by
  have e : (l.map V.int).length = l.length := List.length_map _
  refine ⟨_, _, e ▸ walk_list (K := K) (a := a) (xs := l.map V.int), fun H e => ex_l e h, fun i H x H' hi eH y => ?_⟩
  obtain ⟨rfl, hx⟩ := y
  obtain ⟨b, hb, cb⟩ := Paired.at (ints_paired (H := Hs) l) hx
  exact ⟨b, Hs, hb, Grow.refl eH, cb⟩
theorem ei_listS (h : EvC te σ Hs (cS K) l) : EvI (iList K te) σ Hs l cI := fun H e R k => h H e _ fun v H2 Hs2 g ⟨a, h1, h2⟩ =>
  ⟨a, h1, ⟨_, ex_l g.i h2⟩, k _ H2 Hs2 g (src_listS h2)⟩
theorem ef_toS {n : Nat} {th : TE} (ha : EvC ta σ Hs (cS K) l) (h2 : Ev th σ Hs (.int (n : Int))) : EvFC (tSl (rSlL K) ta tNoPart (tPart th)) σ Hs cI (l.take n) := fun H e Q q =>
  ha H e _ fun v H2 Hs2 g ⟨a, e1, e2⟩ => eo_none H2 (e.trans g.b) _ fun H3 b3 => (eo_some h2) H3 ((e.trans g.b).trans b3) _ fun H4 b4 => ⟨a, _, e1, ex_l ((g.i.trans b3).trans b4) e2, fun p hp => by
    have gg : Grow Hs H Hs2 H4 := g.trans (Grow.up g.i (b3.trans b4))
    refine q p _ (upd H4 p _) Hs2 (gg.trans (Grow.up gg.i (Ex.new hp))) (fresh_back gg.b hp) (fresh_back gg.i hp) upd_same ?_
    rw [cut_to, ← List.map_take]
    exact ints_paired _⟩
theorem dp_int {H : Hp} (n : Int) : Dp K H (.int n) (.int n) := .int n
theorem dp_ints {H : Hp} : ∀ l : List Int, DpAll K H (l.map V.int) (l.map PyData.int)
  | [] => .nil
  | n :: r => .cons (.int n) (dp_ints r)
theorem ev_neNil (ha : EvC ta σ Hs (cS K) l) : Ev (tOp (rNeA K) ta (tLst tNil)) σ Hs (.bl (!decide (l = []))) := by
  refine ev_opP ha (fun _ _ _ e p => Mo.mo e p) (EvF.toC (c := cI) (l := []) ef_nil) (fun _ _ _ e p => Mo.mo e p) fun x y Hs1 _ p q H e Q k => .inr ⟨.list (l.map PyData.int), Dt.d (cL cI) [], ?_, Dt.dp (c := cL cI) (Mo.mo e q), ?_, shaped_of (c := cL cI) (by decide) [], ?_⟩
  · obtain ⟨a, rfl, h⟩ := p
    exact .lst (ex_l e h) (dp_ints l)
  · exact shaped_of (c := cL cI) (by decide) l
  · have h := dt_dec (c := cL cI) l []
    rw [show PyData.eqv (PyData.list (l.map PyData.int)) (Dt.d (cL cI) []) = _ from h]
    exact k H (Ex.refl _)
theorem ef_if (h : EvT tt σ Hs b) (h1 : b = true → EvF ta σ Hs PL) (h2 : b = false → EvF tb σ Hs PL) : EvF (tIf tt ta tb) σ Hs PL := fun H e Q q => h H e _ fun H2 e2 => by
  cases b with
  | true => exact iteT (h1 rfl H2 (e.trans e2) Q fun p xs H3 Hs3 g a1 a2 a3 a4 => q p xs H3 Hs3 ((Grow.up e e2).trans g) (fresh_back e2 a1) a2 a3 a4)
  | false => exact iteF (h2 rfl H2 (e.trans e2) Q fun p xs H3 Hs3 g a1 a2 a3 a4 => q p xs H3 Hs3 ((Grow.up e e2).trans g) (fresh_back e2 a1) a2 a3 a4)
theorem ep_if (h : EvT tt σ Hs b) (h1 : b = true → EvP ta σ Hs P) (h2 : b = false → EvP tb σ Hs P) : EvP (tIf tt ta tb) σ Hs P := fun H e Q q => h H e _ fun H2 e2 => by
  cases b with
  | true => exact iteT (h1 rfl H2 (e.trans e2) Q fun v H3 Hs3 g p => q v H3 Hs3 ((Grow.up e e2).trans g) p)
  | false => exact iteF (h2 rfl H2 (e.trans e2) Q fun v H3 Hs3 g p => q v H3 Hs3 ((Grow.up e e2).trans g) p)
end
/-! ### lists and tuples of things of several kinds -/
def cL2 {α β : Type} (c : Cd α) (d : Cd β) : Cd (α × β) := fun p H v => ∃ a x y, v = .ref a ∧ H a = some (.lst [x, y]) ∧ c p.1 H x ∧ d p.2 H y
def cL3 {α β γ : Type} (c : Cd α) (d : Cd β) (f : Cd γ) : Cd (α × β × γ) := fun p H v => ∃ a x y z, v = .ref a ∧ H a = some (.lst [x, y, z]) ∧ c p.1 H x ∧ d p.2.1 H y ∧ f p.2.2 H z
def cP3 {α β γ : Type} (c : Cd α) (d : Cd β) (f : Cd γ) : Cd (α × β × γ) := fun p H v => ∃ a x y z, v = .ref a ∧ H a = some (.tup [x, y, z]) ∧ c p.1 H x ∧ d p.2.1 H y ∧ f p.2.2 H z
section
variable {α β γ : Type} {c : Cd α} {d : Cd β} {f : Cd γ}
instance [Mo c] [Mo d] : Mo (cL2 c d) := ⟨fun e ⟨a, x, y, h1, h2, h3, h4⟩ => ⟨a, x, y, h1, e _ _ h2, Mo.mo e h3, Mo.mo e h4⟩⟩
instance [Mo c] [Mo d] [Mo f] : Mo (cL3 c d f) := ⟨fun e ⟨a, x, y, z, h1, h2, h3, h4, h5⟩ => ⟨a, x, y, z, h1, e _ _ h2, Mo.mo e h3, Mo.mo e h4, Mo.mo e h5⟩⟩
instance [Mo c] [Mo d] [Mo f] : Mo (cP3 c d f) := ⟨fun e ⟨a, x, y, z, h1, h2, h3, h4, h5⟩ => ⟨a, x, y, z, h1, e _ _ h2, Mo.mo e h3, Mo.mo e h4, Mo.mo e h5⟩⟩
instance [Dt c] [Dt d] : Dt (cL2 c d) where
  d := fun p => .list [Dt.d c p.1, Dt.d d p.2]
  dp := fun ⟨_, _, _, h1, h2, h3, h4⟩ => by rw [h1]; exact .lst (SqL.of h2) (.cons (Dt.dp h3) (.cons (Dt.dp h4) .nil))
  lay := fun p => by simp [PyData.canLay0, PyData.canLayAll0, Dt.lay (c := c) p.1, Dt.lay (c := d) p.2]
  dep := max (Dt.dep c) (Dt.dep d) + 1
  depth := fun p => by
    have h1 := Dt.depth (c := c) p.1
    have h2 := Dt.depth (c := d) p.2
    simp only [PyData.depth, PyData.depthAll]
    omega
  eqv := fun p q => by
    simp only [PyData.eqv, PyData.eqvAll, Bool.and_true, Bool.and_eq_true, Dt.eqv (c := c), Dt.eqv (c := d)]
    exact ⟨fun h => Prod.ext h.1 h.2, fun h => by rw [h]; exact ⟨rfl, rfl⟩⟩
instance [Dt c] [Dt d] [Dt f] : Dt (cL3 c d f) where
  d := fun p => .list [Dt.d c p.1, Dt.d d p.2.1, Dt.d f p.2.2]
  dp := fun ⟨_, _, _, _, h1, h2, h3, h4, h5⟩ => by rw [h1]; exact .lst (SqL.of h2) (.cons (Dt.dp h3) (.cons (Dt.dp h4) (.cons (Dt.dp h5) .nil)))
  lay := fun p => by simp [PyData.canLay0, PyData.canLayAll0, Dt.lay (c := c) p.1, Dt.lay (c := d) p.2.1, Dt.lay (c := f) p.2.2]
  dep := max (Dt.dep c) (max (Dt.dep d) (Dt.dep f)) + 1
  depth := fun p => by
    have h1 := Dt.depth (c := c) p.1
    have h2 := Dt.depth (c := d) p.2.1
    have h3 := Dt.depth (c := f) p.2.2
    simp only [PyData.depth, PyData.depthAll]
    omega
  eqv := fun p q => by
    simp only [PyData.eqv, PyData.eqvAll, Bool.and_true, Bool.and_eq_true, Dt.eqv (c := c), Dt.eqv (c := d), Dt.eqv (c := f)]
    exact ⟨fun h => Prod.ext h.1 (Prod.ext h.2.1 h.2.2), fun h => by rw [h]; exact ⟨rfl, rfl, rfl⟩⟩
variable {σ : L2.St} {Hs H : Hp} {te ta tb tc td : TE} {K : PySem.W.Frag} {a : α} {b : β} {g : γ}
theorem ep_lst2 [Mo c] [Mo d] (h1 : EvC ta σ Hs c a) (h2 : EvC tb σ Hs d b) : EvC (tLst (tCons ta (tCons tb tNil))) σ Hs (cL2 c d) (a, b) := by
  refine EvF.toP (ef_lst (as_cons h1 (fun _ _ _ e p => Mo.mo e p) fun Hs1 e => as_cons (EvC.lift h2 e) (fun _ _ _ e p => Mo.mo e p) fun _ _ => as_nil) ?_) ?_
  · rintro vs H ⟨v, r, rfl, _, w, r2, rfl, _, rfl⟩
    show 2 ≤ 40000
    decide
  · rintro p xs Hs2 e ⟨v, r, rfl, h, w, r2, rfl, h', rfl⟩ hp
    exact ⟨p, v, w, rfl, upd_same, Mo.mo (Ex.new hp) h, Mo.mo (Ex.new hp) h'⟩
theorem ep_lst3 [Mo c] [Mo d] [Mo f] (h1 : EvC ta σ Hs c a) (h2 : EvC tb σ Hs d b) (h3 : EvC tc σ Hs f g) : EvC (tLst (tCons ta (tCons tb (tCons tc tNil)))) σ Hs (cL3 c d f) (a, b, g) := by
  refine EvF.toP (ef_lst (as_cons h1 (fun _ _ _ e p => Mo.mo e p) fun Hs1 e => as_cons (EvC.lift h2 e) (fun _ _ _ e p => Mo.mo e p) fun Hs2 e2 => as_cons (EvC.lift h3 (e.trans e2)) (fun _ _ _ e p => Mo.mo e p) fun _ _ => as_nil) ?_) ?_
  · rintro vs H ⟨v, r, rfl, _, w, r2, rfl, _, x, r3, rfl, _, rfl⟩
    show 3 ≤ 40000
    decide
  · rintro p xs Hs2 e ⟨v, r, rfl, h, w, r2, rfl, h', x, r3, rfl, h'', rfl⟩ hp
    exact ⟨p, v, w, x, rfl, upd_same, Mo.mo (Ex.new hp) h, Mo.mo (Ex.new hp) h', Mo.mo (Ex.new hp) h''⟩
theorem ep_tup3 [Mo c] [Mo d] [Mo f] (h1 : EvC ta σ Hs c a) (h2 : EvC tb σ Hs d b) (h3 : EvC tc σ Hs f g) : EvC (tTup (tCons ta (tCons tb (tCons tc tNil)))) σ Hs (cP3 c d f) (a, b, g) := by
  have h := ep_tup (σ := σ) (Hs := Hs) (as_cons h1 (fun _ _ _ e p => Mo.mo e p) fun Hs1 e => as_cons (EvC.lift h2 e) (fun _ _ _ e p => Mo.mo e p) fun Hs2 e2 => as_cons (EvC.lift h3 (e.trans e2)) (fun _ _ _ e p => Mo.mo e p) fun _ _ => as_nil) (fun vs H p => by
    obtain ⟨v, r, rfl, _, w, r2, rfl, _, x, r3, rfl, _, rfl⟩ := p
    show 3 ≤ 40000
    decide)
  refine h.imp fun v H e p => ?_
  obtain ⟨p, vs, H0, rfl, h3, h4, u, r, rfl, cu, w, r2, rfl, cw, x, r3, rfl, cx, rfl⟩ := p
  exact ⟨p, u, w, x, rfl, h3, Mo.mo h4 cu, Mo.mo h4 cw, Mo.mo h4 cx⟩
variable {p2 : α × β} {p3 : α × β × γ}
theorem ep_l31 (ha : EvC ta σ Hs (cL3 c d f) p3) (hb : Ev tb σ Hs (.int 0)) : EvC (tOp (rIx K) ta tb) σ Hs c p3.1 := fun H e Q q =>
  ha H e _ fun v H2 Hs2 g ⟨a, x, y, z, h1, h2, h3, h4, h5⟩ => hb H2 (e.trans g.b) _ fun H3 e3 =>
    .inl ⟨a, [x, y, z], 0, x, h1, rfl, sq_ex (g.i.trans e3) h2, atI_nat (j := 0) rfl, q x H3 Hs2 (g.trans (Grow.up g.i e3)) h3⟩
theorem ep_l32 (ha : EvC ta σ Hs (cL3 c d f) p3) (hb : Ev tb σ Hs (.int 1)) : EvC (tOp (rIx K) ta tb) σ Hs d p3.2.1 := fun H e Q q =>
  ha H e _ fun v H2 Hs2 g ⟨a, x, y, z, h1, h2, h3, h4, h5⟩ => hb H2 (e.trans g.b) _ fun H3 e3 =>
    .inl ⟨a, [x, y, z], 1, y, h1, rfl, sq_ex (g.i.trans e3) h2, atI_nat (j := 1) rfl, q y H3 Hs2 (g.trans (Grow.up g.i e3)) h4⟩
theorem ep_l33 (ha : EvC ta σ Hs (cL3 c d f) p3) (hb : Ev tb σ Hs (.int 2)) : EvC (tOp (rIx K) ta tb) σ Hs f p3.2.2 := fun H e Q q =>
  ha H e _ fun v H2 Hs2 g ⟨a, x, y, z, h1, h2, h3, h4, h5⟩ => hb H2 (e.trans g.b) _ fun H3 e3 =>
    .inl ⟨a, [x, y, z], 2, z, h1, rfl, sq_ex (g.i.trans e3) h2, atI_nat (j := 2) rfl, q z H3 Hs2 (g.trans (Grow.up g.i e3)) h5⟩
theorem ep_t31 (ha : EvC ta σ Hs (cP3 c d f) p3) (hb : Ev tb σ Hs (.int 0)) : EvC (tOp (rIx K) ta tb) σ Hs c p3.1 := fun H e Q q =>
  ha H e _ fun v H2 Hs2 g ⟨a, x, y, z, h1, h2, h3, h4, h5⟩ => hb H2 (e.trans g.b) _ fun H3 e3 =>
    .inr (.inl ⟨a, [x, y, z], 0, x, h1, rfl, sqt_ex (g.i.trans e3) h2, atI_nat (j := 0) rfl, q x H3 Hs2 (g.trans (Grow.up g.i e3)) h3⟩)
theorem ep_t32 (ha : EvC ta σ Hs (cP3 c d f) p3) (hb : Ev tb σ Hs (.int 1)) : EvC (tOp (rIx K) ta tb) σ Hs d p3.2.1 := fun H e Q q =>
  ha H e _ fun v H2 Hs2 g ⟨a, x, y, z, h1, h2, h3, h4, h5⟩ => hb H2 (e.trans g.b) _ fun H3 e3 =>
    .inr (.inl ⟨a, [x, y, z], 1, y, h1, rfl, sqt_ex (g.i.trans e3) h2, atI_nat (j := 1) rfl, q y H3 Hs2 (g.trans (Grow.up g.i e3)) h4⟩)
theorem ep_t33 (ha : EvC ta σ Hs (cP3 c d f) p3) (hb : Ev tb σ Hs (.int 2)) : EvC (tOp (rIx K) ta tb) σ Hs f p3.2.2 := fun H e Q q =>
  ha H e _ fun v H2 Hs2 g ⟨a, x, y, z, h1, h2, h3, h4, h5⟩ => hb H2 (e.trans g.b) _ fun H3 e3 =>
    .inr (.inl ⟨a, [x, y, z], 2, z, h1, rfl, sqt_ex (g.i.trans e3) h2, atI_nat (j := 2) rfl, q z H3 Hs2 (g.trans (Grow.up g.i e3)) h5⟩)
theorem ef_butLast {l : List α} {x : α} [Mo c] (ha : EvC ta σ Hs (cL c) (l ++ [x])) (h2 : Ev tb σ Hs (.int (-1))) : EvFC (tSl (rSlL K) ta tNoPart (tPart tb)) σ Hs c l :=
  ef_sl ha eo_none (eo_some h2) fun xs H p => by
    have hl : xs.length = l.length + 1 := by rw [← p.length]; simp
    have e : cutV xs none (some (-1)) = xs.take l.length := by
      unfold cutV
      rw [HT.sIx_none, List.drop_zero, Nat.sub_zero]
      unfold HT.sIx
      simp [hl]
      omega
    rw [e]
    have h := Paired.cut l.length p
    rwa [List.take_left' rfl] at h
end
end LH

namespace LH
open PySem L2 Evl PyProof.Rows
/-! ### objects of one's own: made here, not known as yet, they may change -/
def emp : Hp := fun _ => none
structure Own (Hs0 H0 Ho Hi H : Hp) : Prop where
  g : Grow Hs0 H0 Hi H
  o : ∀ p u, Ho p = some u → H0 p = none ∧ Hi p = none ∧ H p = some u
/-- all that is known, with one's own -/
def kn (Ho Hi : Hp) : Hp := fun a => match Ho a with | some u => some u | none => Hi a
/-- without one's own -/
def mns (Hk Ho : Hp) : Hp := fun a => match Ho a with | some _ => none | none => Hk a
section
variable {Hs0 H0 Ho Hi H Hi2 H2 Hk Hs : Hp} {p q : Addr} {u u' : HO}
theorem Own.start (e : Ex Hs H) : Own Hs H emp Hs H := ⟨Grow.refl e, fun _ _ h => nomatch h⟩
theorem Own.on (w : Own Hs0 H0 Ho Hi H) (g : Grow Hi H Hi2 H2) : Own Hs0 H0 Ho Hi2 H2 :=
  ⟨w.g.trans g, fun p u h => by
    obtain ⟨a, b, c⟩ := w.o p u h
    exact ⟨a, g.f p b (by rw [c]; exact fun z => nomatch z), g.b p u c⟩⟩
theorem Own.up (w : Own Hs0 H0 Ho Hi H) (b : Ex H H2) : Own Hs0 H0 Ho Hi H2 := w.on (Grow.up w.g.i b)
theorem Own.ne (w : Own Hs0 H0 Ho Hi H) (h : Ho q = some u) (hp : H p = none) : q ≠ p := fun z => by
  have := (w.o q u h).2.2
  rw [z, hp] at this
  cases this
theorem Own.new (w : Own Hs0 H0 Ho Hi H) (g : Grow Hi H Hi2 H2) (h1 : H p = none) (h2 : Hi2 p = none) (h3 : H2 p = some u) : Own Hs0 H0 (upd Ho p u) Hi2 H2 :=
  ⟨(w.on g).g, fun q v h => by
    by_cases e : q = p
    · subst e
      rw [upd_same] at h
      cases h
      exact ⟨fresh_back w.g.b h1, h2, h3⟩
    · rw [upd_ne e] at h
      exact (w.on g).o q v h⟩
theorem Own.mut (w : Own Hs0 H0 Ho Hi H) (h : Ho p = some u) : Own Hs0 H0 (upd Ho p u') Hi (upd H p u') := by
  obtain ⟨a, b, c⟩ := w.o p u h
  refine ⟨⟨w.g.s, w.g.b.mut a, w.g.i.mut b, w.g.f⟩, fun q v h => ?_⟩
  by_cases e : q = p
  · subst e
    rw [upd_same] at h ⊢
    exact ⟨a, b, h⟩
  · rw [upd_ne e] at h ⊢
    exact w.o q v h
theorem Own.know (w : Own Hs0 H0 Ho Hi H) (h : Ho p = some u) : Own Hs0 H0 (del Ho p) (upd Hi p u) H := by
  obtain ⟨a, b, c⟩ := w.o p u h
  refine ⟨w.g.know a c, fun q v hq => ?_⟩
  by_cases e : q = p
  · subst e; rw [del_same] at hq; cases hq
  · rw [del_at e] at hq
    rw [upd_ne e]
    exact w.o q v hq
theorem Own.ek (w : Own Hs0 H0 Ho Hi H) : Ex (kn Ho Hi) H := fun a u h => by
  unfold kn at h
  cases e : Ho a with
  | some v => rw [e] at h; exact Option.some.inj h ▸ (w.o a v e).2.2
  | none => rw [e] at h; exact w.g.i a u h
theorem Own.ik (w : Own Hs0 H0 Ho Hi H) : Ex Hi (kn Ho Hi) := fun a u h => by
  unfold kn
  cases e : Ho a with
  | some v => have := (w.o a v e).2.1; rw [h] at this; cases this
  | none => exact h
theorem ok_kn : Ex Ho (kn Ho Hi) := fun a u h => by
  unfold kn
  rw [h]
theorem kn_at (h : Ho p = some u) : kn Ho Hi p = some u := by
  unfold kn
  rw [h]
theorem mns_ex : Ex (mns Hk Ho) Hk := fun a u h => by
  unfold mns at h
  cases e : Ho a with
  | some v => rw [e] at h; cases h
  | none => rw [e] at h; exact h
theorem mns_at (h : Ho p = none) : mns Hk Ho p = Hk p := by
  unfold mns
  rw [h]
theorem mns_own (h : Ho p = some u) : mns Hk Ho p = none := by
  unfold mns
  rw [h]
theorem Own.im (w : Own Hs0 H0 Ho Hi H) (g : Grow (kn Ho Hi) H Hk H2) : Ex Hi (mns Hk Ho) := fun a u h => by
  cases e : Ho a with
  | some v => have := (w.o a v e).2.1; rw [h] at this; cases this
  | none => rw [mns_at e]; exact g.s a u (w.ik a u h)
/-- a step that looked at one's own -/
theorem Own.back (w : Own Hs0 H0 Ho Hi H) (g : Grow (kn Ho Hi) H Hk H2) : Own Hs0 H0 Ho (mns Hk Ho) H2 := by
  refine ⟨⟨w.g.s.trans (w.im g), w.g.b.trans g.b, mns_ex.trans g.i, fun p h1 h2 => ?_⟩, fun p u h => ?_⟩
  · cases e : Ho p with
    | some v => exact mns_own e
    | none =>
      rw [mns_at e]
      refine g.f p ?_ (up_some w.g.b h2)
      unfold kn
      rw [e]
      exact w.g.f p h1 h2
  · obtain ⟨a, b, c⟩ := w.o p u h
    exact ⟨a, mns_own h, g.b p u c⟩
/-- what hangs on nothing of one's own -/
theorem own_none (w : Own Hs0 H0 Ho Hi H) (h : Hi p = some u) : Ho p = none := by
  cases e : Ho p with
  | none => rfl
  | some v => have := (w.o p v e).2.1; rw [h] at this; cases this
end
/-! ### statements with one's own -/
section
variable {α : Type} {c : Cd α} {σ : L2.St} {Hs0 H0 Ho Hi H : Hp} {te ta tb : TE} {tt : TT} {v w' : V} {P : V → Hp → Prop} {PL : List V → Hp → Prop} {K : PySem.W.Frag} {D : Ends} {tz tu tw : TS} {i j : Nat} {b : Bool} {p : Addr} {xs : List V} {wi : TI} {src : List α} {g : TG}
theorem q_oP (w : Own Hs0 H0 Ho Hi H) (h : EvP te σ Hi P) (k : ∀ v Hi2 H2, Own Hs0 H0 Ho Hi2 H2 → Ex Hi Hi2 → P v Hi2 → tz D (σ.set i (some v)) H2) : tSeq (tAsg te (gName i)) tz D σ H := h H w.g.i _ fun v H2 Hi2 g p => k v Hi2 H2 (w.on g) g.s p
theorem s_oP (w : Own Hs0 H0 Ho Hi H) (h : EvP te σ Hi P) (k : ∀ v Hi2 H2, Own Hs0 H0 Ho Hi2 H2 → Ex Hi Hi2 → P v Hi2 → D.nx (σ.set i (some v)) H2) : tAsg te (gName i) D σ H := h H w.g.i _ fun v H2 Hi2 g p => k v Hi2 H2 (w.on g) g.s p
theorem q_oV (w : Own Hs0 H0 Ho Hi H) (h : Ev te σ (kn Ho Hi) v) (k : ∀ H2, Own Hs0 H0 Ho Hi H2 → tz D (σ.set i (some v)) H2) : tSeq (tAsg te (gName i)) tz D σ H := h H w.ek _ fun H2 b => k H2 (w.up b)
theorem s_oV (w : Own Hs0 H0 Ho Hi H) (h : Ev te σ (kn Ho Hi) v) (k : ∀ H2, Own Hs0 H0 Ho Hi H2 → D.nx (σ.set i (some v)) H2) : tAsg te (gName i) D σ H := h H w.ek _ fun H2 b => k H2 (w.up b)
/-- a new list of one's own -/
theorem q_oF (w : Own Hs0 H0 Ho Hi H) (h : EvF te σ Hi PL) (k : ∀ p xs Hi2 H2, Own Hs0 H0 (upd Ho p (.lst xs)) Hi2 H2 → Ex Hi Hi2 → (∀ q u, Ho q = some u → q ≠ p) → PL xs Hi2 → tz D (σ.set i (some (.ref p))) H2) : tSeq (tAsg te (gName i)) tz D σ H :=
  h H w.g.i _ fun p xs H2 Hi2 g h1 h2 h3 h4 => k p xs Hi2 H2 (w.new g h1 h2 h3) g.s (fun q u hq => w.ne hq h1) h4
theorem q_oD (w : Own Hs0 H0 Ho Hi H) (k : ∀ p H2, Own Hs0 H0 (upd Ho p (.dK [])) Hi H2 → (∀ q u, Ho q = some u → q ≠ p) → tz D (σ.set i (some (.ref p))) H2) : tSeq (tAsg tDNewK (gName i)) tz D σ H :=
  fun d hd => k d _ (w.new (Grow.up w.g.i (Ex.new hd)) hd (fresh_back w.g.i hd) upd_same) (fun q u hq => w.ne hq hd)
theorem s_oApp (w : Own Hs0 H0 Ho Hi H) (hp : Ho p = some (.lst xs)) (ho : Ev ta σ Hi (.ref p)) (h : EvP te σ Hi P) (hz : xs.length ≤ 40000)
    (k : ∀ v Hi2 H2, Own Hs0 H0 (upd Ho p (.lst (xs ++ [v]))) Hi2 H2 → Ex Hi Hi2 → P v Hi2 → D.nx σ H2) : tDrop (tBM K "list" rAppend ta (tCons te tNil)) D σ H := ho H w.g.i _ fun H1 e1 =>
  ⟨.inl ⟨rfl, xs, sq_of (e1 p _ (w.o p _ hp).2.2)⟩, h H1 (w.g.i.trans e1) _ fun v H2 Hi2 g pv =>
    have w2 := (w.up e1).on g
    ⟨p, xs, v, rfl, rfl, (w2.o p _ hp).2.2, size_lt hz, k v Hi2 _ (w2.mut hp) g.s pv⟩⟩
theorem q_oApp (w : Own Hs0 H0 Ho Hi H) (hp : Ho p = some (.lst xs)) (ho : Ev ta σ Hi (.ref p)) (h : EvP te σ Hi P) (hz : xs.length ≤ 40000)
    (k : ∀ v Hi2 H2, Own Hs0 H0 (upd Ho p (.lst (xs ++ [v]))) Hi2 H2 → Ex Hi Hi2 → P v Hi2 → tz D σ H2) : tSeq (tDrop (tBM K "list" rAppend ta (tCons te tNil))) tz D σ H := s_oApp (D := { D with nx := tz D }) w hp ho h hz k
theorem q_oIf (w : Own Hs0 H0 Ho Hi H) (h : EvT tt σ (kn Ho Hi) b) (h1 : b = true → ∀ H2, Own Hs0 H0 Ho Hi H2 → tu { D with nx := tz D } σ H2) (h2 : b = false → ∀ H2, Own Hs0 H0 Ho Hi H2 → tw { D with nx := tz D } σ H2) : tSeq (tIfS tt tu tw) tz D σ H :=
  q_ifB h w.ek (fun hb H2 e => h1 hb H2 (w.up e)) fun hb H2 e => h2 hb H2 (w.up e)
theorem s_oIf (w : Own Hs0 H0 Ho Hi H) (h : EvT tt σ (kn Ho Hi) b) (h1 : b = true → ∀ H2, Own Hs0 H0 Ho Hi H2 → tu D σ H2) (h2 : b = false → ∀ H2, Own Hs0 H0 Ho Hi H2 → tw D σ H2) : tIfS tt tu tw D σ H :=
  s_ifB h w.ek (fun hb H2 e => h1 hb H2 (w.up e)) fun hb H2 e => h2 hb H2 (w.up e)
theorem q_oWhen (w : Own Hs0 H0 Ho Hi H) (h : EvT tt σ (kn Ho Hi) b) (h1 : b = true → ∀ H2, Own Hs0 H0 Ho Hi H2 → tu { D with nx := tz D } σ H2) (h2 : b = false → ∀ H2, Own Hs0 H0 Ho Hi H2 → tz D σ H2) : tSeq (tIfS tt tu tNext) tz D σ H := q_oIf w h h1 h2
theorem s_oWhen (w : Own Hs0 H0 Ho Hi H) (h : EvT tt σ (kn Ho Hi) b) (h1 : b = true → ∀ H2, Own Hs0 H0 Ho Hi H2 → tu D σ H2) (h2 : b = false → ∀ H2, Own Hs0 H0 Ho Hi H2 → D.nx σ H2) : tIfS tt tu tNext D σ H := s_oIf w h h1 h2
theorem q_oNo (w : Own Hs0 H0 Ho Hi H) (h : EvT tt σ (kn Ho Hi) false) (k : ∀ H2, Own Hs0 H0 Ho Hi H2 → tz D σ H2) : tSeq (tIfS tt tu tNext) tz D σ H := q_oWhen w h (fun z => nomatch z) fun _ => k
/-- for, with one's own -/
def NxO {α : Type} (Hs0 H0 Hi : Hp) (I : List α → L2.St → Hp → Hp → Prop) (pre : List α) (σ' : L2.St) (H' : Hp) : Prop := ∃ Ho' Hi', I pre σ' Ho' Hi' ∧ Ex Hi Hi' ∧ Own Hs0 H0 Ho' Hi' H'
theorem s_oFor (w : Own Hs0 H0 Ho Hi H) (hI : EvI wi σ Hi src c) (mo : ∀ (a : α) H H2 x, Ex H H2 → c a H x → c a H2 x) (I : List α → L2.St → Hp → Hp → Prop)
    (h0 : ∀ Hi2, Ex Hi Hi2 → I [] σ Ho Hi2)
    (hs : ∀ Hb, Ex Hi Hb → ∀ pre a post x σ' Ho' Hi' Hi'' H'', src = pre ++ a :: post → I pre σ' Ho' Hi' → Ex Hb Hi' → Own Hs0 H0 Ho' Hi'' H'' → Ex Hi' Hi'' → c a Hi'' x →
      g x σ' H'' fun σ3 H3 => tu { D with nx := NxO Hs0 H0 Hb I (pre ++ [a]), ct := NxO Hs0 H0 Hb I (pre ++ [a]), bk := D.nx } σ3 H3)
    (hd : ∀ σ' Ho' Hi' H', I src σ' Ho' Hi' → Ex Hi Hi' → Own Hs0 H0 Ho' Hi' H' → D.nx σ' H') : tFor wi g tu D σ H :=
  s_for hI w.g.i fun Hs2 H2 gr => ⟨NxO Hs0 H0 Hs2 I, ⟨Ho, Hs2, h0 Hs2 gr.s, Ex.refl _, w.on gr⟩, fun pre σ' H' ⟨_, _, _, e, w'⟩ => e.trans w'.g.i, fun pre a post x σ' H' Hs'' H'' he ⟨Ho', Hi', hi, e1, w1⟩ g2 ca => by
      have g3 : Grow Hi' H' (uni Hi' Hs'') H'' := g2.uni e1 w1.g.i
      exact hs Hs2 gr.s pre a post x σ' Ho' Hi' (uni Hi' Hs'') H'' he hi e1 (w1.on g3) g3.s (mo a Hs'' _ x (g2.uniR w1.g.i) ca), fun σ' H' ⟨Ho', Hi', hi, e1, w1⟩ => hd σ' Ho' Hi' H' hi (gr.s.trans e1) w1⟩
theorem q_oFor (w : Own Hs0 H0 Ho Hi H) (hI : EvI wi σ Hi src c) (mo : ∀ (a : α) H H2 x, Ex H H2 → c a H x → c a H2 x) (I : List α → L2.St → Hp → Hp → Prop)
    (h0 : ∀ Hi2, Ex Hi Hi2 → I [] σ Ho Hi2)
    (hs : ∀ Hb, Ex Hi Hb → ∀ pre a post x σ' Ho' Hi' Hi'' H'', src = pre ++ a :: post → I pre σ' Ho' Hi' → Ex Hb Hi' → Own Hs0 H0 Ho' Hi'' H'' → Ex Hi' Hi'' → c a Hi'' x →
      g x σ' H'' fun σ3 H3 => tu { D with nx := NxO Hs0 H0 Hb I (pre ++ [a]), ct := NxO Hs0 H0 Hb I (pre ++ [a]), bk := tz D } σ3 H3)
    (hd : ∀ σ' Ho' Hi' H', I src σ' Ho' Hi' → Ex Hi Hi' → Own Hs0 H0 Ho' Hi' H' → tz D σ' H') : tSeq (tFor wi g tu) tz D σ H :=
  s_oFor (D := { D with nx := tz D }) w hI mo I h0 hs hd
/-- at the end -/
theorem RetP.own {Q : VK} (k : RetP Hs0 H0 P Q) (w : Own Hs0 H0 Ho Hi H) : RetP Hi H P Q := k.on w.g
theorem RetV.own {Q : VK} (k : RetV v H0 Q) (w : Own Hs0 H0 Ho Hi H) : RetV v H Q := RetV.on k w.g.b
theorem s_oRet (w : Own Hs0 H0 Ho Hi H) (h : EvP te σ Hi P) (k : RetP Hs0 H0 P D.rt) : tRet te D σ H := s_retP h w.g.i (k.on w.g)
theorem s_oRetV (w : Own Hs0 H0 Ho Hi H) (h : Ev te σ (kn Ho Hi) v) (k : RetV v H0 D.rt) : tRet te D σ H := s_retS h w.ek (RetV.on k w.g.b)
theorem s_oRetL (w : Own Hs0 H0 Ho Hi H) (hp : Ho p = some (.lst xs)) (h : Ev te σ Hi (.ref p)) (hx : PL xs Hi) (k : RetF Hs0 H0 PL D.rt) : tRet te D σ H := h H w.g.i _ fun H2 e2 => by
  have w2 := w.up e2
  obtain ⟨a, b, c⟩ := w2.o p _ hp
  exact k p xs H2 Hi w2.g a b c hx
theorem s_oRetF (w : Own Hs0 H0 Ho Hi H) (h : EvF te σ Hi PL) (k : RetF Hs0 H0 PL D.rt) : tRet te D σ H := s_retF h w.g.i (k.on w.g)
end
end LH

namespace LH
open PySem L2 Evl PyProof.Rows
open Builtin.Int (intBits)
/-! ### the numbers drawn -/
def lawNumber (x t n : Int) : Int := if 10 ^ 18 ≤ x then x / (1 + t % 7) else
  (((x + 977 * t) * 48271 + n) % 2147483647) * (x + 31 * t + 7) * ((((x + 977 * t) * 48271 + n) % 2147483647) + x + 5) * ((((x + 977 * t) * 48271 + n) % 2147483647) * (((x + 977 * t) * 48271 + n) % 2147483647) + 11) / (1009 + t)
def lawPlaces (ns : List Int) : Int := if (ns.take 63).sum % 4 = 0 then 1 + (ns.take 63).sum / 4 % 9 else if (ns.take 63).sum % 4 = 1 then 16 else if (ns.take 63).sum % 4 = 2 then 30 else 60
theorem lawPlaces_in (ns : List Int) : 1 ≤ lawPlaces ns ∧ lawPlaces ns ≤ 60 := by
  unfold lawPlaces
  generalize (ns.take 63).sum = w
  split
  · omega
  · split
    · omega
    · split <;> omega
def Bits (ns : List Int) : Prop := ∀ x ∈ ns, intBits x ≤ 1048576
def sp_law_number (_ : Cn) : Sp := fun vs H Q _ => ∃ x t n : Int, vs = [.int x, .int t, .int n] ∧ (intBits x ≤ 1048576 ∧ 0 ≤ t ∧ t ≤ 1000) ∧ RetV (.int (lawNumber x t n)) H Q
def sp_law_places (c : Cn) : Sp := fun vs H Q _ => ∃ (Hs : Hp) (u : V) (ns : List Int), Ex Hs H ∧ vs = [u] ∧ cS c.K ns Hs u ∧ RetV (.int (lawPlaces ns)) H Q
def sp_law_lines (c : Cn) : Sp := fun vs H Q _ => ∃ (Hs : Hp) (u : V) (ns : List Int) (P m : Int), Ex Hs H ∧ vs = [u, .int P, .int m] ∧ cS c.K ns Hs u ∧ Bits ns ∧ (1 ≤ P ∧ P ≤ 60 ∧ 1 ≤ m ∧ m ≤ 20) ∧
  RetF Hs H (fun xs H => ∃ ls, Paired (fun b x => cL cI b H x) ls xs ∧ OkLines P ls ∧ ls.length ≤ ns.length) Q
def sp_law_takings (c : Cn) : Sp := fun vs H Q _ => ∃ (Hs : Hp) (u : V) (ns : List Int) (P m : Int), Ex Hs H ∧ vs = [u, .int P, .int m] ∧ cS c.K ns Hs u ∧ Bits ns ∧ (1 ≤ P ∧ P ≤ 60 ∧ 0 ≤ m ∧ m ≤ 100) ∧
  RetP Hs H (fun v H => ∃ hs ms, cP (cL cI) (cL cI) (hs, ms) H v ∧ OkTake P hs ms) Q
def sp_law_power (_ : Cn) : Sp := fun vs H Q _ => ∃ n : Nat, vs = [.int (n : Int)] ∧ n ≤ 60 ∧ RetV (.int (2 ^ n)) H Q
def weightsM (ls : List (List Int)) (hs ms : List Int) : List (List Int × Int) := (ls.filter fun l => !(l.map fun x => decide (x ∈ ms)).any id).map fun l => (l.filter fun x => !decide (x ∈ hs), 2 ^ missing l hs)
def sp_law_weights (_ : Cn) : Sp := fun vs H Q _ => ∃ (Hs : Hp) (u v w : V) (ls : List (List Int)) (hs ms : List Int), Ex Hs H ∧ vs = [u, v, w] ∧ cL (cL cI) ls Hs u ∧ cL cI hs Hs v ∧ cL cI ms Hs w ∧ (ls.length ≤ 60 ∧ ∀ l ∈ ls, l.length ≤ 60) ∧ RetFC Hs H (cP (cL cI) cI) (weightsM ls hs ms) Q
def fullL (ls : List (List Int)) (hs : List Int) : List Nat := (((List.range ls.length).zip ls).filter fun q => (q.2.map fun x => decide (x ∈ hs)).all id).map fun q => q.1
def sp_law_full (_ : Cn) : Sp := fun vs H Q _ => ∃ (Hs : Hp) (u v : V) (ls : List (List Int)) (hs : List Int), Ex Hs H ∧ vs = [u, v] ∧ cL (cL cI) ls Hs u ∧ cL cI hs Hs v ∧ (ls.length ≤ 60 ∧ ∀ l ∈ ls, l.length ≤ 60) ∧ RetFC Hs H cN (fullL ls hs) Q
def sp_law_fraction (_ : Cn) : Sp := fun vs H Q _ => ∃ (Hs : Hp) (u : V) (p : Int × Int), Ex Hs H ∧ vs = [u] ∧ cP cI cI p Hs u ∧ RetV (.bl true) H Q
def sp_law_sum (_ : Cn) : Sp := fun vs H Q _ => ∃ (Hs : Hp) (u : V) (as : List Nat) (P : Nat), Ex Hs H ∧ vs = [u] ∧ cL cI (as.map fun a => (2 : Int) ^ a) Hs u ∧ (P ≤ 60 ∧ as.length ≤ 60 ∧ ∀ a ∈ as, a ≤ P) ∧ RetC Hs H (cP cI cI) (lowest (as.map fun a => (2 : Int) ^ (P - a)).sum (2 ^ P)) Q
/-! readings -/
def t_law_number (c : Cn) : TS := (tSeq (tIfS (tTest (tOp rGeI (tVar 0) (tOp rPowI (tC (.int 10)) (tC (.int 18))))) (tRet (tOp rDivI (tVar 0) (tOp rAddI (tC (.int 1)) (tOp rModI (tVar 1) (tC (.int 7)))))) tNext) (tSeq (tAsg (tOp rModI (tOp rAddI (tOp rMulI (tOp rAddI (tVar 0) (tOp rMulI (tC (.int 977)) (tVar 1))) (tC (.int 48271))) (tVar 2)) (tC (.int 2147483647))) (gName 3)) (tSeq (tAsg (tOp rMulI (tVar 3) (tOp rAddI (tOp rAddI (tVar 0) (tOp rMulI (tC (.int 31)) (tVar 1))) (tC (.int 7)))) (gName 4)) (tRet (tOp rDivI (tOp rMulI (tOp rMulI (tVar 4) (tOp rAddI (tOp rAddI (tVar 3) (tVar 0)) (tC (.int 5)))) (tOp rAddI (tOp rMulI (tVar 3) (tVar 3)) (tC (.int 11)))) (tOp rAddI (tC (.int 1009)) (tVar 1)))))))
def t_law_places (c : Cn) : TS := (tSeq (tAsg (tCB (rSum c.K) (tCons (tSl (rSlL c.K) (tVar 0) tNoPart (tPart (tC (.int 63)))) tNil)) (gName 1)) (tRet (tOp (rIx c.K) (tTup (tCons (tOp rAddI (tC (.int 1)) (tOp rModI (tOp rDivI (tVar 1) (tC (.int 4))) (tC (.int 9)))) (tCons (tC (.int 16)) (tCons (tC (.int 30)) (tCons (tC (.int 60)) tNil))))) (tOp rModI (tVar 1) (tC (.int 4))))))
def t_law_lines (c : Cn) : TS := (tSeq (tAsg (tSl (rSlL c.K) (tVar 0) tNoPart (tPart (tC (.int 60)))) (gName 3)) (tSeq (tAsg (tLst tNil) (gName 4)) (tSeq (tFor (iEnum c.K (tCons (tVar 3) tNil)) (gTup c.K 2 (gCons (gName 5) (gCons (gName 6) gNil))) (tSeq (tAsg (tCall (sp_law_number c) [] C8.E0 (tCons (tVar 6) (tCons (tVar 5) (tCons (tCB (rLenA c.K) (tCons (tVar 3) tNil)) tNil)))) (gName 7)) (tSeq (tAsg (tOp rAddI (tOp rAddI (tVar 2) (tOp rModI (tVar 7) (tC (.int 4)))) (tIf (tTest (tOp (rEqA c.K) (tOp rModI (tOp rDivI (tVar 7) (tC (.int 36))) (tC (.int 5))) (tC (.int 1)))) (tOp rModI (tOp rDivI (tVar 7) (tC (.int 4))) (tC (.int 9))) (tC (.int 0)))) (gName 8)) (tSeq (tAsg (tLst tNil) (gName 9)) (tSeq (tFor (iRng1 (tCons (tVar 8) tNil)) (gName 10) (tSeq (tDrop (tBM c.K "list" rAppend (tVar 9) (tCons (tOp rModI (tOp rDivI (tVar 7) (tOp rAddI (tC (.int 64)) (tVar 10))) (tVar 1)) tNil))) (tAsg (tOp rAddI (tOp rDivI (tVar 7) (tC (.int 3))) (tOp rMulI (tC (.int 7)) (tVar 10))) (gName 7)))) (tDrop (tBM c.K "list" rAppend (tVar 4) (tCons (tCB (rSortedSet c.w) (tCons (tCB (rSetOf c.K c.w) (tCons (tVar 9) tNil)) tNil)) tNil)))))))) (tRet (tVar 4)))))
def t_law_takings (c : Cn) : TS := (tSeq (tAsg (tIf (tTest (tOp (rNeA c.K) (tVar 0) (tLst tNil))) (tSl (rSlL c.K) (tVar 0) tNoPart (tPart (tC (.int 63)))) (tLst (tCons (tC (.int 3)) tNil))) (gName 3)) (tSeq (tAsg (tCB (rSum c.K) (tCons (tVar 3) tNil)) (gName 4)) (tSeq (tPar 5 6 (tCons (tLst tNil) (tCons (tLst tNil) tNil))) (tSeq (tFor (iRng1 (tCons (tOp rModI (tOp rDivI (tVar 4) (tC (.int 5))) (tOp rAddI (tVar 1) (tC (.int 1)))) tNil)) (gName 7) (tSeq (tAsg (tOp rModI (tOp rDivI (tCall (sp_law_number c) [] C8.E0 (tCons (tOp (rIx c.K) (tVar 3) (tOp rModI (tVar 7) (tCB (rLenA c.K) (tCons (tVar 3) tNil)))) (tCons (tOp rAddI (tVar 7) (tVar 2)) (tCons (tCB (rLenA c.K) (tCons (tVar 3) tNil)) tNil)))) (tC (.int 5))) (tVar 1)) (gName 8)) (tIfS (tTest (tOp (rIn c.K true) (tVar 8) (tOp (rCatL c.K) (tVar 5) (tVar 6)))) (tIfS (tTest (tOp (rEqA c.K) (tOp rModI (tOp rAddI (tVar 7) (tVar 2)) (tC (.int 2))) (tC (.int 0)))) (tDrop (tBM c.K "list" rAppend (tVar 5) (tCons (tVar 8) tNil))) (tDrop (tBM c.K "list" rAppend (tVar 6) (tCons (tVar 8) tNil)))) tNext))) (tRet (tTup (tCons (tVar 5) (tCons (tVar 6) tNil))))))))
def t_law_sum (c : Cn) : TS := (tSeq (tAsg (tTup (tCons (tC (.int 0)) (tCons (tC (.int 1)) tNil))) (gTup c.K 2 (gCons (gName 1) (gCons (gName 2) gNil)))) (tSeq (tFor (iList c.K (tVar 0)) (gName 3) (tAsg (tCB rMaxI (tCons (tVar 2) (tCons (tVar 3) tNil))) (gName 2))) (tSeq (tFor (iList c.K (tVar 0)) (gName 3) (tAsg (tOp rAddI (tVar 1) (tOp rDivI (tVar 2) (tVar 3))) (gName 1))) (tSeq (tWhile (tAnd (tTest (tOp (rEqA c.K) (tOp rModI (tVar 1) (tC (.int 2))) (tC (.int 0)))) (tTest (tOp rGtI (tVar 2) (tC (.int 1))))) (tPar 1 2 (tCons (tOp rDivI (tVar 1) (tC (.int 2))) (tCons (tOp rDivI (tVar 2) (tC (.int 2))) tNil)))) (tRet (tTup (tCons (tVar 1) (tCons (tVar 2) tNil))))))))
def t_law_power (c : Cn) : TS := (tSeq (tAsg (tC (.int 1)) (gName 1)) (tSeq (tFor (iRng1 (tCons (tVar 0) tNil)) (gName 2) (tAsg (tOp rMulI (tC (.int 2)) (tVar 1)) (gName 1))) (tRet (tVar 1))))
def t_law_weights (c : Cn) : TS := (tSeq (tAsg (tLst tNil) (gName 3)) (tSeq (tFor (iList c.K (tVar 0)) (gName 4) (tIfS (tNot (tB (tCB (rAny c.K) (tCons (tLc (iList c.K (tVar 4)) (gName 5) tYes (tOp (rIn c.K false) (tVar 5) (tVar 2)) [5]) tNil)))) (tSeq (tAsg (tLc (iList c.K (tVar 4)) (gName 5) (tTest (tOp (rIn c.K true) (tVar 5) (tVar 1))) (tVar 5) [5]) (gName 6)) (tDrop (tBM c.K "list" rAppend (tVar 3) (tCons (tTup (tCons (tVar 6) (tCons (tCall (sp_law_power c) [] C8.E0 (tCons (tCB (rLenA c.K) (tCons (tVar 6) tNil)) tNil)) tNil))) tNil)))) tNext)) (tRet (tVar 3))))
def t_law_full (c : Cn) : TS := (tRet (tLc (iEnum c.K (tCons (tVar 0) tNil)) (gTup c.K 2 (gCons (gName 2) (gCons (gName 3) gNil))) (tB (tCB (rAll c.K) (tCons (tLc (iList c.K (tVar 3)) (gName 4) tYes (tOp (rIn c.K false) (tVar 4) (tVar 1)) [4]) tNil))) (tVar 2) [2, 3]))
def t_law_fraction (c : Cn) : TS := (tSeq (tIfS (tOr (tNot (tB (tCB (rIsi c.K) (tCons (tVar 0) (tCons (tC (.ty "tuple")) tNil))))) (tTest (tOp (rNeA c.K) (tCB (rLenA c.K) (tCons (tVar 0) tNil)) (tC (.int 2))))) (tRet (tC (.bl false))) tNext) (tRet (tCB (rAll c.K) (tCons (tLc (iTup c.K (tVar 0)) (gName 1) tYes (tAndV (tCB (rIsi c.K) (tCons (tVar 1) (tCons (tC (.ty "int")) tNil))) (tNotV (tCB (rIsi c.K) (tCons (tVar 1) (tCons (tC (.ty "bool")) tNil))))) [1]) tNil))))
theorem mo_c' {α : Type} {d : Cd α} [Mo d] : ∀ (a : α) H H2 x, Ex H H2 → d a H x → d a H2 x := fun _ _ _ _ e p => Mo.mo e p
theorem bits64 {x : Int} (h0 : -(2 ^ 64) < x) (h1 : x < 2 ^ 64) : intBits x ≤ 64 := intBits_le_64 h0 h1
section
variable {c : Cn} {vs : List V} {H : Hp} {Q : VK} {E : XK} {σ : L2.St} {Hs : Hp} {ta tb tc td : TE}
theorem rd_law_number (h : sp_law_number c vs H Q E) : t_law_number c { nx := fun _ H' => Q .non H', rt := Q } (start ["_law_cell", "_law_at", "_law_whole", "_law_mixed", "_law_more"] vs) H := by
  obtain ⟨x, t, n, rfl, ⟨hb, h0, h1⟩, k⟩ := h
  unfold lawNumber at k
  have c1 : CPow 10 18 := ⟨by decide, by decide, by decide⟩
  refine q_whenB (et_test (ev_ge (ev_var rfl) (ev_pow ev_c ev_c c1))) (Ex.refl H) (fun hc H2 e2 => ?_) (fun hc H2 e2 => ?_)
  · rw [if_pos (by simpa using hc)] at k
    exact s_retS (ev_div (ev_var rfl) (ev_add ev_c (ev_mod (ev_var rfl) ev_c (by decide))) (divW (by omega) (by omega) _)) e2 (on_v k e2)
  · rw [if_neg (by simpa using hc)] at k
    have m1 : IntMulOk 977 t := CMul.ok (.inl ⟨by decide, by decide⟩)
    have m2 : IntMulOk (x + 977 * t) 48271 := CMul.ok (.inr ⟨by decide, by decide⟩)
    have m3 : IntMulOk 31 t := CMul.ok (.inl ⟨by decide, by decide⟩)
    refine q_set (Hs := H) (ev_mod (ev_add (ev_mul (ev_add (ev_var rfl) (ev_mul ev_c (ev_var rfl) m1)) ev_c m2) (ev_var rfl)) ev_c (by decide)) e2 fun H3 e3 => ?_
    generalize hm : ((x + 977 * t) * 48271 + n) % 2147483647 = m at k ⊢
    have hm0 : 0 ≤ m := by omega
    have hm1 : m < 2147483647 := by omega
    have bm : intBits m ≤ 64 := bits64 (by omega) (by omega)
    have m4 : IntMulOk m (x + 31 * t + 7) := CMul.ok (.inl ⟨by omega, by omega⟩)
    have b1 : intBits (x + 31 * t) ≤ 1048577 := Nat.le_trans (intBits_add_le hb (bits64 (x := 31 * t) (by omega) (by omega))) (by decide)
    have b2 : intBits (x + 31 * t + 7) ≤ 1048578 := Nat.le_trans (intBits_add_le b1 (bits64 (x := 7) (by decide) (by decide))) (by decide)
    have b3 : intBits (m * (x + 31 * t + 7)) ≤ 1048642 := intBits_mul_le bm b2
    have b4 : intBits (m + x) ≤ 1048577 := Nat.le_trans (intBits_add_le bm hb) (by decide)
    have b5 : intBits (m + x + 5) ≤ 1048578 := Nat.le_trans (intBits_add_le b4 (bits64 (x := 5) (by decide) (by decide))) (by decide)
    have m5 : IntMulOk (m * (x + 31 * t + 7)) (m + x + 5) := IntMulOk.of_le b3 b5 (by decide)
    have b6 : intBits (m * (x + 31 * t + 7) * (m + x + 5)) ≤ 2097220 := intBits_mul_le b3 b5
    have m6 : IntMulOk m m := CMul.ok (.inl ⟨by omega, by omega⟩)
    have b7 : intBits (m * m) ≤ 128 := intBits_mul_le bm bm
    have b8 : intBits (m * m + 11) ≤ 129 := Nat.le_trans (intBits_add_le b7 (bits64 (x := 11) (by decide) (by decide))) (by decide)
    have m7 : IntMulOk (m * (x + 31 * t + 7) * (m + x + 5)) (m * m + 11) := IntMulOk.of_le b6 b8 (by decide)
    refine q_set (Hs := H) (ev_mul (ev_var rfl) (ev_add (ev_add (ev_var rfl) (ev_mul ev_c (ev_var rfl) m3)) ev_c) m4) (e2.trans e3) fun H4 e4 => ?_
    exact s_retS (Hs := H) (ev_div (ev_mul (ev_mul (ev_var rfl) (ev_add (ev_add (ev_var rfl) (ev_var rfl)) ev_c) m5) (ev_add (ev_mul (ev_var rfl) (ev_var rfl) m6) ev_c) m7) (ev_add ev_c (ev_var rfl)) (divW (by omega) (by omega) _)) ((e2.trans e3).trans e4) (on_v k ((e2.trans e3).trans e4))
theorem call_number {x t n : Int} (h1 : Ev ta σ Hs (.int x)) (h2 : Ev tb σ Hs (.int t)) (h3 : Ev tc σ Hs (.int n)) (hx : intBits x ≤ 1048576 ∧ 0 ≤ t ∧ t ≤ 1000) : Ev (tCall (sp_law_number c) [] C8.E0 (tCons ta (tCons tb (tCons tc tNil)))) σ Hs (.int (lawNumber x t n)) := by
  refine ev_callS (as_cons (c_evI h1) mo_c fun _ e1 => as_cons (c_evI (h2.mono e1)) mo_c fun _ e2 => as_cons (c_evI (h3.mono (e1.trans e2))) mo_c fun _ _ => as_nil) ?_
  rintro vs H1 _ ⟨_, _, rfl, p1, _, _, rfl, p2, _, _, rfl, p3, rfl⟩ H2 e2 Q1 k1
  cases p1
  cases p2
  cases p3
  exact ⟨x, t, n, rfl, hx, k1⟩
theorem ep_tupI {targ : TA} {l : List Int} (h : EvA targ σ Hs (l.map V.int)) (hl : l.length ≤ 40000) : EvC (tTup targ) σ Hs (cQ cI) l := by
  refine (ep_tup (as_ea h) fun vs H p => by rw [p, List.length_map]; exact hl).imp fun v H e p => ?_
  obtain ⟨a, vs, H0, rfl, h1, h2, rfl⟩ := p
  exact ⟨a, _, rfl, h1, ints_paired l⟩
theorem rd_law_places (h : sp_law_places c vs H Q E) : t_law_places c { nx := fun _ H' => Q .non H', rt := Q } (start ["_law_script", "_law_whole"] vs) H := by
  obtain ⟨Hs, u, ns, e, rfl, hu, k⟩ := h
  unfold lawPlaces at k
  refine q_set (ev_sum (EvF.toC (ef_toS (n := 63) (ec_var rfl hu) ev_c))) e fun H2 e2 => ?_
  generalize (ns.take 63).sum = w at k ⊢
  refine s_retS (evI_c (ep_ixQ (n := (w % 4).toNat) (ep_tupI (l := [1 + w / 4 % 9, 16, 30, 60]) (ea_cons (ev_add ev_c (ev_mod (ev_div (ev_var rfl) ev_c (divW (by decide) (by decide) _)) ev_c (by decide))) (ea_cons ev_c (ea_cons ev_c (ea_cons ev_c ea_nil)))) (show 4 ≤ 40000 by decide)) (ev_to (ev_mod (ev_var rfl) ev_c (by decide)) ?_) ?_)) (e.trans e2) (on_v k e2)
  · have : ((w % 4).toNat : Int) = w % 4 := Int.toNat_of_nonneg (by omega)
    rw [this]
  · rcases (by omega : w % 4 = 0 ∨ w % 4 = 1 ∨ w % 4 = 2 ∨ w % 4 = 3) with h | h | h | h <;> rw [h] <;> rfl
theorem call_places {ns : List Int} (h : EvC ta σ Hs (cS c.K) ns) : Ev (tCall (sp_law_places c) [] C8.E0 (tCons ta tNil)) σ Hs (.int (lawPlaces ns)) := by
  refine ev_callS (as_cons h mo_c fun _ _ => as_nil) ?_
  rintro vs H1 _ ⟨_, _, rfl, p1, rfl⟩ H2 e2 Q1 k1
  exact ⟨H1, _, ns, e2, rfl, p1, k1⟩
theorem rd_law_power (h : sp_law_power c vs H Q E) : t_law_power c { nx := fun _ H' => Q .non H', rt := Q } (start ["_law_many", "_law_found", "_law_time"] vs) H := by
  obtain ⟨n, rfl, hn, k⟩ := h
  refine q_set (Hs := H) ev_c (Ex.refl H) fun H2 e2 => ?_
  refine q_oFor (Own.start e2) (ei_rng (ea_cons (ev_var rfl) ea_nil) (by omega) (by omega)) (fun _ _ _ _ _ p => p) (fun pre σ' _ _ => ∃ y, σ' = [some (.int (n : Int)), some (.int (2 ^ pre.length)), y]) (fun _ _ => ⟨none, rfl⟩) ?_ ?_
  · rintro Hb eb pre a post x σ' Ho' Hi' Hi'' H'' hsrc ⟨y, rfl⟩ ei w' e' ca
    cases ca
    refine s_oV w' (ev_mul ev_c (ev_var rfl) (mul2_ok _)) fun H3 w3 => ⟨Ho', Hi'', ⟨some (.int (a : Int)), ?_⟩, ei.trans e', w3⟩
    have e : (2 : Int) ^ (pre ++ [a]).length = 2 * 2 ^ pre.length := by rw [List.length_append, List.length_singleton, Int.pow_succ, Int.mul_comm]
    rw [e]
    rfl
  · rintro σ' Ho' Hi' H' ⟨y, rfl⟩ ei w'
    refine s_oRetV w' (ev_var rfl) (on_v (v := .int (2 ^ (List.range ((n : Int)).toNat).length)) ?_ e2)
    rw [List.length_range, Int.toNat_natCast]
    exact k
theorem call_power {n : Nat} (h : Ev ta σ Hs (.int (n : Int))) (hn : n ≤ 60) : Ev (tCall (sp_law_power c) [] C8.E0 (tCons ta tNil)) σ Hs (.int (2 ^ n)) := by
  refine ev_callS (as_cons (c_evI h) mo_c fun _ _ => as_nil) ?_
  rintro vs H1 _ ⟨_, _, rfl, p1, rfl⟩ H2 e2 Q1 k1
  cases p1
  exact ⟨n, rfl, hn, k1⟩
theorem weightsM_snoc (pre : List (List Int)) (l : List Int) (hs ms : List Int) : weightsM (pre ++ [l]) hs ms = weightsM pre hs ms ++ (if (l.map fun x => decide (x ∈ ms)).any id = true then [] else [(l.filter fun x => !decide (x ∈ hs), 2 ^ missing l hs)]) := by
  unfold weightsM
  rw [List.filter_append, List.map_append]
  congr 1
  cases h : (l.map fun x => decide (x ∈ ms)).any id with
  | true => rw [if_pos rfl, List.filter_cons, h, if_neg (by decide), List.filter_nil, List.map_nil]
  | false => rw [if_neg (by decide), List.filter_cons, h, if_pos (by decide), List.filter_nil, List.map_cons, List.map_nil]
theorem weightsM_len (ls : List (List Int)) (hs ms : List Int) : (weightsM ls hs ms).length ≤ ls.length := by
  unfold weightsM
  rw [List.length_map]
  exact List.length_filter_le _ _
theorem rd_law_weights (h : sp_law_weights c vs H Q E) : t_law_weights c { nx := fun _ H' => Q .non H', rt := Q } (start ["_law_lines_here", "_law_his", "_law_mine", "_law_found", "_law_line", "_law_place", "_law_free"] vs) H := by
  obtain ⟨Hs, u, v, w, ls, hs, ms, e, rfl, h1, h2, h3, ⟨hz, hl⟩, k⟩ := h
  refine q_oF (Own.start e) (ef_nil (c := cP (cL cI) cI)) fun p xs Hi2 H2 w2 e2 _ hx => ?_
  cases hx
  refine q_oFor w2 (ei_list (ec_var rfl (Mo.mo e2 h1))) mo_c' (fun pre σ' Ho' Hi' => ∃ y4 y5 y6 xs, σ' = [some u, some v, some w, some (.ref p), y4, y5, y6] ∧ Ho' p = some (.lst xs) ∧ Paired (fun b x => cP (cL cI) cI b Hi' x) (weightsM pre hs ms) xs)
    (fun _ _ => ⟨none, none, none, [], rfl, upd_same, .nil⟩) ?_ ?_
  · rintro Hb eb pre l post x σ' Ho' Hi' Hi'' H'' hsrc ⟨y4, y5, y6, xs, rfl, hp, px⟩ ei w' e' ca
    have em : Ex Hs Hi'' := ((e2.trans eb).trans ei).trans e'
    have hlz : l.length ≤ 60 := hl l (by rw [hsrc]; simp)
    have hxs : xs.length ≤ ls.length := by
      rw [← px.length, hsrc]
      have := weightsM_len pre hs ms
      rw [List.length_append]
      omega
    refine s_oWhen w' (et_not (et_B (ev_any (EvF.toC (ef_mapN (d := cB) (ei_list (c := cI) (l := l) (ec_var rfl (Mo.mo w'.ik ca))) (fun x => decide (x ∈ ms)) (by omega) fun a x Hs' ha e' ca => ?_))))) (fun hb H3 w3 => ?_) (fun hb H3 w3 => ?_)
    · cases ca
      exact c_evB (ev_in (ev_var rfl) (ec_var rfl (Mo.mo e' (Mo.mo w'.ik (Mo.mo em h3)))))
    · have hb' : ¬ (l.map fun x => decide (x ∈ ms)).any id = true := by simpa using hb
      refine q_oP w3 (EvF.toC (ef_filter (c := cI) (ei_list (c := cI) (l := l) (ec_var rfl ca)) (fun x => !decide (x ∈ hs)) (by omega) fun a x Hs' ha e' ca => ?_)) fun z Hi3 H4 w4 e4 cz => ?_
      · cases ca
        exact ⟨et_test (ev_notIn (ev_var rfl) (ec_var rfl (Mo.mo e' (Mo.mo em h2)))), fun _ => ec_var rfl rfl⟩
      · refine s_oApp w4 hp (ev_var rfl) (ep_pair (c := cL cI) (d := cI) (ec_var rfl cz) (c_evI (call_power (n := missing l hs) (ev_lenC (c := cI) (ec_var rfl cz)) (Nat.le_trans (missing_le l hs) hlz)))) (by omega) fun t Hi5 H5 w5 e5 ct => ?_
        refine ⟨_, Hi5, ⟨some x, y5, some z, xs ++ [t], rfl, upd_same, ?_⟩, ((ei.trans e').trans e4).trans e5, w5⟩
        rw [weightsM_snoc, if_neg hb']
        exact Paired.snoc (paired_mo ((e'.trans e4).trans e5) px) ct
    · have hb' : (l.map fun x => decide (x ∈ ms)).any id = true := by simpa using hb
      refine ⟨_, Hi'', ⟨some x, y5, y6, xs, rfl, hp, ?_⟩, ei.trans e', w3⟩
      rw [weightsM_snoc, if_pos hb', List.append_nil]
      exact paired_mo e' px
  · rintro σ' Ho' Hi' H' ⟨y4, y5, y6, xs, rfl, hp, px⟩ ei w'
    exact s_oRetL w' hp (ev_var rfl) px k
theorem call_weights {ls : List (List Int)} {hs ms : List Int} (h1 : EvC ta σ Hs (cL (cL cI)) ls) (h2 : EvC tb σ Hs (cL cI) hs) (h3 : EvC tc σ Hs (cL cI) ms) (hz : ls.length ≤ 60 ∧ ∀ l ∈ ls, l.length ≤ 60) :
    EvFC (tCall (sp_law_weights c) [] C8.E0 (tCons ta (tCons tb (tCons tc tNil)))) σ Hs (cP (cL cI) cI) (weightsM ls hs ms) := by
  refine ef_call (as_cons h1 mo_c fun _ e1 => as_cons (EvC.lift h2 e1) mo_c fun _ e2 => as_cons (EvC.lift h3 (e1.trans e2)) mo_c fun _ _ => as_nil) ?_
  rintro vs H1 _ ⟨_, _, rfl, p1, _, _, rfl, p2, _, _, rfl, p3, rfl⟩ H2 e2 Q1 k1
  exact ⟨H1, _, _, _, ls, hs, ms, e2, rfl, p1, p2, p3, hz, k1⟩
theorem rd_law_full (h : sp_law_full c vs H Q E) : t_law_full c { nx := fun _ H' => Q .non H', rt := Q } (start ["_law_lines_here", "_law_his", "_law_at", "_law_line", "_law_place"] vs) H := by
  obtain ⟨Hs, u, v, ls, hs, e, rfl, h1, h2, ⟨hz, hl⟩, k⟩ := h
  refine s_retF (ef_compT (d := cN) (c1 := cN) (c2 := cL cI) (ei_enum (c := cL cI) (l := ls) ?_) (fun q => (q.2.map fun x => decide (x ∈ hs)).all id) (fun q => q.1) (by rw [List.length_zip, List.length_range]; omega) fun q s t Hs' hq e' cs ct => ?_) e k
  · refine (as_cons (ec_var rfl h1) mo_c fun _ _ => as_nil).imp ?_
    rintro vs H1 _ ⟨s, _, rfl, p1, rfl⟩
    exact ⟨s, rfl, p1⟩
  · have hq2 : q.2 ∈ ls := (List.of_mem_zip hq).2
    refine ⟨et_B (ev_all (EvF.toC (ef_mapN (d := cB) (ei_list (c := cI) (l := q.2) (ec_var rfl ct)) (fun x => decide (x ∈ hs)) (by have := hl _ hq2; omega) fun a x Hs3 ha e3 ca => ?_))), fun _ => ec_var rfl cs⟩
    cases ca
    exact c_evB (ev_in (ev_var rfl) (ec_var rfl (Mo.mo e3 (Mo.mo e' h2))))
theorem call_fullL {ls : List (List Int)} {hs : List Int} (h1 : EvC ta σ Hs (cL (cL cI)) ls) (h2 : EvC tb σ Hs (cL cI) hs) (hz : ls.length ≤ 60 ∧ ∀ l ∈ ls, l.length ≤ 60) :
    EvFC (tCall (sp_law_full c) [] C8.E0 (tCons ta (tCons tb tNil))) σ Hs cN (fullL ls hs) := by
  refine ef_call (as_cons h1 mo_c fun _ e1 => as_cons (EvC.lift h2 e1) mo_c fun _ e2 => as_nil) ?_
  rintro vs H1 _ ⟨_, _, rfl, p1, _, _, rfl, p2, rfl⟩ H2 e2 Q1 k1
  exact ⟨H1, _, _, ls, hs, e2, rfl, p1, p2, hz, k1⟩
theorem ints2_cW {p : Int × Int} {H : Hp} {v : V} (h : cP cI cI p H v) : cW (.tup [.int p.1, .int p.2]) H v := by
  obtain ⟨a, x, y, rfl, h1, h2, h3⟩ := h
  cases h2
  cases h3
  exact .tup h1 (.cons (.int _) (.cons (.int _) .nil))
theorem bls2_cW {p : Bool × Bool} {H : Hp} {v : V} (h : cP cB cB p H v) : cW (.tup [.bl p.1, .bl p.2]) H v := by
  obtain ⟨a, x, y, rfl, h1, h2, h3⟩ := h
  cases h2
  cases h3
  exact .tup h1 (.cons (.bl _) (.cons (.bl _) .nil))
theorem cW_tup {H : Hp} {l : List Wd} {v : V} (h : cW (.tup l) H v) : cQ cW l H v := by
  cases h with
  | tup h t => exact ⟨_, _, rfl, h, cws_paired t⟩
theorem rd_law_fraction (h : sp_law_fraction c vs H Q E) : t_law_fraction c { nx := fun _ H' => Q .non H', rt := Q } (start ["_law_found", "_law_one"] vs) H := by
  obtain ⟨Hs, u, p, e, rfl, hp, k⟩ := h
  have hw := ints2_cW hp
  refine q_no (EvT_to (et_or (et_not (et_B (ev_isi ty_tuple (ec_var rfl hw)))) fun _ => et_test (ev_neI (ev_lenQ (c := cW) (ec_var rfl (cW_tup hw))) ev_c)) ?_) e fun H2 e2 => ?_
  · rw [tuple_eq]
    rfl
  · refine s_retS (ev_to (ev_all (EvF.toC (ef_mapN (d := cB) (ei_tup (c := cW) (ec_var rfl (cW_tup hw))) (fun d => isTy "int" d && !isTy "bool" d) (show 2 ≤ 40000 by decide) fun a x Hs3 ha e3 ca => c_evB (ev_andV (ev_isi ty_int (ec_var rfl ca)) fun _ => ev_notV (ev_isi ty_bool (ec_var rfl ca)))))) ?_) (e.trans e2) (on_v k e2)
    simp only [whole_eq]
    rfl
theorem call_fraction {p : Int × Int} (h1 : EvC ta σ Hs (cP cI cI) p) : Ev (tCall (sp_law_fraction c) [] C8.E0 (tCons ta tNil)) σ Hs (.bl true) := by
  refine ev_callS (as_cons h1 mo_c fun _ e1 => as_nil) ?_
  rintro vs H1 _ ⟨_, _, rfl, p1, rfl⟩ H2 e2 Q1 k1
  exact ⟨H1, _, p, e2, rfl, p1, k1⟩
end
end LH

namespace LH
open PySem L2 Evl PyProof.Rows
theorem pow_split {P b : Nat} (h : b ≤ P) : (2 : Int) ^ P = 2 ^ b * 2 ^ (P - b) := by
  rw [← Int.pow_add]
  congr 1
  omega
theorem natAbs_pow2 (n : Nat) : ((2 : Int) ^ n).natAbs = 2 ^ n := by
  rw [Int.natAbs_pow]
  rfl
theorem cop_odd {a : Nat} (h : a % 2 = 1) (b : Nat) : Nat.gcd a (2 ^ b) = 1 := by
  have h2 : Nat.gcd 2 a = 1 := by
    rw [Nat.gcd_rec, h]
    rfl
  have : Nat.Coprime a 2 := by
    unfold Nat.Coprime
    rw [Nat.gcd_comm]
    exact h2
  exact Nat.Coprime.pow_right b this
theorem lowest_end {U A : Int} {P b : Nat} (hb : b ≤ P) (hU : U = A * 2 ^ (P - b)) (h : A % 2 = 1 ∨ b = 0) : lowest U (2 ^ P) = (A, 2 ^ b) := by
  have g : gcdI U (2 ^ P) = 2 ^ (P - b) := by
    unfold gcdI
    rw [hU, Int.natAbs_mul, natAbs_pow2, natAbs_pow2]
    have e : (2 : Nat) ^ P = 2 ^ b * 2 ^ (P - b) := by rw [← Nat.pow_add]; congr 1; omega
    rw [e, Nat.gcd_mul_right]
    have c : Nat.gcd A.natAbs (2 ^ b) = 1 := by
      rcases h with h | h
      · exact cop_odd (by omega) b
      · rw [h]
        exact Nat.gcd_one_right _
    rw [c, Nat.one_mul]
    rw [Int.natCast_pow]
    rfl
  unfold lowest
  rw [g]
  have p := pow_pos' (P - b)
  refine Prod.ext ?_ ?_
  · show U / 2 ^ (P - b) = A
    rw [hU]
    exact Int.mul_ediv_cancel _ (by omega)
  · show 2 ^ P / 2 ^ (P - b) = 2 ^ b
    rw [pow_split hb]
    exact Int.mul_ediv_cancel _ (by omega)
theorem max_pow (m a : Nat) : (if (2 : Int) ^ a > 2 ^ m then (2 : Int) ^ a else 2 ^ m) = 2 ^ (max m a) := by
  have key : ∀ x y : Nat, x ≤ y → (2 : Int) ^ x ≤ 2 ^ y := fun x y h => by
    rw [pow_split h]
    have h1 := pow_pos' x
    have h2 := pow_pos' (y - x)
    have : (2 : Int) ^ x * 1 ≤ 2 ^ x * 2 ^ (y - x) := Int.mul_le_mul_of_nonneg_left (by omega) (by omega)
    omega
  by_cases h : a ≤ m
  · rw [if_neg (by have := key a m h; omega), Nat.max_eq_left h]
  · rw [Nat.max_eq_right (by omega)]
    split
    · rfl
    · have := key m a (by omega)
      omega
def mx (as : List Nat) : Nat := as.foldl max 0
theorem mx_snoc (pre : List Nat) (a : Nat) : mx (pre ++ [a]) = max (mx pre) a := by
  unfold mx
  rw [List.foldl_append]
  rfl
theorem foldl_max_le : ∀ (as : List Nat) (m P : Nat), m ≤ P → (∀ a ∈ as, a ≤ P) → as.foldl max m ≤ P
  | [], _, _, h, _ => h
  | a :: r, m, P, h, k => foldl_max_le r (max m a) P (Nat.max_le.mpr ⟨h, k a List.mem_cons_self⟩) fun x hx => k x (List.mem_cons_of_mem _ hx)
theorem foldl_max_ge : ∀ (as : List Nat) (m : Nat), m ≤ as.foldl max m ∧ ∀ a ∈ as, a ≤ as.foldl max m
  | [], _ => ⟨Nat.le_refl _, fun _ h => nomatch h⟩
  | a :: r, m => by
    obtain ⟨h1, h2⟩ := foldl_max_ge r (max m a)
    refine ⟨Nat.le_trans (Nat.le_max_left m a) h1, fun x hx => ?_⟩
    rcases List.mem_cons.mp hx with e | e
    · rw [e]
      exact Nat.le_trans (Nat.le_max_right m a) h1
    · exact h2 x e
theorem sum_scale (as : List Nat) {m P : Nat} (hm : m ≤ P) (h : ∀ a ∈ as, a ≤ m) : (as.map fun a => (2 : Int) ^ (P - a)).sum = (as.map fun a => (2 : Int) ^ (m - a)).sum * 2 ^ (P - m) := by
  induction as with
  | nil => simp
  | cons a r ih =>
    rw [List.map_cons, List.map_cons, List.sum_cons, List.sum_cons, ih fun x hx => h x (List.mem_cons_of_mem _ hx), Int.add_mul]
    have ha := h a List.mem_cons_self
    rw [← Int.pow_add, show m - a + (P - m) = P - a by omega]
section
variable {c : Cn} {vs : List V} {H : Hp} {Q : VK} {E : XK} {σ : L2.St} {Hs : Hp} {ta tb tc td : TE}
theorem pow_le60 {a : Nat} (h : a ≤ 60) : (2 : Int) ^ a ≤ 2 ^ 60 := by
  rw [pow_split h]
  have h1 := pow_pos' a
  have h2 := pow_pos' (60 - a)
  have : (2 : Int) ^ a * 1 ≤ 2 ^ a * 2 ^ (60 - a) := Int.mul_le_mul_of_nonneg_left (by omega) (by omega)
  omega
theorem map_pow_split {as : List Nat} {pre post : List Int} {x : Int} (h : (as.map fun a => (2 : Int) ^ a) = pre ++ x :: post) : ∃ (a1 : List Nat) (a : Nat) (a2 : List Nat), as = a1 ++ a :: a2 ∧ pre = (a1.map fun a => (2 : Int) ^ a) ∧ x = 2 ^ a := by
  obtain ⟨a1, r, rfl, e1, e2⟩ := List.map_eq_append_iff.mp h
  obtain ⟨a, a2, rfl, e3, e4⟩ := List.map_eq_cons_iff.mp e2
  exact ⟨a1, a, a2, rfl, e1.symm, e3.symm⟩
theorem pow2_inj {a b : Nat} (h : (2 : Int) ^ a = 2 ^ b) : a = b := by
  have : (2 : Nat) ^ a = 2 ^ b := by
    have h2 := congrArg Int.natAbs h
    rwa [natAbs_pow2, natAbs_pow2] at h2
  exact (Nat.pow_right_inj (by decide)).mp this
theorem map_pow_inj {as bs : List Nat} (h : (as.map fun a => (2 : Int) ^ a) = bs.map fun a => (2 : Int) ^ a) : as = bs := (List.map_inj_right (f := fun a : Nat => (2 : Int) ^ a) fun _ _ z => pow2_inj z).mp h
theorem rd_law_sum (h : sp_law_sum c vs H Q E) : t_law_sum c { nx := fun _ H' => Q .non H', rt := Q } (start ["_law_some", "_law_above", "_law_below", "_law_power_here"] vs) H := by
  obtain ⟨Hs, u, as, P, e, rfl, hu, ⟨hP, hl, ha⟩, k⟩ := h
  refine q_two (ep_pair (c := cI) (d := cI) (a := 0) (b := 1) (c_evI ev_c) (c_evI ev_c)) e fun s t H2 Hs2 g cs ct => ?_
  cases cs
  cases ct
  have w := (Own.start e).on g
  refine q_oFor w (ei_list (ec_var rfl (Mo.mo g.s hu))) mo_c' (fun pre σ' _ _ => ∃ y a1, pre = (a1.map fun a => (2 : Int) ^ a) ∧ σ' = [some u, some (.int 0), some (.int (2 ^ mx a1)), y]) (fun _ _ => ⟨none, [], rfl, rfl⟩) ?_ ?_
  · rintro Hb eb pre x post z σ' Ho' Hi' Hi'' H'' hsrc ⟨y, a1, ea, rfl⟩ ei w' e' ca
    obtain ⟨b1, a, b2, e1, e2, rfl⟩ := map_pow_split hsrc
    have : a1 = b1 := map_pow_inj (ea.symm.trans e2)
    subst this
    cases ca
    refine s_oV w' (ev_maxI (ev_var rfl) (ev_var rfl)) fun H3 w3 => ⟨Ho', Hi'', ⟨some (.int (2 ^ a)), a1 ++ [a], by rw [ea, List.map_append]; rfl, ?_⟩, ei.trans e', w3⟩
    rw [max_pow, mx_snoc]
    rfl
  · rintro σ' Ho' Hi' H' ⟨y, a1, ea, rfl⟩ ei w'
    have : as = a1 := map_pow_inj ea
    subst this
    have m1 : mx as ≤ P := foldl_max_le as 0 P (Nat.zero_le _) ha
    have m2 : ∀ a ∈ as, a ≤ mx as := (foldl_max_ge as 0).2
    refine q_oFor w' (ei_list (ec_var rfl (Mo.mo ei (Mo.mo g.s hu)))) mo_c' (fun pre σ' _ _ => ∃ y a1, pre = (a1.map fun a => (2 : Int) ^ a) ∧ σ' = [some u, some (.int (a1.map fun a => (2 : Int) ^ (mx as - a)).sum), some (.int (2 ^ mx as)), y]) (fun _ _ => ⟨y, [], rfl, rfl⟩) ?_ ?_
    · rintro Hb eb pre x post z σ' Ho'' Hi'' Hi3 H'' hsrc ⟨y, a1, ea, rfl⟩ ei w' e' ca
      obtain ⟨b1, a, b2, e1, e2, rfl⟩ := map_pow_split hsrc
      have : a1 = b1 := map_pow_inj (ea.symm.trans e2)
      subst this
      cases ca
      have hm : a ≤ mx as := m2 a (by rw [e1]; simp)
      refine s_oV w' (ev_add (ev_var rfl) (ev_div (ev_var rfl) (ev_var rfl) (divW (pow_pos' a) (pow_le60 (by omega)) _))) fun H3 w3 => ⟨Ho'', Hi3, ⟨some (.int (2 ^ a)), a1 ++ [a], by rw [ea, List.map_append]; rfl, ?_⟩, ei.trans e', w3⟩
      have p := pow_pos' a
      have e5 : (2 : Int) ^ mx as / 2 ^ a = 2 ^ (mx as - a) := by
        rw [pow_split hm, Int.mul_ediv_cancel_left _ (by omega)]
      rw [e5, List.map_append, List.sum_append]
      simp
    · rintro σ' Ho'' Hi'' H'' ⟨y, a1, ea, rfl⟩ ei2 w2
      have : as = a1 := map_pow_inj ea
      subst this
      refine q_while (fun m σ' H' => ∃ A y Ho Hi, σ' = [some u, some (.int A), some (.int (2 ^ m)), y] ∧ m ≤ P ∧ (as.map fun a => (2 : Int) ^ (P - a)).sum = A * 2 ^ (P - m) ∧ Own Hs H Ho Hi H') (mx as) ⟨_, y, Ho'', Hi'', rfl, m1, sum_scale as m1 m2, w2⟩ ?_
      rintro m σ' H' ⟨A, y, Ho, Hi, rfl, hm, hU, w3⟩
      refine ⟨decide (A % 2 = 0) && decide (1 < (2 : Int) ^ m), (et_and (et_test (ev_eqI (ev_mod (ev_var rfl) ev_c (by decide)) ev_c)) fun _ => et_test (ev_gt (ev_var rfl) ev_c)), fun hb H3 e3 => ?_, fun hb H3 e3 => ?_⟩
      · rw [Bool.and_eq_true, decide_eq_true_eq, decide_eq_true_eq] at hb
        obtain ⟨b1, b2⟩ := hb
        obtain ⟨n, rfl⟩ : ∃ n, m = n + 1 := ⟨m - 1, by
          rcases m with _ | m
          · simp at b2
          · rfl⟩
        have c2 : ∀ x : Int, CDivW x 2 := divW (by decide) (by decide)
        refine ⟨fun σ2 H2 => ∃ m', m' < n + 1 ∧ ∃ A y Ho Hi, σ2 = [some u, some (.int A), some (.int (2 ^ m')), y] ∧ m' ≤ P ∧ (as.map fun a => (2 : Int) ^ (P - a)).sum = A * 2 ^ (P - m') ∧ Own Hs H Ho Hi H2, fun _ _ h => h, ?_⟩
        refine s_par (Hs := H3) (ev_div (ev_var rfl) ev_c (c2 _)) (ev_div (ev_var rfl) ev_c (c2 _)) (Ex.refl _) fun H4 e4 => ⟨n, Nat.lt_succ_self n, A / 2, y, Ho, Hi, ?_, by omega, ?_, (w3.up e3).up e4⟩
        · have : (2 : Int) ^ (n + 1) / 2 = 2 ^ n := by
            rw [Int.pow_succ]
            exact Int.mul_ediv_cancel _ (by decide)
          rw [this]
          rfl
        · rw [hU, show P - n = (P - (n + 1)) + 1 by omega, Int.pow_succ]
          have : A = 2 * (A / 2) := by omega
          generalize (2 : Int) ^ (P - (n + 1)) = z
          generalize hB : A / 2 = B at this ⊢
          rw [this, Int.mul_comm 2 B, Int.mul_assoc, Int.mul_comm 2 z]
      · have hend : A % 2 = 1 ∨ m = 0 := by
          rcases m with _ | m
          · exact .inr rfl
          · left
            rw [Bool.and_eq_false_iff, decide_eq_false_iff_not, decide_eq_false_iff_not] at hb
            rcases hb with hb | hb
            · omega
            · exfalso
              apply hb
              rw [Int.pow_succ]
              have := pow_pos' m
              omega
        have hL := lowest_end hm hU hend
        have w4 := w3.up e3
        rw [hL] at k
        exact s_oRet w4 (ep_pair (c := cI) (d := cI) (c_evI (ev_var rfl)) (c_evI (ev_var rfl))) k
theorem call_sum {as : List Nat} {P : Nat} (h1 : EvC ta σ Hs (cL cI) (as.map fun a => (2 : Int) ^ a)) (h : P ≤ 60 ∧ as.length ≤ 60 ∧ ∀ a ∈ as, a ≤ P) : EvC (tCall (sp_law_sum c) [] C8.E0 (tCons ta tNil)) σ Hs (cP cI cI) (lowest (as.map fun a => (2 : Int) ^ (P - a)).sum (2 ^ P)) := by
  refine ep_call (as_cons h1 mo_c fun _ e1 => as_nil) ?_
  rintro vs H1 _ ⟨_, _, rfl, p1, rfl⟩ H2 e2 Q1 k1
  exact ⟨H1, _, as, P, e2, rfl, p1, h, k1⟩
end
end LH

namespace LH
open PySem L2 Evl PyProof.Rows
open Builtin.Int (intBits)
/-! ### lines and takings drawn -/
theorem rise_of_pw : ∀ {l : List Int}, l.Pairwise (· < ·) → rise l = true
  | [], _ => rfl
  | [_], _ => rfl
  | a :: b :: r, h => by
    obtain ⟨h1, h2⟩ := List.pairwise_cons.mp h
    have ih : rise (b :: r) = true := rise_of_pw h2
    unfold rise at ih ⊢
    rw [List.drop_succ_cons, List.drop_zero] at ih ⊢
    rw [List.zip_cons_cons, List.all_cons, decide_eq_true (h1 b List.mem_cons_self), Bool.true_and]
    exact ih
theorem pw_len {P : Int} : ∀ {l : List Int} {a : Int}, l.Pairwise (· < ·) → (∀ x ∈ l, a ≤ x ∧ x < P) → a ≤ P → (l.length : Int) ≤ P - a
  | [], a, _, _, h => by simp; omega
  | x :: r, a, h, hx, hp => by
    obtain ⟨h1, h2⟩ := List.pairwise_cons.mp h
    have hx0 := hx x List.mem_cons_self
    have ih := pw_len (l := r) (a := x + 1) h2 (fun y hy => ⟨by have := h1 y hy; omega, (hx y (List.mem_cons_of_mem _ hy)).2⟩) (by omega)
    rw [List.length_cons]
    omega
theorem line_ok {P : Int} {ns ys : List Int} (hP : P ≤ 60) (hp : ns.Pairwise (· < ·)) (hm : ∀ k, k ∈ ns ↔ k ∈ ys) (hy : ∀ y ∈ ys, 0 ≤ y ∧ y < P) (h0 : ys ≠ []) (hP0 : 0 ≤ P) : OkLine P ns := by
  have hx : ∀ x ∈ ns, 0 ≤ x ∧ x < P := fun x hx => hy x ((hm x).mp hx)
  have hl := pw_len hp hx hP0
  refine ⟨fun z => ?_, hx, rise_of_pw hp, by omega, by omega⟩
  obtain ⟨y, hy0⟩ := List.exists_mem_of_ne_nil ys h0
  have := (hm y).mpr hy0
  rw [z] at this
  cases this
theorem cS_of {K : PySem.W.Frag} {l : List Int} {H : Hp} {v : V} (h : cL cI l H v) : cS K l H v := by
  obtain ⟨a, h1, h2⟩ := cL_ints h
  exact ⟨a, h1, sq_of h2⟩
theorem mod_in (x : Int) {P : Int} (h : 1 ≤ P) : 0 ≤ x % P ∧ x % P < P := ⟨Int.emod_nonneg _ (by omega), Int.emod_lt_of_pos _ (by omega)⟩
section
variable {c : Cn} {vs : List V} {H : Hp} {Q : VK} {E : XK} {σ : L2.St} {Hs : Hp} {ta tb tc td : TE}
theorem rd_law_lines (h : sp_law_lines c vs H Q E) : t_law_lines c { nx := fun _ H' => Q .non H', rt := Q } (start ["_law_script", "_law_places_here", "_law_least", "_law_cells", "_law_found", "_law_at", "_law_cell", "_law_number_here", "_law_size", "_law_line", "_law_k"] vs) H := by
  obtain ⟨Hs, u, ns, P, m, e, rfl, hu, hb, ⟨p1, p2, m1, m2⟩, k⟩ := h
  refine q_oP (Own.start e) (EvF.toC (ef_toS (n := 60) (ec_var rfl hu) ev_c)) fun cells Hi H1 w e1 hc => ?_
  refine q_oF w (ef_nil (c := cL cI)) fun p xs Hi2 H2 w2 e2 _ hx => ?_
  cases hx
  have hclen : (ns.take 60).length ≤ 60 := by rw [List.length_take]; omega
  have hzip : ((List.range (ns.take 60).length).zip (ns.take 60)).length = (ns.take 60).length := by rw [List.length_zip, List.length_range, Nat.min_self]
  refine q_oFor w2 (ei_enum (c := cI) (l := ns.take 60) ?_) mo_c' (fun pre σ' Ho' Hi' => ∃ y5 y6 y7 y8 y9 y10 xs ls, σ' = [some u, some (.int P), some (.int m), some cells, some (.ref p), y5, y6, y7, y8, y9, y10] ∧ Ho' p = some (.lst xs) ∧ Paired (fun b x => cL cI b Hi' x) ls xs ∧ ls.length = pre.length ∧ ∀ l ∈ ls, OkLine P l)
    (fun _ _ => ⟨none, none, none, none, none, none, [], [], rfl, upd_same, .nil, rfl, fun _ h => nomatch h⟩) ?_ ?_
  · refine (as_cons (ec_var rfl (Mo.mo e2 hc)) mo_c fun _ _ => as_nil).imp ?_
    rintro vs H1 _ ⟨s, _, rfl, p1, rfl⟩
    exact ⟨s, rfl, p1⟩
  · rintro Hb eb pre ⟨at_, cell⟩ post x σ' Ho' Hi' Hi'' H'' hsrc ⟨y5, y6, y7, y8, y9, y10, xs, ls, rfl, hp, px, pl, pok⟩ ei w' e' ca
    have hmem : (at_, cell) ∈ (List.range (ns.take 60).length).zip (ns.take 60) := by rw [hsrc]; simp
    have ha : at_ < 60 := by have := List.mem_range.mp (List.of_mem_zip hmem).1; omega
    have hcell : intBits cell ≤ 1048576 := hb cell (List.mem_of_mem_take (List.of_mem_zip hmem).2)
    have hpre : pre.length < 60 := by
      have := congrArg List.length hsrc
      rw [List.length_append, List.length_cons] at this
      omega
    refine g_two ca w'.g.i fun cu cv h1 h2 => ?_
    cases h1
    cases h2
    have em : Ex Hi2 Hi'' := (eb.trans ei).trans e'
    have hcells : cL cI (ns.take 60) Hi'' cells := Mo.mo em (Mo.mo e2 hc)
    refine q_oV w' (call_number (x := cell) (t := (at_ : Int)) (n := ((ns.take 60).length : Int)) (ev_var rfl) (ev_var rfl) (ev_lenC (c := cI) (ec_var rfl (Mo.mo w'.ik hcells))) ⟨hcell, by omega, by omega⟩) fun H3 w3 => ?_
    generalize lawNumber cell (at_ : Int) ((ns.take 60).length : Int) = N
    have d1 : ∀ x : Int, CDivW x 36 := divW (by decide) (by decide)
    have d2 : ∀ x : Int, CDivW x 4 := divW (by decide) (by decide)
    refine q_oV w3 (v := .int (m + N % 4 + if N / 36 % 5 = 1 then N / 4 % 9 else 0)) (ev_add (ev_add (ev_var rfl) (ev_mod (ev_var rfl) ev_c (by decide))) (ev_if (b := decide (N / 36 % 5 = 1)) (et_test (ev_eqI (ev_mod (ev_div (ev_var rfl) ev_c (d1 _)) ev_c (by decide)) ev_c)) (fun hb => ev_to (ev_mod (ev_div (ev_var rfl) ev_c (d2 _)) ev_c (by decide)) (by rw [if_pos (by simpa using hb)])) (fun hb => ev_to ev_c (by rw [if_neg (by simpa using hb)])))) fun H4 w4 => ?_
    have hs0 : 1 ≤ (m + N % 4 + if N / 36 % 5 = 1 then N / 4 % 9 else 0) := by split <;> omega
    have hs1 : (m + N % 4 + if N / 36 % 5 = 1 then N / 4 % 9 else 0) ≤ 31 := by split <;> omega
    generalize (m + N % 4 + if N / 36 % 5 = 1 then N / 4 % 9 else 0) = sz at hs0 hs1 ⊢
    refine q_oF w4 (ef_nil (c := cI)) fun q ys Hi5 H5 w5 e5 hne hy => ?_
    cases hy
    have qp : p ≠ q := hne p _ hp
    refine q_oFor w5 (ei_rng (ea_cons (ev_var rfl) ea_nil) (by omega) (by omega)) (fun _ _ _ _ _ p => p) (fun pre2 σ' Ho' Hi' => ∃ y10 N' ys, σ' = [some u, some (.int P), some (.int m), some cells, some (.ref p), some (.int (at_ : Int)), some (.int cell), some (.int N'), some (.int sz), some (.ref q), y10] ∧ Ho' p = some (.lst xs) ∧ Ho' q = some (.lst (ys.map V.int)) ∧ ys.length = pre2.length ∧ ∀ y ∈ ys, 0 ≤ y ∧ y < P)
      (fun _ _ => ⟨y10, N, [], rfl, by rw [upd_ne qp]; exact hp, upd_same, rfl, fun _ h => nomatch h⟩) ?_ ?_
    · rintro Hb2 eb2 pre2 j post2 x2 σ2 Ho6 Hi6 Hi7 H7 hsrc2 ⟨z10, N', ys, rfl, hp6, hq6, yl, yok⟩ ei6 w7 e7 ca2
      cases ca2
      have hpre2 : pre2.length < 31 := by
        have := congrArg List.length hsrc2
        rw [List.length_append, List.length_cons, List.length_range] at this
        omega
      have hj : (j : Int) < 31 := by
        have : j ∈ List.range sz.toNat := by rw [hsrc2]; simp
        have := List.mem_range.mp this
        omega
      have hj0 : (0 : Int) ≤ j := by omega
      have d3 : CDivW N' (64 + (j : Int)) := divW (by omega) (by omega) _
      have d4 : CDivW N' 3 := divW (by decide) (by decide) _
      have m7 : IntMulOk 7 (j : Int) := CMul.ok (.inl ⟨by decide, by decide⟩)
      refine q_oApp w7 hq6 (ev_var rfl) (P := fun v _ => v = .int (N' / (64 + (j : Int)) % P)) (ep_ev (ev_mod (ev_div (ev_var rfl) (ev_add ev_c (ev_var rfl)) d3) (ev_var rfl) (by omega)) rfl) (by rw [List.length_map]; omega) fun z Hi8 H8 w8 e8 hz => ?_
      cases hz
      refine s_oV w8 (ev_add (ev_div (ev_var rfl) ev_c d4) (ev_mul ev_c (ev_var rfl) m7)) fun H9 w9 => ⟨_, Hi8, ⟨some (.int (j : Int)), _, ys ++ [N' / (64 + (j : Int)) % P], rfl, by rw [upd_ne qp]; exact hp6, by rw [upd_same, List.map_append]; rfl, by rw [List.length_append, List.length_append, yl]; rfl, fun y hy => ?_⟩, (ei6.trans e7).trans e8, w9⟩
      rcases List.mem_append.mp hy with h | h
      · exact yok y h
      · rw [List.mem_singleton.mp h]
        exact mod_in _ p1
    · rintro σ2 Ho6 Hi6 H6 ⟨z10, N', ys, rfl, hp6, hq6, yl, yok⟩ ei6 w6
      rw [List.length_range] at yl
      have w7 := w6.know hq6
      have hk : cL cI ys (upd Hi6 q (.lst (ys.map V.int))) (.ref q) := ints_cL upd_same
      have hp7 : del Ho6 q p = some (.lst xs) := by rw [del_at qp]; exact hp6
      have hxs : xs.length ≤ 40000 := by rw [← px.length]; omega
      have ddl := dd_le ys
      refine s_oApp w7 hp7 (ev_var rfl) (EvF.toP (P' := fun v H => ∃ l, cL cI l H v ∧ OkLine P l) (ef_sortedSet (ec_var rfl hk) (by omega) (by omega)) ?_) hxs fun v Hi8 H8 w8 e8 hv => ?_
      · rintro r zs Hs2 _ ⟨l, rfl, h1, h2⟩ _
        exact ⟨l, ints_cL upd_same, line_ok p2 h1 h2 yok (fun z => by rw [z] at yl; simp at yl; omega) (by omega)⟩
      · obtain ⟨l, hl, ok⟩ := hv
        have eAll : Ex Hi' Hi8 := (((e'.trans e5).trans ei6).trans (Ex.new (w6.o q _ hq6).2.1)).trans e8
        refine ⟨_, Hi8, ⟨_, _, _, _, _, _, xs ++ [v], ls ++ [l], rfl, upd_same, Paired.snoc (paired_mo eAll px) hl, by rw [List.length_append, List.length_append, pl]; rfl, fun l' hl' => ?_⟩, ei.trans eAll, w8⟩
        rcases List.mem_append.mp hl' with h | h
        · exact pok l' h
        · rw [List.mem_singleton.mp h]
          exact ok
  · rintro σ' Ho' Hi' H' ⟨y5, y6, y7, y8, y9, y10, xs, ls, rfl, hp, px, pl, pok⟩ ei w'
    refine s_oRetL w' hp (ev_var rfl) ⟨ls, px, ⟨by omega, pok⟩, ?_⟩ k
    rw [pl, hzip, List.length_take]
    omega
theorem call_lines {ns : List Int} {P m : Int} (h1 : EvC ta σ Hs (cS c.K) ns) (h2 : Ev tb σ Hs (.int P)) (h3 : Ev tc σ Hs (.int m)) (hb : Bits ns) (hp : 1 ≤ P ∧ P ≤ 60 ∧ 1 ≤ m ∧ m ≤ 20) :
    EvF (tCall (sp_law_lines c) [] C8.E0 (tCons ta (tCons tb (tCons tc tNil)))) σ Hs fun xs H => ∃ ls, Paired (fun b x => cL cI b H x) ls xs ∧ OkLines P ls ∧ ls.length ≤ ns.length := by
  refine ef_call (as_cons h1 mo_c fun _ e1 => as_cons (c_evI (h2.mono e1)) mo_c fun _ e2 => as_cons (c_evI (h3.mono (e1.trans e2))) mo_c fun _ _ => as_nil) ?_
  rintro vs H1 _ ⟨_, _, rfl, p1, _, _, rfl, p2, _, _, rfl, p3, rfl⟩ H2 e2 Q1 k1
  cases p2
  cases p3
  exact ⟨H1, _, ns, P, m, e2, rfl, p1, hb, hp, k1⟩
/-- a, b = [], [] -/
theorem q_oNil2 {Hs0 H0 Ho Hi : Hp} {i j : Nat} {D : Ends} {tz : TS} (w : Own Hs0 H0 Ho Hi H) (k : ∀ p q H2, Own Hs0 H0 (upd (upd Ho p (.lst [])) q (.lst [])) Hi H2 → p ≠ q → (∀ r u, Ho r = some u → r ≠ p ∧ r ≠ q) → tz D ((σ.set i (some (.ref p))).set j (some (.ref q))) H2) :
    tSeq (tPar i j (tCons (tLst tNil) (tCons (tLst tNil) tNil))) tz D σ H :=
  ⟨Nat.zero_le _, fun p hp => ⟨Nat.zero_le _, fun q hq => ⟨.ref p, .ref q, rfl, by
    have w1 := w.new (Grow.up w.g.i (Ex.new hp)) hp (fresh_back w.g.i hp) (u := .lst []) upd_same
    have w2 := w1.new (Grow.up w1.g.i (Ex.new hq)) hq (fresh_back w1.g.i hq) (u := .lst []) upd_same
    refine k p q _ w2 (w1.ne (q := p) upd_same hq) fun r u hr => ⟨w.ne hr hp, ?_⟩
    have := w.ne hr hp
    exact w1.ne (q := r) (by rw [upd_ne this]; exact hr) hq⟩⟩⟩
theorem nodup_add {hs ms : List Int} {x : Int} (h : (hs ++ ms).Nodup) (hx : x ∉ hs ++ ms) : ((hs ++ [x]) ++ ms).Nodup ∧ (hs ++ (ms ++ [x])).Nodup := by
  have h2 : (hs ++ (ms ++ [x])).Nodup := by
    rw [← List.append_assoc]
    refine List.nodup_append.mpr ⟨h, by simp, fun a ha b hb => ?_⟩
    rw [List.mem_singleton.mp hb]
    exact fun z => hx (z ▸ ha)
  refine ⟨(List.Perm.nodup_iff ?_).mpr h2, h2⟩
  rw [List.append_assoc]
  exact List.Perm.append_left hs List.perm_append_comm
theorem rd_law_takings (h : sp_law_takings c vs H Q E) : t_law_takings c { nx := fun _ H' => Q .non H', rt := Q } (start ["_law_script", "_law_places_here", "_law_by", "_law_cells", "_law_whole", "_law_his", "_law_mine", "_law_k", "_law_place"] vs) H := by
  obtain ⟨Hs, u, ns, P, m, e, rfl, hu, hb, ⟨p1, p2, m1, m2⟩, k⟩ := h
  refine q_oP (P := fun v H => ∃ cs, cL cI cs H v ∧ Bits cs ∧ cs ≠ []) (Own.start e) (EvF.toP (ef_if (PL := fun xs H => ∃ cs, Paired (fun b x => cI b H x) cs xs ∧ Bits cs ∧ cs ≠ []) (b := !decide (ns = [])) (et_test (ev_neNil (ec_var rfl hu))) (fun hn => ?_) (fun _ => ?_)) ?_) fun cells Hi H1 w e1 hc => ?_
  · refine (ef_toS (n := 63) (ec_var rfl hu) ev_c).imp fun xs H _ px => ⟨ns.take 63, px, fun x hx => hb x (List.mem_of_mem_take hx), fun z => ?_⟩
    rw [List.take_eq_nil_iff] at z
    rcases z with z | z
    · cases z
    · rw [z] at hn; simp at hn
  · refine EvF.imp (ef_lst (as_ea (ea_cons ev_c ea_nil)) fun vs H p => by rw [p]; show 1 ≤ 40000; decide) fun xs H _ px => ⟨[3], ?_, ?_, by decide⟩
    · rw [px]
      exact ints_paired [3]
    · intro x hx
      rw [List.mem_singleton.mp hx]
      decide
  · rintro p xs Hs2 _ ⟨cs, px, b1, b2⟩ hp
    exact ⟨cs, ⟨p, xs, rfl, upd_same, paired_mo (Ex.new hp) px⟩, b1, b2⟩
  obtain ⟨cs, hc, bcs, ncs⟩ := hc
  refine q_oV w (ev_sum (ec_var rfl (Mo.mo w.ik hc))) fun H2 w2 => ?_
  generalize cs.sum = W
  refine q_oNil2 w2 fun p q H3 w3 pq _ => ?_
  have d5 : ∀ x : Int, CDivW x 5 := divW (by decide) (by decide)
  have hn := mod_in (W / 5) (P := P + 1) (by omega)
  refine q_oFor w3 (ei_rng (ea_cons (ev_mod (ev_div (ev_var rfl) ev_c (d5 _)) (ev_add (ev_var rfl) ev_c) (by omega)) ea_nil) (by omega) (by omega)) (fun _ _ _ _ _ p => p)
    (fun pre σ' Ho' Hi' => ∃ y7 y8 hs ms, σ' = [some u, some (.int P), some (.int m), some cells, some (.int W), some (.ref p), some (.ref q), y7, y8] ∧ Ho' p = some (.lst (hs.map V.int)) ∧ Ho' q = some (.lst (ms.map V.int)) ∧ hs.length + ms.length ≤ pre.length ∧ (hs ++ ms).Nodup ∧ ∀ x ∈ hs ++ ms, 0 ≤ x ∧ x < P)
    (fun _ _ => ⟨none, none, [], [], rfl, by rw [upd_ne pq]; exact upd_same, upd_same, Nat.le_refl _, List.nodup_nil, fun _ h => nomatch h⟩) ?_ ?_
  · rintro Hb eb pre j post x σ' Ho' Hi' Hi'' H'' hsrc ⟨y7, y8, hs, ms, rfl, hp, hq, hl, hnd, hin⟩ ei w' e' ca
    cases ca
    have hpre : pre.length < 61 := by
      have := congrArg List.length hsrc
      rw [List.length_append, List.length_cons, List.length_range] at this
      omega
    have hj : (j : Int) < 61 := by
      have : j ∈ List.range (W / 5 % (P + 1)).toNat := by rw [hsrc]; simp
      have := List.mem_range.mp this
      omega
    have hcells : cL cI cs (kn Ho' Hi'') cells := Mo.mo w'.ik (Mo.mo (((eb.trans ei).trans e')) hc)
    have hc0 : 0 < cs.length := List.length_pos_iff.mpr ncs
    have hjm : j % cs.length < cs.length := Nat.mod_lt _ hc0
    have hget : cs[j % cs.length]? = some cs[j % cs.length] := List.getElem?_eq_getElem hjm
    have hbit := bcs _ (List.getElem_mem hjm)
    generalize cs[j % cs.length] = x0 at hget hbit
    refine q_oV w' (ev_mod (ev_div (call_number (x := x0) (evI_c (ep_ixL (c := cI) (n := j % cs.length) (ec_var rfl hcells) (ev_to (ev_mod (ev_var rfl) (ev_lenC (c := cI) (ec_var rfl hcells)) (by omega)) (by rw [Int.natCast_emod])) hget)) (ev_add (ev_var rfl) (ev_var rfl)) (ev_lenC (c := cI) (ec_var rfl hcells)) ⟨hbit, by omega, by omega⟩) ev_c (d5 _)) (ev_var rfl) (by omega)) fun H4 w4 => ?_
    generalize lawNumber x0 ((j : Int) + m) (cs.length : Int) / 5 = N
    have hpl := mod_in N p1
    generalize N % P = z at hpl ⊢
    have kp : cL cI hs (kn Ho' Hi'') (.ref p) := ints_cL (kn_at hp)
    have kq : cL cI ms (kn Ho' Hi'') (.ref q) := ints_cL (kn_at hq)
    refine s_oWhen w4 (et_test (ev_notIn (ev_var rfl) (EvF.toC (ef_cat (d := cI) (ec_var rfl kp) (ec_var rfl kq) (by omega))))) (fun hb5 H5 w5 => ?_) (fun hb5 H5 w5 => ?_)
    · have hz : z ∉ hs ++ ms := by simpa using hb5
      obtain ⟨nd1, nd2⟩ := nodup_add hnd hz
      refine s_oIf w5 (et_test (ev_eqI (ev_mod (ev_add (ev_var rfl) (ev_var rfl)) ev_c (by decide)) ev_c)) (fun hb6 H6 w6 => ?_) (fun hb6 H6 w6 => ?_)
      · refine s_oApp w6 hp (ev_var rfl) (P := fun v _ => v = .int z) (ep_ev (ev_var rfl) rfl) (by rw [List.length_map]; omega) fun v Hi7 H7 w7 e7 hv => ?_
        cases hv
        refine ⟨_, Hi7, ⟨_, _, hs ++ [z], ms, rfl, by rw [upd_same, List.map_append]; rfl, by rw [upd_ne pq.symm]; exact hq, by rw [List.length_append, List.length_append, List.length_singleton, List.length_singleton]; omega, nd1, fun x hx => ?_⟩, (ei.trans e').trans e7, w7⟩
        simp only [List.mem_append, List.mem_singleton] at hx
        rcases hx with (h | h) | h
        · exact hin x (List.mem_append_left _ h)
        · rw [h]; exact hpl
        · exact hin x (List.mem_append_right _ h)
      · refine s_oApp w6 hq (ev_var rfl) (P := fun v _ => v = .int z) (ep_ev (ev_var rfl) rfl) (by rw [List.length_map]; omega) fun v Hi7 H7 w7 e7 hv => ?_
        cases hv
        refine ⟨_, Hi7, ⟨_, _, hs, ms ++ [z], rfl, by rw [upd_ne pq]; exact hp, by rw [upd_same, List.map_append]; rfl, by rw [List.length_append, List.length_append, List.length_singleton, List.length_singleton]; omega, nd2, fun x hx => ?_⟩, (ei.trans e').trans e7, w7⟩
        simp only [List.mem_append, List.mem_singleton] at hx
        rcases hx with h | h | h
        · exact hin x (List.mem_append_left _ h)
        · exact hin x (List.mem_append_right _ h)
        · rw [h]; exact hpl
    · exact ⟨Ho', Hi'', ⟨_, _, hs, ms, rfl, hp, hq, by rw [List.length_append]; omega, hnd, hin⟩, ei.trans e', w5⟩
  · rintro σ' Ho' Hi' H' ⟨y7, y8, hs, ms, rfl, hp, hq, hl, hnd, hin⟩ ei w'
    rw [List.length_range] at hl
    have w1 := w'.know hp
    have hq1 : del Ho' p q = some (.lst (ms.map V.int)) := by rw [del_at pq.symm]; exact hq
    have w2 := w1.know hq1
    have kp : cL cI hs (upd (upd Hi' p (.lst (hs.map V.int))) q (.lst (ms.map V.int))) (.ref p) := ints_cL (by rw [upd_ne pq]; exact upd_same)
    have kq : cL cI ms (upd (upd Hi' p (.lst (hs.map V.int))) q (.lst (ms.map V.int))) (.ref q) := ints_cL upd_same
    refine s_oRet w2 ((ep_pair (c := cL cI) (d := cL cI) (ec_var rfl kp) (ec_var rfl kq)).imp fun v H _ hv => ⟨hs, ms, hv, ⟨fun x hx => hin x (List.mem_append_left _ hx), fun x hx => hin x (List.mem_append_right _ hx), hnd, by omega⟩⟩) k
theorem call_takings {ns : List Int} {P m : Int} (h1 : EvC ta σ Hs (cS c.K) ns) (h2 : Ev tb σ Hs (.int P)) (h3 : Ev tc σ Hs (.int m)) (hb : Bits ns) (hp : 1 ≤ P ∧ P ≤ 60 ∧ 0 ≤ m ∧ m ≤ 100) :
    EvP (tCall (sp_law_takings c) [] C8.E0 (tCons ta (tCons tb (tCons tc tNil)))) σ Hs fun v H => ∃ hs ms, cP (cL cI) (cL cI) (hs, ms) H v ∧ OkTake P hs ms := by
  refine ep_call (as_cons h1 mo_c fun _ e1 => as_cons (c_evI (h2.mono e1)) mo_c fun _ e2 => as_cons (c_evI (h3.mono (e1.trans e2))) mo_c fun _ _ => as_nil) ?_
  rintro vs H1 _ ⟨_, _, rfl, p1, _, _, rfl, p2, _, _, rfl, p3, rfl⟩ H2 e2 Q1 k1
  cases p2
  cases p3
  exact ⟨H1, _, ns, P, m, e2, rfl, p1, hb, hp, k1⟩
end
end LH

namespace LH
/-! ### the danger by the law's own sum -/
def blocked (ms l : List Int) : Bool := (l.map fun x => decide (x ∈ ms)).any id
def expsM (ls : List (List Int)) (hs ms : List Int) : List Nat := (ls.filter fun l => !blocked ms l).map fun l => missing l hs
theorem weights_exps (ls : List (List Int)) (hs ms : List Int) : (weightsM ls hs ms).map (fun q => q.2) = (expsM ls hs ms).map fun a => (2 : Int) ^ a := by
  unfold weightsM expsM
  rw [List.map_map, List.map_map]
  rfl
theorem unit_eq {P : Int} {l hs ms : List Int} (hl : (l.length : Int) ≤ P) : unit P l hs ms = if blocked ms l = true then 0 else 2 ^ (P.toNat - missing l hs) := by
  unfold unit blocked
  have := missing_le l hs
  split
  · rfl
  · rw [Int.one_mul]
    congr 1
    omega
theorem sum_units {P : Int} {hs ms : List Int} : ∀ {ls : List (List Int)}, (∀ l ∈ ls, (l.length : Int) ≤ P) → (ls.map fun l => unit P l hs ms).sum = ((expsM ls hs ms).map fun a => (2 : Int) ^ (P.toNat - a)).sum
  | [], _ => rfl
  | l :: r, h => by
    have ih := sum_units (hs := hs) (ms := ms) fun x hx => h x (List.mem_cons_of_mem _ hx)
    rw [List.map_cons, List.sum_cons, ih, unit_eq (h l List.mem_cons_self)]
    unfold expsM
    rw [List.filter_cons]
    cases hb : blocked ms l with
    | true => simp
    | false => simp
theorem zip_units (ls : List (List Int)) (f : List Int → Int) (p : Int) : (((ls.zip (ls.map f)).filter fun q => decide (p ∈ q.1)).map fun q => q.2) = (ls.filter fun l => decide (p ∈ l)).map f := by
  induction ls with
  | nil => rfl
  | cons l r ih =>
    rw [List.map_cons, List.zip_cons_cons, List.filter_cons, List.filter_cons]
    by_cases h : p ∈ l
    · rw [if_pos (by simpa using h), if_pos (by simpa using h), List.map_cons, List.map_cons, ih]
    · rw [if_neg (by simpa using h), if_neg (by simpa using h), ih]
theorem worthU_eq (P : Int) (ls : List (List Int)) (hs ms : List Int) (p : Int) : worthU P ls hs ms p = ((ls.filter fun l => decide (p ∈ l)).map fun l => unit P l hs ms).sum := by
  unfold worthU unitsL
  rw [zip_units]
theorem one_eq (P : Int) : one P = 2 ^ P.toNat := Int.one_mul _
theorem danger_sum {P : Int} {ls : List (List Int)} {hs ms : List Int} (h : ∀ l ∈ ls, (l.length : Int) ≤ P) : lowest ((expsM ls hs ms).map fun a => (2 : Int) ^ (P.toNat - a)).sum (2 ^ P.toNat) = dangerM P ls hs ms := by
  unfold dangerM total unitsL
  rw [sum_units h, one_eq]
theorem weightsM_cons (l : List Int) (r : List (List Int)) (hs ms : List Int) : weightsM (l :: r) hs ms = if blocked ms l = true then weightsM r hs ms else (l.filter fun x => !decide (x ∈ hs), 2 ^ missing l hs) :: weightsM r hs ms := by
  show List.map _ (List.filter (fun l => !blocked ms l) (l :: r)) = _
  rw [List.filter_cons]
  cases hb : blocked ms l with
  | true => rfl
  | false => rfl
theorem expsM_cons (l : List Int) (r : List (List Int)) (hs ms : List Int) : expsM (l :: r) hs ms = if blocked ms l = true then expsM r hs ms else missing l hs :: expsM r hs ms := by
  unfold expsM
  rw [List.filter_cons]
  cases hb : blocked ms l with
  | true => rfl
  | false => rfl
/-- the powers of the lines with a place -/
theorem weights_at {hs ms : List Int} {p : Int} (hp : p ∉ hs) : ∀ ls : List (List Int), ((weightsM ls hs ms).filter fun q => decide (p ∈ q.1)).map (fun q => q.2) = (expsM (ls.filter fun l => decide (p ∈ l)) hs ms).map fun a => (2 : Int) ^ a
  | [] => rfl
  | l :: r => by
    have ih := weights_at (ms := ms) hp r
    rw [weightsM_cons]
    by_cases hm : p ∈ l
    · rw [List.filter_cons_of_pos (p := fun l => decide (p ∈ l)) (by simpa using hm), expsM_cons]
      by_cases hb : blocked ms l = true
      · rw [if_pos hb, if_pos hb]
        exact ih
      · have hq : p ∈ l.filter fun x => !decide (x ∈ hs) := List.mem_filter.mpr ⟨hm, by simpa using hp⟩
        rw [if_neg hb, if_neg hb, List.filter_cons_of_pos (by simpa using hq), List.map_cons, List.map_cons, ih]
    · rw [List.filter_cons_of_neg (p := fun l => decide (p ∈ l)) (by simpa using hm)]
      by_cases hb : blocked ms l = true
      · rw [if_pos hb]
        exact ih
      · have hq : ¬ p ∈ l.filter fun x => !decide (x ∈ hs) := fun z => hm (List.mem_filter.mp z).1
        rw [if_neg hb, List.filter_cons_of_neg (by simpa using hq)]
        exact ih
theorem worth_sum {P : Int} {ls : List (List Int)} {hs ms : List Int} (h : ∀ l ∈ ls, (l.length : Int) ≤ P) (p : Int) : lowest ((expsM (ls.filter fun l => decide (p ∈ l)) hs ms).map fun a => (2 : Int) ^ (P.toNat - a)).sum (2 ^ P.toNat) = lowest (worthU P ls hs ms p) (one P) := by
  rw [worthU_eq, sum_units fun l hl => h l (List.mem_filter.mp hl).1, one_eq]
theorem exps_ok {P : Int} {ls : List (List Int)} {hs ms : List Int} (hf : ls.length ≤ 60) (h : ∀ l ∈ ls, (l.length : Int) ≤ P) : (expsM ls hs ms).length ≤ 60 ∧ ∀ a ∈ expsM ls hs ms, a ≤ P.toNat := by
  unfold expsM
  refine ⟨?_, fun a ha => ?_⟩
  · rw [List.length_map]
    exact Nat.le_trans (List.length_filter_le _ _) hf
  · obtain ⟨l, hl, rfl⟩ := List.mem_map.mp ha
    have h1 := h l (List.mem_filter.mp hl).1
    have h2 := missing_le l hs
    omega
/-! fractions -/
theorem gcdI_dvd_l (u o : Int) : gcdI u o ∣ u := by
  unfold gcdI
  exact Int.dvd_natAbs.mp (Int.ofNat_dvd.mpr (Nat.gcd_dvd_left _ _))
theorem gcdI_dvd_r (u o : Int) : gcdI u o ∣ o := by
  unfold gcdI
  exact Int.dvd_natAbs.mp (Int.ofNat_dvd.mpr (Nat.gcd_dvd_right _ _))
/-- a fraction in lowest terms, undone -/
theorem lowest_back (u : Int) {o : Int} (h : 0 < o) : ∃ k, 0 < k ∧ (lowest u o).1 * k = u ∧ (lowest u o).2 * k = o := by
  refine ⟨gcdI u o, gcd_pos h, ?_, ?_⟩
  · exact Int.ediv_mul_cancel (gcdI_dvd_l u o)
  · exact Int.ediv_mul_cancel (gcdI_dvd_r u o)
theorem lowest_pos (u : Int) {o : Int} (h : 0 < o) : 0 < (lowest u o).2 := by
  obtain ⟨k, h1, _, h3⟩ := lowest_back u h
  by_cases z : 0 < (lowest u o).2
  · exact z
  · exfalso
    have : (lowest u o).2 * k ≤ 0 := Int.mul_nonpos_of_nonpos_of_nonneg (by omega) (by omega)
    omega
theorem lowest_le (u : Int) {o : Int} (h : 0 < o) : (lowest u o).2 ≤ o := by
  obtain ⟨k, h1, _, h3⟩ := lowest_back u h
  have h0 := lowest_pos u h
  have : (lowest u o).2 * 1 ≤ (lowest u o).2 * k := Int.mul_le_mul_of_nonneg_left (by omega) (by omega)
  omega
theorem cross (u v : Int) {o : Int} (h : 0 < o) : (lowest v o).1 * (lowest u o).2 < (lowest u o).1 * (lowest v o).2 ↔ v < u := by
  obtain ⟨k, k0, k1, k2⟩ := lowest_back u h
  obtain ⟨j, j0, j1, j2⟩ := lowest_back v h
  generalize (lowest u o).1 = a at *
  generalize (lowest u o).2 = b at *
  generalize (lowest v o).1 = d at *
  generalize (lowest v o).2 = e at *
  have kj : 0 < k * j := Int.mul_pos k0 j0
  have e1 : d * b * (k * j) = v * o := by rw [← j1, ← k2]; ac_rfl
  have e2 : a * e * (k * j) = u * o := by rw [← k1, ← j2]; ac_rfl
  constructor
  · intro hlt
    have := Int.mul_lt_mul_of_pos_right hlt kj
    rw [e1, e2] at this
    exact Int.lt_of_mul_lt_mul_right this (by omega)
  · intro hlt
    have := Int.mul_lt_mul_of_pos_right hlt h
    rw [← e1, ← e2] at this
    exact Int.lt_of_mul_lt_mul_right this (by omega)
theorem lowest_inj {u v o : Int} (h : 0 < o) (e : lowest u o = lowest v o) : u = v := by
  have h1 := cross u v h
  have h2 := cross v u h
  rw [e] at h1 h2
  omega
theorem lowest_lt (u : Int) {o : Int} (h : 0 < o) : ((lowest u o).1 < (lowest u o).2 ↔ u < o) ∧ (2 * (lowest u o).1 < (lowest u o).2 ↔ 2 * u < o) := by
  obtain ⟨k, k0, k1, k2⟩ := lowest_back u h
  generalize (lowest u o).1 = a at *
  generalize (lowest u o).2 = b at *
  have key : ∀ x : Int, (x < b ↔ x * k < o) := fun x => by
    rw [← k2]
    exact ⟨fun hlt => Int.mul_lt_mul_of_pos_right hlt k0, fun hlt => Int.lt_of_mul_lt_mul_right hlt (by omega)⟩
  refine ⟨?_, ?_⟩
  · rw [key, k1]
  · rw [key, Int.mul_assoc, k1]
/-! the best -/
/-- the first of the greatest -/
structure First (w : Nat → Int) (l : List Nat) (q : Nat) : Prop where
  mem : q ∈ l
  ge : ∀ r ∈ l, w r ≤ w q
  fst : ∀ r ∈ l, r < q → w r < w q
theorem pick_first (w : Nat → Int) : ∀ (l pre : List Nat) (o : Option Nat), (pre ++ l).Pairwise (· < ·) → (match o with | none => pre = [] | some q => First w pre q) →
    match l.foldl (pick w) o with | none => pre ++ l = [] | some q => First w (pre ++ l) q
  | [], pre, o, _, h => by
    rw [List.append_nil]
    exact h
  | x :: l, pre, o, hp, h => by
    have e : pre ++ x :: l = (pre ++ [x]) ++ l := by simp
    rw [e] at hp ⊢
    have hlt : ∀ r ∈ pre, r < x := by
      have := (List.pairwise_append.mp (List.pairwise_append.mp hp).1).2.2
      exact fun r hr => this r hr x (List.mem_singleton.mpr rfl)
    refine pick_first w l (pre ++ [x]) (pick w o x) hp ?_
    cases o with
    | none =>
      have h' : pre = [] := h
      subst h'
      exact ⟨by simp, fun r hr => by simp at hr; rw [hr]; omega, fun r hr hrx => by simp at hr; omega⟩
    | some q =>
      have h' : First w pre q := h
      show match (if w q < w x then some x else some q) with | none => pre ++ [x] = [] | some q => First w (pre ++ [x]) q
      by_cases c : w q < w x
      · rw [if_pos c]
        refine ⟨by simp, fun r hr => ?_, fun r hr hrx => ?_⟩
        · rcases List.mem_append.mp hr with z | z
          · have := h'.ge r z; omega
          · rw [List.mem_singleton.mp z]; omega
        · rcases List.mem_append.mp hr with z | z
          · have := h'.ge r z; omega
          · rw [List.mem_singleton.mp z] at hrx; omega
      · rw [if_neg c]
        refine ⟨by simp [h'.mem], fun r hr => ?_, fun r hr hrx => ?_⟩
        · rcases List.mem_append.mp hr with z | z
          · exact h'.ge r z
          · rw [List.mem_singleton.mp z]; omega
        · rcases List.mem_append.mp hr with z | z
          · exact h'.fst r z hrx
          · rw [List.mem_singleton.mp z] at hrx
            have := hlt q h'.mem
            omega
theorem free_sorted (P : Int) (hs ms : List Int) : (freeP P hs ms).Pairwise (· < ·) := List.Pairwise.filter _ List.pairwise_lt_range
theorem best_first {P : Int} {ls : List (List Int)} {hs ms : List Int} {q : Nat} (h : bestM P ls hs ms = some q) : First (fun p => worthU P ls hs ms (p : Int)) (freeP P hs ms) q := by
  have := pick_first (fun p => worthU P ls hs ms (p : Int)) (freeP P hs ms) [] none (free_sorted P hs ms) rfl
  unfold bestM at h
  rw [h] at this
  exact this
theorem worths_at (P : Int) (ls : List (List Int)) (hs ms : List Int) {p : Nat} (h : p < P.toNat) : (worthsM P ls hs ms)[p]? = some (if p ∈ freeP P hs ms then some (lowest (worthU P ls hs ms (p : Int)) (one P)) else none) := by
  unfold worthsM
  rw [List.getElem?_map, List.getElem?_range h]
  rfl
/-- the best place is the first of the greatest worth -/
theorem best_index {P : Int} {ls : List (List Int)} {hs ms : List Int} {q : Nat} (h : bestM P ls hs ms = some q) :
    (worthsM P ls hs ms)[q]? = some (some (lowest (worthU P ls hs ms (q : Int)) (one P))) ∧ ∀ m < q, (worthsM P ls hs ms)[m]? ≠ some (some (lowest (worthU P ls hs ms (q : Int)) (one P))) := by
  have F := best_first h
  have hq : q < P.toNat := List.mem_range.mp (List.mem_filter.mp F.mem).1
  refine ⟨by rw [worths_at P ls hs ms hq, if_pos F.mem], fun m hm z => ?_⟩
  rw [worths_at P ls hs ms (by omega)] at z
  by_cases hf : m ∈ freeP P hs ms
  · rw [if_pos hf] at z
    have := lowest_inj (one_pos P) (Option.some.inj (Option.some.inj z))
    have := F.fst m hf hm
    omega
  · rw [if_neg hf] at z
    cases z
/-! full lines -/
theorem fullL_eq (ls : List (List Int)) (hs : List Int) : fullL ls hs = fullM ls hs := by
  unfold fullL fullM
  congr 1
  congr 1
  funext q
  unfold missing
  rw [List.all_map]
  by_cases h : ∀ x ∈ q.2, x ∈ hs
  · rw [show (q.2.all (id ∘ fun x => decide (x ∈ hs))) = true from List.all_eq_true.mpr fun x hx => decide_eq_true (h x hx)]
    rw [List.filter_eq_nil_iff.mpr fun x hx => by simpa using h x hx]
    rfl
  · obtain ⟨x, hx, hn⟩ : ∃ x ∈ q.2, x ∉ hs := by
      rcases Classical.not_forall.mp h with ⟨x, hx⟩
      exact ⟨x, by simpa using hx⟩
    rw [show (q.2.all (id ∘ fun x => decide (x ∈ hs))) = false from Bool.eq_false_iff.mpr fun z => hn (by simpa using List.all_eq_true.mp z x hx)]
    symm
    rw [decide_eq_false_iff_not]
    intro z
    have : (q.2.filter fun x => !decide (x ∈ hs)).length = 0 := by omega
    have e := List.length_eq_zero_iff.mp this
    have : x ∈ q.2.filter fun x => !decide (x ∈ hs) := List.mem_filter.mpr ⟨hx, by simpa using hn⟩
    rw [e] at this
    cases this
end LH

namespace LH
open PySem L2 Evl PyProof.Rows
/-! ### the looks at a play, called -/
abbrev EvPlay (ta : TA) (σ : L2.St) (Hs : Hp) (P : Int) (ls : List (List Int)) (hs ms : List Int) : Prop := EvAs ta σ Hs fun vs H => ∀ H2, Ex H H2 → Play H H2 (vs ++ []) P ls hs ms
instance : Dt cN where
  d := fun n => .int (n : Int)
  dp := fun h => by cases h; exact .int _
  lay := fun _ => by simp only [PyData.canLay0]
  dep := 0
  depth := fun _ => by simp [PyData.depth]
  eqv := fun a b => by
    simp [PyData.eqv]
    omega
theorem u65 {k : Nat} {A : Around} (r : Room k A) : A.units + 65 < cLine := by have := r.un; omega
section
variable {c : Cn} {vs : List V} {H : Hp} {Q : VK} {E : XK} {σ : L2.St} {Hs Hs0 H0 Ho Hi : Hp} {ta tb tc td te : TE} {targ : TA} {P : Int} {ls : List (List Int)} {hs ms : List Int} {K : PySem.W.Frag}
theorem pl_h (h0 : Ev ta σ Hs (.int P)) (hh : EvC tb σ Hs (cL3 (cL (cL cI)) (cL cI) (cL cI)) (ls, hs, ms)) (b : Board P ls hs ms) :
    EvPlay (tCons ta (tCons (tOp (rIx K) tb (tC (.int 0))) (tCons (tOp (rIx K) tb (tC (.int 1))) (tCons (tOp (rIx K) tb (tC (.int 2))) tNil)))) σ Hs P ls hs ms := as_play h0 (ep_l31 hh ev_c) (ep_l32 hh ev_c) (ep_l33 hh ev_c) b
theorem pl_b (h0 : Ev ta σ Hs (.int P)) (hh : EvC tb σ Hs (cP3 (cL (cL cI)) (cL cI) (cL cI)) (ls, hs, ms)) (b : Board P ls hs ms) :
    EvPlay (tCons ta (tCons (tOp (rIx K) tb (tC (.int 0))) (tCons (tOp (rIx K) tb (tC (.int 1))) (tCons (tOp (rIx K) tb (tC (.int 2))) tNil)))) σ Hs P ls hs ms := as_play h0 (ep_t31 hh ev_c) (ep_t32 hh ev_c) (ep_t33 hh ev_c) b
theorem call_danger (h : EvPlay targ σ Hs P ls hs ms) : EvC (tCall (sp_danger c) [] C8.E0 targ) σ Hs (cP cI cI) (dangerM P ls hs ms) := ep_call h fun _ H1 _ p H2 e2 _ k => ⟨H1, P, ls, hs, ms, p H2 e2, k⟩
theorem call_worths (h : EvPlay targ σ Hs P ls hs ms) : EvFC (tCall (sp_worths c) [] C8.E0 targ) σ Hs (cO (cP cI cI)) (worthsM P ls hs ms) := ef_call h fun _ H1 _ p H2 e2 _ k => ⟨H1, P, ls, hs, ms, p H2 e2, k⟩
theorem call_sure (h : EvPlay targ σ Hs P ls hs ms) : EvC (tCall (sp_sure c) [] C8.E0 targ) σ Hs (cP cB cB) (sureM P ls hs ms) := ep_call h fun _ H1 _ p H2 e2 _ k => ⟨H1, P, ls, hs, ms, p H2 e2, k⟩
theorem call_best (h : EvPlay targ σ Hs P ls hs ms) : Ev (tCall (sp_best c) [] C8.E0 targ) σ Hs (oV (bestM P ls hs ms)) := ev_callS h fun _ H1 _ p H2 e2 _ k => ⟨H1, P, ls, hs, ms, p H2 e2, k⟩
theorem call_full (h : EvPlay targ σ Hs P ls hs ms) : EvFC (tCall (sp_full c) [] C8.E0 targ) σ Hs cN (fullM ls hs) := ef_call h fun _ H1 _ p H2 e2 _ k => ⟨H1, P, ls, hs, ms, p H2 e2, k⟩
theorem Own.m {α : Type} {d : Cd α} [Mo d] {a : α} {v : V} (w : Own Hs0 H0 Ho Hi H) (h : d a Hi v) : d a (kn Ho Hi) v := Mo.mo w.ik h
theorem Own.l {α : Type} {d : Cd α} [Mo d] {l : List α} {xs : List V} {p : Addr} (w : Own Hs0 H0 Ho Hi H) (hp : Ho p = some (.lst xs)) (px : Paired (fun b x => d b Hi x) l xs) : cL d l (kn Ho Hi) (.ref p) := ⟨p, xs, rfl, kn_at hp, paired_mo w.ik px⟩
theorem q_oTwo {α β : Type} {d : Cd α} {f : Cd β} {i j : Nat} {D : Ends} {tz : TS} {ab : α × β} (w : Own Hs0 H0 Ho Hi H) (h : EvC te σ Hi (cP d f) ab) (k : ∀ u v Hi2 H2, Own Hs0 H0 Ho Hi2 H2 → Ex Hi Hi2 → d ab.1 Hi2 u → f ab.2 Hi2 v → tz D ((σ.set i (some u)).set j (some v)) H2) :
    tSeq (tAsg te (gTup K 2 (gCons (gName i) (gCons (gName j) gNil)))) tz D σ H := q_two h w.g.i fun u v H2 Hi2 g cu cv => k u v Hi2 H2 (w.on g) g.s cu cv
theorem ev_index {α : Type} {d : Cd α} [Mo d] [Dt d] [DecidableEq α] {l : List α} {a : α} {j : Nat} (ha : EvC ta σ Hs (cL d) l) (hb : EvC tb σ Hs d a) (hj : l[j]? = some a) (hn : ∀ m < j, l[m]? ≠ some a) (hd : Dt.dep (cL d) ≤ 64 := by decide) :
    Ev (tBM K "list" (rIndexD K) ta (tCons tb tNil)) σ Hs (.int (j : Nat)) := fun H e Q q => ha H e _ fun v H2 Hs2 g ⟨p, xs, h1, h2, h3⟩ => by
  subst h1
  refine ⟨.inl ⟨rfl, xs, sq_ex g.i h2⟩, (EvC.lift hb g.s) H2 g.i _ fun y H3 Hs3 g3 cy => ?_⟩
  have hl : cL d l H3 (.ref p) := ⟨p, xs, rfl, g3.i _ _ (g3.s _ _ h2), paired_mo (g3.s.trans g3.i) h3⟩
  have hy : d a H3 y := Mo.mo g3.i cy
  have hd0 : Dt.dep d ≤ 64 := by
    have : Dt.dep (cL d) = Dt.dep d + 1 := rfl
    omega
  refine ⟨p, y, Dt.d d a, l.map (Dt.d d), j, Dt.d d a, rfl, rfl, Dt.dp (c := cL d) hl, Dt.dp hy, shaped_of (c := cL d) hd l, shaped_of hd0 a, by rw [List.getElem?_map, hj]; rfl, by rw [dt_dec]; exact decide_eq_true rfl, fun m z hm hz => ?_, q H3 (g.b.trans g3.b)⟩
  rw [List.getElem?_map] at hz
  cases hlm : l[m]? with
  | none => rw [hlm] at hz; cases hz
  | some x =>
    rw [hlm] at hz
    cases Option.some.inj hz
    rw [dt_dec]
    exact decide_eq_false fun z => hn m hm (by rw [hlm, z])
theorem oV_cW {H : Hp} : ∀ o : Option Nat, ∃ d : Wd, cW d H (oV o) ∧ isTy "bool" d = false
  | none => ⟨.non, .non, by with_unfolding_all rfl⟩
  | some p => ⟨.int (p : Int), .int _, by with_unfolding_all rfl⟩
end
end LH

namespace LH
open PySem L2 Evl PyProof.Rows
def sp_law_right (_ : Cn) : Sp := fun vs H Q _ => ∃ (Hs : Hp) (P : Int) (ls : List (List Int)) (hs ms : List Int), Play Hs H vs P ls hs ms ∧ RetV (.bl true) H Q
def t_law_right (c : Cn) : TS := (tSeq (tAsg (tLst (tCons (tLc (iList c.K (tVar 1)) (gName 5) tYes (tCB (rListA c.K) (tCons (tVar 5) tNil)) [5]) (tCons (tCB (rListA c.K) (tCons (tVar 2) tNil)) (tCons (tCB (rListA c.K) (tCons (tVar 3) tNil)) tNil)))) (gName 4)) (tSeq (tAsg (tCall (sp_law_weights c) [] C8.E0 (tCons (tVar 1) (tCons (tVar 2) (tCons (tVar 3) tNil)))) (gName 6)) (tSeq (tAsg (tCall (sp_law_sum c) [] C8.E0 (tCons (tLc (iList c.K (tVar 6)) (gTup c.K 2 (gCons (gName 8) (gCons (gName 9) gNil))) tYes (tVar 9) [8, 9]) tNil)) (gName 7)) (tSeq (tAsg (tCall (sp_danger c) [] C8.E0 (tCons (tVar 0) (tCons (tOp (rIx c.K) (tVar 4) (tC (.int 0))) (tCons (tOp (rIx c.K) (tVar 4) (tC (.int 1))) (tCons (tOp (rIx c.K) (tVar 4) (tC (.int 2))) tNil))))) (gName 10)) (tSeq (tIfS (tOr (tNot (tB (tCall (sp_law_fraction c) [] C8.E0 (tCons (tVar 10) tNil)))) (tOr (tTest (tOp (rNeA c.K) (tVar 10) (tVar 7))) (tTest (tOp (rNeA c.K) (tVar 4) (tLst (tCons (tVar 1) (tCons (tVar 2) (tCons (tVar 3) tNil)))))))) (tRet (tC (.bl false))) tNext) (tSeq (tAsg (tCall (sp_worths c) [] C8.E0 (tCons (tVar 0) (tCons (tOp (rIx c.K) (tVar 4) (tC (.int 0))) (tCons (tOp (rIx c.K) (tVar 4) (tC (.int 1))) (tCons (tOp (rIx c.K) (tVar 4) (tC (.int 2))) tNil))))) (gName 11)) (tSeq (tIfS (tOr (tNot (tB (tCB (rIsi c.K) (tCons (tVar 11) (tCons (tC (.ty "list")) tNil))))) (tTest (tOp (rNeA c.K) (tCB (rLenA c.K) (tCons (tVar 11) tNil)) (tVar 0)))) (tRet (tC (.bl false))) tNext) (tSeq (tAsg (tTup (tCons (tC .non) (tCons (tUn rNegU (tC (.int 1))) tNil))) (gTup c.K 2 (gCons (gName 12) (gCons (gName 13) gNil)))) (tSeq (tFor (iRng1 (tCons (tVar 0) tNil)) (gName 14) (tIfS (tOr (tTest (tOp (rIn c.K false) (tVar 14) (tVar 2))) (tTest (tOp (rIn c.K false) (tVar 14) (tVar 3)))) (tIfS (tTest (tOp rNotN (tOp (rIx c.K) (tVar 11) (tVar 14)) (tC .non))) (tRet (tC (.bl false))) tNext) (tSeq (tAsg (tCall (sp_law_sum c) [] C8.E0 (tCons (tLc (iList c.K (tVar 6)) (gTup c.K 2 (gCons (gName 8) (gCons (gName 9) gNil))) (tTest (tOp (rIn c.K false) (tVar 14) (tVar 8))) (tVar 9) [8, 9]) tNil)) (gName 15)) (tSeq (tIfS (tOr (tNot (tB (tCall (sp_law_fraction c) [] C8.E0 (tCons (tOp (rIx c.K) (tVar 11) (tVar 14)) tNil)))) (tTest (tOp (rNeA c.K) (tOp (rIx c.K) (tVar 11) (tVar 14)) (tVar 15)))) (tRet (tC (.bl false))) tNext) (tIfS (tOr (tTest (tOp rIsN (tVar 12) (tC .non))) (tTest (tOp rGtI (tOp rMulI (tOp (rIx c.K) (tVar 15) (tC (.int 0))) (tVar 13)) (tOp rMulI (tOp (rIx c.K) (tVar 12) (tC (.int 0))) (tOp (rIx c.K) (tVar 15) (tC (.int 1))))))) (tPar 12 13 (tCons (tVar 15) (tCons (tOp (rIx c.K) (tVar 15) (tC (.int 1))) tNil))) tNext))))) (tSeq (tAsg (tCall (sp_best c) [] C8.E0 (tCons (tVar 0) (tCons (tOp (rIx c.K) (tVar 4) (tC (.int 0))) (tCons (tOp (rIx c.K) (tVar 4) (tC (.int 1))) (tCons (tOp (rIx c.K) (tVar 4) (tC (.int 2))) tNil))))) (gName 14)) (tSeq (tIfS (tOr (tTest (tOp (rNeA c.K) (tVar 14) (tIf (tTest (tOp rIsN (tVar 12) (tC .non))) (tC .non) (tBM c.K "list" (rIndexD c.K) (tVar 11) (tCons (tVar 12) tNil))))) (tB (tCB (rIsi c.K) (tCons (tVar 14) (tCons (tC (.ty "bool")) tNil))))) (tRet (tC (.bl false))) tNext) (tSeq (tAsg (tCall (sp_sure c) [] C8.E0 (tCons (tVar 0) (tCons (tOp (rIx c.K) (tVar 4) (tC (.int 0))) (tCons (tOp (rIx c.K) (tVar 4) (tC (.int 1))) (tCons (tOp (rIx c.K) (tVar 4) (tC (.int 2))) tNil))))) (gName 16)) (tSeq (tIfS (tOr (tNot (tB (tCB (rIsi c.K) (tCons (tVar 16) (tCons (tC (.ty "tuple")) tNil))))) (tTest (tOp (rNeA c.K) (tVar 16) (tTup (tCons (tOp rLtI (tOp (rIx c.K) (tVar 7) (tC (.int 0))) (tOp (rIx c.K) (tVar 7) (tC (.int 1)))) (tCons (tOp rLtI (tOp rMulI (tC (.int 2)) (tOp (rIx c.K) (tVar 7) (tC (.int 0)))) (tOp (rIx c.K) (tVar 7) (tC (.int 1)))) tNil)))))) (tRet (tC (.bl false))) tNext) (tSeq (tIfS (tNot (tB (tCB (rAll c.K) (tCons (tLc (iTup c.K (tVar 16)) (gName 17) tYes (tCB (rIsi c.K) (tCons (tVar 17) (tCons (tC (.ty "bool")) tNil))) [17]) tNil)))) (tRet (tC (.bl false))) tNext) (tSeq (tAsg (tCall (sp_full c) [] C8.E0 (tCons (tVar 0) (tCons (tOp (rIx c.K) (tVar 4) (tC (.int 0))) (tCons (tOp (rIx c.K) (tVar 4) (tC (.int 1))) (tCons (tOp (rIx c.K) (tVar 4) (tC (.int 2))) tNil))))) (gName 18)) (tSeq (tIfS (tOr (tNot (tB (tCB (rIsi c.K) (tCons (tVar 18) (tCons (tC (.ty "list")) tNil))))) (tOr (tTest (tOp (rNeA c.K) (tVar 18) (tCall (sp_law_full c) [] C8.E0 (tCons (tVar 1) (tCons (tVar 2) tNil))))) (tTest (tOp (rNeA c.K) (tVar 4) (tLst (tCons (tVar 1) (tCons (tVar 2) (tCons (tVar 3) tNil)))))))) (tRet (tC (.bl false))) tNext) (tSeq (tDrop (tBM c.K "list" rAppend (tVar 11) (tCons (tC .non) tNil))) (tSeq (tDrop (tBM c.K "list" rAppend (tVar 18) (tCons (tC (.int 0)) tNil))) (tSeq (tAsg (tLst (tCons (tCall (sp_worths c) [] C8.E0 (tCons (tVar 0) (tCons (tOp (rIx c.K) (tVar 4) (tC (.int 0))) (tCons (tOp (rIx c.K) (tVar 4) (tC (.int 1))) (tCons (tOp (rIx c.K) (tVar 4) (tC (.int 2))) tNil))))) (tCons (tCall (sp_full c) [] C8.E0 (tCons (tVar 0) (tCons (tOp (rIx c.K) (tVar 4) (tC (.int 0))) (tCons (tOp (rIx c.K) (tVar 4) (tC (.int 1))) (tCons (tOp (rIx c.K) (tVar 4) (tC (.int 2))) tNil))))) tNil))) (gName 19)) (tRet (tOp (rEqA c.K) (tVar 19) (tLst (tCons (tSl (rSlL c.K) (tVar 11) tNoPart (tPart (tUn rNegU (tC (.int 1))))) (tCons (tSl (rSlL c.K) (tVar 18) tNoPart (tPart (tUn rNegU (tC (.int 1))))) tNil))))))))))))))))))))))))
/-- the best among the first so many -/
def bestTo (P : Int) (ls : List (List Int)) (hs ms : List Int) (pre : List Nat) : Option Nat := (pre.filter fun (p : Nat) => !decide ((p : Int) ∈ hs) && !decide ((p : Int) ∈ ms)).foldl (pick fun p => worthU P ls hs ms (p : Int)) none
theorem bestTo_snoc (P : Int) (ls : List (List Int)) (hs ms : List Int) (pre : List Nat) (p : Nat) : bestTo P ls hs ms (pre ++ [p]) = if (!decide ((p : Int) ∈ hs) && !decide ((p : Int) ∈ ms)) = true then pick (fun p => worthU P ls hs ms (p : Int)) (bestTo P ls hs ms pre) p else bestTo P ls hs ms pre := by
  unfold bestTo
  rw [List.filter_append, List.foldl_append, List.filter_cons]
  split <;> rfl
def wo (P : Int) (ls : List (List Int)) (hs ms : List Int) (q : Nat) : Int × Int := lowest (worthU P ls hs ms (q : Int)) (one P)
section
variable {c : Cn} {vs : List V} {H : Hp} {Q : VK} {E : XK}
theorem rd_law_right (h : sp_law_right c vs H Q E) : t_law_right c { nx := fun _ H' => Q .non H', rt := Q } (start ["_law_places_here", "_law_lines_here", "_law_his", "_law_mine", "_law_handed", "_law_line", "_law_weighed", "_law_due", "_law_free", "_law_power_here", "_law_found", "_law_much", "_law_greatest", "_law_far", "_law_place", "_law_worth", "_law_said", "_law_one", "_law_whole", "_law_again"] vs) H := by
  obtain ⟨Hs, P, ls, hs, ms, ⟨u, v, w_, e, rfl, h1, h2, h3, b⟩, k⟩ := h
  have hz : ls.length ≤ 60 ∧ ∀ l ∈ ls, l.length ≤ 60 := ⟨b.l.few, fun l hl => (b.l.ok l hl).few⟩
  have hle : ∀ l ∈ ls, (l.length : Int) ≤ P := fun l hl => (b.l.ok l hl).len
  have hP := b.p
  have hf := b.t.few
  have hone : (0 : Int) < one P := one_pos P
  have hone2 := one_le hP.2
  refine q_oP (Own.start e) (ep_lst3 (c := cL (cL cI)) (d := cL cI) (f := cL cI) (a := ls.map fun l => l) (b := hs) (g := ms) (EvF.toC (ef_mapN (d := cL cI) (ei_list (ec_var rfl h1)) (fun l => l) (by omega) fun a x Hs' ha e' ca => EvF.toC (ef_list (c := cI) (ec_var rfl ca)))) (EvF.toC (ef_list (c := cI) (ec_var rfl h2))) (EvF.toC (ef_list (c := cI) (ec_var rfl h3)))) fun hd Hi H2 w e1 hh => ?_
  rw [List.map_id'] at hh
  replace h1 := Mo.mo e1 h1
  replace h2 := Mo.mo e1 h2
  replace h3 := Mo.mo e1 h3
  refine q_oP w (EvF.toC (call_weights (ec_var rfl h1) (ec_var rfl h2) (ec_var rfl h3) hz)) fun wg Hi2 H3 w e2 hw => ?_
  replace h1 := Mo.mo e2 h1
  replace h2 := Mo.mo e2 h2
  replace h3 := Mo.mo e2 h3
  replace hh := Mo.mo e2 hh
  have hwl : (weightsM ls hs ms).length ≤ 60 := Nat.le_trans (weightsM_len ls hs ms) hz.1
  obtain ⟨x1, x2⟩ := exps_ok (hs := hs) (ms := ms) hz.1 hle
  refine q_oP w (call_sum (as := expsM ls hs ms) (P := P.toNat) (weights_exps ls hs ms ▸ EvF.toC (ef_mapT (d := cI) (c1 := cL cI) (c2 := cI) (ei_list (ec_var rfl hw)) (fun q => q.2) (by omega) fun a u v Hs' ha e' hu hv => ec_var rfl hv)) ⟨by omega, x1, x2⟩) fun du Hi3 H4 w e3 hdue => ?_
  rw [danger_sum hle] at hdue
  replace h1 := Mo.mo e3 h1
  replace h2 := Mo.mo e3 h2
  replace h3 := Mo.mo e3 h3
  replace hh := Mo.mo e3 hh
  replace hw := Mo.mo e3 hw
  refine q_oP w (call_danger (pl_h (ev_var rfl) (ec_var rfl hh) b)) fun fo Hi4 H5 w e4 hfo => ?_
  replace h1 := Mo.mo e4 h1
  replace h2 := Mo.mo e4 h2
  replace h3 := Mo.mo e4 h3
  replace hh := Mo.mo e4 hh
  replace hw := Mo.mo e4 hw
  replace hdue := Mo.mo e4 hdue
  refine q_oNo w (EvT_to (et_or (et_not (et_B (call_fraction (ec_var rfl (w.m hfo))))) fun _ => et_or (et_test (ev_neC (c := cP cI cI) (ec_var rfl (w.m hfo)) (ec_var rfl (w.m hdue)))) fun _ => et_test (ev_neC (c := cL3 (cL (cL cI)) (cL cI) (cL cI)) (a' := (ls, hs, ms)) (ec_var rfl (w.m hh)) (ep_lst3 (ec_var rfl (w.m h1)) (ec_var rfl (w.m h2)) (ec_var rfl (w.m h3))))) (by simp)) fun H6 w => ?_
  refine q_oF w (call_worths (pl_h (ev_var rfl) (ec_var rfl hh) b)) fun p xs Hi5 H7 w e5 _ px => ?_
  replace h1 := Mo.mo e5 h1
  replace h2 := Mo.mo e5 h2
  replace h3 := Mo.mo e5 h3
  replace hh := Mo.mo e5 hh
  replace hw := Mo.mo e5 hw
  replace hdue := Mo.mo e5 hdue
  have hp : upd emp p (.lst xs) p = some (.lst xs) := upd_same
  have hwlen : ((worthsM P ls hs ms).length : Int) = P := by
    unfold worthsM
    rw [List.length_map, List.length_range]
    omega
  refine q_oNo w (EvT_to (et_or (et_not (et_B (ev_isList (d := cO (cP cI cI)) (ec_var rfl (w.l hp px))))) fun _ => et_test (ev_neI (ev_lenC (c := cO (cP cI cI)) (ec_var rfl (w.l hp px))) (ev_var rfl))) (by rw [hwlen]; simp)) fun H8 w => ?_
  refine q_oTwo (d := cO (cP cI cI)) (f := cI) (ab := (none, -1)) w (ep_pair (c := cO (cP cI cI)) (d := cI) (ep_ev ev_c rfl) (c_evI (ev_neg ev_c))) fun gr fa Hi6 H9 w e6 cgr cfa => ?_
  cases cfa
  have px6 := paired_mo (c := cO (cP cI cI)) e6 px
  replace h1 := Mo.mo e6 h1
  replace h2 := Mo.mo e6 h2
  replace h3 := Mo.mo e6 h3
  replace hh := Mo.mo e6 hh
  replace hw := Mo.mo e6 hw
  replace hdue := Mo.mo e6 hdue
  refine q_oFor w (ei_rng (ea_cons (ev_var rfl) ea_nil) (by omega) (by omega)) (fun _ _ _ _ _ p => p)
    (fun pre σ' Ho' Hi' => ∃ y14 y15 g, σ' = [some (.int P), some u, some v, some w_, some hd, none, some wg, some du, none, none, some fo, some (.ref p), some g, some (.int (match bestTo P ls hs ms pre with | none => -1 | some q => (wo P ls hs ms q).2)), y14, y15, none, none, none, none] ∧ Ho' p = some (.lst xs) ∧ cO (cP cI cI) ((bestTo P ls hs ms pre).map (wo P ls hs ms)) Hi' g)
    (fun _ e7 => ⟨none, none, gr, rfl, hp, Mo.mo e7 cgr⟩) ?_ ?_
  · rintro Hb eb pre q post x σ' Ho' Hi' Hi'' H'' hsrc ⟨y14, y15, g, rfl, hp', cg⟩ ei w' e' ca
    cases ca
    have hq : q < P.toNat := by
      have : q ∈ List.range P.toNat := by rw [hsrc]; simp
      exact List.mem_range.mp this
    have em : Ex Hi6 Hi'' := (eb.trans ei).trans e'
    have k2 := w'.m (Mo.mo em h2)
    have k3 := w'.m (Mo.mo em h3)
    have hmuch := w'.l hp' (paired_mo (c := cO (cP cI cI)) em px6)
    have hat := worths_at P ls hs ms hq
    have hfr : q ∈ freeP P hs ms ↔ (!decide ((q : Int) ∈ hs) && !decide ((q : Int) ∈ ms)) = true := by
      unfold freeP
      rw [List.mem_filter]
      exact ⟨fun z => z.2, fun z => ⟨List.mem_range.mpr hq, z⟩⟩
    refine s_oIf w' (et_or (et_test (ev_in (ev_var rfl) (ec_var rfl k2))) fun _ => et_test (ev_in (ev_var rfl) (ec_var rfl k3))) (fun hb H10 w'' => ?_) (fun hb H10 w'' => ?_)
    · have hnf : ¬ (!decide ((q : Int) ∈ hs) && !decide ((q : Int) ∈ ms)) = true := by
        simp only [Bool.or_eq_true, decide_eq_true_eq] at hb
        simp only [Bool.and_eq_true, Bool.not_eq_true', decide_eq_false_iff_not]
        exact fun z => hb.elim z.1 z.2
      rw [if_neg fun z => hnf (hfr.mp z)] at hat
      refine s_oWhen w'' (b := false) (EvT_to (et_test (ev_notNP (b := true) (ep_ixL (c := cO (cP cI cI)) (n := q) (ec_var rfl hmuch) (ev_var rfl) hat) fun v H hv => ?_)) rfl) (fun z => nomatch z) (fun _ H11 w3 => ?_)
      · exact decide_eq_true hv
      · refine ⟨Ho', Hi'', ⟨some (.int (q : Int)), y15, g, ?_, hp', ?_⟩, ei.trans e', w3⟩
        · rw [bestTo_snoc, if_neg hnf]
          rfl
        · rw [bestTo_snoc, if_neg hnf]
          exact Mo.mo e' cg
    · have hfree : (!decide ((q : Int) ∈ hs) && !decide ((q : Int) ∈ ms)) = true := by
        rw [Bool.or_eq_false_iff] at hb
        rw [hb.1, hb.2]
        rfl
      have hqh : (q : Int) ∉ hs := by
        have := (Bool.or_eq_false_iff.mp hb).1
        simpa using this
      rw [if_pos (hfr.mpr hfree)] at hat
      have hexp := exps_ok (P := P) (ls := ls.filter fun l => decide ((q : Int) ∈ l)) (hs := hs) (ms := ms) (Nat.le_trans (List.length_filter_le _ _) hz.1) fun l hl => hle l (List.mem_filter.mp hl).1
      refine q_oP w'' (call_sum (as := expsM (ls.filter fun l => decide ((q : Int) ∈ l)) hs ms) (P := P.toNat) (weights_at hqh ls ▸ EvF.toC (ef_compT (d := cI) (c1 := cL cI) (c2 := cI) (ei_list (ec_var rfl (Mo.mo em hw))) (fun z => decide ((q : Int) ∈ z.1)) (fun z => z.2) (by omega) fun a u v Hs' ha e' hu hv => ⟨et_test (ev_in (ev_var rfl) (ec_var rfl hu)), fun _ => ec_var rfl hv⟩)) ⟨by omega, hexp.1, hexp.2⟩) fun wv Hi7 H11 w3 e7 cwv => ?_
      rw [worth_sum hle] at cwv
      have hmuch7 := w3.l hp' (paired_mo (c := cO (cP cI cI)) e7 (paired_mo (c := cO (cP cI cI)) em px6))
      have cg7 := w3.m (Mo.mo e7 (Mo.mo e' cg))
      have cwv' := w3.m cwv
      refine q_oNo w3 (EvT_to (et_or (et_not (et_B (call_fraction (p := lowest (worthU P ls hs ms (q : Int)) (one P)) (EvP.imp (ep_ixL (c := cO (cP cI cI)) (n := q) (ec_var rfl hmuch7) (ev_var rfl) hat) fun _ _ _ h => h)))) fun _ => et_test (ev_neC (c := cO (cP cI cI)) (a' := some (lowest (worthU P ls hs ms (q : Int)) (one P))) (ep_ixL (c := cO (cP cI cI)) (n := q) (ec_var rfl hmuch7) (ev_var rfl) hat) (ec_var rfl (show cO (cP cI cI) (some _) _ _ from cwv')))) (by simp)) fun H12 w4 => ?_
      have hlp := lowest_pos (worthU P ls hs ms (q : Int)) hone
      have hll := lowest_le (worthU P ls hs ms (q : Int)) hone
      cases ho : bestTo P ls hs ms pre with
      | none =>
        rw [ho] at cg7
        have hgn : g = .non := cg7
        subst hgn
        refine s_oWhen w4 (et_or (a := true) (b := true) (et_test (ev_to (ev_isN (ev_var rfl)) rfl)) (fun z => nomatch z)) (fun _ H13 w5 => ?_) (fun z => nomatch z)
        refine s_par (Hs := kn Ho' Hi7) (ev_var rfl) (evI_c (ep_snd (c := cI) (d := cI) (ec_var rfl cwv') ev_c)) w5.ek fun H14 b14 => ?_
        refine ⟨Ho', Hi7, ⟨some (.int (q : Int)), some wv, wv, ?_, hp', ?_⟩, (ei.trans e').trans e7, w5.up b14⟩
        · rw [bestTo_snoc, if_pos hfree, ho]
          rfl
        · rw [bestTo_snoc, if_pos hfree, ho]
          exact cwv
      | some r =>
        rw [ho] at cg7
        have cg8 : cP cI cI (wo P ls hs ms r) (kn Ho' Hi7) g := cg7
        have hgn : decide (g = V.non) = false := by
          obtain ⟨a, _, _, rfl, _⟩ := cg8
          rfl
        have hrp := lowest_pos (worthU P ls hs ms (r : Int)) hone
        have hrl := lowest_le (worthU P ls hs ms (r : Int)) hone
        have p62 : (2 : Int) ^ 60 < 2 ^ 64 := by decide
        have mm1 : IntMulOk (lowest (worthU P ls hs ms (q : Int)) (one P)).1 (wo P ls hs ms r).2 := CMul.ok (.inr ⟨by show -(2 ^ 64) < (lowest _ _).2; omega, by show (lowest _ _).2 < 2 ^ 64; omega⟩)
        have mm2 : IntMulOk (wo P ls hs ms r).1 (lowest (worthU P ls hs ms (q : Int)) (one P)).2 := CMul.ok (.inr ⟨by omega, by omega⟩)
        have hcr := cross (worthU P ls hs ms (q : Int)) (worthU P ls hs ms (r : Int)) hone
        refine s_oWhen w4 (et_or (a := false) (b := decide (worthU P ls hs ms (r : Int) < worthU P ls hs ms (q : Int))) (et_test (ev_to (ev_isN (ev_var rfl)) (by rw [hgn]))) fun _ => et_test (ev_to (ev_gt (ev_mul (evI_c (ep_fst (c := cI) (d := cI) (ec_var rfl cwv') ev_c)) (ev_var (v := .int (wo P ls hs ms r).2) rfl) mm1) (ev_mul (evI_c (ep_fst (c := cI) (d := cI) (ec_var rfl cg8) ev_c)) (evI_c (ep_snd (c := cI) (d := cI) (ec_var rfl cwv') ev_c)) mm2)) (by congr 1; exact decide_eq_decide.mpr hcr))) (fun hb2 H13 w5 => ?_) (fun hb2 H13 w5 => ?_)
        · have hlt : worthU P ls hs ms (r : Int) < worthU P ls hs ms (q : Int) := by simpa using hb2
          have hpick : pick (fun p => worthU P ls hs ms (p : Int)) (some r) q = some q := if_pos hlt
          refine s_par (Hs := kn Ho' Hi7) (ev_var rfl) (evI_c (ep_snd (c := cI) (d := cI) (ec_var rfl cwv') ev_c)) w5.ek fun H14 b14 => ?_
          refine ⟨Ho', Hi7, ⟨some (.int (q : Int)), some wv, wv, ?_, hp', ?_⟩, (ei.trans e').trans e7, w5.up b14⟩
          · rw [bestTo_snoc, if_pos hfree, ho, hpick]
            rfl
          · rw [bestTo_snoc, if_pos hfree, ho, hpick]
            exact cwv
        · have hlt : ¬ worthU P ls hs ms (r : Int) < worthU P ls hs ms (q : Int) := by simpa using hb2
          have hpick : pick (fun p => worthU P ls hs ms (p : Int)) (some r) q = some r := if_neg hlt
          refine ⟨Ho', Hi7, ⟨some (.int (q : Int)), some wv, g, ?_, hp', ?_⟩, (ei.trans e').trans e7, w5⟩
          · rw [bestTo_snoc, if_pos hfree, ho, hpick]
            rfl
          · rw [bestTo_snoc, if_pos hfree, ho, hpick]
            rw [ho] at cg
            exact Mo.mo e7 (Mo.mo e' cg)
  · rintro σ' Ho' Hi' H' ⟨y14, y15, g, rfl, hp', cg⟩ ei w'
    have hbt : bestTo P ls hs ms (List.range P.toNat) = bestM P ls hs ms := rfl
    rw [hbt] at cg
    rw [hbt]
    generalize (match bestM P ls hs ms with | none => (-1 : Int) | some q => (wo P ls hs ms q).2) = far
    replace h1 := Mo.mo ei h1
    replace h2 := Mo.mo ei h2
    replace h3 := Mo.mo ei h3
    replace hh := Mo.mo ei hh
    replace hdue := Mo.mo ei hdue
    have px7 := paired_mo (c := cO (cP cI cI)) ei px6
    refine q_oV w' (call_best (pl_h (ev_var rfl) (ec_var rfl (w'.m hh)) b)) fun H10 w => ?_
    obtain ⟨wd, hwd, hwb⟩ := oV_cW (H := kn Ho' Hi') (bestM P ls hs ms)
    refine q_oNo w (EvT_to (et_or (a := false) (et_test (ev_to (ev_neS (y := oV (bestM P ls hs ms)) (ev_var rfl) ?_ ?_) ?_)) fun _ => et_B (ev_isi ty_bool (ec_var rfl hwd))) (by rw [hwb]; rfl)) fun H11 w => ?_
    · cases ho : bestM P ls hs ms with
      | none =>
        rw [ho] at cg
        have hgn : g = .non := cg
        subst hgn
        exact ev_if (b := true) (et_test (ev_to (ev_isN (ev_var rfl)) rfl)) (fun _ => ev_c) (fun z => nomatch z)
      | some q =>
        rw [ho] at cg
        have cg8 := w.m (d := cO (cP cI cI)) cg
        have hgn : decide (g = V.non) = false := by
          obtain ⟨a, _, _, rfl, _⟩ := (show cP cI cI (wo P ls hs ms q) Hi' g from cg)
          rfl
        obtain ⟨i1, i2⟩ := best_index ho
        exact ev_if (b := false) (et_test (ev_to (ev_isN (ev_var rfl)) (by rw [hgn]))) (fun z => nomatch z) (fun _ => ev_index (d := cO (cP cI cI)) (a := some (wo P ls hs ms q)) (ec_var rfl (w.l hp' px7)) (ec_var rfl cg8) i1 i2)
    · cases bestM P ls hs ms <;> rfl
    · simp
    refine q_oP w (call_sure (pl_h (ev_var rfl) (ec_var rfl hh) b)) fun sd Hi8 H12 w e8 hsd => ?_
    replace h1 := Mo.mo e8 h1
    replace h2 := Mo.mo e8 h2
    replace h3 := Mo.mo e8 h3
    replace hh := Mo.mo e8 hh
    replace hdue := Mo.mo e8 hdue
    have px8 := paired_mo (c := cO (cP cI cI)) e8 px7
    have hsw := w.m (d := cW) (bls2_cW hsd)
    have hlt := lowest_lt (total P ls hs ms) hone
    have hd1 : ∀ {σ : L2.St} {t : TE}, EvC t σ (kn Ho' Hi8) (cP cI cI) (dangerM P ls hs ms) → EvC (tTup (tCons (tOp rLtI (tOp (rIx c.K) t (tC (.int 0))) (tOp (rIx c.K) t (tC (.int 1)))) (tCons (tOp rLtI (tOp rMulI (tC (.int 2)) (tOp (rIx c.K) t (tC (.int 0)))) (tOp (rIx c.K) t (tC (.int 1)))) tNil))) σ (kn Ho' Hi8) (cP cB cB) (sureM P ls hs ms) := fun ht =>
      ep_pair (c := cB) (d := cB) (c_evB (ev_to (ev_lt (evI_c (ep_fst (c := cI) (d := cI) ht ev_c)) (evI_c (ep_snd (c := cI) (d := cI) ht ev_c))) (by congr 1; exact decide_eq_decide.mpr hlt.1))) (c_evB (ev_to (ev_lt (ev_mul ev_c (evI_c (ep_fst (c := cI) (d := cI) ht ev_c)) (mul2_ok _)) (evI_c (ep_snd (c := cI) (d := cI) ht ev_c))) (by congr 1; exact decide_eq_decide.mpr hlt.2)))
    refine q_oNo w (EvT_to (et_or (et_not (et_B (ev_isi ty_tuple (ec_var rfl hsw)))) fun _ => et_test (ev_neC (c := cP cB cB) (ec_var rfl (w.m hsd)) (hd1 (ec_var rfl (w.m hdue))))) (by rw [tuple_eq]; simp)) fun H13 w => ?_
    refine q_oNo w (EvT_to (et_not (et_B (ev_all (EvF.toC (ef_mapN (d := cB) (ei_tup (c := cW) (ec_var rfl (cW_tup hsw))) (fun d => isTy "bool" d) (show 2 ≤ 40000 by decide) fun a x Hs3 ha e3 ca => c_evB (ev_isi ty_bool (ec_var rfl ca))))))) (by with_unfolding_all rfl)) fun H14 w => ?_
    refine q_oF w (call_full (pl_h (ev_var rfl) (ec_var rfl hh) b)) fun p2 zs Hi9 H15 w e9 hne pz => ?_
    have hpp : p ≠ p2 := hne p _ hp'
    replace h1 := Mo.mo e9 h1
    replace h2 := Mo.mo e9 h2
    replace h3 := Mo.mo e9 h3
    replace hh := Mo.mo e9 hh
    have px9 := paired_mo (c := cO (cP cI cI)) e9 px8
    have hp9 : upd Ho' p2 (.lst zs) p = some (.lst xs) := by rw [upd_ne hpp]; exact hp'
    have hz9 : upd Ho' p2 (.lst zs) p2 = some (.lst zs) := upd_same
    refine q_oNo w (EvT_to (et_or (et_not (et_B (ev_isList (d := cN) (ec_var rfl (w.l hz9 pz))))) fun _ => et_or (et_test (ev_neC (c := cL cN) (ec_var rfl (w.l hz9 pz)) (EvF.toC (call_fullL (ec_var rfl (w.m h1)) (ec_var rfl (w.m h2)) hz)))) fun _ => et_test (ev_neC (c := cL3 (cL (cL cI)) (cL cI) (cL cI)) (a' := (ls, hs, ms)) (ec_var rfl (w.m hh)) (ep_lst3 (ec_var rfl (w.m h1)) (ec_var rfl (w.m h2)) (ec_var rfl (w.m h3))))) (by rw [fullL_eq]; simp)) fun H16 w => ?_
    have hxl : xs.length ≤ 40000 := by rw [← px.length]; omega
    have hzl : zs.length ≤ 40000 := by
      rw [← pz.length]
      unfold fullM
      rw [List.length_map]
      refine Nat.le_trans (List.length_filter_le _ _) ?_
      rw [List.length_zip, List.length_range]
      omega
    refine q_oApp w hp9 (ev_var rfl) (P := fun v _ => v = .non) (ep_ev ev_c rfl) hxl fun nv Hi10 H17 w e10 hnv => ?_
    cases hnv
    have hz10 : upd (upd Ho' p2 (.lst zs)) p (.lst (xs ++ [.non])) p2 = some (.lst zs) := by rw [upd_ne hpp.symm]; exact upd_same
    refine q_oApp w hz10 (ev_var rfl) (P := fun v _ => v = .int 0) (ep_ev ev_c rfl) hzl fun nv Hi11 H18 w e11 hnv => ?_
    cases hnv
    have em := e10.trans e11
    refine q_oP w (ep_lst2 (c := cL (cO (cP cI cI))) (d := cL cN) (a := worthsM P ls hs ms) (b := fullM ls hs) (EvF.toC (call_worths (pl_h (ev_var rfl) (ec_var rfl (Mo.mo em hh)) b))) (EvF.toC (call_full (pl_h (ev_var rfl) (ec_var rfl (Mo.mo em hh)) b)))) fun ag Hi12 H19 w e12 hag => ?_
    have hpA : upd (upd (upd Ho' p2 (.lst zs)) p (.lst (xs ++ [.non]))) p2 (.lst (zs ++ [.int 0])) p = some (.lst (xs ++ [.non])) := by rw [upd_ne hpp]; exact upd_same
    have pxA : Paired (fun b x => cO (cP cI cI) b Hi12 x) (worthsM P ls hs ms ++ [none]) (xs ++ [.non]) := Paired.snoc (paired_mo (c := cO (cP cI cI)) (em.trans e12) px9) rfl
    have pzA : Paired (fun b x => cN b Hi12 x) (fullM ls hs ++ [0]) (zs ++ [.int 0]) := Paired.snoc (paired_mo (c := cN) (em.trans e12) pz) rfl
    refine s_oRetV w (ev_to (ev_eqC (c := cL2 (cL (cO (cP cI cI))) (cL cN)) (a' := (worthsM P ls hs ms, fullM ls hs)) (ec_var rfl (w.m hag)) (ep_lst2 (EvF.toC (ef_butLast (c := cO (cP cI cI)) (ec_var rfl (w.l hpA pxA)) (ev_neg ev_c))) (EvF.toC (ef_butLast (c := cN) (ec_var rfl (w.l upd_same pzA)) (ev_neg ev_c))))) (by simp)) k
end
end LH

namespace LH
open PySem L2 Evl PyProof.Rows
section
variable {c : Cn} {vs : List V} {H : Hp} {Q : VK} {E : XK}
theorem ln_is_whole (h : sp_is_whole c vs H Q E) : vs.length = 1 := by obtain ⟨_, _, _, _, rfl, _⟩ := h; rfl
theorem ln_is_count (h : sp_is_count c vs H Q E) : vs.length = 2 := by obtain ⟨_, _, _, _, _, rfl, _⟩ := h; rfl
theorem ln_is_list_of_places (h : sp_is_list_of_places c vs H Q E) : vs.length = 2 := by obtain ⟨_, _, _, _, _, rfl, _⟩ := h; rfl
theorem ln_is_line (h : sp_is_line c vs H Q E) : vs.length = 2 := by obtain ⟨_, _, _, _, _, rfl, _⟩ := h; rfl
theorem ln_check_places (h : sp_check_places c vs H Q E) : vs.length = 1 := by obtain ⟨_, rfl, _⟩ := h; rfl
theorem ln_check_lines (h : sp_check_lines c vs H Q E) : vs.length = 2 := by obtain ⟨_, _, _, _, _, rfl, _⟩ := h; rfl
theorem ln_check_takings (h : sp_check_takings c vs H Q E) : vs.length = 3 := by obtain ⟨_, _, _, _, _, _, _, rfl, _⟩ := h; rfl
theorem ln_play {Hs : Hp} {P : Int} {ls : List (List Int)} {hs ms : List Int} (h : Play Hs H vs P ls hs ms) : vs.length = 4 := by obtain ⟨_, _, _, _, rfl, _⟩ := h; rfl
theorem ln_play3 {Hs : Hp} {P : Int} {ls : List (List Int)} {hs ms : List Int} (h : Play3 Hs H vs P ls hs ms) : vs.length = 4 := by obtain ⟨_, _, _, _, rfl, _⟩ := h; rfl
theorem ln_check_play (h : sp_check_play c vs H Q E) : vs.length = 4 := by obtain ⟨_, _, _, _, _, h, _⟩ := h; exact ln_play h
theorem ln_one (h : sp_one c vs H Q E) : vs.length = 1 := by obtain ⟨_, rfl, _⟩ := h; rfl
theorem ln_in_lowest_terms (h : sp_in_lowest_terms c vs H Q E) : vs.length = 2 := by obtain ⟨_, _, _, _, rfl, _⟩ := h; rfl
theorem ln_missing (h : sp_missing c vs H Q E) : vs.length = 2 := by obtain ⟨_, _, _, _, _, _, rfl, _⟩ := h; rfl
theorem ln_units_of_line (h : sp_units_of_line c vs H Q E) : vs.length = 4 := by obtain ⟨_, _, _, _, _, _, _, _, _, rfl, _⟩ := h; rfl
theorem ln_units_of_lines (h : sp_units_of_lines c vs H Q E) : vs.length = 4 := by obtain ⟨_, _, _, _, _, h, _⟩ := h; exact ln_play3 h
theorem ln_total (h : sp_total c vs H Q E) : vs.length = 4 := by obtain ⟨_, _, _, _, _, h, _⟩ := h; exact ln_play3 h
theorem ln_free_places (h : sp_free_places c vs H Q E) : vs.length = 3 := by obtain ⟨_, _, _, _, _, _, _, rfl, _⟩ := h; rfl
theorem ln_units_of_free (h : sp_units_of_free c vs H Q E) : vs.length = 4 := by obtain ⟨_, _, _, _, _, h, _⟩ := h; exact ln_play3 h
theorem ln_danger (h : sp_danger c vs H Q E) : vs.length = 4 := by obtain ⟨_, _, _, _, _, h, _⟩ := h; exact ln_play h
theorem ln_worths (h : sp_worths c vs H Q E) : vs.length = 4 := by obtain ⟨_, _, _, _, _, h, _⟩ := h; exact ln_play h
theorem ln_sure (h : sp_sure c vs H Q E) : vs.length = 4 := by obtain ⟨_, _, _, _, _, h, _⟩ := h; exact ln_play h
theorem ln_best (h : sp_best c vs H Q E) : vs.length = 4 := by obtain ⟨_, _, _, _, _, h, _⟩ := h; exact ln_play h
theorem ln_full (h : sp_full c vs H Q E) : vs.length = 4 := by obtain ⟨_, _, _, _, _, h, _⟩ := h; exact ln_play h
end
end LH

namespace LH
open PySem L2 Evl PyProof.Rows
section
variable {c : Cn} {vs : List V} {H : Hp} {Q : VK} {E : XK}
theorem ln_law_number (h : sp_law_number c vs H Q E) : vs.length = 3 := by obtain ⟨_, _, _, rfl, _⟩ := h; rfl
theorem ln_law_places (h : sp_law_places c vs H Q E) : vs.length = 1 := by obtain ⟨_, _, _, _, rfl, _⟩ := h; rfl
theorem ln_law_lines (h : sp_law_lines c vs H Q E) : vs.length = 3 := by obtain ⟨_, _, _, _, _, _, rfl, _⟩ := h; rfl
theorem ln_law_takings (h : sp_law_takings c vs H Q E) : vs.length = 3 := by obtain ⟨_, _, _, _, _, _, rfl, _⟩ := h; rfl
theorem ln_law_power (h : sp_law_power c vs H Q E) : vs.length = 1 := by obtain ⟨_, rfl, _⟩ := h; rfl
theorem ln_law_weights (h : sp_law_weights c vs H Q E) : vs.length = 3 := by obtain ⟨_, _, _, _, _, _, _, _, rfl, _⟩ := h; rfl
theorem ln_law_full (h : sp_law_full c vs H Q E) : vs.length = 2 := by obtain ⟨_, _, _, _, _, _, rfl, _⟩ := h; rfl
theorem ln_law_fraction (h : sp_law_fraction c vs H Q E) : vs.length = 1 := by obtain ⟨_, _, _, _, rfl, _⟩ := h; rfl
theorem ln_law_sum (h : sp_law_sum c vs H Q E) : vs.length = 1 := by obtain ⟨_, _, _, _, _, rfl, _⟩ := h; rfl
theorem ln_law_right (h : sp_law_right c vs H Q E) : vs.length = 4 := by obtain ⟨_, _, _, _, _, h, _⟩ := h; exact ln_play h
end
end LH
namespace LH
open PySem PySem.Spec L2 PyProof.Rows
/-! ### the module behind its top -/
theorem defOf {K : PySem.W.Frag} {h : Heap} {mg : Str → Option Value} {x : Str} {st : Stmt} {f : Addr} {oc : Value} {od an : Option Addr} {osl : Array (Option Value)} {kV doc pm cdv ct : Value} (X : K.In h) (G : h.Ns mainGlobals mg)
    (a : PySem.W.nsIn K mainGlobals x = some (some (.ref f))) (l : K.lookup f = some ⟨oc, od, .func (PySem.W.fnOf x x (C8.fnArgs st) (C8.fnBody st) (C8.fnScope st) .none kV doc pm an cdv ct), osl⟩)
    (c : PySem.W.codeIn K cdv x = true) (k : PySem.W.keepIn K (.ref f) = true) : C8.Def K mg x st f (PySem.W.fnOf x x (C8.fnArgs st) (C8.fnBody st) (C8.fnScope st) .none kV doc pm an cdv ct) :=
  ⟨⟨⟨oc, od, .none, kV, doc, pm, an, cdv, ct, osl, rfl, l, c⟩⟩, PySem.W.mg_of X G a, k⟩
theorem walk {l : PySem.W.OpenLaw} {q : Program} {loose : List Str} {XP : (Str → Option Value) → Heap → Prop} {YP : World → Heap → Prop} {d : DefRec} {K : Params → PySem.W.Frag} {k : Nat} {sp : PySem.W.Frag → World → Sp} (hn : l.most = some 63) (hdf : d.params.defaults = []) (hr : Room k callerA)
    (hY : ∀ (w : World) (h : Heap), YP w h → (K w.params).In h)
    (F : ∀ (w : World) (mg : Str → Option Value) (fa : Addr) (h : Heap), (K w.params).In h → h.Ns mainGlobals mg → mg d.name = some (.ref fa) →
      ∃ fd : FuncData, (∀ (s : Shared) (u : Value), BindsTo s fd ⟨[u], []⟩ [("_law_script", u)]) ∧ ∀ base : Heap, (K w.params).In base → base.Ns mainGlobals mg → FnOk l.prog w (K w.params) mg base C8.CX0 k fa fd ["_law_script"] (sp (K w.params) w))
    (hsp : ∀ (K : PySem.W.Frag) (w : World) (H : Hp) (a : Addr) (ns : List Int), ns.length ≤ 63 → Bits ns → SqL K H a (ns.map V.int) → ∀ Q : VK, (∀ H2, Q (.bl true) H2) → sp K w [.ref a] H Q fun _ _ _ => False) :
    PySem.W.WalkO q loose XP YP l.row.toRowW d [] (fun f vs => PySem.call f vs) :=
  L2.walk_ofB (n := 63) (k := k) (x := "_law_script") (CX := fun _ => C8.CX0) (sp := fun w => sp (K w.params) w) hn (by decide) hdf hr hY F (fun w H a ns hl hb _ hS => hsp (K w.params) w H a ns hl hb hS _ fun _ => rfl) fun _ _ _ _ _ z => z
end LH

namespace LH
open PySem L2 Evl PyProof.Rows
/-! ### displays of data -/
abbrev EvCs {α : Type} (ta : TA) (σ : L2.St) (Hs : Hp) (c : Cd α) (l : List α) : Prop := EvAs ta σ Hs fun vs H => Paired (fun b x => c b H x) l vs
section
variable {α : Type} {c : Cd α} {σ : L2.St} {Hs H Hs2 : Hp} {te : TE} {ta : TA} {l : List α} {a : α} {P : List V → Hp → Prop}
theorem EvAs.lift (h : EvAs ta σ Hs P) (e : Ex Hs Hs2) (mo : ∀ v H H2, Ex H H2 → P v H → P v H2) : EvAs ta σ Hs2 P := fun H e2 Q q => h H (e.trans e2) Q fun v H3 Hs3 g p =>
  q v H3 (uni Hs2 Hs3) (g.uni e e2) (mo v Hs3 _ (g.uniR e2) p)
theorem ecs_nil : EvCs tNil σ Hs c [] := as_nil.imp fun v H _ h => by rw [h]; exact .nil
theorem ecs_cons [Mo c] (h : EvC te σ Hs c a) (hr : EvCs ta σ Hs c l) : EvCs (tCons te ta) σ Hs c (a :: l) :=
  (as_cons h mo_c fun _ e => EvAs.lift hr e fun _ _ _ e p => paired_mo e p).imp fun v H _ ⟨x, r, h1, h2, h3⟩ => by rw [h1]; exact .cons h2 h3
theorem ef_lstC (h : EvCs ta σ Hs c l) (hl : l.length ≤ 40000) : EvFC (tLst ta) σ Hs c l := ef_lst h fun vs H p => by rw [← p.length]; exact hl
theorem ec_lst [Mo c] (h : EvCs ta σ Hs c l) (hl : l.length ≤ 40000) : EvC (tLst ta) σ Hs (cL c) l := EvF.toC (ef_lstC h hl)
theorem ec_some (h : EvC te σ Hs c a) : EvC te σ Hs (cO c) (some a) := h
theorem ec_none {i : Cd α} : EvC (tC .non) σ Hs (cO i) none := ep_ev ev_c rfl
end
theorem q_join {t tz : TS} {D : Ends} {σ : L2.St} {H : Hp} {M : L2.St → Hp → Prop} (hk : ∀ σ' H', M σ' H' → tz D σ' H') (h : (∀ σ' H', M σ' H' → tz D σ' H') → tSeq t tz D σ H) : tSeq t tz D σ H := h hk
/-! a play, looked at -/
def lineB (P : Int) (l : List Int) : Bool := decide (l ≠ []) && (l.all fun x => decide (0 ≤ x) && decide (x < P)) && rise l && decide (l.length ≤ 60) && decide ((l.length : Int) ≤ P)
def boardB (P : Int) (ls : List (List Int)) (hs ms : List Int) : Bool :=
  decide (1 ≤ P) && decide (P ≤ 60) && decide (ls.length ≤ 60) && ls.all (lineB P) && ((hs ++ ms).all fun x => decide (0 ≤ x) && decide (x < P)) && decide (hs ++ ms).Nodup && decide (hs.length ≤ 60) && decide (ms.length ≤ 60)
theorem board_of {P : Int} {ls : List (List Int)} {hs ms : List Int} (h : boardB P ls hs ms = true) : Board P ls hs ms := by
  unfold boardB at h
  simp only [Bool.and_eq_true, decide_eq_true_eq, List.all_eq_true] at h
  obtain ⟨⟨⟨⟨⟨⟨⟨h1, h2⟩, h3⟩, h4⟩, h5⟩, h6⟩, h7⟩, h8⟩ := h
  refine ⟨⟨h1, h2⟩, ⟨h3, fun l hl => ?_⟩, ⟨fun x hx => h5 x (List.mem_append_left _ hx), fun x hx => h5 x (List.mem_append_right _ hx), h6, h7, h8⟩⟩
  have := h4 l hl
  unfold lineB at this
  simp only [Bool.and_eq_true, decide_eq_true_eq, List.all_eq_true] at this
  obtain ⟨⟨⟨⟨a1, a2⟩, a3⟩, a4⟩, a5⟩ := this
  exact ⟨a1, a2, a3, a4, a5⟩
theorem OkTake.swap {P : Int} {hs ms : List Int} (t : OkTake P hs ms) : OkTake P ms hs := ⟨t.m, t.h, (List.perm_append_comm.nodup_iff).mp t.nd, ⟨t.few.2, t.few.1⟩⟩
theorem OkTake.left {P : Int} {hs ms : List Int} (t : OkTake P hs ms) : OkTake P hs [] := ⟨t.h, fun _ h => (nomatch h), by rw [List.append_nil]; exact (List.nodup_append.mp t.nd).1, ⟨t.few.1, Nat.zero_le _⟩⟩
theorem OkTake.none (P : Int) : OkTake P [] [] := ⟨fun _ h => (nomatch h), fun _ h => (nomatch h), List.nodup_nil, ⟨Nat.zero_le _, Nat.zero_le _⟩⟩
theorem OkLines.take {P : Int} {ls : List (List Int)} (h : OkLines P ls) (n : Nat) : OkLines P (ls.take n) := ⟨by rw [List.length_take]; have := h.few; omega, fun l hl => h.ok l (List.mem_of_mem_take hl)⟩
theorem OkLines.none (P : Int) : OkLines P [] := ⟨Nat.zero_le _, fun _ h => (nomatch h)⟩
end LH

namespace LH
open PySem PySem.Spec PyProof.Rows L2
/-! ### min(l, key=len), l a list of lists -/
def Kp (h0 h : Heap) : Prop := ∀ b o, h0.get? b = some o → h.get? b = some o
theorem Kp.isList {h0 h : Heap} {l : Addr} {its : Array Value} (k : Kp h0 h) (z : h0.IsList l its) : h.IsList l its := by
  obtain ⟨o, ho, r⟩ := z
  exact ⟨o, k _ _ ho, r⟩
theorem Kp.but {h0 h h' : Heap} {a : Addr} (k : Kp h0 h) (g : ∀ b o, b ≠ a → h.get? b = some o → h'.get? b = some o) (n : h0.get? a = none) : Kp h0 h' := fun b o e => g b o (fun z => by rw [z, n] at e; cases e) (k b o e)
section
variable {P : Program} {w : World} {A : Around} {E : Value → Shared → Prop} {s : Shared} {l I S : Addr} {us : List Value} {R : Result → Shared → Prop} {Q : Value → Shared → Prop}
def AreLists (h0 : Heap) (us : List Value) : Prop := ∀ (i : Nat) (u : Value), us[i]? = some u → ∃ (p : Addr) (its : Array Value), u = .ref p ∧ (its.size : Int) < 2 ^ 63 ∧ h0.IsList p its
theorem len_of (al : AreLists s.heap us) {i : Nat} {u : Value} (hu : us[i]? = some u) {h : Heap} {tk : Nat} (k : Kp s.heap h)
    (q : ∀ n t tk', Q (.int n t) { s with heap := h, toks := tk' }) : wpAny (model P w) A (call (.builtin "len") [u]) Q E { s with heap := h, toks := tk } := by
  obtain ⟨p, its, rfl, sz, il⟩ := al i u hu
  exact Calls.call_len_list (k.isList il) sz (q _ _ _)
theorem minLen_turns (hh : A.handled = none) (hl : s.heap.IsList l us.toArray) (al : AreLists s.heap us) (nI : s.heap.get? I = none) (nS : s.heap.get? S = none) (SI : S ≠ I) (lI : l ≠ I)
    (hR : ∀ u h tk, u ∈ us → Kp s.heap h → R (.ok (.ret u)) { s with heap := h, toks := tk }) :
    ∀ (r j : Nat) (h : Heap) (tk : Nat) (u : Value) (n : Int) (t : Tok) (c : Nat), us.length - (j + 1) = r → j + 1 ≤ us.length → Kp s.heap h → h.get? S = some (seqObj "list" #[u, .int n t] c) → h.IsListIter I l (j + 1) → u ∈ us →
      codeAny (model P w) A (.builtin "min.loop" ⟨[.ref I, .builtin "len", .ref S], []⟩) R { s with heap := h, toks := tk } := by
  have nm : (toString "min" ++ toString ".loop" : String) = "min.loop" := by decide
  have W := Walks.list (prog := P) (w := w) (A := A.in1) hh I l lI us.toArray
  have sz : us.toArray.size = us.length := List.size_toArray ..
  have out1 : ∀ {b : Addr}, b ≠ I → b ∉ [I] := fun h z => h (List.mem_singleton.mp z)
  intro r
  induction r with
  | zero =>
    intro j h tk u n t c hr hj K gS it hu
    refine codeAny_builtin PySem.F.entry_min_loop ?_
    rw [Around.under_plainId PySem.F.plain_min_loop _]
    refine wpAny_bind (wpAny_seqItems gS rfl ?_)
    refine wpAny_bind (wpAny_tryCatch (W.done _ _ _ ⟨by rw [sz, ← (by omega : j + 1 = us.length)]; exact it, K.isList hl⟩ fun h' tk' k' => ?_))
    have K' : Kp s.heap h' := K.but (fun b o ne e => k' b o (out1 ne) e) nI
    have gS' := k' S _ (out1 SI) gS
    refine wpAny_bind (show wpAny _ A.in1 (updateSeq S fun _ => #[]) _ _ _ from ?_)
    refine wpAny_updateSeq gS' rfl (wpAny_bind (wpAny_letGo (wpAny_pure ?_)))
    exact hR u _ _ hu (K'.but (fun b o ne e => ((Heap.SameBut.update h' S _).2 b ne).trans e) nS)
  | succ r ih =>
    intro j h tk u n t c hr hj K gS it hu
    have lt : j + 1 < us.length := by omega
    refine codeAny_builtin PySem.F.entry_min_loop ?_
    rw [Around.under_plainId PySem.F.plain_min_loop _]
    refine wpAny_bind (wpAny_seqItems gS rfl ?_)
    refine wpAny_bind (wpAny_tryCatch (W.item (j + 1) _ _ _ (by rw [sz]; exact lt) ⟨it, K.isList hl⟩ fun v h' tk' hP hst k' => ?_))
    have hv : us[j + 1]? = some v := by simpa using hP
    have K' : Kp s.heap h' := K.but (fun b o ne e => k' b o (out1 ne) e) nI
    have gS' := k' S _ (out1 SI) gS
    refine wpAny_bind (show wpAny _ A.in1 (tryCatch (holding [v] (call (.builtin "len") [v])) _) _ _ _ from ?_)
    refine wpAny_tryCatch (wpAny_holding (len_of al hv K' fun m t2 tk2 => ?_))
    refine wpAny_bind (show wpAny _ A.in1 (tryCatch (holding [v, .int m t2] (richCompare .Lt (.int m t2) (.int n t) >>= _)) _) _ _ _ from ?_)
    refine wpAny_tryCatch (wpAny_holding (wpAny_bind ?_))
    refine (CmpOf.ints_lt (prog := P) (w := w) (A := A.in1) (P := fun i v => ∃ t, v = Value.int (if i = 0 then m else n) t) (fun i => if i = 0 then m else n) (fun i v h => h)) 0 1 _ _ _ _ _ ⟨t2, rfl⟩ ⟨t, rfl⟩ ?_
    refine wpAny_bind (wpAny_holding (wpAny_truthy_bool ?_))
    refine wpAny_bind (wpAny_letGo (wpAny_pure ?_))
    by_cases less : m < n
    · have e : (fun i j : Nat => decide ((if i = 0 then m else n) < if j = 0 then m else n)) 0 1 = true := decide_eq_true (by simpa using less)
      rw [if_pos e]
      have U := Heap.SameBut.update h' S (Obj.mapSeq fun _ => #[v, .int m t2])
      refine wpAny_bind ?_
      refine wpAny_updateSeq gS' rfl (wpAny_bind (wpAny_letGo ?_))
      rw [nm]
      obtain ⟨oI, hoI, hc, hd⟩ := hst.1
      exact wpAny_pure ⟨plainId_quiet PySem.F.plain_min_loop _, ih (j + 1) _ _ v m t2 _ (by omega) (by omega) (K'.but (fun b o ne e => (U.2 b ne).trans e) nS) (get?_update_seq gS' fun _ => #[v, .int m t2]) ⟨oI, (U.2 I SI.symm).trans hoI, hc, hd⟩ (List.mem_of_getElem? hv)⟩
    · have e : ¬ (fun i j : Nat => decide ((if i = 0 then m else n) < if j = 0 then m else n)) 0 1 = true := fun z => less (by simpa using of_decide_eq_true z)
      rw [if_neg e]
      refine wpAny_bind (wpAny_letGo ?_)
      rw [nm]
      exact wpAny_pure ⟨plainId_quiet PySem.F.plain_min_loop _, ih (j + 1) _ _ u n t c (by omega) (by omega) K' gS' hst.1 hu⟩
theorem call_minLen (hh : A.handled = none) (hl : s.heap.IsList l us.toArray) (al : AreLists s.heap us) (ne : 0 < us.length) (hQ : ∀ u h tk, u ∈ us → Kp s.heap h → Q u { s with heap := h, toks := tk }) :
    wpAny (model P w) A (call (.builtin "min") [.ref l] [(Str.ofString "key", .builtin "len")]) Q E s := by
  have nm : (toString "min" ++ toString ".loop" : String) = "min.loop" := by decide
  obtain ⟨ol, hol, _⟩ := id hl
  have ll : l < s.heap.objs.size := Heap.lt_size hol
  refine kmk_tree PySem.F.kind_min PySem.F.plain_min PySem.F.entry_min (kmk_min_key _ _) ?_
  refine wpAny_bind (wpAny_of_eq (show Builtin.Builtins.bindParams "min" ["key", "default"] 0 ⟨[], [(Str.ofString "key", .builtin "len")]⟩ = pure [some (.builtin "len"), none] from rfl) ?_)
  refine wpAny_bind (wpAny_pure (wpAny_bind (wpAny_pyIter_list hl (wpAny_bind (wpAny_newList ?_ (Nat.zero_le _))))))
  rw [nm]
  refine wpAny_pure ⟨plainId_quiet PySem.F.plain_min_loop _, ?_⟩
  generalize hI : s.heap.objs.size = I at ll
  generalize hh1 : s.heap.push { cls := .type "list_iterator", data := .fields #[.ref l, .int 0 0] } = h1
  generalize hS : h1.objs.size = S
  have e1 : S = I + 1 := by rw [← hS, ← hh1, ← hI]; exact Heap.size_push _ _
  have gI1 : h1.get? I = some { cls := .type "list_iterator", data := .fields #[.ref l, .int 0 0] } := by rw [← hh1, ← hI]; exact Heap.get?_push_size _ rfl
  have gS : (h1.push (seqObj "list" #[] 0)).get? S = some (seqObj "list" #[] 0) := by rw [← hS]; exact Heap.get?_push_size _ rfl
  have K1 : Kp s.heap h1 := fun b o e => by rw [← hh1]; exact Heap.get?_push_of_some _ e
  have K2 : Kp s.heap (h1.push (seqObj "list" #[] 0)) := fun b o e => Heap.get?_push_of_some _ (K1 b o e)
  have gI : (h1.push (seqObj "list" #[] 0)).get? I = some { cls := .type "list_iterator", data := .fields #[.ref l, .int 0 0] } := Heap.get?_push_of_some _ gI1
  have nI : s.heap.get? I = none := Heap.get?_none_of_le (by rw [hI]; exact Nat.le_refl _)
  have nS : s.heap.get? S = none := Heap.get?_none_of_le (by rw [hI, e1]; exact Nat.le_succ _)
  have SI : S ≠ I := by rw [e1]; exact Nat.succ_ne_self _
  have lI : l ≠ I := Nat.ne_of_lt ll
  generalize h1.push (seqObj "list" #[] 0) = h2 at gS K2 gI ⊢
  have W := Walks.list (prog := P) (w := w) (A := A.in1) hh I l lI us.toArray
  have sz : us.toArray.size = us.length := List.size_toArray ..
  have out1 : ∀ {b : Addr}, b ≠ I → b ∉ [I] := fun h z => h (List.mem_singleton.mp z)
  refine codeAny_builtin PySem.F.entry_min_loop ?_
  rw [Around.under_plainId PySem.F.plain_min_loop _]
  refine wpAny_bind (wpAny_seqItems gS rfl ?_)
  refine wpAny_bind (wpAny_tryCatch (W.item 0 _ _ _ (by rw [sz]; exact ne) ⟨⟨_, gI, rfl, rfl⟩, K2.isList hl⟩ fun v h' tk' hP hst k' => ?_))
  have hv : us[0]? = some v := by simpa using hP
  have K' : Kp s.heap h' := K2.but (fun b o ne e => k' b o (out1 ne) e) nI
  have gS' := k' S _ (out1 SI) gS
  refine wpAny_bind (show wpAny _ A.in1 (tryCatch (holding [v] (call (.builtin "len") [v])) _) _ _ _ from ?_)
  refine wpAny_tryCatch (wpAny_holding (len_of al hv K' fun m t2 tk2 => ?_))
  have U := Heap.SameBut.update h' S (Obj.mapSeq fun _ => #[v, .int m t2])
  refine wpAny_bind (show wpAny _ A.in1 (updateSeq S fun _ => #[v, .int m t2]) _ _ _ from ?_)
  refine wpAny_updateSeq gS' rfl ?_
  rw [nm]
  obtain ⟨oI, hoI, hc, hd⟩ := hst.1
  exact wpAny_pure ⟨plainId_quiet PySem.F.plain_min_loop _, minLen_turns hh hl al nI nS SI lI hQ _ 0 _ _ v m t2 _ rfl ne (K'.but (fun b o ne e => (U.2 b ne).trans e) nS) (get?_update_seq gS' fun _ => #[v, .int m t2]) ⟨oI, (U.2 I SI.symm).trans hoI, hc, hd⟩ (List.mem_of_getElem? hv)⟩
end
section
variable {X : Cx} {te : TE} {e : Expr} {p pl pos : Pos} {kp : Pos}
/-- min(l, key=len): one of the lists (which of them is not said) -/
def rMinLen (K : PySem.W.Frag) (x : V) (H : Hp) (Q : VK) : Prop := ∃ (a : Addr) (xs : List V), x = .ref a ∧ SqL K H a xs ∧ xs ≠ [] ∧ (∀ y ∈ xs, ∃ q ys, y = V.ref q ∧ SqL K H q ys) ∧ ∀ y ∈ xs, Q y H
def tMinLen (K : PySem.W.Frag) (te : TE) : TE := fun σ H Q => tCons te tNil σ H fun vs H1 => ∃ x, vs = [x] ∧ rMinLen K x H1 Q
theorem pe_minLen (hc : X.calm = true) (hg : Gl X "min") (hm : X.mg "min" = none) (hgl : Gl X "len") (hml : X.mg "len" = none) (he : PE X e te)
    (hse : starEach [e] X.env = (false, eval e X.env) :: starEach [] X.env := by rfl) (hst : backTo pos (starEach [e] X.env) = (false, eval e X.env) :: backTo pos (starEach [] X.env) := by rfl) (hpl : (backTo pos (starEach [e] X.env)).any (·.1) = false := by rfl)
    (hkw : backToKw pos (keywordEach [⟨some "key", .Name "len" pl, kp⟩] X.env) = [(some (Str.ofString "key"), do let v ← eval (.Name "len" pl) X.env; standAt pos; pure v)] := by rfl) :
    PE X (.Call (.Name "min" p) [e] [⟨some "key", .Name "len" pl, kp⟩] pos) (tMinLen X.K te) := by
  refine ⟨fun pins s σ H Q I h => ?_⟩
  refine wpAny_Call_Name_kw (ld_blt I hg hm LH.b_min ?_ (by decide) (by decide))
  refine callWith_kw (thn ((pa_cons he pa_nil hse).run pos pins s σ H _ I h) fun us s1 ⟨vs, H1, I1, r1, x, e1, a, xs, e2, hs, ne, al, q⟩ => ?_) hst hpl (by rw [hkw]; rfl) (by rw [hkw]; rfl)
  subst e1
  subst e2
  rw [Vals.ref1 r1, hkw]
  refine wpAny_evalAll_cons (wpAny_bind (ld_blt I1 hgl hml LH.b_len (wpAny_bind (wpAny_standAt (wpAny_pure ?_))) (by decide) (by decide)))
  refine wpAny_evalAll_nil ?_
  obtain ⟨its, rv, pll, hz⟩ := I1.list hs
  have ln := rv.length
  refine call_minLen (I1.ok.hd hc) pll.isList (fun i u hu => ?_) (by rw [← ln]; exact List.length_pos_iff.mpr ne) fun u h tk hu k => ?_
  · obtain ⟨x, hx, rx⟩ := Paired.at rv hu
    obtain ⟨p1, ys, rfl, hq⟩ := al x (List.mem_of_getElem? hx)
    cases rx
    obtain ⟨its2, rv2, pl2, hz2⟩ := I1.list hq
    have ln2 := rv2.length
    have := sizeLine_eq
    exact ⟨p1, its2.toArray, rfl, by rw [List.size_toArray]; omega, pl2.isList⟩
  · obtain ⟨i, hi⟩ := List.getElem?_of_mem hu
    obtain ⟨x, hx, rx⟩ := Paired.at rv hi
    exact ⟨x, H1, I1.kept k, rx, q x (List.mem_of_getElem? hx)⟩
end
section
variable {α : Type} {c : Cd α} {σ : L2.St} {Hs : Hp} {te : TE} {K : PySem.W.Frag}
open Evl
theorem ep_minLen [Mo c] {l : List (List α)} (h : EvC te σ Hs (cL (cL c)) l) (ne : l ≠ []) : EvP (tMinLen K te) σ Hs fun v H => ∃ m ∈ l, cL c m H v := fun H e Q q =>
  h H e _ fun v H2 Hs2 g ⟨a, xs, h1, h2, h3⟩ => ⟨v, rfl, a, xs, h1, sq_ex g.i h2, fun z => by subst z; cases h3; exact ne rfl, fun y hy => by
    obtain ⟨i, hi⟩ := List.getElem?_of_mem hy
    obtain ⟨m, _, b, ys, h4, h5, _⟩ := Paired.at h3 hi
    exact ⟨b, ys, h4, sq_ex g.i h5⟩, fun y hy => by
    obtain ⟨i, hi⟩ := List.getElem?_of_mem hy
    obtain ⟨m, hm, hc⟩ := Paired.at h3 hi
    exact q y H2 Hs2 g ⟨m, List.mem_of_getElem? hm, hc⟩⟩
end
end LH

namespace LH
/-! ### the danger, step by step -/
theorem unit_nn (P : Int) (l hs ms : List Int) : 0 ≤ unit P l hs ms := by
  unfold unit
  split
  · exact Int.le_refl _
  · rw [Int.one_mul]
    exact Int.le_of_lt (pow_pos' _)
theorem sum_le {α : Type} {f g : α → Int} : ∀ {l : List α}, (∀ a ∈ l, f a ≤ g a) → (l.map f).sum ≤ (l.map g).sum
  | [], _ => Int.le_refl _
  | a :: r, h => by
    have ih := sum_le fun x hx => h x (List.mem_cons_of_mem a hx)
    have := h a List.mem_cons_self
    rw [List.map_cons, List.map_cons, List.sum_cons, List.sum_cons]
    omega
theorem sum_add {α : Type} {f g h : α → Int} : ∀ {l : List α}, (∀ a ∈ l, f a = g a + h a) → (l.map f).sum = (l.map g).sum + (l.map h).sum
  | [], _ => rfl
  | a :: r, k => by
    have ih := sum_add fun x hx => k x (List.mem_cons_of_mem a hx)
    have := k a List.mem_cons_self
    rw [List.map_cons, List.map_cons, List.map_cons, List.sum_cons, List.sum_cons, List.sum_cons]
    omega
theorem sum_nn {α : Type} {f : α → Int} : ∀ {l : List α}, (∀ a ∈ l, 0 ≤ f a) → 0 ≤ (l.map f).sum
  | [], _ => Int.le_refl _
  | a :: r, k => by
    have ih := sum_nn fun x hx => k x (List.mem_cons_of_mem a hx)
    have := k a List.mem_cons_self
    rw [List.map_cons, List.sum_cons]
    omega
/-- a sum over some is a sum over all -/
theorem sum_filter {α : Type} {f : α → Int} {p : α → Bool} : ∀ l : List α, ((l.filter p).map f).sum = (l.map fun a => if p a = true then f a else 0).sum
  | [] => rfl
  | a :: r => by
    have ih := sum_filter (f := f) (p := p) r
    rw [List.filter_cons, List.map_cons, List.sum_cons, ← ih]
    split
    · rw [List.map_cons, List.sum_cons]
    · omega
theorem worth_all (P : Int) (ls : List (List Int)) (hs ms : List Int) (p : Int) : worthU P ls hs ms p = (ls.map fun l => if decide (p ∈ l) = true then unit P l hs ms else 0).sum := by
  rw [worthU_eq, sum_filter]
theorem total_all (P : Int) (ls : List (List Int)) (hs ms : List Int) : total P ls hs ms = (ls.map fun l => unit P l hs ms).sum := rfl
theorem worth_nn (P : Int) (ls : List (List Int)) (hs ms : List Int) (p : Int) : 0 ≤ worthU P ls hs ms p := by
  rw [worth_all]
  refine sum_nn fun l _ => ?_
  split
  · exact unit_nn _ _ _ _
  · exact Int.le_refl _
theorem total_nn (P : Int) (ls : List (List Int)) (hs ms : List Int) : 0 ≤ total P ls hs ms := sum_nn fun l _ => unit_nn _ _ _ _
theorem worth_le (P : Int) (ls : List (List Int)) (hs ms : List Int) (p : Int) : worthU P ls hs ms p ≤ total P ls hs ms := by
  rw [worth_all, total_all]
  refine sum_le fun l _ => ?_
  split
  · exact Int.le_refl _
  · exact unit_nn _ _ _ _
theorem blocked_iff (ms l : List Int) : blocked ms l = true ↔ ∃ x ∈ l, x ∈ ms := by
  unfold blocked
  rw [List.any_map, List.any_eq_true]
  simp
theorem blocked_snoc (ms l : List Int) (q : Int) : blocked (ms ++ [q]) l = (blocked ms l || decide (q ∈ l)) := by
  rw [Bool.eq_iff_iff, Bool.or_eq_true, blocked_iff, blocked_iff, decide_eq_true_eq]
  constructor
  · rintro ⟨x, hx, h⟩
    rcases List.mem_append.mp h with h | h
    · exact .inl ⟨x, hx, h⟩
    · exact .inr (List.mem_singleton.mp h ▸ hx)
  · rintro (⟨x, hx, h⟩ | h)
    · exact ⟨x, hx, List.mem_append_left _ h⟩
    · exact ⟨q, h, List.mem_append_right _ (List.mem_singleton.mpr rfl)⟩
/-- the holder takes q -/
theorem unit_mine (P : Int) (l hs ms : List Int) (q : Int) : unit P l hs (ms ++ [q]) = if q ∈ l then 0 else unit P l hs ms := by
  have h := blocked_snoc ms l q
  unfold blocked at h
  unfold unit
  rw [h]
  by_cases hq : q ∈ l
  · rw [if_pos (by simp [hq]), if_pos hq]
  · rw [if_neg hq, decide_eq_false hq, Bool.or_false]
theorem total_mine (P : Int) (ls : List (List Int)) (hs ms : List Int) (q : Int) : total P ls hs ms = total P ls hs (ms ++ [q]) + worthU P ls hs ms q := by
  rw [total_all, total_all, worth_all]
  refine sum_add fun l _ => ?_
  rw [unit_mine]
  by_cases hq : q ∈ l
  · rw [if_pos hq, if_pos (decide_eq_true hq)]
    omega
  · rw [if_neg hq, if_neg (by rw [decide_eq_false hq]; decide)]
    omega
theorem worth_mine (P : Int) (ls : List (List Int)) (hs ms : List Int) (q r : Int) : worthU P ls hs (ms ++ [q]) r ≤ worthU P ls hs ms r := by
  rw [worth_all, worth_all]
  refine sum_le fun l _ => ?_
  rw [unit_mine]
  split
  · split
    · exact unit_nn _ _ _ _
    · exact Int.le_refl _
  · exact Int.le_refl _
/-- the taker takes r -/
theorem rise_nodup : ∀ {l : List Int}, rise l = true → l.Pairwise (· < ·)
  | [], _ => .nil
  | [a], _ => List.pairwise_singleton _ _
  | a :: b :: r, h => by
    unfold rise at h
    rw [List.drop_succ_cons, List.drop_zero, List.zip_cons_cons, List.all_cons, Bool.and_eq_true, decide_eq_true_eq] at h
    have ih : (b :: r).Pairwise (· < ·) := rise_nodup (by unfold rise; rw [List.drop_succ_cons, List.drop_zero]; exact h.2)
    refine List.pairwise_cons.mpr ⟨fun x hx => ?_, ih⟩
    rcases List.mem_cons.mp hx with e | e
    · rw [e]; exact h.1
    · exact Int.lt_trans h.1 ((List.pairwise_cons.mp ih).1 x e)
theorem missing_his {hs : List Int} {r : Int} (hr : r ∉ hs) : ∀ {l : List Int}, l.Pairwise (· < ·) → missing l hs = missing l (hs ++ [r]) + if r ∈ l then 1 else 0
  | [], _ => rfl
  | a :: l, h => by
    obtain ⟨h1, h2⟩ := List.pairwise_cons.mp h
    have ih := missing_his hr h2
    have e : ∀ s : List Int, missing (a :: l) s = missing l s + if a ∈ s then 0 else 1 := fun s => by
      unfold missing
      rw [List.filter_cons]
      by_cases z : a ∈ s
      · simp [z]
      · simp [z]
    rw [e, e, ih]
    by_cases ea : a = r
    · subst ea
      have nl : a ∉ l := fun z => by have := h1 a z; omega
      have yl : a ∈ hs ++ [a] := List.mem_append_right _ (List.mem_singleton.mpr rfl)
      have yc : a ∈ a :: l := List.mem_cons_self
      simp only [hr, nl, yl, yc, if_true, if_false]
    · have e1 : (a ∈ hs ++ [r]) ↔ a ∈ hs := by simp [ea]
      have e2 : (r ∈ a :: l) ↔ r ∈ l := by
        rw [List.mem_cons]
        exact ⟨fun z => z.resolve_left fun y => ea y.symm, .inr⟩
      by_cases z1 : a ∈ hs
      · rw [if_pos z1, if_pos (e1.mpr z1)]
        by_cases z2 : r ∈ l
        · rw [if_pos z2, if_pos (e2.mpr z2)]
        · rw [if_neg z2, if_neg fun y => z2 (e2.mp y)]
      · rw [if_neg z1, if_neg fun y => z1 (e1.mp y)]
        by_cases z2 : r ∈ l
        · rw [if_pos z2, if_pos (e2.mpr z2)]
        · rw [if_neg z2, if_neg fun y => z2 (e2.mp y)]
theorem unit_his {P : Int} {l hs ms : List Int} {r : Int} (ok : OkLine P l) (hr : r ∉ hs) : unit P l (hs ++ [r]) ms = unit P l hs ms + if decide (r ∈ l) = true then unit P l hs ms else 0 := by
  have e := missing_his hr (rise_nodup ok.up)
  have le := missing_le l hs
  have ln := ok.len
  rw [unit_eq ln, unit_eq ln]
  split
  · simp
  · by_cases z : r ∈ l
    · rw [if_pos z] at e
      rw [if_pos (decide_eq_true z), show P.toNat - missing l (hs ++ [r]) = (P.toNat - missing l hs) + 1 by omega, Int.pow_succ]
      omega
    · rw [if_neg z] at e
      rw [if_neg (by rw [decide_eq_false z]; decide), show missing l (hs ++ [r]) = missing l hs by omega]
      omega
theorem total_his {P : Int} {ls : List (List Int)} {hs ms : List Int} {r : Int} (ok : OkLines P ls) (hr : r ∉ hs) : total P ls (hs ++ [r]) ms = total P ls hs ms + worthU P ls hs ms r := by
  rw [total_all, total_all, worth_all]
  exact sum_add fun l hl => unit_his (ok.ok l hl) hr
/-- while the danger is below 1, no line is all his -/
theorem none_full {P : Int} {ls : List (List Int)} {hs ms : List Int} (b : Board P ls hs ms) (h : total P ls hs ms < one P) : fullM ls hs = [] := by
  unfold fullM
  rw [List.map_eq_nil_iff, List.filter_eq_nil_iff]
  rintro ⟨i, l⟩ hq hd
  have hl : l ∈ ls := (List.of_mem_zip hq).2
  have ok := b.l.ok l hl
  have m0 : missing l hs = 0 := by
    have : ((missing l hs : Nat) : Int) = 0 := of_decide_eq_true hd
    omega
  have all : ∀ x ∈ l, x ∈ hs := fun x hx => by
    unfold missing at m0
    have := List.length_eq_zero_iff.mp m0
    rw [List.filter_eq_nil_iff] at this
    simpa using this x hx
  have nb : blocked ms l = false := by
    unfold blocked
    rw [Bool.eq_false_iff]
    intro z
    simp only [List.any_eq_true, List.mem_map, id_eq] at z
    obtain ⟨_, ⟨x, hx, rfl⟩, hm⟩ := z
    exact (List.nodup_append.mp b.t.nd).2.2 x (all x hx) x (of_decide_eq_true hm) rfl
  have u : unit P l hs ms = one P := by
    rw [unit_eq ok.len, nb, m0, one_eq]
    rfl
  have : unit P l hs ms ≤ total P ls hs ms := by
    rw [total_all]
    have key : ∀ (f : List Int → Int) (ls : List (List Int)), (∀ x ∈ ls, 0 ≤ f x) → l ∈ ls → f l ≤ (ls.map f).sum := by
      intro f ls
      induction ls with
      | nil => exact fun _ h => nomatch h
      | cons y r ih =>
        intro nn hm
        have h1 := nn y List.mem_cons_self
        have h2 := sum_nn (f := f) (l := r) fun x hx => nn x (List.mem_cons_of_mem _ hx)
        rw [List.map_cons, List.sum_cons]
        rcases List.mem_cons.mp hm with e | e
        · rw [e]; omega
        · have := ih (fun x hx => nn x (List.mem_cons_of_mem _ hx)) e
          omega
    exact key _ ls (fun x _ => unit_nn P x hs ms) hl
  omega
/-! places that are left -/
theorem subset_len {l m : List Int} (h : l.Nodup) (s : ∀ x ∈ l, x ∈ m) : l.length ≤ m.length := by
  have e := dd_len_of (l := m.filter fun x => decide (x ∈ l)) h fun k => by
    rw [List.mem_filter, decide_eq_true_eq]
    exact ⟨fun z => ⟨s k z, z⟩, fun z => z.2⟩
  have h1 := dd_le (m.filter fun x => decide (x ∈ l))
  have h2 := List.length_filter_le (fun x => decide (x ∈ l)) m
  omega
theorem range_nodup (n : Nat) : ((List.range n).map fun i : Nat => (i : Int)).Nodup := by
  refine List.pairwise_map.mpr (List.Pairwise.imp ?_ List.pairwise_lt_range)
  intro a b h
  omega
/-- a place is left -/
theorem free_left {P : Int} {hs ms : List Int} (h : (hs.length : Int) + ms.length < P) : freeP P hs ms ≠ [] := by
  intro z
  have s : ∀ x ∈ (List.range P.toNat).map fun i : Nat => (i : Int), x ∈ hs ++ ms := fun x hx => by
    obtain ⟨i, hi, rfl⟩ := List.mem_map.mp hx
    have n : i ∉ freeP P hs ms := by rw [z]; exact fun y => nomatch y
    unfold freeP at n
    rw [List.mem_filter] at n
    rw [List.mem_append]
    by_cases a : (i : Int) ∈ hs
    · exact .inl a
    · by_cases b : (i : Int) ∈ ms
      · exact .inr b
      · exact absurd ⟨hi, by simp [a, b]⟩ n
  have := subset_len (range_nodup P.toNat) s
  rw [List.length_map, List.length_range, List.length_append] at this
  omega
theorem best_some {P : Int} {ls : List (List Int)} {hs ms : List Int} (h : freeP P hs ms ≠ []) : ∃ q, bestM P ls hs ms = some q := by
  have := pick_first (fun p => worthU P ls hs ms (p : Int)) (freeP P hs ms) [] none (free_sorted P hs ms) rfl
  unfold bestM
  cases e : (freeP P hs ms).foldl (pick fun p => worthU P ls hs ms (p : Int)) none with
  | some q => exact ⟨q, rfl⟩
  | none =>
    rw [e] at this
    exact absurd (by simpa using this) h
structure Free (P : Int) (hs ms : List Int) (r : Int) : Prop where
  h0 : 0 ≤ r
  h1 : r < P
  his : r ∉ hs
  mine : r ∉ ms
theorem free_of {P : Int} {hs ms : List Int} {p : Nat} (h : p ∈ freeP P hs ms) : Free P hs ms (p : Int) := by
  unfold freeP at h
  rw [List.mem_filter, List.mem_range, Bool.and_eq_true] at h
  obtain ⟨a, b, c⟩ := h
  exact ⟨by omega, by omega, by simpa using b, by simpa using c⟩
theorem of_free {P : Int} {hs ms : List Int} {p : Nat} (h : Free P hs ms (p : Int)) : p ∈ freeP P hs ms := by
  unfold freeP
  rw [List.mem_filter, List.mem_range, Bool.and_eq_true]
  have := h.h1
  exact ⟨by omega, by simpa using h.his, by simpa using h.mine⟩
theorem worth_best {P : Int} {ls : List (List Int)} {hs ms : List Int} {q : Nat} (h : bestM P ls hs ms = some q) {r : Int} (f : Free P hs ms r) : worthU P ls hs ms r ≤ worthU P ls hs ms (q : Int) := by
  obtain ⟨n, rfl⟩ : ∃ n : Nat, r = (n : Int) := ⟨r.toNat, by have := f.h0; omega⟩
  exact (best_first h).ge n (of_free f)
theorem OkTake.his {P : Int} {hs ms : List Int} {r : Int} (t : OkTake P hs ms) (f : Free P hs ms r) (h : (hs.length : Int) + ms.length < P) (hP : P ≤ 60) : OkTake P (hs ++ [r]) ms := by
  refine ⟨fun x hx => ?_, t.m, (nodup_add t.nd (fun z => (List.mem_append.mp z).elim f.his f.mine)).1, by rw [List.length_append, List.length_singleton]; omega, by omega⟩
  rcases List.mem_append.mp hx with z | z
  · exact t.h x z
  · rw [List.mem_singleton.mp z]; exact ⟨f.h0, f.h1⟩
theorem OkTake.mine {P : Int} {hs ms : List Int} {r : Int} (t : OkTake P hs ms) (f : Free P hs ms r) (h : (hs.length : Int) + ms.length < P) (hP : P ≤ 60) : OkTake P hs (ms ++ [r]) := by
  refine ⟨t.h, fun x hx => ?_, (nodup_add t.nd (fun z => (List.mem_append.mp z).elim f.his f.mine)).2, by omega, by rw [List.length_append, List.length_singleton]; omega⟩
  rcases List.mem_append.mp hx with z | z
  · exact t.m x z
  · rw [List.mem_singleton.mp z]; exact ⟨f.h0, f.h1⟩
end LH

namespace LH
open PySem L2 Evl PyProof.Rows
open Builtin.Int (intBits)
/-! ### results from looks at one's own -/
class Sc {α : Type} (c : Cd α) : Prop where
  sc : ∀ {a : α} {H H2 : Hp} {v : V}, c a H v → c a H2 v
instance : Sc cI := ⟨fun h => h⟩
instance : Sc cB := ⟨fun h => h⟩
instance : Sc cN := ⟨fun h => h⟩
def Lists (Ho : Hp) : Prop := ∀ p u, Ho p = some u → ∃ xs, u = .lst xs
theorem Lists.upd {Ho : Hp} {p : Addr} {xs : List V} (h : Lists Ho) : Lists (upd Ho p (.lst xs)) := fun q u e => by
  by_cases z : q = p
  · subst z
    rw [upd_same] at e
    exact ⟨xs, (Option.some.inj e).symm⟩
  · rw [upd_ne z] at e
    exact h q u e
theorem Lists.emp : Lists emp := fun _ _ h => nomatch h
section
variable {α β γ : Type} {d : Cd α} {f : Cd β} {g3 : Cd γ} {σ : L2.St} {Hs0 H0 Ho Hi H Hs : Hp} {te ta tb : TE} {D : Ends} {tz : TS} {i j k3 : Nat} {K : PySem.W.Frag} {p : Addr} {xs : List V} {P : V → Prop}
theorem back_P [Sc d] [Sc f] {ab : α × β} {H2 Hk : Hp} {v : V} (hl : Lists Ho) (g : Grow (kn Ho Hi) H Hk H2) (h : cP d f ab Hk v) : cP d f ab (mns Hk Ho) v := by
  obtain ⟨T, x, y, rfl, h1, h2, h3⟩ := h
  have n : Ho T = none := by
    cases e : Ho T with
    | none => rfl
    | some u =>
      obtain ⟨zs, rfl⟩ := hl T u e
      have := g.s T _ (kn_at e)
      rw [h1] at this
      cases this
  exact ⟨T, x, y, rfl, by rw [mns_at n]; exact h1, Sc.sc h2, Sc.sc h3⟩
theorem q_oPK [Sc d] [Sc f] {ab : α × β} (w : Own Hs0 H0 Ho Hi H) (hl : Lists Ho) (h : EvC te σ (kn Ho Hi) (cP d f) ab) (k : ∀ v Hi2 H2, Own Hs0 H0 Ho Hi2 H2 → Ex Hi Hi2 → cP d f ab Hi2 v → tz D (σ.set i (some v)) H2) : tSeq (tAsg te (gName i)) tz D σ H :=
  h H w.ek _ fun v H2 Hk g p => k v _ H2 (w.back g) (w.im g) (back_P hl g p)
theorem s_oAppK (w : Own Hs0 H0 Ho Hi H) (hp : Ho p = some (.lst xs)) (ho : Ev ta σ Hi (.ref p)) (h : EvP te σ (kn Ho Hi) fun v _ => P v) (hz : xs.length ≤ 40000)
    (k : ∀ v Hi2 H2, Own Hs0 H0 (upd Ho p (.lst (xs ++ [v]))) Hi2 H2 → Ex Hi Hi2 → P v → D.nx σ H2) : tDrop (tBM K "list" rAppend ta (tCons te tNil)) D σ H := ho H w.g.i _ fun H1 e1 =>
  have w1 := w.up e1
  ⟨.inl ⟨rfl, xs, sq_of (e1 p _ (w.o p _ hp).2.2)⟩, h H1 w1.ek _ fun v H2 Hk g pv =>
    have w2 := w1.back g
    ⟨p, xs, v, rfl, rfl, (w2.o p _ hp).2.2, size_lt hz, k v _ _ (w2.mut hp) (w1.im g) pv⟩⟩
theorem q_oAppK (w : Own Hs0 H0 Ho Hi H) (hp : Ho p = some (.lst xs)) (ho : Ev ta σ Hi (.ref p)) (h : EvP te σ (kn Ho Hi) fun v _ => P v) (hz : xs.length ≤ 40000)
    (k : ∀ v Hi2 H2, Own Hs0 H0 (upd Ho p (.lst (xs ++ [v]))) Hi2 H2 → Ex Hi Hi2 → P v → tz D σ H2) : tSeq (tDrop (tBM K "list" rAppend ta (tCons te tNil))) tz D σ H := s_oAppK (D := { D with nx := tz D }) w hp ho h hz k
/-- a, b = two new lists -/
theorem q_oPar2 {P1 P2 : List V → Hp → Prop} (w : Own Hs0 H0 Ho Hi H) (h1 : EvF ta σ Hi P1) (h2 : ∀ Hi1, Ex Hi Hi1 → EvF tb σ Hi1 P2)
    (k : ∀ p q xs ys Hi1 Hi2 H2, Own Hs0 H0 (upd (upd Ho p (.lst xs)) q (.lst ys)) Hi2 H2 → Ex Hi Hi1 → Ex Hi1 Hi2 → p ≠ q → P1 xs Hi1 → P2 ys Hi2 → tz D ((σ.set i (some (.ref p))).set j (some (.ref q))) H2) :
    tSeq (tPar i j (tCons ta (tCons tb tNil))) tz D σ H := h1 H w.g.i _ fun p xs H1 Hi1 g a1 a2 a3 a4 =>
  have w1 := w.new g a1 a2 a3
  h2 Hi1 g.s H1 g.i _ fun q ys H2 Hi2 g2 b1 b2 b3 b4 => ⟨.ref p, .ref q, rfl, k p q xs ys Hi1 Hi2 H2 (w1.new g2 b1 b2 b3) g.s g2.s (w1.ne upd_same b1) a4 b4⟩
/-- a, b, c = t -/
theorem g_three {R : L2.St → Hp → Prop} {x : V} {abc : α × β × γ} (h : cP3 d f g3 abc Hs x) (e : Ex Hs H) (k : ∀ u v w, d abc.1 Hs u → f abc.2.1 Hs v → g3 abc.2.2 Hs w → R (((σ.set i (some u)).set j (some v)).set k3 (some w)) H) :
    gTup K 3 (gCons (gName i) (gCons (gName j) (gCons (gName k3) gNil))) x σ H R := by
  obtain ⟨a, u, v, w, h1, h2, h3, h4, h5⟩ := h
  exact ⟨a, [u, v, w], h1, sqt_ex e h2, rfl, u, [v, w], rfl, v, [w], rfl, w, [], rfl, rfl, k u v w h3 h4 h5⟩
/-- the script's cells, or one number -/
theorem ep_cells {ns : List Int} {n : Int} (h : EvC ta σ Hs (cS K) ns) (hb : Bits ns) (hn : intBits n ≤ 1048576) :
    EvP (tIf (tTest (tOp (rNeA K) ta (tLst tNil))) (tSl (rSlL K) ta tNoPart (tPart (tC (.int 63)))) (tLst (tCons (tC (.int n)) tNil))) σ Hs fun v H => ∃ cs, cL cI cs H v ∧ Bits cs ∧ cs ≠ [] := by
  refine EvF.toP (ef_if (PL := fun xs H => ∃ cs, Paired (fun b x => cI b H x) cs xs ∧ Bits cs ∧ cs ≠ []) (b := !decide (ns = [])) (et_test (ev_neNil h)) (fun hn => ?_) (fun _ => ?_)) ?_
  · refine (ef_toS (n := 63) h ev_c).imp fun xs H _ px => ⟨ns.take 63, px, fun x hx => hb x (List.mem_of_mem_take hx), fun z => ?_⟩
    rw [List.take_eq_nil_iff] at z
    rcases z with z | z
    · cases z
    · rw [z] at hn; simp at hn
  · refine EvF.imp (ef_lst (as_ea (ea_cons ev_c ea_nil)) fun vs H p => by rw [p]; show 1 ≤ 40000; decide) fun xs H _ px => ⟨[n], ?_, ?_, by simp⟩
    · rw [px]
      exact ints_paired [n]
    · intro x hx
      rw [List.mem_singleton.mp hx]
      exact hn
  · rintro p xs Hs2 _ ⟨cs, px, b1, b2⟩ hp
    exact ⟨cs, ⟨p, xs, rfl, upd_same, paired_mo (Ex.new hp) px⟩, b1, b2⟩
theorem ep_ix0 {p : List Int → Prop} (h : EvP ta σ Hs fun v H => ∃ m, p m ∧ cL cI m H v) (hne : ∀ m, p m → m ≠ []) (hb : Ev tb σ Hs (.int 0)) : EvP (tOp (rIx K) ta tb) σ Hs fun v _ => ∃ m x, p m ∧ x ∈ m ∧ v = .int x := fun H e Q q =>
  h H e _ fun v H2 Hs2 g ⟨m, pm, cm⟩ => hb H2 (e.trans g.b) _ fun H3 e3 => by
    obtain ⟨a, rfl, ha⟩ := cL_ints cm
    cases m with
    | nil => exact absurd rfl (hne [] pm)
    | cons x r => exact .inl ⟨a, _, 0, .int x, rfl, rfl, sq_ex (g.i.trans e3) ha, atI_nat (j := 0) rfl, q _ H3 Hs2 (g.trans (Grow.up g.i e3)) ⟨_, x, pm, List.mem_cons_self, rfl⟩⟩
end
end LH

namespace LH
open PySem L2 Evl PyProof.Rows
/-! ### maps from whole numbers, as lists of pairs in the order of their making -/
section
variable {β : Type}
def aget : List (Int × β) → Int → Option β
  | [], _ => none
  | p :: r, x => if p.1 = x then some p.2 else aget r x
def aput : List (Int × β) → Int → β → List (Int × β)
  | [], x, b => [(x, b)]
  | p :: r, x, b => if p.1 = x then (p.1, b) :: r else p :: aput r x b
theorem aget_put (l : List (Int × β)) (x y : Int) (b : β) : aget (aput l x b) y = if y = x then some b else aget l y := by
  induction l with
  | nil =>
    unfold aput aget aget
    by_cases h : x = y
    · rw [if_pos h, if_pos h.symm]
    · rw [if_neg h, if_neg fun z => h z.symm]
  | cons p r ih =>
    unfold aput
    by_cases hp : p.1 = x
    · rw [if_pos hp]
      unfold aget
      by_cases h : p.1 = y
      · rw [if_pos h, if_pos (h ▸ hp)]
      · rw [if_neg h, if_neg fun z => h (hp.trans z.symm), if_neg h]
    · rw [if_neg hp]
      unfold aget
      by_cases h : p.1 = y
      · rw [if_pos h, if_neg fun z => hp (h.trans z), if_pos h]
      · rw [if_neg h, ih, if_neg h]
theorem aget_same (l : List (Int × β)) (x : Int) (b : β) : aget (aput l x b) x = some b := by rw [aget_put, if_pos rfl]
theorem aget_ne {l : List (Int × β)} {x y : Int} {b : β} (h : y ≠ x) : aget (aput l x b) y = aget l y := by rw [aget_put, if_neg h]
def keys (l : List (Int × β)) : List Int := l.map fun p => p.1
theorem aget_keys {x : Int} : ∀ {l : List (Int × β)}, x ∈ keys l ↔ aget l x ≠ none
  | [] => ⟨fun h => (nomatch h), fun h => absurd rfl h⟩
  | p :: r => by
    unfold aget keys
    rw [List.map_cons, List.mem_cons]
    by_cases h : p.1 = x
    · rw [if_pos h]
      exact ⟨fun _ z => (nomatch z), fun _ => .inl h.symm⟩
    · rw [if_neg h]
      have ih := aget_keys (x := x) (l := r)
      exact ⟨fun z => ih.mp (z.resolve_left fun y => h y.symm), fun z => .inr (ih.mpr z)⟩
theorem keys_put (x : Int) (b : β) : ∀ l : List (Int × β), keys (aput l x b) = if x ∈ keys l then keys l else keys l ++ [x]
  | [] => rfl
  | p :: r => by
    have ih := keys_put x b r
    unfold aput
    by_cases h : p.1 = x
    · rw [if_pos h, if_pos (by unfold keys; rw [List.map_cons]; exact List.mem_cons.mpr (.inl h.symm))]
      rfl
    · rw [if_neg h]
      have e : keys (p :: aput r x b) = p.1 :: keys (aput r x b) := rfl
      have e2 : keys (p :: r) = p.1 :: keys r := rfl
      rw [e, ih, e2]
      by_cases z : x ∈ keys r
      · rw [if_pos z, if_pos (List.mem_cons_of_mem _ z)]
      · rw [if_neg z, if_neg fun y => z ((List.mem_cons.mp y).resolve_left fun w => h w.symm)]
        rfl
theorem nodup_put {l : List (Int × β)} (h : (keys l).Nodup) (x : Int) (b : β) : (keys (aput l x b)).Nodup := by
  rw [keys_put]
  split
  · exact h
  · rename_i z
    exact List.nodup_append.mpr ⟨h, by simp, fun a ha c hc => by rw [List.mem_singleton.mp hc]; exact fun y => z (y ▸ ha)⟩
def kvA (f : β → V) (l : List (Int × β)) : List (Key × V) := l.map fun p => (Sum.inl p.1, f p.2)
theorem valV_A (f : β → V) (x : Int) : ∀ l : List (Int × β), valV (kvA f l) (Sum.inl x) = (aget l x).map f
  | [] => rfl
  | p :: r => by
    have ih := valV_A f x r
    unfold aget
    show valV ((Sum.inl p.1, f p.2) :: kvA f r) (Sum.inl x) = _
    by_cases h : p.1 = x
    · rw [if_pos h, valV_pos (by show Sum.inl p.1 = Sum.inl x; rw [h])]
      rfl
    · rw [if_neg h, valV_neg (fun z => h (Sum.inl.inj z)), ih]
theorem putK_A (f : β → V) (x : Int) (b : β) : ∀ l : List (Int × β), (keys l).Nodup → putK (kvA f l) (Sum.inl x) (f b) = kvA f (aput l x b)
  | [], _ => rfl
  | p :: r, hn => by
    obtain ⟨n1, n2⟩ := List.nodup_cons.mp (show (p.1 :: keys r).Nodup from hn)
    have ih := putK_A f x b r n2
    unfold putK at ih ⊢
    unfold aput
    rw [show kvA f (p :: r) = (Sum.inl p.1, f p.2) :: kvA f r from rfl]
    by_cases h : p.1 = x
    · rw [if_pos h, List.any_cons, show decide ((Sum.inl p.1 : Key) = Sum.inl x) = true from decide_eq_true (by rw [h]), Bool.true_or, if_pos rfl, List.map_cons, if_pos (by rw [h])]
      have same : (kvA f r).map (fun kv => if kv.1 = (Sum.inl x : Key) then (kv.1, f b) else kv) = kvA f r := by
        unfold kvA
        rw [List.map_map]
        refine List.map_congr_left fun q hq => ?_
        have : q.1 ≠ x := fun z => n1 (h ▸ z ▸ List.mem_map.mpr ⟨q, hq, rfl⟩)
        show (if (Sum.inl q.1 : Key) = Sum.inl x then _ else _) = _
        rw [if_neg fun z => this (Sum.inl.inj z)]
      rw [same]
      rfl
    · have hd : decide ((Sum.inl p.1 : Key) = Sum.inl x) = false := decide_eq_false fun z => h (Sum.inl.inj z)
      rw [if_neg h, List.any_cons, hd, Bool.false_or]
      show _ = (Sum.inl p.1, f p.2) :: kvA f (aput r x b)
      rw [← ih]
      by_cases z : ((kvA f r).any fun kv => decide (kv.1 = (Sum.inl x : Key))) = true
      · rw [if_pos z, if_pos z, List.map_cons, if_neg fun y => h (Sum.inl.inj y)]
      · rw [if_neg z, if_neg z]
        rfl
end
/-! ### dicts of one's own -/
theorem ok_dct {Ho Hi : Hp} {d : Addr} {kvs : List (Key × V)} (h : Ho d = some (.dK kvs)) : IsDct (kn Ho Hi) d kvs := .inl (kn_at h)
section
variable {β : Type} {f : β → V} {l : List (Int × β)} {σ : L2.St} {Hs0 H0 Ho Hi H Hs : Hp} {ta tb tc : TE} {D : Ends} {tz : TS} {d : Addr} {x : Int} {b : β} {K : PySem.W.Frag}
theorem ev_aget (h : IsDct Hs d (kvA f l)) (ha : Ev ta σ Hs (.ref d)) (hb : Ev tb σ Hs (.int x)) (hv : aget l x = some b) : Ev (tDGet ta tb) σ Hs (f b) :=
  ev_dget (k := Sum.inl x) h ha hb (by rw [valV_A, hv]; rfl)
theorem ev_ain (h : IsDct Hs d (kvA f l)) (hb : Ev tb σ Hs (.int x)) (ha : Ev ta σ Hs (.ref d)) : Ev (tDIn tb ta) σ Hs (.bl (aget l x).isSome) :=
  ev_to (ev_din (k := Sum.inl x) h hb ha) (by rw [valV_A, Option.isSome_map])
theorem ev_anotin (h : IsDct Hs d (kvA f l)) (hb : Ev tb σ Hs (.int x)) (ha : Ev ta σ Hs (.ref d)) : Ev (tDNotIn tb ta) σ Hs (.bl (!(aget l x).isSome)) :=
  ev_to (ev_dnotin (k := Sum.inl x) h hb ha) (by rw [valV_A, Option.isSome_map])
theorem ev_aget1 (h : IsDct Hs d (kvA f l)) (ha : Ev ta σ Hs (.ref d)) (hb : Ev tb σ Hs (.int x)) : Ev (tDGet1 ta tb) σ Hs (((aget l x).map f).getD .non) := fun H e Q q =>
  ha H e _ fun H2 e2 => ⟨d, rfl, .inl ⟨_, isDct_rd (isDct_ex (e.trans e2) h)⟩, hb H2 (e.trans e2) _ fun H3 e3 => ⟨_, .inl ⟨_, Sum.inl x, isDct_rd (isDct_ex ((e.trans e2).trans e3) h), rfl, rfl⟩, by rw [valV_A]; exact q H3 (e2.trans e3)⟩⟩
theorem s_oPut (w : Own Hs0 H0 Ho Hi H) (hd : Ho d = some (.dK (kvA f l))) (hn : (keys l).Nodup) (hv : Ev tc σ (kn Ho Hi) (f b)) (ha : Ev ta σ (kn Ho Hi) (.ref d)) (hb : Ev tb σ (kn Ho Hi) (.int x)) (hl : l.length ≤ 40000)
    (q : ∀ H2, Own Hs0 H0 (upd Ho d (.dK (kvA f (aput l x b)))) Hi H2 → D.nx σ H2) : sDPut ta tb tc D σ H :=
  s_dput (k := Sum.inl x) (w.o d _ hd).2.2 w.ek hv ha hb (by unfold kvA; rw [List.length_map]; exact hl) fun H2 e => q _ (by
    have := (w.up e).mut (u' := .dK (putK (kvA f l) (Sum.inl x) (f b))) hd
    rwa [putK_A f x b l hn] at this ⊢)
theorem q_oPut (w : Own Hs0 H0 Ho Hi H) (hd : Ho d = some (.dK (kvA f l))) (hn : (keys l).Nodup) (hv : Ev tc σ (kn Ho Hi) (f b)) (ha : Ev ta σ (kn Ho Hi) (.ref d)) (hb : Ev tb σ (kn Ho Hi) (.int x)) (hl : l.length ≤ 40000)
    (q : ∀ H2, Own Hs0 H0 (upd Ho d (.dK (kvA f (aput l x b)))) Hi H2 → tz D σ H2) : tSeq (sDPut ta tb tc) tz D σ H := s_oPut (D := { D with nx := tz D }) w hd hn hv ha hb hl q
/-- {k: v} -/
theorem q_oDisp {i : Nat} {v : V} (w : Own Hs0 H0 Ho Hi H) (hb : Ev tb σ Hi (.int x)) (hv : Ev tc σ Hi v) (k : ∀ d H2, Own Hs0 H0 (upd Ho d (.dK [(Sum.inl x, v)])) Hi H2 → (∀ q u, Ho q = some u → q ≠ d) → tz D (σ.set i (some (.ref d))) H2) :
    tSeq (tAsg (tDisp [(tb, tc)]) (gName i)) tz D σ H := fun p hp => by
  have w1 := w.new (Grow.up w.g.i (Ex.new hp)) hp (fresh_back w.g.i hp) (u := .dK []) upd_same
  refine hb _ w1.g.i _ fun H2 e2 => hv H2 (w1.up e2).g.i _ fun H3 e3 => ?_
  have w3 := (w1.up e2).up e3
  refine ⟨(w3.o p _ upd_same).2.2, [(Sum.inl x, v)], rfl, by show 1 ≤ 15; decide, ?_⟩
  have w4 := w3.mut (u' := .dK [(Sum.inl x, v)]) (p := p) upd_same
  have e : upd (upd Ho p (.dK [])) p (.dK [(Sum.inl x, v)]) = upd Ho p (.dK [(Sum.inl x, v)]) := by
    funext a
    by_cases h : a = p
    · subst h; rw [upd_same, upd_same]
    · rw [upd_ne h, upd_ne h, upd_ne h]
  rw [e] at w4
  exact k p _ w4 fun q u hq => w.ne hq hp
/-- x = l.pop() -/
theorem q_oPop {p : Addr} {xs : List V} {y : V} {i : Nat} (w : Own Hs0 H0 Ho Hi H) (hp : Ho p = some (.lst (xs ++ [y]))) (ho : Ev ta σ Hi (.ref p))
    (k : ∀ H2, Own Hs0 H0 (upd Ho p (.lst xs)) Hi H2 → tz D (σ.set i (some y)) H2) : tSeq (tAsg (tBM0 K "list" rPop ta) (gName i)) tz D σ H := ho H w.g.i _ fun H1 e1 =>
  have w1 := w.up e1
  ⟨.inl ⟨rfl, _, sq_of (w1.o p _ hp).2.2⟩, p, xs ++ [y], y, rfl, rfl, (w1.o p _ hp).2.2, by simp, by
    rw [List.dropLast_concat]
    exact k _ (w1.mut hp)⟩
theorem s_oDropPop {p : Addr} {xs : List V} {y : V} (w : Own Hs0 H0 Ho Hi H) (hp : Ho p = some (.lst (xs ++ [y]))) (ho : Ev ta σ Hi (.ref p))
    (k : ∀ H2, Own Hs0 H0 (upd Ho p (.lst xs)) Hi H2 → D.nx σ H2) : tDrop (tBM0 K "list" rPop ta) D σ H := ho H w.g.i _ fun H1 e1 =>
  have w1 := w.up e1
  ⟨.inl ⟨rfl, _, sq_of (w1.o p _ hp).2.2⟩, p, xs ++ [y], y, rfl, rfl, (w1.o p _ hp).2.2, by simp, by
    rw [List.dropLast_concat]
    exact k _ (w1.mut hp)⟩
/-- one's own, lent to a def that changes it -/
theorem Own.lend {u : HO} (w : Own Hs0 H0 Ho Hi H) (hd : Ho d = some u) : Own Hi (del H d) (upd emp d u) Hi H := by
  obtain ⟨a, c, e⟩ := w.o d u hd
  refine ⟨⟨Ex.refl _, del_ex, w.g.i, fun _ h _ => h⟩, fun p v h => ?_⟩
  by_cases z : p = d
  · subst z
    rw [upd_same] at h
    cases h
    exact ⟨del_same, c, e⟩
  · rw [upd_ne z] at h
    cases h
/-- .. and given back -/
theorem Own.given {u u' : HO} {Ho2 Hi2 H2 : Hp} (w : Own Hs0 H0 Ho Hi H) (hd : Ho d = some u) (w2 : Own Hi (del H d) Ho2 Hi2 H2) (h2 : Ho2 d = some u') : Own Hs0 H0 (upd Ho d u') Hi2 H2 := by
  obtain ⟨a, c, e⟩ := w.o d u hd
  have b : Ex H0 (del H d) := ex_del w.g.b a
  refine ⟨⟨w.g.s.trans w2.g.s, b.trans w2.g.b, w2.g.i, fun p x y => w2.g.f p (w.g.f p x y) (up_some b y)⟩, fun p v h => ?_⟩
  by_cases z : p = d
  · subst z
    rw [upd_same] at h
    cases h
    obtain ⟨_, c2, e2⟩ := w2.o p _ h2
    exact ⟨a, c2, e2⟩
  · rw [upd_ne z] at h
    obtain ⟨a1, c1, e1⟩ := w.o p v h
    have hp : del H d p = some v := by rw [del_at z]; exact e1
    exact ⟨a1, w2.g.f p c1 (by rw [hp]; exact fun y => nomatch y), w2.g.b p v hp⟩
theorem Own.poke {u u' : HO} {H2 : Hp} (w : Own Hs0 H0 Ho Hi H) (hd : Ho d = some u) (b : Ex (del H d) H2) (h2 : H2 d = some u') : Own Hs0 H0 (upd Ho d u') Hi H2 := by
  obtain ⟨a, c, e⟩ := w.o d u hd
  refine ⟨⟨w.g.s, (ex_del w.g.b a).trans b, (ex_del w.g.i c).trans b, w.g.f⟩, fun p v h => ?_⟩
  by_cases z : p = d
  · subst z
    rw [upd_same] at h
    cases h
    exact ⟨a, c, h2⟩
  · rw [upd_ne z] at h
    obtain ⟨a1, c1, e1⟩ := w.o p v h
    exact ⟨a1, c1, b p v (by rw [del_at z]; exact e1)⟩
end
section
variable {X : Cx} {pos : Pos} {k v : Expr} {tk tv : TE}
theorem pe_disp1 (hk : PE X k tk) (hv : PE X v tv) : PE X (.Dict [some k] [v] pos) (tDisp [(tk, tv)]) := pe_disp (pps_cons hk hv pps_nil) rfl rfl (fun h => nomatch h) (by show 1 ≤ 15; decide)
def rSortedD : List V → Hp → VK → Prop := fun xs H Q => ∃ (a : Addr) (kvs : List (Key × V)) (ks : List Int), xs = [.ref a] ∧ Rd H a (.dK kvs) ∧ kvs.map (·.1) = ks.map Sum.inl ∧ ks.length < 64 ∧ ∀ (ys : List Int) (p : Addr), ys.Perm ks → ys.Pairwise (· ≤ ·) → H p = none → Q (.ref p) (upd H p (.lst (ys.map V.int)))
theorem cr_sortedD (hc : X.calm = true) : CallR X (.builtin "sorted") rSortedD := call_sortedDI hc
def rLenD : List V → Hp → VK → Prop := fun xs H Q => ∃ a kvs, xs = [V.ref a] ∧ H a = some (.dK kvs) ∧ Q (.int kvs.length) H
theorem cr_lenD : CallR X (.builtin "len") rLenD := call_lenD
/-- one of two readings -/
def tEither (t1 t2 : TE) : TE := fun σ H Q => t1 σ H Q ∨ t2 σ H Q
theorem pe_either {e : Expr} {t1 t2 : TE} (h1 : PE X e t1) (h2 : PE X e t2) : PE X e (tEither t1 t2) := ⟨fun pins s σ H Q I h => h.elim (h1.run pins s σ H Q I) (h2.run pins s σ H Q I)⟩
end
section
variable {β : Type} {f : β → V} {l : List (Int × β)} {σ : L2.St} {Hs : Hp} {ta : TE} {d : Addr}
/-- sorted(d) -/
theorem ef_sortedD (h : Hs d = some (.dK (kvA f l))) (ha : Ev ta σ Hs (.ref d)) (hl : l.length < 64) : EvF (tCB rSortedD (tCons ta tNil)) σ Hs fun xs _ => ∃ ys : List Int, xs = ys.map V.int ∧ ys.Perm (keys l) ∧ ys.Pairwise (· ≤ ·) := fun H e Q q => ha H e _ fun H2 e2 =>
  ⟨d, _, keys l, rfl, .inl ((e.trans e2) _ _ h), by unfold kvA keys; rw [List.map_map, List.map_map]; rfl, by unfold keys; rw [List.length_map]; exact hl, fun ys p h1 h2 hp =>
    q p _ _ Hs (Grow.up e (e2.trans (Ex.new hp))) (fresh_back e2 hp) (fresh_back (e.trans e2) hp) upd_same ⟨ys, rfl, h1, h2⟩⟩
theorem ev_lenD (h : Hs d = some (.dK (kvA f l))) (ha : Ev ta σ Hs (.ref d)) : Ev (tCB rLenD (tCons ta tNil)) σ Hs (.int (l.length : Int)) := fun H e Q q => ha H e _ fun H2 e2 =>
  ⟨d, _, rfl, (e.trans e2) _ _ h, by unfold kvA; rw [List.length_map]; exact q H2 e2⟩
end
end LH

namespace LH
open PySem L2 Evl PyProof.Rows
/-! ### how many places a line owns -/
def cnt (n : Nat) (f : Nat → Bool) : Nat := ((List.range n).filter f).length
theorem cnt_succ (n : Nat) (f : Nat → Bool) : cnt (n + 1) f = cnt n f + (f n).toNat := by
  unfold cnt
  rw [List.range_succ, List.filter_append, List.length_append, List.filter_cons]
  cases f n <;> rfl
theorem cnt_congr {f g : Nat → Bool} : ∀ n : Nat, (∀ q, q < n → f q = g q) → cnt n f = cnt n g
  | 0, _ => rfl
  | n + 1, h => by rw [cnt_succ, cnt_succ, cnt_congr n fun q hq => h q (Nat.lt_succ_of_lt hq), h n (Nat.lt_succ_self n)]
theorem cnt_at {f g : Nat → Bool} {p : Nat} : ∀ n : Nat, p < n → (∀ q, q ≠ p → f q = g q) → cnt n f + (g p).toNat = cnt n g + (f p).toNat
  | 0, h, _ => absurd h (Nat.not_lt_zero _)
  | n + 1, hp, h => by
    rw [cnt_succ, cnt_succ]
    by_cases e : p = n
    · subst e
      rw [cnt_congr p fun q hq => h q (Nat.ne_of_lt hq)]
      omega
    · have ih := cnt_at n (by omega) h
      rw [h n fun z => e z.symm]
      omega
def deg (P : Int) (O : List (Int × Int)) (j : Int) : Nat := cnt P.toNat fun q => decide (aget O (q : Int) = some j)
theorem deg_put {P : Int} (O : List (Int × Int)) {p : Int} (i j : Int) (h0 : 0 ≤ p) (h1 : p < P) : deg P (aput O p i) j + (if aget O p = some j then 1 else 0) = deg P O j + if i = j then 1 else 0 := by
  obtain ⟨n, rfl⟩ : ∃ n : Nat, p = (n : Int) := ⟨p.toNat, by omega⟩
  have h := cnt_at (f := fun q : Nat => decide (aget (aput O (n : Int) i) (q : Int) = some j)) (g := fun q : Nat => decide (aget O (q : Int) = some j)) (p := n) P.toNat (by omega) fun q hq => by
    rw [aget_ne (by omega)]
  rw [aget_same] at h
  unfold deg
  have e1 : (decide (aget O (n : Int) = some j)).toNat = if aget O (n : Int) = some j then 1 else 0 := by
    by_cases z : aget O (n : Int) = some j
    · rw [if_pos z, decide_eq_true z]; rfl
    · rw [if_neg z, decide_eq_false z]; rfl
  have e2 : (decide (some i = some j)).toNat = if i = j then 1 else 0 := by
    by_cases z : i = j
    · rw [if_pos z, decide_eq_true (by rw [z])]; rfl
    · rw [if_neg z, decide_eq_false fun y => z (Option.some.inj y)]; rfl
  rw [e1, e2] at h
  exact h
theorem deg_nil (P : Int) (j : Int) : deg P [] j = 0 := by
  unfold deg cnt
  rw [List.filter_eq_nil_iff.mpr fun q _ => by show ¬ decide (none = some j) = true; simp]
  rfl
/-- owners within the places: no more of them than places -/
structure OwnOk (P : Int) (O : List (Int × Int)) : Prop where
  nd : (keys O).Nodup
  inr : ∀ q i, aget O q = some i → 0 ≤ q ∧ q < P
theorem map_len {β : Type} {P : Int} {l : List (Int × β)} (nd : (keys l).Nodup) (h : ∀ q, aget l q ≠ none → 0 ≤ q ∧ q < P) (hP : 0 ≤ P) : (l.length : Int) ≤ P := by
  have s := subset_len nd (m := (List.range P.toNat).map fun i : Nat => (i : Int)) fun x hx => by
    have := h x (aget_keys.mp hx)
    exact List.mem_map.mpr ⟨x.toNat, List.mem_range.mpr (by omega), by omega⟩
  unfold keys at s
  rw [List.length_map, List.length_map, List.length_range] at s
  omega
theorem OwnOk.len {P : Int} {O : List (Int × Int)} (h : OwnOk P O) (hP : 0 ≤ P) : (O.length : Int) ≤ P := map_len h.nd (fun q hq => by
  cases e : aget O q with
  | none => exact absurd e hq
  | some i => exact h.inr q i e) hP
theorem OwnOk.put {P : Int} {O : List (Int × Int)} (h : OwnOk P O) {p : Int} (i : Int) (h0 : 0 ≤ p) (h1 : p < P) : OwnOk P (aput O p i) := ⟨nodup_put h.nd p i, fun q j hq => by
  rw [aget_put] at hq
  by_cases e : q = p
  · rw [e]; exact ⟨h0, h1⟩
  · rw [if_neg e] at hq; exact h.inr q j hq⟩
/-- what the search knows: who takes a place, what a line gives up for it -/
structure Chain (P : Int) (O T : List (Int × Int)) (G : List (Int × Option Int)) (rk : Int → Nat) (w : Int) : Prop where
  t : ∀ q i, aget T q = some i → 0 ≤ q ∧ q < P ∧ aget G i ≠ none
  g : ∀ i q, aget G i = some (some q) → aget O q = some i ∧ ∃ i', aget T q = some i' ∧ rk i' < rk i
  w : ∀ i, aget G i = some none → i = w
structure Moved (P : Int) (O T O' : List (Int × Int)) (w : Int) : Prop where
  ok : OwnOk P O'
  from_ : ∀ q i, aget O' q = some i → aget O q = some i ∨ aget T q = some i
  deg : ∀ j, deg P O' j = deg P O j + if w = j then 1 else 0
/-- the handing over, step by step -/
inductive HandR (T : List (Int × Int)) (G : List (Int × Option Int)) : List (Int × Int) → Option Int → List (Int × Int) → Prop
  | done (O : List (Int × Int)) : HandR T G O none O
  | step {O R : List (Int × Int)} {p i : Int} {v : Option Int} : aget T p = some i → aget G i = some v → HandR T G (aput O p i) v R → HandR T G O (some p) R
theorem HandR.det {T : List (Int × Int)} {G : List (Int × Option Int)} {O : List (Int × Int)} {v : Option Int} {R R' : List (Int × Int)} (h : HandR T G O v R) (h' : HandR T G O v R') : R = R' := by
  induction h with
  | done O => cases h'; rfl
  | step h1 h2 h3 ih =>
    cases h' with
    | step g1 g2 g3 =>
      rw [h1] at g1
      cases g1
      rw [h2] at g2
      cases g2
      exact ih g3
def oI : Option Int → V | none => .non | some q => .int q
def sp_hand_over (_ : Cn) : Sp := fun vs H Q _ => ∃ (d t g : Addr) (P w p : Int) (O T : List (Int × Int)) (G : List (Int × Option Int)) (rk : Int → Nat), vs = [.ref d, .ref t, .ref g, .int p] ∧ d ≠ t ∧ d ≠ g ∧
  H d = some (.dK (kvA V.int O)) ∧ H t = some (.dK (kvA V.int T)) ∧ H g = some (.dK (kvA oI G)) ∧ (0 ≤ P ∧ P ≤ 60) ∧ OwnOk P O ∧ Chain P O T G rk w ∧ aget O p = none ∧ aget T p ≠ none ∧
  ∀ O' H2, Moved P O T O' w → HandR T G O (some p) O' → Ex (del H d) H2 → H2 d = some (.dK (kvA V.int O')) → Q .non H2
/-- what is handed over so far -/
structure Hand (P : Int) (O T O' : List (Int × Int)) (c : Option Int) : Prop where
  ok : OwnOk P O'
  from_ : ∀ q i, aget O' q = some i → aget O q = some i ∨ aget T q = some i
  deg : ∀ j, deg P O' j = deg P O j + if c = some j then 1 else 0
def t_hand_over (c : Cn) : TS := (tWhile (tTest (tOp rNotN (tVar 3) (tC .non))) (tSeq (tAsg (tDGet (tVar 1) (tVar 3)) (gName 4)) (tSeq (sDPut (tVar 0) (tVar 3) (tVar 4)) (tAsg (tDGet (tVar 2) (tVar 4)) (gName 3)))))
section
variable {c : Cn} {vs : List V} {H : Hp} {Q : VK} {E : XK} {σ : L2.St} {Hs : Hp} {ta tb tc td te : TE}
theorem rd_hand_over (h : sp_hand_over c vs H Q E) : t_hand_over c { nx := fun _ H' => Q .non H', rt := Q } (start ["owners", "takers", "gives_up", "place", "taker"] vs) H := by
  obtain ⟨d, t, g, P, w, p, O, T, G, rk, rfl, dt, dg, hd, ht, hg, hP, ok, ch, h0, h1, k⟩ := h
  refine s_while (fun m σ' H' => ∃ O' pv y4 c, σ' = [some (.ref d), some (.ref t), some (.ref g), some pv, y4] ∧ Ex (del H d) H' ∧ H' d = some (.dK (kvA V.int O')) ∧ Hand P O T O' c ∧
    ((pv = .non ∧ c = some w ∧ ∀ R, HandR T G O' none R → HandR T G O (some p) R) ∨ ∃ p2 i, pv = .int p2 ∧ (∀ R, HandR T G O' (some p2) R → HandR T G O (some p) R) ∧ aget T p2 = some i ∧ rk i < m ∧ aget O' p2 = c ∧ ∀ q i', aget T q = some i' → rk i' < rk i → aget O' q = aget O q))
    (match aget T p with | some i => rk i + 1 | none => 0) ?_ ?_
  · cases e : aget T p with
    | none => exact absurd e h1
    | some i => exact ⟨O, .int p, none, none, rfl, del_ex, hd, ⟨ok, fun q i h => .inl h, fun j => by simp⟩, .inr ⟨p, i, rfl, fun _ h => h, e, Nat.lt_succ_self _, h0, fun _ _ _ _ => rfl⟩⟩
  · rintro m σ' H' ⟨O', pv, y4, c, rfl, ex, hd', hh, hc⟩
    have ht' : H' t = some (.dK (kvA V.int T)) := ex _ _ (by rw [del_at dt.symm]; exact ht)
    have hg' : H' g = some (.dK (kvA oI G)) := ex _ _ (by rw [del_at dg.symm]; exact hg)
    rcases hc with ⟨rfl, rfl, hr⟩ | ⟨p2, i, rfl, hr, hT, hm, hp, agree⟩
    · refine ⟨false, et_test (ev_to (ev_notN (ev_var rfl)) rfl), (fun z => nomatch z), fun _ H1 e1 => ?_⟩
      exact k O' H1 ⟨hh.ok, hh.from_, fun j => by rw [hh.deg]; simp⟩ (hr O' (.done O')) (ex.trans e1) (e1 _ _ hd')
    · refine ⟨true, et_test (ev_to (ev_notN (ev_var rfl)) rfl), fun _ H1 e1 => ?_, (fun z => nomatch z)⟩
      refine ⟨fun σ2 H2 => ∃ m', m' < m ∧ ∃ O' pv y4 c, σ2 = [some (.ref d), some (.ref t), some (.ref g), some pv, y4] ∧ Ex (del H d) H2 ∧ H2 d = some (.dK (kvA V.int O')) ∧ Hand P O T O' c ∧
        ((pv = .non ∧ c = some w ∧ ∀ R, HandR T G O' none R → HandR T G O (some p) R) ∨ ∃ p2 i, pv = .int p2 ∧ (∀ R, HandR T G O' (some p2) R → HandR T G O (some p) R) ∧ aget T p2 = some i ∧ rk i < m' ∧ aget O' p2 = c ∧ ∀ q i', aget T q = some i' → rk i' < rk i → aget O' q = aget O q), fun _ _ h => h, ?_⟩
      obtain ⟨r0, r1, hGi⟩ := ch.t p2 i hT
      have hl := hh.ok.len hP.1
      refine q_set (Hs := H') (ev_aget (f := V.int) (.inl ht') (ev_var rfl) (ev_var rfl) hT) e1 fun H2 e2 => ?_
      have e02 := e1.trans e2
      refine q_dput (k := Sum.inl p2) (Hs := H') (e02 _ _ hd') e02 (ev_var (v := .int i) rfl) (ev_var rfl) (ev_var rfl) (by unfold kvA; rw [List.length_map]; omega) fun H3 e3 => ?_
      rw [putK_A V.int p2 i O' hh.ok.nd]
      have ex3 : Ex (del H d) (upd H3 d (.dK (kvA V.int (aput O' p2 i)))) := ((ex.trans e02).trans e3).mut del_same
      have hg3 : upd H3 d (.dK (kvA V.int (aput O' p2 i))) g = some (.dK (kvA oI G)) := ex3 _ _ (by rw [del_at dg.symm]; exact hg)
      cases eG : aget G i with
      | none => exact absurd eG hGi
      | some v =>
        refine s_set (Hs := upd H3 d (.dK (kvA V.int (aput O' p2 i)))) (ev_aget (f := oI) (.inl hg3) (ev_var rfl) (ev_var rfl) eG) (Ex.refl _) fun H4 e4 => ?_
        have hand : Hand P O T (aput O' p2 i) (some i) := by
          refine ⟨hh.ok.put i r0 r1, fun q j hq => ?_, fun j => ?_⟩
          · rw [aget_put] at hq
            by_cases e : q = p2
            · rw [if_pos e] at hq
              cases hq
              rw [e]; exact .inr hT
            · rw [if_neg e] at hq; exact hh.from_ q j hq
          · have h1 := deg_put O' (P := P) i j r0 r1
            have h2 := hh.deg j
            rw [hp] at h1
            have e5 : (if some i = some j then (1 : Nat) else 0) = if i = j then 1 else 0 := by
              by_cases z : i = j
              · rw [if_pos z, if_pos (by rw [z])]
              · rw [if_neg z, if_neg fun y => z (Option.some.inj y)]
            rw [e5]
            omega
        cases v with
        | none =>
          have := ch.w i eG
          subst this
          exact ⟨0, Nat.lt_of_le_of_lt (Nat.zero_le _) hm, _, .non, _, some i, rfl, ex3.trans e4, e4 _ _ upd_same, hand, .inl ⟨rfl, rfl, fun R h => hr R (.step hT eG h)⟩⟩
        | some q =>
          obtain ⟨hO, i', hT', hrk⟩ := ch.g i q eG
          have qp : q ≠ p2 := fun z => by rw [z, hT] at hT'; cases hT'; omega
          refine ⟨rk i, hm, _, .int q, _, some i, rfl, ex3.trans e4, e4 _ _ upd_same, hand, .inr ⟨q, i', rfl, fun R h => hr R (.step hT eG h), hT', hrk, ?_, fun q2 i2 h2 h3 => ?_⟩⟩
          · rw [aget_ne qp, agree q i' hT' hrk, hO]
          · rw [aget_ne (fun z => by rw [z, hT] at h2; cases h2; omega)]
            exact agree q2 i2 h2 (Nat.lt_trans h3 hrk)
end
end LH

namespace LH
open PySem L2 Evl PyProof.Rows
/-! ### one more place for a line, or lines that have too few -/
theorem some_ne {α : Type} {a : α} : some a ≠ none := fun h => nomatch h
/-- place q stands in line i -/
def InL (ls : List (List Int)) (q i : Int) : Prop := 0 ≤ i ∧ ∃ l, ls[i.toNat]? = some l ∧ q ∈ l
/-- a line's places, one by one: who takes them, what is given up for them; it stops at a place that nobody owns -/
def scanM (O : List (Int × Int)) (i : Int) : List Int → List (Int × Int) → List (Int × Option Int) → List Int → Option Int × List (Int × Int) × List (Int × Option Int) × List Int
  | [], T, G, wl => (none, T, G, wl)
  | q :: r, T, G, wl => match aget T q with
    | some _ => scanM O i r T G wl
    | none => match aget O q with
      | none => (some q, aput T q i, G, wl)
      | some j => match aget G j with
        | some _ => scanM O i r (aput T q i) G wl
        | none => scanM O i r (aput T q i) (aput G j (some q)) (wl ++ [j])
theorem scan_cons (O : List (Int × Int)) (i q : Int) (r : List Int) (T : List (Int × Int)) (G : List (Int × Option Int)) (wl : List Int) : scanM O i (q :: r) T G wl = match aget T q with
    | some _ => scanM O i r T G wl
    | none => match aget O q with
      | none => (some q, aput T q i, G, wl)
      | some j => match aget G j with
        | some _ => scanM O i r (aput T q i) G wl
        | none => scanM O i r (aput T q i) (aput G j (some q)) (wl ++ [j]) := rfl
theorem scan_app {O : List (Int × Int)} {i : Int} {r : List Int} {T' : List (Int × Int)} {G' : List (Int × Option Int)} {wl' : List Int} : ∀ {l : List Int} {T : List (Int × Int)} {G : List (Int × Option Int)} {wl : List Int},
    scanM O i l T G wl = (none, T', G', wl') → scanM O i (l ++ r) T G wl = scanM O i r T' G' wl'
  | [], T, G, wl, h => by cases h; rfl
  | q :: l, T, G, wl, h => by
    rw [List.cons_append, scan_cons]
    rw [scan_cons] at h
    cases e1 : aget T q with
    | some _ => rw [e1] at h; exact scan_app h
    | none =>
      rw [e1] at h
      cases e2 : aget O q with
      | none => rw [e2] at h; cases h
      | some j =>
        rw [e2] at h
        dsimp only at h ⊢
        cases e3 : aget G j with
        | some _ => rw [e3] at h; exact scan_app h
        | none => rw [e3] at h; exact scan_app h
inductive Res where
  | short (G : List (Int × Option Int))
  | free (q : Int) (T : List (Int × Int)) (G : List (Int × Option Int))
inductive SearchR (ls : List (List Int)) (O : List (Int × Int)) : List (Int × Int) → List (Int × Option Int) → List Int → Res → Prop
  | stop {T : List (Int × Int)} {G : List (Int × Option Int)} {w0 : List Int} : w0 = [] → SearchR ls O T G w0 (.short G)
  | turn {T T' : List (Int × Int)} {G G' : List (Int × Option Int)} {w0 wl wl' l : List Int} {i : Int} {r : Res} : w0 = wl ++ [i] → ls[i.toNat]? = some l → scanM O i l T G wl = (none, T', G', wl') → SearchR ls O T' G' wl' r → SearchR ls O T G w0 r
  | free {T T' : List (Int × Int)} {G G' : List (Int × Option Int)} {w0 wl wl' l : List Int} {i q : Int} : w0 = wl ++ [i] → ls[i.toNat]? = some l → scanM O i l T G wl = (some q, T', G', wl') → SearchR ls O T G w0 (.free q T' G')
theorem snoc_inj {α : Type} {a b : List α} {x y : α} (h : a ++ [x] = b ++ [y]) : a = b ∧ x = y := by
  obtain ⟨h1, h2⟩ := List.append_inj' h rfl
  exact ⟨h1, (List.cons.inj h2).1⟩
theorem SearchR.det {ls : List (List Int)} {O T : List (Int × Int)} {G : List (Int × Option Int)} {wl : List Int} {r r' : Res} (h : SearchR ls O T G wl r) (h' : SearchR ls O T G wl r') : r = r' := by
  induction h with
  | stop e0 =>
    subst e0
    cases h' with
    | stop => rfl
    | turn e _ _ _ => exact absurd e.symm (by simp)
    | free e _ _ => exact absurd e.symm (by simp)
  | turn e l s _ ih =>
    subst e
    cases h' with
    | stop e2 => exact absurd e2 (by simp)
    | turn e2 l2 s2 k2 =>
      obtain ⟨rfl, rfl⟩ := snoc_inj e2
      rw [l] at l2
      cases l2
      rw [s] at s2
      cases s2
      exact ih k2
    | free e2 l2 s2 =>
      obtain ⟨rfl, rfl⟩ := snoc_inj e2
      rw [l] at l2
      cases l2
      rw [s] at s2
      cases s2
  | free e l s =>
    subst e
    cases h' with
    | stop e2 => exact absurd e2 (by simp)
    | turn e2 l2 s2 k2 =>
      obtain ⟨rfl, rfl⟩ := snoc_inj e2
      rw [l] at l2
      cases l2
      rw [s] at s2
      cases s2
    | free e2 l2 s2 =>
      obtain ⟨rfl, rfl⟩ := snoc_inj e2
      rw [l] at l2
      cases l2
      rw [s] at s2
      cases s2
      rfl
theorem sorted_eq : ∀ {a b : List Int}, a.Pairwise (· < ·) → b.Pairwise (· < ·) → (∀ x, x ∈ a ↔ x ∈ b) → a = b
  | [], [], _, _, _ => rfl
  | [], y :: b, _, _, h => nomatch (h y).mpr List.mem_cons_self
  | x :: a, [], _, _, h => nomatch (h x).mp List.mem_cons_self
  | x :: a, y :: b, ha, hb, h => by
    obtain ⟨a1, a2⟩ := List.pairwise_cons.mp ha
    obtain ⟨b1, b2⟩ := List.pairwise_cons.mp hb
    have e : x = y := by
      rcases List.mem_cons.mp ((h x).mp List.mem_cons_self) with z | z
      · exact z
      · rcases List.mem_cons.mp ((h y).mpr List.mem_cons_self) with u | u
        · exact u.symm
        · have := b1 x z
          have := a1 y u
          omega
    subst e
    refine congrArg (x :: ·) (sorted_eq a2 b2 fun z => ⟨fun hz => ?_, fun hz => ?_⟩)
    · have := a1 z hz
      exact (List.mem_cons.mp ((h z).mp (List.mem_cons_of_mem _ hz))).resolve_left fun u => by omega
    · have := b1 z hz
      exact (List.mem_cons.mp ((h z).mpr (List.mem_cons_of_mem _ hz))).resolve_left fun u => by omega
/-- one more place for line w: the owners behind it; or the lines that are too many -/
inductive GiveR (ls : List (List Int)) (O : List (Int × Int)) (w : Int) : List Int → List (Int × Int) → Prop
  | short {G : List (Int × Option Int)} {S : List Int} : SearchR ls O [] [(w, none)] [w] (.short G) → (∀ i, i ∈ S ↔ aget G i ≠ none) → S.Pairwise (· < ·) → GiveR ls O w S O
  | more {q : Int} {T O' : List (Int × Int)} {G : List (Int × Option Int)} : SearchR ls O [] [(w, none)] [w] (.free q T G) → HandR T G O (some q) O' → GiveR ls O w [] O'
theorem GiveR.det {ls : List (List Int)} {O O1 O2 : List (Int × Int)} {w : Int} {S S' : List Int} (h : GiveR ls O w S O1) (h' : GiveR ls O w S' O2) : S = S' ∧ O1 = O2 := by
  cases h with
  | short s1 m1 p1 =>
    cases h' with
    | short s2 m2 p2 =>
      cases s1.det s2
      exact ⟨sorted_eq p1 p2 fun x => (m1 x).trans (m2 x).symm, rfl⟩
    | more s2 _ => cases s1.det s2
  | more s1 k1 =>
    cases h' with
    | short s2 _ _ => cases s1.det s2
    | more s2 k2 =>
      cases s1.det s2
      exact ⟨rfl, k1.det k2⟩
structure Srch (P : Int) (ls : List (List Int)) (O T : List (Int × Int)) (G : List (Int × Option Int)) (wl : List Int) (rk : Int → Nat) (w : Int) : Prop where
  gnd : (keys G).Nodup
  tnd : (keys T).Nodup
  gin : ∀ i, aget G i ≠ none → 0 ≤ i ∧ i < (ls.length : Int)
  ch : Chain P O T G rk w
  gw : aget G w ≠ none
  rkb : ∀ i, aget G i ≠ none → rk i < G.length
  tin : ∀ q i, aget T q = some i → InL ls q i
  town : ∀ q i, aget T q = some i → ∃ j, aget O q = some j ∧ aget G j ≠ none
  wsub : ∀ i ∈ wl, aget G i ≠ none
section
variable {P : Int} {ls : List (List Int)} {O T : List (Int × Int)} {G : List (Int × Option Int)} {wl : List Int} {rk : Int → Nat} {w q i j : Int}
theorem chain_put (ch : Chain P O T G rk w) (hq : aget T q = none) (hi : aget G i ≠ none) (h0 : 0 ≤ q) (h1 : q < P) : Chain P O (aput T q i) G rk w := by
  refine ⟨fun q2 i2 h => ?_, fun i2 q2 h => ?_, ch.w⟩
  · rw [aget_put] at h
    by_cases e : q2 = q
    · rw [if_pos e] at h
      cases h
      rw [e]; exact ⟨h0, h1, hi⟩
    · rw [if_neg e] at h; exact ch.t q2 i2 h
  · obtain ⟨a, i', b, c⟩ := ch.g i2 q2 h
    refine ⟨a, i', ?_, c⟩
    rw [aget_ne fun z => by rw [z, hq] at b; cases b]
    exact b
theorem Srch.same (s : Srch P ls O T G wl rk w) (hq : aget T q = none) (hi : aget G i ≠ none) (hin : InL ls q i) (h0 : 0 ≤ q) (h1 : q < P) (hj : aget O q = some j) (hG : aget G j ≠ none) : Srch P ls O (aput T q i) G wl rk w := by
  refine ⟨s.gnd, nodup_put s.tnd q i, s.gin, chain_put s.ch hq hi h0 h1, s.gw, s.rkb, fun q2 i2 h => ?_, fun q2 i2 h => ?_, s.wsub⟩
  · rw [aget_put] at h
    by_cases e : q2 = q
    · rw [if_pos e] at h
      cases h
      rw [e]; exact hin
    · rw [if_neg e] at h; exact s.tin q2 i2 h
  · rw [aget_put] at h
    by_cases e : q2 = q
    · rw [e]; exact ⟨j, hj, hG⟩
    · rw [if_neg e] at h; exact s.town q2 i2 h
theorem put_len {β : Type} {l : List (Int × β)} {x : Int} {b : β} (h : aget l x = none) : (aput l x b).length = l.length + 1 := by
  have e := congrArg List.length (keys_put x b l)
  rw [if_neg (fun z => (aget_keys.mp z) h), List.length_append] at e
  unfold keys at e
  simpa using e
theorem Srch.more (s : Srch P ls O T G wl rk w) (hq : aget T q = none) (hi : aget G i ≠ none) (hin : InL ls q i) (h0 : 0 ≤ q) (h1 : q < P) (hj : aget O q = some j) (hjl : 0 ≤ j ∧ j < (ls.length : Int)) (hG : aget G j = none) :
    Srch P ls O (aput T q i) (aput G j (some q)) (wl ++ [j]) (fun x => if x = j then G.length else rk x) w := by
  have kG : ∀ x, aget G x ≠ none → x ≠ j := fun x hx z => hx (z ▸ hG)
  have pG : ∀ x, aget G x ≠ none → aget (aput G j (some q)) x ≠ none := fun x hx => by rw [aget_ne (kG x hx)]; exact hx
  have qG : ∀ x, aget (aput G j (some q)) x ≠ none → x = j ∨ aget G x ≠ none := fun x hx => by
    by_cases e : x = j
    · exact .inl e
    · rw [aget_ne e] at hx; exact .inr hx
  have cp := chain_put s.ch hq hi h0 h1
  refine ⟨nodup_put s.gnd j _, nodup_put s.tnd q i, fun x hx => ?_, ⟨fun q2 i2 h => ?_, fun i2 q2 h => ?_, fun i2 h => ?_⟩, pG w s.gw, fun x hx => ?_, fun q2 i2 h => ?_, fun q2 i2 h => ?_, fun x hx => ?_⟩
  · rcases qG x hx with e | e
    · rw [e]; exact hjl
    · exact s.gin x e
  · obtain ⟨a, b, c⟩ := cp.t q2 i2 h
    exact ⟨a, b, pG i2 c⟩
  · by_cases e : i2 = j
    · subst e
      rw [aget_same] at h
      cases h
      refine ⟨hj, i, aget_same _ _ _, ?_⟩
      show (if i = i2 then _ else _) < (if i2 = i2 then _ else _)
      rw [if_neg (kG i hi), if_pos rfl]
      exact s.rkb i hi
    · rw [aget_ne e] at h
      obtain ⟨a, i', b, c⟩ := cp.g i2 q2 h
      refine ⟨a, i', b, ?_⟩
      show (if i' = j then _ else _) < (if i2 = j then _ else _)
      rw [if_neg (kG i' (cp.t q2 i' b).2.2), if_neg e]
      exact c
  · by_cases e : i2 = j
    · subst e
      rw [aget_same] at h
      cases h
    · rw [aget_ne e] at h; exact s.ch.w i2 h
  · rw [put_len hG]
    rcases qG x hx with e | e
    · show (if x = j then _ else _) < _
      rw [if_pos e]; exact Nat.lt_succ_self _
    · show (if x = j then _ else _) < _
      rw [if_neg (kG x e)]
      exact Nat.lt_succ_of_lt (s.rkb x e)
  · rw [aget_put] at h
    by_cases e : q2 = q
    · rw [if_pos e] at h
      cases h
      rw [e]; exact hin
    · rw [if_neg e] at h; exact s.tin q2 i2 h
  · rw [aget_put] at h
    by_cases e : q2 = q
    · rw [e]; exact ⟨j, hj, by rw [aget_same]; exact fun z => nomatch z⟩
    · rw [if_neg e] at h
      obtain ⟨j2, a, b⟩ := s.town q2 i2 h
      exact ⟨j2, a, pG j2 b⟩
  · rcases List.mem_append.mp hx with z | z
    · exact pG x (s.wsub x z)
    · rw [List.mem_singleton.mp z, aget_same]; exact fun y => nomatch y
theorem Srch.glen (s : Srch P ls O T G wl rk w) : G.length ≤ ls.length := by
  have := map_len s.gnd s.gin (by omega)
  omega
end
/-- lines that have too few: every place of theirs belongs to one of them -/
structure Short (ls : List (List Int)) (O : List (Int × Int)) (S : List Int) (w : Int) : Prop where
  mem : w ∈ S
  up : S.Pairwise (· < ·)
  inr : ∀ i ∈ S, 0 ≤ i ∧ i < (ls.length : Int)
  cl : ∀ i ∈ S, ∀ q, InL ls q i → ∃ j ∈ S, aget O q = some j
/-- what the owners are: of places of their own lines -/
structure Owns (P : Int) (ls : List (List Int)) (O : List (Int × Int)) : Prop where
  ok : OwnOk P O
  inl : ∀ q i, aget O q = some i → InL ls q i
structure Bd (P : Int) (ls : List (List Int)) : Prop where
  p : 0 ≤ P ∧ P ≤ 60
  few : ls.length ≤ 60
  len : ∀ l ∈ ls, l.length ≤ 60
  inr : ∀ l ∈ ls, ∀ x ∈ l, 0 ≤ x ∧ x < P
def sp_give_one_more (_ : Cn) : Sp := fun vs H Q _ => ∃ (Hs : Hp) (d : Addr) (u : V) (P w : Int) (ls : List (List Int)) (O : List (Int × Int)), vs = [u, .ref d, .int w] ∧ Own Hs (del H d) (upd emp d (.dK (kvA V.int O))) Hs H ∧ cL (cL cI) ls Hs u ∧
  Bd P ls ∧ Owns P ls O ∧ (0 ≤ w ∧ w < (ls.length : Int)) ∧
  ∀ v S O' Ho2 Hi2 H2, Own Hs (del H d) Ho2 Hi2 H2 → Ho2 d = some (.dK (kvA V.int O')) → cL cI S Hi2 v →
    ((S = [] ∧ Owns P ls O' ∧ ∀ j, deg P O' j = deg P O j + if w = j then 1 else 0) ∨ (O' = O ∧ Short ls O S w)) → GiveR ls O w S O' → Q v H2
def t_give_one_more (c : Cn) : TS := (tSeq (tAsg (tDisp [((tVar 2), (tC .non))]) (gName 3)) (tSeq (tAsg tDNewK (gName 4)) (tSeq (tAsg (tLst (tCons (tVar 2) tNil)) (gName 5)) (tSeq (tWhile (tTest (tOp rGtI (tCB (rLenA c.K) (tCons (tVar 5) tNil)) (tC (.int 0)))) (tSeq (tAsg (tBM0 c.K "list" rPop (tVar 5)) (gName 6)) (tFor (iList c.K (tOp (rIx c.K) (tVar 0) (tVar 6))) (gName 7) (tSeq (tIfS (tB (tDIn (tVar 7) (tVar 4))) tCont tNext) (tSeq (sDPut (tVar 4) (tVar 7) (tVar 6)) (tSeq (tIfS (tB (tDNotIn (tVar 7) (tVar 1))) (tSeq (tDrop (tCall (sp_hand_over c) [] C8.E0 (tCons (tVar 1) (tCons (tVar 4) (tCons (tVar 3) (tCons (tVar 7) tNil)))))) (tRet (tLst tNil))) tNext) (tSeq (tAsg (tDGet (tVar 1) (tVar 7)) (gName 8)) (tIfS (tB (tDNotIn (tVar 8) (tVar 3))) (tSeq (sDPut (tVar 3) (tVar 8) (tVar 7)) (tDrop (tBM c.K "list" rAppend (tVar 5) (tCons (tVar 8) tNil)))) tNext)))))))) (tRet (tCB rSortedD (tCons (tVar 3) tNil)))))))
theorem q_dropCall {sp : Sp} {dvs vs : List V} {E : XK} {targ : TA} {σ : L2.St} {Hs H : Hp} {tz : TS} {D : Ends} (h : EvA targ σ Hs vs) (e : Ex Hs H) (k : ∀ H2, Ex H H2 → sp (vs ++ dvs) H2 (fun _ H3 => tz D σ H3) E) : tSeq (tDrop (tCall sp dvs E targ)) tz D σ H := h H e _ k
theorem Own.learn {Hs0 H0 Ho Hi H : Hp} {p : Addr} {u : HO} (w : Own Hs0 H0 Ho Hi H) (h0 : H0 p = none) (hp : Ho p = none) (h : H p = some u) : Own Hs0 H0 Ho (upd Hi p u) H :=
  ⟨w.g.know h0 h, fun q v hq => by
    obtain ⟨a, b, c⟩ := w.o q v hq
    refine ⟨a, ?_, c⟩
    rw [upd_ne fun z => by rw [z, hp] at hq; cases hq]
    exact b⟩
section
variable {c : Cn} {vs : List V} {H : Hp} {Q : VK} {E : XK} {σ : L2.St} {Hs : Hp} {ta tb tc td te : TE}
theorem rd_give_one_more (h : sp_give_one_more c vs H Q E) : t_give_one_more c { nx := fun _ H' => Q .non H', rt := Q } (start ["lines", "owners", "wanting", "gives_up", "takers", "waiting", "count", "place", "owner"] vs) H := by
  obtain ⟨Hs, d, u, P, w, ls, O, rfl, w0, hl, bd, ow, hw, k⟩ := h
  have hd0 : upd emp d (.dK (kvA V.int O)) d = some (.dK (kvA V.int O)) := upd_same
  refine q_oDisp w0 (ev_var rfl) ev_c fun g H1 w1 n1 => ?_
  have dg := n1 d _ hd0
  refine q_oD w1 fun t H2 w2 n2 => ?_
  have dt := n2 d _ (by rw [upd_ne dg]; exact hd0)
  have gt := n2 g _ upd_same
  refine q_oF w2 (ef_lst (as_ea (ea_cons (ev_var rfl) ea_nil)) fun vs H p => by rw [p]; show 1 ≤ 40000; decide) fun p xs Hi H3 w3 e3 n3 hx => ?_
  subst hx
  have dp := n3 d _ (by rw [upd_ne dt, upd_ne dg]; exact hd0)
  have gp := n3 g _ (by rw [upd_ne gt]; exact upd_same)
  have tp := n3 t _ upd_same
  have hP := bd.p
  have few := bd.few
  have hwn : w.toNat < ls.length := by omega
  refine q_while (fun m σ' H' => ∃ G T wl rk y6 y7 y8 Ho Hi, σ' = [some u, some (.ref d), some (.int w), some (.ref g), some (.ref t), some (.ref p), y6, y7, y8] ∧ Own Hs (del H d) Ho Hi H' ∧ Ex Hs Hi ∧
      Ho d = some (.dK (kvA V.int O)) ∧ Ho g = some (.dK (kvA oI G)) ∧ Ho t = some (.dK (kvA V.int T)) ∧ Ho p = some (.lst (wl.map V.int)) ∧ Srch P ls O T G wl rk w ∧ (∀ i, aget G i ≠ none → i ∉ wl → ∀ q, InL ls q i → aget T q ≠ none) ∧ m + G.length = ls.length + wl.length ∧ m ≤ ls.length ∧ ∀ r, SearchR ls O T G wl r → SearchR ls O [] [(w, none)] [w] r)
    ls.length ⟨[(w, none)], [], [w], fun _ => 0, none, none, none, _, Hi, rfl, w3, e3, by rw [upd_ne dp, upd_ne dt, upd_ne dg]; exact hd0, by rw [upd_ne gp, upd_ne gt]; exact upd_same, by rw [upd_ne tp]; exact upd_same, upd_same, ?_, ?_, rfl, Nat.le_refl _, fun _ h => h⟩ ?_
  · have k1 : ∀ i, aget [(w, (none : Option Int))] i ≠ none → i = w := fun i hi => by
      by_cases e : w = i
      · exact e.symm
      · exact absurd (by unfold aget aget; rw [if_neg e]) hi
    refine ⟨by show [w].Nodup; simp, List.nodup_nil, fun i hi => by rw [k1 i hi]; exact hw, ⟨fun _ _ h => (nomatch h), fun i q h => ?_, fun i h => k1 i (by rw [h]; exact fun z => nomatch z)⟩, (by unfold aget; rw [if_pos rfl]; exact (fun z => nomatch z)), fun i hi => Nat.lt_succ_self 0, fun _ _ h => (nomatch h), fun _ _ h => (nomatch h), fun i hi => ?_⟩
    · unfold aget at h
      by_cases e : w = i
      · rw [if_pos e] at h; cases h
      · rw [if_neg e] at h; cases h
    · rw [List.mem_singleton.mp hi]
      unfold aget
      rw [if_pos rfl]
      exact fun z => nomatch z
  · intro i hi hn
    exfalso
    by_cases e : w = i
    · exact hn (by rw [e]; simp)
    · exact hi (by unfold aget aget; rw [if_neg e])
  · rintro m σ' H' ⟨G0, T0, wl, rk, y6, y7, y8, Ho, Hi, rfl, ww, ei, hd, hg, ht, hp, s, cl, hm, hmn, hsr⟩
    have kp : cL cI wl (kn Ho Hi) (.ref p) := ints_cL (kn_at hp)
    have gl := s.glen
    refine ⟨decide (0 < wl.length), ?_, fun hb H4 e4 => ?_, fun hb H4 e4 => ?_⟩
    · intro H4 e4 Q4 k4
      exact (et_test (ev_to (ev_gt (ev_lenC (c := cI) (ec_var rfl kp)) ev_c) (by congr 1; exact decide_eq_decide.mpr (by omega)))) H4 (ww.up e4).ek Q4 k4
    · replace ww := ww.up e4
      have hb' : 0 < wl.length := of_decide_eq_true hb
      obtain ⟨wl', i, rfl⟩ : ∃ wl' i, wl = wl' ++ [i] := ⟨wl.dropLast, wl.getLast (List.length_pos_iff.mp hb'), (List.dropLast_concat_getLast _).symm⟩
      rw [List.length_append, List.length_singleton] at hm
      obtain ⟨m, rfl⟩ : ∃ n, m = n + 1 := ⟨m - 1, by omega⟩
      refine ⟨fun σ2 H2 => ∃ m', m' < m + 1 ∧ ∃ G T wl rk y6 y7 y8 Ho Hi, σ2 = [some u, some (.ref d), some (.int w), some (.ref g), some (.ref t), some (.ref p), y6, y7, y8] ∧ Own Hs (del H d) Ho Hi H2 ∧ Ex Hs Hi ∧
        Ho d = some (.dK (kvA V.int O)) ∧ Ho g = some (.dK (kvA oI G)) ∧ Ho t = some (.dK (kvA V.int T)) ∧ Ho p = some (.lst (wl.map V.int)) ∧ Srch P ls O T G wl rk w ∧ (∀ i, aget G i ≠ none → i ∉ wl → ∀ q, InL ls q i → aget T q ≠ none) ∧ m' + G.length = ls.length + wl.length ∧ m' ≤ ls.length ∧ ∀ r, SearchR ls O T G wl r → SearchR ls O [] [(w, none)] [w] r, fun _ _ h => h, ?_⟩
      have hpl : Ho p = some (.lst (wl'.map V.int ++ [.int i])) := by rw [hp, List.map_append]; rfl
      refine q_oPop ww hpl (ev_var rfl) fun H5 w5 => ?_
      have hGi := s.wsub i (by simp)
      have hin := s.gin i hGi
      have hil : i.toNat < ls.length := by omega
      have hgl : ls[i.toNat]? = some ls[i.toNat] := List.getElem?_eq_getElem hil
      have hlm : ls[i.toNat] ∈ ls := List.getElem_mem hil
      generalize ls[i.toNat] = l at hgl hlm
      have hlu := Mo.mo ei hl
      refine s_oFor w5 (ei_list (ep_ixL (c := cL cI) (n := i.toNat) (a := l) (ec_var rfl hlu) (ev_to (ev_var (v := .int i) rfl) (by rw [Int.toNat_of_nonneg hin.1])) hgl)) mo_c'
        (fun pre σ' Ho' Hi' => ∃ G T wl rk y7 y8, σ' = [some u, some (.ref d), some (.int w), some (.ref g), some (.ref t), some (.ref p), some (.int i), y7, y8] ∧ Ho' d = some (.dK (kvA V.int O)) ∧ Ho' g = some (.dK (kvA oI G)) ∧ Ho' t = some (.dK (kvA V.int T)) ∧ Ho' p = some (.lst (wl.map V.int)) ∧
          Srch P ls O T G wl rk w ∧ aget G i ≠ none ∧ (∀ q ∈ pre, aget T q ≠ none) ∧ (∀ j, aget G j ≠ none → j ∉ wl → j ≠ i → ∀ q, InL ls q j → aget T q ≠ none) ∧ m + G.length = ls.length + wl.length ∧ scanM O i pre T0 G0 wl' = (none, T, G, wl))
        (fun _ _ => ⟨G0, T0, wl', rk, y7, y8, rfl, by rw [upd_ne dp]; exact hd, by rw [upd_ne gp]; exact hg, by rw [upd_ne tp]; exact ht, upd_same, ⟨s.gnd, s.tnd, s.gin, s.ch, s.gw, s.rkb, s.tin, s.town, fun x hx => s.wsub x (List.mem_append_left _ hx)⟩, hGi, fun _ h => (nomatch h),
          fun j hj hn hne => cl j hj fun z => (List.mem_append.mp z).elim hn fun y => hne (List.mem_singleton.mp y), by omega, rfl⟩) ?_ ?_
      · rintro Hb eb pre q post x σ' Ho' Hi' Hi'' H'' hsrc ⟨G, T, wl, rk, y7, y8, rfl, hd', hg', ht', hp', s, hGi, hpre, cl', hm', hsc⟩ e1 w' e' ca
        cases ca
        have hql : q ∈ l := by rw [hsrc]; simp
        have hqi : InL ls q i := ⟨hin.1, l, hgl, hql⟩
        obtain ⟨r0, r1⟩ := bd.inr l hlm q hql
        have hTl := map_len s.tnd (fun x hx => by
          cases e : aget T x with
          | none => exact absurd e hx
          | some j => exact ⟨(s.ch.t x j e).1, (s.ch.t x j e).2.1⟩) hP.1
        have gl := s.glen
        have eAll := e1.trans e'
        have eHi : Ex Hs Hi'' := ((ei.trans eb).trans e1).trans e'
        refine q_oWhen w' (et_B (ev_ain (f := V.int) (ok_dct ht') (ev_var rfl) (ev_var rfl))) (fun hb H6 w6 => ?_) (fun hb H6 w6 => ?_)
        · refine ⟨Ho', Hi'', ⟨G, T, wl, rk, _, y8, rfl, hd', hg', ht', hp', s, hGi, fun q2 h2 => ?_, cl', hm', ?_⟩, eAll, w6⟩
          rotate_left
          · rw [scan_app hsc, scan_cons]
            cases e : aget T q with
            | none => rw [e] at hb; cases hb
            | some _ => rfl
          rcases List.mem_append.mp h2 with z | z
          · exact hpre q2 z
          · rw [List.mem_singleton.mp z]
            intro y
            rw [y] at hb
            cases hb
        · have hTq : aget T q = none := by
            cases e : aget T q with
            | none => rfl
            | some j => rw [e] at hb; cases hb
          refine q_oPut w6 ht' s.tnd (ev_var (v := .int i) rfl) (ev_var rfl) (ev_var rfl) (by omega) fun H7 w7 => ?_
          have hd7 : upd Ho' t (.dK (kvA V.int (aput T q i))) d = some (.dK (kvA V.int O)) := by rw [upd_ne dt]; exact hd'
          have hg7 : upd Ho' t (.dK (kvA V.int (aput T q i))) g = some (.dK (kvA oI G)) := by rw [upd_ne gt]; exact hg'
          have hp7 : upd Ho' t (.dK (kvA V.int (aput T q i))) p = some (.lst (wl.map V.int)) := by rw [upd_ne tp.symm]; exact hp'
          have ht7 : upd Ho' t (.dK (kvA V.int (aput T q i))) t = some (.dK (kvA V.int (aput T q i))) := upd_same
          have hpre2 : ∀ q2 ∈ pre ++ [q], aget (aput T q i) q2 ≠ none := fun q2 h2 => by
            rw [aget_put]
            by_cases e : q2 = q
            · rw [if_pos e]; exact fun z => nomatch z
            · rw [if_neg e]
              exact hpre q2 ((List.mem_append.mp h2).resolve_right fun z => e (List.mem_singleton.mp z))
          have keepT : ∀ q2, aget T q2 ≠ none → aget (aput T q i) q2 ≠ none := fun q2 h2 => by
            rw [aget_put]
            split
            · exact fun z => nomatch z
            · exact h2
          refine q_oWhen w7 (et_B (ev_anotin (f := V.int) (ok_dct hd7) (ev_var rfl) (ev_var rfl))) (fun hb2 H8 w8 => ?_) (fun hb2 H8 w8 => ?_)
          · have hOq : aget O q = none := by
              cases e : aget O q with
              | none => rfl
              | some j => rw [e] at hb2; cases hb2
            have hA : EvA (tCons (tVar 1) (tCons (tVar 4) (tCons (tVar 3) (tCons (tVar 7) tNil)))) [some u, some (.ref d), some (.int w), some (.ref g), some (.ref t), some (.ref p), some (.int i), some (.int q), y8] Hi'' [.ref d, .ref t, .ref g, .int q] := ea_cons (ev_var rfl) (ea_cons (ev_var rfl) (ea_cons (ev_var rfl) (ea_cons (ev_var rfl) ea_nil)))
            refine q_dropCall hA w8.g.i fun H9 b9 => ?_
            have w9 := w8.up b9
            refine ⟨d, t, g, P, w, q, O, aput T q i, G, rk, rfl, dt, dg, (w9.o d _ hd7).2.2, (w9.o t _ ht7).2.2, (w9.o g _ hg7).2.2, hP, ow.ok, chain_put s.ch hTq hGi r0 r1, hOq, by rw [aget_same]; exact some_ne, fun O' H10 mv hr ex hd10 => ?_⟩
            have w10 := w9.poke hd7 ex hd10
            refine (EvF.toC (c := cI) ef_nil) H10 w10.g.i _ fun v H11 Hi11 g11 cv => ?_
            refine k v [] O' _ Hi11 H11 (w10.on g11) upd_same cv (.inl ⟨rfl, ⟨mv.ok, fun q2 i2 h2 => ?_⟩, mv.deg⟩) (.more (hsr _ (.free rfl hgl (by rw [hsrc, scan_app hsc, scan_cons, hTq, hOq]))) hr)
            rcases mv.from_ q2 i2 h2 with z | z
            · exact ow.inl q2 i2 z
            · rw [aget_put] at z
              by_cases e : q2 = q
              · rw [if_pos e] at z
                cases z
                rw [e]; exact hqi
              · rw [if_neg e] at z; exact s.tin q2 i2 z
          · cases hOq : aget O q with
            | none => rw [hOq] at hb2; cases hb2
            | some j =>
              have hjl : 0 ≤ j ∧ j < (ls.length : Int) := by
                obtain ⟨a, l2, b, _⟩ := ow.inl q j hOq
                have := (List.getElem?_eq_some_iff.mp b).1
                omega
              refine q_oV w8 (ev_aget (f := V.int) (ok_dct hd7) (ev_var rfl) (ev_var rfl) hOq) fun H9 w9 => ?_
              refine s_oWhen w9 (et_B (ev_anotin (f := oI) (ok_dct hg7) (ev_var rfl) (ev_var rfl))) (fun hb3 H10 w10 => ?_) (fun hb3 H10 w10 => ?_)
              · have hGj : aget G j = none := by
                  cases e : aget G j with
                  | none => rfl
                  | some z => rw [e] at hb3; cases hb3
                have s2 := s.more hTq hGi hqi r0 r1 hOq hjl hGj
                refine q_oPut w10 hg7 s.gnd (f := oI) (b := some q) (ev_var (v := .int q) rfl) (ev_var rfl) (ev_var rfl) (by omega) fun H11 w11 => ?_
                have hp11 : upd (upd Ho' t (.dK (kvA V.int (aput T q i)))) g (.dK (kvA oI (aput G j (some q)))) p = some (.lst (wl.map V.int)) := by rw [upd_ne gp.symm]; exact hp7
                have hwl : wl.length ≤ 40000 := by omega
                refine s_oApp w11 hp11 (ev_var rfl) (P := fun v _ => v = .int j) (ep_ev (ev_var rfl) rfl) (by rw [List.length_map]; exact hwl) fun v Hi12 H12 w12 e12 hv => ?_
                subst hv
                refine ⟨_, Hi12, ⟨aput G j (some q), aput T q i, wl ++ [j], _, _, _, rfl, by rw [upd_ne dp, upd_ne dg]; exact hd7, by rw [upd_ne gp]; exact upd_same, by rw [upd_ne tp, upd_ne gt.symm]; exact ht7, by rw [upd_same, List.map_append]; rfl, s2, ?_, hpre2, fun j2 h2 hn hne q2 hq2 => ?_, ?_, by rw [scan_app hsc]; rw [scan_cons, hTq, hOq]; dsimp only; rw [hGj]; rfl⟩, eAll.trans e12, w12⟩
                · rw [aget_ne fun z => by rw [z] at hGi; exact hGi hGj]; exact hGi
                · have hj2 : j2 ≠ j := fun z => hn (by rw [z]; simp)
                  rw [aget_ne hj2] at h2
                  exact keepT q2 (cl' j2 h2 (fun z => hn (List.mem_append_left _ z)) hne q2 hq2)
                · rw [put_len hGj, List.length_append, List.length_singleton]
                  omega
              · have hGj : aget G j ≠ none := fun z => by rw [z] at hb3; cases hb3
                refine ⟨_, Hi'', ⟨G, aput T q i, wl, rk, _, _, rfl, hd7, hg7, ht7, hp7, s.same hTq hGi hqi r0 r1 hOq hGj, hGi, hpre2, fun j2 h2 hn hne q2 hq2 => keepT q2 (cl' j2 h2 hn hne q2 hq2), hm', ?_⟩, eAll, w10⟩
                rw [scan_app hsc, scan_cons, hTq, hOq]
                dsimp only
                cases eg : aget G j with
                | none => exact absurd eg hGj
                | some _ => rfl
      · rintro σ' Ho' Hi' H'' ⟨G, T, wl, rk, y7, y8, rfl, hd', hg', ht', hp', s, hGi, hpre, cl', hm', hsc⟩ e1 w'
        refine ⟨m, Nat.lt_succ_self m, G, T, wl, rk, _, _, _, Ho', Hi', rfl, w', ei.trans e1, hd', hg', ht', hp', s, fun j hj hn q hq => ?_, hm', by omega, fun r hr => hsr r (.turn rfl hgl hsc hr)⟩
        by_cases e : j = i
        · subst e
          obtain ⟨_, l2, h2, h3⟩ := hq
          rw [hgl] at h2
          cases h2
          exact hpre q h3
        · exact cl' j hj hn e q hq
    · replace ww := ww.up e4
      have hb' : ¬ 0 < wl.length := of_decide_eq_false hb
      have : wl = [] := List.length_eq_zero_iff.mp (by omega)
      subst this
      refine (ef_sortedD (f := oI) (l := G0) (d := g) (Hs := kn Ho Hi) (kn_at hg) (ev_var rfl) (by have := bd.few; omega)) H4 ww.ek _ fun p2 xs H5 Hk g5 f1 f2 f3 f4 => ?_
      obtain ⟨S, rfl, perm, srt⟩ := f4
      have w5 := ww.back g5
      have hpn : Ho p2 = none := by
        cases e : Ho p2 with
        | none => rfl
        | some v =>
          have := (ww.o p2 v e).2.2
          rw [f1] at this
          cases this
      have w6 := w5.learn (fresh_back ww.g.b f1) hpn f3
      have ms : ∀ i, i ∈ S ↔ aget G0 i ≠ none := fun i => (perm.mem_iff).trans aget_keys
      have nd : S.Nodup := (perm.nodup_iff).mpr s.gnd
      have up : S.Pairwise (· < ·) := (List.Pairwise.and srt (List.nodup_iff_pairwise_ne.mp nd)).imp fun h => by omega
      refine k (.ref p2) S O Ho _ H5 w6 hd (ints_cL upd_same) (.inr ⟨rfl, ⟨(ms w).mpr s.gw, up, fun i hi => s.gin i ((ms i).mp hi), fun i hi q hq => ?_⟩⟩) (.short (hsr _ (.stop rfl)) ms up)
      · have hT := cl i ((ms i).mp hi) (fun z => nomatch z) q hq
        cases e : aget T0 q with
        | none => exact absurd e hT
        | some i' =>
          obtain ⟨j, h1, h2⟩ := s.town q i' e
          exact ⟨j, (ms j).mpr h2, h1⟩
end
end LH

namespace LH
open PySem L2 Evl PyProof.Rows
/-! ### answers -/
inductive Ans where
  | pairs (ps : List (Int × Int))
  | few (S : List Int)
/-- what the classes are -/
structure Ob (c : Cn) : Prop where
  clP : Cls c.K c.pairs
  clF : Cls c.K c.few
  naP : NoAttr c.K c.pairs "pairs"
  naF : NoAttr c.K c.few "lines"
  haP : PySem.W.findIn c.K (.ref c.pairs) "__class__" = some (some (.builtin "object.__class__"))
  haF : PySem.W.findIn c.K (.ref c.few) "__class__" = some (some (.builtin "object.__class__"))
  hn : PySem.W.specialIn c.K (.builtin "object.__class__") "__get__" = some (some (.builtin "getset_descriptor.__get__"))
  htk : PySem.W.takesIn c.K (.builtin "object.__class__") = some true
  hmP : PySem.W.mroIn c.K c.pairs (.type "object") = some true
  hmF : PySem.W.mroIn c.K c.few (.type "object") = some true
  pp : PySem.W.kitOne c.K (.ref c.pairs) (.ref c.pairs) = some true
  pf : PySem.W.kitOne c.K (.ref c.pairs) (.ref c.few) = some false
  pa : PySem.W.kitOne c.K (.ref c.pairs) (.ref c.answer) = some true
  fp : PySem.W.kitOne c.K (.ref c.few) (.ref c.pairs) = some false
  ff : PySem.W.kitOne c.K (.ref c.few) (.ref c.few) = some true
  fa : PySem.W.kitOne c.K (.ref c.few) (.ref c.answer) = some true
def insA (c : Cn) (l dx : Addr) : Ans → HO
  | .pairs _ => .ins c.pairs dx [("pairs", .ref l)]
  | .few _ => .ins c.few dx [("lines", .ref l)]
def AnsL (a : Ans) (H : Hp) (xs : List V) : Prop := match a with
  | .pairs ps => Paired (fun b x => cP cI cI b H x) ps xs
  | .few S => Paired (fun b x => cI b H x) S xs
theorem ansL_mo {a : Ans} {H H2 : Hp} {xs : List V} (e : Ex H H2) (h : AnsL a H xs) : AnsL a H2 xs := by
  cases a with
  | pairs ps => exact paired_mo (c := cP cI cI) e h
  | few S => exact paired_mo (c := cI) e h
/-- an answer, known with its list -/
def cA (c : Cn) : Cd Ans := fun a H v => ∃ x l dx xs, v = .ref x ∧ H x = some (insA c l dx a) ∧ H l = some (.lst xs) ∧ AnsL a H xs
instance {c : Cn} : Mo (cA c) := ⟨fun e ⟨x, l, dx, xs, h1, h2, h3, h4⟩ => ⟨x, l, dx, xs, h1, e _ _ h2, e _ _ h3, ansL_mo e h4⟩⟩
/-- a new answer, its list not known as yet -/
def RetA (c : Cn) (Hs H : Hp) (p : Ans → Prop) (Q : VK) : Prop := ∀ a x l dx xs H2 Hs2, p a → Grow Hs H Hs2 H2 → H x = none → H l = none → Hs2 l = none → H2 l = some (.lst xs) → Hs2 x = some (insA c l dx a) → AnsL a Hs2 xs → Q (.ref x) H2
def EvAn (c : Cn) (te : TE) (σ : L2.St) (Hs : Hp) (p : Ans → Prop) : Prop := ∀ H, Ex Hs H → ∀ Q : VK, RetA c Hs H p Q → te σ H Q
theorem EvAn.toC {c : Cn} {te : TE} {σ : L2.St} {Hs : Hp} {p : Ans → Prop} (h : EvAn c te σ Hs p) : EvP te σ Hs fun v H => ∃ a, p a ∧ cA c a H v := fun H e Q q => h H e Q fun a x l dx xs H2 Hs2 pa g h1 h2 h3 h4 h5 h6 => by
  have g2 := g.know h2 h4
  have xl : x ≠ l := fun z => by rw [z, h3] at h5; cases h5
  exact q (.ref x) H2 _ g2 ⟨a, pa, x, l, dx, xs, rfl, by rw [upd_ne xl]; exact h5, upd_same, ansL_mo (Ex.new h3) h6⟩
theorem RetA.on {c : Cn} {Hs H Hs2 H2 : Hp} {p : Ans → Prop} {Q : VK} (k : RetA c Hs H p Q) (g : Grow Hs H Hs2 H2) : RetA c Hs2 H2 p Q := fun a x l dx xs H3 Hs3 pa g3 h1 h2 h3 h4 h5 h6 => k a x l dx xs H3 Hs3 pa (g.trans g3) (fresh_back g.b h1) (fresh_back g.b h2) h3 h4 h5 h6
/-- the making of an answer: its field is a copy of the list handed in -/
def sp_init {α : Type} (C : Addr) (f : Str) (d : Cd α) : Sp := fun vs H Q _ => ∃ (Hs : Hp) (x dx : Addr) (v : V) (l : List α), vs = [.ref x, v] ∧ Own Hs (del H x) (upd emp x (.ins C dx [])) Hs H ∧ cL d l Hs v ∧
  ∀ p xs Ho2 Hi2 H2, Own Hs (del H x) Ho2 Hi2 H2 → Ho2 x = some (.ins C dx [(f, .ref p)]) → Ho2 p = some (.lst xs) → p ≠ x → Paired (fun b y => d b Hi2 y) l xs → Q .non H2
def sp_pairs_init (c : Cn) : Sp := sp_init c.pairs "pairs" (cP cI cI)
def sp_few_init (c : Cn) : Sp := sp_init c.few "lines" cI
def t_pairs_init (c : Cn) : TS := (sFld c.K (tVar 0) (tCB (rListA c.K) (tCons (tVar 1) tNil)) "pairs")
def t_few_init (c : Cn) : TS := (sFld c.K (tVar 0) (tCB (rListA c.K) (tCons (tVar 1) tNil)) "lines")
section
variable {c : Cn} {vs : List V} {H : Hp} {Q : VK} {E : XK} {σ : L2.St} {Hs : Hp} {ta tb tc td te : TE}
theorem run_init {α : Type} {C : Addr} {f : Str} {d : Cd α} {D : Ends} (cl : Cls c.K C) (na : NoAttr c.K C f) (h : sp_init C f d vs H Q E) (hD : D.nx = fun _ H' => Q .non H') (σ : L2.St) (hσ : ∀ x v, vs = [.ref x, v] → σ = [some (.ref x), some v]) :
    sFld c.K (tVar 0) (tCB (rListA c.K) (tCons (tVar 1) tNil)) f D σ H := by
  obtain ⟨Hs, x, dx, v, l, rfl, w, hl, k⟩ := h
  have := hσ x v rfl
  subst this
  have hx : upd emp x (.ins C dx []) x = some (.ins C dx []) := upd_same
  refine (ef_list (K := c.K) (ta := tVar 1) (ec_var rfl hl)) H w.g.i _ fun p xs H2 Hi2 g h1 h2 h3 h4 => ?_
  have w2 := w.new g h1 h2 h3
  have xp : x ≠ p := w.ne hx h1
  have hx2 : upd (upd emp x (.ins C dx [])) p (.lst xs) x = some (.ins C dx []) := by rw [upd_ne xp]; exact upd_same
  refine ⟨.ref x, rfl, x, C, dx, [], rfl, (w2.o x _ hx2).2.2, cl, na, by show 0 < 1000; decide, ?_⟩
  rw [hD]
  exact k p xs _ Hi2 _ (w2.mut (u' := .ins C dx [(f, .ref p)]) hx2) upd_same (by rw [upd_ne xp.symm]; exact upd_same) xp.symm h4
theorem rd_pairs_init (O : Ob c) (h : sp_pairs_init c vs H Q E) : t_pairs_init c { nx := fun _ H' => Q .non H', rt := Q } (start ["self", "pairs"] vs) H := run_init O.clP O.naP h rfl _ fun x v e => by rw [e]; rfl
theorem rd_few_init (O : Ob c) (h : sp_few_init c vs H Q E) : t_few_init c { nx := fun _ H' => Q .non H', rt := Q } (start ["self", "lines"] vs) H := run_init O.clF O.naF h rfl _ fun x v e => by rw [e]; rfl
/-- C(l) -/
theorem ea_make {α : Type} {C : Addr} {f : Str} {d : Cd α} [Mo d] {p : List α → Prop} (h : EvP ta σ Hs fun v H => ∃ l, p l ∧ cL d l H v) :
    ∀ H, Ex Hs H → ∀ Q : VK, (∀ l x q dx xs H2 Hs2, p l → Grow Hs H Hs2 H2 → H x = none → H q = none → Hs2 q = none → H2 q = some (.lst xs) → Hs2 x = some (.ins C dx [(f, .ref q)]) → Paired (fun b y => d b Hs2 y) l xs → Q (.ref x) H2) → tMake C (sp_init C f d) [] C8.E0 (tCons ta tNil) σ H Q := fun H e Q k =>
  h H e _ fun v H1 Hs1 g ⟨l, pl, hl⟩ => by
    intro x dx hx hdx ne
    have e1 : Ex H1 (upd (upd H1 dx (.own x)) x (.ins C dx [])) := (Ex.new hdx).trans (Ex.new (by rw [upd_ne ne.symm]; exact hx))
    have ed : Ex H1 (del (upd (upd H1 dx (.own x)) x (.ins C dx [])) x) := ex_del e1 hx
    have w : Own Hs1 (del (upd (upd H1 dx (.own x)) x (.ins C dx [])) x) (upd emp x (.ins C dx [])) Hs1 (upd (upd H1 dx (.own x)) x (.ins C dx [])) := by
      refine ⟨⟨Ex.refl _, del_ex, g.i.trans e1, fun _ h _ => h⟩, fun p u h => ?_⟩
      by_cases z : p = x
      · subst z
        rw [upd_same] at h ⊢
        cases h
        exact ⟨del_same, fresh_back g.i hx, rfl⟩
      · rw [upd_ne z] at h
        cases h
    refine ⟨Hs1, x, dx, v, l, rfl, w, hl, fun q xs Ho2 Hi2 H2 w2 hx2 hq2 qx hp => ⟨rfl, ?_⟩⟩
    obtain ⟨_, x2, x3⟩ := w2.o x _ hx2
    obtain ⟨q1, q2, q3⟩ := w2.o q _ hq2
    have g2 : Grow Hs1 H1 Hi2 H2 := ⟨w2.g.s, ed.trans w2.g.b, w2.g.i, fun p a b => w2.g.f p a (up_some ed b)⟩
    have g3 := g2.know (p := x) hx x3
    exact k l x q dx xs H2 _ pl (g.trans g3) (fresh_back g.b hx) (fresh_back (g.b.trans ed) q1) (by rw [upd_ne qx]; exact q2) q3 upd_same (paired_mo (Ex.new x2) hp)
end
end LH

namespace LH
open PySem L2 Evl PyProof.Rows
/-! ### what an answer shows -/
def flatP (ps : List (Int × Int)) : List Int := (ps.map fun p => [p.1, p.2]).flatten
structure DueP (ls : List (List Int)) (ps : List (Int × Int)) : Prop where
  len : ps.length = ls.length
  own : ∀ (i : Nat) p l, ps[i]? = some p → ls[i]? = some l → p.1 ∈ l ∧ p.2 ∈ l
  nd : (flatP ps).Nodup
def placesL (ls : List (List Int)) (S : List Int) : List Int := (S.map fun i => ls.getD i.toNat []).flatten
structure DueF (ls : List (List Int)) (S : List Int) : Prop where
  nd : S.Nodup
  inr : ∀ i ∈ S, 0 ≤ i ∧ i < (ls.length : Int)
  few : (dd (placesL ls S)).length < 2 * S.length
def Due (ls : List (List Int)) : Ans → Prop
  | .pairs ps => DueP ls ps
  | .few S => DueF ls S
/-! which answer is told -/
def pairOf : List Int → Int × Int
  | [a, b] => (a, b)
  | _ => (0, 0)
def ownM (O : List (Int × Int)) (l : List Int) (i : Int) : List Int := l.filter fun x => decide (aget O x = some i)
def pairsM (O : List (Int × Int)) (ls : List (List Int)) : List (Int × Int) := ((List.range ls.length).zip ls).map fun q => pairOf (ownM O q.2 (q.1 : Int))
inductive TR (ls : List (List Int)) : List (Int × Int) → List Int → Ans → Prop
  | stop (O : List (Int × Int)) : TR ls O [] (.pairs (pairsM O ls))
  | few {O O' : List (Int × Int)} {w : Int} {ws S : List Int} : GiveR ls O w S O' → S ≠ [] → TR ls O (w :: ws) (.few S)
  | more {O O' : List (Int × Int)} {w : Int} {ws : List Int} {a : Ans} : GiveR ls O w [] O' → TR ls O' ws a → TR ls O (w :: ws) a
theorem TR.det {ls : List (List Int)} {O : List (Int × Int)} {ws : List Int} {a b : Ans} (h : TR ls O ws a) (h' : TR ls O ws b) : a = b := by
  induction h with
  | stop O => cases h'; rfl
  | few g ne =>
    cases h' with
    | few g2 ne2 => obtain ⟨rfl, _⟩ := g.det g2; rfl
    | more g2 _ => obtain ⟨rfl, _⟩ := g.det g2; exact absurd rfl ne
  | more g k ih =>
    cases h' with
    | few g2 ne2 => obtain ⟨rfl, _⟩ := g2.det g; exact absurd rfl ne2
    | more g2 k2 => obtain ⟨_, rfl⟩ := g.det g2; exact ih k2
def dbl (l : List Nat) : List Int := (l.map fun i : Nat => [(i : Int), (i : Int)]).flatten
def Told (ls : List (List Int)) (a : Ans) : Prop := TR ls [] (dbl (List.range ls.length)) a
/-- two places each -/
theorem cnt_mem {P : Int} {l : List Int} {f : Int → Bool} (nd : l.Nodup) (h : ∀ x ∈ l, 0 ≤ x ∧ x < P) (k : ∀ q : Nat, q < P.toNat → f (q : Int) = true → (q : Int) ∈ l) : (l.filter f).length = cnt P.toNat fun q => f (q : Int) := by
  unfold cnt
  have e : ((List.range P.toNat).filter fun q : Nat => f (q : Int)).length = (((List.range P.toNat).filter fun q : Nat => f (q : Int)).map fun q : Nat => (q : Int)).length := (List.length_map _).symm
  rw [e]
  refine List.Perm.length_eq ((List.perm_ext_iff_of_nodup (nd.filter f) ?_).mpr fun x => ?_)
  · have := (range_nodup P.toNat)
    refine List.pairwise_map.mpr (List.Pairwise.filter _ ?_)
    exact List.Pairwise.imp (fun h => by omega) List.pairwise_lt_range
  · rw [List.mem_filter, List.mem_map]
    constructor
    · rintro ⟨a, b⟩
      have := h x a
      exact ⟨x.toNat, List.mem_filter.mpr ⟨List.mem_range.mpr (by omega), by rw [Int.toNat_of_nonneg this.1]; exact b⟩, by omega⟩
    · rintro ⟨q, hq, rfl⟩
      obtain ⟨a, b⟩ := List.mem_filter.mp hq
      exact ⟨k q (List.mem_range.mp a) b, b⟩
theorem own_two {P : Int} {ls : List (List Int)} {O : List (Int × Int)} {i : Nat} {l : List Int} (ow : Owns P ls O) (hl : ls[i]? = some l) (ok : OkLine P l) (hd : deg P O (i : Int) = 2) : ∃ a b, ownM O l (i : Int) = [a, b] ∧ a < b ∧ a ∈ l ∧ b ∈ l ∧ aget O a = some (i : Int) ∧ aget O b = some (i : Int) := by
  have pw := rise_nodup ok.up
  have nd : l.Nodup := pw.imp fun h => by omega
  have len : (ownM O l (i : Int)).length = 2 := by
    rw [← hd]
    unfold ownM
    refine cnt_mem nd ok.inr fun q _ hq => ?_
    obtain ⟨_, l2, h2, h3⟩ := ow.inl q i (of_decide_eq_true hq)
    rw [Int.toNat_natCast, hl] at h2
    cases h2
    exact h3
  have pw2 : (ownM O l (i : Int)).Pairwise (· < ·) := pw.filter _
  have mem : ∀ x ∈ ownM O l (i : Int), x ∈ l ∧ aget O x = some (i : Int) := fun x hx => by
    obtain ⟨a, b⟩ := List.mem_filter.mp hx
    exact ⟨a, of_decide_eq_true b⟩
  match hL : ownM O l (i : Int), len, pw2, mem with
  | [a, b], _, pw2, mem =>
    refine ⟨a, b, rfl, (List.pairwise_cons.mp pw2).1 b (by simp), (mem a (by simp)).1, (mem b (by simp)).1, (mem a (by simp)).2, (mem b (by simp)).2⟩
theorem zip_at {α : Type} (l : List α) (i : Nat) : ((List.range l.length).zip l)[i]? = (l[i]?).map fun a => (i, a) := by
  cases h : l[i]? with
  | none =>
    rw [List.getElem?_eq_none_iff] at h
    rw [Option.map_none, List.getElem?_eq_none_iff, List.length_zip, List.length_range]
    omega
  | some a =>
    have hi : i < l.length := (List.getElem?_eq_some_iff.mp h).1
    show _ = some (i, a)
    rw [List.getElem?_zip_eq_some]
    exact ⟨by simp [hi], h⟩
theorem pairsM_at {O : List (Int × Int)} {ls : List (List Int)} {i : Nat} : (pairsM O ls)[i]? = (ls[i]?).map fun l => pairOf (ownM O l (i : Int)) := by
  unfold pairsM
  rw [List.getElem?_map, zip_at]
  cases ls[i]? <;> rfl
theorem due_pairs {P : Int} {ls : List (List Int)} {O : List (Int × Int)} (ow : Owns P ls O) (ok : OkLines P ls) (hd : ∀ i : Nat, i < ls.length → deg P O (i : Int) = 2) : DueP ls (pairsM O ls) := by
  have two : ∀ (i : Nat) l, ls[i]? = some l → ∃ a b, ownM O l (i : Int) = [a, b] ∧ a < b ∧ a ∈ l ∧ b ∈ l ∧ aget O a = some (i : Int) ∧ aget O b = some (i : Int) := fun i l h =>
    own_two ow h (ok.ok l (List.mem_of_getElem? h)) (hd i (List.getElem?_eq_some_iff.mp h).1)
  have at_ : ∀ (i : Nat) p, (pairsM O ls)[i]? = some p → ∃ l, ls[i]? = some l ∧ p.1 < p.2 ∧ p.1 ∈ l ∧ p.2 ∈ l ∧ aget O p.1 = some (i : Int) ∧ aget O p.2 = some (i : Int) := fun i p h => by
    rw [pairsM_at] at h
    cases e : ls[i]? with
    | none => rw [e] at h; cases h
    | some l =>
      rw [e] at h
      obtain ⟨a, b, h1, h2⟩ := two i l e
      rw [Option.map_some, h1] at h
      cases h
      exact ⟨l, rfl, h2⟩
  refine ⟨?_, fun i p l hp hl => ?_, ?_⟩
  · unfold pairsM
    rw [List.length_map, List.length_zip, List.length_range, Nat.min_self]
  · obtain ⟨l2, h1, _, h2, h3, _⟩ := at_ i p hp
    rw [hl] at h1
    cases h1
    exact ⟨h2, h3⟩
  · unfold flatP
    refine List.pairwise_flatten.mpr ⟨fun m hm => ?_, ?_⟩
    · obtain ⟨p, hp, rfl⟩ := List.mem_map.mp hm
      obtain ⟨i, hi⟩ := List.getElem?_of_mem hp
      obtain ⟨_, _, lt, _⟩ := at_ i p hi
      simp
      omega
    · rw [List.pairwise_map]
      rw [List.pairwise_iff_getElem]
      intro i j hi hj hij x hx y hy
      obtain ⟨_, _, _, _, _, a1, a2⟩ := at_ i _ (List.getElem?_eq_getElem hi)
      obtain ⟨_, _, _, _, _, b1, b2⟩ := at_ j _ (List.getElem?_eq_getElem hj)
      have ex : aget O x = some (i : Int) := by
        simp only [List.mem_cons, List.not_mem_nil, or_false] at hx
        rcases hx with e | e <;> rw [e] <;> assumption
      have ey : aget O y = some (j : Int) := by
        simp only [List.mem_cons, List.not_mem_nil, or_false] at hy
        rcases hy with e | e <;> rw [e] <;> assumption
      intro z
      rw [z, ey] at ex
      cases ex
      omega
/-- lines that have too few -/
theorem cnt_or {f g : Nat → Bool} : ∀ n : Nat, (∀ q, ¬ (f q = true ∧ g q = true)) → cnt n (fun q => f q || g q) = cnt n f + cnt n g
  | 0, _ => rfl
  | n + 1, h => by
    rw [cnt_succ, cnt_succ, cnt_succ, cnt_or n h]
    have key : (f n || g n).toNat = (f n).toNat + (g n).toNat := by
      cases hf : f n <;> cases hg : g n <;> first | rfl | exact absurd ⟨hf, hg⟩ (h n)
    omega
theorem cnt_sum {P : Int} {O : List (Int × Int)} : ∀ S : List Int, S.Nodup → cnt P.toNat (fun q => S.any fun j => decide (aget O (q : Int) = some j)) = (S.map fun j => deg P O j).sum
  | [], _ => by
    unfold cnt
    rw [List.filter_eq_nil_iff.mpr fun q _ => by simp]
    rfl
  | j :: S, h => by
    obtain ⟨h1, h2⟩ := List.nodup_cons.mp h
    have ih := cnt_sum (P := P) (O := O) S h2
    rw [List.map_cons, List.sum_cons, ← ih]
    unfold deg
    rw [← cnt_or]
    · rfl
    · rintro q ⟨a, b⟩
      rw [List.any_eq_true] at b
      obtain ⟨k, hk, e⟩ := b
      have a' := of_decide_eq_true a
      rw [of_decide_eq_true e] at a'
      cases a'
      exact h1 hk
theorem sum_two {f : Int → Nat} {w : Int} : ∀ {S : List Int}, (∀ j ∈ S, f j ≤ 2) → w ∈ S → f w ≤ 1 → (S.map f).sum + 1 ≤ 2 * S.length
  | [], _, h, _ => nomatch h
  | j :: S, h2, hw, h1 => by
    have all : ∀ S : List Int, (∀ j ∈ S, f j ≤ 2) → (S.map f).sum ≤ 2 * S.length := by
      intro S
      induction S with
      | nil => exact fun _ => Nat.le_refl _
      | cons x S ih =>
        intro h
        have a := h x List.mem_cons_self
        have b := ih fun y hy => h y (List.mem_cons_of_mem _ hy)
        rw [List.map_cons, List.sum_cons, List.length_cons]
        omega
    rw [List.map_cons, List.sum_cons, List.length_cons]
    have a := h2 j List.mem_cons_self
    rcases List.mem_cons.mp hw with e | e
    · have := all S fun y hy => h2 y (List.mem_cons_of_mem _ hy)
      rw [← e]
      omega
    · have := sum_two (fun y hy => h2 y (List.mem_cons_of_mem j hy)) e h1
      omega
theorem mem_places {ls : List (List Int)} {S : List Int} {q : Int} (h : q ∈ placesL ls S) (hS : ∀ i ∈ S, 0 ≤ i ∧ i < (ls.length : Int)) : ∃ i ∈ S, InL ls q i := by
  unfold placesL at h
  rw [List.mem_flatten] at h
  obtain ⟨l, hl, hq⟩ := h
  obtain ⟨i, hi, rfl⟩ := List.mem_map.mp hl
  obtain ⟨a, b⟩ := hS i hi
  have e : ls[i.toNat]? = some ls[i.toNat] := List.getElem?_eq_getElem (by omega)
  refine ⟨i, hi, a, _, e, ?_⟩
  rw [List.getD_eq_getElem?_getD, e] at hq
  exact hq
theorem due_few {P : Int} {ls : List (List Int)} {O : List (Int × Int)} {S : List Int} {w : Int} (ow : Owns P ls O) (sh : Short ls O S w) (h2 : ∀ j, deg P O j ≤ 2) (h1 : deg P O w ≤ 1) : DueF ls S := by
  have nd : S.Nodup := sh.up.imp fun h => by omega
  refine ⟨nd, sh.inr, ?_⟩
  have s := subset_len (m := ((List.range P.toNat).filter fun q : Nat => S.any fun j => decide (aget O (q : Int) = some j)).map fun q : Nat => (q : Int)) (dd_nodup (placesL ls S)) fun x hx => by
    obtain ⟨i, hi, hin⟩ := mem_places (dd_mem.mp hx) sh.inr
    obtain ⟨j, hj, e⟩ := sh.cl i hi x hin
    have r := ow.ok.inr x j e
    refine List.mem_map.mpr ⟨x.toNat, List.mem_filter.mpr ⟨List.mem_range.mpr (by omega), ?_⟩, by omega⟩
    rw [List.any_eq_true]
    exact ⟨j, hj, by rw [Int.toNat_of_nonneg r.1]; exact decide_eq_true e⟩
  rw [List.length_map] at s
  have c := cnt_sum (P := P) (O := O) S nd
  unfold cnt at c
  rw [c] at s
  have t := sum_two (f := fun j => deg P O j) (fun j _ => h2 j) sh.mem h1
  omega
end LH

namespace LH
open PySem L2 Evl PyProof.Rows
def rTupA (K : PySem.W.Frag) : List V → Hp → VK → Prop := fun xs H Q => ∃ p ys, xs = [.ref p] ∧ ((SqL K H p ys ∧ ∀ l, H l = none → Q (.ref l) (upd H l (.tup ys))) ∨ (SqT K H p ys ∧ Q (.ref p) H))
theorem cr_tupA {X : Cx} : CallR X (.type "tuple") (rTupA X.K) := call_tuple_of
def sp_pair (_ : Cn) : Sp := fun vs H Q _ => ∃ (Hs : Hp) (v : V) (d : Addr) (i : Int) (l : List Int) (O : List (Int × Int)), Ex Hs H ∧ vs = [v, .ref d, .int i] ∧ cL cI l Hs v ∧ Hs d = some (.dK (kvA V.int O)) ∧ l.length ≤ 60 ∧ RetC Hs H (cQ cI) (ownM O l i) Q
def sp_told (c : Cn) : Sp := fun vs H Q _ => ∃ (Hs : Hp) (P : Int) (u : V) (ls : List (List Int)), Ex Hs H ∧ vs = [.int P, u] ∧ cL (cL cI) ls Hs u ∧ (1 ≤ P ∧ P ≤ 60) ∧ OkLines P ls ∧ RetA c Hs H (fun a => Told ls a ∧ Due ls a) Q
def otherM (a : Ans) (hs : List Int) : Option Int := match a with
  | .few _ => none
  | .pairs ps => match hs.getLast? with
    | none => none
    | some h => ps.findSome? fun p => if h = p.1 then some p.2 else if h = p.2 then some p.1 else none
def sp_other_place (c : Cn) : Sp := fun vs H Q _ => ∃ (Hs : Hp) (u v : V) (a : Ans) (hs : List Int), Ex Hs H ∧ vs = [u, v] ∧ cA c a Hs u ∧ cL cI hs Hs v ∧ RetV (oI (otherM a hs)) H Q
def replyM (P : Int) (hs ms : List Int) (a : Ans) : Option Int := match freeP P hs ms with
  | [] => none
  | f :: r => match otherM a hs with
    | some o => if o ∈ (f :: r).map (fun i : Nat => (i : Int)) then some o else some (f : Int)
    | none => some (f : Int)
/-- what is replied -/
def RepM (P : Int) (ls : List (List Int)) (hs ms : List Int) (v : V) : Prop := (freeP P hs ms = [] ∧ v = .non) ∨ ∃ a, Told ls a ∧ Due ls a ∧ v = oI (replyM P hs ms a)
def sp_reply (c : Cn) : Sp := fun vs H Q _ => ∃ (Hs : Hp) (P : Int) (ls : List (List Int)) (hs ms : List Int), Play Hs H vs P ls hs ms ∧ RetP Hs H (fun v _ => RepM P ls hs ms v) Q
def t_pair (c : Cn) : TS := (tRet (tCB (rTupA c.K) (tCons (tLc (iList c.K (tVar 0)) (gName 3) (tTest (tOp (rEqA c.K) (tDGet1 (tVar 1) (tVar 3)) (tVar 2))) (tVar 3) [3]) tNil)))
def t_told (c : Cn) : TS := (tSeq (tDrop (tCall (sp_check_places c) [] C8.E0 (tCons (tVar 0) tNil))) (tSeq (tDrop (tCall (sp_check_lines c) [] C8.E0 (tCons (tVar 0) (tCons (tVar 1) tNil)))) (tSeq (tAsg tDNewK (gName 2)) (tSeq (tFor (iRng1 (tCons (tCB (rLenA c.K) (tCons (tVar 1) tNil)) tNil)) (gName 3) (tFor (iRng1 (tCons (tC (.int 2)) tNil)) (gName 4) (tSeq (tAsg (tCall (sp_give_one_more c) [] C8.E0 (tCons (tVar 1) (tCons (tVar 2) (tCons (tVar 3) tNil)))) (gName 5)) (tIfS (tTest (tOp rGtI (tCB (rLenA c.K) (tCons (tVar 5) tNil)) (tC (.int 0)))) (tRet (tMake c.few (sp_few_init c) [] C8.E0 (tCons (tVar 5) tNil))) tNext)))) (tRet (tMake c.pairs (sp_pairs_init c) [] C8.E0 (tCons (tLc (iEnum c.K (tCons (tVar 1) tNil)) (gTup c.K 2 (gCons (gName 3) (gCons (gName 6) gNil))) tYes (tCall (sp_pair c) [] C8.E0 (tCons (tVar 6) (tCons (tVar 2) (tCons (tVar 3) tNil)))) [3, 6]) tNil)))))))
def t_other_place (c : Cn) : TS := (tSeq (tIfS (tOr (tB (tCB (rIsi c.K) (tCons (tVar 0) (tCons (tC (.ref c.few)) tNil)))) (tTest (tOp (rEqA c.K) (tCB (rLenA c.K) (tCons (tVar 1) tNil)) (tC (.int 0))))) (tRet (tC .non)) tNext) (tSeq (tAsg (tOp (rIx c.K) (tVar 1) (tUn rNegU (tC (.int 1)))) (gName 2)) (tSeq (tFor (iList c.K (tFld c.K (tVar 0) "pairs")) (gTup c.K 2 (gCons (gName 3) (gCons (gName 4) gNil))) (tSeq (tIfS (tTest (tOp (rEqA c.K) (tVar 2) (tVar 3))) (tRet (tVar 4)) tNext) (tIfS (tTest (tOp (rEqA c.K) (tVar 2) (tVar 4))) (tRet (tVar 3)) tNext))) (tRet (tC .non)))))
def t_reply (c : Cn) : TS := (tSeq (tDrop (tCall (sp_check_play c) [] C8.E0 (tCons (tVar 0) (tCons (tVar 1) (tCons (tVar 2) (tCons (tVar 3) tNil)))))) (tSeq (tAsg (tCall (sp_free_places c) [] C8.E0 (tCons (tVar 0) (tCons (tVar 2) (tCons (tVar 3) tNil)))) (gName 4)) (tSeq (tIfS (tTest (tOp (rEqA c.K) (tCB (rLenA c.K) (tCons (tVar 4) tNil)) (tC (.int 0)))) (tRet (tC .non)) tNext) (tSeq (tAsg (tCall (sp_other_place c) [] C8.E0 (tCons (tCall (sp_told c) [] C8.E0 (tCons (tVar 0) (tCons (tVar 1) tNil))) (tCons (tVar 2) tNil))) (gName 5)) (tRet (tIf (tTest (tOp (rIn c.K false) (tVar 5) (tVar 4))) (tVar 5) (tOp (rIx c.K) (tVar 4) (tC (.int 0)))))))))
theorem q_setCall {sp : Sp} {dvs vs : List V} {E : XK} {targ : TA} {σ : L2.St} {Hs H : Hp} {tz : TS} {D : Ends} {i : Nat} (h : EvA targ σ Hs vs) (e : Ex Hs H) (k : ∀ H2, Ex H H2 → sp (vs ++ dvs) H2 (fun v H3 => tz D (σ.set i (some v)) H3) E) : tSeq (tAsg (tCall sp dvs E targ) (gName i)) tz D σ H := h H e _ k
section
variable {c : Cn} {vs : List V} {H : Hp} {Q : VK} {E : XK} {σ : L2.St} {Hs : Hp} {ta tb tc td te : TE}
theorem ep_tupOf {α : Type} {d : Cd α} [Mo d] {K : PySem.W.Frag} {l : List α} (h : EvFC te σ Hs d l) : EvC (tCB (rTupA K) (tCons te tNil)) σ Hs (cQ d) l := fun H e Q q => h H e _ fun p xs H2 Hs2 g h1 h2 h3 h4 =>
  ⟨p, xs, rfl, .inl ⟨SqL.of h3, fun r hr => by
    have g2 := g.trans (Grow.new (o := .tup xs) g.i hr)
    exact q (.ref r) _ _ g2 ⟨r, xs, rfl, upd_same, paired_mo (Ex.new (fresh_back g.i hr)) h4⟩⟩⟩
theorem get_eq (O : List (Int × Int)) (x i : Int) : decide (((aget O x).map V.int).getD .non = V.int i) = decide (aget O x = some i) := by
  cases aget O x with
  | none => rfl
  | some j =>
    refine decide_eq_decide.mpr ⟨fun h => ?_, fun h => ?_⟩
    · have : V.int j = V.int i := h
      cases this
      rfl
    · cases h
      rfl
theorem rd_pair (h : sp_pair c vs H Q E) : t_pair c { nx := fun _ H' => Q .non H', rt := Q } (start ["line", "owners", "count", "place"] vs) H := by
  obtain ⟨Hs, v, d, i, l, O, e, rfl, hl, hd, hz, k⟩ := h
  refine s_retP (ep_tupOf (ef_filter (c := cI) (ei_list (ec_var rfl hl)) (fun x => decide (aget O x = some i)) (by omega) fun a x Hs' ha e' ca => ?_)) e k
  cases ca
  refine ⟨et_test (ev_to (ev_eqS (x := ((aget O a).map V.int).getD .non) (ev_aget1 (f := V.int) (.inl (e' _ _ hd)) (ev_var rfl) (ev_var rfl)) (ev_var (v := .int i) rfl) ?_) (by rw [get_eq])), fun _ => ec_var rfl rfl⟩
  cases aget O a <;> rfl
theorem call_pair {d : Addr} {i : Int} {l : List Int} {O : List (Int × Int)} (h1 : EvC ta σ Hs (cL cI) l) (h2 : Ev tb σ Hs (.ref d)) (h3 : Ev tc σ Hs (.int i)) (hd : Hs d = some (.dK (kvA V.int O))) (hz : l.length ≤ 60) : EvC (tCall (sp_pair c) [] C8.E0 (tCons ta (tCons tb (tCons tc tNil)))) σ Hs (cQ cI) (ownM O l i) := by
  refine ep_call (P := fun vs H => ∃ v, vs = [v, .ref d, .int i] ∧ cL cI l H v ∧ H d = some (.dK (kvA V.int O))) ((as_cons h1 mo_c fun _ e1 => as_cons (P := fun v _ => v = .ref d) (ep_ev (h2.mono e1) rfl) (fun _ _ _ _ p => p) fun _ e2 => as_cons (c_evI (h3.mono (e1.trans e2))) mo_c fun _ _ => as_nil).imp ?_) ?_
  · rintro vs H1 e1 ⟨v, _, rfl, p1, _, _, rfl, p2, _, _, rfl, p3, rfl⟩
    cases p2
    cases p3
    exact ⟨v, rfl, p1, e1 _ _ hd⟩
  · rintro vs H1 e1 ⟨v, rfl, p1, p2⟩ H2 e2 Q1 k1
    exact ⟨H1, v, d, i, l, O, e2, rfl, p1, p2, hz, k1⟩
theorem call_cp {P : Int} (h : Ev ta σ Hs (.int P)) (hP : 1 ≤ P ∧ P ≤ 60) : EvP (tCall (sp_check_places c) [] C8.E0 (tCons ta tNil)) σ Hs fun _ _ => True := by
  refine ep_ev (v := .non) (ev_callS (as_cons (c_evI h) mo_c fun _ _ => as_nil) ?_) trivial
  rintro vs H1 _ ⟨_, _, rfl, p1, rfl⟩ H2 _ Q1 k1
  cases p1
  exact ⟨P, rfl, hP, k1⟩
theorem call_cl {P : Int} {ls : List (List Int)} (h : Ev ta σ Hs (.int P)) (h2 : EvC tb σ Hs (cL (cL cI)) ls) (ok : OkLines P ls) : EvP (tCall (sp_check_lines c) [] C8.E0 (tCons ta (tCons tb tNil))) σ Hs fun _ _ => True := by
  refine ep_ev (v := .non) (ev_callS (as_cons (c_evI h) mo_c fun _ e1 => as_cons (EvC.lift h2 e1) mo_c fun _ _ => as_nil) ?_) trivial
  rintro vs H1 _ ⟨_, _, rfl, p1, x, _, rfl, p2, rfl⟩ H2 e2 Q1 k1
  cases p1
  exact ⟨H1, P, x, ls, e2, rfl, p2, ok, k1⟩
theorem range_split {n a : Nat} {pre post : List Nat} (h : List.range n = pre ++ a :: post) : a = pre.length := by
  have : (List.range n)[pre.length]? = some a := by rw [h]; simp
  rw [List.getElem?_range (by have := congrArg List.length h; simp at this; omega)] at this
  cases this
  rfl
theorem dbl_cons (a : Nat) (l : List Nat) : dbl (a :: l) = (a : Int) :: (a : Int) :: dbl l := rfl
theorem rd_told (h : sp_told c vs H Q E) : t_told c { nx := fun _ H' => Q .non H', rt := Q } (start ["places", "lines", "owners", "count", "_", "short", "line"] vs) H := by
  obtain ⟨Hs, P, u, ls, e, rfl, hl, hP, ok, k⟩ := h
  have few := ok.few
  have bd : Bd P ls := ⟨⟨by omega, by omega⟩, ok.few, fun l h => (ok.ok l h).few, fun l h => (ok.ok l h).inr⟩
  have w0 := Own.start e
  refine q_dropE (call_cp (ev_var rfl) hP) e fun H1 Hi1 g1 => ?_
  refine q_dropE (call_cl (ev_var rfl) (ec_var rfl (Mo.mo g1.s hl)) ok) g1.i fun H2 Hi2 g2 => ?_
  have w2 := (w0.on g1).on g2
  have hl2 := Mo.mo (g1.s.trans g2.s) hl
  refine q_oD w2 fun d H3 w3 _ => ?_
  refine q_oFor w3 (ei_rng (n := ((ls.length : Nat) : Int)) (ea_cons (ev_lenC (c := cL cI) (ec_var rfl hl2)) ea_nil) (by omega) (by omega)) (fun _ _ _ _ _ p => p)
    (fun pre σ' Ho' _ => ∃ O y3 y4 y5 y6, σ' = [some (.int P), some u, some (.ref d), y3, y4, y5, y6] ∧ Ho' d = some (.dK (kvA V.int O)) ∧ Owns P ls O ∧ (∀ j : Int, deg P O j = if 0 ≤ j ∧ j < (pre.length : Int) then 2 else 0) ∧
      ∀ post, List.range ls.length = pre ++ post → ∀ a, TR ls O (dbl post) a → Told ls a)
    (fun _ _ => ⟨[], none, none, none, none, rfl, upd_same, ⟨⟨List.nodup_nil, fun _ _ h => (nomatch h)⟩, fun _ _ h => (nomatch h)⟩, fun j => by rw [deg_nil, if_neg (by simp)], fun post hp a ha => by rw [List.nil_append] at hp; rw [← hp] at ha; exact ha⟩) ?_ ?_
  · rintro Hb eb pre n post x σ' Ho' Hi' Hi'' H'' hsrc ⟨O, y3, y4, y5, y6, rfl, hd, ow, dg, tr⟩ ei w' e' ca
    cases ca
    rw [Int.toNat_natCast] at hsrc
    have hn := range_split hsrc
    have hnl : n < ls.length := by
      have : n ∈ List.range ls.length := by rw [hsrc]; simp
      exact List.mem_range.mp this
    have hl3 := Mo.mo ((eb.trans ei).trans e') hl2
    refine s_oFor w' (ei_rng (n := 2) (ea_cons ev_c ea_nil) (by decide) (by decide)) (fun _ _ _ _ _ p => p)
      (fun pre2 σ' Ho' _ => ∃ O y4 y5 y6, σ' = [some (.int P), some u, some (.ref d), some (.int (n : Int)), y4, y5, y6] ∧ Ho' d = some (.dK (kvA V.int O)) ∧ Owns P ls O ∧ (∀ j : Int, deg P O j = if 0 ≤ j ∧ j < (n : Int) then 2 else if j = (n : Int) then pre2.length else 0) ∧
        ∀ post2, List.range 2 = pre2 ++ post2 → ∀ a, TR ls O (post2.map (fun _ => (n : Int)) ++ dbl post) a → Told ls a)
      (fun _ _ => ⟨O, y4, y5, y6, rfl, hd, ow, fun j => by
        rw [dg j, hn]
        by_cases z : 0 ≤ j ∧ j < (pre.length : Int)
        · rw [if_pos z, if_pos z]
        · rw [if_neg z, if_neg z]
          split <;> rfl, fun post2 hp a ha => by
        rw [List.nil_append] at hp
        rw [← hp] at ha
        exact tr (n :: post) hsrc a (by rw [dbl_cons]; exact ha)⟩) ?_ ?_
    · rintro Hb2 eb2 pre2 n2 post2 x2 σ2 Ho2 Hi3 Hi4 H4 hsrc2 ⟨O, y4, y5, y6, rfl, hd, ow, dg, tr⟩ ei2 w4 e4 ca2
      cases ca2
      have hsrc2' : List.range 2 = pre2 ++ n2 :: post2 := hsrc2
      have hp2 : pre2.length < 2 := by
        have := congrArg List.length hsrc2'
        rw [List.length_append, List.length_cons, List.length_range] at this
        omega
      have hA : EvA (tCons (tVar 1) (tCons (tVar 2) (tCons (tVar 3) tNil))) [some (.int P), some u, some (.ref d), some (.int (n : Int)), some (.int (n2 : Int)), y5, y6] Hi4 [u, .ref d, .int (n : Int)] := ea_cons (ev_var rfl) (ea_cons (ev_var rfl) (ea_cons (ev_var rfl) ea_nil))
      refine q_setCall hA w4.g.i fun H5 b5 => ?_
      have w5 := w4.up b5
      refine ⟨Hi4, d, u, P, n, ls, O, rfl, w5.lend hd, Mo.mo ((eb2.trans ei2).trans e4) hl3, bd, ow, by omega, fun v S O' Ho3 Hi6 H6 w6 hd6 cv res gr => ?_⟩
      have w7 := w5.given hd w6 hd6
      refine s_oWhen w7 (et_test (ev_gt (ev_lenC (c := cI) (ec_var rfl (w7.m cv))) ev_c)) (fun hb H7 w8 => ?_) (fun hb H7 w8 => ?_)
      · have hS : S ≠ [] := fun z => by rw [z] at hb; simp at hb
        rcases res with ⟨z, _⟩ | ⟨_, sh⟩
        · exact absurd z hS
        · have due : DueF ls S := due_few ow sh (fun j => by
            rw [dg j]
            split
            · omega
            · split <;> omega) (by rw [dg]; rw [if_neg (by omega), if_pos rfl]; omega)
          refine ea_make (C := c.few) (f := "lines") (d := cI) (p := fun l => l = S) (EvP.imp (ec_var rfl cv) fun v H _ h => ⟨S, rfl, h⟩) H7 w8.g.i _ fun l x q dx xs H8 Hs8 hlS g8 h1 h2 h3 h4 h5 h6 => ?_
          subst hlS
          exact (k.on w8.g) (.few l) x q dx xs H8 Hs8 ⟨tr (n2 :: post2) hsrc2' _ (.few gr hS), due⟩ g8 h1 h2 h3 h4 h5 h6
      · have hS : S = [] := by
          have : ¬ 0 < S.length := by simpa using hb
          exact List.length_eq_zero_iff.mp (by omega)
        subst hS
        rcases res with ⟨_, ow', dg'⟩ | ⟨_, sh⟩
        · refine ⟨_, Hi6, ⟨O', _, _, _, rfl, upd_same, ow', fun j => ?_, fun post3 hp a ha => ?_⟩, (ei2.trans e4).trans w6.g.s, w8⟩
          · rw [dg' j, dg j, List.length_append, List.length_singleton]
            by_cases z : 0 ≤ j ∧ j < (n : Int)
            · rw [if_pos z, if_pos z, if_neg (by omega)]
            · rw [if_neg z, if_neg z]
              by_cases z2 : j = (n : Int)
              · rw [if_pos z2, if_pos z2, if_pos z2.symm]
              · rw [if_neg z2, if_neg z2, if_neg fun y => z2 y.symm]
          · rw [List.append_assoc] at hp
            exact tr (n2 :: post3) hp a (.more gr ha)
        · exact nomatch sh.mem
    · rintro σ2 Ho2 Hi3 H4 ⟨O, y4, y5, y6, rfl, hd, ow, dg, tr⟩ ei2 w4
      refine ⟨Ho2, Hi3, ⟨O, _, _, _, _, rfl, hd, ow, fun j => ?_, fun post3 hp a ha => ?_⟩, (ei.trans e').trans ei2, w4⟩
      · rw [dg j, List.length_append, List.length_singleton, ← hn]
        have l2 : (List.range (2 : Int).toNat).length = 2 := rfl
        rw [l2]
        by_cases z : 0 ≤ j ∧ j < (n : Int)
        · rw [if_pos z, if_pos (by omega)]
        · rw [if_neg z]
          by_cases z2 : j = (n : Int)
          · rw [if_pos z2, if_pos (by omega)]
          · rw [if_neg z2, if_neg (by omega)]
      · refine tr [] (by rw [List.append_nil]; rfl) a ?_
        have : post = post3 := by
          rw [hsrc, List.append_assoc] at hp
          have := List.append_cancel_left hp
          exact (List.cons.inj this).2
        rw [this]
        exact ha
  · rintro σ' Ho' Hi' H' ⟨O, y3, y4, y5, y6, rfl, hd, ow, dg, tr⟩ ei w'
    have wk := w'.know hd
    have hdk : upd Hi' d (.dK (kvA V.int O)) d = some (.dK (kvA V.int O)) := upd_same
    have dn := (w'.o d _ hd).2.1
    have hlk := Mo.mo (ei.trans (Ex.new (o := .dK (kvA V.int O)) dn)) hl2
    have due := due_pairs ow ok fun i hi => by rw [dg, if_pos ⟨by omega, by rw [List.length_range, Int.toNat_natCast]; omega⟩]
    have told := tr [] (by rw [List.append_nil, Int.toNat_natCast]) (.pairs (pairsM O ls)) (.stop O)
    refine ea_make (C := c.pairs) (f := "pairs") (d := cP cI cI) (p := fun l => l = pairsM O ls) (EvP.imp (EvF.toC (ef_mapT (d := cP cI cI) (c1 := cN) (c2 := cL cI) (ei_enum (c := cL cI) (l := ls) ?_) (fun q => pairOf (ownM O q.2 (q.1 : Int))) (by rw [List.length_zip, List.length_range]; omega) fun a x y Hs' ha e' hx hy => ?_)) fun v H _ h => ⟨pairsM O ls, rfl, h⟩) H' wk.g.i _ fun l x q dx xs H8 Hs8 hlS g8 h1 h2 h3 h4 h5 h6 => ?_
    · refine (as_cons (ec_var rfl hlk) mo_c fun _ _ => as_nil).imp ?_
      rintro vs H1 _ ⟨s, _, rfl, p1, rfl⟩
      exact ⟨s, rfl, p1⟩
    · cases hx
      have ha2 : a.2 ∈ ls := (List.of_mem_zip ha).2
      have hat : ls[a.1]? = some a.2 := by
        obtain ⟨i, hi⟩ := List.getElem?_of_mem ha
        rw [zip_at] at hi
        cases ez : ls[i]? with
        | none => rw [ez] at hi; cases hi
        | some b =>
          rw [ez] at hi
          cases hi
          exact ez
      have hlt := (List.getElem?_eq_some_iff.mp hat).1
      obtain ⟨p, q, h1, _⟩ := own_two ow hat (ok.ok _ ha2) (by rw [dg, if_pos ⟨by omega, by rw [List.length_range, Int.toNat_natCast]; omega⟩])
      refine EvP.imp (call_pair (ec_var rfl hy) (ev_var rfl) (ev_var rfl) (e' _ _ hdk) (ok.ok _ ha2).few) fun v H _ hv => ?_
      rw [h1] at hv ⊢
      obtain ⟨t, zs, rfl, h2, h3⟩ := hv
      rw [paired_ints h3] at h2
      exact ⟨t, .int p, .int q, rfl, h2, rfl, rfl⟩
    · subst hlS
      exact (k.on wk.g) (.pairs (pairsM O ls)) x q dx xs H8 Hs8 ⟨told, due⟩ g8 h1 h2 h3 h4 h5 h6
end
end LH

namespace LH
open PySem L2 Evl PyProof.Rows
/-! ### an answer looked at -/
/-- the answer's object, its list known or not -/
def cAo (c : Cn) : Cd Ans := fun a H v => ∃ x l dx, v = .ref x ∧ H x = some (insA c l dx a)
instance {c : Cn} : Mo (cAo c) := ⟨fun e ⟨x, l, dx, h1, h2⟩ => ⟨x, l, dx, h1, e _ _ h2⟩⟩
theorem cA_o {c : Cn} {a : Ans} {H : Hp} {v : V} (h : cA c a H v) : cAo c a H v := by
  obtain ⟨x, l, dx, xs, h1, h2, _⟩ := h
  exact ⟨x, l, dx, h1, h2⟩
def clsA (c : Cn) : Ans → Addr | .pairs _ => c.pairs | .few _ => c.few
theorem lk1 (f : Str) (v : V) : ([(f, v)] : List (Str × V)).lookup f = some v := by simp [List.lookup]
def inO (l : List Int) : Option Int → Bool | none => false | some i => decide (i ∈ l)
theorem inV_non : ∀ l : List Int, inV .non (l.map V.int) = false
  | [] => rfl
  | _ :: r => inV_non r
def isPA : Ans → Bool | .pairs _ => true | .few _ => false
def isFA : Ans → Bool | .pairs _ => false | .few _ => true
section
variable {c : Cn} {vs : List V} {H : Hp} {Q : VK} {E : XK} {σ : L2.St} {Hs : Hp} {ta tb tc td te : TE} {a : Ans}
theorem ans_ty (O : Ob c) {v : V} (h : cAo c a H v) : TyX c.K H v (.ref (clsA c a)) := by
  obtain ⟨x, l, dx, rfl, h⟩ := h
  cases a with
  | pairs ps => exact .base (.ins (C := c.pairs) (dx := dx) (fs := [("pairs", .ref l)]) h O.clP O.haP O.hn O.htk O.hmP)
  | few S => exact .base (.ins (C := c.few) (dx := dx) (fs := [("lines", .ref l)]) h O.clF O.haF O.hn O.htk O.hmF)
theorem ev_isFew (O : Ob c) (h : EvC ta σ Hs (cAo c) a) : Ev (tCB (rIsi c.K) (tCons ta (tCons (tC (.ref c.few)) tNil))) σ Hs (.bl (isFA a)) := fun H e Q q => h H e _ fun v H2 Hs2 g p =>
  ⟨v, .ref c.few, _, .ref c.few, isFA a, rfl, .own _, ans_ty O (Mo.mo g.i p), (by cases a with | pairs => exact O.pf | few => exact O.ff), q H2 g.b⟩
theorem ev_isPairs (O : Ob c) (h : EvC ta σ Hs (cAo c) a) : Ev (tCB (rIsi c.K) (tCons ta (tCons (tC (.ref c.pairs)) tNil))) σ Hs (.bl (isPA a)) := fun H e Q q => h H e _ fun v H2 Hs2 g p =>
  ⟨v, .ref c.pairs, _, .ref c.pairs, isPA a, rfl, .own _, ans_ty O (Mo.mo g.i p), (by cases a with | pairs => exact O.pp | few => exact O.fp), q H2 g.b⟩
theorem ev_isAnswer (O : Ob c) (h : EvC ta σ Hs (cAo c) a) : Ev (tCB (rIsi c.K) (tCons ta (tCons (tC (.ref c.answer)) tNil))) σ Hs (.bl true) := fun H e Q q => h H e _ fun v H2 Hs2 g p =>
  ⟨v, .ref c.answer, _, .ref c.answer, true, rfl, .own _, ans_ty O (Mo.mo g.i p), (by cases a with | pairs => exact O.pa | few => exact O.fa), q H2 g.b⟩
theorem EvC.o (h : EvC ta σ Hs (cA c) a) : EvC ta σ Hs (cAo c) a := EvP.imp h fun _ _ _ p => cA_o p
/-- its field -/
theorem ep_fldP (O : Ob c) {ps : List (Int × Int)} (h : EvC ta σ Hs (cA c) (.pairs ps)) : EvC (tFld c.K ta "pairs") σ Hs (cL (cP cI cI)) ps := fun H e Q q => h H e _ fun v H2 Hs2 g ⟨x, l, dx, xs, h1, h2, h3, h4⟩ =>
  ⟨x, c.pairs, dx, [("pairs", .ref l)], .ref l, h1, g.i _ _ h2, O.clP, O.naP, lk1 _ _, q (.ref l) H2 Hs2 g ⟨l, xs, rfl, h3, h4⟩⟩
theorem ep_fldF (O : Ob c) {S : List Int} (h : EvC ta σ Hs (cA c) (.few S)) : EvC (tFld c.K ta "lines") σ Hs (cL cI) S := fun H e Q q => h H e _ fun v H2 Hs2 g ⟨x, l, dx, xs, h1, h2, h3, h4⟩ =>
  ⟨x, c.few, dx, [("lines", .ref l)], .ref l, h1, g.i _ _ h2, O.clF, O.naF, lk1 _ _, q (.ref l) H2 Hs2 g ⟨l, xs, rfl, h3, h4⟩⟩
theorem ev_fldP (O : Ob c) {x l dx : Addr} (h : Ev ta σ Hs (.ref x)) (hx : Hs x = some (.ins c.pairs dx [("pairs", .ref l)])) : Ev (tFld c.K ta "pairs") σ Hs (.ref l) := fun H e Q q => h H e _ fun H2 e2 =>
  ⟨x, c.pairs, dx, [("pairs", .ref l)], .ref l, rfl, e2 _ _ (e _ _ hx), O.clP, O.naP, lk1 _ _, q H2 e2⟩
theorem ev_fldF (O : Ob c) {x l dx : Addr} (h : Ev ta σ Hs (.ref x)) (hx : Hs x = some (.ins c.few dx [("lines", .ref l)])) : Ev (tFld c.K ta "lines") σ Hs (.ref l) := fun H e Q q => h H e _ fun H2 e2 =>
  ⟨x, c.few, dx, [("lines", .ref l)], .ref l, rfl, e2 _ _ (e _ _ hx), O.clF, O.naF, lk1 _ _, q H2 e2⟩
theorem rd_other_place (O : Ob c) (h : sp_other_place c vs H Q E) : t_other_place c { nx := fun _ H' => Q .non H', rt := Q } (start ["answer", "his", "last", "low", "high"] vs) H := by
  obtain ⟨Hs, u, v, a, hs, e, rfl, hu, hv, k⟩ := h
  refine q_whenB (et_or (et_B (ev_isFew O (EvC.o (ec_var rfl hu)))) fun _ => et_test (ev_eqI (ev_lenC (c := cI) (ec_var rfl hv)) ev_c)) e (fun hb H2 e2 => ?_) (fun hb H2 e2 => ?_)
  · refine s_retS ev_c (e.trans e2) (on_v (v := oI (otherM a hs)) k e2 |> fun z => ?_)
    have : otherM a hs = none := by
      cases a with
      | few S => rfl
      | pairs ps =>
        have hb' : (hs.length : Int) = 0 := by simpa [isFA] using hb
        have : hs = [] := List.length_eq_zero_iff.mp (by omega)
        rw [this]
        rfl
    rw [this] at z
    exact z
  · rw [Bool.or_eq_false_iff, decide_eq_false_iff_not] at hb
    cases a with
    | few S => exact nomatch (show true = false from hb.1)
    | pairs ps =>
      have hne : hs ≠ [] := fun z => hb.2 (by rw [z]; rfl)
      obtain ⟨hs', h0, rfl⟩ : ∃ hs' h0, hs = hs' ++ [h0] := ⟨hs.dropLast, hs.getLast hne, (List.dropLast_concat_getLast hne).symm⟩
      have w := (Own.start e).up e2
      refine q_oV w (evI_c (ep_ixLast (c := cI) (ec_var rfl (w.m hv)) (ev_neg ev_c))) fun H3 w => ?_
      have hM : otherM (.pairs ps) (hs' ++ [h0]) = ps.findSome? fun p => if h0 = p.1 then some p.2 else if h0 = p.2 then some p.1 else none := by
        unfold otherM
        rw [List.getLast?_append]
        rfl
      rw [hM] at k
      refine q_oFor w (ei_list (ep_fldP O (ec_var rfl hu))) mo_c' (fun pre σ' _ _ => ∃ y3 y4, σ' = [some u, some v, some (.int h0), y3, y4] ∧ pre.findSome? (fun p => if h0 = p.1 then some p.2 else if h0 = p.2 then some p.1 else none) = none)
        (fun _ _ => ⟨none, none, rfl, rfl⟩) ?_ ?_
      · rintro Hb eb pre ⟨p, q⟩ post x σ' Ho' Hi' Hi'' H'' hsrc ⟨y3, y4, rfl, hn⟩ ei w' e' ca
        refine g_two ca w'.g.i fun cu cv h1 h2 => ?_
        cases h1
        cases h2
        rw [hsrc, List.findSome?_append, hn, Option.none_or, List.findSome?_cons] at k
        refine q_oWhen w' (et_test (ev_eqI (ev_var rfl) (ev_var rfl))) (fun hb H4 w4 => ?_) (fun hb H4 w4 => ?_)
        · rw [if_pos (of_decide_eq_true hb)] at k
          exact s_oRetV w4 (ev_var rfl) k
        · have n1 : ¬ h0 = p := of_decide_eq_false hb
          rw [if_neg n1] at k
          refine s_oWhen w4 (et_test (ev_eqI (ev_var rfl) (ev_var rfl))) (fun hb H5 w5 => ?_) (fun hb H5 w5 => ?_)
          · rw [if_pos (of_decide_eq_true hb)] at k
            exact s_oRetV w5 (ev_var rfl) k
          · refine ⟨Ho', Hi'', ⟨_, _, rfl, ?_⟩, ei.trans e', w5⟩
            rw [List.findSome?_append, hn, Option.none_or, List.findSome?_cons, if_neg n1, if_neg (of_decide_eq_false hb)]
            rfl
      · rintro σ' Ho' Hi' H' ⟨y3, y4, rfl, hn⟩ ei w'
        rw [hn] at k
        exact s_oRetV w' ev_c k
theorem call_other {hs : List Int} (h1 : EvC ta σ Hs (cA c) a) (h2 : EvC tb σ Hs (cL cI) hs) : Ev (tCall (sp_other_place c) [] C8.E0 (tCons ta (tCons tb tNil))) σ Hs (oI (otherM a hs)) := by
  refine ev_callS (as_cons h1 mo_c fun _ e1 => as_cons (EvC.lift h2 e1) mo_c fun _ _ => as_nil) ?_
  rintro vs H1 _ ⟨_, _, rfl, p1, _, _, rfl, p2, rfl⟩ H2 e2 Q1 k1
  exact ⟨H1, _, _, a, hs, e2, rfl, p1, p2, k1⟩
theorem call_told {P : Int} {ls : List (List Int)} (h1 : Ev ta σ Hs (.int P)) (h2 : EvC tb σ Hs (cL (cL cI)) ls) (hP : 1 ≤ P ∧ P ≤ 60) (ok : OkLines P ls) : EvAn c (tCall (sp_told c) [] C8.E0 (tCons ta (tCons tb tNil))) σ Hs fun a => Told ls a ∧ Due ls a := fun H e Q k =>
  (as_cons (c_evI h1) mo_c fun _ e1 => as_cons (EvC.lift h2 e1) mo_c fun _ _ => as_nil) H e _ fun vs H2 Hs2 g hv => by
    obtain ⟨_, _, rfl, p1, _, _, rfl, p2, rfl⟩ := hv
    cases p1
    exact ⟨Hs2, P, _, ls, g.i, rfl, p2, hP, ok, k.on g⟩
theorem cN_I {l : List Nat} {H : Hp} {v : V} (h : cL cN l H v) : cL cI (l.map fun i : Nat => (i : Int)) H v := by
  obtain ⟨a, xs, h1, h2, h3⟩ := h
  refine ⟨a, xs, h1, h2, ?_⟩
  clear h1 h2
  induction h3 with
  | nil => exact .nil
  | cons h t ih => exact .cons h ih
theorem ev_inO {l : List Int} {o : Option Int} {K : PySem.W.Frag} (ha : Ev ta σ Hs (oI o)) (hb : EvC tb σ Hs (cL cI) l) : Ev (tOp (rIn K false) ta tb) σ Hs (.bl (inO l o)) := by
  cases o with
  | some i => exact ev_in ha hb
  | none =>
    refine fun H e Q q => ha H e _ fun H2 e2 => hb H2 (e.trans e2) _ fun v H3 Hs3 g p => ?_
    obtain ⟨a, rfl, h2⟩ := cL_ints p
    refine ⟨a, _, rfl, .inl (sq_ex g.i h2), rfl, flat_ints l, ?_⟩
    show Q (.bl (inV .non (l.map V.int))) H3
    rw [inV_non]
    exact q H3 (e2.trans g.b)
theorem rd_reply (O : Ob c) (h : sp_reply c vs H Q E) : t_reply c { nx := fun _ H' => Q .non H', rt := Q } (start ["places", "lines", "his", "mine", "free", "other"] vs) H := by
  obtain ⟨Hs, P, ls, hs, ms, ⟨u, v, w_, e, rfl, h1, h2, h3, b⟩, k⟩ := h
  have hP := b.p
  refine q_dropE (call_check (ev_var rfl) (ec_var rfl h1) (ec_var rfl h2) (ec_var rfl h3) b) e fun H2 Hs2 g => ?_
  have w := (Own.start e).on g
  replace h1 := Mo.mo g.s h1
  replace h2 := Mo.mo g.s h2
  replace h3 := Mo.mo g.s h3
  refine q_oP w (EvF.toC (call_free (ev_var rfl) (ec_var rfl h2) (ec_var rfl h3) (by omega))) fun fv Hi H3 w e1 hf => ?_
  replace h1 := Mo.mo e1 h1
  replace h2 := Mo.mo e1 h2
  replace h3 := Mo.mo e1 h3
  have ok := b.l
  have hcall : ∀ {σ : L2.St}, σ[0]? = some (some (.int P)) → σ[1]? = some (some u) → σ[2]? = some (some v) → EvP (tCall (sp_other_place c) [] C8.E0 (tCons (tCall (sp_told c) [] C8.E0 (tCons (tVar 0) (tCons (tVar 1) tNil))) (tCons (tVar 2) tNil))) σ Hi fun v _ => ∃ a, (Told ls a ∧ Due ls a) ∧ v = oI (otherM a hs) := fun s0 s1 s2 =>
    ep_call (as_cons (EvAn.toC (call_told (ev_var s0) (ec_var s1 h1) (by omega) ok)) (fun _ _ _ e ⟨a, pa, p⟩ => ⟨a, pa, Mo.mo e p⟩) fun _ e1 => as_cons (ec_var s2 (Mo.mo e1 h2)) mo_c fun _ _ => as_nil) (by
      rintro vs H1 _ ⟨_, _, rfl, ⟨a, pa, p1⟩, _, _, rfl, p2, rfl⟩ H2 e2 Q1 k1
      exact ⟨H1, _, _, a, hs, e2, rfl, p1, p2, fun H3 b => k1 _ H3 _ (Grow.up e2 b) ⟨a, pa, rfl⟩⟩)
  refine q_oWhen w (et_test (ev_eqI (ev_lenC (c := cN) (ec_var rfl (w.m hf))) ev_c)) (fun hb H4 w4 => ?_) (fun hb H4 w4 => ?_)
  · have hz : freeP P hs ms = [] := List.length_eq_zero_iff.mp (by have := of_decide_eq_true hb; omega)
    exact s_oRet w4 (ep_ev ev_c (.inl ⟨hz, rfl⟩)) k
  · refine q_oP w4 (hcall rfl rfl rfl) fun ov Hi5 H5 w5 e5 ho => ?_
    obtain ⟨a, ⟨ta, da⟩, rfl⟩ := ho
    have hne : freeP P hs ms ≠ [] := fun z => of_decide_eq_false hb (by rw [z]; rfl)
    obtain ⟨f, r, hfr⟩ := List.exists_cons_of_ne_nil hne
    have hf5 := Mo.mo e5 hf
    refine s_oRet w5 ?_ k
    have hin := ev_inO (K := c.K) (σ := [some (.int P), some u, some v, some w_, some fv, some (oI (otherM a hs))]) (ta := tVar 5) (tb := tVar 4) (Hs := Hi5) (o := otherM a hs) (ev_var rfl) (ec_var rfl (cN_I hf5))
    refine ep_if (et_test hin) (fun ht => ep_ev (ev_var rfl) (.inr ⟨a, ta, da, ?_⟩)) (fun ht => ?_)
    · unfold replyM
      rw [hfr] at ht ⊢
      cases ho : otherM a hs with
      | none => rw [ho] at ht; cases ht
      | some o =>
        rw [ho] at ht
        have : o ∈ (f :: r).map fun i : Nat => (i : Int) := of_decide_eq_true ht
        dsimp only
        rw [if_pos this]
    · refine EvP.imp (ep_ixL (c := cN) (n := 0) (a := f) (ec_var rfl hf5) ev_c (by rw [hfr]; rfl)) fun v H _ hv => .inr ⟨a, ta, da, ?_⟩
      unfold replyM
      rw [hfr] at ht ⊢
      cases ho : otherM a hs with
      | none => exact hv
      | some o =>
        rw [ho] at ht
        have : ¬ o ∈ (f :: r).map fun i : Nat => (i : Int) := of_decide_eq_false ht
        dsimp only
        rw [if_neg this]
        exact hv
theorem call_reply {targ : TA} {P : Int} {ls : List (List Int)} {hs ms : List Int} (h : EvPlay targ σ Hs P ls hs ms) : EvP (tCall (sp_reply c) [] C8.E0 targ) σ Hs fun v _ => RepM P ls hs ms v := ep_call h fun _ H1 _ p H2 e2 _ k => ⟨H1, P, ls, hs, ms, p H2 e2, k⟩
theorem RepM.at {P : Int} {ls : List (List Int)} {hs ms : List Int} {v : V} (h : RepM P ls hs ms v) (t : Told ls a) : v = oI (replyM P hs ms a) := by
  rcases h with ⟨h1, rfl⟩ | ⟨b, tb, _, rfl⟩
  · unfold replyM
    rw [h1]
    rfl
  · rw [TR.det tb t]
end
end LH

namespace LH
open PySem PySem.Spec PyProof.Rows L2 PpSet
/-! ### {e for x in a for y in b}: a set of whole numbers, by two clauses -/
abbrev sc2 (e t0 i0 t1 i1 : Expr) (c0 c1 : List Expr) (scope : Scope) (pos : Pos) : Expr := .SetComp e [⟨t0, i0, c0, 0⟩, ⟨t1, i1, c1, 0⟩] scope pos
section
variable {P : Program} {w : World} {A : Around} {R : Result → Shared → Prop} {s : Shared} {e t0 i0 t1 i1 : Expr} {c0 c1 : List Expr} {scope : Scope} {pos : Pos} {it acc : Value} {env : Env}
abbrev testsOf (cs : List Expr) (env : Env) : Sem Bool := forIn cs true fun c r => if r = true then do let b ← isTrue c env (eval c env); pure (ForInStep.yield b) else pure (ForInStep.yield r)
theorem sc2_outer : compTurn (sc2 e t0 i0 t1 i1 c0 c1 scope pos) 0 it acc env = (do
      standAt i0.pos
      let nxt ← pyNext it
      match nxt with
      | none => pure (.done .next)
      | some x =>
        letOwnedTupleGo t0 it x; assign t0 env x
        let b ← testsOf c0 env
        if b then (do let y ← eval i1 env; standAt i1.pos; let y ← foldedSetIterable i1 env y; let z ← holding [y] (pyIter y); let _ ← runOwn (.compStart (sc2 e t0 i0 t1 i1 c0 c1 scope pos) 1 z acc env) env; again (.compLoop (sc2 e t0 i0 t1 i1 c0 c1 scope pos) 0 it acc env))
        else again (.compLoop (sc2 e t0 i0 t1 i1 c0 c1 scope pos) 0 it acc env)) := by
  rfl
theorem sc2_inner : compTurn (sc2 e t0 i0 t1 i1 c0 c1 scope pos) 1 it acc env = (do
      standAt i1.pos
      let nxt ← pyNext it
      match nxt with
      | none => pure (.done .next)
      | some x =>
        letOwnedTupleGo t1 it x; assign t1 env x
        let b ← testsOf c1 env
        if b then (do let _ ← (do let y ← eval e env; standAt e.pos; let _ ← call (.builtin "set.add") [acc, y]); again (.compLoop (sc2 e t0 i0 t1 i1 c0 c1 scope pos) 1 it acc env))
        else again (.compLoop (sc2 e t0 i0 t1 i1 c0 c1 scope pos) 1 it acc env)) := by
  rfl
/-- the loop of the first clause; nothing raises -/
theorem sc2_loop0 (fold : ∀ x, foldedSetIterable i1 env x = pure x) (Iv : Nat → Shared → Prop)
    (turn : ∀ n s, Iv n s → wpAny (model P w) A (pyNext it) (fun r s1 => match r with
      | none => R (.ok .next) s1
      | some x => wpAny (model P w) A (letOwnedTupleGo t0 it x) (fun _ s2 => wpAny (model P w) A (assign t0 env x) (fun _ s3 => wpAny (model P w) A (testsOf c0 env) (fun b s4 =>
          if b = true then wpAny (model P w) A (eval i1 env) (fun y s5 => wpAny (model P w) A (pyIter y) (fun z s6 => codeAny (model P w) A (.compStart (sc2 e t0 i0 t1 i1 c0 c1 scope pos) 1 z acc env)
            (fun r s7 => (∃ f, r = .ok f) ∧ ∃ m, m < n ∧ Iv m s7) s6) (fun _ _ => False) s5) (fun _ _ => False) s4 else ∃ m, m < n ∧ Iv m s4) (fun _ _ => False) s3) (fun _ _ => False) s2) (fun _ _ => False) s1) (fun _ _ => False) s)
    (n : Nat) (h : Iv n s) : codeAny (model P w) A (.compLoop (sc2 e t0 i0 t1 i1 c0 c1 scope pos) 0 it acc env) R s := by
  refine codeAny_loop rfl Iv (fun n s hI => ?_) n h
  refine (show wpAny _ A ((compTurn (sc2 e t0 i0 t1 i1 c0 c1 scope pos) 0 it acc env).onRaise fun x => do noteFrame x env; theTreesLotGoes x) _ _ s from wpAny_noted ?_)
  rw [sc2_outer]
  refine wpAny_bind (wpAny_standAt (wpAny_bind (wpAny_mono (turn n s hI) (fun r s1 h1 => ?_) fun _ _ z => z.elim)))
  cases r with
  | none => exact wpAny_pure h1
  | some x =>
    refine wpAny_bind (wpAny_mono h1 (fun _ s2 h2 => wpAny_bind (wpAny_mono h2 (fun _ s3 h3 => wpAny_bind (wpAny_mono h3 (fun b s4 h4 => ?_) fun _ _ z => z.elim)) fun _ _ z => z.elim)) fun _ _ z => z.elim)
    cases b with
    | false => exact wpAny_pure ⟨rfl, h4⟩
    | true =>
      refine wpAny_bind (wpAny_mono h4 (fun y s5 h5 => wpAny_bind (wpAny_standAt (wpAny_bind (wpAny_of_eq (fold y) (wpAny_bind (wpAny_holding (wpAny_mono h5 (fun z s6 h6 => ?_) fun _ _ z => z.elim))))))) fun _ _ z => z.elim)
      refine wpAny_bind (wpAny_runOwn ?_)
      rw [Around.mark_none]
      refine codeAny_mono h6 fun r s7 ⟨⟨f, hf⟩, hr⟩ => ?_
      subst hf
      first
        | exact wpAny_pure ⟨rfl, hr⟩
        | exact wpAny_bind (wpAny_pure (wpAny_pure ⟨rfl, hr⟩))
/-- the loop of the second -/
theorem sc2_loop1 (Iv : Nat → Shared → Prop)
    (turn : ∀ n s, Iv n s → wpAny (model P w) A (pyNext it) (fun r s1 => match r with
      | none => R (.ok .next) s1
      | some x => wpAny (model P w) A (letOwnedTupleGo t1 it x) (fun _ s2 => wpAny (model P w) A (assign t1 env x) (fun _ s3 => wpAny (model P w) A (testsOf c1 env) (fun b s4 =>
          if b = true then wpAny (model P w) A (eval e env) (fun y s5 => wpAny (model P w) A (call (.builtin "set.add") [acc, y]) (fun _ s6 => ∃ m, m < n ∧ Iv m s6) (fun _ _ => False) s5) (fun _ _ => False) s4
          else ∃ m, m < n ∧ Iv m s4) (fun _ _ => False) s3) (fun _ _ => False) s2) (fun _ _ => False) s1) (fun _ _ => False) s)
    (n : Nat) (h : Iv n s) : codeAny (model P w) A (.compLoop (sc2 e t0 i0 t1 i1 c0 c1 scope pos) 1 it acc env) R s := by
  refine codeAny_loop rfl Iv (fun n s hI => ?_) n h
  refine (show wpAny _ A ((compTurn (sc2 e t0 i0 t1 i1 c0 c1 scope pos) 1 it acc env).onRaise fun x => do noteFrame x env; theTreesLotGoes x) _ _ s from wpAny_noted ?_)
  rw [sc2_inner]
  refine wpAny_bind (wpAny_standAt (wpAny_bind (wpAny_mono (turn n s hI) (fun r s1 h1 => ?_) fun _ _ z => z.elim)))
  cases r with
  | none => exact wpAny_pure h1
  | some x =>
    refine wpAny_bind (wpAny_mono h1 (fun _ s2 h2 => wpAny_bind (wpAny_mono h2 (fun _ s3 h3 => wpAny_bind (wpAny_mono h3 (fun b s4 h4 => ?_) fun _ _ z => z.elim)) fun _ _ z => z.elim)) fun _ _ z => z.elim)
    cases b with
    | false => exact wpAny_pure ⟨rfl, h4⟩
    | true => exact wpAny_bind (wpAny_bind (wpAny_mono h4 (fun y s5 h5 => wpAny_bind (wpAny_standAt (wpAny_bind (wpAny_mono h5 (fun _ s6 h6 => wpAny_pure (wpAny_pure ⟨rfl, h6⟩)) fun _ _ z => z.elim)))) fun _ _ z => z.elim))
/-- the second clause begins -/
theorem sc2_start1 (h0 : codeAny (model P w) A (.compLoop (sc2 e t0 i0 t1 i1 c0 c1 scope pos) 1 it acc env) R s)
    (h : wpAny (model P w) A (pyIter it) (fun z s1 => codeAny (model P w) A (.compLoop (sc2 e t0 i0 t1 i1 c0 c1 scope pos) 1 z acc env) R s1) (notedBy (model P w) A env fun x s1 => R (.error x) s1) s) :
    codeAny (model P w) A (.compStart (sc2 e t0 i0 t1 i1 c0 c1 scope pos) 1 it acc env) R s := by
  refine codeAny_of_tree (show wpAny _ _ ((compStart (sc2 e t0 i0 t1 i1 c0 c1 scope pos) 1 it acc env).onRaise fun x => do noteFrame x env; standAt theWindowsPlace) _ _ s from wpAny_notedAt ?_)
  unfold compStart
  refine (show wpAny _ _ (ask >>= _) _ _ s from wpAny_bind (wpAny_askSetting (wpAny_ite ?_)))
  split
  · first
      | exact wpAny_bind (wpAny_pure (wpAny_pure ⟨rfl, h0⟩))
      | exact wpAny_pure ⟨rfl, h0⟩
  · first
      | exact wpAny_bind (wpAny_rule (wpAny_bind (wpAny_standAt (wpAny_bind (wpAny_mono h (fun z s1 q => wpAny_pure ⟨rfl, q⟩) fun _ _ q => q)))))
      | (refine wpAny_bind (wpAny_rule (show wpAny _ _ (standAt i1.pos >>= _) _ _ s from ?_)); exact wpAny_bind (wpAny_standAt (wpAny_bind (wpAny_mono h (fun z s1 q => wpAny_pure ⟨rfl, q⟩) fun _ _ q => q))))
end
section
variable {X : Cx}
/-- the reading: behind the first clause's store the second source's own loop; D is the new set -/
def tSc2 (w : World) (wa : TI) (ga : TG) (ta : TT) (wb : TI) (gb : TG) (tb : TT) (te : TE) (vs us : List Nat) : TE := fun σ H Q => wa σ H fun J Ha => ∀ D, Ha D = none →
  ∃ W : Nat → Nat → Hp → Prop, (∃ m, W 0 m (upd Ha D (SetO w D (fun _ => false) 0))) ∧ ∀ i m Hb, W i m Hb → (J.stop i Hb ∧ Q (.ref D) Hb) ∨
    (J.go i Hb ∧ ∃ N : Hp → Prop, (∀ Hc, N Hc → ∃ m', m' < m ∧ W (i + 1) m' Hc) ∧ ∀ x Hc, J.yld i Hb x Hc → ga x (wipe σ vs) Hc fun σ2 Hd => wipe σ2 vs = wipe σ vs ∧ ta σ2 Hd fun b He => if b = true then
      wb σ2 He fun J2 Hf => ∃ W2 : Nat → Nat → Hp → Prop, (∃ m, W2 0 m Hf) ∧ ∀ j k Hg, W2 j k Hg → (J2.stop j Hg ∧ N Hg) ∨
        (J2.go j Hg ∧ ∃ N2 : Hp → Prop, (∀ Hh, N2 Hh → ∃ k', k' < k ∧ W2 (j + 1) k' Hh) ∧ ∀ y Hh, J2.yld j Hg y Hh → gb y (wipe σ2 us) Hh fun σ3 Hi => wipe σ3 us = wipe σ2 us ∧ tb σ3 Hi fun b2 Hj =>
          if b2 = true then te σ3 Hj fun z Hk => rSAdd w (.ref D) [z] Hk fun _ Hl => N2 Hl else N2 Hj)
    else N He)
theorem sc2_core {pins : List (Addr × Obj)} {s : Shared} {σ : L2.St} {H : Hp} {Q : VK} {e ea eb ia ib : Expr} {ca cb : List Expr} {scope : Scope} {own : List (PySem.Str × Nat)} {us : List Nat} {pos : Pos} {wa wb : TI} {ga gb : TG} {ta tb : TT} {te : TE}
    (calm : X.calm = true) (nd : X.N.Nodup) (I : Inv X pins σ H s) (pa : PI X ea ia wa) (ok : BlkOk X.N X.env.scope scope own) (sub : ∀ i ∈ us, i ∈ own.map (·.2))
    (pga : ∀ (s : Shared) (H : Hp) (C : Addr) (cl : List (PySem.Str × Addr)) (fp : List Addr), PG (X.blk s H scope (compEnvC scope cl C X.env) fp) ea ga) (pta : ∀ (s : Shared) (H : Hp) (C : Addr) (cl : List (PySem.Str × Addr)) (fp : List Addr), PTs (X.blk s H scope (compEnvC scope cl C X.env) fp) ca ta)
    (pb : ∀ (s : Shared) (H : Hp) (C : Addr) (cl : List (PySem.Str × Addr)) (fp : List Addr), PI (X.blk s H scope (compEnvC scope cl C X.env) fp) eb ib wb)
    (pgb : ∀ (s : Shared) (H : Hp) (C : Addr) (cl : List (PySem.Str × Addr)) (fp : List Addr), PG (X.blk s H scope (compEnvC scope cl C X.env) fp) eb gb) (ptb : ∀ (s : Shared) (H : Hp) (C : Addr) (cl : List (PySem.Str × Addr)) (fp : List Addr), PTs (X.blk s H scope (compEnvC scope cl C X.env) fp) cb tb)
    (pe : ∀ (s : Shared) (H : Hp) (C : Addr) (cl : List (PySem.Str × Addr)) (fp : List Addr), PE (X.blk s H scope (compEnvC scope cl C X.env) fp) e te) (fa : ∀ x, foldedSetIterable ia X.env x = pure x) (fb : ∀ env x, foldedSetIterable ib env x = pure x)
    (h : tSc2 X.w wa ga ta wb gb tb te (own.map (·.2)) us σ H Q) :
    wpAny (model X.prog X.w) X.A (comprehension (sc2 e ea ia eb ib ca cb scope pos) scope X.env (firstIterPos [⟨ea, ia, ca, 0⟩, ⟨eb, ib, cb, 0⟩] pos) (newSet (.type "set")) false (eval ia X.env) none) (EP X pins σ Q) X.xe s := by
  have frees : ∀ y ∈ scope.names, y.2 = .free → ∃ c, X.env.cells.lookup y.1 = some c := fun y hy z => (ok.free y hy z).elim (fun k => I.ok.has _ (.inl k)) fun k => I.ok.has _ (.inr k)
  refine wpAny_comprehension_free (use := none) rfl fa (closure_ok frees) ok.kind (fun y hy z => by rw [ok.uniq y hy, z]) (thn (pa.run pins s σ H _ I h) fun _ s1 hx => thn hx fun _ s2 h2 => ?_)
  obtain ⟨it, fp, tn, J, Ha, rfl, Ia, T, sta, fra, q⟩ := h2
  refine newSet_ok (newEnv_comp ?_)
  generalize hD : s2.heap.objs.size = D
  obtain ⟨W, ⟨m0, wm⟩, turn⟩ := q D (Ia.hok.fresh (Nat.le_of_eq hD))
  generalize hs3 : ({ s2 with heap := s2.heap.push { cls := .type "set", dict := none, data := .set #[] 0 (.fresh 0 0 (!X.w.params.followText "set-order")) } } : Shared) = s3
  have grown : ∀ b o, s2.heap.get? b = some o → s3.heap.get? b = some o := fun b o z => by rw [← hs3]; exact Heap.get?_push_of_some _ z
  have bigger : ∀ b, b < s2.heap.objs.size → b < s3.heap.objs.size := fun b z => by rw [← hs3]; show b < (s2.heap.push _).objs.size; rw [Heap.size_push]; exact Nat.lt_succ_of_lt z
  have Is : Inv X pins σ (upd Ha D (SetO X.w D (fun _ => false) 0)) s3 := by
    rw [← hs3]
    refine Ia.laid (t' := s2.toks) (fun b o z => Heap.get?_push_of_some _ z) (Nat.le_of_eq hD) ?_
    rw [← hD]
    exact setO_new (setR_fresh X.w)
  have frs : ∀ b ∈ fp, FpOk X pins (upd Ha D (SetO X.w D (fun _ => false) 0)) b ∧ b < s3.heap.objs.size := fun b hb => by
    obtain ⟨o, z, _⟩ := T.obj _ _ sta b hb
    have lt := Heap.lt_size z
    exact ⟨⟨by rw [upd_ne (by rw [← hD]; exact Nat.ne_of_lt lt)]; exact (fra b hb).1, (fra b hb).2⟩, bigger b lt⟩
  have sts : tn 0 s3.heap := T.keep _ _ _ sta fun b _ o z => grown b o z
  have Ib := block_start Is ok nd frs
  refine (show codeAny _ _ (.compStart (sc2 e ea ia eb ib ca cb scope pos) 0 (.ref it) (.ref D) (compEnvC scope (cellsFrom (s3.heap.objs.size + 1) scope.names (cloFrom X.env.cells scope.names [])) s3.heap.objs.size X.env)) (compPost (model X.prog X.w) X.A X.xe none (EP X pins σ Q) (.ref D) s3.heap.objs.size) { s3 with heap := pushCells (s3.heap.push { cls := .type "dict", data := .dict #[] }) scope.names } from ?_)
  generalize cellsFrom (s3.heap.objs.size + 1) scope.names (cloFrom X.env.cells scope.names []) = cs at Ib ⊢
  generalize hHs : upd Ha D (SetO X.w D (fun _ => false) 0) = Hs at Is Ib wm frs
  have Ga := pga s3 Hs s3.heap.objs.size cs fp
  have Ta := pta s3 Hs s3.heap.objs.size cs fp
  have Pb := pb s3 Hs s3.heap.objs.size cs fp
  have Gb := pgb s3 Hs s3.heap.objs.size cs fp
  have Tb := ptb s3 Hs s3.heap.objs.size cs fp
  have Pe := pe s3 Hs s3.heap.objs.size cs fp
  generalize hce : compEnvC scope cs s3.heap.objs.size X.env = ce at Ib Ga Ta Pb Gb Tb Pe ⊢
  have loc : ce.locals = s3.heap.objs.size := by rw [← hce]; rfl
  generalize hs4 : ({ s3 with heap := pushCells (s3.heap.push { cls := .type "dict", data := .dict #[] }) scope.names } : Shared) = s4 at Ib ⊢
  have stb : tn 0 s4.heap := T.keep _ _ _ sts fun b _ o z => by rw [← hs4]; exact pushCells_keeps _ _ _ _ (Heap.get?_push_of_some _ z)
  have free : ∀ {pl : List (Addr × Obj)} {σ' : L2.St} {H' : Hp} {s' : Shared}, Inv (X.blk s3 Hs scope ce fp) pl σ' H' s' → pl = [] → (∀ b ∈ fp, H' b = none) → ∀ b ∈ fp, FpOk (X.blk s3 Hs scope ce fp) [] H' b := fun {pl σ' H' s'} I' hp hn b hb =>
    ⟨hn b hb, (I'.ok.exf b hb).1, I'.ok.exfs b hb, .inl hb, fun x c z => (I'.ok.exf b hb).2 x c z, fun p hp => absurd (show p ∈ ([] : List (Addr × Obj)) ++ [] from hp) (by simp)⟩
  have loop : codeAny (model X.prog X.w) X.A (.compLoop (sc2 e ea ia eb ib ca cb scope pos) 0 (.ref it) (.ref D) ce) (compPost (model X.prog X.w) X.A X.xe none (EP X pins σ Q) (.ref D) s3.heap.objs.size) s4 := by
    refine sc2_loop0 (fb ce) (fun n s' => ∃ i H', Inv (X.blk s3 Hs scope ce fp) [] (wipe σ (own.map (·.2))) H' s' ∧ tn i s'.heap ∧ (∀ b ∈ fp, H' b = none) ∧ W i n H') ?_ m0 ⟨0, Hs, Ib, stb, fun b hb => (frs b hb).1.1, wm⟩
    rintro n s5 ⟨i, H5, I5, st5, n5, w5⟩
    rcases turn i n H5 w5 with ⟨stop, qq⟩ | ⟨go, N, hN, step⟩
    · refine thnF (T.done (X.blk s3 Hs scope ce fp) rfl rfl rfl calm i [] s5 _ H5 (fun _ _ => False) I5 (free I5 rfl n5) st5 stop) fun r s6 ⟨hr, I6⟩ => ?_
      subst hr
      have I7 : Inv X pins σ H5 s6 := Is.call' (ch := fp) I6.os I6.base I6.hok I6.bare fun b hb => ⟨(frs b hb).1.2.2.2.1, (frs b hb).1.2.1, (frs b hb).1.2.2.2.2.1, (frs b hb).1.2.2.2.2.2⟩
      have nC : H5 s3.heap.objs.size = none := loc ▸ (show H5 ce.locals = none from I6.free)
      obtain ⟨m, hm, _⟩ := I6.loc
      have hm2 : s6.heap.Ns s3.heap.objs.size m := loc ▸ (show s6.heap.Ns ce.locals m from hm)
      refine ⟨m, hm2, fun h' sb => ?_⟩
      obtain ⟨f0, f1, _, f3, f4, f5⟩ := Is.fpOk (Nat.le_refl _) nC
      exact ⟨.ref D, H5, I7.turned (t' := s6.toks) (fun b o hb z => (sb.2 b hb).trans z) f0 f1 f3 f4 f5, rfl, qq⟩
    · refine thnF (T.item (X.blk s3 Hs scope ce fp) rfl rfl rfl calm i [] s5 _ H5 (fun _ _ => False) I5 (free I5 rfl n5) st5 go) fun r s6 ⟨u, hr, h6⟩ => ?_
      subst hr
      refine thnF h6 fun _ s7 ⟨x, H7, I7, r7, y7, st7, n7⟩ => ?_
      refine thnF (Ga.run _ s7 _ H7 x u _ (I7.pinned (free I7 rfl n7) (T.obj _ _ st7)) r7 (step x H7 y7)) fun _ s8 ⟨σ8, H8, I8, e8, q8⟩ => thnF (Ta.run _ s8 σ8 H8 _ I8 q8) fun b s9 ⟨H9, I9, q9⟩ => ?_
      have fin : ∀ {σ9 : L2.St} {s' : Shared} {H' : Hp}, Inv (X.blk s3 Hs scope ce fp) ([] ++ pinsAt fp s7.heap) σ9 H' s' → (wipe σ (own.map (·.2))).length = σ9.length → (∀ (j : Nat) v, (wipe σ (own.map (·.2)))[j]? = some (some v) → σ9[j]? = some (some v)) → N H' →
          ∃ m, m < n ∧ ∃ i H', Inv (X.blk s3 Hs scope ce fp) [] (wipe σ (own.map (·.2))) H' s' ∧ tn i s'.heap ∧ (∀ b ∈ fp, H' b = none) ∧ W i m H' := fun {σ9 s' H'} I' hl hk nx => by
        obtain ⟨m', hm, w'⟩ := hN H' nx
        have pin : ∀ b ∈ fp, ∀ o, s7.heap.get? b = some o → s'.heap.get? b = some o ∧ H' b = none := fun b hb o z => (fun y => ⟨y.1, y.2.1⟩) (I'.pin (b, o) (List.mem_append_right _ (List.mem_append_right _ (mem_pinsAt hb z))))
        exact ⟨m', hm, i + 1, H', (I'.unpinned (pins := [])).weak hl hk, T.keep _ _ _ st7 fun b hb o z => (pin b hb o z).1, fun b hb => (fun ⟨o, z, _⟩ => (pin b hb o z).2) (T.obj _ _ st7 b hb), w'⟩
      have l8 : (wipe σ (own.map (·.2))).length = σ8.length := by rw [← e8, wipe_length]
      have k8 : ∀ (j : Nat) v, (wipe σ (own.map (·.2)))[j]? = some (some v) → σ8[j]? = some (some v) := fun j v z => (wipe_some (e8 ▸ z)).1
      have k9 : ∀ (j : Nat) v, (wipe σ (own.map (·.2)))[j]? = some (some v) → (wipe σ8 us)[j]? = some (some v) := fun j v z => by
        obtain ⟨z1, z2⟩ := wipe_some (e8 ▸ z)
        rw [wipe_out fun y => z2 (sub j y)]
        exact z1
      cases b with
      | false =>
        rw [if_neg Bool.false_ne_true] at q9
        rw [if_neg Bool.false_ne_true]
        exact fin I9 l8 k8 q9
      | true =>
        rw [if_pos rfl] at q9
        rw [if_pos rfl]
        refine thnF (Pb.run _ s9 σ8 H9 _ I9 q9) fun _ s10 hx => thnF hx fun _ s11 h11 => ?_
        obtain ⟨it2, fq, tm, J2, H11, rfl, I11, T2, st11, fr11, W2, ⟨k0, wk⟩, turn2⟩ := h11
        have free2 : ∀ {H' : Hp}, (∀ b ∈ fq, H' b = none) → ∀ b ∈ fq, FpOk (X.blk s3 Hs scope ce fp) ([] ++ pinsAt fp s7.heap) H' b := fun hn b hb => ⟨hn b hb, (fr11 b hb).2⟩
        have loop2 : codeAny (model X.prog X.w) X.A (.compLoop (sc2 e ea ia eb ib ca cb scope pos) 1 (.ref it2) (.ref D) ce)
            (fun r s' => (∃ f, r = .ok f) ∧ ∃ m, m < n ∧ ∃ i H', Inv (X.blk s3 Hs scope ce fp) [] (wipe σ (own.map (·.2))) H' s' ∧ tn i s'.heap ∧ (∀ b ∈ fp, H' b = none) ∧ W i m H') s11 := by
          refine sc2_loop1 (fun k s' => ∃ j H', Inv (X.blk s3 Hs scope ce fp) ([] ++ pinsAt fp s7.heap) (wipe σ8 us) H' s' ∧ tm j s'.heap ∧ (∀ b ∈ fq, H' b = none) ∧ W2 j k H') ?_ k0 ⟨0, H11, I11.weak (wipe_length _ _) (fun j v z => (wipe_some z).1), st11, fun b hb => (fr11 b hb).1, wk⟩
          rintro k s12 ⟨j, H12, I12, st12, n12, w12⟩
          rcases turn2 j k H12 w12 with ⟨stop2, nx⟩ | ⟨go2, N2, hN2, step2⟩
          · refine thnF (T2.done (X.blk s3 Hs scope ce fp) rfl rfl rfl calm j _ s12 (wipe σ8 us) H12 (fun _ _ => False) I12 (free2 n12) st12 stop2) fun r s13 ⟨hr, I13⟩ => ?_
            subst hr
            exact ⟨⟨_, rfl⟩, fin I13 (l8.trans (wipe_length σ8 us).symm) k9 nx⟩
          · refine thnF (T2.item (X.blk s3 Hs scope ce fp) rfl rfl rfl calm j _ s12 (wipe σ8 us) H12 (fun _ _ => False) I12 (free2 n12) st12 go2) fun r s13 ⟨u2, hr, h13⟩ => ?_
            subst hr
            refine thnF h13 fun _ s14 ⟨y, H14, I14, r14, y14, st14, n14⟩ => ?_
            refine thnF (Gb.run _ s14 (wipe σ8 us) H14 y u2 _ (I14.pinned (free2 n14) (T2.obj _ _ st14)) r14 (step2 y H14 y14)) fun _ s15 ⟨σ15, H15, I15, e15, q15⟩ => thnF (Tb.run _ s15 σ15 H15 _ I15 q15) fun b2 s16 ⟨H16, I16, q16⟩ => ?_
            have fin2 : ∀ {s' : Shared} {H' : Hp}, Inv (X.blk s3 Hs scope ce fp) (([] ++ pinsAt fp s7.heap) ++ pinsAt fq s14.heap) σ15 H' s' → N2 H' → ∃ m, m < k ∧ ∃ j H', Inv (X.blk s3 Hs scope ce fp) ([] ++ pinsAt fp s7.heap) (wipe σ8 us) H' s' ∧ tm j s'.heap ∧ (∀ b ∈ fq, H' b = none) ∧ W2 j m H' := fun {s' H'} I' nx => by
              obtain ⟨m', hm, w'⟩ := hN2 H' nx
              have pin : ∀ b ∈ fq, ∀ o, s14.heap.get? b = some o → s'.heap.get? b = some o ∧ H' b = none := fun b hb o z => (fun y => ⟨y.1, y.2.1⟩) (I'.pin (b, o) (List.mem_append_right _ (List.mem_append_right _ (mem_pinsAt hb z))))
              exact ⟨m', hm, j + 1, H', I'.unpinned.weak (by rw [← e15, wipe_length]) (fun j v z => (wipe_some (e15 ▸ z)).1), T2.keep _ _ _ st14 fun b hb o z => (pin b hb o z).1, fun b hb => (fun ⟨o, z, _⟩ => (pin b hb o z).2) (T2.obj _ _ st14 b hb), w'⟩
            cases b2 with
            | false =>
              rw [if_neg Bool.false_ne_true] at q16
              rw [if_neg Bool.false_ne_true]
              exact fin2 I16 q16
            | true =>
              rw [if_pos rfl] at q16
              rw [if_pos rfl]
              refine thnF (Pe.run _ s16 σ15 H16 _ I16 q16) fun z s17 ⟨zv, H17, I17, r17, q17⟩ => ?_
              exact thnF (mt_sadd _ s17 σ15 H17 (.ref D) [zv] (.ref D) [z] _ I17 rfl (.cons r17 .nil) q17) fun _ s18 ⟨_, H18, I18, _, nx⟩ => fin2 I18 nx
        exact sc2_start1 loop2 (T2.self X.A 0 _ _ _ st11 loop2)
  exact codeAny_compStart_set loop (T.self X.A 0 _ _ _ stb loop)
theorem pe_sc2 {e ea eb ia ib : Expr} {ca cb : List Expr} {scope : Scope} {own : List (PySem.Str × Nat)} {vs1 : List Nat} {pos : Pos} {wi wi1 : TI} {g g1 : TG} {tt tt1 : TT} {te : TE} (calm : X.calm = true) (nd : X.N.Nodup) (pa : PI X ea ia wi) (ok : BlkOk X.N X.env.scope scope own) (sub : ∀ i ∈ vs1, i ∈ own.map (·.2))
    (pga : ∀ (s : Shared) (H : Hp) (C : Addr) (cl : List (PySem.Str × Addr)) (fp : List Addr), PG (X.blk s H scope (compEnvC scope cl C X.env) fp) ea g) (pta : ∀ (s : Shared) (H : Hp) (C : Addr) (cl : List (PySem.Str × Addr)) (fp : List Addr), PTs (X.blk s H scope (compEnvC scope cl C X.env) fp) ca tt)
    (pb : ∀ (s : Shared) (H : Hp) (C : Addr) (cl : List (PySem.Str × Addr)) (fp : List Addr), PI (X.blk s H scope (compEnvC scope cl C X.env) fp) eb ib wi1)
    (pgb : ∀ (s : Shared) (H : Hp) (C : Addr) (cl : List (PySem.Str × Addr)) (fp : List Addr), PG (X.blk s H scope (compEnvC scope cl C X.env) fp) eb g1) (ptb : ∀ (s : Shared) (H : Hp) (C : Addr) (cl : List (PySem.Str × Addr)) (fp : List Addr), PTs (X.blk s H scope (compEnvC scope cl C X.env) fp) cb tt1)
    (pe : ∀ (s : Shared) (H : Hp) (C : Addr) (cl : List (PySem.Str × Addr)) (fp : List Addr), PE (X.blk s H scope (compEnvC scope cl C X.env) fp) e te) (fa : ∀ x, foldedSetIterable ia X.env x = pure x := by intro _; rfl) (fb : ∀ env x, foldedSetIterable ib env x = pure x := by intro _ _; rfl) :
    PE X (.SetComp e [⟨ea, ia, ca, 0⟩, ⟨eb, ib, cb, 0⟩] scope pos) (tSc2 X.w wi g tt wi1 g1 tt1 te (own.map (·.2)) vs1) := by
  refine ⟨fun pins s σ H Q I h => ?_⟩
  rw [eval_SetComp]
  exact sc2_core calm nd I pa ok sub pga pta pb pgb ptb pe fa fb h
end
end LH

namespace LH
open PySem L2 Evl PyProof.Rows
/-! ### comprehensions of two clauses, read -/
theorem turnsS {α : Type} {c : Cd α} {J : It} {Hs H0 : Hp} {src : List α} {Done : Hp → Prop} {Body : (Hp → Prop) → V → Hp → Prop} (S : Src J Hs src c) (Pv : List α → Hp → Prop) (h0 : Pv [] H0) (he : ∀ pre H, Pv pre H → Ex Hs H)
    (hs : ∀ pre a post x H' H'' Hs'', src = pre ++ a :: post → Pv pre H' → Grow Hs H' Hs'' H'' → c a Hs'' x → Body (Pv (pre ++ [a])) x H'') (hd : ∀ H, Pv src H → Done H) :
    ∃ W : Nat → Nat → Hp → Prop, (∃ m, W 0 m H0) ∧ ∀ i m H, W i m H → (J.stop i H ∧ Done H) ∨ (J.go i H ∧ ∃ N : Hp → Prop, (∀ H', N H' → ∃ m', m' < m ∧ W (i + 1) m' H') ∧ ∀ x H', J.yld i H x H' → Body N x H') := by
  obtain ⟨G, Y, w, hG, hY⟩ := S.ex
  refine ⟨fun i m H => m = src.length - i ∧ i ≤ src.length ∧ Pv (src.take i) H, ⟨src.length, by simp, Nat.zero_le _, by simpa using h0⟩, ?_⟩
  rintro i m H ⟨rfl, hi, p⟩
  have e := he _ H p
  by_cases lt : i < src.length
  · refine .inr ⟨w.goes i H lt (hG H e), Pv (src.take (i + 1)), fun H' p' => ⟨src.length - (i + 1), by omega, rfl, lt, p'⟩, fun x H' y => ?_⟩
    obtain ⟨a, Hs'', ha, g, ca⟩ := hY i H x H' lt e (w.yields i H x H' lt (hG H e) y)
    obtain ⟨t1, t2⟩ := take_snoc ha
    rw [t1]
    exact hs (src.take i) a (src.drop (i + 1)) x H H' Hs'' t2 p g ca
  · have : i = src.length := by omega
    subst this
    rw [List.take_length] at p
    exact .inl ⟨w.stops H (hG H e), hd H p⟩
theorem yes_if {σ : L2.St} {H : Hp} {F G : Hp → Prop} (h : F H) : tYes σ H fun b H' => if b = true then F H' else G H' := by
  show (if true = true then F H else G H)
  rw [if_pos rfl]
  exact h
theorem dd_snoc (L : List Int) (k : Int) : (dd (L ++ [k])).length = if k ∈ L then (dd L).length else (dd L).length + 1 := by
  have e : (dd (k :: L)).length = (dd (L ++ [k])).length := dd_len_of (dd_nodup _) fun x => by
    rw [dd_mem, List.mem_cons, List.mem_append, List.mem_singleton]
    exact Or.comm
  rw [← e]
  unfold dd
  by_cases h : k ∈ dd L
  · rw [if_pos h, if_pos (dd_mem.mp h)]
    cases L <;> rfl
  · rw [if_neg h, if_neg fun z => h (dd_mem.mpr z)]
    cases L <;> rfl
section
variable {α β : Type} {c : Cd α} {d : Cd β} {σ : L2.St} {Hs H : Hp} {wi wi1 : TI} {src : List α} {i j : Nat} {vs us : List Nat} {w : World}
/-- [y for x in l for y in f x] -/
theorem ef_lc2 [Mo c] [Mo d] (hI : EvI wi σ Hs src c) (f : α → List β) (hz : ((src.map f).flatten).length ≤ 40000) (hb : ∀ a x Hs', a ∈ src → Ex Hs Hs' → c a Hs' x → EvI wi1 ((wipe σ vs).set i (some x)) Hs' (f a) d)
    (w1 : ∀ x, wipe ((wipe σ vs).set i (some x)) vs = wipe σ vs := by intro _; rfl) (w2 : ∀ x y, wipe ((wipe ((wipe σ vs).set i (some x)) us).set j (some y)) us = wipe ((wipe σ vs).set i (some x)) us := by intro _ _; rfl)
    (w3 : ∀ x y, ((wipe ((wipe σ vs).set i (some x)) us).set j (some y))[j]? = some (some y) := by intro _ _; rfl) :
    EvFC (tLc2 wi (gName i) tYes wi1 (gName j) tYes (tVar j) vs us) σ Hs d ((src.map f).flatten) := fun H e Q q => hI H e _ fun J H2 Hs2 gr S D hD => by
  have w0 : Own Hs2 H2 (upd emp D (.lst [])) Hs2 (upd H2 D (.lst [])) := (Own.start gr.i).new (Grow.up gr.i (Ex.new hD)) hD (fresh_back gr.i hD) upd_same
  refine turnsS S (fun pre H' => ∃ Hi acc, Own Hs2 H2 (upd emp D (.lst acc)) Hi H' ∧ Paired (fun b x => d b Hi x) ((pre.map f).flatten) acc) ⟨Hs2, [], w0, .nil⟩ (fun pre H' ⟨Hi, _, w, _⟩ => w.g.s.trans w.g.i) (fun pre a post x H' H'' Hs'' hsrc ⟨Hi, acc, w, p⟩ g2 ca => ?_) (fun H' ⟨Hi, acc, w, p⟩ => ?_)
  · have g3 : Grow Hi H' (uni Hi Hs'') H'' := g2.uni w.g.s w.g.i
    have w3' := w.on g3
    have ca3 := Mo.mo (g2.uniR w.g.i) ca
    refine ⟨w1 x, yes_if ?_⟩
    refine hb a x _ (by rw [hsrc]; simp) (gr.s.trans w3'.g.s) ca3 H'' w3'.g.i _ fun J2 H4 Hs4 g4 S2 => ?_
    have w4 := w3'.on g4
    refine turnsS S2 (fun pre2 H' => ∃ Hi acc, Own Hs2 H2 (upd emp D (.lst acc)) Hi H' ∧ Ex Hs4 Hi ∧ Paired (fun b x => d b Hi x) ((pre.map f).flatten ++ pre2) acc) ⟨Hs4, acc, w4, Ex.refl _, by rw [List.append_nil]; exact paired_mo (g3.s.trans g4.s) p⟩ (fun pre2 H' ⟨Hi, _, w, e, _⟩ => e.trans w.g.i) (fun pre2 b post2 y H5 H6 Hs6 hsrc2 ⟨Hi5, acc5, w5, e5, p5⟩ g6 cb => ?_) (fun H5 ⟨Hi5, acc5, w5, e5, p5⟩ => ?_)
    · have g7 : Grow Hi5 H5 (uni Hi5 Hs6) H6 := g6.uni e5 w5.g.i
      have w7 := w5.on g7
      refine ⟨w2 x y, yes_if ?_⟩
      have len : acc5.length < ((src.map f).flatten).length := by
        rw [← p5.length, hsrc, List.map_append, List.flatten_append, List.map_cons, List.flatten_cons, hsrc2]
        simp
      refine ⟨y, w3 x y, acc5, (w7.o D _ upd_same).2.2, size_lt (by omega), ?_⟩
      have w8 := w7.mut (u' := .lst (acc5 ++ [y])) (p := D) upd_same
      have eu : upd (upd emp D (.lst acc5)) D (.lst (acc5 ++ [y])) = upd emp D (.lst (acc5 ++ [y])) := by
        funext z
        by_cases h : z = D
        · subst h; rw [upd_same, upd_same]
        · rw [upd_ne h, upd_ne h, upd_ne h]
      rw [eu] at w8
      refine ⟨_, _, w8, e5.trans g7.s, ?_⟩
      rw [← List.append_assoc]
      exact Paired.snoc (paired_mo g7.s p5) (Mo.mo (g6.uniR w5.g.i) cb)
    · refine ⟨Hi5, acc5, w5, ?_⟩
      rw [List.map_append, List.flatten_append, List.map_cons, List.flatten_cons]
      simpa using p5
  · obtain ⟨h1, h2, h3⟩ := w.o D _ upd_same
    exact q D acc H' Hi (gr.trans w.g) (fresh_back gr.b h1) h2 h3 p
/-- len({y for x in l for y in f x}) -/
theorem ev_lenSc2 [Mo c] (hI : EvI wi σ Hs src c) (f : α → List Int) (hz : ((src.map f).flatten).length ≤ 4000) (hb : ∀ a x Hs', a ∈ src → Ex Hs Hs' → c a Hs' x → EvI wi1 ((wipe σ vs).set i (some x)) Hs' (f a) cI)
    (w1 : ∀ x, wipe ((wipe σ vs).set i (some x)) vs = wipe σ vs := by intro _; rfl) (w2 : ∀ x y, wipe ((wipe ((wipe σ vs).set i (some x)) us).set j (some y)) us = wipe ((wipe σ vs).set i (some x)) us := by intro _ _; rfl)
    (w3 : ∀ x y, ((wipe ((wipe σ vs).set i (some x)) us).set j (some y))[j]? = some (some y) := by intro _ _; rfl) :
    Ev (tCB (rLenSet w) (tCons (tSc2 w wi (gName i) tYes wi1 (gName j) tYes (tVar j) vs us) tNil)) σ Hs (.int ((dd ((src.map f).flatten)).length : Nat)) := fun H e Q q => hI H e _ fun J H2 Hs2 gr S D hD => by
  have w0 : Own Hs2 H2 (upd emp D (SetO w D (fun _ => false) 0)) Hs2 (upd H2 D (SetO w D (fun _ => false) 0)) := (Own.start gr.i).new (Grow.up gr.i (Ex.new hD)) hD (fresh_back gr.i hD) upd_same
  have nil : SetO w D (fun _ => false) 0 = SetO w D (fun k => decide (k ∈ ([] : List Int))) (dd []).length := by congr 1
  rw [nil] at w0 ⊢
  refine turnsS S (fun pre H' => ∃ Hi, Own Hs2 H2 (upd emp D (SetO w D (fun k => decide (k ∈ (pre.map f).flatten)) (dd ((pre.map f).flatten)).length)) Hi H') ⟨Hs2, w0⟩ (fun pre H' ⟨Hi, w⟩ => w.g.s.trans w.g.i) (fun pre a post x H' H'' Hs'' hsrc ⟨Hi, w'⟩ g2 ca => ?_) (fun H' ⟨Hi, w'⟩ => ?_)
  · have g3 : Grow Hi H' (uni Hi Hs'') H'' := g2.uni w'.g.s w'.g.i
    have w3' := w'.on g3
    have ca3 := Mo.mo (g2.uniR w'.g.i) ca
    refine ⟨w1 x, yes_if ?_⟩
    refine hb a x _ (by rw [hsrc]; simp) (gr.s.trans w3'.g.s) ca3 H'' w3'.g.i _ fun J2 H4 Hs4 g4 S2 => ?_
    have w4 := w3'.on g4
    refine turnsS S2 (fun pre2 H' => ∃ Hi, Own Hs2 H2 (upd emp D (SetO w D (fun k => decide (k ∈ (pre.map f).flatten ++ pre2)) (dd ((pre.map f).flatten ++ pre2)).length)) Hi H' ∧ Ex Hs4 Hi) ⟨Hs4, by rw [List.append_nil]; exact w4, Ex.refl _⟩ (fun pre2 H' ⟨Hi, w, e⟩ => e.trans w.g.i) (fun pre2 b post2 y H5 H6 Hs6 hsrc2 ⟨Hi5, w5, e5⟩ g6 cb => ?_) (fun H5 ⟨Hi5, w5, e5⟩ => ?_)
    · cases cb
      have g7 : Grow Hi5 H5 (uni Hi5 Hs6) H6 := g6.uni e5 w5.g.i
      have w7 := w5.on g7
      refine ⟨w2 x _, yes_if ?_⟩
      have len : (dd ((pre.map f).flatten ++ pre2)).length < ((src.map f).flatten).length := by
        refine Nat.lt_of_le_of_lt (dd_le _) ?_
        rw [hsrc, List.map_append, List.flatten_append, List.map_cons, List.flatten_cons, hsrc2]
        simp
      refine ⟨.int b, w3 x _, D, b, _, _, rfl, rfl, (w7.o D _ upd_same).2.2, by unfold scanBound; omega, ?_⟩
      have w8 := w7.mut (u' := SetO w D (fun k => decide (k ∈ (pre.map f).flatten ++ (pre2 ++ [b]))) (dd ((pre.map f).flatten ++ (pre2 ++ [b]))).length) (p := D) upd_same
      have eu : ∀ u u' : HO, upd (upd emp D u) D u' = upd emp D u' := fun u u' => by
        funext z
        by_cases h : z = D
        · subst h; rw [upd_same, upd_same]
        · rw [upd_ne h, upd_ne h, upd_ne h]
      rw [eu] at w8
      refine ⟨_, ?_, e5.trans g7.s⟩
      have es : SetO w D (fun k => decide (k ∈ (pre.map f).flatten ++ pre2) || decide (k = b)) (if decide (b ∈ (pre.map f).flatten ++ pre2) = true then (dd ((pre.map f).flatten ++ pre2)).length else (dd ((pre.map f).flatten ++ pre2)).length + 1) =
          SetO w D (fun k => decide (k ∈ (pre.map f).flatten ++ (pre2 ++ [b]))) (dd ((pre.map f).flatten ++ (pre2 ++ [b]))).length := by
        rw [← List.append_assoc, dd_snoc]
        congr 1
        · funext k
          rw [Bool.eq_iff_iff, Bool.or_eq_true, decide_eq_true_eq, decide_eq_true_eq, decide_eq_true_eq, List.mem_append (t := [b]), List.mem_singleton]
        · by_cases h : b ∈ (pre.map f).flatten ++ pre2
          · rw [if_pos h, if_pos (decide_eq_true h)]
          · rw [if_neg h, if_neg (by rw [decide_eq_false h]; decide)]
      rw [es]
      exact w8
    · refine ⟨Hi5, ?_⟩
      have e1 : ((pre ++ [a]).map f).flatten = (pre.map f).flatten ++ f a := by simp
      rw [e1]
      exact w5
  · obtain ⟨h1, h2, h3⟩ := w'.o D _ upd_same
    exact ⟨D, _, _, rfl, h3, q H' (gr.b.trans w'.g.b)⟩
end
end LH

namespace LH
open PySem L2 Evl PyProof.Rows
/-! ### what an answer shows, looked at -/
def isPairM (P : Int) (l : List Int) (p : Int × Int) : Bool := ([p.1, p.2].map fun x => inR P x && decide (x ∈ l)).all id
def showsP (P : Int) (ls : List (List Int)) (ps : List (Int × Int)) : Bool := if ps.length ≠ ls.length then false else if ((ls.zip ps).map fun q => isPairM P q.1 q.2).all id = false then false else decide ((dd (flatP ps)).length = (flatP ps).length)
def showsF (ls : List (List Int)) (S : List Int) : Bool := if (S.map fun i => inR (ls.length : Int) i).all id = false then false else if (dd S).length ≠ S.length then false else decide ((dd (placesL ls S)).length < 2 * S.length)
def showsM (P : Int) (ls : List (List Int)) : Ans → Bool
  | .pairs ps => showsP P ls ps
  | .few S => showsF ls S
def sp_is_pair_of (_ : Cn) : Sp := fun vs H Q _ => ∃ (Hs : Hp) (P : Int) (u v : V) (l : List Int) (p : Int × Int), Ex Hs H ∧ vs = [.int P, u, v] ∧ cL cI l Hs u ∧ cP cI cI p Hs v ∧ RetV (.bl (isPairM P l p)) H Q
/-- lists that may be looked at -/
structure Sz (ls : List (List Int)) : Prop where
  few : ls.length ≤ 60
  len : ∀ l ∈ ls, l.length ≤ 60
def sp_pairs_shows (c : Cn) : Sp := fun vs H Q _ => ∃ (Hs : Hp) (P : Int) (u v : V) (ps : List (Int × Int)) (ls : List (List Int)), Ex Hs H ∧ vs = [u, .int P, v] ∧ cA c (.pairs ps) Hs u ∧ cL (cL cI) ls Hs v ∧ ps.length ≤ 1000 ∧ Sz ls ∧ RetV (.bl (showsP P ls ps)) H Q
def sp_few_shows (c : Cn) : Sp := fun vs H Q _ => ∃ (Hs : Hp) (P : Int) (u v : V) (S : List Int) (ls : List (List Int)), Ex Hs H ∧ vs = [u, .int P, v] ∧ cA c (.few S) Hs u ∧ cL (cL cI) ls Hs v ∧ S.length ≤ 1000 ∧ Sz ls ∧ RetV (.bl (showsF ls S)) H Q
def t_is_pair_of (c : Cn) : TS := (tSeq (tIfS (tOr (tNot (tB (tCB (rIsi c.K) (tCons (tVar 2) (tCons (tC (.ty "tuple")) tNil))))) (tTest (tOp (rNeA c.K) (tCB (rLenA c.K) (tCons (tVar 2) tNil)) (tC (.int 2))))) (tRet (tC (.bl false))) tNext) (tRet (tCB (rAll c.K) (tCons (tLc (iTup c.K (tVar 2)) (gName 3) tYes (tAndV (tCall (sp_is_count c) [] C8.E0 (tCons (tVar 0) (tCons (tVar 3) tNil))) (tOp (rIn c.K false) (tVar 3) (tVar 1))) [3]) tNil))))
def t_pairs_shows (c : Cn) : TS := (tSeq (tIfS (tTest (tOp (rNeA c.K) (tCB (rLenA c.K) (tCons (tFld c.K (tVar 0) "pairs") tNil)) (tCB (rLenA c.K) (tCons (tVar 2) tNil)))) (tRet (tC (.bl false))) tNext) (tSeq (tIfS (tNot (tB (tCB (rAll c.K) (tCons (tLc (iZip c.K (tCons (tVar 2) (tCons (tFld c.K (tVar 0) "pairs") tNil))) (gTup c.K 2 (gCons (gName 3) (gCons (gName 4) gNil))) tYes (tCall (sp_is_pair_of c) [] C8.E0 (tCons (tVar 1) (tCons (tVar 3) (tCons (tVar 4) tNil)))) [3, 4]) tNil)))) (tRet (tC (.bl false))) tNext) (tSeq (tAsg (tLc2 (iList c.K (tFld c.K (tVar 0) "pairs")) (gName 4) tYes (iTup c.K (tVar 4)) (gName 6) tYes (tVar 6) [4, 6] [6]) (gName 5)) (tRet (tOp (rEqA c.K) (tCB (rLenSet c.w) (tCons (tCB (rSetOf c.K c.w) (tCons (tVar 5) tNil)) tNil)) (tCB (rLenA c.K) (tCons (tVar 5) tNil)))))))
def t_few_shows (c : Cn) : TS := (tSeq (tIfS (tNot (tB (tCB (rAll c.K) (tCons (tLc (iList c.K (tFld c.K (tVar 0) "lines")) (gName 3) tYes (tCall (sp_is_count c) [] C8.E0 (tCons (tCB (rLenA c.K) (tCons (tVar 2) tNil)) (tCons (tVar 3) tNil))) [3]) tNil)))) (tRet (tC (.bl false))) tNext) (tSeq (tIfS (tTest (tOp (rNeA c.K) (tCB (rLenSet c.w) (tCons (tCB (rSetOf c.K c.w) (tCons (tFld c.K (tVar 0) "lines") tNil)) tNil)) (tCB (rLenA c.K) (tCons (tFld c.K (tVar 0) "lines") tNil)))) (tRet (tC (.bl false))) tNext) (tRet (tOp rLtI (tCB (rLenSet c.w) (tCons (tSc2 c.w (iList c.K (tFld c.K (tVar 0) "lines")) (gName 3) tYes (iList c.K (tOp (rIx c.K) (tVar 2) (tVar 3))) (gName 4) tYes (tVar 4) [3, 4] [4]) tNil)) (tOp rMulI (tC (.int 2)) (tCB (rLenA c.K) (tCons (tFld c.K (tVar 0) "lines") tNil)))))))
section
variable {c : Cn} {vs : List V} {H : Hp} {Q : VK} {E : XK} {σ : L2.St} {Hs : Hp} {ta tb tc td te : TE}
theorem pair_Q {p : Int × Int} {v : V} (h : cP cI cI p H v) : cQ cI [p.1, p.2] H v := by
  obtain ⟨a, x, y, h1, h2, h3, h4⟩ := h
  exact ⟨a, [x, y], h1, h2, .cons h3 (.cons h4 .nil)⟩
theorem rd_is_pair_of (h : sp_is_pair_of c vs H Q E) : t_is_pair_of c { nx := fun _ H' => Q .non H', rt := Q } (start ["places", "line", "pair", "place"] vs) H := by
  obtain ⟨Hs, P, u, v, l, p, e, rfl, hl, hp, k⟩ := h
  have hw := ints2_cW hp
  refine q_no (EvT_to (et_or (et_not (et_B (ev_isi ty_tuple (ec_var rfl hw)))) fun _ => et_test (ev_neI (ev_lenQ (c := cI) (ec_var rfl (pair_Q hp))) ev_c)) (by rw [tuple_eq]; rfl)) e fun H2 e2 => ?_
  refine s_retS (ev_all (EvF.toC (ef_mapN (d := cB) (ei_tup (c := cI) (ec_var rfl (pair_Q hp))) (fun x => inR P x && decide (x ∈ l)) (show 2 ≤ 40000 by decide) fun a x Hs3 ha e3 ca => ?_))) (e.trans e2) (on_v k e2)
  cases ca
  have hd : cW (.int a) Hs3 (.int a) := CW.int a
  exact c_evB (ev_andV (call_is_count (ev_var rfl) (ec_var rfl hd)) fun _ => ev_in (ev_var rfl) (ec_var rfl (Mo.mo e3 hl)))
theorem call_is_pair {P : Int} {l : List Int} {p : Int × Int} (h1 : Ev ta σ Hs (.int P)) (h2 : EvC tb σ Hs (cL cI) l) (h3 : EvC tc σ Hs (cP cI cI) p) : Ev (tCall (sp_is_pair_of c) [] C8.E0 (tCons ta (tCons tb (tCons tc tNil)))) σ Hs (.bl (isPairM P l p)) := by
  refine ev_callS (as_cons (c_evI h1) mo_c fun _ e1 => as_cons (EvC.lift h2 e1) mo_c fun _ e2 => as_cons (EvC.lift h3 (e1.trans e2)) mo_c fun _ _ => as_nil) ?_
  rintro vs H1 _ ⟨_, _, rfl, p1, _, _, rfl, p2, _, _, rfl, p3, rfl⟩ H2 e2 Q1 k1
  cases p1
  exact ⟨H1, P, _, _, l, p, e2, rfl, p2, p3, k1⟩
theorem flat_len (ps : List (Int × Int)) : (flatP ps).length = 2 * ps.length := by
  unfold flatP
  induction ps with
  | nil => rfl
  | cons p r ih =>
    rw [List.map_cons, List.flatten_cons, List.length_append, ih]
    simp
    omega
theorem rd_pairs_shows (O : Ob c) (h : sp_pairs_shows c vs H Q E) : t_pairs_shows c { nx := fun _ H' => Q .non H', rt := Q } (start ["self", "places", "lines", "line", "pair", "taken", "place"] vs) H := by
  obtain ⟨Hs, P, u, v, ps, ls, e, rfl, hu, hv, hz, sz, k⟩ := h
  have few := sz.few
  unfold showsP at k
  refine q_whenB (et_test (ev_neI (ev_lenC (c := cP cI cI) (ep_fldP O (ec_var rfl hu))) (ev_lenC (c := cL cI) (ec_var rfl hv)))) e (fun hb H2 e2 => ?_) (fun hb H2 e2 => ?_)
  · have hne : ps.length ≠ ls.length := fun z => by rw [z] at hb; simp at hb
    rw [if_pos hne] at k
    exact s_retS ev_c (e.trans e2) (on_v k e2)
  · have heq : ps.length = ls.length := by
      have : (ps.length : Int) = ls.length := by simpa using hb
      omega
    rw [if_neg fun z => z heq] at k
    refine q_whenB (Hs := Hs) (et_not (et_B (ev_all (EvF.toC (ef_mapT (d := cB) (c1 := cL cI) (c2 := cP cI cI) (ei_zip (c := cL cI) (d := cP cI cI) (l := ls) (m := ps) ?_) (fun q => isPairM P q.1 q.2) (by rw [List.length_zip]; omega) fun a x y Hs' ha e' hx hy => c_evB (call_is_pair (ev_var rfl) (ec_var rfl hx) (ec_var rfl hy))))))) (e.trans e2) (fun hb H3 e3 => ?_) (fun hb H3 e3 => ?_)
    · refine (as_cons (ec_var rfl hv) mo_c fun _ e1 => as_cons (ep_fldP O (ec_var rfl (Mo.mo e1 hu))) mo_c fun _ _ => as_nil).imp ?_
      rintro vs H1 _ ⟨s, _, rfl, p1, t, _, rfl, p2, rfl⟩
      exact ⟨s, t, rfl, p1, p2⟩
    · rw [if_pos (by simpa using hb)] at k
      exact s_retS ev_c ((e.trans e2).trans e3) (on_v k (e2.trans e3))
    · rw [if_neg (by simpa using hb)] at k
      have w := ((Own.start e).up e2).up e3
      refine q_oP w (EvF.toC (ef_lc2 (c := cP cI cI) (d := cI) (ei_list (ep_fldP O (ec_var rfl hu))) (fun p => [p.1, p.2]) (by show (flatP ps).length ≤ 40000; rw [flat_len]; omega) fun a x Hs' ha e' ca => ei_tup (c := cI) (ec_var rfl (pair_Q ca)))) fun tv Hi H4 w e4 ht => ?_
      have ht' : cL cI (flatP ps) Hi tv := ht
      have hl4 : (flatP ps).length ≤ 4000 := by rw [flat_len]; omega
      refine s_oRet w (ep_ev (ev_eqI (ev_lenSet (ec_var rfl ht') hl4) (ev_lenC (c := cI) (ec_var rfl ht'))) ?_) (P := fun v _ => v = .bl (decide ((dd (flatP ps)).length = (flatP ps).length))) fun v H2 Hs2 g p => by rw [p]; exact k H2 g.b
      congr 1
      exact decide_eq_decide.mpr (by omega)
theorem placesL_len {ls : List (List Int)} (sz : Sz ls) : ∀ S : List Int, (placesL ls S).length ≤ 60 * S.length
  | [] => Nat.le_refl _
  | i :: S => by
    have ih := placesL_len sz S
    unfold placesL at ih ⊢
    rw [List.map_cons, List.flatten_cons, List.length_append, List.length_cons]
    have : (ls.getD i.toNat []).length ≤ 60 := by
      rw [List.getD_eq_getElem?_getD]
      cases h : ls[i.toNat]? with
      | none => exact Nat.zero_le _
      | some l => exact sz.len l (List.mem_of_getElem? h)
    omega
theorem rd_few_shows (O : Ob c) (h : sp_few_shows c vs H Q E) : t_few_shows c { nx := fun _ H' => Q .non H', rt := Q } (start ["self", "places", "lines", "count", "place"] vs) H := by
  obtain ⟨Hs, P, u, v, S, ls, e, rfl, hu, hv, hz, sz, k⟩ := h
  have few := sz.few
  unfold showsF at k
  refine q_whenB (Hs := Hs) (et_not (et_B (ev_all (EvF.toC (ef_mapN (d := cB) (ei_list (ep_fldF O (ec_var rfl hu))) (fun i => inR (ls.length : Int) i) (by omega) fun a x Hs' ha e' ca => ?_))))) e (fun hb H2 e2 => ?_) (fun hb H2 e2 => ?_)
  · cases ca
    have hd : cW (.int a) Hs' (.int a) := CW.int a
    exact c_evB (call_is_count (ev_lenC (c := cL cI) (ec_var rfl (Mo.mo e' hv))) (ec_var rfl hd))
  · rw [if_pos (by simpa using hb)] at k
    exact s_retS ev_c (e.trans e2) (on_v k e2)
  · rw [if_neg (by simpa using hb)] at k
    have hall : ∀ i ∈ S, 0 ≤ i ∧ i < (ls.length : Int) := fun i hi => by
      have h1 : (S.map fun i => inR (ls.length : Int) i).all id = true := by simpa using hb
      rw [List.all_map, List.all_eq_true] at h1
      have h2 : inR (ls.length : Int) i = true := h1 i hi
      unfold inR at h2
      simpa using h2
    refine q_whenB (Hs := Hs) (et_test (ev_neI (ev_lenSet (ep_fldF O (ec_var rfl hu)) (by omega)) (ev_lenC (c := cI) (ep_fldF O (ec_var rfl hu))))) (e.trans e2) (fun hb H3 e3 => ?_) (fun hb H3 e3 => ?_)
    · have hne : (dd S).length ≠ S.length := fun z => by rw [z] at hb; simp at hb
      rw [if_pos hne] at k
      exact s_retS ev_c ((e.trans e2).trans e3) (on_v k (e2.trans e3))
    · have heq : (dd S).length = S.length := by
        have : ((dd S).length : Int) = S.length := by simpa using hb
        omega
      rw [if_neg fun z => z heq] at k
      have nd := (dd_len_iff S).mp heq
      have sl : S.length ≤ ls.length := by
        have := subset_len nd (m := (List.range ls.length).map fun i : Nat => (i : Int)) fun x hx => by
          have := hall x hx
          exact List.mem_map.mpr ⟨x.toNat, List.mem_range.mpr (by omega), by omega⟩
        rw [List.length_map, List.length_range] at this
        exact this
      have pl := placesL_len sz S
      refine s_retS (Hs := Hs) (ev_to (ev_lt (ev_lenSc2 (c := cI) (ei_list (ep_fldF O (ec_var rfl hu))) (fun i => ls.getD i.toNat []) (by show (placesL ls S).length ≤ 4000; omega) fun a x Hs' ha e' ca => ?_) (ev_mul ev_c (ev_lenC (c := cI) (ep_fldF O (ec_var rfl hu))) (mul2_ok _))) ?_) ((e.trans e2).trans e3) (on_v k (e2.trans e3))
      · cases ca
        obtain ⟨r0, r1⟩ := hall a ha
        refine ei_list (ep_ixL (c := cL cI) (n := a.toNat) (ec_var rfl (Mo.mo e' hv)) (ev_to (ev_var (v := .int a) rfl) (by rw [Int.toNat_of_nonneg r0])) ?_)
        rw [List.getD_eq_getElem?_getD, List.getElem?_eq_getElem (show a.toNat < ls.length by omega)]
        rfl
      · congr 1
        show decide (((dd (placesL ls S)).length : Int) < 2 * (S.length : Int)) = _
        exact decide_eq_decide.mpr (by omega)
/-- its own word -/
theorem call_shows (O : Ob c) {a : Ans} {P : Int} {ls : List (List Int)} (h : EvC ta σ Hs (cA c) a) (h1 : Ev tb σ Hs (.int P)) (h2 : EvC tc σ Hs (cL (cL cI)) ls) (hz : (match a with | .pairs ps => ps.length | .few S => S.length) ≤ 1000) (sz : Sz ls) :
    Ev (tEither (tMeth c.pairs "shows" (sp_pairs_shows c) [] C8.E0 ta (tCons tb (tCons tc tNil))) (tMeth c.few "shows" (sp_few_shows c) [] C8.E0 ta (tCons tb (tCons tc tNil)))) σ Hs (.bl (showsM P ls a)) := fun H e Q q => by
  have key : ∀ (C : Addr) (f : Str) (sp : Sp), (∀ Hs' H' u v, Ex Hs' H' → cA c a Hs' u → cL (cL cI) ls Hs' v → ∀ Q, RetV (.bl (showsM P ls a)) H' Q → sp [u, .int P, v] H' Q C8.E0) →
      (∀ l dx, insA c l dx a = .ins C dx [(f, .ref l)]) → ("shows" : Str) ≠ f → tMeth C "shows" sp [] C8.E0 ta (tCons tb (tCons tc tNil)) σ H Q := by
    intro C f sp hsp hins hf
    refine h H e _ fun v H2 Hs2 g cv => ?_
    obtain ⟨x, l, dx, xs, rfl, hx, hl⟩ := id cv
    refine ⟨x, dx, [(f, .ref l)], rfl, by rw [← hins l dx]; exact g.i _ _ hx, ?_, ?_⟩
    · show List.lookup ("shows" : Str) [(f, V.ref l)] = none
      have hb : (("shows" : Str) == f) = false := beq_false_of_ne hf
      simp [List.lookup, hb]
    · refine (as_cons (c_evI (h1.mono g.s)) mo_c fun _ e1 => as_cons (EvC.lift h2 (g.s.trans e1)) mo_c fun _ _ => as_nil) H2 g.i _ fun vs H3 Hs3 g3 hv => ?_
      obtain ⟨_, _, rfl, p1, w, _, rfl, p2, rfl⟩ := hv
      cases p1
      exact hsp Hs3 H3 _ w g3.i (Mo.mo g3.s cv) p2 Q (fun H4 b => q H4 ((g.b.trans g3.b).trans b))
  cases a with
  | pairs ps => exact .inl (key c.pairs "pairs" _ (fun Hs' H' u v e' ca cl Q k => ⟨Hs', P, u, v, ps, ls, e', rfl, ca, cl, hz, sz, k⟩) (fun _ _ => rfl) (by decide +kernel))
  | few S => exact .inr (key c.few "lines" _ (fun Hs' H' u v e' ca cl Q k => ⟨Hs', P, u, v, S, ls, e', rfl, ca, cl, hz, sz, k⟩) (fun _ _ => rfl) (by decide +kernel))
end
end LH

namespace LH
open PySem L2 Evl PyProof.Rows
/-! ### whether what an answer tells is so, by a look of the law's own -/
def usedM (ls : List (List Int)) (ps : List (Int × Int)) : List Int := flatP ((ps.zip ls).map fun q => q.1)
def dueM (ls : List (List Int)) : Ans → Bool
  | .few S => if (S.all fun i => inR (ls.length : Int) i) = false then false else (decide (0 < (dd S).length) && decide ((dd S).length = S.length)) && decide ((dd (placesL ls S)).length < 2 * S.length)
  | .pairs ps => if ((ps.zip ls).all fun q => decide (q.1.1 ∈ q.2) && decide (q.1.2 ∈ q.2)) = false then false else decide (ps.length = ls.length) && decide ((dd (usedM ls ps)).length = (usedM ls ps).length)
def lenA : Ans → Nat
  | .pairs ps => ps.length
  | .few S => S.length
def sp_law_due (c : Cn) : Sp := fun vs H Q _ => ∃ (Hs : Hp) (u v : V) (ls : List (List Int)) (a : Ans), Ex Hs H ∧ vs = [u, v] ∧ cL (cL cI) ls Hs u ∧ cA c a Hs v ∧ lenA a ≤ 100 ∧ Sz ls ∧ RetV (.bl (dueM ls a)) H Q
def t_law_due (c : Cn) : TS := (tSeq (tIfS (tB (tCB (rIsi c.K) (tCons (tVar 1) (tCons (tC (.ref c.few)) tNil)))) (tSeq (tAsg tDNewK (gName 2)) (tSeq (tFor (iList c.K (tFld c.K (tVar 1) "lines")) (gName 3) (tSeq (tIfS (tNot (tTest (tChain rLeI rLtI (tC (.int 0)) (tVar 3) (tCB (rLenA c.K) (tCons (tVar 0) tNil))))) (tRet (tC (.bl false))) tNext) (tFor (iList c.K (tOp (rIx c.K) (tVar 0) (tVar 3))) (gName 4) (sDPut (tVar 2) (tVar 4) (tC (.bl true)))))) (tRet (tAndV (tChain rLtI (rEqA c.K) (tC (.int 0)) (tCB (rLenSet c.w) (tCons (tCB (rSetOf c.K c.w) (tCons (tFld c.K (tVar 1) "lines") tNil)) tNil)) (tCB (rLenA c.K) (tCons (tFld c.K (tVar 1) "lines") tNil))) (tOp rLtI (tCB rLenD (tCons (tVar 2) tNil)) (tOp rMulI (tC (.int 2)) (tCB (rLenA c.K) (tCons (tFld c.K (tVar 1) "lines") tNil)))))))) tNext) (tSeq (tAsg (tLst tNil) (gName 5)) (tSeq (tFor (iZip c.K (tCons (tFld c.K (tVar 1) "pairs") (tCons (tVar 0) tNil))) (gTup c.K 2 (gCons (gName 6) (gCons (gName 7) gNil))) (tSeq (tIfS (tOr (tTest (tOp (rNeA c.K) (tCB (rLenA c.K) (tCons (tVar 6) tNil)) (tC (.int 2)))) (tOr (tTest (tOp (rIn c.K true) (tOp (rIx c.K) (tVar 6) (tC (.int 0))) (tVar 7))) (tTest (tOp (rIn c.K true) (tOp (rIx c.K) (tVar 6) (tC (.int 1))) (tVar 7))))) (tRet (tC (.bl false))) tNext) (tAsg (tOp (rCatL c.K) (tVar 5) (tCB (rListA c.K) (tCons (tVar 6) tNil))) (gName 5)))) (tRet (tAndV (tOp (rEqA c.K) (tCB (rLenA c.K) (tCons (tFld c.K (tVar 1) "pairs") tNil)) (tCB (rLenA c.K) (tCons (tVar 0) tNil))) (tOp (rEqA c.K) (tCB (rLenSet c.w) (tCons (tCB (rSetOf c.K c.w) (tCons (tVar 5) tNil)) tNil)) (tCB (rLenA c.K) (tCons (tVar 5) tNil))))))))
theorem keys_mem {β : Type} {l : List (Int × β)} {x y : Int} {b : β} : y ∈ keys (aput l x b) ↔ y ∈ keys l ∨ y = x := by
  rw [keys_put]
  split
  · rename_i h
    exact ⟨.inl, fun z => z.elim id fun e => e ▸ h⟩
  · rw [List.mem_append, List.mem_singleton]
theorem same_len {l m : List Int} (hl : l.Nodup) (hm : m.Nodup) (h : ∀ x, x ∈ l ↔ x ∈ m) : l.length = m.length := ((List.perm_ext_iff_of_nodup hl hm).mpr h).length_eq
theorem places_snoc (ls : List (List Int)) (S : List Int) (i : Int) : placesL ls (S ++ [i]) = placesL ls S ++ ls.getD i.toNat [] := by
  unfold placesL
  rw [List.map_append, List.flatten_append]
  simp
theorem flat_snoc (ps : List (Int × Int)) (p : Int × Int) : flatP (ps ++ [p]) = flatP ps ++ [p.1, p.2] := by
  unfold flatP
  rw [List.map_append, List.flatten_append]
  simp
section
variable {c : Cn} {vs : List V} {H : Hp} {Q : VK} {E : XK} {σ : L2.St} {Hs : Hp} {ta tb tc td te : TE}
theorem rd_law_due (O : Ob c) (h : sp_law_due c vs H Q E) : t_law_due c { nx := fun _ H' => Q .non H', rt := Q } (start ["_law_lines_here", "_law_found", "_law_held", "_law_at", "_law_place", "_law_used", "_law_pair", "_law_line"] vs) H := by
  obtain ⟨Hs, u, v, ls, a, e, rfl, hu, hv, hz, sz, k⟩ := h
  have few := sz.few
  refine q_oWhen (Own.start e) (et_B (ev_isFew O (EvC.o (ec_var rfl ((Own.start e).m hv))))) (fun hb H2 w => ?_) (fun hb H2 w => ?_)
  · cases a with
    | pairs ps => exact nomatch hb
    | few S =>
    have hz' : S.length ≤ 100 := hz
    refine q_oD w fun d H3 w _ => ?_
    refine q_oFor w (ei_list (ep_fldF O (ec_var rfl hv))) mo_c'
      (fun pre σ' Ho' _ => ∃ h y3 y4, σ' = [some u, some v, some (.ref d), y3, y4, none, none, none] ∧ Ho' d = some (.dK (kvA (fun _ : Unit => V.bl true) h)) ∧ (keys h).Nodup ∧ (∀ x, x ∈ keys h ↔ x ∈ placesL ls pre) ∧ (pre.all fun i => inR (ls.length : Int) i) = true)
      (fun _ _ => ⟨[], none, none, rfl, upd_same, List.nodup_nil, fun x => Iff.rfl, rfl⟩) ?_ ?_
    · rintro Hb eb pre i post x σ' Ho' Hi' Hi'' H'' hsrc ⟨h, y3, y4, rfl, hd, nd, hm, hin⟩ ei w' e' ca
      cases ca
      have em := (eb.trans ei).trans e'
      have hu' := Mo.mo em hu
      refine q_oWhen w' (et_not (et_test (ev_chain (k := decide (0 ≤ i)) (m := decide (i < (ls.length : Int))) ev_c (ev_var rfl) rv_I0 (fun _ => ev_lenC (c := cL cI) (ec_var rfl (w'.m hu'))) fun _ => rv_I0))) (fun hb H5 w5 => ?_) (fun hb H5 w5 => ?_)
      · have hf : (S.all fun i => inR (ls.length : Int) i) = false := by
          rw [List.all_eq_false]
          refine ⟨i, by rw [hsrc]; simp, ?_⟩
          unfold inR
          have hb' : i < 0 ∨ (ls.length : Int) ≤ i := by simpa using hb
          simp
          omega
        have : dueM ls (.few S) = false := by unfold dueM; exact if_pos hf
        rw [this] at k
        exact s_oRetV w5 ev_c k
      · have hir : 0 ≤ i ∧ i < (ls.length : Int) := by simpa using hb
        have hat : ls[i.toNat]? = some (ls.getD i.toNat []) := by
          rw [List.getD_eq_getElem?_getD, List.getElem?_eq_getElem (show i.toNat < ls.length by omega)]
          rfl
        refine s_oFor w5 (ei_list (ep_ixL (c := cL cI) (n := i.toNat) (ec_var rfl hu') (ev_to (ev_var (v := .int i) rfl) (by rw [Int.toNat_of_nonneg hir.1])) hat)) mo_c'
          (fun pre2 σ2 Ho2 _ => ∃ h y4, σ2 = [some u, some v, some (.ref d), some (.int i), y4, none, none, none] ∧ Ho2 d = some (.dK (kvA (fun _ : Unit => V.bl true) h)) ∧ (keys h).Nodup ∧ ∀ x, x ∈ keys h ↔ x ∈ placesL ls pre ∨ x ∈ pre2)
          (fun _ _ => ⟨h, y4, rfl, hd, nd, fun x => (hm x).trans ⟨.inl, fun z => z.resolve_right fun y => nomatch y⟩⟩) ?_ ?_
        · rintro Hb2 eb2 pre2 p post2 x2 σ2 Ho2 Hi2 Hi3 H6 hsrc2 ⟨h2, z4, rfl, hd2, nd2, hm2⟩ ei2 w6 e6 cp
          cases cp
          have hlen : h2.length ≤ 40000 := by
            have s1 := subset_len (m := placesL ls S) nd2 fun x hx => by
              rw [hsrc, show pre ++ i :: post = (pre ++ [i]) ++ post by simp]
              unfold placesL
              rw [List.map_append, List.flatten_append]
              refine List.mem_append_left _ ?_
              show x ∈ placesL ls (pre ++ [i])
              rw [places_snoc]
              rcases (hm2 x).mp hx with y | y
              · exact List.mem_append_left _ y
              · exact List.mem_append_right _ (by rw [hsrc2]; exact List.mem_append_left _ y)
            have s2 := placesL_len sz S
            unfold keys at s1
            rw [List.length_map] at s1
            omega
          refine s_oPut (f := fun _ : Unit => V.bl true) (b := ()) w6 hd2 nd2 ev_c (ev_var rfl) (ev_var rfl) hlen fun H7 w7 => ?_
          refine ⟨_, Hi3, ⟨aput h2 p (), _, rfl, upd_same, nodup_put nd2 p (), fun x => ?_⟩, ei2.trans e6, w7⟩
          rw [keys_mem, hm2, List.mem_append, List.mem_singleton, or_assoc]
        · rintro σ2 Ho2 Hi2 H6 ⟨h2, z4, rfl, hd2, nd2, hm2⟩ ei2 w6
          refine ⟨Ho2, Hi2, ⟨h2, _, _, rfl, hd2, nd2, fun x => ?_, ?_⟩, (ei.trans e').trans ei2, w6⟩
          · rw [hm2, places_snoc, List.mem_append]
          · rw [List.all_append, hin, Bool.true_and, List.all_cons, List.all_nil, Bool.and_true]
            unfold inR
            simpa using hir
    · rintro σ' Ho' Hi' H' ⟨h, y3, y4, rfl, hd, nd, hm, hin⟩ ei w'
      have hv' := w'.m (Mo.mo ei hv)
      have hl : h.length = (dd (placesL ls S)).length := by
        have := same_len nd (dd_nodup (placesL ls S)) fun x => (hm x).trans dd_mem.symm
        unfold keys at this
        rw [List.length_map] at this
        exact this
      have : dueM ls (.few S) = ((decide (0 < (dd S).length) && decide ((dd S).length = S.length)) && decide ((dd (placesL ls S)).length < 2 * S.length)) := by
        unfold dueM
        exact if_neg (by rw [hin]; decide)
      rw [this] at k
      refine s_oRetV w' (ev_to (ev_andV (ev_chain (k := decide ((0 : Int) < ((dd S).length : Nat))) (m := decide (((dd S).length : Int) = (S.length : Int))) ev_c (ev_lenSet (ep_fldF O (ec_var rfl hv')) (by omega)) rv_I0 (fun _ => ev_lenC (c := cI) (ep_fldF O (ec_var rfl hv'))) fun _ => ?_) fun _ => ev_lt (ev_lenD (f := fun _ : Unit => V.bl true) (kn_at hd) (ev_var rfl)) (ev_mul ev_c (ev_lenC (c := cI) (ep_fldF O (ec_var rfl hv'))) (mul2_ok _))) ?_) k
      · intro H1 _ Q1 q1
        refine .inl ⟨rfl, ?_⟩
        rw [int_dec]
        exact q1 H1 (Ex.refl H1)
      · rw [hl]
        congr 1
        congr 1
        · congr 1
          · exact decide_eq_decide.mpr (by omega)
          · exact decide_eq_decide.mpr (by omega)
        · exact decide_eq_decide.mpr (by omega)
  · cases a with
    | few S => exact nomatch hb
    | pairs ps =>
    have hz' : ps.length ≤ 100 := hz
    have hzl : (ps.zip ls).length ≤ 60 := by rw [List.length_zip]; omega
    refine q_oP w (EvF.toC (ef_nil (c := cI))) fun uv Hi H3 w e3 huv => ?_
    refine q_oFor w (ei_zip (c := cP cI cI) (d := cL cI) (l := ps) (m := ls) ?_) mo_c'
      (fun pre σ' _ Hi' => ∃ uv y6 y7, σ' = [some u, some v, none, none, none, some uv, y6, y7] ∧ cL cI (flatP (pre.map fun q => q.1)) Hi' uv ∧ (pre.all fun q => decide (q.1.1 ∈ q.2) && decide (q.1.2 ∈ q.2)) = true)
      (fun _ e4 => ⟨uv, none, none, rfl, Mo.mo e4 huv, rfl⟩) ?_ ?_
    · refine (as_cons (ep_fldP O (ec_var rfl (Mo.mo e3 hv))) mo_c fun _ e1 => as_cons (ec_var rfl (Mo.mo (e3.trans e1) hu)) mo_c fun _ _ => as_nil).imp ?_
      rintro vs H1 _ ⟨s, _, rfl, p1, t, _, rfl, p2, rfl⟩
      exact ⟨s, t, rfl, p1, p2⟩
    · rintro Hb eb pre ⟨p, l⟩ post x σ' Ho' Hi' Hi'' H'' hsrc ⟨uv, y6, y7, rfl, huv, hin⟩ ei w' e' ca
      refine g_two ca w'.g.i fun cu cv h1 h2 => ?_
      have h1' : cP cI cI p Hi'' cu := h1
      have h2' : cL cI l Hi'' cv := h2
      refine q_oWhen w' (b := !(decide (p.1 ∈ l) && decide (p.2 ∈ l))) (EvT_to (et_or (et_test (ev_neI (ev_lenQ (c := cI) (ec_var rfl (pair_Q (w'.m h1')))) ev_c)) fun _ => et_or (et_test (ev_notIn (evI_c (ep_fst (c := cI) (d := cI) (ec_var rfl (w'.m h1')) ev_c)) (ec_var rfl (w'.m h2')))) fun _ => et_test (ev_notIn (evI_c (ep_snd (c := cI) (d := cI) (ec_var rfl (w'.m h1')) ev_c)) (ec_var rfl (w'.m h2')))) (by
        show (!decide (((2 : Nat) : Int) = 2) || (!decide (p.1 ∈ l) || !decide (p.2 ∈ l))) = _
        rw [Bool.not_and]
        rfl)) (fun hb H5 w5 => ?_) (fun hb H5 w5 => ?_)
      · have hf : ((ps.zip ls).all fun q => decide (q.1.1 ∈ q.2) && decide (q.1.2 ∈ q.2)) = false := by
          rw [List.all_eq_false]
          exact ⟨(p, l), by rw [hsrc]; simp, by
            intro z
            have hb' : p.1 ∉ l ∨ p.2 ∉ l := by simpa using hb
            simp at z
            exact hb'.elim (fun y => y z.1) fun y => y z.2⟩
        have : dueM ls (.pairs ps) = false := by unfold dueM; exact if_pos hf
        rw [this] at k
        exact s_oRetV w5 ev_c k
      · have hlp : (flatP (pre.map fun q => q.1)).length ≤ 200 := by
          rw [flat_len, List.length_map]
          have := congrArg List.length hsrc
          rw [List.length_append] at this
          omega
        refine s_oP w5 (EvF.toC (ef_cat (d := cI) (ec_var rfl (Mo.mo e' huv)) (EvF.toC (ef_listQ (c := cI) (ec_var rfl (pair_Q h1')))) (by show _ + 2 ≤ 40000; omega))) fun uv2 Hi6 H6 w6 e6 huv2 => ?_
        refine ⟨Ho', Hi6, ⟨uv2, _, _, rfl, ?_, ?_⟩, (ei.trans e').trans e6, w6⟩
        · rw [List.map_append, List.map_cons, List.map_nil, flat_snoc]
          exact huv2
        · rw [List.all_append, hin, Bool.true_and, List.all_cons, List.all_nil, Bool.and_true]
          simpa using hb
    · rintro σ' Ho' Hi' H' ⟨uv, y6, y7, rfl, huv, hin⟩ ei w'
      have hv' := w'.m (Mo.mo (e3.trans ei) hv)
      have hu' := w'.m (Mo.mo (e3.trans ei) hu)
      have huv' := w'.m huv
      have : dueM ls (.pairs ps) = (decide (ps.length = ls.length) && decide ((dd (usedM ls ps)).length = (usedM ls ps).length)) := by
        unfold dueM
        exact if_neg (by rw [hin]; decide)
      rw [this] at k
      have hlu : (usedM ls ps).length ≤ 4000 := by
        unfold usedM
        rw [flat_len, List.length_map]
        omega
      refine s_oRetV w' (ev_to (ev_andV (ev_eqI (ev_lenC (c := cP cI cI) (ep_fldP O (ec_var rfl hv'))) (ev_lenC (c := cL cI) (ec_var rfl hu'))) fun _ => ev_eqI (ev_lenSet (l := usedM ls ps) (ec_var rfl huv') hlu) (ev_lenC (c := cI) (l := usedM ls ps) (ec_var rfl huv'))) ?_) k
      congr 1
      congr 1
      · exact decide_eq_decide.mpr (by omega)
      · exact decide_eq_decide.mpr (by omega)
theorem call_due {ls : List (List Int)} {a : Ans} (h1 : EvC ta σ Hs (cL (cL cI)) ls) (h2 : EvC tb σ Hs (cA c) a) (hz : lenA a ≤ 100) (sz : Sz ls) : Ev (tCall (sp_law_due c) [] C8.E0 (tCons ta (tCons tb tNil))) σ Hs (.bl (dueM ls a)) := by
  refine ev_callS (as_cons h1 mo_c fun _ e1 => as_cons (EvC.lift h2 e1) mo_c fun _ e2 => as_nil) ?_
  rintro vs H1 _ ⟨_, _, rfl, p1, _, _, rfl, p2, rfl⟩ H2 e2 Q1 k1
  exact ⟨H1, _, _, ls, a, e2, rfl, p1, p2, hz, sz, k1⟩
end
end LH

namespace LH
open PySem L2 Evl PyProof.Rows
/-! ### walks that read in one of two ways -/
def iEither (a b : TI) : TI := fun σ H R => a σ H R ∨ b σ H R
theorem pi_either {X : Cx} {tg iter : Expr} {a b : TI} (h1 : PI X tg iter a) (h2 : PI X tg iter b) : PI X tg iter (iEither a b) := ⟨fun pins s σ H R I h => h.elim (h1.run pins s σ H R I) (h2.run pins s σ H R I)⟩
section
variable {α : Type} {wi wj : TI} {σ : L2.St} {Hs : Hp} {src : List α} {c : Cd α}
theorem ei_left (h : EvI wi σ Hs src c) : EvI (iEither wi wj) σ Hs src c := fun H e R k => .inl (h H e R k)
theorem ei_right (h : EvI wj σ Hs src c) : EvI (iEither wi wj) σ Hs src c := fun H e R k => .inr (h H e R k)
end
/-- a value, as it is -/
def cV : Cd V := fun v _ x => x = v
instance : Mo cV := ⟨fun _ h => h⟩
theorem paired_V {H : Hp} : ∀ xs : List V, Paired (fun b x => cV b H x) xs xs
  | [] => .nil
  | _ :: r => .cons rfl (paired_V r)
theorem Paired.mem {α β : Type} {F : α → β → Prop} : ∀ {l : List α} {xs : List β} {x : β}, Paired F l xs → x ∈ xs → ∃ a, a ∈ l ∧ F a x
  | _, _, _, .nil, h => (nomatch h)
  | _, _, _, .cons h t, m => by
    rcases List.mem_cons.mp m with e | e
    · exact ⟨_, List.mem_cons_self, e ▸ h⟩
    · obtain ⟨a, h1, h2⟩ := Paired.mem t e
      exact ⟨a, List.mem_cons_of_mem _ h1, h2⟩
section
variable {σ : L2.St} {Hs : Hp} {ta tb : TE} {a b : Bool}
theorem ev_isB (ha : Ev ta σ Hs (.bl a)) (hb : Ev tb σ Hs (.bl b)) : Ev (tOp rIsB ta tb) σ Hs (.bl (decide (a = b))) := ev_op ha hb fun H1 e Q q => ⟨a, b, rfl, rfl, q H1 (Ex.refl _)⟩
theorem ev_notB (ha : Ev ta σ Hs (.bl a)) (hb : Ev tb σ Hs (.bl b)) : Ev (tOp rNotB ta tb) σ Hs (.bl (!decide (a = b))) := ev_op ha hb fun H1 e Q q => ⟨a, b, rfl, rfl, q H1 (Ex.refl _)⟩
end
/-! ### what is told is so, and what is so shows -/
theorem pair_inL {P : Int} {l : List Int} (hl : ∀ x ∈ l, 0 ≤ x ∧ x < P) (p : Int × Int) : isPairM P l p = (decide (p.1 ∈ l) && decide (p.2 ∈ l)) := by
  have one : ∀ x : Int, (inR P x && decide (x ∈ l)) = decide (x ∈ l) := fun x => by
    by_cases h : x ∈ l
    · unfold inR
      rw [decide_eq_true (hl x h).1, decide_eq_true (hl x h).2, decide_eq_true h]
      rfl
    · rw [decide_eq_false h, Bool.and_false]
  unfold isPairM
  rw [List.map_cons, List.map_cons, List.map_nil, one, one, List.all_cons, List.all_cons, List.all_nil, Bool.and_true]
  rfl
theorem zip_pairs {P : Int} : ∀ (ps : List (Int × Int)) (ls : List (List Int)), (∀ l ∈ ls, ∀ x ∈ l, 0 ≤ x ∧ x < P) → ((ls.zip ps).map fun q => isPairM P q.1 q.2).all id = (ps.zip ls).all fun q => decide (q.1.1 ∈ q.2) && decide (q.1.2 ∈ q.2)
  | [], ls, _ => by
    rw [List.zip_nil_right, List.zip_nil_left]
    rfl
  | _ :: _, [], _ => rfl
  | p :: ps, l :: ls, h => by
    rw [List.zip_cons_cons, List.zip_cons_cons, List.map_cons, List.all_cons, List.all_cons, zip_pairs ps ls fun l' hl => h l' (List.mem_cons_of_mem _ hl), pair_inL (h l List.mem_cons_self)]
    rfl
theorem fst_zip {α β : Type} : ∀ (l : List α) (m : List β), l.length = m.length → (l.zip m).map (fun q => q.1) = l
  | [], [], _ => rfl
  | _ :: l, _ :: m, h => by
    rw [List.zip_cons_cons, List.map_cons, fst_zip l m (by simpa using h)]
  | [], _ :: _, h => by simp at h
  | _ :: _, [], h => by simp at h
theorem used_flat {ls : List (List Int)} {ps : List (Int × Int)} (h : ps.length = ls.length) : usedM ls ps = flatP ps := by
  unfold usedM
  rw [fst_zip ps ls h]
/-- none told twice, some told -/
def SomeA : Ans → Prop
  | .pairs _ => True
  | .few S => S ≠ []
theorem shows_due {P : Int} {ls : List (List Int)} {a : Ans} (ok : ∀ l ∈ ls, ∀ x ∈ l, 0 ≤ x ∧ x < P) (hs : SomeA a) : showsM P ls a = dueM ls a := by
  cases a with
  | pairs ps =>
    unfold showsM showsP dueM
    dsimp only
    rw [zip_pairs ps ls ok]
    by_cases h : ps.length = ls.length
    · rw [if_neg fun z => z h, used_flat h, decide_eq_true h, Bool.true_and]
    · rw [if_pos h, decide_eq_false h, Bool.false_and]
      split <;> rfl
  | few S =>
    have hs' : S ≠ [] := hs
    have pos : 0 < (dd S).length := by
      cases e : dd S with
      | nil =>
        obtain ⟨x, r, hx⟩ := List.exists_cons_of_ne_nil hs'
        have : x ∈ dd S := dd_mem.mpr (by rw [hx]; exact List.mem_cons_self)
        rw [e] at this
        exact nomatch this
      | cons x r => exact Nat.succ_pos _
    unfold showsM showsF dueM
    dsimp only
    rw [List.all_map, show (id ∘ fun i => inR (ls.length : Int) i) = fun i => inR (ls.length : Int) i from rfl, decide_eq_true pos, Bool.true_and]
    by_cases h : (dd S).length = S.length
    · rw [if_neg (c := ¬ (dd S).length = S.length) fun z => z h, decide_eq_true h, Bool.true_and]
    · rw [if_pos (c := ¬ (dd S).length = S.length) h, decide_eq_false h, Bool.false_and]
theorem due_some {ls : List (List Int)} {a : Ans} (d : Due ls a) : SomeA a := by
  cases a with
  | pairs ps => exact trivial
  | few S =>
    intro z
    have := (show DueF ls S from d).few
    rw [z] at this
    simp at this
theorem due_true {ls : List (List Int)} {a : Ans} (d : Due ls a) : dueM ls a = true := by
  cases a with
  | pairs ps =>
    have d' : DueP ls ps := d
    have h1 : ((ps.zip ls).all fun q => decide (q.1.1 ∈ q.2) && decide (q.1.2 ∈ q.2)) = true := by
      rw [List.all_eq_true]
      intro q hq
      obtain ⟨i, hi⟩ := List.getElem?_of_mem hq
      rw [List.getElem?_zip_eq_some] at hi
      obtain ⟨a, b⟩ := d'.own i q.1 q.2 hi.1 hi.2
      simp [a, b]
    unfold dueM
    dsimp only
    rw [if_neg (by rw [h1]; decide), decide_eq_true d'.len, used_flat d'.len, (dd_len_iff _).mpr d'.nd]
    simp
  | few S =>
    have d' : DueF ls S := d
    have pos := d'.few
    have h1 : (S.all fun i => inR (ls.length : Int) i) = true := by
      rw [List.all_eq_true]
      intro i hi
      unfold inR
      simp [d'.inr i hi]
    have hd := (dd_len_iff S).mpr d'.nd
    unfold dueM
    dsimp only
    rw [if_neg (by rw [h1]; decide), hd, decide_eq_true pos]
    simp
    omega
theorem due_lenA {ls : List (List Int)} {a : Ans} (d : Due ls a) : lenA a ≤ ls.length := by
  cases a with
  | pairs ps => exact Nat.le_of_eq (show DueP ls ps from d).len
  | few S =>
    have d' : DueF ls S := d
    have := subset_len d'.nd (m := (List.range ls.length).map fun i : Nat => (i : Int)) fun x hx => by
      have := d'.inr x hx
      exact List.mem_map.mpr ⟨x.toNat, List.mem_range.mpr (by omega), by omega⟩
    rw [List.length_map, List.length_range] at this
    exact this
/-- with one more -/
def moreA : Ans → Ans
  | .pairs ps => .pairs (ps ++ [(0, 0)])
  | .few S => .few (S ++ [-1])
theorem more_not {P : Int} {ls : List (List Int)} {a : Ans} (d : Due ls a) : showsM P ls (moreA a) = false := by
  cases a with
  | pairs ps =>
    have d' : DueP ls ps := d
    show showsP P ls (ps ++ [(0, 0)]) = false
    unfold showsP
    rw [if_pos]
    rw [List.length_append, List.length_singleton, d'.len]
    omega
  | few S =>
    show showsF ls (S ++ [-1]) = false
    unfold showsF
    refine if_pos ?_
    rw [List.all_map, List.all_append]
    have : ((id ∘ fun i => inR (ls.length : Int) i) (-1)) = false := by
      show inR (ls.length : Int) (-1) = false
      unfold inR
      simp
    rw [List.all_cons, this, Bool.false_and, Bool.and_false]
theorem more_ins {c : Cn} {l dx : Addr} {a : Ans} : insA c l dx (moreA a) = insA c l dx a := by cases a <;> rfl
/-- a thing that is added -/
def AddA (a : Ans) (v : V) (H : Hp) : Prop := match a with
  | .pairs _ => cP cI cI (0, 0) H v
  | .few _ => v = .int (-1)
theorem more_items {a : Ans} {H : Hp} {xs : List V} {v : V} (h : AnsL a H xs) (hv : AddA a v H) : AnsL (moreA a) H (xs ++ [v]) := by
  cases a with
  | pairs ps => exact Paired.snoc (F := fun b x => cP cI cI b H x) h hv
  | few S => exact Paired.snoc (F := fun b x => cI b H x) h hv
def sp_law_told_right (c : Cn) : Sp := fun vs H Q _ => ∃ (Hs : Hp) (P : Int) (u v : V) (ls : List (List Int)) (os : List (List (List Int))), Ex Hs H ∧ vs = [.int P, u, v] ∧ cL (cL cI) ls Hs u ∧ cL (cL (cL cI)) os Hs v ∧ (1 ≤ P ∧ P ≤ 60) ∧ OkLines P ls ∧ (∀ o ∈ os, OkLines P o) ∧ RetV (.bl true) H Q
def t_law_told_right (c : Cn) : TS := (tSeq (tAsg (tLc (iList c.K (tVar 1)) (gName 4) tYes (tCB (rListA c.K) (tCons (tVar 4) tNil)) [4]) (gName 3)) (tSeq (tAsg (tCall (sp_told c) [] C8.E0 (tCons (tVar 0) (tCons (tVar 3) tNil))) (gName 5)) (tSeq (tIfS (tOr (tNot (tB (tCB (rIsi c.K) (tCons (tVar 5) (tCons (tC (.ref c.answer)) tNil))))) (tOr (tTest (tOp (rEqA c.K) (tCB (rIsi c.K) (tCons (tVar 5) (tCons (tC (.ref c.pairs)) tNil))) (tCB (rIsi c.K) (tCons (tVar 5) (tCons (tC (.ref c.few)) tNil))))) (tTest (tOp (rNeA c.K) (tVar 3) (tVar 1))))) (tRet (tC (.bl false))) tNext) (tSeq (tAsg (tIf (tB (tCB (rIsi c.K) (tCons (tVar 5) (tCons (tC (.ref c.pairs)) tNil)))) (tFld c.K (tVar 5) "pairs") (tFld c.K (tVar 5) "lines")) (gName 6)) (tSeq (tIfS (tNot (tB (tCB (rIsi c.K) (tCons (tVar 6) (tCons (tC (.ty "list")) tNil))))) (tRet (tC (.bl false))) tNext) (tSeq (tFor (iList c.K (tVar 6)) (gName 7) (tSeq (tIfS (tAnd (tB (tCB (rIsi c.K) (tCons (tVar 5) (tCons (tC (.ref c.pairs)) tNil)))) (tOr (tNot (tB (tCB (rIsi c.K) (tCons (tVar 7) (tCons (tC (.ty "tuple")) tNil))))) (tTest (tOp (rNeA c.K) (tCB (rLenA c.K) (tCons (tVar 7) tNil)) (tC (.int 2)))))) (tRet (tC (.bl false))) tNext) (tFor (iEither (iTup c.K (tIf (tB (tCB (rIsi c.K) (tCons (tVar 5) (tCons (tC (.ref c.pairs)) tNil)))) (tVar 7) (tLst (tCons (tVar 7) tNil)))) (iList c.K (tIf (tB (tCB (rIsi c.K) (tCons (tVar 5) (tCons (tC (.ref c.pairs)) tNil)))) (tVar 7) (tLst (tCons (tVar 7) tNil))))) (gName 8) (tIfS (tOr (tB (tCB (rIsi c.K) (tCons (tVar 8) (tCons (tC (.ty "bool")) tNil)))) (tNot (tB (tCB (rIsi c.K) (tCons (tVar 8) (tCons (tC (.ty "int")) tNil)))))) (tRet (tC (.bl false))) tNext)))) (tSeq (tIfS (tOr (tNot (tB (tCall (sp_law_due c) [] C8.E0 (tCons (tVar 1) (tCons (tVar 5) tNil))))) (tTest (tOp rNotB (tEither (tMeth c.pairs "shows" (sp_pairs_shows c) [] C8.E0 (tVar 5) (tCons (tVar 0) (tCons (tVar 1) tNil))) (tMeth c.few "shows" (sp_few_shows c) [] C8.E0 (tVar 5) (tCons (tVar 0) (tCons (tVar 1) tNil)))) (tC (.bl true))))) (tRet (tC (.bl false))) tNext) (tSeq (tFor (iList c.K (tVar 2)) (gName 9) (tIfS (tTest (tOp (rNeA c.K) (tEither (tMeth c.pairs "shows" (sp_pairs_shows c) [] C8.E0 (tVar 5) (tCons (tVar 0) (tCons (tVar 9) tNil))) (tMeth c.few "shows" (sp_few_shows c) [] C8.E0 (tVar 5) (tCons (tVar 0) (tCons (tVar 9) tNil)))) (tCall (sp_law_due c) [] C8.E0 (tCons (tVar 9) (tCons (tVar 5) tNil))))) (tRet (tC (.bl false))) tNext)) (tSeq (tDrop (tBM c.K "list" rAppend (tVar 6) (tCons (tIf (tB (tCB (rIsi c.K) (tCons (tVar 5) (tCons (tC (.ref c.pairs)) tNil)))) (tTup (tCons (tC (.int 0)) (tCons (tC (.int 0)) tNil))) (tUn rNegU (tC (.int 1)))) tNil))) (tSeq (tIfS (tOr (tTest (tOp rNotB (tEither (tMeth c.pairs "shows" (sp_pairs_shows c) [] C8.E0 (tVar 5) (tCons (tVar 0) (tCons (tVar 1) tNil))) (tMeth c.few "shows" (sp_few_shows c) [] C8.E0 (tVar 5) (tCons (tVar 0) (tCons (tVar 1) tNil)))) (tC (.bl false)))) (tTest (tOp rNotB (tEither (tMeth c.pairs "shows" (sp_pairs_shows c) [] C8.E0 (tCall (sp_told c) [] C8.E0 (tCons (tVar 0) (tCons (tVar 3) tNil))) (tCons (tVar 0) (tCons (tVar 1) tNil))) (tMeth c.few "shows" (sp_few_shows c) [] C8.E0 (tCall (sp_told c) [] C8.E0 (tCons (tVar 0) (tCons (tVar 3) tNil))) (tCons (tVar 0) (tCons (tVar 1) tNil)))) (tC (.bl true))))) (tRet (tC (.bl false))) tNext) (tSeq (tDrop (tBM0 c.K "list" rPop (tVar 6))) (tRet (tAndV (tOp rIsB (tEither (tMeth c.pairs "shows" (sp_pairs_shows c) [] C8.E0 (tVar 5) (tCons (tVar 0) (tCons (tVar 1) tNil))) (tMeth c.few "shows" (sp_few_shows c) [] C8.E0 (tVar 5) (tCons (tVar 0) (tCons (tVar 1) tNil)))) (tC (.bl true))) (tOp (rEqA c.K) (tVar 3) (tVar 1)))))))))))))))
theorem OkLines.sz {P : Int} {ls : List (List Int)} (ok : OkLines P ls) : Sz ls := ⟨ok.few, fun l hl => (ok.ok l hl).few⟩
theorem OkLines.inr {P : Int} {ls : List (List Int)} (ok : OkLines P ls) : ∀ l ∈ ls, ∀ x ∈ l, 0 ≤ x ∧ x < P := fun l hl => (ok.ok l hl).inr
section
variable {c : Cn} {vs : List V} {H : Hp} {Q : VK} {E : XK} {σ : L2.St} {Hs : Hp} {ta tb tc td te : TE}
theorem call_toldC {P : Int} {ls : List (List Int)} {a : Ans} (h1 : Ev ta σ Hs (.int P)) (h2 : EvC tb σ Hs (cL (cL cI)) ls) (hP : 1 ≤ P ∧ P ≤ 60) (ok : OkLines P ls) (t : Told ls a) : EvC (tCall (sp_told c) [] C8.E0 (tCons ta (tCons tb tNil))) σ Hs (cA c) a :=
  EvP.imp (EvAn.toC (call_told h1 h2 hP ok)) fun v H _ ⟨b, ⟨tb, _⟩, cb⟩ => by
    have e := TR.det tb t
    subst e
    exact cb
theorem Own.ans {Hs0 H0 Ho Hi H : Hp} {a : Ans} {x l dx : Addr} {xs : List V} (w : Own Hs0 H0 Ho Hi H) (hx : Hi x = some (insA c l dx a)) (hl : Ho l = some (.lst xs)) (hp : AnsL a Hi xs) : cA c a (kn Ho Hi) (.ref x) :=
  ⟨x, l, dx, xs, rfl, w.ik _ _ hx, kn_at hl, ansL_mo w.ik hp⟩
theorem rd_law_told_right (O : Ob c) (h : sp_law_told_right c vs H Q E) : t_law_told_right c { nx := fun _ H' => Q .non H', rt := Q } (start ["_law_places_here", "_law_lines_here", "_law_others", "_law_handed", "_law_line", "_law_found", "_law_some", "_law_one", "_law_number_here", "_law_other"] vs) H := by
  obtain ⟨Hs, P, u, v, ls, os, e, rfl, hu, hv, hP, ok, oks, k⟩ := h
  have few := ok.few
  have sz := ok.sz
  refine q_oP (Own.start e) (EvF.toC (ef_mapN (d := cL cI) (ei_list (ec_var rfl hu)) (fun l => l) (by omega) fun a x Hs' ha e' ca => EvF.toC (ef_list (c := cI) (ec_var rfl ca)))) fun hd Hi H2 w e1 hh => ?_
  rw [List.map_id'] at hh
  replace hu := Mo.mo e1 hu
  replace hv := Mo.mo e1 hv
  refine (call_told (P := P) (ls := ls) (ev_var rfl) (ec_var rfl hh) hP ok) H2 w.g.i _ fun a x l dx xs H3 Hi3 pa g hx0 h2 h3 h4 h5 h6 => ?_
  obtain ⟨told, due⟩ := pa
  have hlen := due_lenA due
  have w3 := w.new g h2 h3 h4
  clear w
  replace hu := Mo.mo g.s hu
  replace hv := Mo.mo g.s hv
  replace hh := Mo.mo g.s hh
  have hl3 : upd emp l (.lst xs) l = some (.lst xs) := upd_same
  have ha := w3.ans h5 hl3 h6
  generalize upd emp l (.lst xs) = Ho at hl3 ha w3
  have w := Own.start w3.ek
  have hku := w3.m hu
  have hkv := w3.m hv
  have hkh := w3.m hh
  have hin : ∀ {Hk : Hp}, Ex (kn Ho Hi3) Hk → Hk x = some (insA c l dx a) := fun e => e _ _ (w3.ik _ _ h5)
  refine q_oNo w (EvT_to (et_or (et_not (et_B (ev_isAnswer O (EvC.o (ec_var rfl (w.m ha)))))) fun _ => et_or (et_test (ev_eqB (ev_isPairs O (EvC.o (ec_var rfl (w.m ha)))) (ev_isFew O (EvC.o (ec_var rfl (w.m ha)))))) fun _ => et_test (ev_neC (c := cL (cL cI)) (ec_var rfl (w.m hkh)) (ec_var rfl (w.m hku)))) (by cases a <;> simp [isPA, isFA])) fun H4 w => ?_
  refine q_oV w (v := .ref l) (ev_if (et_B (ev_isPairs O (EvC.o (ec_var rfl (w.m ha))))) (fun hp => ?_) fun hp => ?_) fun H5 w => ?_
  · cases a with
    | pairs ps => exact ev_fldP O (ev_var rfl) (w.ik _ _ (hin (Ex.refl _)))
    | few S => exact nomatch hp
  · cases a with
    | pairs ps => exact nomatch hp
    | few S => exact ev_fldF O (ev_var rfl) (w.ik _ _ (hin (Ex.refl _)))
  have hcV : ∀ {Hk : Hp}, Ex (kn Ho Hi3) Hk → cL cV xs Hk (.ref l) := fun e => ⟨l, xs, rfl, e _ _ (kn_at hl3), paired_V xs⟩
  refine q_oNo w (EvT_to (et_not (et_B (ev_isList (d := cV) (ec_var rfl (hcV w.ik))))) rfl) fun H6 w => ?_
  have hk6 := ansL_mo w3.ik h6
  have hxl : xs.length ≤ 60 := by
    have : xs.length = lenA a := by
      cases a with
      | pairs ps => exact (Paired.length h6).symm
      | few S => exact (Paired.length h6).symm
    omega
  refine q_oFor w (ei_list (c := cV) (l := xs) (ec_var rfl (hcV (Ex.refl _)))) mo_c'
    (fun pre σ' Ho' _ => ∃ y7 y8, σ' = [some (.int P), some u, some v, some hd, none, some (.ref x), some (.ref l), y7, y8, none]) (fun _ _ => ⟨none, none, rfl⟩) ?_ ?_
  · rintro Hb eb pre y post y' σ' Ho' Hi' Hi'' H'' hsrc ⟨y7, y8, rfl⟩ ei w' e' ca
    have cay : y' = y := ca
    subst cay
    have em := (eb.trans ei).trans e'
    have hy : y' ∈ xs := by rw [hsrc]; simp
    have ha' := Mo.mo em ha
    have hpair : isPA a = true → ∃ p : Int × Int, cP cI cI p Hi'' y' := fun hp => by
      cases a with
      | pairs ps =>
        obtain ⟨p, _, hc⟩ := Paired.mem hk6 hy
        exact ⟨p, Mo.mo em hc⟩
      | few S => exact nomatch hp
    have hnum : isPA a = false → ∃ n : Int, y' = .int n := fun hp => by
      cases a with
      | pairs ps => exact nomatch hp
      | few S =>
        obtain ⟨n, _, hc⟩ := Paired.mem hk6 hy
        exact ⟨n, hc⟩
    refine q_oNo w' (EvT_to (a := isPA a && false) (et_and (et_B (ev_isPairs O (EvC.o (ec_var rfl (w'.m ha'))))) fun hp => ?_) (Bool.and_false _)) fun H7 w7 => ?_
    · obtain ⟨p, hc⟩ := hpair hp
      exact EvT_to (et_or (et_not (et_B (ev_isi ty_tuple (ec_var rfl (ints2_cW (w'.m hc)))))) fun _ => et_test (ev_neI (ev_lenQ (c := cI) (ec_var rfl (pair_Q (w'.m hc)))) ev_c)) (by rw [tuple_eq]; rfl)
    have inner : ∃ ns : List Int, EvI (iEither (iTup c.K (tIf (tB (tCB (rIsi c.K) (tCons (tVar 5) (tCons (tC (.ref c.pairs)) tNil)))) (tVar 7) (tLst (tCons (tVar 7) tNil)))) (iList c.K (tIf (tB (tCB (rIsi c.K) (tCons (tVar 5) (tCons (tC (.ref c.pairs)) tNil)))) (tVar 7) (tLst (tCons (tVar 7) tNil))))) [some (.int P), some u, some v, some hd, none, some (.ref x), some (.ref l), some y', y8, none] Hi'' ns cI := by
      cases hp : isPA a with
      | true =>
        obtain ⟨p, hc⟩ := hpair hp
        exact ⟨[p.1, p.2], ei_left (ei_tup (c := cI) (ep_if (b := true) (hp ▸ et_B (ev_isPairs O (EvC.o (ec_var rfl ha')))) (fun _ => ec_var rfl (pair_Q hc)) fun z => nomatch z))⟩
      | false =>
        obtain ⟨n, rfl⟩ := hnum hp
        exact ⟨[n], ei_right (ei_list (c := cI) (ep_if (b := false) (hp ▸ et_B (ev_isPairs O (EvC.o (ec_var rfl ha')))) (fun z => nomatch z) fun _ => ec_lst (ecs_cons (ec_var rfl rfl) ecs_nil) (show 1 ≤ 40000 by decide)))⟩
    obtain ⟨ns, hI⟩ := inner
    refine s_oFor w7 hI mo_c' (fun pre σ' Ho' _ => ∃ y8, σ' = [some (.int P), some u, some v, some hd, none, some (.ref x), some (.ref l), some y', y8, none]) (fun _ _ => ⟨y8, rfl⟩) ?_ ?_
    · rintro Hb2 eb2 pre2 n post2 x2 σ2 Ho2 Hi2 Hi3' H8 hsrc2 ⟨z8, rfl⟩ ei2 w8 e8 cn
      cases cn
      have hn : cW (.int n) (kn Ho2 Hi3') (.int n) := CW.int n
      exact s_oWhen w8 (b := false) (EvT_to (et_or (et_B (ev_isi ty_bool (ec_var rfl hn))) fun _ => et_not (et_B (ev_isi ty_int (ec_var rfl hn)))) (by with_unfolding_all rfl)) (fun z => nomatch z) fun _ H9 w9 => ⟨Ho2, Hi3', ⟨_, rfl⟩, ei2.trans e8, w9⟩
    · rintro σ2 Ho2 Hi2 H8 ⟨z8, rfl⟩ ei2 w8
      exact ⟨Ho2, Hi2, ⟨_, _, rfl⟩, (ei.trans e').trans ei2, w8⟩
  rintro σ' Ho' Hi' H' ⟨y7, y8, rfl⟩ ei w
  have hS : showsM P ls a = true := (shows_due ok.inr (due_some due)).trans (due_true due)
  have z1000 : ∀ {a' : Ans}, lenA a' ≤ 61 → (match a' with | .pairs ps => ps.length | .few S => S.length) ≤ 1000 := fun {a'} h => by
    cases a' with
    | pairs ps => exact Nat.le_trans h (by decide)
    | few S => exact Nat.le_trans h (by decide)
  have hcall : ∀ {σ : L2.St} {Hk : Hp} {a' : Ans} {tl : TE} {m : List (List Int)}, σ[0]? = some (some (.int P)) → σ[5]? = some (some (.ref x)) → cA c a' Hk (.ref x) → EvC tl σ Hk (cL (cL cI)) m → lenA a' ≤ 61 → Sz m →
      Ev (tEither (tMeth c.pairs "shows" (sp_pairs_shows c) [] C8.E0 (tVar 5) (tCons (tVar 0) (tCons tl tNil))) (tMeth c.few "shows" (sp_few_shows c) [] C8.E0 (tVar 5) (tCons (tVar 0) (tCons tl tNil)))) σ Hk (.bl (showsM P m a')) := fun s0 s5 hc hl hz szm =>
    call_shows O (ec_var s5 hc) (ev_var s0) hl (z1000 hz) szm
  have em := ei
  refine q_oNo w (EvT_to (et_or (et_not (et_B (call_due (ec_var rfl (w.m (Mo.mo em hku))) (ec_var rfl (w.m (Mo.mo em ha))) (by omega) sz))) fun _ => et_test (ev_notB (hcall rfl rfl (w.m (Mo.mo em ha)) (ec_var rfl (w.m (Mo.mo em hku))) (by omega) sz) ev_c)) (by rw [due_true due, hS]; rfl)) fun H7 w => ?_
  refine q_oFor w (ei_list (c := cL (cL cI)) (l := os) (ec_var rfl (Mo.mo em hkv))) mo_c'
    (fun pre σ' Ho' _ => ∃ y9, σ' = [some (.int P), some u, some v, some hd, none, some (.ref x), some (.ref l), y7, y8, y9]) (fun _ _ => ⟨none, rfl⟩) ?_ ?_
  · rintro Hb eb pre o post y σ2 Ho2 Hi2 Hi2' H8 hsrc ⟨y9, rfl⟩ ei2 w' e' ca
    have em2 := ((em.trans eb).trans ei2).trans e'
    have oko := oks o (by rw [hsrc]; simp)
    refine s_oWhen w' (b := false) (EvT_to (et_test (ev_neB (hcall rfl rfl (w'.m (Mo.mo em2 ha)) (ec_var rfl (w'.m ca)) (by omega) oko.sz) (call_due (ec_var rfl (w'.m ca)) (ec_var rfl (w'.m (Mo.mo em2 ha))) (by omega) oko.sz))) (by rw [shows_due oko.inr (due_some due)]; simp)) (fun z => nomatch z) fun _ H9 w9 => ⟨Ho2, Hi2', ⟨_, rfl⟩, ei2.trans e', w9⟩
  rintro σ2 Ho2 Hi2 H8 ⟨y9, rfl⟩ ei2 w
  -- the list is the law's own again
  have w4 := w3.back w.g
  have eb := w3.im w.g
  clear w
  generalize mns Hi2 Ho = Hm at w4 eb
  have hx5 := eb _ _ h5
  have hm6 := ansL_mo eb h6
  have hao : cAo c a Hm (.ref x) := ⟨x, l, dx, rfl, hx5⟩
  replace hu := Mo.mo eb hu
  replace hh := Mo.mo eb hh
  refine q_oApp w4 hl3 (ev_var rfl) (P := AddA a) (ep_if (et_B (ev_isPairs O (ec_var rfl hao))) (fun hp => ?_) fun hp => ?_) (by omega) fun nv Hi5 H9 w5 e5 hnv => ?_
  · cases a with
    | pairs ps => exact ep_pair (c := cI) (d := cI) (ep_ev ev_c rfl) (ep_ev ev_c rfl)
    | few S => exact nomatch hp
  · cases a with
    | pairs ps => exact nomatch hp
    | few S => exact ep_ev (ev_neg ev_c) rfl
  replace hu := Mo.mo e5 hu
  replace hh := Mo.mo e5 hh
  replace hx5 := e5 _ _ hx5
  replace hm6 := ansL_mo e5 hm6
  have hl5 : upd Ho l (.lst (xs ++ [nv])) l = some (.lst (xs ++ [nv])) := upd_same
  have ha5 : cA c (moreA a) (kn (upd Ho l (.lst (xs ++ [nv]))) Hi5) (.ref x) := w5.ans (by rw [more_ins]; exact hx5) hl5 (more_items hm6 hnv)
  have hz5 : lenA (moreA a) ≤ 61 := by
    cases a with
    | pairs ps =>
      have hlen' : ps.length ≤ ls.length := hlen
      show (ps ++ [(0, 0)]).length ≤ 61
      rw [List.length_append, List.length_singleton]
      omega
    | few S =>
      have hlen' : S.length ≤ ls.length := hlen
      show (S ++ [-1]).length ≤ 61
      rw [List.length_append, List.length_singleton]
      omega
  refine q_oNo w5 (EvT_to (et_or (et_test (ev_notB (hcall rfl rfl ha5 (ec_var rfl (w5.m hu)) hz5 sz) ev_c)) fun _ => et_test (ev_notB (call_shows O (call_toldC (P := P) (ev_var rfl) (ec_var rfl (w5.m hh)) hP ok told) (ev_var rfl) (ec_var rfl (w5.m hu)) (z1000 (by omega)) sz) ev_c)) (by rw [more_not due, hS]; rfl)) fun H10 w5 => ?_
  refine s_oDropPop (D := { nx := tRet _ _, rt := Q }) w5 hl5 (ev_var rfl) fun H11 w6 => ?_
  have hl6 : upd (upd Ho l (.lst (xs ++ [nv]))) l (.lst xs) l = some (.lst xs) := upd_same
  have ha6 := w6.ans hx5 hl6 hm6
  exact s_oRetV w6 (ev_to (ev_andV (ev_isB (hcall rfl rfl ha6 (ec_var rfl (w6.m hu)) (by omega) sz) ev_c) fun _ => ev_eqC (c := cL (cL cI)) (ec_var rfl (w6.m hh)) (ec_var rfl (w6.m hu))) (by rw [hS]; simp)) k
end
end LH

namespace LH
open PySem L2 Evl PyProof.Rows
/-! ### the reply by the told pairs, as law_k03 looks; the holder who replies so -/
theorem flat_cons (p : Int × Int) (ps : List (Int × Int)) : flatP (p :: ps) = p.1 :: p.2 :: flatP ps := rfl
theorem flat_mem {ps : List (Int × Int)} {p : Int × Int} (h : p ∈ ps) : p.1 ∈ flatP ps ∧ p.2 ∈ flatP ps := by
  unfold flatP
  exact ⟨List.mem_flatten.mpr ⟨[p.1, p.2], List.mem_map.mpr ⟨p, h, rfl⟩, by simp⟩, List.mem_flatten.mpr ⟨[p.1, p.2], List.mem_map.mpr ⟨p, h, rfl⟩, by simp⟩⟩
abbrev oth (h : Int) (p : Int × Int) : Option Int := if h = p.1 then some p.2 else if h = p.2 then some p.1 else none
theorem oth_at {ps : List (Int × Int)} {p : Int × Int} {h : Int} (nd : (flatP ps).Nodup) (hp : p ∈ ps) (hh : h = p.1 ∨ h = p.2) : ps.findSome? (oth h) = some (p.1 + p.2 - h) := by
  induction ps with
  | nil => exact nomatch hp
  | cons q ps ih =>
    rw [flat_cons] at nd
    obtain ⟨n1, n2⟩ := List.nodup_cons.mp nd
    obtain ⟨n3, n4⟩ := List.nodup_cons.mp n2
    rw [List.findSome?_cons]
    by_cases e : p = q
    · subst e
      unfold oth
      rcases hh with e | e
      · rw [if_pos e, e]
        dsimp only
        congr 1
        omega
      · have ne : ¬ h = p.1 := fun z => n1 (by rw [← z, e]; exact List.mem_cons_self)
        rw [if_neg ne, if_pos e, e]
        dsimp only
        congr 1
        omega
    · have hp' : p ∈ ps := (List.mem_cons.mp hp).resolve_left e
      obtain ⟨m1, m2⟩ := flat_mem hp'
      have hm : h ∈ flatP ps := hh.elim (fun e => e ▸ m1) fun e => e ▸ m2
      have ne1 : ¬ h = q.1 := fun z => n1 (List.mem_cons_of_mem _ (z ▸ hm))
      have ne2 : ¬ h = q.2 := fun z => n3 (z ▸ hm)
      rw [show oth h q = none by unfold oth; rw [if_neg ne1, if_neg ne2]]
      exact ih n4 hp'
theorem oth_of {ps : List (Int × Int)} {h o : Int} (e : ps.findSome? (oth h) = some o) : ∃ p ∈ ps, (h = p.1 ∨ h = p.2) ∧ o = p.1 + p.2 - h := by
  obtain ⟨l1, p, l2, hl, hp, _⟩ := List.findSome?_eq_some_iff.mp e
  refine ⟨p, by rw [hl]; simp, ?_⟩
  unfold oth at hp
  by_cases h1 : h = p.1
  · rw [if_pos h1] at hp
    cases hp
    exact ⟨.inl h1, by omega⟩
  · rw [if_neg h1] at hp
    by_cases h2 : h = p.2
    · rw [if_pos h2] at hp
      cases hp
      exact ⟨.inr h2, by omega⟩
    · rw [if_neg h2] at hp
      cases hp
theorem otherM_at {ps : List (Int × Int)} {hs : List Int} {h : Int} : otherM (.pairs ps) (hs ++ [h]) = ps.findSome? (oth h) := by
  unfold otherM
  rw [List.getLast?_append]
  rfl
/-- a free place -/
theorem free_mem {P : Int} {hs ms : List Int} {r : Int} : r ∈ (freeP P hs ms).map (fun i : Nat => (i : Int)) ↔ Free P hs ms r := by
  rw [List.mem_map]
  constructor
  · rintro ⟨p, h, rfl⟩
    exact free_of h
  · intro f
    refine ⟨r.toNat, of_free ?_, Int.toNat_of_nonneg f.h0⟩
    rw [Int.toNat_of_nonneg f.h0]
    exact f
theorem reply_in {P : Int} {hs ms : List Int} {a : Ans} {o : Int} (ho : otherM a hs = some o) (f : Free P hs ms o) : replyM P hs ms a = some o := by
  have m := free_mem.mpr f
  unfold replyM
  cases e : freeP P hs ms with
  | nil => rw [e] at m; exact nomatch m
  | cons x r =>
    rw [e] at m
    dsimp only
    rw [ho]
    dsimp only
    rw [if_pos m]
theorem reply_else {P : Int} {hs ms : List Int} {a : Ans} (h : ∀ o, otherM a hs = some o → ¬ Free P hs ms o) : replyM P hs ms a = (freeP P hs ms).head?.map fun i : Nat => (i : Int) := by
  unfold replyM
  cases e : freeP P hs ms with
  | nil => rfl
  | cons x r =>
    dsimp only
    cases ho : otherM a hs with
    | none => rfl
    | some o =>
      dsimp only
      rw [if_neg fun z => h o ho (free_mem.mp (e ▸ z))]
      rfl
theorem reply_free {P : Int} {hs ms : List Int} {a : Ans} (h : freeP P hs ms ≠ []) : ∃ r, replyM P hs ms a = some r ∧ Free P hs ms r := by
  cases ho : otherM a hs with
  | none =>
    obtain ⟨x, r, e⟩ := List.exists_cons_of_ne_nil h
    exact ⟨(x : Int), by rw [reply_else (fun o z => by rw [ho] at z; cases z), e]; rfl, free_of (by rw [e]; exact List.mem_cons_self)⟩
  | some o =>
    by_cases f : Free P hs ms o
    · exact ⟨o, reply_in ho f, f⟩
    · obtain ⟨x, r, e⟩ := List.exists_cons_of_ne_nil h
      exact ⟨(x : Int), by rw [reply_else (fun o' z => by rw [ho] at z; cases z; exact f), e]; rfl, free_of (by rw [e]; exact List.mem_cons_self)⟩
/-- what the pairs keep: of none does he have a place without the holder having the other -/
def Guard (ps : List (Int × Int)) (hs ms : List Int) : Prop := ∀ p ∈ ps, p.1 ∈ hs ∨ p.2 ∈ hs → p.1 ∈ ms ∨ p.2 ∈ ms
theorem due_ne {ls : List (List Int)} {ps : List (Int × Int)} (d : DueP ls ps) {p : Int × Int} (hp : p ∈ ps) : p.1 ≠ p.2 := by
  have nd := d.nd
  clear d
  induction ps with
  | nil => exact nomatch hp
  | cons q ps ih =>
    rw [flat_cons] at nd
    obtain ⟨n1, n2⟩ := List.nodup_cons.mp nd
    rcases List.mem_cons.mp hp with e | e
    · subst e
      exact fun z => n1 (by rw [z]; exact List.mem_cons_self)
    · exact ih e (List.nodup_cons.mp n2).2
theorem due_line {ls : List (List Int)} {ps : List (Int × Int)} (d : DueP ls ps) {p : Int × Int} (hp : p ∈ ps) : ∃ l ∈ ls, p.1 ∈ l ∧ p.2 ∈ l := by
  obtain ⟨i, hi⟩ := List.getElem?_of_mem hp
  have hl : i < ls.length := by
    have := (List.getElem?_eq_some_iff.mp hi).1
    rw [d.len] at this
    exact this
  have e : ls[i]? = some ls[i] := List.getElem?_eq_getElem hl
  obtain ⟨a, b⟩ := d.own i p _ hi e
  exact ⟨ls[i], List.getElem_mem hl, a, b⟩
theorem guard_none {P : Int} {ls : List (List Int)} {ps : List (Int × Int)} {hs ms : List Int} {x : Int} (d : DueP ls ps) (g : Guard ps hs ms) (t : OkTake P (hs ++ [x]) ms) : fullL ls (hs ++ [x]) = [] := by
  have dj : ∀ y, y ∈ hs ++ [x] → y ∉ ms := fun y h1 h2 => (List.nodup_append.mp t.nd).2.2 y h1 y h2 rfl
  unfold fullL
  rw [List.map_eq_nil_iff, List.filter_eq_nil_iff]
  rintro ⟨i, l⟩ hq hall
  obtain ⟨j, hj⟩ := List.getElem?_of_mem hq
  rw [zip_at] at hj
  cases el : ls[j]? with
  | none => rw [el] at hj; cases hj
  | some l' =>
    rw [el] at hj
    cases hj
    have hjl := (List.getElem?_eq_some_iff.mp el).1
    have hpl : i < ps.length := by rw [d.len]; exact hjl
    have ep : ps[i]? = some ps[i] := List.getElem?_eq_getElem hpl
    obtain ⟨m1, m2⟩ := d.own i _ l ep el
    have hp : ps[i] ∈ ps := List.getElem_mem hpl
    generalize ps[i] = p at m1 m2 hp
    rw [List.all_map, List.all_eq_true] at hall
    have h1 : p.1 ∈ hs ++ [x] := of_decide_eq_true (hall _ m1)
    have h2 : p.2 ∈ hs ++ [x] := of_decide_eq_true (hall _ m2)
    by_cases h : p.1 ∈ hs ∨ p.2 ∈ hs
    · exact (g p hp h).elim (dj _ h1) (dj _ h2)
    · have e1 : p.1 = x := by
        rcases List.mem_append.mp h1 with z | z
        · exact absurd (.inl z) h
        · exact List.mem_singleton.mp z
      have e2 : p.2 = x := by
        rcases List.mem_append.mp h2 with z | z
        · exact absurd (.inr z) h
        · exact List.mem_singleton.mp z
      exact due_ne d hp (e1.trans e2.symm)
theorem guard_reply {P : Int} {ls : List (List Int)} {ps : List (Int × Int)} {hs ms : List Int} {x r : Int} (d : DueP ls ps) (ok : ∀ l ∈ ls, ∀ x ∈ l, 0 ≤ x ∧ x < P) (g : Guard ps hs ms) (hr : replyM P (hs ++ [x]) ms (.pairs ps) = some r) : Guard ps (hs ++ [x]) (ms ++ [r]) := by
  intro p hp h
  by_cases h0 : p.1 ∈ hs ∨ p.2 ∈ hs
  · exact (g p hp h0).elim (fun z => .inl (List.mem_append_left _ z)) fun z => .inr (List.mem_append_left _ z)
  · have hx : x = p.1 ∨ x = p.2 := by
      rcases h with z | z
      · rcases List.mem_append.mp z with y | y
        · exact absurd (.inl y) h0
        · exact .inl (List.mem_singleton.mp y).symm
      · rcases List.mem_append.mp z with y | y
        · exact absurd (.inr y) h0
        · exact .inr (List.mem_singleton.mp y).symm
    have ne := due_ne d hp
    obtain ⟨l, hl, m1, m2⟩ := due_line d hp
    have o1 := oth_at d.nd hp hx
    rw [← otherM_at (hs := hs)] at o1
    have hin : ∀ o, (o = p.1 ∧ x = p.2 ∨ o = p.2 ∧ x = p.1) → o ∈ ms ++ [r] := by
      intro o ho
      have eo : p.1 + p.2 - x = o := by rcases ho with ⟨a, b⟩ | ⟨a, b⟩ <;> omega
      rw [eo] at o1
      by_cases f : Free P (hs ++ [x]) ms o
      · have := reply_in o1 f
        rw [hr] at this
        cases this
        simp
      · have hol : o ∈ l := by rcases ho with ⟨a, b⟩ | ⟨a, b⟩ <;> rw [a] <;> assumption
        obtain ⟨r0, r1⟩ := ok l hl o hol
        have : o ∈ ms := Classical.byContradiction fun nm => f ⟨r0, r1, fun z => by
          rcases List.mem_append.mp z with y | y
          · rcases ho with ⟨a, b⟩ | ⟨a, b⟩
            · exact h0 (.inl (a ▸ y))
            · exact h0 (.inr (a ▸ y))
          · have := List.mem_singleton.mp y
            rcases ho with ⟨a, b⟩ | ⟨a, b⟩ <;> exact ne (by omega), nm⟩
        exact List.mem_append_left _ this
    rcases hx with e | e
    · exact .inr (hin p.2 (.inr ⟨rfl, e⟩))
    · exact .inl (hin p.1 (.inl ⟨rfl, e⟩))
def sp_law_reply (c : Cn) : Sp := fun vs H Q _ => ∃ (Hs : Hp) (P : Int) (ls : List (List Int)) (hs ms : List Int), Play Hs H vs P ls hs ms ∧ RetP Hs H (fun v _ => ∃ a, Told ls a ∧ Due ls a ∧ v = oI (replyM P hs ms a)) Q
def sp_law_replies_right (c : Cn) : Sp := fun vs H Q _ => ∃ (Hs : Hp) (u v : V) (ns : List Int) (P : Int) (ls : List (List Int)), Ex Hs H ∧ vs = [u, .int P, v] ∧ cS c.K ns Hs u ∧ Bits ns ∧ cL (cL cI) ls Hs v ∧ (1 ≤ P ∧ P ≤ 60) ∧ OkLines P ls ∧ RetV (.bl true) H Q
def t_law_reply (c : Cn) : TS := (tSeq (tAsg (tLc (iRng1 (tCons (tVar 0) tNil)) (gName 5) (tAnd (tTest (tOp (rIn c.K true) (tVar 5) (tVar 2))) (tTest (tOp (rIn c.K true) (tVar 5) (tVar 3)))) (tVar 5) [5]) (gName 4)) (tSeq (tAsg (tCall (sp_told c) [] C8.E0 (tCons (tVar 0) (tCons (tVar 1) tNil))) (gName 6)) (tSeq (tIfS (tAnd (tB (tCB (rIsi c.K) (tCons (tVar 6) (tCons (tC (.ref c.pairs)) tNil)))) (tTest (tOp (rNeA c.K) (tVar 2) (tLst tNil)))) (tFor (iList c.K (tFld c.K (tVar 6) "pairs")) (gName 7) (tIfS (tTest (tOp (rIn c.K false) (tOp (rIx c.K) (tVar 2) (tUn rNegU (tC (.int 1)))) (tVar 7))) (tSeq (tAsg (tOp rSubI (tOp rAddI (tOp (rIx c.K) (tVar 7) (tC (.int 0))) (tOp (rIx c.K) (tVar 7) (tC (.int 1)))) (tOp (rIx c.K) (tVar 2) (tUn rNegU (tC (.int 1))))) (gName 8)) (tIfS (tTest (tOp (rIn c.K false) (tVar 8) (tVar 4))) (tRet (tVar 8)) tNext)) tNext)) tNext) (tRet (tIf (tTest (tOp (rNeA c.K) (tVar 4) (tLst tNil))) (tOp (rIx c.K) (tVar 4) (tC (.int 0))) (tC .non))))))
def t_law_replies_right (c : Cn) : TS := (tSeq (tAsg (tCB (rIsi c.K) (tCons (tCall (sp_told c) [] C8.E0 (tCons (tVar 1) (tCons (tVar 2) tNil))) (tCons (tC (.ref c.pairs)) tNil))) (gName 3)) (tSeq (tAsg (tIf (tTest (tOp (rNeA c.K) (tVar 0) (tLst tNil))) (tSl (rSlL c.K) (tVar 0) tNoPart (tPart (tC (.int 63)))) (tLst (tCons (tC (.int 5)) tNil))) (gName 4)) (tSeq (tAsg (tTup (tCons (tLst tNil) (tCons (tLst tNil) tNil))) (gTup c.K 2 (gCons (gName 5) (gCons (gName 6) gNil)))) (tSeq (tWhile (tTest (tOp rLtI (tOp rAddI (tCB (rLenA c.K) (tCons (tVar 5) tNil)) (tCB (rLenA c.K) (tCons (tVar 6) tNil))) (tVar 1))) (tSeq (tAsg (tLc (iRng1 (tCons (tVar 1) tNil)) (gName 8) (tAnd (tTest (tOp (rIn c.K true) (tVar 8) (tVar 5))) (tTest (tOp (rIn c.K true) (tVar 8) (tVar 6)))) (tVar 8) [8]) (gName 7)) (tSeq (tAsg (tCall (sp_law_number c) [] C8.E0 (tCons (tOp (rIx c.K) (tVar 4) (tOp rModI (tCB (rLenA c.K) (tCons (tVar 5) tNil)) (tCB (rLenA c.K) (tCons (tVar 4) tNil)))) (tCons (tOp rAddI (tCB (rLenA c.K) (tCons (tVar 5) tNil)) (tC (.int 60))) (tCons (tVar 1) tNil)))) (gName 9)) (tSeq (tAsg (tOp (rIx c.K) (tVar 7) (tOp rModI (tOp rDivI (tVar 9) (tC (.int 3))) (tCB (rLenA c.K) (tCons (tVar 7) tNil)))) (gName 8)) (tSeq (tAsg (tLc (iList c.K (tVar 2)) (gName 11) (tNot (tB (tCB (rAny c.K) (tCons (tLc (iList c.K (tVar 11)) (gName 12) tYes (tOp (rIn c.K false) (tVar 12) (tVar 6)) [12]) tNil)))) (tVar 11) [11]) (gName 10)) (tSeq (tIfS (tAnd (tTest (tOp (rEqA c.K) (tOp rModI (tVar 9) (tC (.int 2))) (tC (.int 1)))) (tTest (tOp (rNeA c.K) (tVar 10) (tLst tNil)))) (tAsg (tOp (rIx c.K) (tOp (rCatL c.K) (tLc (iList c.K (tOp (rIx c.K) (tVar 10) (tOp rModI (tOp rDivI (tVar 9) (tC (.int 7))) (tCB (rLenA c.K) (tCons (tVar 10) tNil))))) (gName 12) (tTest (tOp (rIn c.K false) (tVar 12) (tVar 7))) (tVar 12) [12]) (tLst (tCons (tVar 8) tNil))) (tC (.int 0))) (gName 8)) tNext) (tSeq (tDrop (tBM c.K "list" rAppend (tVar 5) (tCons (tVar 8) tNil))) (tSeq (tIfS (tAnd (tB (tVar 3)) (tTest (tOp (rNeA c.K) (tCall (sp_law_full c) [] C8.E0 (tCons (tVar 2) (tCons (tVar 5) tNil))) (tLst tNil)))) (tRet (tC (.bl false))) tNext) (tSeq (tAsg (tLst (tCons (tCB (rListA c.K) (tCons (tVar 5) tNil)) (tCons (tCB (rListA c.K) (tCons (tVar 6) tNil)) tNil))) (gName 13)) (tSeq (tAsg (tCall (sp_reply c) [] C8.E0 (tCons (tVar 1) (tCons (tVar 2) (tCons (tVar 5) (tCons (tVar 6) tNil))))) (gName 14)) (tSeq (tIfS (tOr (tTest (tOp (rNeA c.K) (tLst (tCons (tVar 5) (tCons (tVar 6) tNil))) (tVar 13))) (tB (tCB (rIsi c.K) (tCons (tVar 14) (tCons (tC (.ty "bool")) tNil))))) (tRet (tC (.bl false))) tNext) (tSeq (tIfS (tTest (tOp (rNeA c.K) (tVar 14) (tCall (sp_law_reply c) [] C8.E0 (tCons (tVar 1) (tCons (tVar 2) (tCons (tVar 5) (tCons (tVar 6) tNil))))))) (tRet (tC (.bl false))) tNext) (tSeq (tIfS (tTest (tOp (rEqA c.K) (tCB (rLenA c.K) (tCons (tVar 7) tNil)) (tC (.int 1)))) (tRet (tOp rIsN (tVar 14) (tC .non))) tNext) (tDrop (tBM c.K "list" rAppend (tVar 6) (tCons (tVar 14) tNil)))))))))))))))) (tRet (tC (.bl true)))))))
section
variable {c : Cn} {vs : List V} {H : Hp} {Q : VK} {E : XK} {σ : L2.St} {Hs : Hp} {ta tb tc td te : TE} {K : PySem.W.Frag}
theorem ev_inQ {i : Int} {l : List Int} (ha : Ev ta σ Hs (.int i)) (hb : EvC tb σ Hs (cQ cI) l) : Ev (tOp (rIn K false) ta tb) σ Hs (.bl (decide (i ∈ l))) := fun H e Q q =>
  ha H e _ fun H2 e2 => hb H2 (e.trans e2) _ fun v H3 Hs3 g p => by
    obtain ⟨a, xs, rfl, h2, h3⟩ := p
    rw [paired_ints h3] at h2
    refine ⟨a, _, rfl, .inr (sqt_ex g.i h2), rfl, flat_ints l, ?_⟩
    show Q (.bl (inV (.int i) (l.map V.int))) H3
    rw [inV_ints]
    exact q H3 (e2.trans g.b)
theorem ev_inN {i : Int} {l : List Nat} (ha : Ev ta σ Hs (.int i)) (hb : EvC tb σ Hs (cL cN) l) : Ev (tOp (rIn K false) ta tb) σ Hs (.bl (decide (i ∈ l.map fun i : Nat => (i : Int)))) := ev_in ha (EvP.imp hb fun v H _ h => cN_I h)
theorem rd_law_reply (O : Ob c) (h : sp_law_reply c vs H Q E) : t_law_reply c { nx := fun _ H' => Q .non H', rt := Q } (start ["_law_places_here", "_law_lines_here", "_law_his", "_law_mine", "_law_free", "_law_place", "_law_found", "_law_pair", "_law_other"] vs) H := by
  obtain ⟨Hs, P, ls, hs, ms, ⟨u, v, w_, e, rfl, h1, h2, h3, b⟩, k⟩ := h
  have hP := b.p
  have ok := b.l
  have few := ok.few
  refine q_oP (Own.start e) (EvF.toC (ef_filter (c := cN) (ei_rng (ea_cons (ev_var rfl) ea_nil) (by omega) (by omega)) (fun p : Nat => !decide ((p : Int) ∈ hs) && !decide ((p : Int) ∈ ms)) (by rw [List.length_range]; omega) fun a x Hs' ha e' ca => ?_)) fun fv Hi H1 w e1 hf => ?_
  · cases ca
    exact ⟨et_and (et_test (ev_notIn (ev_var rfl) (ec_var rfl (Mo.mo e' h2)))) fun _ => et_test (ev_notIn (ev_var rfl) (ec_var rfl (Mo.mo e' h3))), fun _ => ec_var rfl rfl⟩
  replace hf : cL cN (freeP P hs ms) Hi fv := hf
  replace h1 := Mo.mo e1 h1
  replace h2 := Mo.mo e1 h2
  replace h3 := Mo.mo e1 h3
  refine q_oP w (EvAn.toC (call_told (P := P) (ls := ls) (ev_var rfl) (ec_var rfl h1) hP ok)) fun av Hi2 H2 w e2 ha => ?_
  obtain ⟨a, ⟨told, due⟩, ha⟩ := ha
  replace h2 := Mo.mo e2 h2
  replace hf := Mo.mo e2 hf
  have k' : RetP Hs H (fun v _ => v = oI (replyM P hs ms a)) Q := fun v H2 Hs2 g p => k v H2 Hs2 g ⟨a, told, due, p⟩
  refine q_join (M := fun σ' H' => ∃ y7 y8 Hi3, σ' = [some (.int P), some u, some v, some w_, some fv, none, some av, y7, y8] ∧ Own Hs H emp Hi3 H' ∧ Ex Hi2 Hi3 ∧ ∀ o, otherM a hs = some o → ¬ Free P hs ms o) ?_ fun tail => ?_
  · rintro σ' H' ⟨y7, y8, Hi3, rfl, w, e3, hno⟩
    have hf3 := w.m (Mo.mo e3 hf)
    rw [reply_else hno] at k'
    refine s_oRet w (EvP.lift (ep_if (Hs := Hi3) (b := !decide ((freeP P hs ms) = [])) (et_test (ev_neC (c := cL cN) (a' := []) (ec_var rfl (Mo.mo e3 hf)) (EvF.toC ef_nil))) (fun hne => ?_) (fun hz => ?_)) (Ex.refl _) fun _ _ _ _ p => p) k'
    · have hne' : freeP P hs ms ≠ [] := by simpa using hne
      obtain ⟨f, r, hfr⟩ := List.exists_cons_of_ne_nil hne'
      refine EvP.imp (ep_ixL (c := cN) (n := 0) (a := f) (ec_var rfl (Mo.mo e3 hf)) ev_c (by rw [hfr]; rfl)) fun v H _ hv => ?_
      rw [hfr]
      exact hv
    · have hz' : freeP P hs ms = [] := by simpa using hz
      rw [hz']
      exact ep_ev ev_c rfl
  refine q_oWhen w (et_and (et_B (ev_isPairs O (EvC.o (ec_var rfl (w.m ha))))) fun _ => et_test (ev_neC (c := cL cI) (a' := []) (ec_var rfl (w.m h2)) (EvF.toC ef_nil))) (fun hb H3 w => ?_) (fun hb H3 w => tail _ _ ⟨none, none, Hi2, rfl, w, Ex.refl _, fun o ho => ?_⟩)
  · rw [Bool.and_eq_true] at hb
    cases a with
    | few S => exact nomatch hb.1
    | pairs ps =>
    have due' : DueP ls ps := due
    have hne : hs ≠ [] := by simpa using hb.2
    obtain ⟨hs', h0, rfl⟩ : ∃ hs' h0, hs = hs' ++ [h0] := ⟨hs.dropLast, hs.getLast hne, (List.dropLast_concat_getLast hne).symm⟩
    refine s_oFor w (ei_list (ep_fldP O (ec_var rfl ha))) mo_c' (fun pre σ' _ _ => ∃ y7 y8, σ' = [some (.int P), some u, some v, some w_, some fv, none, some av, y7, y8] ∧ ∀ p ∈ pre, h0 = p.1 ∨ h0 = p.2 → ¬ Free P (hs' ++ [h0]) ms (p.1 + p.2 - h0))
      (fun _ _ => ⟨none, none, rfl, fun _ h => nomatch h⟩) ?_ ?_
    · rintro Hb eb pre p post x σ' Ho' Hi' Hi'' H'' hsrc ⟨y7, y8, rfl, hno⟩ ei w' e' ca
      have em := (eb.trans ei).trans e'
      have kh := w'.m (Mo.mo em h2)
      have kf := w'.m (Mo.mo em hf)
      have kp := w'.m ca
      have hp : p ∈ ps := by rw [hsrc]; simp
      have hlast : ∀ {σ : L2.St}, σ[2]? = some (some v) → Ev (tOp (rIx c.K) (tVar 2) (tUn rNegU (tC (.int 1)))) σ (kn Ho' Hi'') (.int h0) := fun s2 => evI_c (ep_ixLast (c := cI) (ec_var s2 kh) (ev_neg ev_c))
      refine s_oWhen w' (et_test (ev_inQ (hlast rfl) (ec_var rfl (pair_Q kp)))) (fun hb H5 w5 => ?_) (fun hb H5 w5 => ?_)
      · have hh : h0 = p.1 ∨ h0 = p.2 := by simpa using hb
        refine q_oV w5 (ev_sub (ev_add (evI_c (ep_fst (c := cI) (d := cI) (ec_var rfl kp) ev_c)) (evI_c (ep_snd (c := cI) (d := cI) (ec_var rfl kp) ev_c))) (hlast rfl)) fun H6 w6 => ?_
        refine s_oWhen w6 (et_test (ev_inN (ev_var rfl) (ec_var rfl kf))) (fun hb H7 w7 => ?_) (fun hb H7 w7 => ?_)
        · have f : Free P (hs' ++ [h0]) ms (p.1 + p.2 - h0) := free_mem.mp (of_decide_eq_true hb)
          refine s_oRet w7 (ep_ev (ev_var rfl) ?_) k'
          rw [reply_in (by rw [otherM_at]; exact oth_at due'.nd hp hh) f]
          rfl
        · have nf : ¬ Free P (hs' ++ [h0]) ms (p.1 + p.2 - h0) := fun z => of_decide_eq_false hb (free_mem.mpr z)
          refine ⟨Ho', Hi'', ⟨_, _, rfl, fun q hq hh' => ?_⟩, ei.trans e', w7⟩
          rcases List.mem_append.mp hq with z | z
          · exact hno q z hh'
          · rw [List.mem_singleton.mp z]
            exact nf
      · have nh : ¬ (h0 = p.1 ∨ h0 = p.2) := fun z => of_decide_eq_false hb (by simpa using z)
        refine ⟨Ho', Hi'', ⟨_, _, rfl, fun q hq hh' => ?_⟩, ei.trans e', w5⟩
        rcases List.mem_append.mp hq with z | z
        · exact hno q z hh'
        · rw [List.mem_singleton.mp z] at hh'
          exact absurd hh' nh
    · rintro σ' Ho' Hi' H' ⟨y7, y8, rfl, hno⟩ ei w'
      refine tail _ _ ⟨y7, y8, Hi', rfl, ?_, ei, fun o ho => ?_⟩
      · exact ⟨w'.g, fun _ _ h => nomatch h⟩
      · rw [otherM_at] at ho
        obtain ⟨p, hp, hh, rfl⟩ := oth_of ho
        exact hno p hp hh
  · cases a with
    | few S => cases ho
    | pairs ps =>
      have : hs = [] := by simpa [isPA] using hb
      rw [this] at ho
      cases ho
theorem call_law_reply {targ : TA} {P : Int} {ls : List (List Int)} {hs ms : List Int} {a : Ans} (h : EvPlay targ σ Hs P ls hs ms) (t : Told ls a) : Ev (tCall (sp_law_reply c) [] C8.E0 targ) σ Hs (oI (replyM P hs ms a)) :=
  ev_ep (EvP.imp (ep_call (P' := fun v _ => ∃ a, Told ls a ∧ Due ls a ∧ v = oI (replyM P hs ms a)) h fun _ H1 _ p H2 e2 _ k => ⟨H1, P, ls, hs, ms, p H2 e2, k⟩) fun v H _ ⟨b, tb, _, hv⟩ => by rw [hv, TR.det tb t])
theorem call_replyV {targ : TA} {P : Int} {ls : List (List Int)} {hs ms : List Int} {a : Ans} (h : EvPlay targ σ Hs P ls hs ms) (t : Told ls a) : Ev (tCall (sp_reply c) [] C8.E0 targ) σ Hs (oI (replyM P hs ms a)) :=
  ev_ep (EvP.imp (call_reply h) fun v H _ r => RepM.at r t)
theorem scal_oI : ∀ o : Option Int, scal (oI o) (oI o) = true
  | none => rfl
  | some _ => rfl
theorem oI_cW {H : Hp} : ∀ o : Option Int, ∃ d : Wd, cW d H (oI o) ∧ isTy "bool" d = false
  | none => ⟨.non, .non, by with_unfolding_all rfl⟩
  | some p => ⟨.int p, .int _, by with_unfolding_all rfl⟩
end
end LH

namespace LH
open PySem L2 Evl PyProof.Rows
open Builtin.Int (intBits)
section
variable {c : Cn} {vs : List V} {H : Hp} {Q : VK} {E : XK} {σ : L2.St} {Hs Hs0 H0 Ho Hi : Hp} {ta tb tc td te : TE} {K : PySem.W.Frag} {D : Ends} {tz : TS} {i j : Nat}
theorem ep_isPairs (O : Ob c) {p : Ans → Prop} (h : EvP ta σ Hs fun v H => ∃ a, p a ∧ cA c a H v) : EvP (tCB (rIsi c.K) (tCons ta (tCons (tC (.ref c.pairs)) tNil))) σ Hs fun v _ => ∃ a, p a ∧ v = .bl (isPA a) := fun H e Q q => h H e _ fun v H2 Hs2 g ⟨a, pa, ca⟩ =>
  ⟨v, .ref c.pairs, _, .ref c.pairs, isPA a, rfl, .own _, ans_ty O (Mo.mo g.i (cA_o ca)), (by cases a with | pairs => exact O.pp | few => exact O.fp), q _ H2 Hs2 g ⟨a, pa, rfl⟩⟩
/-- a, b = ([], []) -/
theorem q_oTup2 (w : Own Hs0 H0 Ho Hi H) (k : ∀ p q H2, Own Hs0 H0 (upd (upd Ho p (.lst [])) q (.lst [])) Hi H2 → p ≠ q → tz D ((σ.set i (some (.ref p))).set j (some (.ref q))) H2) :
    tSeq (tAsg (tTup (tCons (tLst tNil) (tCons (tLst tNil) tNil))) (gTup K 2 (gCons (gName i) (gCons (gName j) gNil)))) tz D σ H :=
  ⟨Nat.zero_le _, fun p hp => ⟨Nat.zero_le _, fun q hq => by
    have w1 := w.new (u := .lst []) (Grow.up w.g.i (Ex.new hp)) hp (fresh_back w.g.i hp) upd_same
    have w2 := w1.new (u := .lst []) (Grow.up w1.g.i (Ex.new hq)) hq (fresh_back w1.g.i hq) upd_same
    have pq : p ≠ q := w1.ne upd_same hq
    exact ⟨by show 2 ≤ sizeLine; decide, fun t ht => ⟨t, [.ref p, .ref q], rfl, SqT.of upd_same, rfl, .ref p, [.ref q], rfl, .ref q, [], rfl, rfl, k p q _ (w2.up (Ex.new ht)) pq⟩⟩⟩⟩
/-- a new list, known, and where it is new -/
theorem q_oFk {PL : List V → Hp → Prop} (w : Own Hs0 H0 Ho Hi H) (h : EvF ta σ Hi PL) (k : ∀ p xs Hi2 H2, Own Hs0 H0 Ho (upd Hi2 p (.lst xs)) H2 → Ex Hi Hi2 → Hi2 p = none → H p = none → PL xs Hi2 → tz D (σ.set i (some (.ref p))) H2) : tSeq (tAsg ta (gName i)) tz D σ H :=
  h H w.g.i _ fun p xs H2 Hi2 g h1 h2 h3 h4 => k p xs Hi2 H2 (w.on (g.know h1 h3)) g.s h2 h1 h4
/-- one of those, or the one else -/
theorem ep_firstOf {x : Int} {F : Int → Prop} (h : EvP ta σ Hs fun v H => ∃ m, (∀ y ∈ m, F y) ∧ m.length ≤ 100 ∧ cL cI m H v) (hx : Ev tb σ Hs (.int x)) (hF : F x) (hb : Ev tc σ Hs (.int 0)) :
    EvP (tOp (rIx K) (tOp (rCatL K) ta (tLst (tCons tb tNil))) tc) σ Hs fun v _ => ∃ y, F y ∧ v = .int y := by
  refine EvP.imp (ep_ix0 (p := fun m => m ≠ [] ∧ ∀ y ∈ m, F y) (fun H e Q q => h H e _ fun u H2 Hs2 g ⟨m, hm, hz, hc⟩ => ?_) (fun m hm => hm.1) hb) fun v H _ ⟨m, y, hm, hy, hv⟩ => ⟨y, hm.2 y hy, hv⟩
  refine (ec_lst (c := cI) (l := [x]) (ecs_cons (c_evI (hx.mono g.s)) ecs_nil) (show 1 ≤ 40000 by decide)) H2 g.i _ fun v2 H3 Hs3 g3 hc3 => ?_
  have gg := g.trans g3
  obtain ⟨a, xs, rfl, a1, a2⟩ := Mo.mo g3.s hc
  obtain ⟨b, ys, rfl, b1, b2⟩ := hc3
  refine ⟨a, b, xs, ys, rfl, rfl, g3.i _ _ a1, g3.i _ _ b1, ?_, fun r hr => ?_⟩
  · rw [← a2.length, ← b2.length]
    exact Nat.le_of_lt (size_lt (by rw [List.length_singleton]; omega))
  · have g4 := gg.trans (Grow.new (o := .lst (xs ++ ys)) gg.i hr)
    refine q (.ref r) _ _ g4 ⟨m ++ [x], ⟨by simp, fun y hy => ?_⟩, r, xs ++ ys, rfl, upd_same, paired_mo (c := cI) (Ex.new (fresh_back gg.i hr)) (Paired.app a2 b2)⟩
    rcases List.mem_append.mp hy with z | z
    · exact hm y z
    · rw [List.mem_singleton.mp z]
      exact hF
theorem rd_law_replies_right (O : Ob c) (h : sp_law_replies_right c vs H Q E) : t_law_replies_right c { nx := fun _ H' => Q .non H', rt := Q } (start ["_law_script", "_law_places_here", "_law_lines_here", "_law_paired", "_law_cells", "_law_his", "_law_mine", "_law_free", "_law_place", "_law_number_here", "_law_near", "_law_line", "_law_one", "_law_kept", "_law_answer"] vs) H := by
  obtain ⟨Hs, u, v, ns, P, ls, e, rfl, hu, hb, hv, hP, ok, k⟩ := h
  have few := ok.few
  have hz : ls.length ≤ 60 ∧ ∀ l ∈ ls, l.length ≤ 60 := ⟨ok.few, fun l hl => (ok.ok l hl).few⟩
  refine q_oP (Own.start e) (ep_isPairs O (EvAn.toC (call_told (P := P) (ls := ls) (ev_var rfl) (ec_var rfl hv) hP ok))) fun pv Hi1 H1 w e1 hp => ?_
  obtain ⟨a, ⟨told, due⟩, rfl⟩ := hp
  refine q_oP w (ep_cells (n := 5) (ec_var rfl (Mo.mo e1 hu)) hb (by decide)) fun cv Hi2 H2 w e2 hc => ?_
  obtain ⟨cs, hc, bcs, ncs⟩ := hc
  have hv2 := Mo.mo (e1.trans e2) hv
  refine q_oTup2 w fun p q H3 w pq => ?_
  have hc0 : 0 < cs.length := List.length_pos_iff.mpr ncs
  refine q_while (fun m σ' H' => ∃ hs ms y7 y8 y9 y10 y11 y12 y13 y14 Ho Hi, σ' = [some u, some (.int P), some v, some (.bl (isPA a)), some cv, some (.ref p), some (.ref q), y7, y8, y9, y10, y11, y12, y13, y14] ∧ Own Hs H Ho Hi H' ∧ Ex Hi2 Hi ∧
      Ho p = some (.lst (hs.map V.int)) ∧ Ho q = some (.lst (ms.map V.int)) ∧ Board P ls hs ms ∧ (m : Int) = P - hs.length - ms.length ∧ ∀ ps, a = .pairs ps → Guard ps hs ms)
    P.toNat ⟨[], [], none, none, none, none, none, none, none, none, _, Hi2, rfl, w, Ex.refl _, by rw [upd_ne pq]; exact upd_same, upd_same, ⟨hP, ok, OkTake.none P⟩, by rw [List.length_nil]; omega, fun ps _ p _ h => h.elim (fun z => nomatch z) fun z => nomatch z⟩ ?_
  rintro m σ' H' ⟨hs, ms, y7, y8, y9, y10, y11, y12, y13, y14, Ho, Hi, rfl, w, ei, hp, hq, b, hm, guard⟩
  have hfew := b.t.few
  have kv := w.m (Mo.mo ei hv2)
  have kc := w.m (Mo.mo ei hc)
  have kp : cL cI hs (kn Ho Hi) (.ref p) := ints_cL (kn_at hp)
  have kq : cL cI ms (kn Ho Hi) (.ref q) := ints_cL (kn_at hq)
  refine ⟨decide ((hs.length : Int) + ms.length < P), ?_, fun hb2 H1 e1 => ?_, fun hb2 H1 e1 => ?_⟩
  · intro H1 e1 Q1 k1
    have w1 := w.up e1
    exact (et_test (ev_lt (ev_add (ev_lenC (c := cI) (ec_var rfl kp)) (ev_lenC (c := cI) (ec_var rfl kq))) (ev_var rfl))) H1 w1.ek Q1 k1
  · have hlt : (hs.length : Int) + ms.length < P := of_decide_eq_true hb2
    replace w := w.up e1
    refine ⟨fun σ2 H2 => ∃ m', m' < m ∧ ∃ hs ms y7 y8 y9 y10 y11 y12 y13 y14 Ho Hi, σ2 = [some u, some (.int P), some v, some (.bl (isPA a)), some cv, some (.ref p), some (.ref q), y7, y8, y9, y10, y11, y12, y13, y14] ∧ Own Hs H Ho Hi H2 ∧ Ex Hi2 Hi ∧
      Ho p = some (.lst (hs.map V.int)) ∧ Ho q = some (.lst (ms.map V.int)) ∧ Board P ls hs ms ∧ (m' : Int) = P - hs.length - ms.length ∧ ∀ ps, a = .pairs ps → Guard ps hs ms, fun _ _ h => h, ?_⟩
    -- all that is known, looked at
    have w1 := Own.start w.ek
    refine q_oFk w1 (ef_filter (c := cN) (ei_rng (ea_cons (ev_var rfl) ea_nil) (by omega) (by omega)) (fun p : Nat => !decide ((p : Int) ∈ hs) && !decide ((p : Int) ∈ ms)) (by rw [List.length_range]; omega) fun a x Hs' ha e' ca => ?_) fun fa fx Hi4 H4 w4 g4s f2 f1 f4 => ?_
    · cases ca
      exact ⟨et_and (et_test (ev_notIn (ev_var rfl) (ec_var rfl (Mo.mo e' kp)))) fun _ => et_test (ev_notIn (ev_var rfl) (ec_var rfl (Mo.mo e' kq))), fun _ => ec_var rfl rfl⟩
    have ex4 : Ex (kn Ho Hi) (upd Hi4 fa (.lst fx)) := g4s.trans (Ex.new f2)
    have hf : cL cN (freeP P hs ms) (upd Hi4 fa (.lst fx)) (.ref fa) := ⟨fa, fx, rfl, upd_same, paired_mo (c := cN) (Ex.new f2) f4⟩
    have fo : Ho fa = none := by
      cases eo : Ho fa with
      | none => rfl
      | some uo => exact absurd rfl (w.ne eo f1)
    generalize upd Hi4 fa (.lst fx) = Hk at w4 ex4 hf
    clear w1 f1 f2 f4 g4s
    replace kv := Mo.mo ex4 kv
    replace kc := Mo.mo ex4 kc
    replace kp := Mo.mo ex4 kp
    replace kq := Mo.mo ex4 kq
    have hfl := free_left (P := P) (hs := hs) (ms := ms) (by omega)
    have hf0 : 0 < (freeP P hs ms).length := List.length_pos_iff.mpr hfl
    have hjm : hs.length % cs.length < cs.length := Nat.mod_lt _ hc0
    have hget : cs[hs.length % cs.length]? = some cs[hs.length % cs.length] := List.getElem?_eq_getElem hjm
    have hbit := bcs _ (List.getElem_mem hjm)
    generalize cs[hs.length % cs.length] = x0 at hget hbit
    have kcw := w4.m kc
    have kpw := w4.m kp
    refine q_oV w4 (v := .int (lawNumber x0 ((hs.length : Int) + 60) P)) (call_number (evI_c (ep_ixL (c := cI) (n := hs.length % cs.length) (ec_var rfl kcw) (ev_to (ev_mod (ev_lenC (c := cI) (ec_var rfl kpw)) (ev_lenC (c := cI) (ec_var rfl kcw)) (by omega)) (by rw [Int.natCast_emod])) hget)) (ev_add (ev_lenC (c := cI) (ec_var rfl kpw)) ev_c) (ev_var rfl) ⟨hbit, by omega, by omega⟩) fun H5 w5 => ?_
    generalize lawNumber x0 ((hs.length : Int) + 60) P = N
    have d3 : ∀ x : Int, CDivW x 3 := divW (by decide) (by decide)
    have d7 : ∀ x : Int, CDivW x 7 := divW (by decide) (by decide)
    have hm3 := mod_in (N / 3) (P := ((freeP P hs ms).length : Int)) (by omega)
    obtain ⟨n, hn⟩ : ∃ n : Nat, N / 3 % ((freeP P hs ms).length : Int) = (n : Int) := ⟨(N / 3 % ((freeP P hs ms).length : Int)).toNat, by omega⟩
    have hnl : n < (freeP P hs ms).length := by omega
    have hgetf : (freeP P hs ms)[n]? = some (freeP P hs ms)[n] := List.getElem?_eq_getElem hnl
    have hfree := free_of (List.getElem_mem hnl)
    generalize (freeP P hs ms)[n] = r at hgetf hfree
    have kfw := w5.m hf
    refine q_oV w5 (v := .int (r : Int)) (ev_ep (ep_ixL (c := cN) (n := n) (ec_var rfl kfw) (ev_to (ev_mod (ev_div (ev_var rfl) ev_c (d3 _)) (ev_lenC (c := cN) (ec_var rfl kfw)) (by omega)) (by rw [hn])) hgetf)) fun H6 w6 => ?_
    refine q_oP w6 (EvF.toC (ef_filter (c := cL cI) (ei_list (ec_var rfl kv)) (fun l => !(l.map fun x => decide (x ∈ ms)).any id) (by omega) fun l x Hs' hl e' ca => ⟨et_not (et_B (ev_any (EvF.toC (ef_mapN (d := cB) (ei_list (ec_var rfl ca)) (fun x => decide (x ∈ ms)) (by have := hz.2 l hl; omega) fun y x2 Hs2 hy e2 cy => ?_)))), fun _ => ec_var rfl ca⟩)) fun nv Hk2 H7 w7 e7 hnear => ?_
    · cases cy
      exact c_evB (ev_in (ev_var rfl) (ec_var rfl (Mo.mo (e'.trans e2) kq)))
    have hnl2 : ∀ l ∈ ls.filter (fun l => !(l.map fun x => decide (x ∈ ms)).any id), l.length ≤ 60 := fun l hl => hz.2 l (List.mem_filter.mp hl).1
    generalize ls.filter (fun l => !(l.map fun x => decide (x ∈ ms)).any id) = near at hnear hnl2
    replace kv := Mo.mo e7 kv
    replace kp := Mo.mo e7 kp
    replace kq := Mo.mo e7 kq
    replace hf := Mo.mo e7 hf
    refine q_join (M := fun σ' H' => ∃ x y12 Hk3, σ' = [some u, some (.int P), some v, some (.bl (isPA a)), some cv, some (.ref p), some (.ref q), some (.ref fa), some (.int x), some (.int N), some nv, y11, y12, y13, y14] ∧ Own (kn Ho Hi) H1 emp Hk3 H' ∧ Ex Hk2 Hk3 ∧ Free P hs ms x) ?_ fun tail => ?_
    rotate_left
    · refine q_oWhen w7 (et_and (et_test (ev_eqI (ev_mod (ev_var rfl) ev_c (by decide)) ev_c)) fun _ => et_test (ev_neC (c := cL (cL cI)) (a' := []) (ec_var rfl (w7.m hnear)) (EvF.toC ef_nil))) (fun hb H8 w8 => ?_) (fun _ H8 w8 => tail _ _ ⟨(r : Int), y12, Hk2, rfl, w8, Ex.refl _, hfree⟩)
      rw [Bool.and_eq_true] at hb
      have hne : near ≠ [] := by simpa using hb.2
      have hn0 : 0 < near.length := List.length_pos_iff.mpr hne
      have hm7 := mod_in (N / 7) (P := (near.length : Int)) (by omega)
      obtain ⟨n7, hn7⟩ : ∃ n : Nat, N / 7 % (near.length : Int) = (n : Int) := ⟨(N / 7 % (near.length : Int)).toNat, by omega⟩
      have hnl7 : n7 < near.length := by omega
      have hget7 : near[n7]? = some near[n7] := List.getElem?_eq_getElem hnl7
      have hl7 := hnl2 _ (List.getElem_mem hnl7)
      generalize near[n7] = l7 at hget7 hl7
      refine s_oP w8 (ep_firstOf (x := (r : Int)) (F := Free P hs ms) (EvP.imp (EvF.toC (ef_filter (c := cI) (src := l7) (ei_list (ep_ixL (c := cL cI) (n := n7) (a := l7) (ec_var rfl hnear) (ev_to (ev_mod (ev_div (ev_var rfl) ev_c (d7 _)) (ev_lenC (c := cL cI) (ec_var rfl hnear)) (by omega)) (by rw [hn7])) hget7)) (fun x => decide (x ∈ (freeP P hs ms).map fun i : Nat => (i : Int))) (by omega) fun y x Hs' hy e' cy => ?_)) fun v H _ hv => ⟨_, fun y hy => free_mem.mp (of_decide_eq_true (List.mem_filter.mp hy).2), Nat.le_trans (List.length_filter_le _ _) (by omega), hv⟩) (ev_var rfl) hfree ev_c) fun xv Hk3 H9 w9 e9 hx => ?_
      · cases cy
        exact ⟨et_test (ev_inN (ev_var rfl) (ec_var rfl (Mo.mo e' hf))), fun _ => ec_var rfl rfl⟩
      · obtain ⟨x, fx, rfl⟩ := hx
        exact tail _ _ ⟨x, y12, Hk3, rfl, w9, e9, fx⟩
    rintro σ' H8 ⟨x, z12, Hk3, rfl, w8, e8, frx⟩
    -- his list is the law's own again
    have ex8 : Ex (kn Ho Hi) Hk3 := w8.g.s
    have wb := w.back w8.g
    have eb := w.im w8.g
    have hfb : cL cN (freeP P hs ms) (mns Hk3 Ho) (.ref fa) := by
      obtain ⟨a', xs, ea, a1, a2⟩ := Mo.mo e8 hf
      cases ea
      exact ⟨fa, xs, rfl, by rw [mns_at fo]; exact a1, Paired.mono (fun _ _ h => h) a2⟩
    clear w8 w7 w6 w5 w4
    generalize mns Hk3 Ho = Hm at wb eb hfb
    have kv9 := Mo.mo (ei.trans eb) hv2
    refine q_oApp wb hp (ev_var rfl) (P := fun v _ => v = .int x) (ep_ev (ev_var rfl) rfl) (by rw [List.length_map]; omega) fun xv Hi9 H9 w9 e9 hxv => ?_
    subst hxv
    have b2 : Board P ls (hs ++ [x]) ms := ⟨b.p, b.l, b.t.his frx hlt hP.2⟩
    have hp2 : upd Ho p (.lst (hs.map V.int ++ [.int x])) p = some (.lst ((hs ++ [x]).map V.int)) := by rw [upd_same, List.map_append]; rfl
    have hq2 : upd Ho p (.lst (hs.map V.int ++ [.int x])) q = some (.lst (ms.map V.int)) := by rw [upd_ne pq.symm]; exact hq
    generalize upd Ho p (.lst (hs.map V.int ++ [.int x])) = Ho2 at w9 hp2 hq2
    replace kv9 := w9.m (Mo.mo e9 kv9)
    replace hfb := Mo.mo e9 hfb
    have kp9 : cL cI (hs ++ [x]) (kn Ho2 Hi9) (.ref p) := ints_cL (kn_at hp2)
    have kq9 : cL cI ms (kn Ho2 Hi9) (.ref q) := ints_cL (kn_at hq2)
    have kf9 := w9.m hfb
    have ei9 : Ex Hi2 Hi9 := (ei.trans eb).trans e9
    have wk := Own.start w9.ek
    have e99 : Ex (kn Ho2 Hi9) (kn emp (kn Ho2 Hi9)) := wk.ik
    refine q_oNo wk (EvT_to (a := isPA a && false) (et_and (et_B (ev_var rfl)) fun hpa => EvT_to (et_test (ev_neC (c := cL cN) (a' := []) (EvF.toC (call_fullL (ec_var rfl (wk.m kv9)) (ec_var rfl (wk.m kp9)) hz)) (EvF.toC ef_nil))) ?_) (Bool.and_false _)) fun H10 wk => ?_
    · cases a with
      | few S => exact nomatch hpa
      | pairs ps => rw [guard_none (show DueP ls ps from due) (guard ps rfl) b2.t]; rfl
    refine q_oP wk (ep_lst2 (c := cL cI) (d := cL cI) (a := hs ++ [x]) (b := ms) (EvF.toC (ef_list (c := cI) (ec_var rfl kp9))) (EvF.toC (ef_list (c := cI) (ec_var rfl kq9)))) fun kpt Hk4 H11 wk e11 hkept => ?_
    replace kv9 := Mo.mo e11 kv9
    replace kp9 := Mo.mo e11 kp9
    replace kq9 := Mo.mo e11 kq9
    replace kf9 := Mo.mo e11 kf9
    refine q_oV wk (call_replyV (a := a) (as_play (ev_var rfl) (ec_var rfl (wk.m kv9)) (ec_var rfl (wk.m kp9)) (ec_var rfl (wk.m kq9)) b2) told) fun H12 wk => ?_
    obtain ⟨wd, hwd, hwb⟩ := oI_cW (H := kn emp Hk4) (replyM P (hs ++ [x]) ms a)
    refine q_oNo wk (EvT_to (et_or (et_test (ev_neC (c := cL2 (cL cI) (cL cI)) (a' := (hs ++ [x], ms)) (ep_lst2 (ec_var rfl (wk.m kp9)) (ec_var rfl (wk.m kq9))) (ec_var rfl (wk.m hkept)))) fun _ => et_B (ev_isi ty_bool (ec_var rfl hwd))) (by rw [hwb]; simp)) fun H13 wk => ?_
    refine q_oNo wk (EvT_to (et_test (ev_neS (y := oI (replyM P (hs ++ [x]) ms a)) (ev_var rfl) (call_law_reply (a := a) (as_play (ev_var rfl) (ec_var rfl (wk.m kv9)) (ec_var rfl (wk.m kp9)) (ec_var rfl (wk.m kq9)) b2) told) (scal_oI _))) (by simp)) fun H14 wk => ?_
    have hsize : (freeP P (hs ++ [x]) ms).length + 1 = (freeP P hs ms).length := by
      have hx' : x.toNat ∈ freeP P hs ms := of_free (by rw [Int.toNat_of_nonneg frx.h0]; exact frx)
      have e1 : freeP P (hs ++ [x]) ms = (freeP P hs ms).filter fun i => !decide (i = x.toNat) := by
        unfold freeP
        rw [List.filter_filter]
        refine List.filter_congr fun i hi => ?_
        rw [show decide ((i : Int) ∈ hs ++ [x]) = (decide ((i : Int) ∈ hs) || decide (i = x.toNat)) by
          rw [← Bool.decide_or]
          refine decide_eq_decide.mpr ?_
          rw [List.mem_append, List.mem_singleton]
          have h0 := frx.h0
          exact or_congr_right ⟨fun z => by omega, fun z => by omega⟩]
        cases decide ((i : Int) ∈ hs) <;> cases decide (i = x.toNat) <;> cases decide ((i : Int) ∈ ms) <;> rfl
      have nd : (freeP P hs ms).Nodup := by
        unfold freeP
        exact List.Pairwise.filter _ List.nodup_range
      have e2 : (freeP P hs ms).filter (fun i => !decide (i = x.toNat)) = (freeP P hs ms).erase x.toNat := by
        rw [nd.erase_eq_filter]
        refine List.filter_congr fun i _ => ?_
        by_cases z : i = x.toNat <;> simp [z]
      rw [e1, e2, List.length_erase_of_mem hx']
      omega
    refine q_oWhen wk (et_test (ev_eqI (ev_lenC (c := cN) (ec_var rfl (wk.m kf9))) ev_c)) (fun hb H15 wk => ?_) (fun hb H15 wk => ?_)
    · have h1 : (freeP P hs ms).length = 1 := by have := of_decide_eq_true hb; omega
      have h0 : freeP P (hs ++ [x]) ms = [] := List.length_eq_zero_iff.mp (by omega)
      have hr : replyM P (hs ++ [x]) ms a = none := by unfold replyM; rw [h0]
      refine s_oRetV wk (ev_to (ev_isN (ev_var rfl)) ?_) (on_v k w9.g.b)
      rw [hr]
      rfl
    · have h1 : (freeP P hs ms).length ≠ 1 := fun z => of_decide_eq_false hb (by rw [z]; rfl)
      obtain ⟨r2, hr2, fr2⟩ := reply_free (a := a) (P := P) (hs := hs ++ [x]) (ms := ms) (fun z => h1 (by rw [← hsize, z]; rfl))
      rw [hr2]
      have wb2 := w9.back wk.g
      have eb2 := w9.im wk.g
      generalize mns Hk4 Ho2 = Hm2 at wb2 eb2
      refine s_oApp wb2 hq2 (ev_var rfl) (P := fun v _ => v = .int r2) (ep_ev (ev_var rfl) rfl) (by rw [List.length_map]; omega) fun rv Hi16 H16 w16 e16 hrv => ?_
      subst hrv
      have hs1 : ((hs ++ [x]).length : Int) = hs.length + 1 := by rw [List.length_append, List.length_singleton]; rfl
      have hlt2 : ((hs ++ [x]).length : Int) + ms.length < P := by
        have fl : ((freeP P hs ms).length : Int) = P - hs.length - ms.length := by
          have s := subset_len (l := (freeP P hs ms).map (fun i : Nat => (i : Int)) ++ (hs ++ ms)) (m := (List.range P.toNat).map fun i : Nat => (i : Int)) ?_ fun y hy => ?_
          · have s2 := subset_len (m := (freeP P hs ms).map (fun i : Nat => (i : Int)) ++ (hs ++ ms)) (range_nodup P.toNat) fun y hy => ?_
            · rw [List.length_append, List.length_append, List.length_map, List.length_map, List.length_range] at s s2
              omega
            · obtain ⟨i, hi, rfl⟩ := List.mem_map.mp hy
              have hi' := List.mem_range.mp hi
              by_cases z : Free P hs ms (i : Int)
              · exact List.mem_append_left _ (free_mem.mpr z)
              · refine List.mem_append_right _ (Classical.byContradiction fun nz => z ⟨by omega, by omega, fun y => nz (List.mem_append_left _ y), fun y => nz (List.mem_append_right _ y)⟩)
          · refine List.nodup_append.mpr ⟨?_, b.t.nd, fun y h1 z h2 => ?_⟩
            · refine List.pairwise_map.mpr ?_
              unfold freeP
              exact List.Pairwise.filter _ (List.Pairwise.imp (fun h => by omega) (List.nodup_range (n := P.toNat)))
            · have f := free_mem.mp h1
              intro eyz
              rcases List.mem_append.mp h2 with h | h
              · exact f.his (eyz ▸ h)
              · exact f.mine (eyz ▸ h)
          · have : 0 ≤ y ∧ y < P := by
              rcases List.mem_append.mp hy with h | h
              · have f := free_mem.mp h
                exact ⟨f.h0, f.h1⟩
              · exact (List.mem_append.mp h).elim (b.t.h y) (b.t.m y)
            exact List.mem_map.mpr ⟨y.toNat, List.mem_range.mpr (by omega), by omega⟩
        omega
      refine ⟨m - 2, by omega, hs ++ [x], ms ++ [r2], _, _, _, _, _, _, _, _, _, Hi16, rfl, w16, (ei9.trans eb2).trans e16, by rw [upd_ne pq]; exact hp2, by rw [upd_same, List.map_append]; rfl, ⟨b.p, b.l, b2.t.mine fr2 hlt2 hP.2⟩, ?_, fun ps hps => ?_⟩
      · rw [hs1, List.length_append, List.length_singleton]
        omega
      · subst hps
        exact guard_reply (show DueP ls ps from due) ok.inr (guard ps rfl) hr2
  · exact s_oRetV (w.up e1) ev_c k
end
end LH

namespace LH
open PySem L2 Evl PyProof.Rows
/-! ### sorted over a tuple of whole numbers; a list turned round; an answer that is only known to be due -/
def rSortedQ (K : PySem.W.Frag) : List V → Hp → VK → Prop := fun vs H Q => ∃ (a : Addr) (ns : List Int), vs = [.ref a] ∧ SqT K H a (ns.map V.int) ∧ ns.length < 64 ∧
  ∀ (ms : List Int) (p : Addr), ms.Perm ns → ms.Pairwise (· ≤ ·) → H p = none → Q (.ref p) (upd H p (.lst (ms.map V.int)))
theorem cr_sortedQ {X : Cx} : CallR X (.builtin "sorted") (rSortedQ X.K) := by
  intro pins st σ H vs us Q iv rv0 hq0
  obtain ⟨t, ns, hvs, tq, few, fin⟩ := hq0
  subst hvs
  obtain ⟨u, hu, ru⟩ := vals1 rv0
  subst hu
  cases ru
  obtain ⟨items, rv, ⟨ob, hob, hcls, cap, hdat⟩, _⟩ := iv.tuple tq
  have hI : IntsAre items ns := rv.ints
  have hcount : items.length = ns.length := by
    have z := rv.length
    rw [List.length_map] at z
    exact z.symm
  refine Calls.call_function_entry PyProof.Rows.kind_sorted PyProof.Rows.plain_sorted PyProof.Rows.entry_sorted (PyProof.Rows.args_sorted1 _) ?_
  unfold Builtin.«sorted»
  refine wpAny_bind (m := checkCount "sorted" 1 1 _) (wpAny_pure ?_)
  refine wpAny_bind (wpAny_collect_seq t (.inr rfl) hob hcls hdat (fun hp kept => ?_) (by rw [List.size_toArray, hcount, sizeLine_eq]; omega))
  have e0 : items.toArray.toList = items := by simp
  rw [e0]
  have iv1 : Inv X pins σ H { st with heap := hp } := iv.kept (t' := st.toks) kept
  refine wpAny_bind (wpAny_newList ?_ (by rw [hcount, sizeLine_eq]; omega))
  have hnew : (hp.push (seqObj "list" items.toArray 0)).get? hp.objs.size = some (seqObj "list" items.toArray 0) := Heap.get?_push_size _ rfl
  show wpAny _ _ _ _ _ { st with heap := hp.push (seqObj "list" items.toArray 0) }
  refine wpAny_bind (wpAny_holding (wpAny_call_entry PyProof.Rows.slot_list_sort ⟨_, hnew, rfl⟩ PyProof.Rows.entry_list_sort
    (PyProof.Rows.list_sort_tree (s := { st with heap := hp.push (seqObj "list" items.toArray 0) }) hnew hI (by rw [hcount]; exact few) fun res ms f1 f2 f3 => ⟨_, rfl, ?_⟩) (PyProof.Rows.args_list_sort _)))
  obtain ⟨cap2, hafter⟩ := PyProof.Rows.sortedHeap_at (vs := items) (out := res) hnew
  have hsize : (ms.map V.int).length ≤ sizeLine := by
    rw [List.length_map, f2.length_eq, sizeLine_eq]
    omega
  refine wpAny_pure ⟨_, rfl, .ref hp.objs.size, upd H hp.objs.size (.lst (ms.map V.int)), iv1.laid (t' := st.toks) (fun b u hb0 => ?_) (Nat.le_refl _)
    (show ObjOk X.prog X.w _ _ _ (.lst (ms.map V.int)) from ⟨hsize, res.toList, cap2, vals_of_ints f1, by rw [Array.toArray_toList]; exact hafter⟩), rfl, fin ms _ f2 f3 (iv1.hok.fresh (Nat.le_refl _))⟩
  have hlt := Heap.lt_size hb0
  rw [PyProof.Rows.sortedHeap_old (Nat.ne_of_lt hlt) (by rw [size_push']; exact Nat.lt_succ_of_lt hlt)]
  exact Heap.get?_push_of_some _ hb0
section
variable {α : Type} {cd : Cd α} {c : Cn} {vs : List V} {H : Hp} {Q : VK} {E : XK} {σ : L2.St} {Hs : Hp} {ta tb tc td te : TE} {K : PySem.W.Frag}
theorem ef_sortedQ {l : List Int} (h : EvC ta σ Hs (cQ cI) l) (hl : l.length < 64) : EvF (tCB (rSortedQ K) (tCons ta tNil)) σ Hs fun xs _ => ∃ ys : List Int, xs = ys.map V.int ∧ ys.Perm l ∧ ys.Pairwise (· ≤ ·) := fun H e Q q => h H e _ fun v H2 Hs2 g ⟨a, xs, h1, h2, h3⟩ => by
  subst h1
  rw [paired_ints h3] at h2
  exact ⟨a, l, rfl, sqt_ex g.i h2, hl, fun ys p k1 k2 hp => q p _ _ Hs2 (g.trans (Grow.up g.i (Ex.new hp))) (fresh_back g.b hp) (fresh_back g.i hp) upd_same ⟨ys, rfl, k1, k2⟩⟩
theorem Paired.rev {α β : Type} {F : α → β → Prop} : ∀ {l : List α} {xs : List β}, Paired F l xs → Paired F l.reverse xs.reverse
  | _, _, .nil => .nil
  | _, _, .cons h t => by
    rw [List.reverse_cons, List.reverse_cons]
    exact Paired.app (Paired.rev t) (.cons h .nil)
theorem ef_revL {l : List α} (h : EvC ta σ Hs (cL cd) l) : EvFC (tRevL K ta) σ Hs cd l.reverse := fun H e Q q => h H e _ fun v H2 Hs2 g ⟨a, xs, h1, h2, h3⟩ =>
  ⟨a, xs, h1, SqL.of (g.i _ _ h2), fun p hp => q p _ _ Hs2 (g.trans (Grow.up g.i (Ex.new hp))) (fresh_back g.b hp) (fresh_back g.i hp) upd_same (Paired.rev h3)⟩
theorem any_eqv [Dt cd] [DecidableEq α] (a : α) : ∀ l : List α, ((l.map (Dt.d cd)).any fun z => PyData.eqv z (Dt.d cd a)) = l.any fun b => decide (b = a)
  | [] => rfl
  | b :: l => by rw [List.map_cons, List.any_cons, any_eqv a l, dt_dec, List.any_cons]
theorem ev_inD [Mo cd] [Dt cd] [DecidableEq α] {a : α} {l : List α} (ha : EvC ta σ Hs cd a) (hb : EvC tb σ Hs (cL cd) l) (hd : Dt.dep (cL cd) ≤ 64) : Ev (tOp (rInD K) ta tb) σ Hs (.bl (l.any fun b => decide (b = a))) := fun H e Q q => ha H e _ fun u H2 Hs2 g p =>
  (EvC.lift hb g.s) H2 g.i _ fun v H3 Hs3 g3 p3 => by
    have e3 := g3.i
    refine ⟨Dt.d cd a, l.map (Dt.d cd), Dt.dp (Mo.mo (g3.s.trans e3) p), Dt.dp (c := cL cd) (Mo.mo e3 p3), shaped_of (c := cd) ?_ a, shaped_of (c := cL cd) hd l, ?_⟩
    · have : Dt.dep cd ≤ Dt.dep (cL cd) := Nat.le_succ _
      omega
    · have := any_eqv (cd := cd) a l
      rw [this]
      exact q H3 (g.b.trans g3.b)
/-- what is first read is only known by a property -/
theorem ep_first {F : TE → TE} {P R : V → Hp → Prop} (hF : ∀ (te : TE) (σ : L2.St) (H : Hp) (Q : VK), F te σ H Q = te σ H fun v H' => F (tC v) σ H' Q) (h : EvP te σ Hs P) (k : ∀ v Hs', Ex Hs Hs' → P v Hs' → EvP (F (tC v)) σ Hs' R) : EvP (F te) σ Hs R := fun H e Q q => by
  rw [hF]
  exact h H e _ fun v H2 Hs2 g pv => k v Hs2 g.s pv H2 g.i _ fun v H3 Hs3 g3 r => q v H3 Hs3 (g.trans g3) r
end
/-! two boards on paper -/
theorem due4 {a : Ans} (d : Due [[0, 1], [2, 3]] a) : ∃ p q : Int × Int, a = .pairs [p, q] ∧ (p = (0, 1) ∨ p = (1, 0)) ∧ (q = (2, 3) ∨ q = (3, 2)) := by
  cases a with
  | pairs ps =>
    have d' : DueP [[0, 1], [2, 3]] ps := d
    match ps, d' with
    | [], d' => exact nomatch d'.len
    | [_], d' => exact absurd d'.len (by simp)
    | _ :: _ :: _ :: _, d' => exact absurd d'.len (by simp)
    | [(a, b), (x, y)], d' =>
      obtain ⟨h1, h2⟩ := d'.own 0 (a, b) [0, 1] rfl rfl
      obtain ⟨h3, h4⟩ := d'.own 1 (x, y) [2, 3] rfl rfl
      have n1 := due_ne d' (p := (a, b)) (by simp)
      have n2 := due_ne d' (p := (x, y)) (by simp)
      simp only [List.mem_cons, List.not_mem_nil, or_false] at h1 h2 h3 h4 n1 n2
      refine ⟨(a, b), (x, y), rfl, ?_, ?_⟩
      · rcases h1 with rfl | rfl <;> rcases h2 with rfl | rfl <;> simp_all
      · rcases h3 with rfl | rfl <;> rcases h4 with rfl | rfl <;> simp_all
  | few S =>
    exfalso
    have d' : DueF [[0, 1], [2, 3]] S := d
    have two : ∀ i ∈ S, i = 0 ∨ i = 1 := fun i hi => by
      have := d'.inr i hi
      simp at this
      omega
    match S, d', two with
    | [], d', _ => exact absurd d'.few (by decide)
    | [a], d', two =>
      rcases two a (by simp) with rfl | rfl <;> exact absurd d'.few (by decide)
    | [a, b], d', two =>
      have nd := d'.nd
      rcases two a (by simp) with rfl | rfl <;> rcases two b (by simp) with rfl | rfl <;> first | exact absurd nd (by decide) | exact absurd d'.few (by decide)
    | a :: b :: e :: r, d', two =>
      have nd := d'.nd
      rw [List.nodup_cons, List.nodup_cons] at nd
      simp only [List.mem_cons, not_or] at nd
      have h1 := two a (by simp)
      have h2 := two b (by simp)
      have h3 := two e (by simp)
      omega
theorem due3 {a : Ans} (d : Due [[0, 1], [1, 2]] a) : a = .few [0, 1] ∨ a = .few [1, 0] := by
  cases a with
  | pairs ps =>
    exfalso
    have d' : DueP [[0, 1], [1, 2]] ps := d
    match ps, d' with
    | [], d' => exact nomatch d'.len
    | [_], d' => exact absurd d'.len (by simp)
    | _ :: _ :: _ :: _, d' => exact absurd d'.len (by simp)
    | [(a, b), (x, y)], d' =>
      obtain ⟨h1, h2⟩ := d'.own 0 (a, b) [0, 1] rfl rfl
      obtain ⟨h3, h4⟩ := d'.own 1 (x, y) [1, 2] rfl rfl
      have nd : ([a, b, x, y] : List Int).Nodup := d'.nd
      simp only [List.mem_cons, List.not_mem_nil, or_false] at h1 h2 h3 h4
      rcases h1 with rfl | rfl <;> rcases h2 with rfl | rfl <;> rcases h3 with rfl | rfl <;> rcases h4 with rfl | rfl <;> exact absurd nd (by decide)
  | few S =>
    have d' : DueF [[0, 1], [1, 2]] S := d
    have two : ∀ i ∈ S, i = 0 ∨ i = 1 := fun i hi => by
      have := d'.inr i hi
      simp at this
      omega
    match S, d', two with
    | [], d', _ => exact absurd d'.few (by decide)
    | [a], d', two =>
      rcases two a (by simp) with rfl | rfl <;> exact absurd d'.few (by decide)
    | [a, b], d', two =>
      have nd := d'.nd
      rcases two a (by simp) with rfl | rfl <;> rcases two b (by simp) with rfl | rfl <;> first | exact absurd nd (by decide) | exact .inl rfl | exact .inr rfl
    | a :: b :: e :: r, d', two =>
      exfalso
      have nd := d'.nd
      rw [List.nodup_cons, List.nodup_cons] at nd
      simp only [List.mem_cons, not_or] at nd
      have h1 := two a (by simp)
      have h2 := two b (by simp)
      have h3 := two e (by simp)
      omega
/-- a pair in order -/
def up2 (p : Int × Int) : List Int := if p.1 ≤ p.2 then [p.1, p.2] else [p.2, p.1]
theorem up2_of {p : Int × Int} {ys : List Int} (ne : p.1 ≠ p.2) (h : ys.Perm [p.1, p.2]) (s : ys.Pairwise (· ≤ ·)) : ys = up2 p := by
  have hl := h.length_eq
  match ys, hl with
  | [a, b], _ =>
    have m1 := h.mem_iff (a := p.1)
    have m2 := h.mem_iff (a := p.2)
    simp at m1 m2 s
    unfold up2
    split
    · have : a = p.1 ∧ b = p.2 := by omega
      rw [this.1, this.2]
    · have : a = p.2 ∧ b = p.1 := by omega
      rw [this.1, this.2]
end LH
namespace K03
open PySem L2 Evl PyProof.Rows LH
def sp_main (c : Cn) : Sp := fun vs H Q _ => ∃ (Hs : Hp) (u : V) (ns : List Int), Ex Hs H ∧ vs = [u] ∧ cS c.K ns Hs u ∧ Bits ns ∧ ns.length ≤ 63 ∧ RetV (.bl true) H Q
theorem ln_main {c : Cn} {vs : List V} {H : Hp} {Q : VK} {E : XK} (h : sp_main c vs H Q E) : vs.length = 1 := by obtain ⟨_, _, _, _, rfl, _⟩ := h; rfl
def t_main (c : Cn) : TS := (tSeq (tAsg (tCB (rSum c.K) (tCons (tSl (rSlL c.K) (tVar 0) tNoPart (tPart (tC (.int 63)))) tNil)) (gName 1)) (tSeq (tAsg (tCall (sp_law_places c) [] C8.E0 (tCons (tVar 0) tNil)) (gName 2)) (tSeq (tIfS (tAnd (tTest (tOp rGtI (tVar 2) (tC (.int 16)))) (tTest (tOp (rNeA c.K) (tOp rModI (tOp rDivI (tVar 1) (tC (.int 32))) (tC (.int 16))) (tC (.int 7))))) (tAsg (tOp rAddI (tC (.int 17)) (tOp rModI (tOp rDivI (tVar 1) (tC (.int 4))) (tC (.int 5)))) (gName 2)) tNext) (tSeq (tAsg (tCall (sp_law_lines c) [] C8.E0 (tCons (tVar 0) (tCons (tVar 2) (tCons (tOp rAddI (tC (.int 2)) (tOp rModI (tOp rDivI (tVar 1) (tC (.int 8))) (tC (.int 4)))) tNil)))) (gName 3)) (tSeq (tAsg (tSl (rSlL c.K) (tVar 3) tNoPart (tPart (tOp rAddI (tC (.int 1)) (tOp rDivI (tVar 2) (tC (.int 4)))))) (gName 4)) (tSeq (tAsg (tOp (rCatL c.K) (tSl (rSlL c.K) (tVar 4) tNoPart (tPart (tC (.int 2)))) (tSl (rSlL c.K) (tVar 4) tNoPart (tPart (tC (.int 1))))) (gName 5)) (tSeq (tFor (iList c.K (tLst (tCons (tVar 3) (tCons (tVar 4) (tCons (tVar 5) (tCons (tLst tNil) tNil)))))) (gName 6) (tIfS (tNot (tB (tCall (sp_law_told_right c) [] C8.E0 (tCons (tVar 2) (tCons (tVar 6) (tCons (tLst (tCons (tVar 3) (tCons (tVar 4) (tCons (tRevL c.K (tVar 6)) tNil)))) tNil)))))) (tRet (tC (.bl false))) tNext)) (tSeq (tIfS (tOr (tNot (tB (tCall (sp_law_replies_right c) [] C8.E0 (tCons (tVar 0) (tCons (tVar 2) (tCons (tVar 4) tNil)))))) (tNot (tB (tCall (sp_law_replies_right c) [] C8.E0 (tCons (tVar 0) (tCons (tVar 2) (tCons (tSl (rSlL c.K) (tVar 4) tNoPart (tPart (tC (.int 3)))) tNil))))))) (tRet (tC (.bl false))) tNext) (tSeq (tAsg (tCall (sp_law_takings c) [] C8.E0 (tCons (tVar 0) (tCons (tVar 2) (tCons (tC (.int 2)) tNil)))) (gTup c.K 2 (gCons (gName 7) (gCons (gName 8) gNil)))) (tSeq (tFor (iList c.K (tLst (tCons (tTup (tCons (tVar 7) (tCons (tVar 8) tNil))) (tCons (tTup (tCons (tVar 8) (tCons (tVar 7) tNil))) (tCons (tTup (tCons (tLst tNil) (tCons (tVar 8) tNil))) (tCons (tTup (tCons (tVar 7) (tCons (tLst tNil) tNil))) tNil)))))) (gTup c.K 2 (gCons (gName 9) (gCons (gName 10) gNil))) (tSeq (tAsg (tCall (sp_reply c) [] C8.E0 (tCons (tVar 2) (tCons (tVar 4) (tCons (tVar 9) (tCons (tVar 10) tNil))))) (gName 11)) (tIfS (tOr (tB (tCB (rIsi c.K) (tCons (tVar 11) (tCons (tC (.ty "bool")) tNil)))) (tTest (tOp (rNeA c.K) (tVar 11) (tCall (sp_law_reply c) [] C8.E0 (tCons (tVar 2) (tCons (tVar 4) (tCons (tVar 9) (tCons (tVar 10) tNil)))))))) (tRet (tC (.bl false))) tNext))) (tSeq (tIfS (tTest (tOp (rNeA c.K) (tLc (iList c.K (tFld c.K (tCall (sp_told c) [] C8.E0 (tCons (tC (.int 4)) (tCons (tLst (tCons (tLst (tCons (tC (.int 0)) (tCons (tC (.int 1)) tNil))) (tCons (tLst (tCons (tC (.int 2)) (tCons (tC (.int 3)) tNil))) tNil))) tNil))) "pairs")) (gName 12) tYes (tCB (rSortedQ c.K) (tCons (tVar 12) tNil)) [12]) (tLst (tCons (tLst (tCons (tC (.int 0)) (tCons (tC (.int 1)) tNil))) (tCons (tLst (tCons (tC (.int 2)) (tCons (tC (.int 3)) tNil))) tNil))))) (tRet (tC (.bl false))) tNext) (tRet (tAndV (tOp (rInD c.K) (tFld c.K (tCall (sp_told c) [] C8.E0 (tCons (tC (.int 3)) (tCons (tLst (tCons (tLst (tCons (tC (.int 0)) (tCons (tC (.int 1)) tNil))) (tCons (tLst (tCons (tC (.int 1)) (tCons (tC (.int 2)) tNil))) tNil))) tNil))) "lines") (tLst (tCons (tLst (tCons (tC (.int 0)) (tCons (tC (.int 1)) tNil))) (tCons (tLst (tCons (tC (.int 1)) (tCons (tC (.int 0)) tNil))) tNil)))) (tOp (rEqA c.K) (tCall (sp_reply c) [] C8.E0 (tCons (tC (.int 4)) (tCons (tLst (tCons (tLst (tCons (tC (.int 0)) (tCons (tC (.int 1)) tNil))) (tCons (tLst (tCons (tC (.int 2)) (tCons (tC (.int 3)) tNil))) tNil))) (tCons (tLst (tCons (tC (.int 3)) tNil)) (tCons (tLst tNil) tNil))))) (tC (.int 2))))))))))))))))
section
variable {c : Cn} {vs : List V} {H : Hp} {Q : VK} {E : XK} {σ : L2.St} {Hs : Hp} {ta tb tc td te tf tg : TE} {P : Int} {ls : List (List Int)} {hs ms : List Int}
theorem _root_.LH.OkLines.cat {m : List (List Int)} (o : OkLines P ls) (o2 : OkLines P m) (h : ls.length + m.length ≤ 60) : OkLines P (ls ++ m) := ⟨by rw [List.length_append]; exact h, fun l h => (List.mem_append.mp h).elim (o.ok l) (o2.ok l)⟩
theorem _root_.LH.OkLines.rev (o : OkLines P ls) : OkLines P ls.reverse := ⟨by rw [List.length_reverse]; exact o.few, fun l h => o.ok l (List.mem_reverse.mp h)⟩
theorem _root_.LH.OkTake.mines (t : OkTake P hs ms) : OkTake P [] ms := ⟨fun _ h => (nomatch h), t.m, (List.nodup_append.mp t.nd).2.1, Nat.zero_le _, t.few.2⟩
theorem _root_.LH.OkTake.hiss (t : OkTake P hs ms) : OkTake P hs [] := ⟨t.h, fun _ h => (nomatch h), by rw [List.append_nil]; exact (List.nodup_append.mp t.nd).1, t.few.1, Nat.zero_le _⟩
theorem RepM.oI {v : V} (h : RepM P ls hs ms v) : ∃ o, v = oI o := h.elim (fun h => ⟨none, h.2⟩) fun ⟨a, _, _, h⟩ => ⟨_, h⟩
theorem call_law_replyR {targ : TA} {v : V} (h : EvPlay targ σ Hs P ls hs ms) (r : RepM P ls hs ms v) : Ev (tCall (sp_law_reply c) [] C8.E0 targ) σ Hs v :=
  ev_ep (EvP.imp (ep_call (P' := fun v _ => ∃ a, Told ls a ∧ Due ls a ∧ v = LH.oI (replyM P hs ms a)) h fun _ H1 _ p H2 e2 _ k => ⟨H1, P, ls, hs, ms, p H2 e2, k⟩) fun u H _ ⟨b, tb, _, hu⟩ => by
    rw [hu]
    exact (r.at tb).symm)
theorem call_told_right {os : List (List (List Int))} (h1 : Ev ta σ Hs (.int P)) (h2 : EvC tb σ Hs (cL (cL cI)) ls) (h3 : EvC tc σ Hs (cL (cL (cL cI))) os) (hP : 1 ≤ P ∧ P ≤ 60) (ok : OkLines P ls) (oks : ∀ o ∈ os, OkLines P o) :
    Ev (tCall (sp_law_told_right c) [] C8.E0 (tCons ta (tCons tb (tCons tc tNil)))) σ Hs (.bl true) := by
  refine ev_callS (as_cons (c_evI h1) mo_c fun _ e1 => as_cons (EvC.lift h2 e1) mo_c fun _ e2 => as_cons (EvC.lift h3 (e1.trans e2)) mo_c fun _ _ => as_nil) ?_
  rintro vs H1 _ ⟨_, _, rfl, p1, x, _, rfl, p2, y, _, rfl, p3, rfl⟩ H2 e2 Q1 k1
  cases p1
  exact ⟨H1, P, x, y, ls, os, e2, rfl, p2, p3, hP, ok, oks, k1⟩
theorem call_replies_right {ns : List Int} (h1 : EvC ta σ Hs (cS c.K) ns) (h2 : Ev tb σ Hs (.int P)) (h3 : EvC tc σ Hs (cL (cL cI)) ls) (hb : Bits ns) (hP : 1 ≤ P ∧ P ≤ 60) (ok : OkLines P ls) :
    Ev (tCall (sp_law_replies_right c) [] C8.E0 (tCons ta (tCons tb (tCons tc tNil)))) σ Hs (.bl true) := by
  refine ev_callS (as_cons h1 mo_c fun _ e1 => as_cons (c_evI (h2.mono e1)) mo_c fun _ e2 => as_cons (EvC.lift h3 (e1.trans e2)) mo_c fun _ _ => as_nil) ?_
  rintro vs H1 _ ⟨x, _, rfl, p1, _, _, rfl, p2, y, _, rfl, p3, rfl⟩ H2 e2 Q1 k1
  cases p2
  exact ⟨H1, x, y, ns, P, ls, e2, rfl, p1, hb, p3, hP, ok, k1⟩
theorem rd_main (O : Ob c) (h : sp_main c vs H Q E) : t_main c { nx := fun _ H' => Q .non H', rt := Q } (start ["_law_script", "_law_whole", "_law_places_here", "_law_lines_here", "_law_few", "_law_alike", "_law_some", "_law_his", "_law_mine", "_law_near", "_law_far", "_law_answer", "_law_pair"] vs) H := by
  obtain ⟨Hs, u, ns, e, rfl, hu, hb, hn, k⟩ := h
  have hP0 := lawPlaces_in ns
  refine q_oV (Own.start e) (ev_sum (EvF.toC (ef_toS (n := 63) (ec_var rfl (Mo.mo (Own.start e).ik hu)) ev_c))) fun H1 w => ?_
  generalize (ns.take 63).sum = W
  refine q_oV w (call_places (ec_var rfl (w.m hu))) fun H2 w => ?_
  generalize lawPlaces ns = P at hP0
  have d32 : ∀ x : Int, CDivW x 32 := divW (by decide) (by decide)
  have d4 : ∀ x : Int, CDivW x 4 := divW (by decide) (by decide)
  have d8 : ∀ x : Int, CDivW x 8 := divW (by decide) (by decide)
  refine q_join (M := fun σ' H' => ∃ P : Int, σ' = [some u, some (.int W), some (.int P), none, none, none, none, none, none, none, none, none, none] ∧ Own Hs H emp Hs H' ∧ 1 ≤ P ∧ P ≤ 60) ?_ fun tail => ?_
  rotate_left
  · refine q_oWhen w (et_and (et_test (ev_gt (ev_var rfl) ev_c)) fun _ => et_test (ev_neI (ev_mod (ev_div (ev_var rfl) ev_c (d32 _)) ev_c (by decide)) ev_c)) (fun _ H4 w => ?_) (fun _ H4 w => tail _ _ ⟨P, rfl, w, hP0.1, hP0.2⟩)
    refine s_oV w (ev_add ev_c (ev_mod (ev_div (ev_var rfl) ev_c (d4 _)) ev_c (by decide))) fun H5 w => tail _ _ ⟨_, rfl, w, by omega, by omega⟩
  clear w
  rintro σ' H3 ⟨P, rfl, w, hP1, hP2⟩
  have hP : 1 ≤ P ∧ P ≤ 60 := ⟨hP1, hP2⟩
  refine q_oP w (P := fun v H => ∃ ls, OkLines P ls ∧ cL (cL cI) ls H v) (EvF.toP (call_lines (P := P) (m := 2 + W / 8 % 4) (ec_var rfl hu) (ev_var rfl) (ev_add ev_c (ev_mod (ev_div (ev_var rfl) ev_c (d8 _)) ev_c (by decide))) hb (by omega)) ?_) fun av Hi1 H4 w e1 hl => ?_
  · rintro p xs Hs2 _ ⟨ls, px, ok, _⟩ hp
    exact ⟨ls, ok, p, xs, rfl, upd_same, paired_mo (Ex.new hp) px⟩
  obtain ⟨ls, ok, hl⟩ := hl
  obtain ⟨n4, hn4⟩ : ∃ n : Nat, 1 + P / 4 = (n : Int) := ⟨(1 + P / 4).toNat, by omega⟩
  refine q_oP w (EvF.toC (ef_to (c := cL cI) (n := n4) (ec_var rfl hl) (ev_to (ev_add ev_c (ev_div (ev_var rfl) ev_c (d4 _))) (by rw [hn4])))) fun fv Hi2 H5 w e2 hf => ?_
  have okf : OkLines P (ls.take n4) := OkLines.take ok _
  generalize ls.take n4 = few at hf okf
  have fewf := okf.few
  refine q_oP w (EvF.toC (ef_cat (d := cL cI) (EvF.toC (ef_to (c := cL cI) (n := 2) (ec_var rfl hf) ev_c)) (EvF.toC (ef_to (c := cL cI) (n := 1) (ec_var rfl hf) ev_c)) (by rw [List.length_take, List.length_take]; omega))) fun gv Hi3 H6 w e3 hg => ?_
  have okg : OkLines P (few.take 2 ++ few.take 1) := OkLines.cat (OkLines.take okf _) (OkLines.take okf _) (by rw [List.length_take, List.length_take]; omega)
  generalize few.take 2 ++ few.take 1 = alike at hg okg
  have hl3 := Mo.mo (e2.trans e3) hl
  have hf3 := Mo.mo e3 hf
  refine q_oFor w (ei_list (c := cL (cL cI)) (l := [ls, few, alike, []]) (ec_lst (ecs_cons (ec_var rfl hl3) (ecs_cons (ec_var rfl hf3) (ecs_cons (ec_var rfl hg) (ecs_cons (EvF.toC ef_nil) ecs_nil)))) (by simp))) mo_c' (fun pre σ' _ _ => ∃ y6, σ' = [some u, some (.int W), some (.int P), some av, some fv, some gv, y6, none, none, none, none, none, none])
    (fun _ _ => ⟨none, rfl⟩) ?_ ?_
  · rintro Hb eb pre so post x σ' Ho' Hi' Hi'' H'' hsrc ⟨y6, rfl⟩ ei w e' ca
    have oks : OkLines P so := by
      have : so ∈ [ls, few, alike, []] := by rw [hsrc]; simp
      simp only [List.mem_cons, List.not_mem_nil, or_false] at this
      rcases this with rfl | rfl | rfl | rfl
      · exact ok
      · exact okf
      · exact okg
      · exact OkLines.none P
    have em := (eb.trans ei).trans e'
    have zs := oks.few
    refine s_oWhen w (b := false) (EvT_to (et_not (et_B (call_told_right (os := [ls, few, so.reverse]) (ev_var rfl) (ec_var rfl (w.m ca)) (ec_lst (ecs_cons (ec_var rfl (w.m (Mo.mo em hl3))) (ecs_cons (ec_var rfl (w.m (Mo.mo em hf3))) (ecs_cons (EvF.toC (ef_revL (ec_var rfl (w.m ca)))) ecs_nil))) (show 3 ≤ 40000 by decide)) hP oks ?_))) rfl) (fun z => nomatch z) fun _ H11 w => ⟨Ho', Hi'', ⟨_, rfl⟩, ei.trans e', w⟩
    intro o ho
    simp only [List.mem_cons, List.not_mem_nil, or_false] at ho
    rcases ho with rfl | rfl | rfl
    · exact ok
    · exact okf
    · exact OkLines.rev oks
  rintro σ' Ho Hi4 H7 ⟨y6, rfl⟩ e4 w
  have hu4 : cS c.K ns Hi4 u := Mo.mo (((e1.trans e2).trans e3).trans e4) hu
  have hf4 := Mo.mo e4 hf3
  refine q_oNo w (EvT_to (et_or (et_not (et_B (call_replies_right (ec_var rfl (w.m hu4)) (ev_var rfl) (ec_var rfl (w.m hf4)) hb hP okf))) fun _ => et_not (et_B (call_replies_right (ec_var rfl (w.m hu4)) (ev_var rfl) (EvF.toC (ef_to (c := cL cI) (n := 3) (ec_var rfl (w.m hf4)) ev_c)) hb hP (OkLines.take okf _)))) rfl) fun H8 w => ?_
  refine (call_takings (P := P) (m := 2) (ec_var rfl hu4) (ev_var rfl) ev_c hb (by omega)) H8 w.g.i _ fun x H9 Hi5 g ⟨hs, ms, hx, okt⟩ => g_two hx g.i fun hv mv ch cm => ?_
  replace w := w.on g
  have hf5 := Mo.mo g.s hf4
  refine q_oFor w (ei_list (c := cP (cL cI) (cL cI)) (l := [(hs, ms), (ms, hs), ([], ms), (hs, [])]) (ec_lst (ecs_cons (ep_pair (ec_var rfl ch) (ec_var rfl cm)) (ecs_cons (ep_pair (ec_var rfl cm) (ec_var rfl ch)) (ecs_cons (ep_pair (EvF.toC ef_nil) (ec_var rfl cm)) (ecs_cons (ep_pair (ec_var rfl ch) (EvF.toC ef_nil)) ecs_nil)))) (show 4 ≤ 40000 by decide))) mo_c' (fun pre σ' _ _ => ∃ y9 y10 y11, σ' = [some u, some (.int W), some (.int P), some av, some fv, some gv, y6, some hv, some mv, y9, y10, y11, none])
    (fun _ _ => ⟨none, none, none, rfl⟩) ?_ ?_
  · rintro Hb eb pre ⟨near, far⟩ post x σ' Ho' Hi' Hi'' H'' hsrc ⟨y9, y10, y11, rfl⟩ ei w e' ca
    have okb : OkTake P near far := by
      have : (near, far) ∈ [(hs, ms), (ms, hs), ([], ms), (hs, [])] := by rw [hsrc]; simp
      simp only [List.mem_cons, List.not_mem_nil, or_false, Prod.mk.injEq] at this
      rcases this with ⟨rfl, rfl⟩ | ⟨rfl, rfl⟩ | ⟨rfl, rfl⟩ | ⟨rfl, rfl⟩
      · exact okt
      · exact okt.swap
      · exact okt.mines
      · exact okt.hiss
    have b : Board P few near far := ⟨hP, okf, okb⟩
    refine g_two ca w.g.i fun nv rv c1 c2 => ?_
    have hf6 := Mo.mo ((eb.trans ei).trans e') hf5
    refine q_oP w (call_reply (P := P) (ls := few) (hs := near) (ms := far) (as_play (ev_var rfl) (ec_var rfl hf6) (ec_var rfl c1) (ec_var rfl c2) b)) fun rv Hi7 H11 w e7 hr => ?_
    replace c1 := Mo.mo e7 c1
    replace c2 := Mo.mo e7 c2
    have hf7 := Mo.mo e7 hf6
    obtain ⟨o, rfl⟩ := RepM.oI hr
    obtain ⟨wd, hwd, hwb⟩ := oI_cW (H := kn Ho' Hi7) o
    refine s_oWhen w (b := false) (EvT_to (et_or (et_B (ev_isi ty_bool (ec_var rfl hwd))) fun _ => et_test (ev_neS (y := LH.oI o) (ev_var rfl) (call_law_replyR (as_play (ev_var rfl) (ec_var rfl (w.m hf7)) (ec_var rfl (w.m c1)) (ec_var rfl (w.m c2)) b) hr) (scal_oI _))) (by rw [hwb]; simp)) (fun z => nomatch z) fun _ H12 w => ⟨Ho', Hi7, ⟨_, _, _, rfl⟩, (ei.trans e').trans e7, w⟩
  rintro σ' Ho2 Hi6 H10 ⟨y9, y10, y11, rfl⟩ e6 w
  have B4 : Board 4 [[0, 1], [2, 3]] [3] [] := board_of (by decide +kernel)
  have B3 : Board 3 [[0, 1], [1, 2]] [] [] := board_of (by decide +kernel)
  refine q_oNo w (EvT_to (et_test (ev_neC (c := cL (cL cI)) (a := [[0, 1], [2, 3]]) (a' := [[0, 1], [2, 3]]) ?_ (by repeat (first | exact ecs_nil | refine ecs_cons ?_ ?_ | exact c_evI ev_c | exact ec_none | refine ec_lst ?_ (by decide) | refine ep_pair ?_ ?_ | refine ec_some ?_)))) (by decide)) fun H11 w => ?_
  · refine ep_first (F := fun te => tLc (iList c.K (tFld c.K te "pairs")) (gName 12) tYes (tCB (rSortedQ c.K) (tCons (tVar 12) tNil)) [12]) (fun _ _ _ _ => rfl) (EvAn.toC (call_told (P := 4) (ls := [[0, 1], [2, 3]]) ev_c (by repeat (first | exact ecs_nil | refine ecs_cons ?_ ?_ | exact c_evI ev_c | exact ec_none | refine ec_lst ?_ (by decide) | refine ep_pair ?_ ?_ | refine ec_some ?_)) (by decide) B4.l)) fun v Hs' _ ⟨a, ⟨_, due⟩, ca⟩ => ?_
    obtain ⟨p, q, rfl, hp, hq⟩ := due4 due
    refine EvP.imp (EvF.toC (ef_mapN (d := cL cI) (src := [p, q]) (ei_list (ep_fldP O (ep_ev ev_c ca))) up2 (show 2 ≤ 40000 by decide) fun y x Hs2 hy e2 cy => ?_)) fun v H _ h => ?_
    · refine EvF.toP (ef_sortedQ (ec_var rfl (pair_Q cy)) (show 2 < 64 by decide)) ?_
      rintro r xs Hs3 _ ⟨ys, rfl, h1, h2⟩ hr
      have ne : y.1 ≠ y.2 := by
        simp only [List.mem_cons, List.not_mem_nil, or_false] at hy
        rcases hy with rfl | rfl
        · rcases hp with rfl | rfl <;> decide
        · rcases hq with rfl | rfl <;> decide
      rw [up2_of ne h1 h2]
      exact ints_cL upd_same
    · have hm : [p, q].map up2 = [[0, 1], [2, 3]] := by rcases hp with rfl | rfl <;> rcases hq with rfl | rfl <;> decide
      rw [hm] at h
      exact h
  refine s_oRetV w (ev_to (ev_andV (a := true) (b := true) (ev_ep ?_) fun _ => ev_to (ev_eqI (i := 2) (ev_ep (EvP.imp (call_reply (as_play (P := 4) (ls := [[0, 1], [2, 3]]) (hs := [3]) (ms := []) ev_c (by repeat (first | exact ecs_nil | refine ecs_cons ?_ ?_ | exact c_evI ev_c | exact ec_none | refine ec_lst ?_ (by decide) | refine ep_pair ?_ ?_ | refine ec_some ?_)) (by repeat (first | exact ecs_nil | refine ecs_cons ?_ ?_ | exact c_evI ev_c | exact ec_none | refine ec_lst ?_ (by decide) | refine ep_pair ?_ ?_ | refine ec_some ?_)) (by repeat (first | exact ecs_nil | refine ecs_cons ?_ ?_ | exact c_evI ev_c | exact ec_none | refine ec_lst ?_ (by decide) | refine ep_pair ?_ ?_ | refine ec_some ?_)) B4)) fun v H _ r => ?_)) ev_c) rfl) rfl) k
  · refine ep_first (F := fun te => tOp (rInD c.K) (tFld c.K te "lines") (tLst (tCons (tLst (tCons (tC (.int 0)) (tCons (tC (.int 1)) tNil))) (tCons (tLst (tCons (tC (.int 1)) (tCons (tC (.int 0)) tNil))) tNil)))) (fun _ _ _ _ => rfl) (EvAn.toC (call_told (P := 3) (ls := [[0, 1], [1, 2]]) ev_c (by repeat (first | exact ecs_nil | refine ecs_cons ?_ ?_ | exact c_evI ev_c | exact ec_none | refine ec_lst ?_ (by decide) | refine ep_pair ?_ ?_ | refine ec_some ?_)) (by decide) B3.l)) fun v Hs' _ ⟨a, ⟨_, due⟩, ca⟩ => ?_
    have hcase : ∃ S : List Int, a = .few S ∧ ([[0, 1], [1, 0]].any fun b => decide (b = S)) = true := (due3 due).elim (fun z => ⟨_, z, by decide⟩) fun z => ⟨_, z, by decide⟩
    obtain ⟨S, rfl, hS⟩ := hcase
    exact ep_ev (ev_to (ev_inD (cd := cL cI) (a := S) (l := [[0, 1], [1, 0]]) (ep_fldF O (ep_ev ev_c ca)) (by repeat (first | exact ecs_nil | refine ecs_cons ?_ ?_ | exact c_evI ev_c | exact ec_none | refine ec_lst ?_ (by decide) | refine ep_pair ?_ ?_ | refine ec_some ?_)) (by decide)) (congrArg V.bl hS)) rfl
  · rcases r with ⟨z, _⟩ | ⟨a, _, due, rfl⟩
    · exact absurd z (by decide)
    · obtain ⟨p, q, rfl, hp, hq⟩ := due4 due
      rcases hp with rfl | rfl <;> rcases hq with rfl | rfl <;> rfl
end
end K03

namespace LH
open PySem PySem.Spec L2 PyProof.Rows
section
variable {c : Cn} {vs : List V} {H : Hp} {Q : VK} {E : XK}
theorem ln_hand_over (h : sp_hand_over c vs H Q E) : vs.length = 4 := by obtain ⟨_, _, _, _, _, _, _, _, _, _, rfl, _⟩ := h; rfl
theorem ln_give_one_more (h : sp_give_one_more c vs H Q E) : vs.length = 3 := by obtain ⟨_, _, _, _, _, _, _, rfl, _⟩ := h; rfl
theorem ln_pair (h : sp_pair c vs H Q E) : vs.length = 3 := by obtain ⟨_, _, _, _, _, _, _, rfl, _⟩ := h; rfl
theorem ln_told (h : sp_told c vs H Q E) : vs.length = 2 := by obtain ⟨_, _, _, _, _, rfl, _⟩ := h; rfl
theorem ln_other_place (h : sp_other_place c vs H Q E) : vs.length = 2 := by obtain ⟨_, _, _, _, _, _, rfl, _⟩ := h; rfl
theorem ln_reply (h : sp_reply c vs H Q E) : vs.length = 4 := by obtain ⟨_, _, _, _, _, ⟨_, _, _, _, rfl, _⟩, _⟩ := h; rfl
theorem ln_is_pair_of (h : sp_is_pair_of c vs H Q E) : vs.length = 3 := by obtain ⟨_, _, _, _, _, _, _, rfl, _⟩ := h; rfl
theorem ln_pairs_init (h : sp_pairs_init c vs H Q E) : vs.length = 2 := by obtain ⟨_, _, _, _, _, rfl, _⟩ := h; rfl
theorem ln_few_init (h : sp_few_init c vs H Q E) : vs.length = 2 := by obtain ⟨_, _, _, _, _, rfl, _⟩ := h; rfl
theorem ln_pairs_shows (h : sp_pairs_shows c vs H Q E) : vs.length = 3 := by obtain ⟨_, _, _, _, _, _, _, rfl, _⟩ := h; rfl
theorem ln_few_shows (h : sp_few_shows c vs H Q E) : vs.length = 3 := by obtain ⟨_, _, _, _, _, _, _, rfl, _⟩ := h; rfl
end
/-- a method as it stands behind the top -/
theorem funOf {K : PySem.W.Frag} {x qual : Str} {st : Stmt} {f : Addr} {oc : Value} {od an : Option Addr} {osl : Array (Option Value)} {kV doc pm cdv ct : Value}
    (l : K.lookup f = some ⟨oc, od, .func (PySem.W.fnOf x qual (C8.fnArgs st) (C8.fnBody st) (C8.fnScope st) .none kV doc pm an cdv ct), osl⟩)
    (c : PySem.W.codeIn K cdv qual = true) : C8.Fun K x qual st f (PySem.W.fnOf x qual (C8.fnArgs st) (C8.fnBody st) (C8.fnScope st) .none kV doc pm an cdv ct) :=
  ⟨⟨oc, od, .none, kV, doc, pm, an, cdv, ct, osl, rfl, l, c⟩⟩
/-- the j-th of a class's statements -/
def clsAt (s : Stmt) (j : Nat) : Stmt := match s with
  | .ClassDef _ _ _ rows _ _ _ _ _ _ _ => rows.getD j (.Pass ⟨0, 0, 0, 0⟩)
  | _ => .Pass ⟨0, 0, 0, 0⟩
end LH

namespace LH
open PySem PySem.Spec L2 PyProof.Rows
section
variable {c : Cn} {vs : List V} {H : Hp} {Q : VK} {E : XK}
theorem ln_law_due (h : sp_law_due c vs H Q E) : vs.length = 2 := by obtain ⟨_, _, _, _, _, _, rfl, _⟩ := h; rfl
theorem ln_law_told_right (h : sp_law_told_right c vs H Q E) : vs.length = 3 := by obtain ⟨_, _, _, _, _, _, _, rfl, _⟩ := h; rfl
theorem ln_law_reply (h : sp_law_reply c vs H Q E) : vs.length = 4 := by obtain ⟨_, _, _, _, _, ⟨_, _, _, _, rfl, _⟩, _⟩ := h; rfl
theorem ln_law_replies_right (h : sp_law_replies_right c vs H Q E) : vs.length = 3 := by obtain ⟨_, _, _, _, _, _, _, rfl, _⟩ := h; rfl
end
end LH

namespace LH
open PySem PySem.Spec L2 PyProof.Rows
/-! ### defs that may refuse -/
theorem b_ValueError : bootBuiltins "ValueError" = some (.type "ValueError") := by decide +kernel
/-- what a def lets out, as a wish of its statements -/
def wE (E : XK) : WX := fun cls d _ H => E cls d H
def tRz (C : Addr) (W : WX) : TS := fun _ σ H => W (.ref C) none σ H
section
variable {X : Cx} {C : Addr} {W : WX} {bm : List Value} {B nw ni : String} {x m : Str} {j : Nat} {p p2 pos pos2 : Pos}
theorem ps_rz (hc : X.calm = true) (tk : Takes X W) (F : ExcBaseFacts B nw ni bm) (q : PySem.W.excIn X.K C bm nw = true) (gC : X.mg x = some (.ref C)) (kC : PySem.W.keepIn X.K (.ref C) = true) (h1 : PySem.W.subIn X.K (.ref C) (.type "BaseException") = some true) (h2 : PySem.W.typeIn X.K (.ref C) = some (.type "type")) (hg : Gl X x)
    (hdb : (x == ("__debug__" : Str)) = false := by decide) : PS X (.Raise (some (.Call (.Name x p) [.Constant (.str m) j p2] [] pos)) none pos2) (tRz C W) :=
  ps_raise hc tk (pmk_own F q gC kC (raises_own h1 h2) hg hdb)
end
/-- a def that may be called by its name and may refuse -/
structure CalX (P : Program) (w : World) (K : PySem.W.Frag) (mg : Str → Option Value) (base : Heap) (k : Nat) (x : Str) (sp : Sp) : Prop where
  ex : ∃ (f : Addr) (fd : FuncData) (ps : List Str), FnOk P w K mg base (L2.CX P w) k f fd ps sp ∧ mg x = some (.ref f) ∧ PySem.W.keepIn K (.ref f) = true ∧ Binds K fd ps []
section
variable {P : Program} {w : World} {K : PySem.W.Frag} {mg : Str → Option Value} {base : Heap}
theorem calX {x : Str} {st : Stmt} {f : Addr} {fd : FuncData} {N ps : List Str} {k : Nat} {sp : Sp} (F : C8.Def K mg x st f fd) (b : Binds K fd ps []) (S : FnScope N ps (C8.fnScope st)) (len : ∀ vs H Q E, sp vs H Q E → vs.length = ps.length)
    (run : ∀ (cdv : Value) (A : Around) (outer : List Env) (s : Shared) (H : Hp) (vs : List V) (Q : VK) (E : XK), Room k (A.deeper (envOfC x (C8.fnScope st) s.heap.objs.size f cdv)) → sp vs H Q E →
      ∃ t, PSs (cxOf (L2.CX P w) P w K mg base N x (C8.fnScope st) f cdv A outer s H E) (C8.fnBody st) t ∧ t { nx := fun _ H' => Q .non H', rt := Q } (start N vs) H) : CalX P w K mg base (k + 1) x sp := by
  obtain ⟨o1, o2, o3, o4, o5, o6, o7, cdv, o8, o9, rfl, look, code⟩ := F.fn.ex
  exact ⟨f, _, ps, fn_of look code S len fun A outer s H vs Q E room hsp => run cdv A outer s H vs Q E room hsp, F.mgf, F.kp, b⟩
end
section
variable {X : Cx} {k j : Nat} {x : Str} {sp : Sp} {p pos : Pos} {e : Expr} {es : List Expr} {ta : TA} {W : WX}
theorem pe_cX (c : CalX X.prog X.w X.K X.mg X.base k x sp) (hr : Room j X.A) (hk : k ≤ j) (hg : Gl X x) (tk : Takes X W) (ha : PA X (e :: es) ta)
    (hdb : (x == ("__debug__" : Str)) = false := by decide) (he : starEach (e :: es) X.env = (false, eval e X.env) :: starEach es X.env := by rfl) (hpl : (backTo pos (starEach es X.env)).any (·.1) = false := by rfl) :
    PE X (.Call (.Name x p) (e :: es) [] pos) (tCallS sp (WE W) ta) := by
  obtain ⟨f, fd, ps, F, hm, kp, b⟩ := c.ex
  exact pe_callS F (hr.mono hk) hg hm kp b (fun σ => passAt tk σ) ha hdb he hpl
end
/-- the error that a suite holds, asked for its class -/
def rIsX (K : PySem.W.Frag) (a : Addr) (cls : Value) (d : Option Addr) : List V → Hp → VK → Prop := fun xs H Q => ∃ D, cls = .ref D ∧ d = none ∧ ExcC K D ∧ rIsE K D a xs H Q
theorem call_isX {X : Cx} {a : Addr} {cls : Value} {d : Option Addr} {oe : Obj} {pn : List (Addr × Obj)} (hz : Zc cls d oe) (hf : ∃ vs, oe.data = .fields vs) : CallR (X.suite a ((a, oe) :: pn)) (.builtin "isinstance") (rIsX X.K a cls d) := by
  intro pins s σ H xs us Q I r h
  obtain ⟨D, e1, e2, C, h⟩ := h
  subst e1 e2
  exact call_isE C hz hf pins s σ H xs us Q I r h
def tTryAs (K : PySem.W.Frag) (c : Value) (i : Nat) (tb : WX → TS) (ts : Addr → Value → Option Addr → TS) : TS := fun D σ H => tb (wAs K c i ts (fun _ _ _ _ => False) D) D σ H
end LH
namespace LH
open PySem L2 Evl PyProof.Rows
/-! ### what is refused, and with which error -/
def errA (c : Cn) : Nat → Addr | 0 => c.badPlaces | 1 => c.badLines | _ => c.badTakings
def okPl (d : Wd) : Bool := wWhole d && (decide (1 ≤ wInt d) && decide (wInt d ≤ 60))
def okLn (P : Int) (d : Wd) : Bool := isL d && (decide ((wItems d).length ≤ 60) && (wItems d).all (wLine P))
def okTk (P : Int) (h m : Wd) : Bool := wPlaces P h && (wPlaces P m && decide ((dd ((wItems h).map wInt ++ (wItems m).map wInt)).length = (wItems h).length + (wItems m).length))
def verd (dp dl dh dm : Wd) : Option Nat := if okPl dp = false then some 0 else if okLn (wInt dp) dl = false then some 1 else if okTk (wInt dp) dh dm = false then some 2 else none
/-- not too long -/
def smW (d : Wd) : Bool := decide ((wItems d).length ≤ 200) && (wItems d).all fun x => decide ((wItems x).length ≤ 200)
theorem smW.len {d : Wd} (h : smW d = true) : (wItems d).length ≤ 200 := by
  unfold smW at h
  rw [Bool.and_eq_true] at h
  exact of_decide_eq_true h.1
theorem smW.items {d x : Wd} (h : smW d = true) (hx : x ∈ wItems d) : (wItems x).length ≤ 200 := by
  unfold smW at h
  rw [Bool.and_eq_true, List.all_eq_true] at h
  exact of_decide_eq_true (h.2 x hx)
def RetE (C : Addr) (H : Hp) (E : XK) : Prop := ∀ H2, Ex H H2 → E (.ref C) none H2
def spX_check_places (c : Cn) : Sp := fun vs H Q E => ∃ (Hs : Hp) (v : V) (d : Wd), Ex Hs H ∧ vs = [v] ∧ cW d Hs v ∧ (okPl d = true → RetV .non H Q) ∧ (okPl d = false → RetE c.badPlaces H E)
def spX_check_lines (c : Cn) : Sp := fun vs H Q E => ∃ (Hs : Hp) (P : Int) (v : V) (d : Wd), Ex Hs H ∧ vs = [.int P, v] ∧ cW d Hs v ∧ smW d = true ∧ (okLn P d = true → RetV .non H Q) ∧ (okLn P d = false → RetE c.badLines H E)
def spX_check_takings (c : Cn) : Sp := fun vs H Q E => ∃ (Hs : Hp) (P : Int) (u v : V) (dh dm : Wd), Ex Hs H ∧ vs = [.int P, u, v] ∧ cW dh Hs u ∧ cW dm Hs v ∧ smW dh = true ∧ smW dm = true ∧ (okTk P dh dm = true → RetV .non H Q) ∧ (okTk P dh dm = false → RetE c.badTakings H E)
/-- four things that are handed in -/
structure Four (Hs H : Hp) (vs : List V) (dp dl dh dm : Wd) : Prop where
  ex : ∃ u v w x, Ex Hs H ∧ vs = [u, v, w, x] ∧ cW dp Hs u ∧ cW dl Hs v ∧ cW dh Hs w ∧ cW dm Hs x
  sl : smW dl = true
  sh : smW dh = true
  sm : smW dm = true
def spX_check_play (c : Cn) : Sp := fun vs H Q E => ∃ (Hs : Hp) (dp dl dh dm : Wd), Four Hs H vs dp dl dh dm ∧ (verd dp dl dh dm = none → RetV .non H Q) ∧ ∀ n, verd dp dl dh dm = some n → RetE (errA c n) H E
def BadP (c : Cn) (vs : List V) (H : Hp) (E : XK) : Prop := ∃ (Hs : Hp) (dp dl dh dm : Wd) (n : Nat), Four Hs H vs dp dl dh dm ∧ verd dp dl dh dm = some n ∧ RetE (errA c n) H E
def spX_danger (c : Cn) : Sp := fun vs H Q E => sp_danger c vs H Q C8.E0 ∨ BadP c vs H E
def spX_worths (c : Cn) : Sp := fun vs H Q E => sp_worths c vs H Q C8.E0 ∨ BadP c vs H E
def spX_sure (c : Cn) : Sp := fun vs H Q E => sp_sure c vs H Q C8.E0 ∨ BadP c vs H E
def spX_best (c : Cn) : Sp := fun vs H Q E => sp_best c vs H Q C8.E0 ∨ BadP c vs H E
def spX_full (c : Cn) : Sp := fun vs H Q E => sp_full c vs H Q C8.E0 ∨ BadP c vs H E
def spX_reply (c : Cn) : Sp := fun vs H Q E => sp_reply c vs H Q C8.E0 ∨ BadP c vs H E
def BadT (c : Cn) (vs : List V) (H : Hp) (E : XK) : Prop := ∃ (Hs : Hp) (u v : V) (dp dl : Wd), Ex Hs H ∧ vs = [u, v] ∧ cW dp Hs u ∧ cW dl Hs v ∧ smW dl = true ∧ ((okPl dp = false ∧ RetE c.badPlaces H E) ∨ (okPl dp = true ∧ okLn (wInt dp) dl = false ∧ RetE c.badLines H E))
def spX_told (c : Cn) : Sp := fun vs H Q E => sp_told c vs H Q C8.E0 ∨ BadT c vs H E
def tX_check_places (c : Cn) (E : XK) : TS := (tIfS (tNot (tAnd (tB (tCall (sp_is_whole c) [] C8.E0 (tCons (tVar 0) tNil))) (tTest (tChain rLeI rLeI (tC (.int 1)) (tVar 0) (tC (.int 60)))))) (tRz c.badPlaces (wE E)) tNext)
def tX_check_lines (c : Cn) (E : XK) : TS := (tSeq (tIfS (tOr (tNot (tB (tCB (rIsi c.K) (tCons (tVar 1) (tCons (tC (.ty "list")) tNil))))) (tTest (tOp rGtI (tCB (rLenA c.K) (tCons (tVar 1) tNil)) (tC (.int 60))))) (tRz c.badLines (wE E)) tNext) (tIfS (tNot (tB (tCB (rAll c.K) (tCons (tLc (iList c.K (tVar 1)) (gName 2) tYes (tCall (sp_is_line c) [] C8.E0 (tCons (tVar 0) (tCons (tVar 2) tNil))) [2]) tNil)))) (tRz c.badLines (wE E)) tNext))
def tX_check_takings (c : Cn) (E : XK) : TS := (tSeq (tIfS (tNot (tAnd (tB (tCall (sp_is_list_of_places c) [] C8.E0 (tCons (tVar 0) (tCons (tVar 1) tNil)))) (tB (tCall (sp_is_list_of_places c) [] C8.E0 (tCons (tVar 0) (tCons (tVar 2) tNil)))))) (tRz c.badTakings (wE E)) tNext) (tSeq (tAsg (tOp (rCatL c.K) (tVar 1) (tVar 2)) (gName 3)) (tIfS (tTest (tOp (rNeA c.K) (tCB (rLenSet c.w) (tCons (tCB (rSetOf c.K c.w) (tCons (tVar 3) tNil)) tNil)) (tCB (rLenA c.K) (tCons (tVar 3) tNil)))) (tRz c.badTakings (wE E)) tNext)))
def tX_check_play (c : Cn) (E : XK) : TS := (tSeq (tDrop (tCallS (spX_check_places c) (WE (wE E)) (tCons (tVar 0) tNil))) (tSeq (tDrop (tCallS (spX_check_lines c) (WE (wE E)) (tCons (tVar 0) (tCons (tVar 1) tNil)))) (tDrop (tCallS (spX_check_takings c) (WE (wE E)) (tCons (tVar 0) (tCons (tVar 2) (tCons (tVar 3) tNil)))))))
def tX_danger (c : Cn) (E : XK) : TS := (tSeq (tDrop (tCallS (spX_check_play c) (WE (wE E)) (tCons (tVar 0) (tCons (tVar 1) (tCons (tVar 2) (tCons (tVar 3) tNil)))))) (tRet (tCall (sp_in_lowest_terms c) [] C8.E0 (tCons (tCall (sp_total c) [] C8.E0 (tCons (tVar 0) (tCons (tVar 1) (tCons (tVar 2) (tCons (tVar 3) tNil))))) (tCons (tCall (sp_one c) [] C8.E0 (tCons (tVar 0) tNil)) tNil)))))
def tX_worths (c : Cn) (E : XK) : TS := (tSeq (tDrop (tCallS (spX_check_play c) (WE (wE E)) (tCons (tVar 0) (tCons (tVar 1) (tCons (tVar 2) (tCons (tVar 3) tNil)))))) (tSeq (tAsg (tCall (sp_units_of_free c) [] C8.E0 (tCons (tVar 0) (tCons (tVar 1) (tCons (tVar 2) (tCons (tVar 3) tNil))))) (gName 4)) (tSeq (tAsg (tOp rRep (tLst (tCons (tC .non) tNil)) (tVar 0)) (gName 5)) (tSeq (tLock (tFor (iKeys (tVar 4)) (gName 6) (tAsg (tCall (sp_in_lowest_terms c) [] C8.E0 (tCons (tDGet (tVar 4) (tVar 6)) (tCons (tCall (sp_one c) [] C8.E0 (tCons (tVar 0) tNil)) tNil))) (gSub (tVar 5) (tVar 6) rSetL)))) (tRet (tVar 5))))))
def tX_sure (c : Cn) (E : XK) : TS := (tSeq (tDrop (tCallS (spX_check_play c) (WE (wE E)) (tCons (tVar 0) (tCons (tVar 1) (tCons (tVar 2) (tCons (tVar 3) tNil)))))) (tSeq (tAsg (tCall (sp_total c) [] C8.E0 (tCons (tVar 0) (tCons (tVar 1) (tCons (tVar 2) (tCons (tVar 3) tNil))))) (gName 4)) (tRet (tTup (tCons (tOp rLtI (tVar 4) (tCall (sp_one c) [] C8.E0 (tCons (tVar 0) tNil))) (tCons (tOp rLtI (tOp rMulI (tC (.int 2)) (tVar 4)) (tCall (sp_one c) [] C8.E0 (tCons (tVar 0) tNil))) tNil))))))
def tX_best (c : Cn) (E : XK) : TS := (tSeq (tDrop (tCallS (spX_check_play c) (WE (wE E)) (tCons (tVar 0) (tCons (tVar 1) (tCons (tVar 2) (tCons (tVar 3) tNil)))))) (tSeq (tAsg (tCall (sp_units_of_free c) [] C8.E0 (tCons (tVar 0) (tCons (tVar 1) (tCons (tVar 2) (tCons (tVar 3) tNil))))) (gName 4)) (tSeq (tAsg (tC .non) (gName 5)) (tSeq (tLock (tFor (iKeys (tVar 4)) (gName 6) (tIfS (tOr (tTest (tOp rIsN (tVar 5) (tC .non))) (tTest (tOp rGtI (tDGet (tVar 4) (tVar 6)) (tDGet (tVar 4) (tVar 5))))) (tAsg (tVar 6) (gName 5)) tNext))) (tRet (tVar 5))))))
def tX_full (c : Cn) (E : XK) : TS := (tSeq (tDrop (tCallS (spX_check_play c) (WE (wE E)) (tCons (tVar 0) (tCons (tVar 1) (tCons (tVar 2) (tCons (tVar 3) tNil)))))) (tRet (tLc (iEnum c.K (tCons (tVar 1) tNil)) (gTup c.K 2 (gCons (gName 4) (gCons (gName 5) gNil))) (tTest (tOp (rEqA c.K) (tCall (sp_missing c) [] C8.E0 (tCons (tVar 5) (tCons (tVar 2) tNil))) (tC (.int 0)))) (tVar 4) [4, 5])))
def tX_reply (c : Cn) (E : XK) : TS := (tSeq (tDrop (tCallS (spX_check_play c) (WE (wE E)) (tCons (tVar 0) (tCons (tVar 1) (tCons (tVar 2) (tCons (tVar 3) tNil)))))) (tSeq (tAsg (tCall (sp_free_places c) [] C8.E0 (tCons (tVar 0) (tCons (tVar 2) (tCons (tVar 3) tNil)))) (gName 4)) (tSeq (tIfS (tTest (tOp (rEqA c.K) (tCB (rLenA c.K) (tCons (tVar 4) tNil)) (tC (.int 0)))) (tRet (tC .non)) tNext) (tSeq (tAsg (tCall (sp_other_place c) [] C8.E0 (tCons (tCall (sp_told c) [] C8.E0 (tCons (tVar 0) (tCons (tVar 1) tNil))) (tCons (tVar 2) tNil))) (gName 5)) (tRet (tIf (tTest (tOp (rIn c.K false) (tVar 5) (tVar 4))) (tVar 5) (tOp (rIx c.K) (tVar 4) (tC (.int 0)))))))))
def tX_told (c : Cn) (E : XK) : TS := (tSeq (tDrop (tCallS (spX_check_places c) (WE (wE E)) (tCons (tVar 0) tNil))) (tSeq (tDrop (tCallS (spX_check_lines c) (WE (wE E)) (tCons (tVar 0) (tCons (tVar 1) tNil)))) (tSeq (tAsg tDNewK (gName 2)) (tSeq (tFor (iRng1 (tCons (tCB (rLenA c.K) (tCons (tVar 1) tNil)) tNil)) (gName 3) (tFor (iRng1 (tCons (tC (.int 2)) tNil)) (gName 4) (tSeq (tAsg (tCall (sp_give_one_more c) [] C8.E0 (tCons (tVar 1) (tCons (tVar 2) (tCons (tVar 3) tNil)))) (gName 5)) (tIfS (tTest (tOp rGtI (tCB (rLenA c.K) (tCons (tVar 5) tNil)) (tC (.int 0)))) (tRet (tMake c.few (sp_few_init c) [] C8.E0 (tCons (tVar 5) tNil))) tNext)))) (tRet (tMake c.pairs (sp_pairs_init c) [] C8.E0 (tCons (tLc (iEnum c.K (tCons (tVar 1) tNil)) (gTup c.K 2 (gCons (gName 3) (gCons (gName 6) gNil))) tYes (tCall (sp_pair c) [] C8.E0 (tCons (tVar 6) (tCons (tVar 2) (tCons (tVar 3) tNil)))) [3, 6]) tNil)))))))
section
variable {c : Cn} {vs : List V} {H : Hp} {Q : VK} {E : XK} {σ : L2.St} {Hs : Hp} {ta tb tc td te : TE}
theorem Four.len {dp dl dh dm : Wd} (f : Four Hs H vs dp dl dh dm) : vs.length = 4 := by obtain ⟨⟨_, _, _, _, _, rfl, _⟩, _⟩ := f; rfl
theorem lnX_check_places (h : spX_check_places c vs H Q E) : vs.length = 1 := by obtain ⟨_, _, _, _, rfl, _⟩ := h; rfl
theorem lnX_check_lines (h : spX_check_lines c vs H Q E) : vs.length = 2 := by obtain ⟨_, _, _, _, _, rfl, _⟩ := h; rfl
theorem lnX_check_takings (h : spX_check_takings c vs H Q E) : vs.length = 3 := by obtain ⟨_, _, _, _, _, _, _, rfl, _⟩ := h; rfl
theorem lnX_check_play (h : spX_check_play c vs H Q E) : vs.length = 4 := by obtain ⟨_, _, _, _, _, f, _⟩ := h; exact f.len
theorem BadP.len (h : BadP c vs H E) : vs.length = 4 := by obtain ⟨_, _, _, _, _, _, f, _⟩ := h; exact f.len
theorem lnX_danger (h : spX_danger c vs H Q E) : vs.length = 4 := h.elim (fun h => ln_danger h) fun h => h.len
theorem lnX_worths (h : spX_worths c vs H Q E) : vs.length = 4 := h.elim (fun h => ln_worths h) fun h => h.len
theorem lnX_sure (h : spX_sure c vs H Q E) : vs.length = 4 := h.elim (fun h => ln_sure h) fun h => h.len
theorem lnX_best (h : spX_best c vs H Q E) : vs.length = 4 := h.elim (fun h => ln_best h) fun h => h.len
theorem lnX_full (h : spX_full c vs H Q E) : vs.length = 4 := h.elim (fun h => ln_full h) fun h => h.len
theorem lnX_reply (h : spX_reply c vs H Q E) : vs.length = 4 := h.elim (fun h => ln_reply h) fun h => h.len
theorem lnX_told (h : spX_told c vs H Q E) : vs.length = 2 := h.elim (fun h => ln_told h) fun h => by obtain ⟨_, _, _, _, _, _, rfl, _⟩ := h; rfl
/-- a test, then one of two -/
theorem q_ifX {tt : TT} {tu tz : TS} {D : Ends} {b : Bool} (h : EvT tt σ Hs b) (e : Ex Hs H) (h1 : b = true → ∀ H2, Ex H H2 → tu { D with nx := tz D } σ H2) (h2 : b = false → ∀ H2, Ex H H2 → tz D σ H2) : tSeq (tIfS tt tu tNext) tz D σ H := q_whenB h e h1 h2
theorem rdX_check_places (h : spX_check_places c vs H Q E) : tX_check_places c E { nx := fun _ H' => Q .non H', rt := Q } (start ["places"] vs) H := by
  obtain ⟨Hs, v, d, e, rfl, hd, k1, k2⟩ := h
  have ht : EvT (tNot (tAnd (tB (tCall (sp_is_whole c) [] C8.E0 (tCons (tVar 0) tNil))) (tTest (tChain rLeI rLeI (tC (.int 1)) (tVar 0) (tC (.int 60)))))) [some v] Hs (!okPl d) := by
    refine et_not (et_and (et_B (call_is_whole (ec_var rfl hd))) fun hw => ?_)
    cases d with
    | int i =>
      cases hd
      exact et_test (ev_chain (k := decide (1 ≤ i)) (m := decide (i ≤ 60)) ev_c (ev_var rfl) rv_I0 (fun _ => ev_c) fun _ => rv_I0)
    | _ => cases hw
  cases hok : okPl d with
  | true =>
    rw [hok] at ht
    exact s_no ht e (k1 hok)
  | false =>
    rw [hok] at ht
    exact s_whenB ht e (fun _ H2 e2 => k2 hok H2 e2) (fun z => nomatch z)
theorem rdX_check_lines (h : spX_check_lines c vs H Q E) : tX_check_lines c E { nx := fun _ H' => Q .non H', rt := Q } (start ["places", "lines", "line"] vs) H := by
  obtain ⟨Hs, P, v, d, e, rfl, hd, sm, k1, k2⟩ := h
  have hlen := smW.len sm
  have ht : EvT (tOr (tNot (tB (tCB (rIsi c.K) (tCons (tVar 1) (tCons (tC (.ty "list")) tNil))))) (tTest (tOp rGtI (tCB (rLenA c.K) (tCons (tVar 1) tNil)) (tC (.int 60))))) [some (.int P), some v, none] Hs (!isL d || decide (60 < ((wItems d).length : Int))) := by
    refine et_or (EvT_to (et_not (et_B (ev_isi ty_list (ec_var rfl hd)))) (by rw [list_eq])) fun hl => ?_
    cases d with
    | lst l => exact et_test (ev_gt (ev_lenC (c := cW) (l := l) (ec_var rfl (cW_lst hd))) ev_c)
    | _ => cases hl
  refine q_ifX ht e (fun hb H2 e2 => k2 ?_ H2 e2) fun hb H2 e2 => ?_
  · unfold okLn
    cases hl : isL d with
    | false => rfl
    | true =>
      rw [hl] at hb
      have : (60 : Int) < ((wItems d).length : Int) := by simpa using hb
      rw [decide_eq_false (show ¬ (wItems d).length ≤ 60 by omega)]
      rfl
  · rw [Bool.or_eq_false_iff, Bool.not_eq_false'] at hb
    have h60 : (wItems d).length ≤ 60 := by have := of_decide_eq_false hb.2; omega
    cases d with
    | lst l =>
      have ht2 : EvT (tNot (tB (tCB (rAll c.K) (tCons (tLc (iList c.K (tVar 1)) (gName 2) tYes (tCall (sp_is_line c) [] C8.E0 (tCons (tVar 0) (tCons (tVar 2) tNil))) [2]) tNil)))) [some (.int P), some v, none] Hs (!okLn P (.lst l)) := by
        refine EvT_to (et_not (et_B (ev_all (EvF.toC (ef_mapN (d := cB) (ei_list (c := cW) (l := l) (ec_var rfl (cW_lst hd))) (wLine P) (by show l.length ≤ 40000; exact Nat.le_trans h60 (by decide)) fun a x Hs' ha e' ca => c_evB (call_is_line (ev_var rfl) (ec_var rfl ca) (Nat.le_trans (smW.items (d := .lst l) sm ha) (by decide)))))))) ?_
        unfold okLn
        rw [List.all_map, decide_eq_true h60]
        rfl
      cases hok : okLn P (.lst l) with
      | true =>
        rw [hok] at ht2
        exact s_no ht2 (e.trans e2) (on_v (k1 hok) e2)
      | false =>
        rw [hok] at ht2
        exact s_whenB ht2 (e.trans e2) (fun _ H3 e3 => k2 hok H3 (e2.trans e3)) (fun z => nomatch z)
    | _ => cases hb.1
theorem rdX_check_takings (h : spX_check_takings c vs H Q E) : tX_check_takings c E { nx := fun _ H' => Q .non H', rt := Q } (start ["places", "his", "mine", "taken"] vs) H := by
  obtain ⟨Hs, P, u, v, dh, dm, e, rfl, h1, h2, s1, s2, k1, k2⟩ := h
  have z1 := smW.len s1
  have z2 := smW.len s2
  refine q_ifX (et_not (et_and (et_B (call_is_places (ev_var rfl) (ec_var rfl h1) (by omega))) fun _ => et_B (call_is_places (ev_var rfl) (ec_var rfl h2) (by omega)))) e (fun hb H2 e2 => k2 ?_ H2 e2) fun hb H2 e2 => ?_
  · unfold okTk
    rw [Bool.not_eq_true'] at hb
    rw [← Bool.and_assoc, hb, Bool.false_and]
  · rw [Bool.not_eq_false', Bool.and_eq_true] at hb
    obtain ⟨hs, rfl, _⟩ := places_ints hb.1
    obtain ⟨ms, rfl, _⟩ := places_ints hb.2
    have l1 : hs.length ≤ 200 := by simpa [wItems] using z1
    have l2 : ms.length ≤ 200 := by simpa [wItems] using z2
    refine q_setP (EvF.toC (ef_cat (ec_var rfl (cW_ints h1)) (ec_var rfl (cW_ints h2)) (by omega))) (e.trans e2) fun w H3 Hs3 g hw => ?_
    have hl : (hs ++ ms).length ≤ 4000 := by
      rw [List.length_append]
      omega
    have hv : okTk P (.lst (hs.map .int)) (.lst (ms.map .int)) = decide ((dd (hs ++ ms)).length = (hs ++ ms).length) := by
      unfold okTk
      rw [hb.1, hb.2, show wItems (.lst (hs.map .int)) = hs.map .int from rfl, show wItems (.lst (ms.map .int)) = ms.map .int from rfl, ints_wInt, ints_wInt, List.length_map, List.length_map, List.length_append]
      rfl
    have ht := et_test (ev_neI (K := c.K) (ev_lenSet (K := c.K) (w := c.w) (ec_var (i := 3) (σ := ([some (.int P), some u, some v, none] : L2.St).set 3 (some w)) rfl hw) hl) (ev_lenC (c := cI) (K := c.K) (ec_var (i := 3) (σ := ([some (.int P), some u, some v, none] : L2.St).set 3 (some w)) rfl hw)))
    have hd : decide ((((dd (hs ++ ms)).length : Nat) : Int) = ((hs ++ ms).length : Int)) = decide ((dd (hs ++ ms)).length = (hs ++ ms).length) := decide_eq_decide.mpr (by omega)
    rw [hd, ← hv] at ht
    cases hok : okTk P (.lst (hs.map .int)) (.lst (ms.map .int)) with
    | true =>
      rw [hok] at ht
      exact s_no ht g.i (on_v (k1 hok) (e2.trans g.b))
    | false =>
      rw [hok] at ht
      exact s_whenB ht g.i (fun _ H4 e4 => k2 hok H4 ((e2.trans g.b).trans e4)) (fun z => nomatch z)
theorem rdX_check_play (h : spX_check_play c vs H Q E) : tX_check_play c E { nx := fun _ H' => Q .non H', rt := Q } (start ["places", "lines", "his", "mine"] vs) H := by
  obtain ⟨Hs, dp, dl, dh, dm, ⟨⟨u, v, w, x, e, rfl, h1, h2, h3, h4⟩, sl, sh, sm⟩, k1, k2⟩ := h
  refine ⟨u, rfl, Hs, u, dp, e, rfl, h1, fun hp H2 e2 => ?_, fun hp => k2 0 (by unfold verd; rw [if_pos hp])⟩
  have hint : ∃ P : Int, dp = .int P := by
    cases dp with
    | int i => exact ⟨i, rfl⟩
    | _ => cases hp
  obtain ⟨P, rfl⟩ := hint
  cases h1
  have np : ¬ okPl (.int P) = false := by rw [hp]; decide
  refine ⟨.int P, rfl, v, rfl, Hs, P, v, dl, e.trans e2, rfl, h2, sl, fun hl H3 e3 => ?_, fun hl H3 e3 => k2 1 (by unfold verd; rw [if_neg np, if_pos (show okLn (wInt (.int P)) dl = false from hl)]) H3 (e2.trans e3)⟩
  have nl : ¬ okLn (wInt (.int P)) dl = false := by rw [show okLn (wInt (.int P)) dl = true from hl]; decide
  exact ⟨.int P, rfl, w, rfl, x, rfl, Hs, P, w, x, dh, dm, (e.trans e2).trans e3, rfl, h3, h4, sh, sm, fun ht H4 e4 => k1 (by unfold verd; rw [if_neg np, if_neg nl, if_neg (by rw [show okTk (wInt (.int P)) dh dm = true from ht]; decide)]) H4 ((e2.trans e3).trans e4),
    fun ht H4 e4 => k2 2 (by unfold verd; rw [if_neg np, if_neg nl, if_pos (show okTk (wInt (.int P)) dh dm = false from ht)]) H4 ((e2.trans e3).trans e4)⟩
/-! lists of lines as things -/
theorem lines_cW {ls : List (List Int)} {v : V} (h : cL (cL cI) ls H v) : cW (.lst (ls.map fun l => .lst (l.map .int))) H v := by
  obtain ⟨a, xs, rfl, h1, h2⟩ := h
  refine .lst h1 (paired_cws ?_)
  clear h1
  induction h2 with
  | nil => exact .nil
  | cons h t ih => exact .cons (ints_cW h) ih
theorem smW_ints {l : List Int} (h : l.length ≤ 200) : smW (.lst (l.map .int)) = true := by
  unfold smW
  rw [Bool.and_eq_true, List.all_eq_true]
  refine ⟨decide_eq_true (by show (l.map Wd.int).length ≤ 200; rw [List.length_map]; exact h), fun x hx => ?_⟩
  have hx' : x ∈ l.map Wd.int := hx
  obtain ⟨i, _, rfl⟩ := List.mem_map.mp hx'
  rfl
theorem smW_lines {ls : List (List Int)} (h : ls.length ≤ 200) (h2 : ∀ l ∈ ls, l.length ≤ 200) : smW (.lst (ls.map fun l => .lst (l.map .int))) = true := by
  unfold smW
  rw [Bool.and_eq_true, List.all_eq_true]
  refine ⟨decide_eq_true (by show (ls.map fun l => Wd.lst (l.map .int)).length ≤ 200; rw [List.length_map]; exact h), fun x hx => ?_⟩
  have hx' : x ∈ ls.map fun l => Wd.lst (l.map .int) := hx
  obtain ⟨l, hl, rfl⟩ := List.mem_map.mp hx'
  exact decide_eq_true (by show (l.map Wd.int).length ≤ 200; rw [List.length_map]; exact h2 l hl)
theorem okLn_lines {P : Int} {ls : List (List Int)} (ok : OkLines P ls) : okLn P (.lst (ls.map fun l => .lst (l.map .int))) = true := by
  unfold okLn
  rw [Bool.and_eq_true, Bool.and_eq_true, List.all_eq_true]
  refine ⟨rfl, decide_eq_true (by show (ls.map fun l => Wd.lst (l.map .int)).length ≤ 60; rw [List.length_map]; exact ok.few), fun x hx => ?_⟩
  have hx' : x ∈ ls.map fun l => Wd.lst (l.map .int) := hx
  obtain ⟨l, hl, rfl⟩ := List.mem_map.mp hx'
  exact okLine_w (ok.ok l hl)
theorem okTk_ints {P : Int} {hs ms : List Int} (ok : OkTake P hs ms) : okTk P (.lst (hs.map .int)) (.lst (ms.map .int)) = true := by
  unfold okTk
  rw [okInts_w ok.h, okInts_w ok.m, show wItems (.lst (hs.map .int)) = hs.map .int from rfl, show wItems (.lst (ms.map .int)) = ms.map .int from rfl, ints_wInt, ints_wInt, List.length_map, List.length_map, dd_id ok.nd, List.length_append, decide_eq_true rfl]
  rfl
theorem okPl_int {P : Int} (h : 1 ≤ P ∧ P ≤ 60) : okPl (.int P) = true := by
  unfold okPl
  rw [show wInt (.int P) = P from rfl, decide_eq_true h.1, decide_eq_true h.2]
  rfl
theorem spX_of_play {Q : VK} {E : XK} (h : sp_check_play c vs H Q C8.E0) : spX_check_play c vs H Q E := by
  obtain ⟨Hs, P, ls, hs, ms, ⟨u, v, w, e, rfl, h1, h2, h3, b⟩, k⟩ := h
  have hv : verd (.int P) (.lst (ls.map fun l => .lst (l.map .int))) (.lst (hs.map .int)) (.lst (ms.map .int)) = none := by
    unfold verd
    rw [if_neg (by rw [okPl_int b.p]; decide), if_neg (by rw [show wInt (.int P) = P from rfl, okLn_lines b.l]; decide), if_neg (by rw [show wInt (.int P) = P from rfl, okTk_ints b.t]; decide)]
  have f1 := b.l.few
  have f2 := b.t.few
  exact ⟨Hs, _, _, _, _, ⟨⟨_, u, v, w, e, rfl, CW.int P, lines_cW h1, ints_cW h2, ints_cW h3⟩, smW_lines (by omega) (fun l hl => Nat.le_trans (b.l.ok l hl).few (by decide)), smW_ints (by omega), smW_ints (by omega)⟩, fun _ => k, fun n hn => by rw [hv] at hn; cases hn⟩
abbrev tPlay4 : TA := tCons (tVar 0) (tCons (tVar 1) (tCons (tVar 2) (tCons (tVar 3) tNil)))
theorem up_play {W : WX} {tz : TS} {D : Ends} (h : tSeq (tDrop (tCall (sp_check_play c) [] C8.E0 tPlay4)) tz D σ H) : tSeq (tDrop (tCallS (spX_check_play c) (WE W) tPlay4)) tz D σ H := by
  obtain ⟨v0, h0, v1, h1, v2, h2, v3, h3, hsp⟩ := h
  exact ⟨v0, h0, v1, h1, v2, h2, v3, h3, spX_of_play hsp⟩
theorem bad_play {tz : TS} {D : Ends} {N : List Str} (h : BadP c vs H E) (hN : ∀ u v w x, vs = [u, v, w, x] → (start N vs)[0]? = some (some u) ∧ (start N vs)[1]? = some (some v) ∧ (start N vs)[2]? = some (some w) ∧ (start N vs)[3]? = some (some x)) :
    tSeq (tDrop (tCallS (spX_check_play c) (WE (wE E)) tPlay4)) tz D (start N vs) H := by
  obtain ⟨Hs, dp, dl, dh, dm, n, f, hv, k⟩ := h
  obtain ⟨u, v, w, x, e, rfl, hf⟩ := f.ex
  obtain ⟨a0, a1, a2, a3⟩ := hN u v w x rfl
  exact ⟨u, a0, v, a1, w, a2, x, a3, Hs, dp, dl, dh, dm, f, (fun z => absurd (hv.symm.trans z) (by simp)), fun m hm => by
    rw [hv] at hm
    cases hm
    exact k⟩
theorem start4 {N : List Str} (hN : N.length = 4 + (N.length - 4)) : ∀ u v w x : V, vs = [u, v, w, x] → (start N vs)[0]? = some (some u) ∧ (start N vs)[1]? = some (some v) ∧ (start N vs)[2]? = some (some w) ∧ (start N vs)[3]? = some (some x) := by
  rintro u v w x rfl
  exact ⟨rfl, rfl, rfl, rfl⟩
theorem up_told {W : WX} {tz : TS} {D : Ends} (h : tSeq (tDrop (tCall (sp_check_places c) [] C8.E0 (tCons (tVar 0) tNil))) (tSeq (tDrop (tCall (sp_check_lines c) [] C8.E0 (tCons (tVar 0) (tCons (tVar 1) tNil)))) tz) D σ H) :
    tSeq (tDrop (tCallS (spX_check_places c) (WE W) (tCons (tVar 0) tNil))) (tSeq (tDrop (tCallS (spX_check_lines c) (WE W) (tCons (tVar 0) (tCons (tVar 1) tNil)))) tz) D σ H := by
  obtain ⟨v0, h0, P, hv, hP, k⟩ := h
  cases hv
  refine ⟨_, h0, H, _, .int P, Ex.refl H, rfl, CW.int P, fun _ H1 e1 => ?_, fun z => absurd (okPl_int hP) (by rw [z]; decide)⟩
  obtain ⟨w0, g0, w1, g1, Hs, P2, v, ls, e, hv2, hl, ok, k2⟩ := k H1 e1
  cases hv2
  have f1 := ok.few
  exact ⟨_, g0, _, g1, Hs, P2, _, _, e, rfl, lines_cW hl, smW_lines (by omega) (fun l hl => Nat.le_trans (ok.ok l hl).few (by decide)), fun _ => k2, fun z => absurd (okLn_lines ok) (by rw [z]; decide)⟩
theorem bad_told {tz : TS} {D : Ends} (h : BadT c vs H E) (hσ : ∀ u v, vs = [u, v] → σ[0]? = some (some u) ∧ σ[1]? = some (some v)) :
    tSeq (tDrop (tCallS (spX_check_places c) (WE (wE E)) (tCons (tVar 0) tNil))) (tSeq (tDrop (tCallS (spX_check_lines c) (WE (wE E)) (tCons (tVar 0) (tCons (tVar 1) tNil)))) tz) D σ H := by
  obtain ⟨Hs, u, v, dp, dl, e, hvs, h1, h2, sl, hk⟩ := h
  obtain ⟨a0, a1⟩ := hσ u v hvs
  refine ⟨u, a0, Hs, u, dp, e, rfl, h1, fun hp H2 e2 => ?_, fun hp => ?_⟩
  · rcases hk with ⟨z, _⟩ | ⟨_, hl, k⟩
    · rw [hp] at z; cases z
    · have hint : ∃ P : Int, dp = .int P := by
        cases dp with
        | int i => exact ⟨i, rfl⟩
        | _ => cases hp
      obtain ⟨P, rfl⟩ := hint
      cases h1
      exact ⟨_, a0, v, a1, Hs, P, v, dl, e.trans e2, rfl, h2, sl, fun z => absurd hl (by rw [show okLn (wInt (.int P)) dl = true from z]; decide), fun _ H3 e3 => k H3 (e2.trans e3)⟩
  · rcases hk with ⟨_, k⟩ | ⟨z, _⟩
    · exact k
    · rw [hp] at z; cases z
theorem rdX_danger (h : spX_danger c vs H Q E) : tX_danger c E { nx := fun _ H' => Q .non H', rt := Q } (start ["places", "lines", "his", "mine"] vs) H := h.elim (fun h => up_play (rd_danger h)) fun h => bad_play h (start4 rfl)
theorem rdX_worths (h : spX_worths c vs H Q E) : tX_worths c E { nx := fun _ H' => Q .non H', rt := Q } (start ["places", "lines", "his", "mine", "units", "pairs", "place"] vs) H := h.elim (fun h => up_play (rd_worths h)) fun h => bad_play h (start4 rfl)
theorem rdX_sure (h : spX_sure c vs H Q E) : tX_sure c E { nx := fun _ H' => Q .non H', rt := Q } (start ["places", "lines", "his", "mine", "total"] vs) H := h.elim (fun h => up_play (rd_sure h)) fun h => bad_play h (start4 rfl)
theorem rdX_best (h : spX_best c vs H Q E) : tX_best c E { nx := fun _ H' => Q .non H', rt := Q } (start ["places", "lines", "his", "mine", "units", "chosen", "place"] vs) H := h.elim (fun h => up_play (rd_best h)) fun h => bad_play h (start4 rfl)
theorem rdX_full (h : spX_full c vs H Q E) : tX_full c E { nx := fun _ H' => Q .non H', rt := Q } (start ["places", "lines", "his", "mine", "count", "line"] vs) H := h.elim (fun h => up_play (rd_full h)) fun h => bad_play h (start4 rfl)
theorem rdX_reply (O : Ob c) (h : spX_reply c vs H Q E) : tX_reply c E { nx := fun _ H' => Q .non H', rt := Q } (start ["places", "lines", "his", "mine", "free", "other"] vs) H := h.elim (fun h => up_play (rd_reply O h)) fun h => bad_play h (start4 rfl)
theorem rdX_told (h : spX_told c vs H Q E) : tX_told c E { nx := fun _ H' => Q .non H', rt := Q } (start ["places", "lines", "owners", "count", "_", "short", "line"] vs) H := h.elim (fun h => up_told (rd_told h)) fun h => bad_told h (by rintro u v rfl; exact ⟨rfl, rfl⟩)
end
/-! the three errors -/
structure ErrC (c : Cn) (C : Addr) (n : Nat) : Prop where
  ex : PySem.W.excIn c.K C [.type "ValueError", .type "Exception", .type "BaseException", .type "object"] "ValueError.__new__" = true
  kp : PySem.W.keepIn c.K (.ref C) = true
  sb : PySem.W.subIn c.K (.ref C) (.type "BaseException") = some true
  ty : PySem.W.typeIn c.K (.ref C) = some (.type "type")
  cat : PySem.W.exmOne c.K (.ref C) (.ref c.lineError) = some true
  is_ : ExcC c.K C
  ve : PySem.W.kitOne c.K (.ref C) (.type "ValueError") = some true
  qP : PySem.W.kitOne c.K (.ref C) (.ref c.badPlaces) = some (decide (n = 0))
  qL : PySem.W.kitOne c.K (.ref C) (.ref c.badLines) = some (decide (n = 1))
  qT : PySem.W.kitOne c.K (.ref C) (.ref c.badTakings) = some (decide (n = 2))
structure ObX (c : Cn) : Prop where
  badPlaces : ErrC c c.badPlaces 0
  badLines : ErrC c c.badLines 1
  badTakings : ErrC c c.badTakings 2
theorem ObX.of {c : Cn} (o : ObX c) : ∀ n : Nat, n < 3 → ErrC c (errA c n) n
  | 0, _ => o.badPlaces
  | 1, _ => o.badLines
  | 2, _ => o.badTakings
  | n + 3, h => absurd h (by omega)
theorem verd_lt {dp dl dh dm : Wd} {n : Nat} (h : verd dp dl dh dm = some n) : n < 3 := by
  unfold verd at h
  split at h
  · cases h; decide
  · split at h
    · cases h; decide
    · split at h
      · cases h; decide
      · cases h
end LH

namespace LH
open PySem L2 Evl PyProof.Rows
/-! ### things as they are written -/
section
variable {α : Type} {d : Cd α} {c : Cn} {vs : List V} {H : Hp} {Q : VK} {E : XK} {σ : L2.St} {Hs Hs0 H0 Ho Hi : Hp} {ta tb tc td te : TE} {targ : TA} {K : PySem.W.Frag} {D : Ends} {tz : TS} {i j : Nat} {b : Bool} {n : Int} {s : Str} {l : List Wd} {tt : TT}
theorem w_non : EvC (tC .non) σ Hs cW .non := ep_ev ev_c CW.non
theorem w_bl : EvC (tC (.bl b)) σ Hs cW (.bl b) := ep_ev ev_c (CW.bl b)
theorem w_str : EvC (tC (.str s)) σ Hs cW (.str s) := ep_ev ev_c (CW.str s)
theorem w_int (h : Ev te σ Hs (.int n)) : EvC te σ Hs cW (.int n) := ep_ev h (CW.int n)
theorem w_lst (h : EvCs targ σ Hs cW l) (hl : l.length ≤ 40000) : EvC (tLst targ) σ Hs cW (.lst l) := EvP.imp (ec_lst h hl) fun _ _ _ z => lst_cW z
theorem w_tup (h : EvCs targ σ Hs cW l) (hl : l.length ≤ 40000) : EvC (tTup targ) σ Hs cW (.tup l) := EvP.imp (ep_tup h fun vs H p => by rw [← p.length]; exact hl) fun v H _ hv => by
  obtain ⟨a, vs, Hb, rfl, h1, e, p⟩ := hv
  exact CW.tup h1 (paired_cws (paired_mo e p))
theorem w_dct : EvC tDNewK σ Hs cW .dct := fun H e Q q => fun p hp => q (.ref p) _ (upd Hs p (.dK [])) ((Grow.up e (Ex.new hp)).know hp upd_same) (CW.dct upd_same)
theorem Paired.set {α β : Type} {F : α → β → Prop} {a : α} {x : β} (h : F a x) : ∀ {l : List α} {xs : List β} {j : Nat}, Paired F l xs → Paired F (l.set j a) (xs.set j x)
  | _, _, _, .nil => .nil
  | _, _, 0, .cons _ t => .cons h t
  | _, _, _ + 1, .cons z t => .cons z (Paired.set h t)
/-- l[i] = e, l one's own -/
theorem q_oSetL {p : Addr} {xs : List V} {v : V} (w : Own Hs0 H0 Ho Hi H) (hp : Ho p = some (.lst xs)) (hv : Ev te σ (kn Ho Hi) v) (ho : Ev ta σ (kn Ho Hi) (.ref p)) (hi : Ev tb σ (kn Ho Hi) (.int (j : Int))) (hj : j < xs.length) (k : ∀ H2, Own Hs0 H0 (upd Ho p (.lst (xs.set j v))) Hi H2 → tz D σ H2) :
    tSeq (tAsg te (gSub ta tb rSetL)) tz D σ H := hv H w.ek _ fun H1 e1 => ho H1 (w.ek.trans e1) _ fun H2 e2 => hi H2 ((w.ek.trans e1).trans e2) _ fun H3 e3 =>
  have w3 := w.up ((e1.trans e2).trans e3)
  ⟨p, xs, (j : Int), j, rfl, rfl, (w3.o p _ hp).2.2, ixN_nat hj, k _ (w3.mut hp)⟩
/-! steps that may refuse -/
theorem ret_ifX (h : EvT tt σ Hs b) (e : Ex Hs H) (h1 : ∀ H2, Ex H H2 → ta σ H2 D.rt) (h2 : ∀ H2, Ex H H2 → tb σ H2 D.rt) : tRet (tIf tt ta tb) D σ H := h H e _ fun H2 e2 => by
  cases b with
  | true => rw [if_pos rfl]; exact h1 H2 e2
  | false => rw [if_neg (by decide)]; exact h2 H2 e2
theorem drop_ifX (h : EvT tt σ Hs b) (e : Ex Hs H) (h1 : ∀ H2, Ex H H2 → ta σ H2 (fun _ H' => D.nx σ H')) (h2 : ∀ H2, Ex H H2 → tb σ H2 (fun _ H' => D.nx σ H')) : tDrop (tIf tt ta tb) D σ H := h H e _ fun H2 e2 => by
  cases b with
  | true => rw [if_pos rfl]; exact h1 H2 e2
  | false => rw [if_neg (by decide)]; exact h2 H2 e2
theorem RetE.on {C : Addr} {H2 : Hp} (k : RetE C H E) (e : Ex H H2) : RetE C H2 E := fun H3 e3 => k H3 (e.trans e3)
theorem BadP.on {H2 : Hp} (h : BadP c vs H E) (e : Ex H H2) : BadP c vs H2 E := by
  obtain ⟨Hs, dp, dl, dh, dm, n, ⟨⟨u, v, w, x, e0, hv, h4⟩, a, b, d⟩, hn, k⟩ := h
  exact ⟨Hs, dp, dl, dh, dm, n, ⟨⟨u, v, w, x, e0.trans e, hv, h4⟩, a, b, d⟩, hn, k.on e⟩
/-- the suite's look at its error -/
theorem ev_isX {C : Addr} {n : Nat} {a : Addr} {x : V} {cv : Value} {k : Bool} (ec : ErrC c C n) (h : σ[i]? = some (some (.ref a))) (hx : ∀ u, RelV x u → u = cv) (hk : PySem.W.kitOne c.K (.ref C) cv = some k) :
    Ev (tCB (rIsX c.K a (.ref C) none) (tCons (tVar i) (tCons (tC x) tNil))) σ Hs (.bl k) := fun H e Q q => ⟨_, h, C, rfl, rfl, ec.is_, x, cv, k, rfl, hx, hk, q H (Ex.refl H)⟩
end
end LH
namespace K05
open PySem L2 Evl PyProof.Rows LH
def spX_law_with_board (c : Cn) : Sp := fun vs H Q E => ∃ (z : Int) (vs' : List V), vs = .int z :: vs' ∧ BadP c vs' H E
def BadL (v : V) (H : Hp) : Prop := ∃ d, cW d H v ∧ smW d = true ∧ okLn 4 d = false
def sp_law_bad_lines (_ : Cn) : Sp := fun vs H Q _ => ∃ (Hs : Hp) (a m : Int), Ex Hs H ∧ vs = [.int a, .int m] ∧ 0 ≤ a ∧ 0 ≤ m ∧ RetP Hs H BadL Q
def dueL (k : Int) : List Bool := [decide (k = 0), decide (k = 1), decide (k = 2), true]
def sp_law_told (_ : Cn) : Sp := fun vs H Q _ => ∃ (Hs : Hp) (k a m : Int), Ex Hs H ∧ vs = [.int k, .int a, .int m] ∧ (0 ≤ k ∧ k < 3) ∧ 0 ≤ a ∧ 0 ≤ m ∧ RetC Hs H (cL cB) (dueL k) Q
def sp_main (c : Cn) : Sp := fun vs H Q _ => ∃ (Hs : Hp) (u : V) (ns : List Int), Ex Hs H ∧ vs = [u] ∧ cS c.K ns Hs u ∧ Bits ns ∧ ns.length ≤ 63 ∧ RetV (.bl true) H Q
def tX_law_with_board (c : Cn) (E : XK) : TS := (tSeq (tIfS (tTest (tOp rLtI (tVar 0) (tC (.int 2)))) (tRet (tIf (tTest (tOp (rEqA c.K) (tVar 0) (tC (.int 0)))) (tCallS (spX_danger c) (WE (wE E)) (tCons (tVar 1) (tCons (tVar 2) (tCons (tVar 3) (tCons (tVar 4) tNil))))) (tCallS (spX_worths c) (WE (wE E)) (tCons (tVar 1) (tCons (tVar 2) (tCons (tVar 3) (tCons (tVar 4) tNil))))))) tNext) (tSeq (tIfS (tTest (tOp rLtI (tVar 0) (tC (.int 4)))) (tRet (tIf (tTest (tOp (rEqA c.K) (tVar 0) (tC (.int 2)))) (tCallS (spX_sure c) (WE (wE E)) (tCons (tVar 1) (tCons (tVar 2) (tCons (tVar 3) (tCons (tVar 4) tNil))))) (tCallS (spX_best c) (WE (wE E)) (tCons (tVar 1) (tCons (tVar 2) (tCons (tVar 3) (tCons (tVar 4) tNil))))))) tNext) (tRet (tIf (tTest (tOp (rEqA c.K) (tVar 0) (tC (.int 4)))) (tCallS (spX_full c) (WE (wE E)) (tCons (tVar 1) (tCons (tVar 2) (tCons (tVar 3) (tCons (tVar 4) tNil))))) (tCallS (spX_reply c) (WE (wE E)) (tCons (tVar 1) (tCons (tVar 2) (tCons (tVar 3) (tCons (tVar 4) tNil)))))))))
def t_law_bad_lines (c : Cn) : TS := (tSeq (tAsg (tLst (tCons (tC .non) (tCons (tTup tNil) (tCons (tC (.str "01")) (tCons (tC (.int 5)) (tCons tDNewK (tCons (tLst (tCons (tC .non) tNil)) (tCons (tLst (tCons (tC (.int 0)) tNil)) (tCons (tLst (tCons (tTup (tCons (tC (.int 0)) (tCons (tC (.int 1)) tNil))) tNil)) (tCons (tLst (tCons (tLst tNil) tNil)) (tCons (tLst (tCons (tLst (tCons (tC (.int 1)) (tCons (tC (.int 0)) tNil))) tNil)) (tCons (tLst (tCons (tLst (tCons (tC (.int 1)) (tCons (tC (.int 1)) tNil))) tNil)) (tCons (tLst (tCons (tLst (tCons (tC (.int 0)) (tCons (tC (.int 4)) tNil))) tNil)) (tCons (tLst (tCons (tLst (tCons (tUn rNegU (tC (.int 1))) (tCons (tC (.int 2)) tNil))) tNil)) (tCons (tLst (tCons (tLst (tCons (tC (.str "0")) tNil)) tNil)) tNil))))))))))))))) (gName 2)) (tSeq (tAsg (tOp (rCatL c.K) (tVar 2) (tLst (tCons (tLst (tCons (tLst (tCons (tC (.int 0)) (tCons (tC (.bl true)) tNil))) tNil)) (tCons (tLst (tCons (tLst (tCons (tC .non) tNil)) tNil)) (tCons (tOp rRep (tLst (tCons (tLst (tCons (tC (.int 0)) (tCons (tC (.int 1)) tNil))) tNil)) (tC (.int 61))) (tCons (tLst (tCons (tLst (tCons (tC (.int 0)) (tCons (tC (.int 1)) tNil))) (tCons (tC (.str "1")) tNil))) tNil)))))) (gName 2)) (tSeq (tIfS (tTest (tOp rLtI (tOp rModI (tVar 0) (tC (.int 26))) (tC (.int 18)))) (tRet (tOp (rIx c.K) (tVar 2) (tOp rModI (tVar 0) (tC (.int 26))))) tNext) (tSeq (tAsg (tLc (iRng1 (tCons (tOp rAddI (tC (.int 1)) (tOp rModI (tVar 1) (tC (.int 50)))) tNil)) (gName 4) tYes (tLst (tCons (tOp rModI (tVar 4) (tC (.int 3))) (tCons (tC (.int 3)) tNil))) [4]) (gName 3)) (tSeq (tAsg (tOp (rIx c.K) (tLst (tCons (tC .non) (tCons (tLst (tCons (tC (.int 3)) (tCons (tC (.int 0)) tNil))) (tCons (tLst (tCons (tC (.int 2)) (tCons (tC (.int 2)) tNil))) (tCons (tLst (tCons (tC (.int 0)) (tCons (tOp rAddI (tC (.int 4)) (tVar 1)) tNil))) (tCons (tLst (tCons (tC (.bl true)) (tCons (tC (.int 2)) tNil))) (tCons (tLst tNil) (tCons (tTup (tCons (tC (.int 0)) (tCons (tC (.int 1)) tNil))) (tCons (tLst (tCons (tOp rSubI (tUn rNegU (tC (.int 1))) (tVar 1)) tNil)) tNil))))))))) (tOp rSubI (tOp rModI (tVar 0) (tC (.int 26))) (tC (.int 18)))) (gName 5)) (tSeq (tAsg (tVar 5) (gSub (tVar 3) (tOp rModI (tOp rDivI (tVar 0) (tC (.int 26))) (tCB (rLenA c.K) (tCons (tVar 3) tNil))) rSetL)) (tRet (tVar 3))))))))
def t_law_told (c : Cn) : TS := (tSeq (tTryAs c.K (.ref c.lineError) 6 (fun W => (tIfS (tTest (tOp (rEqA c.K) (tVar 0) (tC (.int 0)))) (tSeq (tAsg (tOp (rIx c.K) (tLst (tCons (tC .non) (tCons (tC (.str "4")) (tCons (tC (.bl true)) (tCons (tC (.bl false)) (tCons (tLst (tCons (tC (.int 4)) tNil)) (tCons (tTup (tCons (tC (.int 4)) tNil)) (tCons (tC (.int 0)) (tCons (tOp rSubI (tUn rNegU (tC (.int 1))) (tVar 2)) (tCons (tC (.int 61)) (tCons (tOp rAddI (tC (.int 61)) (tVar 2)) tNil))))))))))) (tOp rModI (tVar 1) (tC (.int 10)))) (gName 3)) (tDrop (tIf (tTest (tOp (rEqA c.K) (tOp rModI (tOp rDivI (tVar 1) (tC (.int 10))) (tC (.int 7))) (tC (.int 6)))) (tCallS (spX_told c) (WE W) (tCons (tVar 3) (tCons (tC .non) tNil))) (tCallS (spX_law_with_board c) (WE W) (tCons (tOp rModI (tOp rDivI (tVar 1) (tC (.int 10))) (tC (.int 7))) (tCons (tVar 3) (tCons (tC .non) (tCons (tC .non) (tCons (tLst tNil) tNil))))))))) (tIfS (tTest (tOp (rEqA c.K) (tVar 0) (tC (.int 1)))) (tSeq (tAsg (tCall (sp_law_bad_lines c) [] C8.E0 (tCons (tVar 1) (tCons (tVar 2) tNil))) (gName 3)) (tDrop (tIf (tTest (tOp (rEqA c.K) (tOp rModI (tOp rDivI (tVar 1) (tC (.int 26))) (tC (.int 7))) (tC (.int 6)))) (tCallS (spX_told c) (WE W) (tCons (tC (.int 4)) (tCons (tVar 3) tNil))) (tCallS (spX_law_with_board c) (WE W) (tCons (tOp rModI (tOp rDivI (tVar 1) (tC (.int 26))) (tC (.int 7))) (tCons (tC (.int 4)) (tCons (tVar 3) (tCons (tC .non) (tCons (tLst (tCons (tC (.int 0)) (tCons (tC (.int 0)) tNil))) tNil))))))))) (tIfS (tTest (tOp rLtI (tOp rModI (tVar 1) (tC (.int 17))) (tC (.int 14)))) (tSeq (tAsg (tLst (tCons (tC .non) (tCons (tTup tNil) (tCons (tC (.str "0")) (tCons (tC (.int 5)) (tCons tDNewK (tCons (tLst (tCons (tC .non) tNil)) (tCons (tLst (tCons (tC (.str "0")) tNil)) (tCons (tLst (tCons (tC (.bl true)) tNil)) (tCons (tLst (tCons (tUn rNegU (tC (.int 1))) tNil)) (tCons (tLst (tCons (tOp rSubI (tUn rNegU (tC (.int 1))) (tVar 2)) tNil)) (tCons (tLst (tCons (tC (.int 4)) tNil)) (tCons (tLst (tCons (tOp rAddI (tC (.int 4)) (tVar 2)) tNil)) (tCons (tLst (tCons (tLst (tCons (tC (.int 0)) tNil)) tNil)) (tCons (tLst (tCons (tC (.int 0)) (tCons (tC (.int 0)) tNil))) tNil))))))))))))))) (gName 3)) (tSeq (tAsg (tOp (rIx c.K) (tVar 3) (tOp rModI (tVar 1) (tC (.int 17)))) (gName 3)) (tSeq (tAsg (tIf (tTest (tOp (rEqA c.K) (tOp rModI (tOp rDivI (tVar 1) (tC (.int 17))) (tC (.int 2))) (tC (.int 0)))) (tTup (tCons (tVar 3) (tCons (tLst tNil) tNil))) (tTup (tCons (tLst (tCons (tC (.int 2)) tNil)) (tCons (tVar 3) tNil)))) (gTup c.K 2 (gCons (gName 4) (gCons (gName 5) gNil)))) (tDrop (tCallS (spX_law_with_board c) (WE W) (tCons (tOp rModI (tOp rDivI (tVar 1) (tC (.int 34))) (tC (.int 6))) (tCons (tC (.int 4)) (tCons (tLst (tCons (tLst (tCons (tC (.int 0)) (tCons (tC (.int 1)) tNil))) (tCons (tLst (tCons (tC (.int 2)) tNil)) tNil))) (tCons (tVar 4) (tCons (tVar 5) tNil)))))))))) (tDrop (tCallS (spX_law_with_board c) (WE W) (tCons (tOp rModI (tOp rDivI (tVar 1) (tC (.int 17))) (tC (.int 6))) (tCons (tC (.int 4)) (tCons (tLst (tCons (tLst (tCons (tC (.int 0)) (tCons (tC (.int 1)) tNil))) (tCons (tLst (tCons (tC (.int 2)) tNil)) tNil))) (tCons (tLst (tCons (tC (.int 3)) (tCons (tOp rModI (tVar 2) (tC (.int 3))) tNil))) (tCons (tLst (tCons (tOp rModI (tVar 2) (tC (.int 3))) tNil)) tNil))))))))))) (fun a cls d => (tSeq (tAsg (tLst (tCons (tCB (rIsX c.K a cls d) (tCons (tVar 6) (tCons (tC (.ref c.badPlaces)) tNil))) (tCons (tCB (rIsX c.K a cls d) (tCons (tVar 6) (tCons (tC (.ref c.badLines)) tNil))) (tCons (tCB (rIsX c.K a cls d) (tCons (tVar 6) (tCons (tC (.ref c.badTakings)) tNil))) tNil)))) (gName 7)) (tRet (tOp (rCatL c.K) (tVar 7) (tLst (tCons (tCB (rIsX c.K a cls d) (tCons (tVar 6) (tCons (tC (.ty "ValueError")) tNil))) tNil))))))) (tRet (tLst tNil)))
def t_main (c : Cn) : TS := (tSeq (tFor (iList c.K (tVar 0)) (gName 1) (tSeq (tAsg (tOp rModI (tVar 1) (tC (.int 3))) (gName 2)) (tSeq (tAsg (tOp (rCatL c.K) (tLc (iRng1 (tCons (tC (.int 3)) tNil)) (gName 4) tYes (tOp (rEqA c.K) (tVar 2) (tVar 4)) [4]) (tLst (tCons (tC (.bl true)) tNil))) (gName 3)) (tIfS (tTest (tOp (rNeA c.K) (tCall (sp_law_told c) [] C8.E0 (tCons (tVar 2) (tCons (tOp rModI (tOp rDivI (tVar 1) (tC (.int 3))) (tC (.int 100000))) (tCons (tOp rModI (tOp rDivI (tVar 1) (tC (.int 300000))) (tC (.int 1000))) tNil)))) (tVar 3))) (tRet (tC (.bl false))) tNext)))) (tRet (tAndV (tOp (rEqA c.K) (tCall (sp_danger c) [] C8.E0 (tCons (tC (.int 60)) (tCons (tOp rRep (tLst (tCons (tLst (tCons (tC (.int 59)) tNil)) tNil)) (tC (.int 60))) (tCons (tLst tNil) (tCons (tLst tNil) tNil))))) (tTup (tCons (tC (.int 30)) (tCons (tC (.int 1)) tNil)))) (tOp (rEqA c.K) (tCall (sp_full c) [] C8.E0 (tCons (tC (.int 60)) (tCons (tLst (tCons (tLst (tCons (tC (.int 0)) tNil)) tNil)) (tCons (tLst (tCons (tC (.int 0)) tNil)) (tCons (tLst tNil) tNil))))) (tLst (tCons (tC (.int 0)) tNil))))))
section
variable {c : Cn} {vs : List V} {H : Hp} {Q : VK} {E : XK} {σ : L2.St} {Hs : Hp} {ta tb tc td te : TE}
theorem ln_main (h : sp_main c vs H Q E) : vs.length = 1 := by obtain ⟨_, _, _, _, rfl, _⟩ := h; rfl
theorem ln_law_bad_lines (h : sp_law_bad_lines c vs H Q E) : vs.length = 2 := by obtain ⟨_, _, _, _, rfl, _⟩ := h; rfl
theorem ln_law_told (h : sp_law_told c vs H Q E) : vs.length = 3 := by obtain ⟨_, _, _, _, _, rfl, _⟩ := h; rfl
theorem lnX_law_with_board (h : spX_law_with_board c vs H Q E) : vs.length = 5 := by obtain ⟨_, vs', rfl, h⟩ := h; rw [List.length_cons, h.len]
theorem one_door {sp : Sp} {u v w x : V} {z : Int} (hsp : ∀ vs H Q E, BadP c vs H E → sp vs H Q E) (h : BadP c [u, v, w, x] H E) : tCallS sp (WE (wE E)) (tCons (tVar 1) (tCons (tVar 2) (tCons (tVar 3) (tCons (tVar 4) tNil)))) [some (.int z), some u, some v, some w, some x] H Q := ⟨_, rfl, _, rfl, _, rfl, _, rfl, hsp _ _ _ _ h⟩
theorem rdX_law_with_board (h : spX_law_with_board c vs H Q E) : tX_law_with_board c E { nx := fun _ H' => Q .non H', rt := Q } (start ["_law_door", "_law_places", "_law_lines", "_law_his", "_law_mine"] vs) H := by
  obtain ⟨z, vs', rfl, hb⟩ := h
  have hb0 := hb
  obtain ⟨Hs, dp, dl, dh, dm, n, ⟨⟨u, v, w, x, e0, hv, h4⟩, _, _, _⟩, hn, k⟩ := hb0
  subst hv
  refine q_ifX (et_test (ev_lt (i := z) (j := 2) (ev_var rfl) ev_c)) (Ex.refl H) (fun _ H2 e2 => ret_ifX (et_test (ev_eqI (i := z) (j := 0) (ev_var rfl) ev_c)) (Ex.refl H2) (fun H3 e3 => one_door (fun _ _ _ _ h => .inr h) ((hb.on e2).on e3)) fun H3 e3 => one_door (fun _ _ _ _ h => .inr h) ((hb.on e2).on e3)) fun _ H2 e2 => ?_
  refine q_ifX (et_test (ev_lt (i := z) (j := 4) (ev_var rfl) ev_c)) (Ex.refl H2) (fun _ H3 e3 => ret_ifX (et_test (ev_eqI (i := z) (j := 2) (ev_var rfl) ev_c)) (Ex.refl H3) (fun H4 e4 => one_door (fun _ _ _ _ h => .inr h) (((hb.on e2).on e3).on e4)) fun H4 e4 => one_door (fun _ _ _ _ h => .inr h) (((hb.on e2).on e3).on e4)) fun _ H3 e3 => ?_
  exact ret_ifX (et_test (ev_eqI (i := z) (j := 4) (ev_var rfl) ev_c)) (Ex.refl H3) (fun H4 e4 => one_door (fun _ _ _ _ h => .inr h) (((hb.on e2).on e3).on e4)) fun H4 e4 => one_door (fun _ _ _ _ h => .inr h) (((hb.on e2).on e3).on e4)
/-! lines that are none -/
def badL1 : List Wd := [.non, .tup [], .str "01", .int 5, .dct, .lst [.non], .lst [.int 0], .lst [.tup [.int 0, .int 1]], .lst [.lst []], .lst [.lst [.int 1, .int 0]], .lst [.lst [.int 1, .int 1]], .lst [.lst [.int 0, .int 4]], .lst [.lst [.int (-1), .int 2]], .lst [.lst [.str "0"]]]
def badL2 : List Wd := [.lst [.lst [.int 0, .bl true]], .lst [.lst [.non]], .lst (List.replicate 61 (.lst [.int 0, .int 1])), .lst [.lst [.int 0, .int 1], .str "1"]]
theorem badL1_ev : EvCs (tCons (tC .non) (tCons (tTup tNil) (tCons (tC (.str "01")) (tCons (tC (.int 5)) (tCons tDNewK (tCons (tLst (tCons (tC .non) tNil)) (tCons (tLst (tCons (tC (.int 0)) tNil)) (tCons (tLst (tCons (tTup (tCons (tC (.int 0)) (tCons (tC (.int 1)) tNil))) tNil)) (tCons (tLst (tCons (tLst tNil) tNil)) (tCons (tLst (tCons (tLst (tCons (tC (.int 1)) (tCons (tC (.int 0)) tNil))) tNil)) (tCons (tLst (tCons (tLst (tCons (tC (.int 1)) (tCons (tC (.int 1)) tNil))) tNil)) (tCons (tLst (tCons (tLst (tCons (tC (.int 0)) (tCons (tC (.int 4)) tNil))) tNil)) (tCons (tLst (tCons (tLst (tCons (tUn rNegU (tC (.int 1))) (tCons (tC (.int 2)) tNil))) tNil)) (tCons (tLst (tCons (tLst (tCons (tC (.str "0")) tNil)) tNil)) tNil)))))))))))))) σ Hs cW badL1 := by
  unfold badL1
  refine ecs_cons w_non ?_
  repeat (first | exact ecs_nil | refine ecs_cons ?_ ?_ | exact w_non | exact w_bl | exact w_str | exact w_int (ev_neg ev_c) | exact w_int ev_c | exact w_dct | refine w_lst ?_ (by decide) | refine w_tup ?_ (by decide))
theorem badL_all : ((badL1 ++ badL2).all fun d => smW d && !okLn 4 d) = true := by decide +kernel
def strange (m : Int) : List Wd := [.non, .lst [.int 3, .int 0], .lst [.int 2, .int 2], .lst [.int 0, .int (4 + m)], .lst [.bl true, .int 2], .lst [], .tup [.int 0, .int 1], .lst [.int (-1 - m)]]
theorem strange_bad {m : Int} (hm : 0 ≤ m) : ∀ s ∈ strange m, wLine 4 s = false ∧ (wItems s).length ≤ 200 := by
  intro s hs
  unfold strange at hs
  simp only [List.mem_cons, List.not_mem_nil, or_false] at hs
  have h1 : LH.inR 4 (4 + m) = false := by
    unfold LH.inR
    rw [decide_eq_false (show ¬ 4 + m < 4 by omega), Bool.and_false]
  have h2 : LH.inR 4 (-1 - m) = false := by
    unfold LH.inR
    rw [decide_eq_false (show ¬ 0 ≤ -1 - m by omega), Bool.false_and]
  rcases hs with rfl | rfl | rfl | rfl | rfl | rfl | rfl | rfl
  · exact ⟨by decide +kernel, by decide⟩
  · exact ⟨by decide +kernel, by decide⟩
  · exact ⟨by decide +kernel, by decide⟩
  · refine ⟨?_, (show 2 ≤ 200 by decide)⟩
    show (true && ((true && LH.inR 4 0) && ((true && LH.inR 4 (4 + m)) && true)) && _) = false
    rw [h1]
    simp
  · exact ⟨by decide +kernel, by decide⟩
  · exact ⟨by decide +kernel, by decide⟩
  · exact ⟨by decide +kernel, by decide⟩
  · refine ⟨?_, (show 1 ≤ 200 by decide)⟩
    show (true && ((true && LH.inR 4 (-1 - m)) && true) && _) = false
    rw [h2]
    simp
theorem rep_flat {y : V} : ∀ n : Nat, (List.replicate n [y]).flatten = List.replicate n y
  | 0 => rfl
  | n + 1 => by rw [List.replicate_succ, List.flatten_cons, rep_flat n, List.replicate_succ]; rfl
theorem rep_cws {H : Hp} {x : Wd} {y : V} (h : CW H x y) : ∀ n : Nat, CWs H (List.replicate n x) (List.replicate n y)
  | 0 => .nil
  | n + 1 => .cons h (rep_cws h n)
theorem ec_rep {x : Wd} {n : Nat} {k : Int} (h : EvC ta σ Hs cW (.lst [x])) (hk : Ev tb σ Hs (.int k)) (hn : k = (n : Int)) (hz : n ≤ 1000) : EvC (tOp rRep ta tb) σ Hs cW (.lst (List.replicate n x)) := fun H e Q q => h H e _ fun v H2 Hs2 g hv => (hk.mono g.s) H2 g.i _ fun H3 e3 => by
  cases hv with
  | @lst a xs _ h1 h2 =>
  cases h2 with
  | @cons _ y _ ys hy ht =>
  cases ht
  refine ⟨a, k, [y], rfl, rfl, e3 _ _ (g.i _ _ h1), by omega, by omega, ?_, fun p hp => ?_⟩
  · show 1 * k.toNat ≤ sizeLine
    have := size_lt (n := 1 * k.toNat) (by omega)
    omega
  · have g3 : Grow Hs2 H2 Hs2 H3 := Grow.up g.i e3
    have g4 := (g.trans g3).trans (Grow.up (g.i.trans e3) (Ex.new (o := .lst (List.replicate k.toNat [y]).flatten) hp))
    have hp2 : Hs2 p = none := fresh_back (g.i.trans e3) hp
    refine q (.ref p) _ (upd Hs2 p (.lst (List.replicate k.toNat [y]).flatten)) (g4.know (fresh_back (g.b.trans e3) hp) upd_same) ?_
    have e5 : Ex Hs2 (upd Hs2 p (.lst (List.replicate k.toNat [y]).flatten)) := Ex.new hp2
    refine CW.lst (xs := List.replicate n y) (by rw [upd_same, hn, Int.toNat_natCast, rep_flat]) (rep_cws (CW.mono e5 hy) n)
/-! refused, all -/
theorem law_bad (c : Cn) {l : List Wd} {i : Nat} (hl : (l.all fun d => smW d && !okLn 4 d) = true) (hi : i < l.length) : smW l[i] = true ∧ okLn 4 l[i] = false := by
  rw [List.all_eq_true] at hl
  have := hl l[i] (List.getElem_mem hi)
  rw [Bool.and_eq_true, Bool.not_eq_true'] at this
  exact this
theorem rd_law_bad_lines (h : sp_law_bad_lines c vs H Q E) : t_law_bad_lines c { nx := fun _ H' => Q .non H', rt := Q } (start ["_law_which", "_law_more", "_law_bad", "_law_lines", "_law_at", "_law_strange"] vs) H := by
  obtain ⟨Hs, a, m, e, rfl, ha, hm, k⟩ := h
  refine q_oP (Own.start e) (ec_lst (c := cW) (l := badL1) badL1_ev (by decide)) fun v1 Hi1 H1 w e1 h1 => ?_
  refine q_oP w (EvF.toC (ef_cat (d := cW) (m := badL2) (ec_var rfl h1) (ec_lst (ecs_cons (by repeat (first | exact ecs_nil | refine ecs_cons ?_ ?_ | exact w_non | exact w_bl | exact w_str | exact w_int (ev_neg ev_c) | exact w_int ev_c | exact w_dct | refine w_lst ?_ (by decide) | refine w_tup ?_ (by decide))) (ecs_cons (by repeat (first | exact ecs_nil | refine ecs_cons ?_ ?_ | exact w_non | exact w_bl | exact w_str | exact w_int (ev_neg ev_c) | exact w_int ev_c | exact w_dct | refine w_lst ?_ (by decide) | refine w_tup ?_ (by decide))) (ecs_cons (ec_rep (n := 61) (by repeat (first | exact ecs_nil | refine ecs_cons ?_ ?_ | exact w_non | exact w_bl | exact w_str | exact w_int (ev_neg ev_c) | exact w_int ev_c | exact w_dct | refine w_lst ?_ (by decide) | refine w_tup ?_ (by decide))) ev_c rfl (by decide)) (ecs_cons (by repeat (first | exact ecs_nil | refine ecs_cons ?_ ?_ | exact w_non | exact w_bl | exact w_str | exact w_int (ev_neg ev_c) | exact w_int ev_c | exact w_dct | refine w_lst ?_ (by decide) | refine w_tup ?_ (by decide))) ecs_nil)))) (show 4 ≤ 40000 by decide)) (by decide))) fun v2 Hi2 H2 w e2 h2 => ?_
  have hall := badL_all
  have hl18 : (badL1 ++ badL2).length = 18 := rfl
  generalize badL1 ++ badL2 = bad at h2 hall hl18
  have m26 := mod_in a (P := 26) (by decide)
  refine q_oWhen w (et_test (ev_lt (ev_mod (ev_var rfl) ev_c (by decide)) ev_c)) (fun hb H3 w => ?_) (fun hb H3 w => ?_)
  · have hb' : a % 26 < 18 := of_decide_eq_true hb
    obtain ⟨i, hi⟩ : ∃ i : Nat, a % 26 = (i : Int) := ⟨(a % 26).toNat, by omega⟩
    have hil : i < bad.length := by omega
    obtain ⟨b1, b2⟩ := law_bad c hall hil
    exact s_oRet w (EvP.imp (ep_ixL (c := cW) (n := i) (a := bad[i]) (ec_var rfl h2) (ev_to (ev_mod (ev_var rfl) ev_c (by decide)) (by rw [hi])) (List.getElem?_eq_getElem hil)) fun v H _ hv => ⟨_, hv, b1, b2⟩) k
  · have hb' : ¬ a % 26 < 18 := of_decide_eq_false hb
    have m50 := mod_in m (P := 50) (by decide)
    refine q_oF w (ef_mapN (d := cW) (ei_rng (n := 1 + m % 50) (ea_cons (ev_add ev_c (ev_mod (ev_var rfl) ev_c (by decide))) ea_nil) (by omega) (by omega)) (fun i : Nat => Wd.lst [.int ((i : Int) % 3), .int 3]) (by rw [List.length_range]; omega) fun i x Hs' hi e' ci => ?_) fun p xs Hi4 H4 w e4 _ hxs => ?_
    · cases ci
      exact w_lst (ecs_cons (w_int (ev_mod (ev_var rfl) ev_c (by decide))) (ecs_cons (w_int ev_c) ecs_nil)) (show 2 ≤ 40000 by decide)
    have hlx := hxs.length
    rw [List.length_map, List.length_range] at hlx
    obtain ⟨j, hj⟩ : ∃ j : Nat, a % 26 - 18 = (j : Int) := ⟨(a % 26 - 18).toNat, by omega⟩
    have hjl : j < (strange m).length := by show j < 8; omega
    have hsb := strange_bad hm _ (List.getElem_mem hjl)
    refine q_oP w (ep_ixL (c := cW) (n := j) (l := strange m) (a := (strange m)[j]) (ec_lst (by
      unfold strange
      refine ecs_cons (by repeat (first | exact ecs_nil | refine ecs_cons ?_ ?_ | exact w_non | exact w_bl | exact w_str | exact w_int (ev_neg ev_c) | exact w_int ev_c | exact w_dct | refine w_lst ?_ (by decide) | refine w_tup ?_ (by decide))) (ecs_cons (by repeat (first | exact ecs_nil | refine ecs_cons ?_ ?_ | exact w_non | exact w_bl | exact w_str | exact w_int (ev_neg ev_c) | exact w_int ev_c | exact w_dct | refine w_lst ?_ (by decide) | refine w_tup ?_ (by decide))) (ecs_cons (by repeat (first | exact ecs_nil | refine ecs_cons ?_ ?_ | exact w_non | exact w_bl | exact w_str | exact w_int (ev_neg ev_c) | exact w_int ev_c | exact w_dct | refine w_lst ?_ (by decide) | refine w_tup ?_ (by decide))) (ecs_cons (w_lst (ecs_cons (by repeat (first | exact ecs_nil | refine ecs_cons ?_ ?_ | exact w_non | exact w_bl | exact w_str | exact w_int (ev_neg ev_c) | exact w_int ev_c | exact w_dct | refine w_lst ?_ (by decide) | refine w_tup ?_ (by decide))) (ecs_cons (w_int (ev_add ev_c (ev_var rfl))) ecs_nil)) (show 2 ≤ 40000 by decide)) (ecs_cons (by repeat (first | exact ecs_nil | refine ecs_cons ?_ ?_ | exact w_non | exact w_bl | exact w_str | exact w_int (ev_neg ev_c) | exact w_int ev_c | exact w_dct | refine w_lst ?_ (by decide) | refine w_tup ?_ (by decide))) (ecs_cons (by repeat (first | exact ecs_nil | refine ecs_cons ?_ ?_ | exact w_non | exact w_bl | exact w_str | exact w_int (ev_neg ev_c) | exact w_int ev_c | exact w_dct | refine w_lst ?_ (by decide) | refine w_tup ?_ (by decide))) (ecs_cons (by repeat (first | exact ecs_nil | refine ecs_cons ?_ ?_ | exact w_non | exact w_bl | exact w_str | exact w_int (ev_neg ev_c) | exact w_int ev_c | exact w_dct | refine w_lst ?_ (by decide) | refine w_tup ?_ (by decide))) (ecs_cons (w_lst (ecs_cons (w_int (ev_sub (ev_neg ev_c) (ev_var rfl))) ecs_nil) (show 1 ≤ 40000 by decide)) ecs_nil)))))))) (show 8 ≤ 40000 by decide)) (ev_to (ev_sub (ev_mod (ev_var rfl) ev_c (by decide)) ev_c) (by rw [hj])) (List.getElem?_eq_getElem hjl)) fun sv Hi5 H5 w e5 hs => ?_
    generalize (strange m)[j] = s at hs hsb
    have d26 : ∀ x : Int, CDivW x 26 := divW (by decide) (by decide)
    have hpos : (0 : Int) < xs.length := by omega
    have mi := mod_in (a / 26) (P := (xs.length : Int)) hpos
    obtain ⟨i, hi⟩ : ∃ i : Nat, a / 26 % (xs.length : Int) = (i : Int) := ⟨(a / 26 % (xs.length : Int)).toNat, by omega⟩
    have hV : cL cV xs (kn (upd emp p (.lst xs)) Hi5) (.ref p) := ⟨p, xs, rfl, kn_at upd_same, paired_V xs⟩
    refine q_oSetL (j := i) w upd_same (ev_var rfl) (ev_var rfl) (ev_to (ev_mod (ev_div (ev_var rfl) ev_c (d26 _)) (ev_lenC (c := cV) (l := xs) (ec_var rfl hV)) hpos) (by rw [hi])) (by omega) fun H6 w => ?_
    have hq := (upd_same : upd (upd emp p (.lst xs)) p (.lst (xs.set i sv)) p = _)
    have hn5 := (w.o p _ hq).2.1
    replace w := w.know hq
    have e6 : Ex Hi5 (upd Hi5 p (.lst (xs.set i sv))) := Ex.new hn5
    have hset := Paired.set (F := fun b x => cW b (upd Hi5 p (.lst (xs.set i sv))) x) (j := i) (Mo.mo e6 hs) (paired_mo (c := cW) (e5.trans e6) hxs)
    have hil : i < ((List.range (1 + m % 50).toNat).map fun i : Nat => Wd.lst [.int ((i : Int) % 3), .int 3]).length := by rw [List.length_map, List.length_range]; omega
    refine s_oRet w (ep_ev (ev_var rfl) ⟨_, CW.lst upd_same (paired_cws hset), ?_, ?_⟩) k
    · unfold smW
      rw [Bool.and_eq_true, List.all_eq_true]
      refine ⟨decide_eq_true (by show (List.set _ _ _).length ≤ 200; rw [List.length_set, List.length_map, List.length_range]; omega), fun x hx => ?_⟩
      have hx' : x ∈ List.set _ _ _ := hx
      rcases List.mem_or_eq_of_mem_set hx' with hx2 | rfl
      · obtain ⟨i2, _, rfl⟩ := List.mem_map.mp hx2
        rfl
      · exact decide_eq_true hsb.2
    · unfold okLn
      have : (wItems (Wd.lst (((List.range (1 + m % 50).toNat).map fun i : Nat => Wd.lst [.int ((i : Int) % 3), .int 3]).set i s))).all (wLine 4) = false := by
        rw [List.all_eq_false]
        refine ⟨s, List.mem_set hil s, ?_⟩
        rw [hsb.1]
        decide
      rw [this, Bool.and_false, Bool.and_false]
end
end K05

namespace K05
open PySem L2 Evl PyProof.Rows LH
abbrev ts5 (c : Cn) : Addr → Value → Option Addr → TS := fun a cls d => (tSeq (tAsg (tLst (tCons (tCB (rIsX c.K a cls d) (tCons (tVar 6) (tCons (tC (.ref c.badPlaces)) tNil))) (tCons (tCB (rIsX c.K a cls d) (tCons (tVar 6) (tCons (tC (.ref c.badLines)) tNil))) (tCons (tCB (rIsX c.K a cls d) (tCons (tVar 6) (tCons (tC (.ref c.badTakings)) tNil))) tNil)))) (gName 7)) (tRet (tOp (rCatL c.K) (tVar 7) (tLst (tCons (tCB (rIsX c.K a cls d) (tCons (tVar 6) (tCons (tC (.ty "ValueError")) tNil))) tNil)))))
section
variable {c : Cn} {vs : List V} {H H2 H3 : Hp} {Q : VK} {E : XK} {σ : L2.St} {Hs : Hp} {ta tb tc td te t1 t2 t3 t4 : TE} {targ : TA} {D : Ends} {dp dl dh dm : Wd} {n : Nat} {W : WX} {y0 y1 y2 y3 y4 y5 y6 y7 : Option V} {a : Addr}
theorem due_n (n : Nat) : dueL (n : Int) = [decide (n = 0), decide (n = 1), decide (n = 2)] ++ [true] := by
  unfold dueL
  have h0 : decide ((n : Int) = 0) = decide (n = 0) := decide_eq_decide.mpr (by omega)
  have h1 : decide ((n : Int) = 1) = decide (n = 1) := decide_eq_decide.mpr (by omega)
  have h2 : decide ((n : Int) = 2) = decide (n = 2) := decide_eq_decide.mpr (by omega)
  rw [h0, h1, h2]
  rfl
theorem suite_ok (OX : ObX c) (hn : n < 3) (e0 : Ex Hs H) (e : Ex H H3) (k : RetC Hs H (cL cB) (dueL (n : Int)) D.rt) : ts5 c a (.ref (errA c n)) none D [y0, y1, y2, y3, y4, y5, some (.ref a), y7] H3 := by
  have ec := OX.of n hn
  refine q_oP ((Own.start e0).up e) (ec_lst (c := cB) (l := [decide (n = 0), decide (n = 1), decide (n = 2)]) (ecs_cons (c_evB (ev_isX ec rfl (fun _ h => h) ec.qP)) (ecs_cons (c_evB (ev_isX ec rfl (fun _ h => h) ec.qL)) (ecs_cons (c_evB (ev_isX ec rfl (fun _ h => h) ec.qT)) ecs_nil))) (show 3 ≤ 40000 by decide)) fun v Hi H4 w e1 hv => ?_
  refine s_oRet w (EvF.toC (ef_cat (d := cB) (m := [true]) (ec_var rfl hv) (ec_lst (ecs_cons (c_evB (ev_isX (k := true) ec rfl (fun _ h => h) ec.ve)) ecs_nil) (show 1 ≤ 40000 by decide)) (show 3 + 1 ≤ 40000 by decide))) ?_
  rw [due_n] at k
  exact k
theorem wish (OX : ObX c) (hn : n < 3) (e0 : Ex Hs H) (e : Ex H H2) (k : RetC Hs H (cL cB) (dueL (n : Int)) D.rt) : RetE (errA c n) H2 (WE (wAs c.K (.ref c.lineError) 6 (ts5 c) (fun _ _ _ _ => False) D) [y0, y1, y2, y3, y4, y5, y6, y7]) := fun H3 e3 =>
  ⟨true, (OX.of n hn).cat, fun _ a _ => suite_ok (D := { nx := fun σ' H' => D.nx (σ'.set 6 none) H', rt := D.rt, bk := fun σ' H' => D.bk (σ'.set 6 none) H', ct := fun σ' H' => D.ct (σ'.set 6 none) H' }) OX hn e0 (e.trans e3) k, fun z => nomatch z⟩
theorem as5 {z : Int} (hz : Ev te σ Hs (.int z)) (h1 : EvC t1 σ Hs cW dp) (h2 : EvC t2 σ Hs cW dl) (h3 : EvC t3 σ Hs cW dh) (h4 : EvC t4 σ Hs cW dm) : EvAs (tCons te (tCons t1 (tCons t2 (tCons t3 (tCons t4 tNil))))) σ Hs fun vs H => ∃ (z : Int) (u v w x : V), vs = [.int z, u, v, w, x] ∧ cW dp H u ∧ cW dl H v ∧ cW dh H w ∧ cW dm H x := by
  refine (as_cons (c_evI hz) mo_c fun _ e1 => as_cons (EvC.lift h1 e1) mo_c fun _ e2 => as_cons (EvC.lift h2 (e1.trans e2)) mo_c fun _ e3 => as_cons (EvC.lift h3 ((e1.trans e2).trans e3)) mo_c fun _ e4 => as_cons (EvC.lift h4 (((e1.trans e2).trans e3).trans e4)) mo_c fun _ _ => as_nil).imp ?_
  rintro vs H1 _ ⟨_, _, rfl, p0, u, _, rfl, p1, v, _, rfl, p2, w, _, rfl, p3, x, _, rfl, p4, rfl⟩
  cases p0
  exact ⟨z, u, v, w, x, rfl, p1, p2, p3, p4⟩
theorem wb (h : EvAs targ σ Hs fun vs H => ∃ (z : Int) (u v w x : V), vs = [.int z, u, v, w, x] ∧ cW dp H u ∧ cW dl H v ∧ cW dh H w ∧ cW dm H x) (sl : smW dl = true) (sh : smW dh = true) (sm : smW dm = true) (hv : verd dp dl dh dm = some n) (e : Ex Hs H) (hE : RetE (errA c n) H (WE W σ)) :
    tCallS (spX_law_with_board c) (WE W) targ σ H Q := h H e _ fun vs H2 Hs2 g ⟨z, u, v, w, x, hvs, h1, h2, h3, h4⟩ =>
  ⟨z, [u, v, w, x], hvs, Hs2, dp, dl, dh, dm, n, ⟨⟨u, v, w, x, g.i, rfl, h1, h2, h3, h4⟩, sl, sh, sm⟩, hv, hE.on g.b⟩
theorem td0 (h1 : EvC t1 σ Hs cW dp) (h2 : EvC t2 σ Hs cW dl) (sl : smW dl = true) (hv : okPl dp = false) (e : Ex Hs H) (hE : RetE (errA c 0) H (WE W σ)) : tCallS (spX_told c) (WE W) (tCons t1 (tCons t2 tNil)) σ H Q :=
  (as_cons h1 mo_c fun _ e1 => as_cons (EvC.lift h2 e1) mo_c fun _ _ => as_nil) H e _ fun vs H2 Hs2 g hh => by
    obtain ⟨u, r, e1, p1, v, r2, e2, p2, e3⟩ := hh
    subst e3 e2 e1
    exact .inr ⟨Hs2, u, v, dp, dl, g.i, rfl, p1, p2, sl, .inl ⟨hv, hE.on g.b⟩⟩
theorem td1 (h1 : EvC t1 σ Hs cW dp) (h2 : EvC t2 σ Hs cW dl) (sl : smW dl = true) (hp : okPl dp = true) (hv : okLn (wInt dp) dl = false) (e : Ex Hs H) (hE : RetE (errA c 1) H (WE W σ)) : tCallS (spX_told c) (WE W) (tCons t1 (tCons t2 tNil)) σ H Q :=
  (as_cons h1 mo_c fun _ e1 => as_cons (EvC.lift h2 e1) mo_c fun _ _ => as_nil) H e _ fun vs H2 Hs2 g hh => by
    obtain ⟨u, r, e1, p1, v, r2, e2, p2, e3⟩ := hh
    subst e3 e2 e1
    exact .inr ⟨Hs2, u, v, dp, dl, g.i, rfl, p1, p2, sl, .inr ⟨hp, hv, hE.on g.b⟩⟩
def bad0 (m : Int) : List Wd := [.non, .str "4", .bl true, .bl false, .lst [.int 4], .tup [.int 4], .int 0, .int (-1 - m), .int 61, .int (61 + m)]
theorem bad0_all {m : Int} (hm : 0 ≤ m) : ∀ d ∈ bad0 m, okPl d = false := by
  intro d hd
  unfold bad0 at hd
  simp only [List.mem_cons, List.not_mem_nil, or_false] at hd
  rcases hd with rfl | rfl | rfl | rfl | rfl | rfl | rfl | rfl | rfl | rfl
  · rfl
  · rfl
  · rfl
  · rfl
  · rfl
  · rfl
  · decide
  · show (true && (decide (1 ≤ -1 - m) && _)) = false
    rw [decide_eq_false (by omega)]
    rfl
  · decide
  · show (true && (_ && decide (61 + m ≤ 60))) = false
    rw [decide_eq_false (show ¬ 61 + m ≤ 60 by omega), Bool.and_false, Bool.and_false]
def bad2 (m : Int) : List Wd := [.non, .tup [], .str "0", .int 5, .dct, .lst [.non], .lst [.str "0"], .lst [.bl true], .lst [.int (-1)], .lst [.int (-1 - m)], .lst [.int 4], .lst [.int (4 + m)], .lst [.lst [.int 0]], .lst [.int 0, .int 0]]
theorem one_out {x : Int} (h : LH.inR 4 x = false) : okTk 4 (.lst [.int x]) (.lst []) = false ∧ okTk 4 (.lst [.int 2]) (.lst [.int x]) = false ∧ smW (.lst [.int x]) = true := by
  have hw : wPlaces 4 (.lst [.int x]) = false := by
    show (true && ((true && LH.inR 4 x) && true)) = false
    rw [h]
    rfl
  refine ⟨?_, ?_, rfl⟩
  · unfold okTk
    rw [hw, Bool.false_and]
  · unfold okTk
    rw [hw, Bool.false_and, Bool.and_false]
theorem bad2_all {m : Int} (hm : 0 ≤ m) : ∀ d ∈ bad2 m, okTk 4 d (.lst []) = false ∧ okTk 4 (.lst [.int 2]) d = false ∧ smW d = true := by
  intro d hd
  unfold bad2 at hd
  simp only [List.mem_cons, List.not_mem_nil, or_false] at hd
  have h1 : LH.inR 4 (4 + m) = false := by
    unfold LH.inR
    rw [decide_eq_false (show ¬ 4 + m < 4 by omega), Bool.and_false]
  have h2 : LH.inR 4 (-1 - m) = false := by
    unfold LH.inR
    rw [decide_eq_false (show ¬ 0 ≤ -1 - m by omega), Bool.false_and]
  rcases hd with rfl | rfl | rfl | rfl | rfl | rfl | rfl | rfl | rfl | rfl | rfl | rfl | rfl | rfl
  · decide +kernel
  · decide +kernel
  · decide +kernel
  · decide +kernel
  · decide +kernel
  · decide +kernel
  · decide +kernel
  · decide +kernel
  · decide +kernel
  · exact one_out h2
  · decide +kernel
  · exact one_out h1
  · decide +kernel
  · decide +kernel
def good : Wd := .lst [.lst [.int 0, .int 1], .lst [.int 2]]
theorem verd0 (h : okPl dp = false) : verd dp dl dh dm = some 0 := if_pos h
theorem verd1 (h : okLn 4 dl = false) : verd (.int 4) dl dh dm = some 1 := by
  unfold verd
  rw [if_neg (show ¬ okPl (.int 4) = false by decide), if_pos (show okLn (wInt (.int 4)) dl = false from h)]
theorem verd2 (h : okTk 4 dh dm = false) : verd (.int 4) good dh dm = some 2 := by
  unfold verd
  rw [if_neg (show ¬ okPl (.int 4) = false by decide), if_neg (show ¬ okLn (wInt (.int 4)) good = false by decide +kernel), if_pos (show okTk (wInt (.int 4)) dh dm = false from h)]
theorem rd_law_told (OX : ObX c) (h : sp_law_told c vs H Q E) : t_law_told c { nx := fun _ H' => Q .non H', rt := Q } (start ["_law_kind", "_law_which", "_law_more", "_law_bad", "_law_his", "_law_mine", "error", "_law_found"] vs) H := by
  obtain ⟨Hs, kd, a, m, e00, rfl, hk, ha, hm, k⟩ := h
  have hkd : kd = 0 ∨ kd = 1 ∨ kd = 2 := by omega
  have d10 : ∀ x : Int, CDivW x 10 := divW (by decide) (by decide)
  have d26 : ∀ x : Int, CDivW x 26 := divW (by decide) (by decide)
  have d17 : ∀ x : Int, CDivW x 17 := divW (by decide) (by decide)
  have d34 : ∀ x : Int, CDivW x 34 := divW (by decide) (by decide)
  have w0 := Own.start e00
  have e0 : EvC (tLst tNil) ([] : L2.St) H cW (.lst []) := w_lst ecs_nil (by decide)
  rcases hkd with rfl | rfl | rfl
  · -- places
    have wsh : ∀ {H2 : Hp} {y3 y4 y5 y7 : Option V} {D : Ends}, Ex H H2 → D.rt = Q → RetE c.badPlaces H2 (WE (wAs c.K (.ref c.lineError) 6 (ts5 c) (fun _ _ _ _ => False) D) [some (.int 0), some (.int a), some (.int m), y3, y4, y5, none, y7]) := fun e hD => wish (n := 0) OX (by decide) e00 e (by rw [hD]; exact k)
    refine s_ifB (Hs := H) (b := true) (et_test (ev_eqI (i := 0) (j := 0) (ev_var rfl) ev_c)) (Ex.refl H) (fun _ H1 e1 => ?_) fun z => nomatch z
    have m10 := mod_in a (P := 10) (by decide)
    obtain ⟨i, hi⟩ : ∃ i : Nat, a % 10 = (i : Int) := ⟨(a % 10).toNat, by omega⟩
    have hil : i < (bad0 m).length := by show i < 10; omega
    have hb := bad0_all hm _ (List.getElem_mem hil)
    refine q_oP (w0.up e1) (ep_ixL (c := cW) (n := i) (l := bad0 m) (a := (bad0 m)[i]) (ec_lst (by
      unfold bad0
      refine ecs_cons (by repeat (first | exact ecs_nil | refine ecs_cons ?_ ?_ | exact w_non | exact w_bl | exact w_str | exact w_int (ev_neg ev_c) | exact w_int ev_c | exact w_dct | refine w_lst ?_ (by decide) | refine w_tup ?_ (by decide))) (ecs_cons (by repeat (first | exact ecs_nil | refine ecs_cons ?_ ?_ | exact w_non | exact w_bl | exact w_str | exact w_int (ev_neg ev_c) | exact w_int ev_c | exact w_dct | refine w_lst ?_ (by decide) | refine w_tup ?_ (by decide))) (ecs_cons (by repeat (first | exact ecs_nil | refine ecs_cons ?_ ?_ | exact w_non | exact w_bl | exact w_str | exact w_int (ev_neg ev_c) | exact w_int ev_c | exact w_dct | refine w_lst ?_ (by decide) | refine w_tup ?_ (by decide))) (ecs_cons (by repeat (first | exact ecs_nil | refine ecs_cons ?_ ?_ | exact w_non | exact w_bl | exact w_str | exact w_int (ev_neg ev_c) | exact w_int ev_c | exact w_dct | refine w_lst ?_ (by decide) | refine w_tup ?_ (by decide))) (ecs_cons (by repeat (first | exact ecs_nil | refine ecs_cons ?_ ?_ | exact w_non | exact w_bl | exact w_str | exact w_int (ev_neg ev_c) | exact w_int ev_c | exact w_dct | refine w_lst ?_ (by decide) | refine w_tup ?_ (by decide))) (ecs_cons (by repeat (first | exact ecs_nil | refine ecs_cons ?_ ?_ | exact w_non | exact w_bl | exact w_str | exact w_int (ev_neg ev_c) | exact w_int ev_c | exact w_dct | refine w_lst ?_ (by decide) | refine w_tup ?_ (by decide))) (ecs_cons (by repeat (first | exact ecs_nil | refine ecs_cons ?_ ?_ | exact w_non | exact w_bl | exact w_str | exact w_int (ev_neg ev_c) | exact w_int ev_c | exact w_dct | refine w_lst ?_ (by decide) | refine w_tup ?_ (by decide))) (ecs_cons (w_int (ev_sub (ev_neg ev_c) (ev_var rfl))) (ecs_cons (by repeat (first | exact ecs_nil | refine ecs_cons ?_ ?_ | exact w_non | exact w_bl | exact w_str | exact w_int (ev_neg ev_c) | exact w_int ev_c | exact w_dct | refine w_lst ?_ (by decide) | refine w_tup ?_ (by decide))) (ecs_cons (w_int (ev_add ev_c (ev_var rfl))) ecs_nil)))))))))) (show 10 ≤ 40000 by decide)) (ev_to (ev_mod (ev_var rfl) ev_c (by decide)) (by rw [hi])) (List.getElem?_eq_getElem hil)) fun bv Hi2 H2 w e2 hbv => ?_
    generalize (bad0 m)[i] = bd at hb hbv
    exact drop_ifX (et_test (ev_eqI (i := a / 10 % 7) (j := 6) (ev_mod (ev_div (ev_var rfl) ev_c (d10 _)) ev_c (by decide)) ev_c)) w.g.i (fun H3 e3 => td0 (dl := .non) (ec_var rfl hbv) w_non rfl hb (w.g.i.trans e3) (wsh (w.g.b.trans e3) rfl))
      fun H3 e3 => wb (n := 0) (as5 (ev_mod (ev_div (ev_var rfl) ev_c (d10 _)) ev_c (by decide)) (ec_var rfl hbv) w_non w_non (w_lst ecs_nil (by decide))) rfl rfl rfl (verd0 hb) (w.g.i.trans e3) (wsh (w.g.b.trans e3) rfl)
  · -- lines
    have wsh : ∀ {H2 : Hp} {y3 y4 y5 y7 : Option V} {D : Ends}, Ex H H2 → D.rt = Q → RetE c.badLines H2 (WE (wAs c.K (.ref c.lineError) 6 (ts5 c) (fun _ _ _ _ => False) D) [some (.int 1), some (.int a), some (.int m), y3, y4, y5, none, y7]) := fun e hD => wish (n := 1) OX (by decide) e00 e (by rw [hD]; exact k)
    refine s_ifB (Hs := H) (b := false) (et_test (ev_eqI (i := 1) (j := 0) (ev_var rfl) ev_c)) (Ex.refl H) (fun z => nomatch z) fun _ H0 e0 => ?_
    refine s_ifB (Hs := H) (b := true) (et_test (ev_eqI (i := 1) (j := 1) (ev_var rfl) ev_c)) e0 (fun _ H1 e1 => ?_) fun z => nomatch z
    refine q_oP ((w0.up e0).up e1) (P := BadL) (fun Hx ex Qx qx => ⟨_, rfl, _, rfl, Hs, a, m, ex, rfl, ha, hm, qx⟩) fun bv Hi2 H2 w e2 hbv => ?_
    obtain ⟨bd, hbv, sm, hb⟩ := hbv
    exact drop_ifX (et_test (ev_eqI (i := a / 26 % 7) (j := 6) (ev_mod (ev_div (ev_var rfl) ev_c (d26 _)) ev_c (by decide)) ev_c)) w.g.i (fun H3 e3 => td1 (dp := .int 4) (w_int ev_c) (ec_var rfl hbv) sm (by decide) hb (w.g.i.trans e3) (wsh (w.g.b.trans e3) rfl))
      fun H3 e3 => wb (n := 1) (dh := .non) (dm := .lst [.int 0, .int 0]) (as5 (ev_mod (ev_div (ev_var rfl) ev_c (d26 _)) ev_c (by decide)) (w_int ev_c) (ec_var rfl hbv) w_non (by repeat (first | exact ecs_nil | refine ecs_cons ?_ ?_ | exact w_non | exact w_bl | exact w_str | exact w_int (ev_neg ev_c) | exact w_int ev_c | exact w_dct | refine w_lst ?_ (by decide) | refine w_tup ?_ (by decide)))) sm rfl rfl (verd1 hb) (w.g.i.trans e3) (wsh (w.g.b.trans e3) rfl)
  · -- takings
    have wsh : ∀ {H2 : Hp} {y3 y4 y5 y7 : Option V} {D : Ends}, Ex H H2 → D.rt = Q → RetE c.badTakings H2 (WE (wAs c.K (.ref c.lineError) 6 (ts5 c) (fun _ _ _ _ => False) D) [some (.int 2), some (.int a), some (.int m), y3, y4, y5, none, y7]) := fun e hD => wish (n := 2) OX (by decide) e00 e (by rw [hD]; exact k)
    refine s_ifB (Hs := H) (b := false) (et_test (ev_eqI (i := 2) (j := 0) (ev_var rfl) ev_c)) (Ex.refl H) (fun z => nomatch z) fun _ H0 e0 => ?_
    refine s_ifB (Hs := H) (b := false) (et_test (ev_eqI (i := 2) (j := 1) (ev_var rfl) ev_c)) e0 (fun z => nomatch z) fun _ H0' e0' => ?_
    have m17 := mod_in a (P := 17) (by decide)
    refine s_ifB (Hs := H) (b := decide (a % 17 < 14)) (et_test (ev_lt (ev_mod (ev_var rfl) ev_c (by decide)) ev_c)) (e0.trans e0') (fun hb H1 e1 => ?_) fun hb H1 e1 => ?_
    · have hb' : a % 17 < 14 := of_decide_eq_true hb
      obtain ⟨i, hi⟩ : ∃ i : Nat, a % 17 = (i : Int) := ⟨(a % 17).toNat, by omega⟩
      have hil : i < (bad2 m).length := by show i < 14; omega
      have hbd := bad2_all hm _ (List.getElem_mem hil)
      refine q_oP (((w0.up e0).up e0').up e1) (ec_lst (c := cW) (l := bad2 m) (by
        unfold bad2
        refine ecs_cons (by repeat (first | exact ecs_nil | refine ecs_cons ?_ ?_ | exact w_non | exact w_bl | exact w_str | exact w_int (ev_neg ev_c) | exact w_int ev_c | exact w_dct | refine w_lst ?_ (by decide) | refine w_tup ?_ (by decide))) (ecs_cons (by repeat (first | exact ecs_nil | refine ecs_cons ?_ ?_ | exact w_non | exact w_bl | exact w_str | exact w_int (ev_neg ev_c) | exact w_int ev_c | exact w_dct | refine w_lst ?_ (by decide) | refine w_tup ?_ (by decide))) (ecs_cons (by repeat (first | exact ecs_nil | refine ecs_cons ?_ ?_ | exact w_non | exact w_bl | exact w_str | exact w_int (ev_neg ev_c) | exact w_int ev_c | exact w_dct | refine w_lst ?_ (by decide) | refine w_tup ?_ (by decide))) (ecs_cons (by repeat (first | exact ecs_nil | refine ecs_cons ?_ ?_ | exact w_non | exact w_bl | exact w_str | exact w_int (ev_neg ev_c) | exact w_int ev_c | exact w_dct | refine w_lst ?_ (by decide) | refine w_tup ?_ (by decide))) (ecs_cons (by repeat (first | exact ecs_nil | refine ecs_cons ?_ ?_ | exact w_non | exact w_bl | exact w_str | exact w_int (ev_neg ev_c) | exact w_int ev_c | exact w_dct | refine w_lst ?_ (by decide) | refine w_tup ?_ (by decide))) (ecs_cons (by repeat (first | exact ecs_nil | refine ecs_cons ?_ ?_ | exact w_non | exact w_bl | exact w_str | exact w_int (ev_neg ev_c) | exact w_int ev_c | exact w_dct | refine w_lst ?_ (by decide) | refine w_tup ?_ (by decide))) (ecs_cons (by repeat (first | exact ecs_nil | refine ecs_cons ?_ ?_ | exact w_non | exact w_bl | exact w_str | exact w_int (ev_neg ev_c) | exact w_int ev_c | exact w_dct | refine w_lst ?_ (by decide) | refine w_tup ?_ (by decide))) (ecs_cons (by repeat (first | exact ecs_nil | refine ecs_cons ?_ ?_ | exact w_non | exact w_bl | exact w_str | exact w_int (ev_neg ev_c) | exact w_int ev_c | exact w_dct | refine w_lst ?_ (by decide) | refine w_tup ?_ (by decide))) (ecs_cons (by repeat (first | exact ecs_nil | refine ecs_cons ?_ ?_ | exact w_non | exact w_bl | exact w_str | exact w_int (ev_neg ev_c) | exact w_int ev_c | exact w_dct | refine w_lst ?_ (by decide) | refine w_tup ?_ (by decide))) (ecs_cons (w_lst (ecs_cons (w_int (ev_sub (ev_neg ev_c) (ev_var rfl))) ecs_nil) (show 1 ≤ 40000 by decide)) (ecs_cons (by repeat (first | exact ecs_nil | refine ecs_cons ?_ ?_ | exact w_non | exact w_bl | exact w_str | exact w_int (ev_neg ev_c) | exact w_int ev_c | exact w_dct | refine w_lst ?_ (by decide) | refine w_tup ?_ (by decide))) (ecs_cons (w_lst (ecs_cons (w_int (ev_add ev_c (ev_var rfl))) ecs_nil) (show 1 ≤ 40000 by decide)) (ecs_cons (by repeat (first | exact ecs_nil | refine ecs_cons ?_ ?_ | exact w_non | exact w_bl | exact w_str | exact w_int (ev_neg ev_c) | exact w_int ev_c | exact w_dct | refine w_lst ?_ (by decide) | refine w_tup ?_ (by decide))) (ecs_cons (by repeat (first | exact ecs_nil | refine ecs_cons ?_ ?_ | exact w_non | exact w_bl | exact w_str | exact w_int (ev_neg ev_c) | exact w_int ev_c | exact w_dct | refine w_lst ?_ (by decide) | refine w_tup ?_ (by decide))) ecs_nil)))))))))))))) (show 14 ≤ 40000 by decide)) fun lv Hi2 H2 w e2 hlv => ?_
      refine q_oP w (ep_ixL (c := cW) (n := i) (a := (bad2 m)[i]) (ec_var rfl hlv) (ev_to (ev_mod (ev_var rfl) ev_c (by decide)) (by rw [hi])) (List.getElem?_eq_getElem hil)) fun bv Hi3 H3 w e3 hbv => ?_
      generalize (bad2 m)[i] = bd at hbd hbv
      have hpair : ∃ dh dm : Wd, okTk 4 dh dm = false ∧ smW dh = true ∧ smW dm = true ∧ EvC (tIf (tTest (tOp (rEqA c.K) (tOp rModI (tOp rDivI (tVar 1) (tC (.int 17))) (tC (.int 2))) (tC (.int 0)))) (tTup (tCons (tVar 3) (tCons (tLst tNil) tNil))) (tTup (tCons (tLst (tCons (tC (.int 2)) tNil)) (tCons (tVar 3) tNil)))) [some (.int 2), some (.int a), some (.int m), some bv, none, none, none, none] Hi3 (cP cW cW) (dh, dm) := by
        have ht : EvT (tTest (tOp (rEqA c.K) (tOp rModI (tOp rDivI (tVar 1) (tC (.int 17))) (tC (.int 2))) (tC (.int 0)))) [some (.int 2), some (.int a), some (.int m), some bv, none, none, none, none] Hi3 (decide (a / 17 % 2 = 0)) := et_test (ev_eqI (ev_mod (ev_div (ev_var rfl) ev_c (d17 _)) ev_c (by decide)) ev_c)
        cases hc : decide (a / 17 % 2 = 0) with
        | true =>
          rw [hc] at ht
          exact ⟨bd, .lst [], hbd.1, hbd.2.2, rfl, ep_if (b := true) ht (fun _ => ep_pair (ec_var rfl hbv) (w_lst ecs_nil (by decide))) fun z => nomatch z⟩
        | false =>
          rw [hc] at ht
          exact ⟨.lst [.int 2], bd, hbd.2.1, rfl, hbd.2.2, ep_if (b := false) ht (fun z => nomatch z) fun _ => ep_pair (by repeat (first | exact ecs_nil | refine ecs_cons ?_ ?_ | exact w_non | exact w_bl | exact w_str | exact w_int (ev_neg ev_c) | exact w_int ev_c | exact w_dct | refine w_lst ?_ (by decide) | refine w_tup ?_ (by decide))) (ec_var rfl hbv)⟩
      obtain ⟨dh, dm, hv, s1, s2, hp⟩ := hpair
      refine hp H3 w.g.i _ fun x H4 Hi4 g hx => g_two hx g.i fun hv1 mv ch cm => ?_
      replace w := w.on g
      exact wb (n := 2) (dl := good) (as5 (ev_mod (ev_div (ev_var rfl) ev_c (d34 _)) ev_c (by decide)) (w_int ev_c) (by unfold good; repeat (first | exact ecs_nil | refine ecs_cons ?_ ?_ | exact w_non | exact w_bl | exact w_str | exact w_int (ev_neg ev_c) | exact w_int ev_c | exact w_dct | refine w_lst ?_ (by decide) | refine w_tup ?_ (by decide))) (ec_var rfl ch) (ec_var rfl cm)) (by decide) s1 s2 (verd2 hv) w.g.i (wsh w.g.b rfl)
    · have m3 := mod_in m (P := 3) (by decide)
      have hv : okTk 4 (.lst [.int 3, .int (m % 3)]) (.lst [.int (m % 3)]) = false := by
        have : m % 3 = 0 ∨ m % 3 = 1 ∨ m % 3 = 2 := by omega
        rcases this with h | h | h <;> rw [h] <;> decide +kernel
      exact wb (n := 2) (dl := good) (dh := .lst [.int 3, .int (m % 3)]) (dm := .lst [.int (m % 3)]) (as5 (ev_mod (ev_div (ev_var rfl) ev_c (d17 _)) ev_c (by decide)) (w_int ev_c) (by unfold good; repeat (first | exact ecs_nil | refine ecs_cons ?_ ?_ | exact w_non | exact w_bl | exact w_str | exact w_int (ev_neg ev_c) | exact w_int ev_c | exact w_dct | refine w_lst ?_ (by decide) | refine w_tup ?_ (by decide))) (w_lst (ecs_cons (w_int ev_c) (ecs_cons (w_int (ev_mod (ev_var rfl) ev_c (by decide))) ecs_nil)) (show 2 ≤ 40000 by decide)) (w_lst (ecs_cons (w_int (ev_mod (ev_var rfl) ev_c (by decide))) ecs_nil) (show 1 ≤ 40000 by decide))) (by decide) rfl rfl (verd2 hv) ((e0.trans e0').trans e1) (wsh ((e0.trans e0').trans e1) rfl)
end
end K05

namespace LH
open PySem L2 Evl PyProof.Rows
section
variable {α : Type} {d : Cd α} {σ : L2.St} {Hs : Hp} {ta tb : TE}
theorem rep_paired {H : Hp} {x : α} {y : V} (h : d x H y) : ∀ n : Nat, Paired (fun b z => d b H z) (List.replicate n x) (List.replicate n y)
  | 0 => .nil
  | n + 1 => .cons h (rep_paired h n)
theorem rep_flat' {y : V} : ∀ n : Nat, (List.replicate n [y]).flatten = List.replicate n y
  | 0 => rfl
  | n + 1 => by rw [List.replicate_succ, List.flatten_cons, rep_flat' n, List.replicate_succ]; rfl
/-- [x] * n -/
theorem ec_repC [Mo d] {x : α} {n : Nat} {k : Int} (h : EvC ta σ Hs (cL d) [x]) (hk : Ev tb σ Hs (.int k)) (hn : k = (n : Int)) (hz : n ≤ 1000) : EvC (tOp rRep ta tb) σ Hs (cL d) (List.replicate n x) := fun H e Q q => h H e _ fun v H2 Hs2 g hv => (hk.mono g.s) H2 g.i _ fun H3 e3 => by
  obtain ⟨a, xs, rfl, h1, h2⟩ := hv
  cases h2 with
  | @cons _ y _ ys hy ht =>
  cases ht
  refine ⟨a, k, [y], rfl, rfl, e3 _ _ (g.i _ _ h1), by omega, by omega, ?_, fun p hp => ?_⟩
  · show 1 * k.toNat ≤ sizeLine
    have := size_lt (n := 1 * k.toNat) (by omega)
    omega
  · have g3 : Grow Hs2 H2 Hs2 H3 := Grow.up g.i e3
    have g4 := (g.trans g3).trans (Grow.up (g.i.trans e3) (Ex.new (o := .lst (List.replicate k.toNat [y]).flatten) hp))
    have hp2 : Hs2 p = none := fresh_back (g.i.trans e3) hp
    refine q (.ref p) _ (upd Hs2 p (.lst (List.replicate k.toNat [y]).flatten)) (g4.know (fresh_back (g.b.trans e3) hp) upd_same) ?_
    have e5 : Ex Hs2 (upd Hs2 p (.lst (List.replicate k.toNat [y]).flatten)) := Ex.new hp2
    exact ⟨p, List.replicate n y, rfl, by rw [upd_same, hn, Int.toNat_natCast, rep_flat'], rep_paired (Mo.mo e5 hy) n⟩
end
end LH
namespace K05
open PySem L2 Evl PyProof.Rows LH
section
variable {c : Cn} {vs : List V} {H : Hp} {Q : VK} {E : XK}
theorem rd_main (O : Ob c) (OX : ObX c) (h : sp_main c vs H Q E) : t_main c { nx := fun _ H' => Q .non H', rt := Q } (start ["_law_script", "_law_cell", "_law_kind", "_law_due", "_law_at"] vs) H := by
  obtain ⟨Hs, u, ns, e, rfl, hu, hb, hn, k⟩ := h
  have d3 : ∀ x : Int, CDivW x 3 := divW (by decide) (by decide)
  have dl : ∀ x : Int, CDivW x 300000 := divW (by decide) (by decide)
  refine q_oFor (Own.start e) (ei_listS (ec_var rfl hu)) mo_c' (fun pre σ' _ _ => ∃ y1 y2 y3, σ' = [some u, y1, y2, y3, none]) (fun _ _ => ⟨none, none, none, rfl⟩) ?_ ?_
  · rintro Hb eb pre n post x σ' Ho' Hi' Hi'' H'' hsrc ⟨y1, y2, y3, rfl⟩ ei w e' ca
    cases ca
    refine q_oV w (ev_mod (ev_var rfl) ev_c (by decide)) fun H3 w => ?_
    have m3 := mod_in n (P := 3) (by decide)
    generalize n % 3 = kd at m3
    refine q_oP w (EvF.toC (ef_cat (d := cB) (l := (List.range 3).map fun i : Nat => decide (kd = (i : Int))) (m := [true]) (EvF.toC (ef_mapN (d := cB) (ei_rng (n := 3) (ea_cons ev_c ea_nil) (by decide) (by decide)) (fun i : Nat => decide (kd = (i : Int))) (by decide) fun i x Hs' hi e' ci => ?_)) (ec_lst (ecs_cons (c_evB ev_c) ecs_nil) (show 1 ≤ 40000 by decide)) (show 3 + 1 ≤ 40000 by decide))) fun dv Hi3 H4 w e3 hd => ?_
    · cases ci
      exact c_evB (ev_eqI (ev_var rfl) (ev_var rfl))
    have hd' : cL cB (dueL kd) Hi3 dv := hd
    refine s_oWhen w (b := false) (EvT_to (et_test (ev_neC (c := cL cB) (a := dueL kd) (a' := dueL kd) (ep_call (as_cons (c_evI (ev_var rfl)) mo_c fun _ _ => as_cons (c_evI (ev_mod (ev_div (ev_var rfl) ev_c (d3 _)) ev_c (by decide))) mo_c fun _ _ => as_cons (c_evI (ev_mod (ev_div (ev_var rfl) ev_c (dl _)) ev_c (by decide))) mo_c fun _ _ => as_nil) ?_) (ec_var rfl (w.m hd')))) (by simp)) (fun z => nomatch z) fun _ H5 w5 => ⟨Ho', Hi3, ⟨_, _, _, rfl⟩, (ei.trans e').trans e3, w5⟩
    rintro vs H1 _ ⟨_, _, rfl, p1, _, _, rfl, p2, _, _, rfl, p3, rfl⟩ H2 e2 Q1 k1
    cases p1
    cases p2
    cases p3
    exact ⟨H1, kd, _, _, e2, rfl, m3, (mod_in (n / 3) (P := 100000) (by decide)).1, (mod_in (n / 300000) (P := 1000) (by decide)).1, k1⟩
  · rintro σ' Ho' Hi' H' ⟨y1, y2, y3, rfl⟩ ei w
    have B1 : Board 60 (List.replicate 60 [59]) [] [] := board_of (by decide +kernel)
    have B2 : Board 60 [[0]] [0] [] := board_of (by decide +kernel)
    refine s_oRetV w (ev_to (ev_andV (ev_eqC (c := cP cI cI) (a' := (30, 1)) (call_danger (as_play (P := 60) (ls := List.replicate 60 [59]) (hs := []) (ms := []) ev_c (ec_repC (d := cL cI) (n := 60) (by repeat (first | exact ecs_nil | refine ecs_cons ?_ ?_ | exact c_evI ev_c | exact c_evB ev_c | exact ec_none | refine ec_lst ?_ (by decide) | refine ep_pair ?_ ?_ | refine ep_tup3 ?_ ?_ ?_ | refine ec_some ?_ | exact ec_var rfl (by assumption))) ev_c rfl (by decide)) (by repeat (first | exact ecs_nil | refine ecs_cons ?_ ?_ | exact c_evI ev_c | exact c_evB ev_c | exact ec_none | refine ec_lst ?_ (by decide) | refine ep_pair ?_ ?_ | refine ep_tup3 ?_ ?_ ?_ | refine ec_some ?_ | exact ec_var rfl (by assumption))) (by repeat (first | exact ecs_nil | refine ecs_cons ?_ ?_ | exact c_evI ev_c | exact c_evB ev_c | exact ec_none | refine ec_lst ?_ (by decide) | refine ep_pair ?_ ?_ | refine ep_tup3 ?_ ?_ ?_ | refine ec_some ?_ | exact ec_var rfl (by assumption))) B1)) (by repeat (first | exact ecs_nil | refine ecs_cons ?_ ?_ | exact c_evI ev_c | exact c_evB ev_c | exact ec_none | refine ec_lst ?_ (by decide) | refine ep_pair ?_ ?_ | refine ep_tup3 ?_ ?_ ?_ | refine ec_some ?_ | exact ec_var rfl (by assumption)))) fun _ => ev_eqC (c := cL cN) (a' := [0]) (EvF.toC (call_full (as_play (P := 60) (ls := [[0]]) (hs := [0]) (ms := []) ev_c (by repeat (first | exact ecs_nil | refine ecs_cons ?_ ?_ | exact c_evI ev_c | exact c_evB ev_c | exact ec_none | refine ec_lst ?_ (by decide) | refine ep_pair ?_ ?_ | refine ep_tup3 ?_ ?_ ?_ | refine ec_some ?_ | exact ec_var rfl (by assumption))) (by repeat (first | exact ecs_nil | refine ecs_cons ?_ ?_ | exact c_evI ev_c | exact c_evB ev_c | exact ec_none | refine ec_lst ?_ (by decide) | refine ep_pair ?_ ?_ | refine ep_tup3 ?_ ?_ ?_ | refine ec_some ?_ | exact ec_var rfl (by assumption))) (by repeat (first | exact ecs_nil | refine ecs_cons ?_ ?_ | exact c_evI ev_c | exact c_evB ev_c | exact ec_none | refine ec_lst ?_ (by decide) | refine ep_pair ?_ ?_ | refine ep_tup3 ?_ ?_ ?_ | refine ec_some ?_ | exact ec_var rfl (by assumption))) B2))) (by repeat (first | exact ecs_nil | refine ecs_cons ?_ ?_ | exact ep_ev ev_c rfl | refine ec_lst ?_ (by decide)))) (by decide +kernel)) k
end
end K05

namespace K05
open PySem PySem.Spec PyProof.Rows L2 LH
def topS (i : Nat) : Stmt := PySem.Challenge.pw_linehold_k05_refused.main.body.getD i (.Pass ⟨0, 0, 0, 0⟩)
/-- the module's names that the text reads -/
structure Tb (c : Cn) (mg : Str → Option Value) : Prop where
  BadLines : mg "BadLines" = some (.ref c.badLines)
  BadPlaces : mg "BadPlaces" = some (.ref c.badPlaces)
  BadTakings : mg "BadTakings" = some (.ref c.badTakings)
  Few : mg "Few" = some (.ref c.few)
  LineError : mg "LineError" = some (.ref c.lineError)
  MOST_LINES : ∃ t, mg "MOST_LINES" = some (.int 60 t)
  MOST_PLACES : ∃ t, mg "MOST_PLACES" = some (.int 60 t)
  PLACES_OF_ITS_OWN : ∃ t, mg "PLACES_OF_ITS_OWN" = some (.int 2 t)
  Pairs : mg "Pairs" = some (.ref c.pairs)
  ValueError : mg "ValueError" = none
  all : mg "all" = none
  any : mg "any" = none
  bool : mg "bool" = none
  enumerate : mg "enumerate" = none
  gcd : mg "gcd" = some (.builtin "math.gcd")
  int : mg "int" = none
  isinstance : mg "isinstance" = none
  len : mg "len" = none
  list : mg "list" = none
  range : mg "range" = none
  set : mg "set" = none
  sorted : mg "sorted" = none
  sum : mg "sum" = none
  tuple : mg "tuple" = none
  zip : mg "zip" = none
section
variable {P : Program} {mg : Str → Option Value} {base : Heap} {c : Cn} {f : Addr} {fd : FuncData}
abbrev s_is_whole : Stmt := topS 15
abbrev N_is_whole : List Str := ["value"]
theorem sc_is_whole : FnScope N_is_whole ["value"] (C8.fnScope s_is_whole) := C8.fnScope_by (by decide +kernel)
theorem ok_is_whole (F : C8.Def c.K mg "_is_whole" s_is_whole f fd) (b : Binds c.K fd ["value"] []) (T : Tb c mg) (O : Ob c) (OX : ObX c) : C8.Cal P c.w c.K mg base 1 "_is_whole" (sp_is_whole c) [] :=
  C8.cal0 F b .nil sc_is_whole (fun vs H Q E h => ln_is_whole h) (fun cdv A outer s H vs Q E hr h => ⟨t_is_whole c, by exact (pss_one (ps_ret (pe_and (pe_callB call_isi (by rfl) T.isinstance LH.b_isinstance (pa_cons (pv 0) (pa_cons (pe_bltn (by rfl) T.int LH.b_int rfl) pa_nil))) (pe_one (pe_not (pe_callB call_isi (by rfl) T.isinstance LH.b_isinstance (pa_cons (pv 0) (pa_cons (pe_bltn (by rfl) T.bool LH.b_bool rfl) pa_nil)))))))), rd_is_whole h⟩)
abbrev s_free_places : Stmt := topS 24
abbrev N_free_places : List Str := ["places", "his", "mine", "place"]
theorem sc_free_places : FnScope N_free_places ["places", "his", "mine"] (C8.fnScope s_free_places) := C8.fnScope_by (by decide +kernel)
theorem ok_free_places (F : C8.Def c.K mg "free_places" s_free_places f fd) (b : Binds c.K fd ["places", "his", "mine"] []) (T : Tb c mg) (O : Ob c) (OX : ObX c) : C8.Cal P c.w c.K mg base 1 "free_places" (sp_free_places c) [] :=
  C8.cal0 F b .nil sc_free_places (fun vs H Q E h => ln_free_places h) (fun cdv A outer s H vs Q E hr h => ⟨t_free_places c, by exact (pss_one (ps_ret (pe_lc (own := [("place", 3)]) (g := (gName 3)) (tt := (tAnd (tTest (tOp (rIn c.K true) (tVar 3) (tVar 1))) (tTest (tOp (rIn c.K true) (tVar 3) (tVar 2))))) (te := (tVar 3)) rfl sc_free_places.nd (pi_range1 (by rfl) T.range (pa_cons (pv 0) pa_nil)) (blkOk_by (by kernel_rfl)) (fun _ _ _ _ _ => (pg_name (i := 3) sc_free_places.nd rfl (.inl rfl))) (fun _ _ _ _ _ => (pts_one (PW.pt (pw_and (pt_cmpR op_notIn_seq (pv 3) (pv 1) (by rfl)) (pw_and1 (pt_cmpR op_notIn_seq (pv 3) (pv 2) (by rfl))))))) (fun _ _ _ _ _ => (pv 3))))), rd_free_places h⟩)
abbrev s_one : Stmt := topS 25
abbrev N_one : List Str := ["places"]
theorem sc_one : FnScope N_one ["places"] (C8.fnScope s_one) := C8.fnScope_by (by decide +kernel)
theorem ok_one (F : C8.Def c.K mg "_one" s_one f fd) (b : Binds c.K fd ["places"] []) (T : Tb c mg) (O : Ob c) (OX : ObX c) : C8.Cal P c.w c.K mg base 1 "_one" (sp_one c) [] :=
  C8.cal0 F b .nil sc_one (fun vs H Q E h => ln_one h) (fun cdv A outer s H vs Q E hr h => ⟨t_one c, by exact (pss_one (ps_ret (pe_op op_shlI pe_int (pv 0)))), rd_one h⟩)
abbrev s_in_lowest_terms : Stmt := topS 26
abbrev N_in_lowest_terms : List Str := ["units", "one", "common"]
theorem sc_in_lowest_terms : FnScope N_in_lowest_terms ["units", "one"] (C8.fnScope s_in_lowest_terms) := C8.fnScope_by (by decide +kernel)
theorem ok_in_lowest_terms (F : C8.Def c.K mg "_in_lowest_terms" s_in_lowest_terms f fd) (b : Binds c.K fd ["units", "one"] []) (T : Tb c mg) (O : Ob c) (OX : ObX c) : C8.Cal P c.w c.K mg base 1 "_in_lowest_terms" (sp_in_lowest_terms c) [] :=
  C8.cal0 F b .nil sc_in_lowest_terms (fun vs H Q E h => ln_in_lowest_terms h) (fun cdv A outer s H vs Q E hr h => ⟨t_in_lowest_terms c, by exact (pss_cons (ps_set (i := 2) sc_in_lowest_terms.nd rfl (.inl rfl) (pe_callBfun cr_gcd (by rfl) T.gcd (pa_cons (pv 0) (pa_cons (pv 1) pa_nil)))) (pss_one (ps_ret (pe_tup (pa_cons (pe_op op_divI (pv 0) (pv 2)) (pa_cons (pe_op op_divI (pv 1) (pv 2)) pa_nil)))))), rd_in_lowest_terms h⟩)
abbrev s_missing : Stmt := topS 27
abbrev N_missing : List Str := ["line", "his", "place"]
theorem sc_missing : FnScope N_missing ["line", "his"] (C8.fnScope s_missing) := C8.fnScope_by (by decide +kernel)
theorem ok_missing (F : C8.Def c.K mg "_missing" s_missing f fd) (b : Binds c.K fd ["line", "his"] []) (T : Tb c mg) (O : Ob c) (OX : ObX c) : C8.Cal P c.w c.K mg base 1 "_missing" (sp_missing c) [] :=
  C8.cal0 F b .nil sc_missing (fun vs H Q E h => ln_missing h) (fun cdv A outer s H vs Q E hr h => ⟨t_missing c, by exact (pss_one (ps_ret (pe_callB call_len_seq (by rfl) T.len LH.b_len (pa_cons (pe_lc (own := [("place", 2)]) (g := (gName 2)) (tt := (tTest (tOp (rIn c.K true) (tVar 2) (tVar 1)))) (te := (tVar 2)) rfl sc_missing.nd (pi_list (pv 0)) (blkOk_by (by kernel_rfl)) (fun _ _ _ _ _ => (pg_name (i := 2) sc_missing.nd rfl (.inl rfl))) (fun _ _ _ _ _ => (pts_one (pt_cmpR op_notIn_seq (pv 2) (pv 1) (by rfl)))) (fun _ _ _ _ _ => (pv 2))) pa_nil)))), rd_missing h⟩)
abbrev s_hand_over : Stmt := topS 41
abbrev N_hand_over : List Str := ["owners", "takers", "gives_up", "place", "taker"]
theorem sc_hand_over : FnScope N_hand_over ["owners", "takers", "gives_up", "place"] (C8.fnScope s_hand_over) := C8.fnScope_by (by decide +kernel)
theorem ok_hand_over (F : C8.Def c.K mg "_hand_over" s_hand_over f fd) (b : Binds c.K fd ["owners", "takers", "gives_up", "place"] []) (T : Tb c mg) (O : Ob c) (OX : ObX c) : C8.Cal P c.w c.K mg base 1 "_hand_over" (sp_hand_over c) [] :=
  C8.cal0 F b .nil sc_hand_over (fun vs H Q E h => ln_hand_over h) (fun cdv A outer s H vs Q E hr h => ⟨t_hand_over c, by exact (pss_one (ps_while PassesOwn.never (pt_cmpR op_notNone (pv 3) pe_non (nomark _)) (pss_cons (ps_set (i := 4) sc_hand_over.nd rfl (.inl rfl) (pe_dget (hu_of hr) (pv 1) (pv 3) (fun _ _ => rfl))) (pss_cons (ps_dput (hu_of hr) (pv 0) (pv 3) (pv 4) rfl) (pss_one (ps_set (i := 3) sc_hand_over.nd rfl (.inl rfl) (pe_dget (hu_of hr) (pv 2) (pv 4) (fun _ _ => rfl)))))))), rd_hand_over h⟩)
abbrev s_pair : Stmt := topS 42
abbrev N_pair : List Str := ["line", "owners", "count", "place"]
theorem sc_pair : FnScope N_pair ["line", "owners", "count"] (C8.fnScope s_pair) := C8.fnScope_by (by decide +kernel)
theorem ok_pair (F : C8.Def c.K mg "_pair" s_pair f fd) (b : Binds c.K fd ["line", "owners", "count"] []) (T : Tb c mg) (O : Ob c) (OX : ObX c) : C8.Cal P c.w c.K mg base 1 "_pair" (sp_pair c) [] :=
  C8.cal0 F b .nil sc_pair (fun vs H Q E h => ln_pair h) (fun cdv A outer s H vs Q E hr h => ⟨t_pair c, by exact (pss_one (ps_ret (pe_callTy LH.cr_tupA (by rfl) T.tuple LH.b_tuple (pa_cons (pe_lc (own := [("place", 3)]) (g := (gName 3)) (tt := (tTest (tOp (rEqA c.K) (tDGet1 (tVar 1) (tVar 3)) (tVar 2)))) (te := (tVar 3)) rfl sc_pair.nd (pi_list (pv 0)) (blkOk_by (by kernel_rfl)) (fun _ _ _ _ _ => (pg_name (i := 3) sc_pair.nd rfl (.inl rfl))) (fun _ _ _ _ _ => (pts_one (pt_cmpR (op_eqA hr.units) (pe_dget1 (hu_of hr) (pv 1) (pv 3) ⟨by rfl, by rfl, by rfl, by rfl⟩) (pv 2) (nomark _)))) (fun _ _ _ _ _ => (pv 3))) pa_nil)))), rd_pair h⟩)
abbrev s_other_place : Stmt := topS 43
abbrev N_other_place : List Str := ["answer", "his", "last", "low", "high"]
theorem sc_other_place : FnScope N_other_place ["answer", "his"] (C8.fnScope s_other_place) := C8.fnScope_by (by decide +kernel)
theorem ok_other_place (F : C8.Def c.K mg "_other_place" s_other_place f fd) (b : Binds c.K fd ["answer", "his"] []) (T : Tb c mg) (O : Ob c) (OX : ObX c) : C8.Cal P c.w c.K mg base 1 "_other_place" (sp_other_place c) [] :=
  C8.cal0 F b .nil sc_other_place (fun vs H Q E h => ln_other_place h) (fun cdv A outer s H vs Q E hr h => ⟨t_other_place c, by exact (pss_cons (ps_if (PW.pt (pw_or (pt_val (pe_callB call_isi (by rfl) T.isinstance LH.b_isinstance (pa_cons (pv 0) (pa_cons (pe_glob (by rfl) T.Few rfl) pa_nil)))) (pw_or1 (pt_cmpR (op_eqA hr.units) (pe_callB call_len_seq (by rfl) T.len LH.b_len (pa_cons (pv 1) pa_nil)) pe_int (nomark _))))) (pss_one (ps_ret pe_non)) pss_nil) (pss_cons (ps_set (i := 2) sc_other_place.nd rfl (.inl rfl) (pe_ix ix_seq (pv 1) (pe_un un_negU pe_int) (fun _ _ => rfl))) (pss_cons (ps_for PassesOwn.never rfl (pi_list (pe_fld (pv 0) rfl)) (pg_tup rfl (pgs_cons (pg_name (i := 3) sc_other_place.nd rfl (.inl rfl)) (pgs_cons (pg_name (i := 4) sc_other_place.nd rfl (.inl rfl)) pgs_nil))) (pss_cons (ps_if (pt_cmpR (op_eqA hr.units) (pv 2) (pv 3) (nomark _)) (pss_one (ps_ret (pv 4))) pss_nil) (pss_one (ps_if (pt_cmpR (op_eqA hr.units) (pv 2) (pv 4) (nomark _)) (pss_one (ps_ret (pv 3))) pss_nil)))) (pss_one (ps_ret pe_non))))), rd_other_place O h⟩)
abbrev s_law_bad_lines : Stmt := topS 46
abbrev N_law_bad_lines : List Str := ["_law_which", "_law_more", "_law_bad", "_law_lines", "_law_at", "_law_strange"]
theorem sc_law_bad_lines : FnScope N_law_bad_lines ["_law_which", "_law_more"] (C8.fnScope s_law_bad_lines) := C8.fnScope_by (by decide +kernel)
theorem ok_law_bad_lines (F : C8.Def c.K mg "_law_bad_lines" s_law_bad_lines f fd) (b : Binds c.K fd ["_law_which", "_law_more"] []) (T : Tb c mg) (O : Ob c) (OX : ObX c) : C8.Cal P c.w c.K mg base 1 "_law_bad_lines" (sp_law_bad_lines c) [] :=
  C8.cal0 F b .nil sc_law_bad_lines (fun vs H Q E h => ln_law_bad_lines h) (fun cdv A outer s H vs Q E hr h => ⟨t_law_bad_lines c, by exact (pss_cons (ps_set (i := 2) sc_law_bad_lines.nd rfl (.inl rfl) (pe_lst (pa_cons pe_non (pa_cons (pe_tup pa_nil) (pa_cons pe_str (pa_cons pe_int (pa_cons pe_dnewK (pa_cons (pe_lst (pa_cons pe_non pa_nil)) (pa_cons (pe_lst (pa_cons pe_int pa_nil)) (pa_cons (pe_lst (pa_cons (pe_tup (pa_cons pe_int (pa_cons pe_int pa_nil))) pa_nil)) (pa_cons (pe_lst (pa_cons (pe_lst pa_nil) pa_nil)) (pa_cons (pe_lst (pa_cons (pe_lst (pa_cons pe_int (pa_cons pe_int pa_nil))) pa_nil)) (pa_cons (pe_lst (pa_cons (pe_lst (pa_cons pe_int (pa_cons pe_int pa_nil))) pa_nil)) (pa_cons (pe_lst (pa_cons (pe_lst (pa_cons pe_int (pa_cons pe_int pa_nil))) pa_nil)) (pa_cons (pe_lst (pa_cons (pe_lst (pa_cons (pe_un un_negU pe_int) (pa_cons pe_int pa_nil))) pa_nil)) (pa_cons (pe_lst (pa_cons (pe_lst (pa_cons pe_str pa_nil)) pa_nil)) pa_nil)))))))))))))))) (pss_cons (ps_set (i := 2) sc_law_bad_lines.nd rfl (.inl rfl) (pe_op op_catL (pv 2) (pe_lst (pa_cons (pe_lst (pa_cons (pe_lst (pa_cons pe_int (pa_cons pe_bl pa_nil))) pa_nil)) (pa_cons (pe_lst (pa_cons (pe_lst (pa_cons pe_non pa_nil)) pa_nil)) (pa_cons (pe_op op_rep (pe_lst (pa_cons (pe_lst (pa_cons pe_int (pa_cons pe_int pa_nil))) pa_nil)) pe_int) (pa_cons (pe_lst (pa_cons (pe_lst (pa_cons pe_int (pa_cons pe_int pa_nil))) (pa_cons pe_str pa_nil))) pa_nil))))))) (pss_cons (ps_if (pt_cmpR op_ltI (pe_op op_modI (pv 0) pe_int) pe_int (nomark _)) (pss_one (ps_ret (pe_ix ix_seq (pv 2) (pe_op op_modI (pv 0) pe_int) (fun _ _ => rfl)))) pss_nil) (pss_cons (ps_setLc (i := 3) (own := [("_law_at", 4)]) (g := (gName 4)) (tt := tYes) (te := (tLst (tCons (tOp rModI (tVar 4) (tC (.int 3))) (tCons (tC (.int 3)) tNil)))) rfl sc_law_bad_lines.nd rfl rfl (sw_true rfl rfl rfl (by decide +kernel)) (pi_range1 (by rfl) T.range (pa_cons (pe_op op_addI pe_int (pe_op op_modI (pv 1) pe_int)) pa_nil)) (blkOk_by (by kernel_rfl)) (fun _ _ _ _ _ => (pg_name (i := 4) sc_law_bad_lines.nd rfl (.inl rfl))) (fun _ _ _ _ _ => pts_nil) (fun _ _ _ _ _ => (pe_lst (pa_cons (pe_op op_modI (pv 4) pe_int) (pa_cons pe_int pa_nil))))) (pss_cons (ps_set (i := 5) sc_law_bad_lines.nd rfl (.inl rfl) (pe_ix ix_seq (pe_lst (pa_cons pe_non (pa_cons (pe_lst (pa_cons pe_int (pa_cons pe_int pa_nil))) (pa_cons (pe_lst (pa_cons pe_int (pa_cons pe_int pa_nil))) (pa_cons (pe_lst (pa_cons pe_int (pa_cons (pe_op op_addI pe_int (pv 1)) pa_nil))) (pa_cons (pe_lst (pa_cons pe_bl (pa_cons pe_int pa_nil))) (pa_cons (pe_lst pa_nil) (pa_cons (pe_tup (pa_cons pe_int (pa_cons pe_int pa_nil))) (pa_cons (pe_lst (pa_cons (pe_op op_subI (pe_un un_negU pe_int) (pv 1)) pa_nil)) pa_nil))))))))) (pe_op op_subI (pe_op op_modI (pv 0) pe_int) pe_int) (fun _ _ => rfl))) (pss_cons (ps_asg (pv 5) (pg_sub (pv 3) (pe_op op_modI (pe_op op_divI (pv 0) pe_int) (pe_callB call_len_seq (by rfl) T.len LH.b_len (pa_cons (pv 3) pa_nil))) set_list)) (pss_one (ps_ret (pv 3))))))))), rd_law_bad_lines h⟩)
abbrev s_pairs_init : Stmt := clsAt (topS 34) 0
abbrev N_pairs_init : List Str := ["self", "pairs"]
theorem sc_pairs_init : FnScope N_pairs_init ["self", "pairs"] (C8.fnScope s_pairs_init) := C8.fnScope_by (by decide +kernel)
theorem ok_pairs_init (M : Mk c.K c.pairs f) (F : C8.Fun c.K "__init__" "Pairs.__init__" s_pairs_init f fd) (b : Binds c.K fd ["self", "pairs"] []) (T : Tb c mg) (O : Ob c) (OX : ObX c) : C8.Mak P c.w c.K mg base 1 "Pairs" c.pairs (sp_pairs_init c) [] :=
  C8.mak0 M T.Pairs F b .nil sc_pairs_init (fun vs H Q E h => ln_pairs_init h) (fun cdv A outer s H vs Q E hr h => ⟨t_pairs_init c, by exact (pss_one (ps_fld (pv 0) (pe_callTy call_list_of (by rfl) T.list LH.b_list (pa_cons (pv 1) pa_nil)) rfl)), rd_pairs_init O h⟩)
abbrev s_few_init : Stmt := clsAt (topS 35) 0
abbrev N_few_init : List Str := ["self", "lines"]
theorem sc_few_init : FnScope N_few_init ["self", "lines"] (C8.fnScope s_few_init) := C8.fnScope_by (by decide +kernel)
theorem ok_few_init (M : Mk c.K c.few f) (F : C8.Fun c.K "__init__" "Few.__init__" s_few_init f fd) (b : Binds c.K fd ["self", "lines"] []) (T : Tb c mg) (O : Ob c) (OX : ObX c) : C8.Mak P c.w c.K mg base 1 "Few" c.few (sp_few_init c) [] :=
  C8.mak0 M T.Few F b .nil sc_few_init (fun vs H Q E h => ln_few_init h) (fun cdv A outer s H vs Q E hr h => ⟨t_few_init c, by exact (pss_one (ps_fld (pv 0) (pe_callTy call_list_of (by rfl) T.list LH.b_list (pa_cons (pv 1) pa_nil)) rfl)), rd_few_init O h⟩)
abbrev s_check_places : Stmt := topS 11
abbrev N_check_places : List Str := ["places"]
theorem sc_check_places : FnScope N_check_places ["places"] (C8.fnScope s_check_places) := C8.fnScope_by (by decide +kernel)
theorem ok_check_places (F : C8.Def c.K mg "check_places" s_check_places f fd) (b : Binds c.K fd ["places"] []) (T : Tb c mg) (O : Ob c) (OX : ObX c) (G_is_whole : C8.Cal P c.w c.K mg base 1 "_is_whole" (sp_is_whole c) []) : C8.Cal P c.w c.K mg base 2 "check_places" (sp_check_places c) [] :=
  C8.cal0 F b .nil sc_check_places (fun vs H Q E h => ln_check_places h) (fun cdv A outer s H vs Q E hr h => ⟨t_check_places c, by exact (pss_one (ps_if (pt_not (PW.pt (pw_and (pt_val (C8.pe_c G_is_whole hr (by decide) (by rfl) (pa_cons (pv 0) pa_nil))) (pw_and1 (pt_chain op_leI op_leI pe_int (pv 0) (LH.pe_k (by rfl) T.MOST_PLACES)))))) (pss_one ps_never) pss_nil)), rd_check_places h⟩)
theorem okX_check_places (F : C8.Def c.K mg "check_places" s_check_places f fd) (b : Binds c.K fd ["places"] []) (T : Tb c mg) (O : Ob c) (OX : ObX c) (G_is_whole : C8.Cal P c.w c.K mg base 1 "_is_whole" (sp_is_whole c) []) : CalX P c.w c.K mg base 2 "check_places" (spX_check_places c) :=
  LH.calX F b sc_check_places (fun vs H Q E h => lnX_check_places h) (fun cdv A outer s H vs Q E hr h => ⟨tX_check_places c E, by exact (pss_one (ps_if (pt_not (PW.pt (pw_and (pt_val (C8.pe_c G_is_whole hr (by decide) (by rfl) (pa_cons (pv 0) pa_nil))) (pw_and1 (pt_chain op_leI op_leI pe_int (pv 0) (LH.pe_k (by rfl) T.MOST_PLACES)))))) (pss_one (LH.ps_rz rfl (takes_of rfl rfl rfl rfl) PySem.F.excBase_ValueError OX.badPlaces.ex T.BadPlaces OX.badPlaces.kp OX.badPlaces.sb OX.badPlaces.ty (by rfl))) pss_nil)), rdX_check_places h⟩)
abbrev s_is_count : Stmt := topS 14
abbrev N_is_count : List Str := ["many", "value"]
theorem sc_is_count : FnScope N_is_count ["many", "value"] (C8.fnScope s_is_count) := C8.fnScope_by (by decide +kernel)
theorem ok_is_count (F : C8.Def c.K mg "is_count" s_is_count f fd) (b : Binds c.K fd ["many", "value"] []) (T : Tb c mg) (O : Ob c) (OX : ObX c) (G_is_whole : C8.Cal P c.w c.K mg base 1 "_is_whole" (sp_is_whole c) []) : C8.Cal P c.w c.K mg base 2 "is_count" (sp_is_count c) [] :=
  C8.cal0 F b .nil sc_is_count (fun vs H Q E h => ln_is_count h) (fun cdv A outer s H vs Q E hr h => ⟨t_is_count c, by exact (pss_one (ps_ret (pe_and (C8.pe_c G_is_whole hr (by decide) (by rfl) (pa_cons (pv 1) pa_nil)) (pe_one (pe_chain op_leI op_ltI pe_int (pv 1) (pv 0)))))), rd_is_count h⟩)
abbrev s_units_of_line : Stmt := topS 28
abbrev N_units_of_line : List Str := ["places", "line", "his", "mine", "place"]
theorem sc_units_of_line : FnScope N_units_of_line ["places", "line", "his", "mine"] (C8.fnScope s_units_of_line) := C8.fnScope_by (by decide +kernel)
theorem ok_units_of_line (F : C8.Def c.K mg "_units_of_line" s_units_of_line f fd) (b : Binds c.K fd ["places", "line", "his", "mine"] []) (T : Tb c mg) (O : Ob c) (OX : ObX c) (G_missing : C8.Cal P c.w c.K mg base 1 "_missing" (sp_missing c) []) : C8.Cal P c.w c.K mg base 2 "_units_of_line" (sp_units_of_line c) [] :=
  C8.cal0 F b .nil sc_units_of_line (fun vs H Q E h => ln_units_of_line h) (fun cdv A outer s H vs Q E hr h => ⟨t_units_of_line c, by exact (pss_cons (ps_if (pt_val (pe_callB (cr_any rfl) (by rfl) T.any LH.b_any (pa_cons (pe_lc (own := [("place", 4)]) (g := (gName 4)) (tt := tYes) (te := (tOp (rIn c.K false) (tVar 4) (tVar 3))) rfl sc_units_of_line.nd (pi_list (pv 1)) (blkOk_by (by kernel_rfl)) (fun _ _ _ _ _ => (pg_name (i := 4) sc_units_of_line.nd rfl (.inl rfl))) (fun _ _ _ _ _ => pts_nil) (fun _ _ _ _ _ => (pe_cmpR op_in_seq (pv 4) (pv 3) (by rfl)))) pa_nil))) (pss_one (ps_ret pe_int)) pss_nil) (pss_one (ps_ret (pe_op op_shlI pe_int (pe_op op_subI (pv 0) (C8.pe_c G_missing hr (by decide) (by rfl) (pa_cons (pv 1) (pa_cons (pv 2) pa_nil)))))))), rd_units_of_line h⟩)
abbrev s_give_one_more : Stmt := topS 40
abbrev N_give_one_more : List Str := ["lines", "owners", "wanting", "gives_up", "takers", "waiting", "count", "place", "owner"]
theorem sc_give_one_more : FnScope N_give_one_more ["lines", "owners", "wanting"] (C8.fnScope s_give_one_more) := C8.fnScope_by (by decide +kernel)
theorem ok_give_one_more (F : C8.Def c.K mg "_give_one_more" s_give_one_more f fd) (b : Binds c.K fd ["lines", "owners", "wanting"] []) (T : Tb c mg) (O : Ob c) (OX : ObX c) (G_hand_over : C8.Cal P c.w c.K mg base 1 "_hand_over" (sp_hand_over c) []) : C8.Cal P c.w c.K mg base 2 "_give_one_more" (sp_give_one_more c) [] :=
  C8.cal0 F b .nil sc_give_one_more (fun vs H Q E h => ln_give_one_more h) (fun cdv A outer s H vs Q E hr h => ⟨t_give_one_more c, by exact (pss_cons (ps_set (i := 3) sc_give_one_more.nd rfl (.inl rfl) (LH.pe_disp1 (pv 2) pe_non)) (pss_cons (ps_set (i := 4) sc_give_one_more.nd rfl (.inl rfl) pe_dnewK) (pss_cons (ps_set (i := 5) sc_give_one_more.nd rfl (.inl rfl) (pe_lst (pa_cons (pv 2) pa_nil))) (pss_cons (ps_while PassesOwn.never (pt_cmpR op_gtI (pe_callB call_len_seq (by rfl) T.len LH.b_len (pa_cons (pv 5) pa_nil)) pe_int (nomark _)) (pss_cons (ps_set (i := 6) sc_give_one_more.nd rfl (.inl rfl) (pe_bm0 PySem.F.plainAttrs_list PySem.F.slot_list_pop PySem.F.type_list_pop mt_pop (pv 5))) (pss_one (ps_for PassesOwn.never rfl (pi_list (pe_ix ix_seq (pv 0) (pv 6) (fun _ _ => rfl))) (pg_name (i := 7) sc_give_one_more.nd rfl (.inl rfl)) (pss_cons (ps_if (pt_cmp (pc_din (hu_of hr) (pv 7) (pv 4)) rfl) (pss_one ps_continue) pss_nil) (pss_cons (ps_dput (hu_of hr) (pv 4) (pv 7) (pv 6) rfl) (pss_cons (ps_if (pt_cmp (pc_dnotin (hu_of hr) (pv 7) (pv 1)) rfl) (pss_cons (ps_expr (C8.pe_c G_hand_over hr (by decide) (by rfl) (pa_cons (pv 1) (pa_cons (pv 4) (pa_cons (pv 3) (pa_cons (pv 7) pa_nil)))))) (pss_one (ps_ret (pe_lst pa_nil)))) pss_nil) (pss_cons (ps_set (i := 8) sc_give_one_more.nd rfl (.inl rfl) (pe_dget (hu_of hr) (pv 1) (pv 7) (fun _ _ => rfl))) (pss_one (ps_if (pt_cmp (pc_dnotin (hu_of hr) (pv 8) (pv 3)) rfl) (pss_cons (ps_dput (hu_of hr) (pv 3) (pv 8) (pv 7) rfl) (pss_one (ps_expr (pe_bm PySem.F.plainAttrs_list PySem.F.slot_list_append PySem.F.type_list_append mt_append (pv 5) (pa_cons (pv 8) pa_nil))))) pss_nil)))))))))) (pss_one (ps_ret (pe_callB (cr_sortedD rfl) (by rfl) T.sorted LH.b_sorted (pa_cons (pv 3) pa_nil)))))))), rd_give_one_more h⟩)
abbrev s_is_list_of_places : Stmt := topS 16
abbrev N_is_list_of_places : List Str := ["places", "values", "value"]
theorem sc_is_list_of_places : FnScope N_is_list_of_places ["places", "values"] (C8.fnScope s_is_list_of_places) := C8.fnScope_by (by decide +kernel)
theorem ok_is_list_of_places (F : C8.Def c.K mg "_is_list_of_places" s_is_list_of_places f fd) (b : Binds c.K fd ["places", "values"] []) (T : Tb c mg) (O : Ob c) (OX : ObX c) (G_is_count : C8.Cal P c.w c.K mg base 2 "is_count" (sp_is_count c) []) : C8.Cal P c.w c.K mg base 3 "_is_list_of_places" (sp_is_list_of_places c) [] :=
  C8.cal0 F b .nil sc_is_list_of_places (fun vs H Q E h => ln_is_list_of_places h) (fun cdv A outer s H vs Q E hr h => ⟨t_is_list_of_places c, by exact (pss_one (ps_ret (pe_and (pe_callB call_isi (by rfl) T.isinstance LH.b_isinstance (pa_cons (pv 1) (pa_cons (pe_bltn (by rfl) T.list LH.b_list rfl) pa_nil))) (pe_one (pe_callB (cr_all rfl) (by rfl) T.all LH.b_all (pa_cons (pe_lc (own := [("value", 2)]) (g := (gName 2)) (tt := tYes) (te := (tCall (sp_is_count c) [] C8.E0 (tCons (tVar 0) (tCons (tVar 2) tNil)))) rfl sc_is_list_of_places.nd (pi_list (pv 1)) (blkOk_by (by kernel_rfl)) (fun _ _ _ _ _ => (pg_name (i := 2) sc_is_list_of_places.nd rfl (.inl rfl))) (fun _ _ _ _ _ => pts_nil) (fun _ _ _ _ _ => (C8.pe_c G_is_count hr (by decide) (by rfl) (pa_cons (pv 0) (pa_cons (pv 2) pa_nil))))) pa_nil)))))), rd_is_list_of_places h⟩)
abbrev s_units_of_lines : Stmt := topS 29
abbrev N_units_of_lines : List Str := ["places", "lines", "his", "mine", "line"]
theorem sc_units_of_lines : FnScope N_units_of_lines ["places", "lines", "his", "mine"] (C8.fnScope s_units_of_lines) := C8.fnScope_by (by decide +kernel)
theorem ok_units_of_lines (F : C8.Def c.K mg "_units_of_lines" s_units_of_lines f fd) (b : Binds c.K fd ["places", "lines", "his", "mine"] []) (T : Tb c mg) (O : Ob c) (OX : ObX c) (G_units_of_line : C8.Cal P c.w c.K mg base 2 "_units_of_line" (sp_units_of_line c) []) : C8.Cal P c.w c.K mg base 3 "_units_of_lines" (sp_units_of_lines c) [] :=
  C8.cal0 F b .nil sc_units_of_lines (fun vs H Q E h => ln_units_of_lines h) (fun cdv A outer s H vs Q E hr h => ⟨t_units_of_lines c, by exact (pss_one (ps_ret (pe_lc (own := [("line", 4)]) (g := (gName 4)) (tt := tYes) (te := (tCall (sp_units_of_line c) [] C8.E0 (tCons (tVar 0) (tCons (tVar 4) (tCons (tVar 2) (tCons (tVar 3) tNil)))))) rfl sc_units_of_lines.nd (pi_list (pv 1)) (blkOk_by (by kernel_rfl)) (fun _ _ _ _ _ => (pg_name (i := 4) sc_units_of_lines.nd rfl (.inl rfl))) (fun _ _ _ _ _ => pts_nil) (fun _ _ _ _ _ => (C8.pe_c G_units_of_line hr (by decide) (by rfl) (pa_cons (pv 0) (pa_cons (pv 4) (pa_cons (pv 2) (pa_cons (pv 3) pa_nil))))))))), rd_units_of_lines h⟩)
abbrev s_check_takings : Stmt := topS 13
abbrev N_check_takings : List Str := ["places", "his", "mine", "taken"]
theorem sc_check_takings : FnScope N_check_takings ["places", "his", "mine"] (C8.fnScope s_check_takings) := C8.fnScope_by (by decide +kernel)
theorem ok_check_takings (F : C8.Def c.K mg "check_takings" s_check_takings f fd) (b : Binds c.K fd ["places", "his", "mine"] []) (T : Tb c mg) (O : Ob c) (OX : ObX c) (G_is_list_of_places : C8.Cal P c.w c.K mg base 3 "_is_list_of_places" (sp_is_list_of_places c) []) : C8.Cal P c.w c.K mg base 4 "check_takings" (sp_check_takings c) [] :=
  C8.cal0 F b .nil sc_check_takings (fun vs H Q E h => ln_check_takings h) (fun cdv A outer s H vs Q E hr h => ⟨t_check_takings c, by exact (pss_cons (ps_if (pt_not (PW.pt (pw_and (pt_val (C8.pe_c G_is_list_of_places hr (by decide) (by rfl) (pa_cons (pv 0) (pa_cons (pv 1) pa_nil)))) (pw_and1 (pt_val (C8.pe_c G_is_list_of_places hr (by decide) (by rfl) (pa_cons (pv 0) (pa_cons (pv 2) pa_nil)))))))) (pss_one ps_never) pss_nil) (pss_cons (ps_set (i := 3) sc_check_takings.nd rfl (.inl rfl) (pe_op op_catL (pv 1) (pv 2))) (pss_one (ps_if (pt_cmpR (op_neA hr.units) (pe_callB cr_lenSet (by rfl) T.len LH.b_len (pa_cons (pe_callTy (cr_setL rfl) (by rfl) T.set LH.b_set (pa_cons (pv 3) pa_nil)) pa_nil)) (pe_callB call_len_seq (by rfl) T.len LH.b_len (pa_cons (pv 3) pa_nil)) (nomark _)) (pss_one ps_never) pss_nil)))), rd_check_takings h⟩)
theorem okX_check_takings (F : C8.Def c.K mg "check_takings" s_check_takings f fd) (b : Binds c.K fd ["places", "his", "mine"] []) (T : Tb c mg) (O : Ob c) (OX : ObX c) (G_is_list_of_places : C8.Cal P c.w c.K mg base 3 "_is_list_of_places" (sp_is_list_of_places c) []) : CalX P c.w c.K mg base 4 "check_takings" (spX_check_takings c) :=
  LH.calX F b sc_check_takings (fun vs H Q E h => lnX_check_takings h) (fun cdv A outer s H vs Q E hr h => ⟨tX_check_takings c E, by exact (pss_cons (ps_if (pt_not (PW.pt (pw_and (pt_val (C8.pe_c G_is_list_of_places hr (by decide) (by rfl) (pa_cons (pv 0) (pa_cons (pv 1) pa_nil)))) (pw_and1 (pt_val (C8.pe_c G_is_list_of_places hr (by decide) (by rfl) (pa_cons (pv 0) (pa_cons (pv 2) pa_nil)))))))) (pss_one (LH.ps_rz rfl (takes_of rfl rfl rfl rfl) PySem.F.excBase_ValueError OX.badTakings.ex T.BadTakings OX.badTakings.kp OX.badTakings.sb OX.badTakings.ty (by rfl))) pss_nil) (pss_cons (ps_set (i := 3) sc_check_takings.nd rfl (.inl rfl) (pe_op op_catL (pv 1) (pv 2))) (pss_one (ps_if (pt_cmpR (op_neA hr.units) (pe_callB cr_lenSet (by rfl) T.len LH.b_len (pa_cons (pe_callTy (cr_setL rfl) (by rfl) T.set LH.b_set (pa_cons (pv 3) pa_nil)) pa_nil)) (pe_callB call_len_seq (by rfl) T.len LH.b_len (pa_cons (pv 3) pa_nil)) (nomark _)) (pss_one (LH.ps_rz rfl (takes_of rfl rfl rfl rfl) PySem.F.excBase_ValueError OX.badTakings.ex T.BadTakings OX.badTakings.kp OX.badTakings.sb OX.badTakings.ty (by rfl))) pss_nil)))), rdX_check_takings h⟩)
abbrev s_is_line : Stmt := topS 17
abbrev N_is_line : List Str := ["places", "line", "low", "high"]
theorem sc_is_line : FnScope N_is_line ["places", "line"] (C8.fnScope s_is_line) := C8.fnScope_by (by decide +kernel)
theorem ok_is_line (F : C8.Def c.K mg "_is_line" s_is_line f fd) (b : Binds c.K fd ["places", "line"] []) (T : Tb c mg) (O : Ob c) (OX : ObX c) (G_is_list_of_places : C8.Cal P c.w c.K mg base 3 "_is_list_of_places" (sp_is_list_of_places c) []) : C8.Cal P c.w c.K mg base 4 "_is_line" (sp_is_line c) [] :=
  C8.cal0 F b .nil sc_is_line (fun vs H Q E h => ln_is_line h) (fun cdv A outer s H vs Q E hr h => ⟨t_is_line c, by exact (pss_cons (ps_if (PW.pt (pw_or (pt_not (pt_val (C8.pe_c G_is_list_of_places hr (by decide) (by rfl) (pa_cons (pv 0) (pa_cons (pv 1) pa_nil))))) (pw_or1 (pt_cmpR (op_eqA hr.units) (pe_callB call_len_seq (by rfl) T.len LH.b_len (pa_cons (pv 1) pa_nil)) pe_int (nomark _))))) (pss_one (ps_ret pe_bl)) pss_nil) (pss_one (ps_ret (pe_callB (cr_all rfl) (by rfl) T.all LH.b_all (pa_cons (pe_lc (own := [("low", 2), ("high", 3)]) (g := (gTup c.K 2 (gCons (gName 2) (gCons (gName 3) gNil)))) (tt := tYes) (te := (tOp rLtI (tVar 2) (tVar 3))) rfl sc_is_line.nd (pi_zip (by rfl) T.zip (pa_cons (pv 1) (pa_cons (pe_slice sl_list (pv 1) (po_some pe_int) po_none) pa_nil))) (blkOk_by (by kernel_rfl)) (fun _ _ _ _ _ => (pg_tup rfl (pgs_cons (pg_name (i := 2) sc_is_line.nd rfl (.inl rfl)) (pgs_cons (pg_name (i := 3) sc_is_line.nd rfl (.inl rfl)) pgs_nil)))) (fun _ _ _ _ _ => pts_nil) (fun _ _ _ _ _ => (pe_cmpR op_ltI (pv 2) (pv 3) (nomark _)))) pa_nil))))), rd_is_line h⟩)
abbrev s_total : Stmt := topS 30
abbrev N_total : List Str := ["places", "lines", "his", "mine"]
theorem sc_total : FnScope N_total ["places", "lines", "his", "mine"] (C8.fnScope s_total) := C8.fnScope_by (by decide +kernel)
theorem ok_total (F : C8.Def c.K mg "_total" s_total f fd) (b : Binds c.K fd ["places", "lines", "his", "mine"] []) (T : Tb c mg) (O : Ob c) (OX : ObX c) (G_units_of_lines : C8.Cal P c.w c.K mg base 3 "_units_of_lines" (sp_units_of_lines c) []) : C8.Cal P c.w c.K mg base 4 "_total" (sp_total c) [] :=
  C8.cal0 F b .nil sc_total (fun vs H Q E h => ln_total h) (fun cdv A outer s H vs Q E hr h => ⟨t_total c, by exact (pss_one (ps_ret (pe_callB (cr_sum rfl) (by rfl) T.sum LH.b_sum (pa_cons (C8.pe_c G_units_of_lines hr (by decide) (by rfl) (pa_cons (pv 0) (pa_cons (pv 1) (pa_cons (pv 2) (pa_cons (pv 3) pa_nil))))) pa_nil)))), rd_total h⟩)
abbrev s_units_of_free : Stmt := topS 31
abbrev N_units_of_free : List Str := ["places", "lines", "his", "mine", "of_lines", "units", "place", "line", "part"]
theorem sc_units_of_free : FnScope N_units_of_free ["places", "lines", "his", "mine"] (C8.fnScope s_units_of_free) := C8.fnScope_by (by decide +kernel)
theorem ok_units_of_free (F : C8.Def c.K mg "_units_of_free" s_units_of_free f fd) (b : Binds c.K fd ["places", "lines", "his", "mine"] []) (T : Tb c mg) (O : Ob c) (OX : ObX c) (G_units_of_lines : C8.Cal P c.w c.K mg base 3 "_units_of_lines" (sp_units_of_lines c) []) (G_free_places : C8.Cal P c.w c.K mg base 1 "free_places" (sp_free_places c) []) : C8.Cal P c.w c.K mg base 4 "_units_of_free" (sp_units_of_free c) [] :=
  C8.cal0 F b .nil sc_units_of_free (fun vs H Q E h => ln_units_of_free h) (fun cdv A outer s H vs Q E hr h => ⟨t_units_of_free c, by exact (pss_cons (ps_set (i := 4) sc_units_of_free.nd rfl (.inl rfl) (C8.pe_c G_units_of_lines hr (by decide) (by rfl) (pa_cons (pv 0) (pa_cons (pv 1) (pa_cons (pv 2) (pa_cons (pv 3) pa_nil)))))) (pss_cons (ps_set (i := 5) sc_units_of_free.nd rfl (.inl rfl) pe_dnewK) (pss_cons (ps_for PassesOwn.never rfl (pi_list (C8.pe_c G_free_places hr (by decide) (by rfl) (pa_cons (pv 0) (pa_cons (pv 2) (pa_cons (pv 3) pa_nil))))) (pg_name (i := 6) sc_units_of_free.nd rfl (.inr rfl)) (pss_one (ps_dput (hu_of hr) (pv 5) (pv 6) (pe_callB (cr_sum rfl) (by rfl) T.sum LH.b_sum (pa_cons (pe_lc (own := [("line", 7), ("part", 8)]) (g := (gTup c.K 2 (gCons (gName 7) (gCons (gName 8) gNil)))) (tt := (tTest (tOp (rIn c.K false) (tVar 6) (tVar 7)))) (te := (tVar 8)) rfl sc_units_of_free.nd (pi_zip (by rfl) T.zip (pa_cons (pv 1) (pa_cons (pv 4) pa_nil))) (blkOk_by (by kernel_rfl)) (fun _ _ _ _ _ => (pg_tup rfl (pgs_cons (pg_name (i := 7) sc_units_of_free.nd rfl (.inl rfl)) (pgs_cons (pg_name (i := 8) sc_units_of_free.nd rfl (.inl rfl)) pgs_nil)))) (fun _ _ _ _ _ => (pts_one (pt_cmpR op_in_seq (pv 6) (pv 7) (by rfl)))) (fun _ _ _ _ _ => (pv 8))) pa_nil)) rfl))) (pss_one (ps_ret (pv 5)))))), rd_units_of_free h⟩)
abbrev s_check_lines : Stmt := topS 12
abbrev N_check_lines : List Str := ["places", "lines", "line"]
theorem sc_check_lines : FnScope N_check_lines ["places", "lines"] (C8.fnScope s_check_lines) := C8.fnScope_by (by decide +kernel)
theorem ok_check_lines (F : C8.Def c.K mg "check_lines" s_check_lines f fd) (b : Binds c.K fd ["places", "lines"] []) (T : Tb c mg) (O : Ob c) (OX : ObX c) (G_is_line : C8.Cal P c.w c.K mg base 4 "_is_line" (sp_is_line c) []) : C8.Cal P c.w c.K mg base 5 "check_lines" (sp_check_lines c) [] :=
  C8.cal0 F b .nil sc_check_lines (fun vs H Q E h => ln_check_lines h) (fun cdv A outer s H vs Q E hr h => ⟨t_check_lines c, by exact (pss_cons (ps_if (PW.pt (pw_or (pt_not (pt_val (pe_callB call_isi (by rfl) T.isinstance LH.b_isinstance (pa_cons (pv 1) (pa_cons (pe_bltn (by rfl) T.list LH.b_list rfl) pa_nil))))) (pw_or1 (pt_cmpR op_gtI (pe_callB call_len_seq (by rfl) T.len LH.b_len (pa_cons (pv 1) pa_nil)) (LH.pe_k (by rfl) T.MOST_LINES) (nomark _))))) (pss_one ps_never) pss_nil) (pss_one (ps_if (pt_not (pt_val (pe_callB (cr_all rfl) (by rfl) T.all LH.b_all (pa_cons (pe_lc (own := [("line", 2)]) (g := (gName 2)) (tt := tYes) (te := (tCall (sp_is_line c) [] C8.E0 (tCons (tVar 0) (tCons (tVar 2) tNil)))) rfl sc_check_lines.nd (pi_list (pv 1)) (blkOk_by (by kernel_rfl)) (fun _ _ _ _ _ => (pg_name (i := 2) sc_check_lines.nd rfl (.inl rfl))) (fun _ _ _ _ _ => pts_nil) (fun _ _ _ _ _ => (C8.pe_c G_is_line hr (by decide) (by rfl) (pa_cons (pv 0) (pa_cons (pv 2) pa_nil))))) pa_nil)))) (pss_one ps_never) pss_nil))), rd_check_lines h⟩)
theorem okX_check_lines (F : C8.Def c.K mg "check_lines" s_check_lines f fd) (b : Binds c.K fd ["places", "lines"] []) (T : Tb c mg) (O : Ob c) (OX : ObX c) (G_is_line : C8.Cal P c.w c.K mg base 4 "_is_line" (sp_is_line c) []) : CalX P c.w c.K mg base 5 "check_lines" (spX_check_lines c) :=
  LH.calX F b sc_check_lines (fun vs H Q E h => lnX_check_lines h) (fun cdv A outer s H vs Q E hr h => ⟨tX_check_lines c E, by exact (pss_cons (ps_if (PW.pt (pw_or (pt_not (pt_val (pe_callB call_isi (by rfl) T.isinstance LH.b_isinstance (pa_cons (pv 1) (pa_cons (pe_bltn (by rfl) T.list LH.b_list rfl) pa_nil))))) (pw_or1 (pt_cmpR op_gtI (pe_callB call_len_seq (by rfl) T.len LH.b_len (pa_cons (pv 1) pa_nil)) (LH.pe_k (by rfl) T.MOST_LINES) (nomark _))))) (pss_one (LH.ps_rz rfl (takes_of rfl rfl rfl rfl) PySem.F.excBase_ValueError OX.badLines.ex T.BadLines OX.badLines.kp OX.badLines.sb OX.badLines.ty (by rfl))) pss_nil) (pss_one (ps_if (pt_not (pt_val (pe_callB (cr_all rfl) (by rfl) T.all LH.b_all (pa_cons (pe_lc (own := [("line", 2)]) (g := (gName 2)) (tt := tYes) (te := (tCall (sp_is_line c) [] C8.E0 (tCons (tVar 0) (tCons (tVar 2) tNil)))) rfl sc_check_lines.nd (pi_list (pv 1)) (blkOk_by (by kernel_rfl)) (fun _ _ _ _ _ => (pg_name (i := 2) sc_check_lines.nd rfl (.inl rfl))) (fun _ _ _ _ _ => pts_nil) (fun _ _ _ _ _ => (C8.pe_c G_is_line hr (by decide) (by rfl) (pa_cons (pv 0) (pa_cons (pv 2) pa_nil))))) pa_nil)))) (pss_one (LH.ps_rz rfl (takes_of rfl rfl rfl rfl) PySem.F.excBase_ValueError OX.badLines.ex T.BadLines OX.badLines.kp OX.badLines.sb OX.badLines.ty (by rfl))) pss_nil))), rdX_check_lines h⟩)
abbrev s_check_play : Stmt := topS 10
abbrev N_check_play : List Str := ["places", "lines", "his", "mine"]
theorem sc_check_play : FnScope N_check_play ["places", "lines", "his", "mine"] (C8.fnScope s_check_play) := C8.fnScope_by (by decide +kernel)
theorem ok_check_play (F : C8.Def c.K mg "check_play" s_check_play f fd) (b : Binds c.K fd ["places", "lines", "his", "mine"] []) (T : Tb c mg) (O : Ob c) (OX : ObX c) (G_check_lines : C8.Cal P c.w c.K mg base 5 "check_lines" (sp_check_lines c) []) (G_check_places : C8.Cal P c.w c.K mg base 2 "check_places" (sp_check_places c) []) (G_check_takings : C8.Cal P c.w c.K mg base 4 "check_takings" (sp_check_takings c) []) : C8.Cal P c.w c.K mg base 6 "check_play" (sp_check_play c) [] :=
  C8.cal0 F b .nil sc_check_play (fun vs H Q E h => ln_check_play h) (fun cdv A outer s H vs Q E hr h => ⟨t_check_play c, by exact (pss_cons (ps_expr (C8.pe_c G_check_places hr (by decide) (by rfl) (pa_cons (pv 0) pa_nil))) (pss_cons (ps_expr (C8.pe_c G_check_lines hr (by decide) (by rfl) (pa_cons (pv 0) (pa_cons (pv 1) pa_nil)))) (pss_one (ps_expr (C8.pe_c G_check_takings hr (by decide) (by rfl) (pa_cons (pv 0) (pa_cons (pv 2) (pa_cons (pv 3) pa_nil)))))))), rd_check_play h⟩)
theorem okX_check_play (F : C8.Def c.K mg "check_play" s_check_play f fd) (b : Binds c.K fd ["places", "lines", "his", "mine"] []) (T : Tb c mg) (O : Ob c) (OX : ObX c) (GX_check_lines : CalX P c.w c.K mg base 5 "check_lines" (spX_check_lines c)) (GX_check_places : CalX P c.w c.K mg base 2 "check_places" (spX_check_places c)) (GX_check_takings : CalX P c.w c.K mg base 4 "check_takings" (spX_check_takings c)) : CalX P c.w c.K mg base 6 "check_play" (spX_check_play c) :=
  LH.calX F b sc_check_play (fun vs H Q E h => lnX_check_play h) (fun cdv A outer s H vs Q E hr h => ⟨tX_check_play c E, by exact (pss_cons (ps_expr (LH.pe_cX GX_check_places hr (by decide) (by rfl) (takes_of rfl rfl rfl rfl) (pa_cons (pv 0) pa_nil))) (pss_cons (ps_expr (LH.pe_cX GX_check_lines hr (by decide) (by rfl) (takes_of rfl rfl rfl rfl) (pa_cons (pv 0) (pa_cons (pv 1) pa_nil)))) (pss_one (ps_expr (LH.pe_cX GX_check_takings hr (by decide) (by rfl) (takes_of rfl rfl rfl rfl) (pa_cons (pv 0) (pa_cons (pv 2) (pa_cons (pv 3) pa_nil)))))))), rdX_check_play h⟩)
abbrev s_told : Stmt := topS 38
abbrev N_told : List Str := ["places", "lines", "owners", "count", "_", "short", "line"]
theorem sc_told : FnScope N_told ["places", "lines"] (C8.fnScope s_told) := C8.fnScope_by (by decide +kernel)
theorem ok_told (F : C8.Def c.K mg "told" s_told f fd) (b : Binds c.K fd ["places", "lines"] []) (T : Tb c mg) (O : Ob c) (OX : ObX c) (G_give_one_more : C8.Cal P c.w c.K mg base 2 "_give_one_more" (sp_give_one_more c) []) (G_pair : C8.Cal P c.w c.K mg base 1 "_pair" (sp_pair c) []) (G_check_lines : C8.Cal P c.w c.K mg base 5 "check_lines" (sp_check_lines c) []) (G_check_places : C8.Cal P c.w c.K mg base 2 "check_places" (sp_check_places c) []) (Z_few_init : C8.Mak P c.w c.K mg base 1 "Few" c.few (sp_few_init c) []) (Z_pairs_init : C8.Mak P c.w c.K mg base 1 "Pairs" c.pairs (sp_pairs_init c) []) : C8.Cal P c.w c.K mg base 6 "told" (sp_told c) [] :=
  C8.cal0 F b .nil sc_told (fun vs H Q E h => ln_told h) (fun cdv A outer s H vs Q E hr h => ⟨t_told c, by exact (pss_cons (ps_expr (C8.pe_c G_check_places hr (by decide) (by rfl) (pa_cons (pv 0) pa_nil))) (pss_cons (ps_expr (C8.pe_c G_check_lines hr (by decide) (by rfl) (pa_cons (pv 0) (pa_cons (pv 1) pa_nil)))) (pss_cons (ps_set (i := 2) sc_told.nd rfl (.inr rfl) pe_dnewK) (pss_cons (ps_for PassesOwn.never rfl (pi_range1 (by rfl) T.range (pa_cons (pe_callB call_len_seq (by rfl) T.len LH.b_len (pa_cons (pv 1) pa_nil)) pa_nil)) (pg_name (i := 3) sc_told.nd rfl (.inl rfl)) (pss_one (ps_for PassesOwn.never rfl (pi_range1 (by rfl) T.range (pa_cons (LH.pe_k (by rfl) T.PLACES_OF_ITS_OWN) pa_nil)) (pg_name (i := 4) sc_told.nd rfl (.inl rfl)) (pss_cons (ps_set (i := 5) sc_told.nd rfl (.inl rfl) (C8.pe_c G_give_one_more hr (by decide) (by rfl) (pa_cons (pv 1) (pa_cons (pv 2) (pa_cons (pv 3) pa_nil))))) (pss_one (ps_if (pt_cmpR op_gtI (pe_callB call_len_seq (by rfl) T.len LH.b_len (pa_cons (pv 5) pa_nil)) pe_int (nomark _)) (pss_one (ps_ret (C8.pe_mk Z_few_init hr (by decide) (by rfl) (pa_cons (pv 5) pa_nil)))) pss_nil)))))) (pss_one (ps_ret (C8.pe_mk Z_pairs_init hr (by decide) (by rfl) (pa_cons (pe_lc (own := [("count", 3), ("line", 6)]) (g := (gTup c.K 2 (gCons (gName 3) (gCons (gName 6) gNil)))) (tt := tYes) (te := (tCall (sp_pair c) [] C8.E0 (tCons (tVar 6) (tCons (tVar 2) (tCons (tVar 3) tNil))))) rfl sc_told.nd (pi_enum (by rfl) T.enumerate (pa_cons (pv 1) pa_nil)) (blkOk_by (by kernel_rfl)) (fun _ _ _ _ _ => (pg_tup rfl (pgs_cons (pg_name (i := 3) sc_told.nd rfl (.inl rfl)) (pgs_cons (pg_name (i := 6) sc_told.nd rfl (.inl rfl)) pgs_nil)))) (fun _ _ _ _ _ => pts_nil) (fun _ _ _ _ _ => (C8.pe_c G_pair hr (by decide) (by rfl) (pa_cons (pv 6) (pa_cons (pv 2) (pa_cons (pv 3) pa_nil)))))) pa_nil)))))))), rd_told h⟩)
theorem okX_told (F : C8.Def c.K mg "told" s_told f fd) (b : Binds c.K fd ["places", "lines"] []) (T : Tb c mg) (O : Ob c) (OX : ObX c) (G_give_one_more : C8.Cal P c.w c.K mg base 2 "_give_one_more" (sp_give_one_more c) []) (G_pair : C8.Cal P c.w c.K mg base 1 "_pair" (sp_pair c) []) (GX_check_lines : CalX P c.w c.K mg base 5 "check_lines" (spX_check_lines c)) (GX_check_places : CalX P c.w c.K mg base 2 "check_places" (spX_check_places c)) (Z_few_init : C8.Mak P c.w c.K mg base 1 "Few" c.few (sp_few_init c) []) (Z_pairs_init : C8.Mak P c.w c.K mg base 1 "Pairs" c.pairs (sp_pairs_init c) []) : CalX P c.w c.K mg base 6 "told" (spX_told c) :=
  LH.calX F b sc_told (fun vs H Q E h => lnX_told h) (fun cdv A outer s H vs Q E hr h => ⟨tX_told c E, by exact (pss_cons (ps_expr (LH.pe_cX GX_check_places hr (by decide) (by rfl) (takes_of rfl rfl rfl rfl) (pa_cons (pv 0) pa_nil))) (pss_cons (ps_expr (LH.pe_cX GX_check_lines hr (by decide) (by rfl) (takes_of rfl rfl rfl rfl) (pa_cons (pv 0) (pa_cons (pv 1) pa_nil)))) (PSs.nox (pss_cons (ps_set (i := 2) sc_told.nd rfl (.inr rfl) pe_dnewK) (pss_cons (ps_for PassesOwn.never rfl (pi_range1 (by rfl) T.range (pa_cons (pe_callB call_len_seq (by rfl) T.len LH.b_len (pa_cons (pv 1) pa_nil)) pa_nil)) (pg_name (i := 3) sc_told.nd rfl (.inl rfl)) (pss_one (ps_for PassesOwn.never rfl (pi_range1 (by rfl) T.range (pa_cons (LH.pe_k (by rfl) T.PLACES_OF_ITS_OWN) pa_nil)) (pg_name (i := 4) sc_told.nd rfl (.inl rfl)) (pss_cons (ps_set (i := 5) sc_told.nd rfl (.inl rfl) (C8.pe_c G_give_one_more hr (by decide) (by rfl) (pa_cons (pv 1) (pa_cons (pv 2) (pa_cons (pv 3) pa_nil))))) (pss_one (ps_if (pt_cmpR op_gtI (pe_callB call_len_seq (by rfl) T.len LH.b_len (pa_cons (pv 5) pa_nil)) pe_int (nomark _)) (pss_one (ps_ret (C8.pe_mk Z_few_init hr (by decide) (by rfl) (pa_cons (pv 5) pa_nil)))) pss_nil)))))) (pss_one (ps_ret (C8.pe_mk Z_pairs_init hr (by decide) (by rfl) (pa_cons (pe_lc (own := [("count", 3), ("line", 6)]) (g := (gTup c.K 2 (gCons (gName 3) (gCons (gName 6) gNil)))) (tt := tYes) (te := (tCall (sp_pair c) [] C8.E0 (tCons (tVar 6) (tCons (tVar 2) (tCons (tVar 3) tNil))))) rfl sc_told.nd (pi_enum (by rfl) T.enumerate (pa_cons (pv 1) pa_nil)) (blkOk_by (by kernel_rfl)) (fun _ _ _ _ _ => (pg_tup rfl (pgs_cons (pg_name (i := 3) sc_told.nd rfl (.inl rfl)) (pgs_cons (pg_name (i := 6) sc_told.nd rfl (.inl rfl)) pgs_nil)))) (fun _ _ _ _ _ => pts_nil) (fun _ _ _ _ _ => (C8.pe_c G_pair hr (by decide) (by rfl) (pa_cons (pv 6) (pa_cons (pv 2) (pa_cons (pv 3) pa_nil)))))) pa_nil))))))))), rdX_told h⟩)
abbrev s_danger : Stmt := topS 19
abbrev N_danger : List Str := ["places", "lines", "his", "mine"]
theorem sc_danger : FnScope N_danger ["places", "lines", "his", "mine"] (C8.fnScope s_danger) := C8.fnScope_by (by decide +kernel)
theorem ok_danger (F : C8.Def c.K mg "danger" s_danger f fd) (b : Binds c.K fd ["places", "lines", "his", "mine"] []) (T : Tb c mg) (O : Ob c) (OX : ObX c) (G_in_lowest_terms : C8.Cal P c.w c.K mg base 1 "_in_lowest_terms" (sp_in_lowest_terms c) []) (G_one : C8.Cal P c.w c.K mg base 1 "_one" (sp_one c) []) (G_total : C8.Cal P c.w c.K mg base 4 "_total" (sp_total c) []) (G_check_play : C8.Cal P c.w c.K mg base 6 "check_play" (sp_check_play c) []) : C8.Cal P c.w c.K mg base 7 "danger" (sp_danger c) [] :=
  C8.cal0 F b .nil sc_danger (fun vs H Q E h => ln_danger h) (fun cdv A outer s H vs Q E hr h => ⟨t_danger c, by exact (pss_cons (ps_expr (C8.pe_c G_check_play hr (by decide) (by rfl) (pa_cons (pv 0) (pa_cons (pv 1) (pa_cons (pv 2) (pa_cons (pv 3) pa_nil)))))) (pss_one (ps_ret (C8.pe_c G_in_lowest_terms hr (by decide) (by rfl) (pa_cons (C8.pe_c G_total hr (by decide) (by rfl) (pa_cons (pv 0) (pa_cons (pv 1) (pa_cons (pv 2) (pa_cons (pv 3) pa_nil))))) (pa_cons (C8.pe_c G_one hr (by decide) (by rfl) (pa_cons (pv 0) pa_nil)) pa_nil)))))), rd_danger h⟩)
theorem okX_danger (F : C8.Def c.K mg "danger" s_danger f fd) (b : Binds c.K fd ["places", "lines", "his", "mine"] []) (T : Tb c mg) (O : Ob c) (OX : ObX c) (G_in_lowest_terms : C8.Cal P c.w c.K mg base 1 "_in_lowest_terms" (sp_in_lowest_terms c) []) (G_one : C8.Cal P c.w c.K mg base 1 "_one" (sp_one c) []) (G_total : C8.Cal P c.w c.K mg base 4 "_total" (sp_total c) []) (GX_check_play : CalX P c.w c.K mg base 6 "check_play" (spX_check_play c)) : CalX P c.w c.K mg base 7 "danger" (spX_danger c) :=
  LH.calX F b sc_danger (fun vs H Q E h => lnX_danger h) (fun cdv A outer s H vs Q E hr h => ⟨tX_danger c E, by exact (pss_cons (ps_expr (LH.pe_cX GX_check_play hr (by decide) (by rfl) (takes_of rfl rfl rfl rfl) (pa_cons (pv 0) (pa_cons (pv 1) (pa_cons (pv 2) (pa_cons (pv 3) pa_nil)))))) (PSs.nox (pss_one (ps_ret (C8.pe_c G_in_lowest_terms hr (by decide) (by rfl) (pa_cons (C8.pe_c G_total hr (by decide) (by rfl) (pa_cons (pv 0) (pa_cons (pv 1) (pa_cons (pv 2) (pa_cons (pv 3) pa_nil))))) (pa_cons (C8.pe_c G_one hr (by decide) (by rfl) (pa_cons (pv 0) pa_nil)) pa_nil))))))), rdX_danger h⟩)
abbrev s_worths : Stmt := topS 20
abbrev N_worths : List Str := ["places", "lines", "his", "mine", "units", "pairs", "place"]
theorem sc_worths : FnScope N_worths ["places", "lines", "his", "mine"] (C8.fnScope s_worths) := C8.fnScope_by (by decide +kernel)
theorem okX_worths (F : C8.Def c.K mg "worths" s_worths f fd) (b : Binds c.K fd ["places", "lines", "his", "mine"] []) (T : Tb c mg) (O : Ob c) (OX : ObX c) (G_in_lowest_terms : C8.Cal P c.w c.K mg base 1 "_in_lowest_terms" (sp_in_lowest_terms c) []) (G_one : C8.Cal P c.w c.K mg base 1 "_one" (sp_one c) []) (G_units_of_free : C8.Cal P c.w c.K mg base 4 "_units_of_free" (sp_units_of_free c) []) (GX_check_play : CalX P c.w c.K mg base 6 "check_play" (spX_check_play c)) : CalX P c.w c.K mg base 7 "worths" (spX_worths c) :=
  LH.calX F b sc_worths (fun vs H Q E h => lnX_worths h) (fun cdv A outer s H vs Q E hr h => ⟨tX_worths c E, by exact (pss_cons (ps_expr (LH.pe_cX GX_check_play hr (by decide) (by rfl) (takes_of rfl rfl rfl rfl) (pa_cons (pv 0) (pa_cons (pv 1) (pa_cons (pv 2) (pa_cons (pv 3) pa_nil)))))) (PSs.nox (pss_cons (ps_set (i := 4) sc_worths.nd rfl (.inl rfl) (C8.pe_c G_units_of_free hr (by decide) (by rfl) (pa_cons (pv 0) (pa_cons (pv 1) (pa_cons (pv 2) (pa_cons (pv 3) pa_nil)))))) (pss_cons (ps_set (i := 5) sc_worths.nd rfl (.inl rfl) (pe_op op_rep (pe_lst (pa_cons pe_non pa_nil)) (pv 0))) (pss_cons (ps_lock (ps_for PassesOwn.never rfl (pi_keys (pv 4)) (pg_name (i := 6) sc_worths.nd rfl (.inl rfl)) (pss_one (ps_asg (C8.pe_c G_in_lowest_terms hr (by decide) (by rfl) (pa_cons (pe_dget (hu_of hr) (pv 4) (pv 6) (fun _ _ => rfl)) (pa_cons (C8.pe_c G_one hr (by decide) (by rfl) (pa_cons (pv 0) pa_nil)) pa_nil))) (pg_sub (pv 5) (pv 6) set_list))))) (pss_one (ps_ret (pv 5)))))))), rdX_worths h⟩)
abbrev s_sure : Stmt := topS 21
abbrev N_sure : List Str := ["places", "lines", "his", "mine", "total"]
theorem sc_sure : FnScope N_sure ["places", "lines", "his", "mine"] (C8.fnScope s_sure) := C8.fnScope_by (by decide +kernel)
theorem okX_sure (F : C8.Def c.K mg "sure" s_sure f fd) (b : Binds c.K fd ["places", "lines", "his", "mine"] []) (T : Tb c mg) (O : Ob c) (OX : ObX c) (G_one : C8.Cal P c.w c.K mg base 1 "_one" (sp_one c) []) (G_total : C8.Cal P c.w c.K mg base 4 "_total" (sp_total c) []) (GX_check_play : CalX P c.w c.K mg base 6 "check_play" (spX_check_play c)) : CalX P c.w c.K mg base 7 "sure" (spX_sure c) :=
  LH.calX F b sc_sure (fun vs H Q E h => lnX_sure h) (fun cdv A outer s H vs Q E hr h => ⟨tX_sure c E, by exact (pss_cons (ps_expr (LH.pe_cX GX_check_play hr (by decide) (by rfl) (takes_of rfl rfl rfl rfl) (pa_cons (pv 0) (pa_cons (pv 1) (pa_cons (pv 2) (pa_cons (pv 3) pa_nil)))))) (PSs.nox (pss_cons (ps_set (i := 4) sc_sure.nd rfl (.inl rfl) (C8.pe_c G_total hr (by decide) (by rfl) (pa_cons (pv 0) (pa_cons (pv 1) (pa_cons (pv 2) (pa_cons (pv 3) pa_nil)))))) (pss_one (ps_ret (pe_tup (pa_cons (pe_cmpR op_ltI (pv 4) (C8.pe_c G_one hr (by decide) (by rfl) (pa_cons (pv 0) pa_nil)) (nomark _)) (pa_cons (pe_cmpR op_ltI (pe_op op_mulI pe_int (pv 4)) (C8.pe_c G_one hr (by decide) (by rfl) (pa_cons (pv 0) pa_nil)) (nomark _)) pa_nil)))))))), rdX_sure h⟩)
abbrev s_best : Stmt := topS 22
abbrev N_best : List Str := ["places", "lines", "his", "mine", "units", "chosen", "place"]
theorem sc_best : FnScope N_best ["places", "lines", "his", "mine"] (C8.fnScope s_best) := C8.fnScope_by (by decide +kernel)
theorem okX_best (F : C8.Def c.K mg "best" s_best f fd) (b : Binds c.K fd ["places", "lines", "his", "mine"] []) (T : Tb c mg) (O : Ob c) (OX : ObX c) (G_units_of_free : C8.Cal P c.w c.K mg base 4 "_units_of_free" (sp_units_of_free c) []) (GX_check_play : CalX P c.w c.K mg base 6 "check_play" (spX_check_play c)) : CalX P c.w c.K mg base 7 "best" (spX_best c) :=
  LH.calX F b sc_best (fun vs H Q E h => lnX_best h) (fun cdv A outer s H vs Q E hr h => ⟨tX_best c E, by exact (pss_cons (ps_expr (LH.pe_cX GX_check_play hr (by decide) (by rfl) (takes_of rfl rfl rfl rfl) (pa_cons (pv 0) (pa_cons (pv 1) (pa_cons (pv 2) (pa_cons (pv 3) pa_nil)))))) (PSs.nox (pss_cons (ps_set (i := 4) sc_best.nd rfl (.inl rfl) (C8.pe_c G_units_of_free hr (by decide) (by rfl) (pa_cons (pv 0) (pa_cons (pv 1) (pa_cons (pv 2) (pa_cons (pv 3) pa_nil)))))) (pss_cons (ps_set (i := 5) sc_best.nd rfl (.inl rfl) pe_non) (pss_cons (ps_lock (ps_for PassesOwn.never rfl (pi_keys (pv 4)) (pg_name (i := 6) sc_best.nd rfl (.inl rfl)) (pss_one (ps_if (PW.pt (pw_or (pt_cmpR op_isNone (pv 5) pe_non (nomark _)) (pw_or1 (pt_cmpR op_gtI (pe_dget (hu_of hr) (pv 4) (pv 6) (fun _ _ => rfl)) (pe_dget (hu_of hr) (pv 4) (pv 5) (fun _ _ => rfl)) (nomark _))))) (pss_one (ps_set (i := 5) sc_best.nd rfl (.inl rfl) (pv 6))) pss_nil)))) (pss_one (ps_ret (pv 5)))))))), rdX_best h⟩)
abbrev s_full : Stmt := topS 23
abbrev N_full : List Str := ["places", "lines", "his", "mine", "count", "line"]
theorem sc_full : FnScope N_full ["places", "lines", "his", "mine"] (C8.fnScope s_full) := C8.fnScope_by (by decide +kernel)
theorem ok_full (F : C8.Def c.K mg "full" s_full f fd) (b : Binds c.K fd ["places", "lines", "his", "mine"] []) (T : Tb c mg) (O : Ob c) (OX : ObX c) (G_missing : C8.Cal P c.w c.K mg base 1 "_missing" (sp_missing c) []) (G_check_play : C8.Cal P c.w c.K mg base 6 "check_play" (sp_check_play c) []) : C8.Cal P c.w c.K mg base 7 "full" (sp_full c) [] :=
  C8.cal0 F b .nil sc_full (fun vs H Q E h => ln_full h) (fun cdv A outer s H vs Q E hr h => ⟨t_full c, by exact (pss_cons (ps_expr (C8.pe_c G_check_play hr (by decide) (by rfl) (pa_cons (pv 0) (pa_cons (pv 1) (pa_cons (pv 2) (pa_cons (pv 3) pa_nil)))))) (pss_one (ps_ret (pe_lc (own := [("count", 4), ("line", 5)]) (g := (gTup c.K 2 (gCons (gName 4) (gCons (gName 5) gNil)))) (tt := (tTest (tOp (rEqA c.K) (tCall (sp_missing c) [] C8.E0 (tCons (tVar 5) (tCons (tVar 2) tNil))) (tC (.int 0))))) (te := (tVar 4)) rfl sc_full.nd (pi_enum (by rfl) T.enumerate (pa_cons (pv 1) pa_nil)) (blkOk_by (by kernel_rfl)) (fun _ _ _ _ _ => (pg_tup rfl (pgs_cons (pg_name (i := 4) sc_full.nd rfl (.inl rfl)) (pgs_cons (pg_name (i := 5) sc_full.nd rfl (.inl rfl)) pgs_nil)))) (fun _ _ _ _ _ => (pts_one (pt_cmpR (op_eqA hr.units) (C8.pe_c G_missing hr (by decide) (by rfl) (pa_cons (pv 5) (pa_cons (pv 2) pa_nil))) pe_int (nomark _)))) (fun _ _ _ _ _ => (pv 4)))))), rd_full h⟩)
theorem okX_full (F : C8.Def c.K mg "full" s_full f fd) (b : Binds c.K fd ["places", "lines", "his", "mine"] []) (T : Tb c mg) (O : Ob c) (OX : ObX c) (G_missing : C8.Cal P c.w c.K mg base 1 "_missing" (sp_missing c) []) (GX_check_play : CalX P c.w c.K mg base 6 "check_play" (spX_check_play c)) : CalX P c.w c.K mg base 7 "full" (spX_full c) :=
  LH.calX F b sc_full (fun vs H Q E h => lnX_full h) (fun cdv A outer s H vs Q E hr h => ⟨tX_full c E, by exact (pss_cons (ps_expr (LH.pe_cX GX_check_play hr (by decide) (by rfl) (takes_of rfl rfl rfl rfl) (pa_cons (pv 0) (pa_cons (pv 1) (pa_cons (pv 2) (pa_cons (pv 3) pa_nil)))))) (PSs.nox (pss_one (ps_ret (pe_lc (own := [("count", 4), ("line", 5)]) (g := (gTup c.K 2 (gCons (gName 4) (gCons (gName 5) gNil)))) (tt := (tTest (tOp (rEqA c.K) (tCall (sp_missing c) [] C8.E0 (tCons (tVar 5) (tCons (tVar 2) tNil))) (tC (.int 0))))) (te := (tVar 4)) rfl sc_full.nd (pi_enum (by rfl) T.enumerate (pa_cons (pv 1) pa_nil)) (blkOk_by (by kernel_rfl)) (fun _ _ _ _ _ => (pg_tup rfl (pgs_cons (pg_name (i := 4) sc_full.nd rfl (.inl rfl)) (pgs_cons (pg_name (i := 5) sc_full.nd rfl (.inl rfl)) pgs_nil)))) (fun _ _ _ _ _ => (pts_one (pt_cmpR (op_eqA hr.units) (C8.pe_c G_missing hr (by decide) (by rfl) (pa_cons (pv 5) (pa_cons (pv 2) pa_nil))) pe_int (nomark _)))) (fun _ _ _ _ _ => (pv 4))))))), rdX_full h⟩)
abbrev s_reply : Stmt := topS 39
abbrev N_reply : List Str := ["places", "lines", "his", "mine", "free", "other"]
theorem sc_reply : FnScope N_reply ["places", "lines", "his", "mine"] (C8.fnScope s_reply) := C8.fnScope_by (by decide +kernel)
theorem okX_reply (F : C8.Def c.K mg "reply" s_reply f fd) (b : Binds c.K fd ["places", "lines", "his", "mine"] []) (T : Tb c mg) (O : Ob c) (OX : ObX c) (G_other_place : C8.Cal P c.w c.K mg base 1 "_other_place" (sp_other_place c) []) (G_free_places : C8.Cal P c.w c.K mg base 1 "free_places" (sp_free_places c) []) (G_told : C8.Cal P c.w c.K mg base 6 "told" (sp_told c) []) (GX_check_play : CalX P c.w c.K mg base 6 "check_play" (spX_check_play c)) : CalX P c.w c.K mg base 7 "reply" (spX_reply c) :=
  LH.calX F b sc_reply (fun vs H Q E h => lnX_reply h) (fun cdv A outer s H vs Q E hr h => ⟨tX_reply c E, by exact (pss_cons (ps_expr (LH.pe_cX GX_check_play hr (by decide) (by rfl) (takes_of rfl rfl rfl rfl) (pa_cons (pv 0) (pa_cons (pv 1) (pa_cons (pv 2) (pa_cons (pv 3) pa_nil)))))) (PSs.nox (pss_cons (ps_set (i := 4) sc_reply.nd rfl (.inl rfl) (C8.pe_c G_free_places hr (by decide) (by rfl) (pa_cons (pv 0) (pa_cons (pv 2) (pa_cons (pv 3) pa_nil))))) (pss_cons (ps_if (pt_cmpR (op_eqA hr.units) (pe_callB call_len_seq (by rfl) T.len LH.b_len (pa_cons (pv 4) pa_nil)) pe_int (nomark _)) (pss_one (ps_ret pe_non)) pss_nil) (pss_cons (ps_set (i := 5) sc_reply.nd rfl (.inl rfl) (C8.pe_c G_other_place hr (by decide) (by rfl) (pa_cons (C8.pe_c G_told hr (by decide) (by rfl) (pa_cons (pv 0) (pa_cons (pv 1) pa_nil))) (pa_cons (pv 2) pa_nil)))) (pss_one (ps_ret (pe_ifExp (pt_cmpR op_in_seq (pv 5) (pv 4) (by rfl)) (pv 5) (pe_ix ix_seq (pv 4) pe_int (fun _ _ => rfl)))))))))), rdX_reply O h⟩)
abbrev s_law_with_board : Stmt := topS 45
abbrev N_law_with_board : List Str := ["_law_door", "_law_places", "_law_lines", "_law_his", "_law_mine"]
theorem sc_law_with_board : FnScope N_law_with_board ["_law_door", "_law_places", "_law_lines", "_law_his", "_law_mine"] (C8.fnScope s_law_with_board) := C8.fnScope_by (by decide +kernel)
theorem okX_law_with_board (F : C8.Def c.K mg "_law_with_board" s_law_with_board f fd) (b : Binds c.K fd ["_law_door", "_law_places", "_law_lines", "_law_his", "_law_mine"] []) (T : Tb c mg) (O : Ob c) (OX : ObX c) (GX_best : CalX P c.w c.K mg base 7 "best" (spX_best c)) (GX_danger : CalX P c.w c.K mg base 7 "danger" (spX_danger c)) (GX_full : CalX P c.w c.K mg base 7 "full" (spX_full c)) (GX_reply : CalX P c.w c.K mg base 7 "reply" (spX_reply c)) (GX_sure : CalX P c.w c.K mg base 7 "sure" (spX_sure c)) (GX_worths : CalX P c.w c.K mg base 7 "worths" (spX_worths c)) : CalX P c.w c.K mg base 8 "_law_with_board" (spX_law_with_board c) :=
  LH.calX F b sc_law_with_board (fun vs H Q E h => lnX_law_with_board h) (fun cdv A outer s H vs Q E hr h => ⟨tX_law_with_board c E, by exact (pss_cons (ps_if (pt_cmpR op_ltI (pv 0) pe_int (nomark _)) (pss_one (ps_ret (pe_ifExp (pt_cmpR (op_eqA hr.units) (pv 0) pe_int (nomark _)) (LH.pe_cX GX_danger hr (by decide) (by rfl) (takes_of rfl rfl rfl rfl) (pa_cons (pv 1) (pa_cons (pv 2) (pa_cons (pv 3) (pa_cons (pv 4) pa_nil))))) (LH.pe_cX GX_worths hr (by decide) (by rfl) (takes_of rfl rfl rfl rfl) (pa_cons (pv 1) (pa_cons (pv 2) (pa_cons (pv 3) (pa_cons (pv 4) pa_nil)))))))) pss_nil) (pss_cons (ps_if (pt_cmpR op_ltI (pv 0) pe_int (nomark _)) (pss_one (ps_ret (pe_ifExp (pt_cmpR (op_eqA hr.units) (pv 0) pe_int (nomark _)) (LH.pe_cX GX_sure hr (by decide) (by rfl) (takes_of rfl rfl rfl rfl) (pa_cons (pv 1) (pa_cons (pv 2) (pa_cons (pv 3) (pa_cons (pv 4) pa_nil))))) (LH.pe_cX GX_best hr (by decide) (by rfl) (takes_of rfl rfl rfl rfl) (pa_cons (pv 1) (pa_cons (pv 2) (pa_cons (pv 3) (pa_cons (pv 4) pa_nil)))))))) pss_nil) (pss_one (ps_ret (pe_ifExp (pt_cmpR (op_eqA hr.units) (pv 0) pe_int (nomark _)) (LH.pe_cX GX_full hr (by decide) (by rfl) (takes_of rfl rfl rfl rfl) (pa_cons (pv 1) (pa_cons (pv 2) (pa_cons (pv 3) (pa_cons (pv 4) pa_nil))))) (LH.pe_cX GX_reply hr (by decide) (by rfl) (takes_of rfl rfl rfl rfl) (pa_cons (pv 1) (pa_cons (pv 2) (pa_cons (pv 3) (pa_cons (pv 4) pa_nil)))))))))), rdX_law_with_board h⟩)
abbrev s_law_told : Stmt := topS 47
abbrev N_law_told : List Str := ["_law_kind", "_law_which", "_law_more", "_law_bad", "_law_his", "_law_mine", "error", "_law_found"]
theorem sc_law_told : FnScope N_law_told ["_law_kind", "_law_which", "_law_more"] (C8.fnScope s_law_told) := C8.fnScope_by (by decide +kernel)
theorem ok_law_told (F : C8.Def c.K mg "_law_told" s_law_told f fd) (b : Binds c.K fd ["_law_kind", "_law_which", "_law_more"] []) (T : Tb c mg) (O : Ob c) (OX : ObX c) (G_law_bad_lines : C8.Cal P c.w c.K mg base 1 "_law_bad_lines" (sp_law_bad_lines c) []) (GX_law_with_board : CalX P c.w c.K mg base 8 "_law_with_board" (spX_law_with_board c)) (GX_told : CalX P c.w c.K mg base 6 "told" (spX_told c)) : C8.Cal P c.w c.K mg base 9 "_law_told" (sp_law_told c) [] :=
  C8.cal0 F b .nil sc_law_told (fun vs H Q E h => ln_law_told h) (fun cdv A outer s H vs Q E hr h => ⟨t_law_told c, by exact (pss_cons (ps_try_as (i := 6) (tb := fun W => (tIfS (tTest (tOp (rEqA c.K) (tVar 0) (tC (.int 0)))) (tSeq (tAsg (tOp (rIx c.K) (tLst (tCons (tC .non) (tCons (tC (.str "4")) (tCons (tC (.bl true)) (tCons (tC (.bl false)) (tCons (tLst (tCons (tC (.int 4)) tNil)) (tCons (tTup (tCons (tC (.int 4)) tNil)) (tCons (tC (.int 0)) (tCons (tOp rSubI (tUn rNegU (tC (.int 1))) (tVar 2)) (tCons (tC (.int 61)) (tCons (tOp rAddI (tC (.int 61)) (tVar 2)) tNil))))))))))) (tOp rModI (tVar 1) (tC (.int 10)))) (gName 3)) (tDrop (tIf (tTest (tOp (rEqA c.K) (tOp rModI (tOp rDivI (tVar 1) (tC (.int 10))) (tC (.int 7))) (tC (.int 6)))) (tCallS (spX_told c) (WE W) (tCons (tVar 3) (tCons (tC .non) tNil))) (tCallS (spX_law_with_board c) (WE W) (tCons (tOp rModI (tOp rDivI (tVar 1) (tC (.int 10))) (tC (.int 7))) (tCons (tVar 3) (tCons (tC .non) (tCons (tC .non) (tCons (tLst tNil) tNil))))))))) (tIfS (tTest (tOp (rEqA c.K) (tVar 0) (tC (.int 1)))) (tSeq (tAsg (tCall (sp_law_bad_lines c) [] C8.E0 (tCons (tVar 1) (tCons (tVar 2) tNil))) (gName 3)) (tDrop (tIf (tTest (tOp (rEqA c.K) (tOp rModI (tOp rDivI (tVar 1) (tC (.int 26))) (tC (.int 7))) (tC (.int 6)))) (tCallS (spX_told c) (WE W) (tCons (tC (.int 4)) (tCons (tVar 3) tNil))) (tCallS (spX_law_with_board c) (WE W) (tCons (tOp rModI (tOp rDivI (tVar 1) (tC (.int 26))) (tC (.int 7))) (tCons (tC (.int 4)) (tCons (tVar 3) (tCons (tC .non) (tCons (tLst (tCons (tC (.int 0)) (tCons (tC (.int 0)) tNil))) tNil))))))))) (tIfS (tTest (tOp rLtI (tOp rModI (tVar 1) (tC (.int 17))) (tC (.int 14)))) (tSeq (tAsg (tLst (tCons (tC .non) (tCons (tTup tNil) (tCons (tC (.str "0")) (tCons (tC (.int 5)) (tCons tDNewK (tCons (tLst (tCons (tC .non) tNil)) (tCons (tLst (tCons (tC (.str "0")) tNil)) (tCons (tLst (tCons (tC (.bl true)) tNil)) (tCons (tLst (tCons (tUn rNegU (tC (.int 1))) tNil)) (tCons (tLst (tCons (tOp rSubI (tUn rNegU (tC (.int 1))) (tVar 2)) tNil)) (tCons (tLst (tCons (tC (.int 4)) tNil)) (tCons (tLst (tCons (tOp rAddI (tC (.int 4)) (tVar 2)) tNil)) (tCons (tLst (tCons (tLst (tCons (tC (.int 0)) tNil)) tNil)) (tCons (tLst (tCons (tC (.int 0)) (tCons (tC (.int 0)) tNil))) tNil))))))))))))))) (gName 3)) (tSeq (tAsg (tOp (rIx c.K) (tVar 3) (tOp rModI (tVar 1) (tC (.int 17)))) (gName 3)) (tSeq (tAsg (tIf (tTest (tOp (rEqA c.K) (tOp rModI (tOp rDivI (tVar 1) (tC (.int 17))) (tC (.int 2))) (tC (.int 0)))) (tTup (tCons (tVar 3) (tCons (tLst tNil) tNil))) (tTup (tCons (tLst (tCons (tC (.int 2)) tNil)) (tCons (tVar 3) tNil)))) (gTup c.K 2 (gCons (gName 4) (gCons (gName 5) gNil)))) (tDrop (tCallS (spX_law_with_board c) (WE W) (tCons (tOp rModI (tOp rDivI (tVar 1) (tC (.int 34))) (tC (.int 6))) (tCons (tC (.int 4)) (tCons (tLst (tCons (tLst (tCons (tC (.int 0)) (tCons (tC (.int 1)) tNil))) (tCons (tLst (tCons (tC (.int 2)) tNil)) tNil))) (tCons (tVar 4) (tCons (tVar 5) tNil)))))))))) (tDrop (tCallS (spX_law_with_board c) (WE W) (tCons (tOp rModI (tOp rDivI (tVar 1) (tC (.int 17))) (tC (.int 6))) (tCons (tC (.int 4)) (tCons (tLst (tCons (tLst (tCons (tC (.int 0)) (tCons (tC (.int 1)) tNil))) (tCons (tLst (tCons (tC (.int 2)) tNil)) tNil))) (tCons (tLst (tCons (tC (.int 3)) (tCons (tOp rModI (tVar 2) (tC (.int 3))) tNil))) (tCons (tLst (tCons (tOp rModI (tVar 2) (tC (.int 3))) tNil)) tNil))))))))))) (ts := fun a cls d => (tSeq (tAsg (tLst (tCons (tCB (rIsX c.K a cls d) (tCons (tVar 6) (tCons (tC (.ref c.badPlaces)) tNil))) (tCons (tCB (rIsX c.K a cls d) (tCons (tVar 6) (tCons (tC (.ref c.badLines)) tNil))) (tCons (tCB (rIsX c.K a cls d) (tCons (tVar 6) (tCons (tC (.ref c.badTakings)) tNil))) tNil)))) (gName 7)) (tRet (tOp (rCatL c.K) (tVar 7) (tLst (tCons (tCB (rIsX c.K a cls d) (tCons (tVar 6) (tCons (tC (.ty "ValueError")) tNil))) tNil)))))) (Wout := fun _ _ _ _ => False) rfl rfl sc_law_told.nd rfl rfl ⟨by rfl, by decide, Or.inl T.LineError⟩ takes0 (fun W pn xe tk _ => (pss_one (ps_if (pt_cmpR (op_eqA hr.units) (pv 0) pe_int (nomark _)) (pss_cons (ps_set (i := 3) sc_law_told.nd rfl (.inl rfl) (pe_ix ix_seq (pe_lst (pa_cons pe_non (pa_cons pe_str (pa_cons pe_bl (pa_cons pe_bl (pa_cons (pe_lst (pa_cons pe_int pa_nil)) (pa_cons (pe_tup (pa_cons pe_int pa_nil)) (pa_cons pe_int (pa_cons (pe_op op_subI (pe_un un_negU pe_int) (pv 2)) (pa_cons pe_int (pa_cons (pe_op op_addI pe_int (pv 2)) pa_nil))))))))))) (pe_op op_modI (pv 1) pe_int) (fun _ _ => rfl))) (pss_one (ps_expr (pe_ifExp (pt_cmpR (op_eqA hr.units) (pe_op op_modI (pe_op op_divI (pv 1) pe_int) pe_int) pe_int (nomark _)) (LH.pe_cX GX_told hr (by decide) (by rfl) tk (pa_cons (pv 3) (pa_cons pe_non pa_nil))) (LH.pe_cX GX_law_with_board hr (by decide) (by rfl) tk (pa_cons (pe_op op_modI (pe_op op_divI (pv 1) pe_int) pe_int) (pa_cons (pv 3) (pa_cons pe_non (pa_cons pe_non (pa_cons (pe_lst pa_nil) pa_nil)))))))))) (pss_one (ps_if (pt_cmpR (op_eqA hr.units) (pv 0) pe_int (nomark _)) (pss_cons (ps_set (i := 3) sc_law_told.nd rfl (.inl rfl) (C8.pe_c G_law_bad_lines hr (by decide) (by rfl) (pa_cons (pv 1) (pa_cons (pv 2) pa_nil)))) (pss_one (ps_expr (pe_ifExp (pt_cmpR (op_eqA hr.units) (pe_op op_modI (pe_op op_divI (pv 1) pe_int) pe_int) pe_int (nomark _)) (LH.pe_cX GX_told hr (by decide) (by rfl) tk (pa_cons pe_int (pa_cons (pv 3) pa_nil))) (LH.pe_cX GX_law_with_board hr (by decide) (by rfl) tk (pa_cons (pe_op op_modI (pe_op op_divI (pv 1) pe_int) pe_int) (pa_cons pe_int (pa_cons (pv 3) (pa_cons pe_non (pa_cons (pe_lst (pa_cons pe_int (pa_cons pe_int pa_nil))) pa_nil)))))))))) (pss_one (ps_if (pt_cmpR op_ltI (pe_op op_modI (pv 1) pe_int) pe_int (nomark _)) (pss_cons (ps_set (i := 3) sc_law_told.nd rfl (.inl rfl) (pe_lst (pa_cons pe_non (pa_cons (pe_tup pa_nil) (pa_cons pe_str (pa_cons pe_int (pa_cons pe_dnewK (pa_cons (pe_lst (pa_cons pe_non pa_nil)) (pa_cons (pe_lst (pa_cons pe_str pa_nil)) (pa_cons (pe_lst (pa_cons pe_bl pa_nil)) (pa_cons (pe_lst (pa_cons (pe_un un_negU pe_int) pa_nil)) (pa_cons (pe_lst (pa_cons (pe_op op_subI (pe_un un_negU pe_int) (pv 2)) pa_nil)) (pa_cons (pe_lst (pa_cons pe_int pa_nil)) (pa_cons (pe_lst (pa_cons (pe_op op_addI pe_int (pv 2)) pa_nil)) (pa_cons (pe_lst (pa_cons (pe_lst (pa_cons pe_int pa_nil)) pa_nil)) (pa_cons (pe_lst (pa_cons pe_int (pa_cons pe_int pa_nil))) pa_nil)))))))))))))))) (pss_cons (ps_set (i := 3) sc_law_told.nd rfl (.inl rfl) (pe_ix ix_seq (pv 3) (pe_op op_modI (pv 1) pe_int) (fun _ _ => rfl))) (pss_cons (ps_asg (pe_ifExp (pt_cmpR (op_eqA hr.units) (pe_op op_modI (pe_op op_divI (pv 1) pe_int) pe_int) pe_int (nomark _)) (pe_tup (pa_cons (pv 3) (pa_cons (pe_lst pa_nil) pa_nil))) (pe_tup (pa_cons (pe_lst (pa_cons pe_int pa_nil)) (pa_cons (pv 3) pa_nil)))) (pg_tup rfl (pgs_cons (pg_name (i := 4) sc_law_told.nd rfl (.inl rfl)) (pgs_cons (pg_name (i := 5) sc_law_told.nd rfl (.inl rfl)) pgs_nil)))) (pss_one (ps_expr (LH.pe_cX GX_law_with_board hr (by decide) (by rfl) tk (pa_cons (pe_op op_modI (pe_op op_divI (pv 1) pe_int) pe_int) (pa_cons pe_int (pa_cons (pe_lst (pa_cons (pe_lst (pa_cons pe_int (pa_cons pe_int pa_nil))) (pa_cons (pe_lst (pa_cons pe_int pa_nil)) pa_nil))) (pa_cons (pv 4) (pa_cons (pv 5) pa_nil))))))))))) (pss_one (ps_expr (LH.pe_cX GX_law_with_board hr (by decide) (by rfl) tk (pa_cons (pe_op op_modI (pe_op op_divI (pv 1) pe_int) pe_int) (pa_cons pe_int (pa_cons (pe_lst (pa_cons (pe_lst (pa_cons pe_int (pa_cons pe_int pa_nil))) (pa_cons (pe_lst (pa_cons pe_int pa_nil)) pa_nil))) (pa_cons (pe_lst (pa_cons pe_int (pa_cons (pe_op op_modI (pv 2) pe_int) pa_nil))) (pa_cons (pe_lst (pa_cons (pe_op op_modI (pv 2) pe_int) pa_nil)) pa_nil))))))))))))))) (fun a oe cls d pn hz hf => (pss_cons (ps_set (i := 7) sc_law_told.nd rfl (.inl rfl) (pe_lst (pa_cons (pe_callB (LH.call_isX hz hf) (by rfl) T.isinstance LH.b_isinstance (pa_cons (pv 6) (pa_cons (pe_glob (by rfl) T.BadPlaces rfl) pa_nil))) (pa_cons (pe_callB (LH.call_isX hz hf) (by rfl) T.isinstance LH.b_isinstance (pa_cons (pv 6) (pa_cons (pe_glob (by rfl) T.BadLines rfl) pa_nil))) (pa_cons (pe_callB (LH.call_isX hz hf) (by rfl) T.isinstance LH.b_isinstance (pa_cons (pv 6) (pa_cons (pe_glob (by rfl) T.BadTakings rfl) pa_nil))) pa_nil))))) (pss_one (ps_ret (pe_op op_catL (pv 7) (pe_lst (pa_cons (pe_callB (LH.call_isX hz hf) (by rfl) T.isinstance LH.b_isinstance (pa_cons (pv 6) (pa_cons (pe_bltn (by rfl) T.ValueError LH.b_ValueError rfl) pa_nil))) pa_nil)))))))) (pss_one (ps_ret (pe_lst pa_nil)))), rd_law_told OX h⟩)
abbrev s_main : Stmt := topS 48
abbrev N_main : List Str := ["_law_script", "_law_cell", "_law_kind", "_law_due", "_law_at"]
theorem sc_main : FnScope N_main ["_law_script"] (C8.fnScope s_main) := C8.fnScope_by (by decide +kernel)
theorem fn_main (F : C8.Def c.K mg "law" s_main f fd) (T : Tb c mg) (O : Ob c) (OX : ObX c) (G_law_told : C8.Cal P c.w c.K mg base 9 "_law_told" (sp_law_told c) []) (G_danger : C8.Cal P c.w c.K mg base 7 "danger" (sp_danger c) []) (G_full : C8.Cal P c.w c.K mg base 7 "full" (sp_full c) []) : FnOk P c.w c.K mg base C8.CX0 10 f fd ["_law_script"] (sp_main c) :=
  C8.fn0 F.fn sc_main (fun vs H Q E h => ln_main h) (fun cdv A outer s H vs Q E hr h => ⟨t_main c, by exact (pss_cons (ps_for PassesOwn.never rfl (pi_list (pv 0)) (pg_name (i := 1) sc_main.nd rfl (.inl rfl)) (pss_cons (ps_set (i := 2) sc_main.nd rfl (.inr rfl) (pe_op op_modI (pv 1) pe_int)) (pss_cons (ps_set (i := 3) sc_main.nd rfl (.inl rfl) (pe_op op_catL (pe_lc (own := [("_law_at", 4)]) (g := (gName 4)) (tt := tYes) (te := (tOp (rEqA c.K) (tVar 2) (tVar 4))) rfl sc_main.nd (pi_range1 (by rfl) T.range (pa_cons pe_int pa_nil)) (blkOk_by (by kernel_rfl)) (fun _ _ _ _ _ => (pg_name (i := 4) sc_main.nd rfl (.inl rfl))) (fun _ _ _ _ _ => pts_nil) (fun _ _ _ _ _ => (pe_cmpR (op_eqA hr.units) (pv 2) (pv 4) (nomark _)))) (pe_lst (pa_cons pe_bl pa_nil)))) (pss_one (ps_if (pt_cmpR (op_neA hr.units) (C8.pe_c G_law_told hr (by decide) (by rfl) (pa_cons (pv 2) (pa_cons (pe_op op_modI (pe_op op_divI (pv 1) pe_int) pe_int) (pa_cons (pe_op op_modI (pe_op op_divI (pv 1) pe_int) pe_int) pa_nil)))) (pv 3) (nomark _)) (pss_one (ps_ret pe_bl)) pss_nil))))) (pss_one (ps_ret (pe_and (pe_cmpR (op_eqA hr.units) (C8.pe_c G_danger hr (by decide) (by rfl) (pa_cons pe_int (pa_cons (pe_op op_rep (pe_lst (pa_cons (pe_lst (pa_cons pe_int pa_nil)) pa_nil)) pe_int) (pa_cons (pe_lst pa_nil) (pa_cons (pe_lst pa_nil) pa_nil))))) (pe_tup (pa_cons pe_int (pa_cons pe_int pa_nil))) (nomark _)) (pe_one (pe_cmpR (op_eqA hr.units) (C8.pe_c G_full hr (by decide) (by rfl) (pa_cons pe_int (pa_cons (pe_lst (pa_cons (pe_lst (pa_cons pe_int pa_nil)) pa_nil)) (pa_cons (pe_lst (pa_cons pe_int pa_nil)) (pa_cons (pe_lst pa_nil) pa_nil))))) (pe_lst (pa_cons pe_int pa_nil)) (nomark _))))))), rd_main O OX h⟩)
end
end K05

namespace K05
open PySem PySem.Spec PyProof.Rows L2 LH
theorem all {P : Program} {w : World} {K : PySem.W.Frag} {h : Heap} {mg : Str → Option Value} {fa : Addr} (X : K.In h) (G : h.Ns mainGlobals mg) (hfa : mg "law" = some (.ref fa))
    {APairs AFew AAnswer ALineError ABadPlaces ABadLines ABadTakings : Addr}
    (nPairs : PySem.W.nsIn K mainGlobals "Pairs" = some (some (.ref APairs)))
    (nFew : PySem.W.nsIn K mainGlobals "Few" = some (some (.ref AFew)))
    (nAnswer : PySem.W.nsIn K mainGlobals "Answer" = some (some (.ref AAnswer)))
    (nLineError : PySem.W.nsIn K mainGlobals "LineError" = some (some (.ref ALineError)))
    (nBadPlaces : PySem.W.nsIn K mainGlobals "BadPlaces" = some (some (.ref ABadPlaces)))
    (nBadLines : PySem.W.nsIn K mainGlobals "BadLines" = some (some (.ref ABadLines)))
    (nBadTakings : PySem.W.nsIn K mainGlobals "BadTakings" = some (some (.ref ABadTakings)))
    {f1 : Addr} {oc1 : Value} {od1 : Option Addr} {an1 : Option Addr} {sl1 : Array (Option Value)} {kV1 : Value} {dc1 : Value} {pm1 : Value} {cd1 : Value} {ct1 : Value}
    (a1 : PySem.W.nsIn K mainGlobals "_is_whole" = some (some (.ref f1)))
    (l1 : K.lookup f1 = some ⟨oc1, od1, .func (PySem.W.fnOf "_is_whole" "_is_whole" (C8.fnArgs s_is_whole) (C8.fnBody s_is_whole) (C8.fnScope s_is_whole) .none kV1 dc1 pm1 an1 cd1 ct1), sl1⟩)
    (c1 : PySem.W.codeIn K cd1 "_is_whole" = true)
    (k1 : PySem.W.keepIn K (.ref f1) = true)
    {f2 : Addr} {oc2 : Value} {od2 : Option Addr} {an2 : Option Addr} {sl2 : Array (Option Value)} {kV2 : Value} {dc2 : Value} {pm2 : Value} {cd2 : Value} {ct2 : Value}
    (a2 : PySem.W.nsIn K mainGlobals "free_places" = some (some (.ref f2)))
    (l2 : K.lookup f2 = some ⟨oc2, od2, .func (PySem.W.fnOf "free_places" "free_places" (C8.fnArgs s_free_places) (C8.fnBody s_free_places) (C8.fnScope s_free_places) .none kV2 dc2 pm2 an2 cd2 ct2), sl2⟩)
    (c2 : PySem.W.codeIn K cd2 "free_places" = true)
    (k2 : PySem.W.keepIn K (.ref f2) = true)
    {f3 : Addr} {oc3 : Value} {od3 : Option Addr} {an3 : Option Addr} {sl3 : Array (Option Value)} {kV3 : Value} {dc3 : Value} {pm3 : Value} {cd3 : Value} {ct3 : Value}
    (a3 : PySem.W.nsIn K mainGlobals "_one" = some (some (.ref f3)))
    (l3 : K.lookup f3 = some ⟨oc3, od3, .func (PySem.W.fnOf "_one" "_one" (C8.fnArgs s_one) (C8.fnBody s_one) (C8.fnScope s_one) .none kV3 dc3 pm3 an3 cd3 ct3), sl3⟩)
    (c3 : PySem.W.codeIn K cd3 "_one" = true)
    (k3 : PySem.W.keepIn K (.ref f3) = true)
    {f4 : Addr} {oc4 : Value} {od4 : Option Addr} {an4 : Option Addr} {sl4 : Array (Option Value)} {kV4 : Value} {dc4 : Value} {pm4 : Value} {cd4 : Value} {ct4 : Value}
    (a4 : PySem.W.nsIn K mainGlobals "_in_lowest_terms" = some (some (.ref f4)))
    (l4 : K.lookup f4 = some ⟨oc4, od4, .func (PySem.W.fnOf "_in_lowest_terms" "_in_lowest_terms" (C8.fnArgs s_in_lowest_terms) (C8.fnBody s_in_lowest_terms) (C8.fnScope s_in_lowest_terms) .none kV4 dc4 pm4 an4 cd4 ct4), sl4⟩)
    (c4 : PySem.W.codeIn K cd4 "_in_lowest_terms" = true)
    (k4 : PySem.W.keepIn K (.ref f4) = true)
    {f5 : Addr} {oc5 : Value} {od5 : Option Addr} {an5 : Option Addr} {sl5 : Array (Option Value)} {kV5 : Value} {dc5 : Value} {pm5 : Value} {cd5 : Value} {ct5 : Value}
    (a5 : PySem.W.nsIn K mainGlobals "_missing" = some (some (.ref f5)))
    (l5 : K.lookup f5 = some ⟨oc5, od5, .func (PySem.W.fnOf "_missing" "_missing" (C8.fnArgs s_missing) (C8.fnBody s_missing) (C8.fnScope s_missing) .none kV5 dc5 pm5 an5 cd5 ct5), sl5⟩)
    (c5 : PySem.W.codeIn K cd5 "_missing" = true)
    (k5 : PySem.W.keepIn K (.ref f5) = true)
    {f6 : Addr} {oc6 : Value} {od6 : Option Addr} {an6 : Option Addr} {sl6 : Array (Option Value)} {kV6 : Value} {dc6 : Value} {pm6 : Value} {cd6 : Value} {ct6 : Value}
    (a6 : PySem.W.nsIn K mainGlobals "_hand_over" = some (some (.ref f6)))
    (l6 : K.lookup f6 = some ⟨oc6, od6, .func (PySem.W.fnOf "_hand_over" "_hand_over" (C8.fnArgs s_hand_over) (C8.fnBody s_hand_over) (C8.fnScope s_hand_over) .none kV6 dc6 pm6 an6 cd6 ct6), sl6⟩)
    (c6 : PySem.W.codeIn K cd6 "_hand_over" = true)
    (k6 : PySem.W.keepIn K (.ref f6) = true)
    {f7 : Addr} {oc7 : Value} {od7 : Option Addr} {an7 : Option Addr} {sl7 : Array (Option Value)} {kV7 : Value} {dc7 : Value} {pm7 : Value} {cd7 : Value} {ct7 : Value}
    (a7 : PySem.W.nsIn K mainGlobals "_pair" = some (some (.ref f7)))
    (l7 : K.lookup f7 = some ⟨oc7, od7, .func (PySem.W.fnOf "_pair" "_pair" (C8.fnArgs s_pair) (C8.fnBody s_pair) (C8.fnScope s_pair) .none kV7 dc7 pm7 an7 cd7 ct7), sl7⟩)
    (c7 : PySem.W.codeIn K cd7 "_pair" = true)
    (k7 : PySem.W.keepIn K (.ref f7) = true)
    {f8 : Addr} {oc8 : Value} {od8 : Option Addr} {an8 : Option Addr} {sl8 : Array (Option Value)} {kV8 : Value} {dc8 : Value} {pm8 : Value} {cd8 : Value} {ct8 : Value}
    (a8 : PySem.W.nsIn K mainGlobals "_other_place" = some (some (.ref f8)))
    (l8 : K.lookup f8 = some ⟨oc8, od8, .func (PySem.W.fnOf "_other_place" "_other_place" (C8.fnArgs s_other_place) (C8.fnBody s_other_place) (C8.fnScope s_other_place) .none kV8 dc8 pm8 an8 cd8 ct8), sl8⟩)
    (c8 : PySem.W.codeIn K cd8 "_other_place" = true)
    (k8 : PySem.W.keepIn K (.ref f8) = true)
    {f9 : Addr} {oc9 : Value} {od9 : Option Addr} {an9 : Option Addr} {sl9 : Array (Option Value)} {kV9 : Value} {dc9 : Value} {pm9 : Value} {cd9 : Value} {ct9 : Value}
    (a9 : PySem.W.nsIn K mainGlobals "_law_bad_lines" = some (some (.ref f9)))
    (l9 : K.lookup f9 = some ⟨oc9, od9, .func (PySem.W.fnOf "_law_bad_lines" "_law_bad_lines" (C8.fnArgs s_law_bad_lines) (C8.fnBody s_law_bad_lines) (C8.fnScope s_law_bad_lines) .none kV9 dc9 pm9 an9 cd9 ct9), sl9⟩)
    (c9 : PySem.W.codeIn K cd9 "_law_bad_lines" = true)
    (k9 : PySem.W.keepIn K (.ref f9) = true)
    {f10 : Addr} {oc10 : Value} {od10 : Option Addr} {an10 : Option Addr} {sl10 : Array (Option Value)} {kV10 : Value} {dc10 : Value} {pm10 : Value} {cd10 : Value} {ct10 : Value}
    (a10 : PySem.W.findIn K (.ref APairs) "__init__" = some (some (.ref f10)))
    (i10 : PySem.W.isFn K (.ref f10) = true)
    (l10 : K.lookup f10 = some ⟨oc10, od10, .func (PySem.W.fnOf "__init__" "Pairs.__init__" (C8.fnArgs s_pairs_init) (C8.fnBody s_pairs_init) (C8.fnScope s_pairs_init) .none kV10 dc10 pm10 an10 cd10 ct10), sl10⟩)
    (c10 : PySem.W.codeIn K cd10 "Pairs.__init__" = true)
    {f11 : Addr} {oc11 : Value} {od11 : Option Addr} {an11 : Option Addr} {sl11 : Array (Option Value)} {kV11 : Value} {dc11 : Value} {pm11 : Value} {cd11 : Value} {ct11 : Value}
    (a11 : PySem.W.findIn K (.ref AFew) "__init__" = some (some (.ref f11)))
    (i11 : PySem.W.isFn K (.ref f11) = true)
    (l11 : K.lookup f11 = some ⟨oc11, od11, .func (PySem.W.fnOf "__init__" "Few.__init__" (C8.fnArgs s_few_init) (C8.fnBody s_few_init) (C8.fnScope s_few_init) .none kV11 dc11 pm11 an11 cd11 ct11), sl11⟩)
    (c11 : PySem.W.codeIn K cd11 "Few.__init__" = true)
    {f12 : Addr} {oc12 : Value} {od12 : Option Addr} {an12 : Option Addr} {sl12 : Array (Option Value)} {kV12 : Value} {dc12 : Value} {pm12 : Value} {cd12 : Value} {ct12 : Value}
    (a12 : PySem.W.nsIn K mainGlobals "check_places" = some (some (.ref f12)))
    (l12 : K.lookup f12 = some ⟨oc12, od12, .func (PySem.W.fnOf "check_places" "check_places" (C8.fnArgs s_check_places) (C8.fnBody s_check_places) (C8.fnScope s_check_places) .none kV12 dc12 pm12 an12 cd12 ct12), sl12⟩)
    (c12 : PySem.W.codeIn K cd12 "check_places" = true)
    (k12 : PySem.W.keepIn K (.ref f12) = true)
    {f13 : Addr} {oc13 : Value} {od13 : Option Addr} {an13 : Option Addr} {sl13 : Array (Option Value)} {kV13 : Value} {dc13 : Value} {pm13 : Value} {cd13 : Value} {ct13 : Value}
    (a13 : PySem.W.nsIn K mainGlobals "is_count" = some (some (.ref f13)))
    (l13 : K.lookup f13 = some ⟨oc13, od13, .func (PySem.W.fnOf "is_count" "is_count" (C8.fnArgs s_is_count) (C8.fnBody s_is_count) (C8.fnScope s_is_count) .none kV13 dc13 pm13 an13 cd13 ct13), sl13⟩)
    (c13 : PySem.W.codeIn K cd13 "is_count" = true)
    (k13 : PySem.W.keepIn K (.ref f13) = true)
    {f14 : Addr} {oc14 : Value} {od14 : Option Addr} {an14 : Option Addr} {sl14 : Array (Option Value)} {kV14 : Value} {dc14 : Value} {pm14 : Value} {cd14 : Value} {ct14 : Value}
    (a14 : PySem.W.nsIn K mainGlobals "_units_of_line" = some (some (.ref f14)))
    (l14 : K.lookup f14 = some ⟨oc14, od14, .func (PySem.W.fnOf "_units_of_line" "_units_of_line" (C8.fnArgs s_units_of_line) (C8.fnBody s_units_of_line) (C8.fnScope s_units_of_line) .none kV14 dc14 pm14 an14 cd14 ct14), sl14⟩)
    (c14 : PySem.W.codeIn K cd14 "_units_of_line" = true)
    (k14 : PySem.W.keepIn K (.ref f14) = true)
    {f15 : Addr} {oc15 : Value} {od15 : Option Addr} {an15 : Option Addr} {sl15 : Array (Option Value)} {kV15 : Value} {dc15 : Value} {pm15 : Value} {cd15 : Value} {ct15 : Value}
    (a15 : PySem.W.nsIn K mainGlobals "_give_one_more" = some (some (.ref f15)))
    (l15 : K.lookup f15 = some ⟨oc15, od15, .func (PySem.W.fnOf "_give_one_more" "_give_one_more" (C8.fnArgs s_give_one_more) (C8.fnBody s_give_one_more) (C8.fnScope s_give_one_more) .none kV15 dc15 pm15 an15 cd15 ct15), sl15⟩)
    (c15 : PySem.W.codeIn K cd15 "_give_one_more" = true)
    (k15 : PySem.W.keepIn K (.ref f15) = true)
    {f16 : Addr} {oc16 : Value} {od16 : Option Addr} {an16 : Option Addr} {sl16 : Array (Option Value)} {kV16 : Value} {dc16 : Value} {pm16 : Value} {cd16 : Value} {ct16 : Value}
    (a16 : PySem.W.nsIn K mainGlobals "_is_list_of_places" = some (some (.ref f16)))
    (l16 : K.lookup f16 = some ⟨oc16, od16, .func (PySem.W.fnOf "_is_list_of_places" "_is_list_of_places" (C8.fnArgs s_is_list_of_places) (C8.fnBody s_is_list_of_places) (C8.fnScope s_is_list_of_places) .none kV16 dc16 pm16 an16 cd16 ct16), sl16⟩)
    (c16 : PySem.W.codeIn K cd16 "_is_list_of_places" = true)
    (k16 : PySem.W.keepIn K (.ref f16) = true)
    {f17 : Addr} {oc17 : Value} {od17 : Option Addr} {an17 : Option Addr} {sl17 : Array (Option Value)} {kV17 : Value} {dc17 : Value} {pm17 : Value} {cd17 : Value} {ct17 : Value}
    (a17 : PySem.W.nsIn K mainGlobals "_units_of_lines" = some (some (.ref f17)))
    (l17 : K.lookup f17 = some ⟨oc17, od17, .func (PySem.W.fnOf "_units_of_lines" "_units_of_lines" (C8.fnArgs s_units_of_lines) (C8.fnBody s_units_of_lines) (C8.fnScope s_units_of_lines) .none kV17 dc17 pm17 an17 cd17 ct17), sl17⟩)
    (c17 : PySem.W.codeIn K cd17 "_units_of_lines" = true)
    (k17 : PySem.W.keepIn K (.ref f17) = true)
    {f18 : Addr} {oc18 : Value} {od18 : Option Addr} {an18 : Option Addr} {sl18 : Array (Option Value)} {kV18 : Value} {dc18 : Value} {pm18 : Value} {cd18 : Value} {ct18 : Value}
    (a18 : PySem.W.nsIn K mainGlobals "check_takings" = some (some (.ref f18)))
    (l18 : K.lookup f18 = some ⟨oc18, od18, .func (PySem.W.fnOf "check_takings" "check_takings" (C8.fnArgs s_check_takings) (C8.fnBody s_check_takings) (C8.fnScope s_check_takings) .none kV18 dc18 pm18 an18 cd18 ct18), sl18⟩)
    (c18 : PySem.W.codeIn K cd18 "check_takings" = true)
    (k18 : PySem.W.keepIn K (.ref f18) = true)
    {f19 : Addr} {oc19 : Value} {od19 : Option Addr} {an19 : Option Addr} {sl19 : Array (Option Value)} {kV19 : Value} {dc19 : Value} {pm19 : Value} {cd19 : Value} {ct19 : Value}
    (a19 : PySem.W.nsIn K mainGlobals "_is_line" = some (some (.ref f19)))
    (l19 : K.lookup f19 = some ⟨oc19, od19, .func (PySem.W.fnOf "_is_line" "_is_line" (C8.fnArgs s_is_line) (C8.fnBody s_is_line) (C8.fnScope s_is_line) .none kV19 dc19 pm19 an19 cd19 ct19), sl19⟩)
    (c19 : PySem.W.codeIn K cd19 "_is_line" = true)
    (k19 : PySem.W.keepIn K (.ref f19) = true)
    {f20 : Addr} {oc20 : Value} {od20 : Option Addr} {an20 : Option Addr} {sl20 : Array (Option Value)} {kV20 : Value} {dc20 : Value} {pm20 : Value} {cd20 : Value} {ct20 : Value}
    (a20 : PySem.W.nsIn K mainGlobals "_total" = some (some (.ref f20)))
    (l20 : K.lookup f20 = some ⟨oc20, od20, .func (PySem.W.fnOf "_total" "_total" (C8.fnArgs s_total) (C8.fnBody s_total) (C8.fnScope s_total) .none kV20 dc20 pm20 an20 cd20 ct20), sl20⟩)
    (c20 : PySem.W.codeIn K cd20 "_total" = true)
    (k20 : PySem.W.keepIn K (.ref f20) = true)
    {f21 : Addr} {oc21 : Value} {od21 : Option Addr} {an21 : Option Addr} {sl21 : Array (Option Value)} {kV21 : Value} {dc21 : Value} {pm21 : Value} {cd21 : Value} {ct21 : Value}
    (a21 : PySem.W.nsIn K mainGlobals "_units_of_free" = some (some (.ref f21)))
    (l21 : K.lookup f21 = some ⟨oc21, od21, .func (PySem.W.fnOf "_units_of_free" "_units_of_free" (C8.fnArgs s_units_of_free) (C8.fnBody s_units_of_free) (C8.fnScope s_units_of_free) .none kV21 dc21 pm21 an21 cd21 ct21), sl21⟩)
    (c21 : PySem.W.codeIn K cd21 "_units_of_free" = true)
    (k21 : PySem.W.keepIn K (.ref f21) = true)
    {f22 : Addr} {oc22 : Value} {od22 : Option Addr} {an22 : Option Addr} {sl22 : Array (Option Value)} {kV22 : Value} {dc22 : Value} {pm22 : Value} {cd22 : Value} {ct22 : Value}
    (a22 : PySem.W.nsIn K mainGlobals "check_lines" = some (some (.ref f22)))
    (l22 : K.lookup f22 = some ⟨oc22, od22, .func (PySem.W.fnOf "check_lines" "check_lines" (C8.fnArgs s_check_lines) (C8.fnBody s_check_lines) (C8.fnScope s_check_lines) .none kV22 dc22 pm22 an22 cd22 ct22), sl22⟩)
    (c22 : PySem.W.codeIn K cd22 "check_lines" = true)
    (k22 : PySem.W.keepIn K (.ref f22) = true)
    {f23 : Addr} {oc23 : Value} {od23 : Option Addr} {an23 : Option Addr} {sl23 : Array (Option Value)} {kV23 : Value} {dc23 : Value} {pm23 : Value} {cd23 : Value} {ct23 : Value}
    (a23 : PySem.W.nsIn K mainGlobals "check_play" = some (some (.ref f23)))
    (l23 : K.lookup f23 = some ⟨oc23, od23, .func (PySem.W.fnOf "check_play" "check_play" (C8.fnArgs s_check_play) (C8.fnBody s_check_play) (C8.fnScope s_check_play) .none kV23 dc23 pm23 an23 cd23 ct23), sl23⟩)
    (c23 : PySem.W.codeIn K cd23 "check_play" = true)
    (k23 : PySem.W.keepIn K (.ref f23) = true)
    {f24 : Addr} {oc24 : Value} {od24 : Option Addr} {an24 : Option Addr} {sl24 : Array (Option Value)} {kV24 : Value} {dc24 : Value} {pm24 : Value} {cd24 : Value} {ct24 : Value}
    (a24 : PySem.W.nsIn K mainGlobals "told" = some (some (.ref f24)))
    (l24 : K.lookup f24 = some ⟨oc24, od24, .func (PySem.W.fnOf "told" "told" (C8.fnArgs s_told) (C8.fnBody s_told) (C8.fnScope s_told) .none kV24 dc24 pm24 an24 cd24 ct24), sl24⟩)
    (c24 : PySem.W.codeIn K cd24 "told" = true)
    (k24 : PySem.W.keepIn K (.ref f24) = true)
    {f25 : Addr} {oc25 : Value} {od25 : Option Addr} {an25 : Option Addr} {sl25 : Array (Option Value)} {kV25 : Value} {dc25 : Value} {pm25 : Value} {cd25 : Value} {ct25 : Value}
    (a25 : PySem.W.nsIn K mainGlobals "danger" = some (some (.ref f25)))
    (l25 : K.lookup f25 = some ⟨oc25, od25, .func (PySem.W.fnOf "danger" "danger" (C8.fnArgs s_danger) (C8.fnBody s_danger) (C8.fnScope s_danger) .none kV25 dc25 pm25 an25 cd25 ct25), sl25⟩)
    (c25 : PySem.W.codeIn K cd25 "danger" = true)
    (k25 : PySem.W.keepIn K (.ref f25) = true)
    {f26 : Addr} {oc26 : Value} {od26 : Option Addr} {an26 : Option Addr} {sl26 : Array (Option Value)} {kV26 : Value} {dc26 : Value} {pm26 : Value} {cd26 : Value} {ct26 : Value}
    (a26 : PySem.W.nsIn K mainGlobals "worths" = some (some (.ref f26)))
    (l26 : K.lookup f26 = some ⟨oc26, od26, .func (PySem.W.fnOf "worths" "worths" (C8.fnArgs s_worths) (C8.fnBody s_worths) (C8.fnScope s_worths) .none kV26 dc26 pm26 an26 cd26 ct26), sl26⟩)
    (c26 : PySem.W.codeIn K cd26 "worths" = true)
    (k26 : PySem.W.keepIn K (.ref f26) = true)
    {f27 : Addr} {oc27 : Value} {od27 : Option Addr} {an27 : Option Addr} {sl27 : Array (Option Value)} {kV27 : Value} {dc27 : Value} {pm27 : Value} {cd27 : Value} {ct27 : Value}
    (a27 : PySem.W.nsIn K mainGlobals "sure" = some (some (.ref f27)))
    (l27 : K.lookup f27 = some ⟨oc27, od27, .func (PySem.W.fnOf "sure" "sure" (C8.fnArgs s_sure) (C8.fnBody s_sure) (C8.fnScope s_sure) .none kV27 dc27 pm27 an27 cd27 ct27), sl27⟩)
    (c27 : PySem.W.codeIn K cd27 "sure" = true)
    (k27 : PySem.W.keepIn K (.ref f27) = true)
    {f28 : Addr} {oc28 : Value} {od28 : Option Addr} {an28 : Option Addr} {sl28 : Array (Option Value)} {kV28 : Value} {dc28 : Value} {pm28 : Value} {cd28 : Value} {ct28 : Value}
    (a28 : PySem.W.nsIn K mainGlobals "best" = some (some (.ref f28)))
    (l28 : K.lookup f28 = some ⟨oc28, od28, .func (PySem.W.fnOf "best" "best" (C8.fnArgs s_best) (C8.fnBody s_best) (C8.fnScope s_best) .none kV28 dc28 pm28 an28 cd28 ct28), sl28⟩)
    (c28 : PySem.W.codeIn K cd28 "best" = true)
    (k28 : PySem.W.keepIn K (.ref f28) = true)
    {f29 : Addr} {oc29 : Value} {od29 : Option Addr} {an29 : Option Addr} {sl29 : Array (Option Value)} {kV29 : Value} {dc29 : Value} {pm29 : Value} {cd29 : Value} {ct29 : Value}
    (a29 : PySem.W.nsIn K mainGlobals "full" = some (some (.ref f29)))
    (l29 : K.lookup f29 = some ⟨oc29, od29, .func (PySem.W.fnOf "full" "full" (C8.fnArgs s_full) (C8.fnBody s_full) (C8.fnScope s_full) .none kV29 dc29 pm29 an29 cd29 ct29), sl29⟩)
    (c29 : PySem.W.codeIn K cd29 "full" = true)
    (k29 : PySem.W.keepIn K (.ref f29) = true)
    {f30 : Addr} {oc30 : Value} {od30 : Option Addr} {an30 : Option Addr} {sl30 : Array (Option Value)} {kV30 : Value} {dc30 : Value} {pm30 : Value} {cd30 : Value} {ct30 : Value}
    (a30 : PySem.W.nsIn K mainGlobals "reply" = some (some (.ref f30)))
    (l30 : K.lookup f30 = some ⟨oc30, od30, .func (PySem.W.fnOf "reply" "reply" (C8.fnArgs s_reply) (C8.fnBody s_reply) (C8.fnScope s_reply) .none kV30 dc30 pm30 an30 cd30 ct30), sl30⟩)
    (c30 : PySem.W.codeIn K cd30 "reply" = true)
    (k30 : PySem.W.keepIn K (.ref f30) = true)
    {f31 : Addr} {oc31 : Value} {od31 : Option Addr} {an31 : Option Addr} {sl31 : Array (Option Value)} {kV31 : Value} {dc31 : Value} {pm31 : Value} {cd31 : Value} {ct31 : Value}
    (a31 : PySem.W.nsIn K mainGlobals "_law_with_board" = some (some (.ref f31)))
    (l31 : K.lookup f31 = some ⟨oc31, od31, .func (PySem.W.fnOf "_law_with_board" "_law_with_board" (C8.fnArgs s_law_with_board) (C8.fnBody s_law_with_board) (C8.fnScope s_law_with_board) .none kV31 dc31 pm31 an31 cd31 ct31), sl31⟩)
    (c31 : PySem.W.codeIn K cd31 "_law_with_board" = true)
    (k31 : PySem.W.keepIn K (.ref f31) = true)
    {f32 : Addr} {oc32 : Value} {od32 : Option Addr} {an32 : Option Addr} {sl32 : Array (Option Value)} {kV32 : Value} {dc32 : Value} {pm32 : Value} {cd32 : Value} {ct32 : Value}
    (a32 : PySem.W.nsIn K mainGlobals "_law_told" = some (some (.ref f32)))
    (l32 : K.lookup f32 = some ⟨oc32, od32, .func (PySem.W.fnOf "_law_told" "_law_told" (C8.fnArgs s_law_told) (C8.fnBody s_law_told) (C8.fnScope s_law_told) .none kV32 dc32 pm32 an32 cd32 ct32), sl32⟩)
    (c32 : PySem.W.codeIn K cd32 "_law_told" = true)
    (k32 : PySem.W.keepIn K (.ref f32) = true)
    {f33 : Addr} {oc33 : Value} {od33 : Option Addr} {an33 : Option Addr} {sl33 : Array (Option Value)} {kV33 : Value} {dc33 : Value} {pm33 : Value} {cd33 : Value} {ct33 : Value}
    (a33 : PySem.W.nsIn K mainGlobals "law" = some (some (.ref f33)))
    (l33 : K.lookup f33 = some ⟨oc33, od33, .func (PySem.W.fnOf "law" "law" (C8.fnArgs s_main) (C8.fnBody s_main) (C8.fnScope s_main) .none kV33 dc33 pm33 an33 cd33 ct33), sl33⟩)
    (c33 : PySem.W.codeIn K cd33 "law" = true)
    (k33 : PySem.W.keepIn K (.ref f33) = true)
    (mkFew : PySem.W.makesIn K AFew = true)
    (kcFew : PySem.W.keepIn K (.ref AFew) = true)
    (mkPairs : PySem.W.makesIn K APairs = true)
    (kcPairs : PySem.W.keepIn K (.ref APairs) = true)
    (pgPairs : PySem.W.plainGet K APairs Str.empty = true)
    (hdPairs : PySem.W.hasDictIn K APairs = true)
    (poPairs : PySem.W.plainOver K APairs = true)
    (saPairs : PySem.W.findIn K (.ref APairs) "__setattr__" = some (some (.builtin "object.__setattr__")))
    (pgFew : PySem.W.plainGet K AFew Str.empty = true)
    (hdFew : PySem.W.hasDictIn K AFew = true)
    (poFew : PySem.W.plainOver K AFew = true)
    (saFew : PySem.W.findIn K (.ref AFew) "__setattr__" = some (some (.builtin "object.__setattr__")))
    (naP : PySem.W.findIn K (.ref APairs) "pairs" = some none)
    (naF : PySem.W.findIn K (.ref AFew) "lines" = some none)
    (haP : PySem.W.findIn K (.ref APairs) "__class__" = some (some (.builtin "object.__class__")))
    (haF : PySem.W.findIn K (.ref AFew) "__class__" = some (some (.builtin "object.__class__")))
    (hn : PySem.W.specialIn K (.builtin "object.__class__") "__get__" = some (some (.builtin "getset_descriptor.__get__")))
    (htk : PySem.W.takesIn K (.builtin "object.__class__") = some true)
    (hmP : PySem.W.mroIn K APairs (.type "object") = some true)
    (hmF : PySem.W.mroIn K AFew (.type "object") = some true)
    (pp : PySem.W.kitOne K (.ref APairs) (.ref APairs) = some true)
    (pf : PySem.W.kitOne K (.ref APairs) (.ref AFew) = some false)
    (pa : PySem.W.kitOne K (.ref APairs) (.ref AAnswer) = some true)
    (fp : PySem.W.kitOne K (.ref AFew) (.ref APairs) = some false)
    (ff : PySem.W.kitOne K (.ref AFew) (.ref AFew) = some true)
    (fa_ : PySem.W.kitOne K (.ref AFew) (.ref AAnswer) = some true)
    (exBadPlaces : PySem.W.excIn K ABadPlaces [.type "ValueError", .type "Exception", .type "BaseException", .type "object"] "ValueError.__new__" = true)
    (kpBadPlaces : PySem.W.keepIn K (.ref ABadPlaces) = true)
    (sbBadPlaces : PySem.W.subIn K (.ref ABadPlaces) (.type "BaseException") = some true)
    (tyBadPlaces : PySem.W.typeIn K (.ref ABadPlaces) = some (.type "type"))
    (slBadPlaces : PySem.W.subIn K (.ref ABadPlaces) (.ref ALineError) = some true)
    (gaBadPlaces : PySem.W.findIn K (.ref ABadPlaces) "__getattribute__" = some (some (.builtin "BaseException.__getattribute__")))
    (gtBadPlaces : PySem.W.findIn K (.ref ABadPlaces) "__getattr__" = some none)
    (dcBadPlaces : PySem.W.hasDictIn K ABadPlaces = true)
    (clBadPlaces : PySem.W.findIn K (.ref ABadPlaces) "__class__" = some (some (.builtin "object.__class__")))
    (moBadPlaces : PySem.W.mroIn K ABadPlaces (.type "object") = some true)
    (kvBadPlaces : PySem.W.kitOne K (.ref ABadPlaces) (.type "ValueError") = some true)
    (qBadPlacesBadPlaces : PySem.W.kitOne K (.ref ABadPlaces) (.ref ABadPlaces) = some true)
    (qBadPlacesBadLines : PySem.W.kitOne K (.ref ABadPlaces) (.ref ABadLines) = some false)
    (qBadPlacesBadTakings : PySem.W.kitOne K (.ref ABadPlaces) (.ref ABadTakings) = some false)
    (exBadLines : PySem.W.excIn K ABadLines [.type "ValueError", .type "Exception", .type "BaseException", .type "object"] "ValueError.__new__" = true)
    (kpBadLines : PySem.W.keepIn K (.ref ABadLines) = true)
    (sbBadLines : PySem.W.subIn K (.ref ABadLines) (.type "BaseException") = some true)
    (tyBadLines : PySem.W.typeIn K (.ref ABadLines) = some (.type "type"))
    (slBadLines : PySem.W.subIn K (.ref ABadLines) (.ref ALineError) = some true)
    (gaBadLines : PySem.W.findIn K (.ref ABadLines) "__getattribute__" = some (some (.builtin "BaseException.__getattribute__")))
    (gtBadLines : PySem.W.findIn K (.ref ABadLines) "__getattr__" = some none)
    (dcBadLines : PySem.W.hasDictIn K ABadLines = true)
    (clBadLines : PySem.W.findIn K (.ref ABadLines) "__class__" = some (some (.builtin "object.__class__")))
    (moBadLines : PySem.W.mroIn K ABadLines (.type "object") = some true)
    (kvBadLines : PySem.W.kitOne K (.ref ABadLines) (.type "ValueError") = some true)
    (qBadLinesBadPlaces : PySem.W.kitOne K (.ref ABadLines) (.ref ABadPlaces) = some false)
    (qBadLinesBadLines : PySem.W.kitOne K (.ref ABadLines) (.ref ABadLines) = some true)
    (qBadLinesBadTakings : PySem.W.kitOne K (.ref ABadLines) (.ref ABadTakings) = some false)
    (exBadTakings : PySem.W.excIn K ABadTakings [.type "ValueError", .type "Exception", .type "BaseException", .type "object"] "ValueError.__new__" = true)
    (kpBadTakings : PySem.W.keepIn K (.ref ABadTakings) = true)
    (sbBadTakings : PySem.W.subIn K (.ref ABadTakings) (.type "BaseException") = some true)
    (tyBadTakings : PySem.W.typeIn K (.ref ABadTakings) = some (.type "type"))
    (slBadTakings : PySem.W.subIn K (.ref ABadTakings) (.ref ALineError) = some true)
    (gaBadTakings : PySem.W.findIn K (.ref ABadTakings) "__getattribute__" = some (some (.builtin "BaseException.__getattribute__")))
    (gtBadTakings : PySem.W.findIn K (.ref ABadTakings) "__getattr__" = some none)
    (dcBadTakings : PySem.W.hasDictIn K ABadTakings = true)
    (clBadTakings : PySem.W.findIn K (.ref ABadTakings) "__class__" = some (some (.builtin "object.__class__")))
    (moBadTakings : PySem.W.mroIn K ABadTakings (.type "object") = some true)
    (kvBadTakings : PySem.W.kitOne K (.ref ABadTakings) (.type "ValueError") = some true)
    (qBadTakingsBadPlaces : PySem.W.kitOne K (.ref ABadTakings) (.ref ABadPlaces) = some false)
    (qBadTakingsBadLines : PySem.W.kitOne K (.ref ABadTakings) (.ref ABadLines) = some false)
    (qBadTakingsBadTakings : PySem.W.kitOne K (.ref ABadTakings) (.ref ABadTakings) = some true)
    (sbL : PySem.W.subIn K (.ref ALineError) (.type "BaseException") = some true)
    (hdL : PySem.W.hasDictIn K ALineError = true)
    (tyL : PySem.W.typeIn K (.ref ALineError) = some (.type "type"))
    {tk5 : Tok}
    (z5 : PySem.W.nsIn K mainGlobals "MOST_LINES" = some (some (.int 60 tk5)))
    {tk6 : Tok}
    (z6 : PySem.W.nsIn K mainGlobals "MOST_PLACES" = some (some (.int 60 tk6)))
    {tk7 : Tok}
    (z7 : PySem.W.nsIn K mainGlobals "PLACES_OF_ITS_OWN" = some (some (.int 2 tk7)))
    (z9 : PySem.W.nsIn K mainGlobals "ValueError" = some none)
    (z10 : PySem.W.nsIn K mainGlobals "all" = some none)
    (z11 : PySem.W.nsIn K mainGlobals "any" = some none)
    (z12 : PySem.W.nsIn K mainGlobals "bool" = some none)
    (z13 : PySem.W.nsIn K mainGlobals "enumerate" = some none)
    (z14 : PySem.W.nsIn K mainGlobals "gcd" = some (some (.builtin "math.gcd")))
    (z15 : PySem.W.nsIn K mainGlobals "int" = some none)
    (z16 : PySem.W.nsIn K mainGlobals "isinstance" = some none)
    (z17 : PySem.W.nsIn K mainGlobals "len" = some none)
    (z18 : PySem.W.nsIn K mainGlobals "list" = some none)
    (z19 : PySem.W.nsIn K mainGlobals "range" = some none)
    (z20 : PySem.W.nsIn K mainGlobals "set" = some none)
    (z21 : PySem.W.nsIn K mainGlobals "sorted" = some none)
    (z22 : PySem.W.nsIn K mainGlobals "sum" = some none)
    (z23 : PySem.W.nsIn K mainGlobals "tuple" = some none)
    (z24 : PySem.W.nsIn K mainGlobals "zip" = some none) :
    ∃ fd : FuncData, (∀ (s : Shared) (v : Value), BindsTo s fd ⟨[v], []⟩ [("_law_script", v)]) ∧ ∀ base : Heap, K.In base → base.Ns mainGlobals mg → FnOk P w K mg base C8.CX0 10 fa fd ["_law_script"] (sp_main (⟨K, w, 0, 0, 0, 0, 0, 0, 0⟩ : Cn)) := by
  have e := hfa.symm.trans (PySem.W.mg_of X G a33)
  cases e
  have T : Tb (⟨K, w, APairs, AFew, AAnswer, ALineError, ABadPlaces, ABadLines, ABadTakings⟩ : Cn) mg := ⟨PySem.W.mg_of X G nBadLines, PySem.W.mg_of X G nBadPlaces, PySem.W.mg_of X G nBadTakings, PySem.W.mg_of X G nFew, PySem.W.mg_of X G nLineError, ⟨_, PySem.W.mg_of X G z5⟩, ⟨_, PySem.W.mg_of X G z6⟩, ⟨_, PySem.W.mg_of X G z7⟩, PySem.W.mg_of X G nPairs, PySem.W.mg_none_of X G z9, PySem.W.mg_none_of X G z10, PySem.W.mg_none_of X G z11, PySem.W.mg_none_of X G z12, PySem.W.mg_none_of X G z13, PySem.W.mg_of X G z14, PySem.W.mg_none_of X G z15, PySem.W.mg_none_of X G z16, PySem.W.mg_none_of X G z17, PySem.W.mg_none_of X G z18, PySem.W.mg_none_of X G z19, PySem.W.mg_none_of X G z20, PySem.W.mg_none_of X G z21, PySem.W.mg_none_of X G z22, PySem.W.mg_none_of X G z23, PySem.W.mg_none_of X G z24⟩
  have O : Ob (⟨K, w, APairs, AFew, AAnswer, ALineError, ABadPlaces, ABadLines, ABadTakings⟩ : Cn) := ⟨⟨pgPairs, hdPairs, poPairs, saPairs⟩, ⟨pgFew, hdFew, poFew, saFew⟩, naP, naF, haP, haF, hn, htk, hmP, hmF, pp, pf, pa, fp, ff, fa_⟩
  have OX : ObX (⟨K, w, APairs, AFew, AAnswer, ALineError, ABadPlaces, ABadLines, ABadTakings⟩ : Cn) := ⟨⟨exBadPlaces, kpBadPlaces, sbBadPlaces, tyBadPlaces, PySem.W.exm_ref sbL hdL tyL slBadPlaces, ⟨gaBadPlaces, gtBadPlaces, sbBadPlaces, dcBadPlaces, clBadPlaces, hn, htk, moBadPlaces⟩, kvBadPlaces, qBadPlacesBadPlaces, qBadPlacesBadLines, qBadPlacesBadTakings⟩, ⟨exBadLines, kpBadLines, sbBadLines, tyBadLines, PySem.W.exm_ref sbL hdL tyL slBadLines, ⟨gaBadLines, gtBadLines, sbBadLines, dcBadLines, clBadLines, hn, htk, moBadLines⟩, kvBadLines, qBadLinesBadPlaces, qBadLinesBadLines, qBadLinesBadTakings⟩, ⟨exBadTakings, kpBadTakings, sbBadTakings, tyBadTakings, PySem.W.exm_ref sbL hdL tyL slBadTakings, ⟨gaBadTakings, gtBadTakings, sbBadTakings, dcBadTakings, clBadTakings, hn, htk, moBadTakings⟩, kvBadTakings, qBadTakingsBadPlaces, qBadTakingsBadLines, qBadTakingsBadTakings⟩⟩
  have F1 := LH.defOf (st := s_is_whole) X G a1 l1 c1 k1
  have b1 := F1.fn.binds (ps := ["value"]) rfl fun _ _ _ _ _ _ us hl => match us, hl with | [_], _ => rfl
  have F2 := LH.defOf (st := s_free_places) X G a2 l2 c2 k2
  have b2 := F2.fn.binds (ps := ["places", "his", "mine"]) rfl fun _ _ _ _ _ _ us hl => match us, hl with | [_, _, _], _ => rfl
  have F3 := LH.defOf (st := s_one) X G a3 l3 c3 k3
  have b3 := F3.fn.binds (ps := ["places"]) rfl fun _ _ _ _ _ _ us hl => match us, hl with | [_], _ => rfl
  have F4 := LH.defOf (st := s_in_lowest_terms) X G a4 l4 c4 k4
  have b4 := F4.fn.binds (ps := ["units", "one"]) rfl fun _ _ _ _ _ _ us hl => match us, hl with | [_, _], _ => rfl
  have F5 := LH.defOf (st := s_missing) X G a5 l5 c5 k5
  have b5 := F5.fn.binds (ps := ["line", "his"]) rfl fun _ _ _ _ _ _ us hl => match us, hl with | [_, _], _ => rfl
  have F6 := LH.defOf (st := s_hand_over) X G a6 l6 c6 k6
  have b6 := F6.fn.binds (ps := ["owners", "takers", "gives_up", "place"]) rfl fun _ _ _ _ _ _ us hl => match us, hl with | [_, _, _, _], _ => rfl
  have F7 := LH.defOf (st := s_pair) X G a7 l7 c7 k7
  have b7 := F7.fn.binds (ps := ["line", "owners", "count"]) rfl fun _ _ _ _ _ _ us hl => match us, hl with | [_, _, _], _ => rfl
  have F8 := LH.defOf (st := s_other_place) X G a8 l8 c8 k8
  have b8 := F8.fn.binds (ps := ["answer", "his"]) rfl fun _ _ _ _ _ _ us hl => match us, hl with | [_, _], _ => rfl
  have F9 := LH.defOf (st := s_law_bad_lines) X G a9 l9 c9 k9
  have b9 := F9.fn.binds (ps := ["_law_which", "_law_more"]) rfl fun _ _ _ _ _ _ us hl => match us, hl with | [_, _], _ => rfl
  have F10 := LH.funOf (st := s_pairs_init) l10 c10
  have b10 := F10.binds (ps := ["self", "pairs"]) rfl fun _ _ _ _ _ _ us hl => match us, hl with | [_, _], _ => rfl
  have F11 := LH.funOf (st := s_few_init) l11 c11
  have b11 := F11.binds (ps := ["self", "lines"]) rfl fun _ _ _ _ _ _ us hl => match us, hl with | [_, _], _ => rfl
  have F12 := LH.defOf (st := s_check_places) X G a12 l12 c12 k12
  have b12 := F12.fn.binds (ps := ["places"]) rfl fun _ _ _ _ _ _ us hl => match us, hl with | [_], _ => rfl
  have F13 := LH.defOf (st := s_is_count) X G a13 l13 c13 k13
  have b13 := F13.fn.binds (ps := ["many", "value"]) rfl fun _ _ _ _ _ _ us hl => match us, hl with | [_, _], _ => rfl
  have F14 := LH.defOf (st := s_units_of_line) X G a14 l14 c14 k14
  have b14 := F14.fn.binds (ps := ["places", "line", "his", "mine"]) rfl fun _ _ _ _ _ _ us hl => match us, hl with | [_, _, _, _], _ => rfl
  have F15 := LH.defOf (st := s_give_one_more) X G a15 l15 c15 k15
  have b15 := F15.fn.binds (ps := ["lines", "owners", "wanting"]) rfl fun _ _ _ _ _ _ us hl => match us, hl with | [_, _, _], _ => rfl
  have F16 := LH.defOf (st := s_is_list_of_places) X G a16 l16 c16 k16
  have b16 := F16.fn.binds (ps := ["places", "values"]) rfl fun _ _ _ _ _ _ us hl => match us, hl with | [_, _], _ => rfl
  have F17 := LH.defOf (st := s_units_of_lines) X G a17 l17 c17 k17
  have b17 := F17.fn.binds (ps := ["places", "lines", "his", "mine"]) rfl fun _ _ _ _ _ _ us hl => match us, hl with | [_, _, _, _], _ => rfl
  have F18 := LH.defOf (st := s_check_takings) X G a18 l18 c18 k18
  have b18 := F18.fn.binds (ps := ["places", "his", "mine"]) rfl fun _ _ _ _ _ _ us hl => match us, hl with | [_, _, _], _ => rfl
  have F19 := LH.defOf (st := s_is_line) X G a19 l19 c19 k19
  have b19 := F19.fn.binds (ps := ["places", "line"]) rfl fun _ _ _ _ _ _ us hl => match us, hl with | [_, _], _ => rfl
  have F20 := LH.defOf (st := s_total) X G a20 l20 c20 k20
  have b20 := F20.fn.binds (ps := ["places", "lines", "his", "mine"]) rfl fun _ _ _ _ _ _ us hl => match us, hl with | [_, _, _, _], _ => rfl
  have F21 := LH.defOf (st := s_units_of_free) X G a21 l21 c21 k21
  have b21 := F21.fn.binds (ps := ["places", "lines", "his", "mine"]) rfl fun _ _ _ _ _ _ us hl => match us, hl with | [_, _, _, _], _ => rfl
  have F22 := LH.defOf (st := s_check_lines) X G a22 l22 c22 k22
  have b22 := F22.fn.binds (ps := ["places", "lines"]) rfl fun _ _ _ _ _ _ us hl => match us, hl with | [_, _], _ => rfl
  have F23 := LH.defOf (st := s_check_play) X G a23 l23 c23 k23
  have b23 := F23.fn.binds (ps := ["places", "lines", "his", "mine"]) rfl fun _ _ _ _ _ _ us hl => match us, hl with | [_, _, _, _], _ => rfl
  have F24 := LH.defOf (st := s_told) X G a24 l24 c24 k24
  have b24 := F24.fn.binds (ps := ["places", "lines"]) rfl fun _ _ _ _ _ _ us hl => match us, hl with | [_, _], _ => rfl
  have F25 := LH.defOf (st := s_danger) X G a25 l25 c25 k25
  have b25 := F25.fn.binds (ps := ["places", "lines", "his", "mine"]) rfl fun _ _ _ _ _ _ us hl => match us, hl with | [_, _, _, _], _ => rfl
  have F26 := LH.defOf (st := s_worths) X G a26 l26 c26 k26
  have b26 := F26.fn.binds (ps := ["places", "lines", "his", "mine"]) rfl fun _ _ _ _ _ _ us hl => match us, hl with | [_, _, _, _], _ => rfl
  have F27 := LH.defOf (st := s_sure) X G a27 l27 c27 k27
  have b27 := F27.fn.binds (ps := ["places", "lines", "his", "mine"]) rfl fun _ _ _ _ _ _ us hl => match us, hl with | [_, _, _, _], _ => rfl
  have F28 := LH.defOf (st := s_best) X G a28 l28 c28 k28
  have b28 := F28.fn.binds (ps := ["places", "lines", "his", "mine"]) rfl fun _ _ _ _ _ _ us hl => match us, hl with | [_, _, _, _], _ => rfl
  have F29 := LH.defOf (st := s_full) X G a29 l29 c29 k29
  have b29 := F29.fn.binds (ps := ["places", "lines", "his", "mine"]) rfl fun _ _ _ _ _ _ us hl => match us, hl with | [_, _, _, _], _ => rfl
  have F30 := LH.defOf (st := s_reply) X G a30 l30 c30 k30
  have b30 := F30.fn.binds (ps := ["places", "lines", "his", "mine"]) rfl fun _ _ _ _ _ _ us hl => match us, hl with | [_, _, _, _], _ => rfl
  have F31 := LH.defOf (st := s_law_with_board) X G a31 l31 c31 k31
  have b31 := F31.fn.binds (ps := ["_law_door", "_law_places", "_law_lines", "_law_his", "_law_mine"]) rfl fun _ _ _ _ _ _ us hl => match us, hl with | [_, _, _, _, _], _ => rfl
  have F32 := LH.defOf (st := s_law_told) X G a32 l32 c32 k32
  have b32 := F32.fn.binds (ps := ["_law_kind", "_law_which", "_law_more"]) rfl fun _ _ _ _ _ _ us hl => match us, hl with | [_, _, _], _ => rfl
  have F33 := LH.defOf (st := s_main) X G a33 l33 c33 k33
  refine ⟨PySem.W.fnOf "law" "law" (C8.fnArgs s_main) (C8.fnBody s_main) (C8.fnScope s_main) .none kV33 dc33 pm33 an33 cd33 ct33, fun s v => .of_eq rfl, fun base _ _ => ?_⟩
  have G1 := ok_is_whole (P := P) (base := base) (c := (⟨K, w, APairs, AFew, AAnswer, ALineError, ABadPlaces, ABadLines, ABadTakings⟩ : Cn)) F1 b1 T O OX
  have G2 := ok_free_places (P := P) (base := base) (c := (⟨K, w, APairs, AFew, AAnswer, ALineError, ABadPlaces, ABadLines, ABadTakings⟩ : Cn)) F2 b2 T O OX
  have G3 := ok_one (P := P) (base := base) (c := (⟨K, w, APairs, AFew, AAnswer, ALineError, ABadPlaces, ABadLines, ABadTakings⟩ : Cn)) F3 b3 T O OX
  have G4 := ok_in_lowest_terms (P := P) (base := base) (c := (⟨K, w, APairs, AFew, AAnswer, ALineError, ABadPlaces, ABadLines, ABadTakings⟩ : Cn)) F4 b4 T O OX
  have G5 := ok_missing (P := P) (base := base) (c := (⟨K, w, APairs, AFew, AAnswer, ALineError, ABadPlaces, ABadLines, ABadTakings⟩ : Cn)) F5 b5 T O OX
  have G6 := ok_hand_over (P := P) (base := base) (c := (⟨K, w, APairs, AFew, AAnswer, ALineError, ABadPlaces, ABadLines, ABadTakings⟩ : Cn)) F6 b6 T O OX
  have G7 := ok_pair (P := P) (base := base) (c := (⟨K, w, APairs, AFew, AAnswer, ALineError, ABadPlaces, ABadLines, ABadTakings⟩ : Cn)) F7 b7 T O OX
  have G8 := ok_other_place (P := P) (base := base) (c := (⟨K, w, APairs, AFew, AAnswer, ALineError, ABadPlaces, ABadLines, ABadTakings⟩ : Cn)) F8 b8 T O OX
  have G9 := ok_law_bad_lines (P := P) (base := base) (c := (⟨K, w, APairs, AFew, AAnswer, ALineError, ABadPlaces, ABadLines, ABadTakings⟩ : Cn)) F9 b9 T O OX
  have G10 := ok_pairs_init (P := P) (base := base) (c := (⟨K, w, APairs, AFew, AAnswer, ALineError, ABadPlaces, ABadLines, ABadTakings⟩ : Cn)) ⟨mkPairs, a10, i10, kcPairs⟩ F10 b10 T O OX
  have G11 := ok_few_init (P := P) (base := base) (c := (⟨K, w, APairs, AFew, AAnswer, ALineError, ABadPlaces, ABadLines, ABadTakings⟩ : Cn)) ⟨mkFew, a11, i11, kcFew⟩ F11 b11 T O OX
  have G12 := ok_check_places (P := P) (base := base) (c := (⟨K, w, APairs, AFew, AAnswer, ALineError, ABadPlaces, ABadLines, ABadTakings⟩ : Cn)) F12 b12 T O OX G1
  have GX12 := okX_check_places (P := P) (base := base) (c := (⟨K, w, APairs, AFew, AAnswer, ALineError, ABadPlaces, ABadLines, ABadTakings⟩ : Cn)) F12 b12 T O OX G1
  have G13 := ok_is_count (P := P) (base := base) (c := (⟨K, w, APairs, AFew, AAnswer, ALineError, ABadPlaces, ABadLines, ABadTakings⟩ : Cn)) F13 b13 T O OX G1
  have G14 := ok_units_of_line (P := P) (base := base) (c := (⟨K, w, APairs, AFew, AAnswer, ALineError, ABadPlaces, ABadLines, ABadTakings⟩ : Cn)) F14 b14 T O OX G5
  have G15 := ok_give_one_more (P := P) (base := base) (c := (⟨K, w, APairs, AFew, AAnswer, ALineError, ABadPlaces, ABadLines, ABadTakings⟩ : Cn)) F15 b15 T O OX G6
  have G16 := ok_is_list_of_places (P := P) (base := base) (c := (⟨K, w, APairs, AFew, AAnswer, ALineError, ABadPlaces, ABadLines, ABadTakings⟩ : Cn)) F16 b16 T O OX G13
  have G17 := ok_units_of_lines (P := P) (base := base) (c := (⟨K, w, APairs, AFew, AAnswer, ALineError, ABadPlaces, ABadLines, ABadTakings⟩ : Cn)) F17 b17 T O OX G14
  have G18 := ok_check_takings (P := P) (base := base) (c := (⟨K, w, APairs, AFew, AAnswer, ALineError, ABadPlaces, ABadLines, ABadTakings⟩ : Cn)) F18 b18 T O OX G16
  have GX18 := okX_check_takings (P := P) (base := base) (c := (⟨K, w, APairs, AFew, AAnswer, ALineError, ABadPlaces, ABadLines, ABadTakings⟩ : Cn)) F18 b18 T O OX G16
  have G19 := ok_is_line (P := P) (base := base) (c := (⟨K, w, APairs, AFew, AAnswer, ALineError, ABadPlaces, ABadLines, ABadTakings⟩ : Cn)) F19 b19 T O OX G16
  have G20 := ok_total (P := P) (base := base) (c := (⟨K, w, APairs, AFew, AAnswer, ALineError, ABadPlaces, ABadLines, ABadTakings⟩ : Cn)) F20 b20 T O OX G17
  have G21 := ok_units_of_free (P := P) (base := base) (c := (⟨K, w, APairs, AFew, AAnswer, ALineError, ABadPlaces, ABadLines, ABadTakings⟩ : Cn)) F21 b21 T O OX G17 G2
  have G22 := ok_check_lines (P := P) (base := base) (c := (⟨K, w, APairs, AFew, AAnswer, ALineError, ABadPlaces, ABadLines, ABadTakings⟩ : Cn)) F22 b22 T O OX G19
  have GX22 := okX_check_lines (P := P) (base := base) (c := (⟨K, w, APairs, AFew, AAnswer, ALineError, ABadPlaces, ABadLines, ABadTakings⟩ : Cn)) F22 b22 T O OX G19
  have G23 := ok_check_play (P := P) (base := base) (c := (⟨K, w, APairs, AFew, AAnswer, ALineError, ABadPlaces, ABadLines, ABadTakings⟩ : Cn)) F23 b23 T O OX G22 G12 G18
  have GX23 := okX_check_play (P := P) (base := base) (c := (⟨K, w, APairs, AFew, AAnswer, ALineError, ABadPlaces, ABadLines, ABadTakings⟩ : Cn)) F23 b23 T O OX GX22 GX12 GX18
  have G24 := ok_told (P := P) (base := base) (c := (⟨K, w, APairs, AFew, AAnswer, ALineError, ABadPlaces, ABadLines, ABadTakings⟩ : Cn)) F24 b24 T O OX G15 G7 G22 G12 G11 G10
  have GX24 := okX_told (P := P) (base := base) (c := (⟨K, w, APairs, AFew, AAnswer, ALineError, ABadPlaces, ABadLines, ABadTakings⟩ : Cn)) F24 b24 T O OX G15 G7 GX22 GX12 G11 G10
  have G25 := ok_danger (P := P) (base := base) (c := (⟨K, w, APairs, AFew, AAnswer, ALineError, ABadPlaces, ABadLines, ABadTakings⟩ : Cn)) F25 b25 T O OX G4 G3 G20 G23
  have GX25 := okX_danger (P := P) (base := base) (c := (⟨K, w, APairs, AFew, AAnswer, ALineError, ABadPlaces, ABadLines, ABadTakings⟩ : Cn)) F25 b25 T O OX G4 G3 G20 GX23
  have GX26 := okX_worths (P := P) (base := base) (c := (⟨K, w, APairs, AFew, AAnswer, ALineError, ABadPlaces, ABadLines, ABadTakings⟩ : Cn)) F26 b26 T O OX G4 G3 G21 GX23
  have GX27 := okX_sure (P := P) (base := base) (c := (⟨K, w, APairs, AFew, AAnswer, ALineError, ABadPlaces, ABadLines, ABadTakings⟩ : Cn)) F27 b27 T O OX G3 G20 GX23
  have GX28 := okX_best (P := P) (base := base) (c := (⟨K, w, APairs, AFew, AAnswer, ALineError, ABadPlaces, ABadLines, ABadTakings⟩ : Cn)) F28 b28 T O OX G21 GX23
  have G29 := ok_full (P := P) (base := base) (c := (⟨K, w, APairs, AFew, AAnswer, ALineError, ABadPlaces, ABadLines, ABadTakings⟩ : Cn)) F29 b29 T O OX G5 G23
  have GX29 := okX_full (P := P) (base := base) (c := (⟨K, w, APairs, AFew, AAnswer, ALineError, ABadPlaces, ABadLines, ABadTakings⟩ : Cn)) F29 b29 T O OX G5 GX23
  have GX30 := okX_reply (P := P) (base := base) (c := (⟨K, w, APairs, AFew, AAnswer, ALineError, ABadPlaces, ABadLines, ABadTakings⟩ : Cn)) F30 b30 T O OX G8 G2 G24 GX23
  have GX31 := okX_law_with_board (P := P) (base := base) (c := (⟨K, w, APairs, AFew, AAnswer, ALineError, ABadPlaces, ABadLines, ABadTakings⟩ : Cn)) F31 b31 T O OX GX28 GX25 GX29 GX30 GX27 GX26
  have G32 := ok_law_told (P := P) (base := base) (c := (⟨K, w, APairs, AFew, AAnswer, ALineError, ABadPlaces, ABadLines, ABadTakings⟩ : Cn)) F32 b32 T O OX G9 GX31 GX24
  exact fn_main (c := (⟨K, w, APairs, AFew, AAnswer, ALineError, ABadPlaces, ABadLines, ABadTakings⟩ : Cn)) F33 T O OX G32 G25 G29
end K05

open PySem PySem.W PyProof.Rows in
set_option maxRecDepth 100000 in
set_option maxHeartbeats 0 in
theorem PySem.Challenge.cw_linehold_k05_refused_holds : PySem.Challenge.rw_linehold_k05_refused.Holds := by
  w_on; o_law; k_head; (case hw => w_witness2)
  k_fill
  refine LH.walk (l := PySem.Challenge.rw_linehold_k05_refused) (k := 10) (sp := fun K w => K05.sp_main ⟨K, w, 0, 0, 0, 0, 0, 0, 0⟩) rfl rfl ⟨rfl, by decide, by decide⟩ (fun w h Y => PySem.W.kIn_of Y) ?F (fun K w H a ns hl hb hS Q k => ⟨H, .ref a, ns, Evl.Ex.refl H, rfl, ⟨a, rfl, hS⟩, hb, hl, fun H2 _ => k H2⟩)
  case F =>
    intro w mg fa h KX G hmg
    refine' K05.all KX G hmg ?nPairs ?nFew ?nAnswer ?nLineError ?nBadPlaces ?nBadLines ?nBadTakings ?a1 ?l1 ?c1 ?k1 ?a2 ?l2 ?c2 ?k2 ?a3 ?l3 ?c3 ?k3 ?a4 ?l4 ?c4 ?k4 ?a5 ?l5 ?c5 ?k5 ?a6 ?l6 ?c6 ?k6 ?a7 ?l7 ?c7 ?k7 ?a8 ?l8 ?c8 ?k8 ?a9 ?l9 ?c9 ?k9 ?a10 ?i10 ?l10 ?c10 ?a11 ?i11 ?l11 ?c11 ?a12 ?l12 ?c12 ?k12 ?a13 ?l13 ?c13 ?k13 ?a14 ?l14 ?c14 ?k14 ?a15 ?l15 ?c15 ?k15 ?a16 ?l16 ?c16 ?k16 ?a17 ?l17 ?c17 ?k17 ?a18 ?l18 ?c18 ?k18 ?a19 ?l19 ?c19 ?k19 ?a20 ?l20 ?c20 ?k20 ?a21 ?l21 ?c21 ?k21 ?a22 ?l22 ?c22 ?k22 ?a23 ?l23 ?c23 ?k23 ?a24 ?l24 ?c24 ?k24 ?a25 ?l25 ?c25 ?k25 ?a26 ?l26 ?c26 ?k26 ?a27 ?l27 ?c27 ?k27 ?a28 ?l28 ?c28 ?k28 ?a29 ?l29 ?c29 ?k29 ?a30 ?l30 ?c30 ?k30 ?a31 ?l31 ?c31 ?k31 ?a32 ?l32 ?c32 ?k32 ?a33 ?l33 ?c33 ?k33 ?mkFew ?kcFew ?mkPairs ?kcPairs ?pgPairs ?hdPairs ?poPairs ?saPairs ?pgFew ?hdFew ?poFew ?saFew ?naP ?naF ?haP ?haF ?hn ?htk ?hmP ?hmF ?pp ?pf ?pa ?fp ?ff ?fa_ ?exBadPlaces ?kpBadPlaces ?sbBadPlaces ?tyBadPlaces ?slBadPlaces ?gaBadPlaces ?gtBadPlaces ?dcBadPlaces ?clBadPlaces ?moBadPlaces ?kvBadPlaces ?qBadPlacesBadPlaces ?qBadPlacesBadLines ?qBadPlacesBadTakings ?exBadLines ?kpBadLines ?sbBadLines ?tyBadLines ?slBadLines ?gaBadLines ?gtBadLines ?dcBadLines ?clBadLines ?moBadLines ?kvBadLines ?qBadLinesBadPlaces ?qBadLinesBadLines ?qBadLinesBadTakings ?exBadTakings ?kpBadTakings ?sbBadTakings ?tyBadTakings ?slBadTakings ?gaBadTakings ?gtBadTakings ?dcBadTakings ?clBadTakings ?moBadTakings ?kvBadTakings ?qBadTakingsBadPlaces ?qBadTakingsBadLines ?qBadTakingsBadTakings ?sbL ?hdL ?tyL ?z5 ?z6 ?z7 ?z9 ?z10 ?z11 ?z12 ?z13 ?z14 ?z15 ?z16 ?z17 ?z18 ?z19 ?z20 ?z21 ?z22 ?z23 ?z24
    (case nPairs => k_is)
    (case nFew => k_is)
    (case nAnswer => k_is)
    (case nLineError => k_is)
    (case nBadPlaces => k_is)
    (case nBadLines => k_is)
    (case nBadTakings => k_is)
    (case a1 => k_is)
    (case l1 => k_is)
    (case c1 => k_is)
    (case k1 => k_is)
    (case a2 => k_is)
    (case l2 => k_is)
    (case c2 => k_is)
    (case k2 => k_is)
    (case a3 => k_is)
    (case l3 => k_is)
    (case c3 => k_is)
    (case k3 => k_is)
    (case a4 => k_is)
    (case l4 => k_is)
    (case c4 => k_is)
    (case k4 => k_is)
    (case a5 => k_is)
    (case l5 => k_is)
    (case c5 => k_is)
    (case k5 => k_is)
    (case a6 => k_is)
    (case l6 => k_is)
    (case c6 => k_is)
    (case k6 => k_is)
    (case a7 => k_is)
    (case l7 => k_is)
    (case c7 => k_is)
    (case k7 => k_is)
    (case a8 => k_is)
    (case l8 => k_is)
    (case c8 => k_is)
    (case k8 => k_is)
    (case a9 => k_is)
    (case l9 => k_is)
    (case c9 => k_is)
    (case k9 => k_is)
    (case a10 => k_is)
    (case i10 => k_is)
    (case l10 => k_is)
    (case c10 => k_is)
    (case a11 => k_is)
    (case i11 => k_is)
    (case l11 => k_is)
    (case c11 => k_is)
    (case a12 => k_is)
    (case l12 => k_is)
    (case c12 => k_is)
    (case k12 => k_is)
    (case a13 => k_is)
    (case l13 => k_is)
    (case c13 => k_is)
    (case k13 => k_is)
    (case a14 => k_is)
    (case l14 => k_is)
    (case c14 => k_is)
    (case k14 => k_is)
    (case a15 => k_is)
    (case l15 => k_is)
    (case c15 => k_is)
    (case k15 => k_is)
    (case a16 => k_is)
    (case l16 => k_is)
    (case c16 => k_is)
    (case k16 => k_is)
    (case a17 => k_is)
    (case l17 => k_is)
    (case c17 => k_is)
    (case k17 => k_is)
    (case a18 => k_is)
    (case l18 => k_is)
    (case c18 => k_is)
    (case k18 => k_is)
    (case a19 => k_is)
    (case l19 => k_is)
    (case c19 => k_is)
    (case k19 => k_is)
    (case a20 => k_is)
    (case l20 => k_is)
    (case c20 => k_is)
    (case k20 => k_is)
    (case a21 => k_is)
    (case l21 => k_is)
    (case c21 => k_is)
    (case k21 => k_is)
    (case a22 => k_is)
    (case l22 => k_is)
    (case c22 => k_is)
    (case k22 => k_is)
    (case a23 => k_is)
    (case l23 => k_is)
    (case c23 => k_is)
    (case k23 => k_is)
    (case a24 => k_is)
    (case l24 => k_is)
    (case c24 => k_is)
    (case k24 => k_is)
    (case a25 => k_is)
    (case l25 => k_is)
    (case c25 => k_is)
    (case k25 => k_is)
    (case a26 => k_is)
    (case l26 => k_is)
    (case c26 => k_is)
    (case k26 => k_is)
    (case a27 => k_is)
    (case l27 => k_is)
    (case c27 => k_is)
    (case k27 => k_is)
    (case a28 => k_is)
    (case l28 => k_is)
    (case c28 => k_is)
    (case k28 => k_is)
    (case a29 => k_is)
    (case l29 => k_is)
    (case c29 => k_is)
    (case k29 => k_is)
    (case a30 => k_is)
    (case l30 => k_is)
    (case c30 => k_is)
    (case k30 => k_is)
    (case a31 => k_is)
    (case l31 => k_is)
    (case c31 => k_is)
    (case k31 => k_is)
    (case a32 => k_is)
    (case l32 => k_is)
    (case c32 => k_is)
    (case k32 => k_is)
    (case a33 => k_is)
    (case l33 => k_is)
    (case c33 => k_is)
    (case k33 => k_is)
    (case mkFew => k_is)
    (case kcFew => k_is)
    (case mkPairs => k_is)
    (case kcPairs => k_is)
    (case pgPairs => k_is)
    (case hdPairs => k_is)
    (case poPairs => k_is)
    (case saPairs => k_is)
    (case pgFew => k_is)
    (case hdFew => k_is)
    (case poFew => k_is)
    (case saFew => k_is)
    (case naP => k_is)
    (case naF => k_is)
    (case haP => k_is)
    (case haF => k_is)
    (case hn => k_is)
    (case htk => k_is)
    (case hmP => k_is)
    (case hmF => k_is)
    (case pp => kit_is)
    (case pf => kit_is)
    (case pa => kit_is)
    (case fp => kit_is)
    (case ff => kit_is)
    (case fa_ => kit_is)
    (case exBadPlaces => k_exc)
    (case kpBadPlaces => k_is)
    (case sbBadPlaces => k_is)
    (case tyBadPlaces => k_is)
    (case slBadPlaces => k_is)
    (case gaBadPlaces => k_is)
    (case gtBadPlaces => k_is)
    (case dcBadPlaces => k_is)
    (case clBadPlaces => k_is)
    (case moBadPlaces => k_is)
    (case kvBadPlaces => kit_is)
    (case qBadPlacesBadPlaces => kit_is)
    (case qBadPlacesBadLines => kit_is)
    (case qBadPlacesBadTakings => kit_is)
    (case exBadLines => k_exc)
    (case kpBadLines => k_is)
    (case sbBadLines => k_is)
    (case tyBadLines => k_is)
    (case slBadLines => k_is)
    (case gaBadLines => k_is)
    (case gtBadLines => k_is)
    (case dcBadLines => k_is)
    (case clBadLines => k_is)
    (case moBadLines => k_is)
    (case kvBadLines => kit_is)
    (case qBadLinesBadPlaces => kit_is)
    (case qBadLinesBadLines => kit_is)
    (case qBadLinesBadTakings => kit_is)
    (case exBadTakings => k_exc)
    (case kpBadTakings => k_is)
    (case sbBadTakings => k_is)
    (case tyBadTakings => k_is)
    (case slBadTakings => k_is)
    (case gaBadTakings => k_is)
    (case gtBadTakings => k_is)
    (case dcBadTakings => k_is)
    (case clBadTakings => k_is)
    (case moBadTakings => k_is)
    (case kvBadTakings => kit_is)
    (case qBadTakingsBadPlaces => kit_is)
    (case qBadTakingsBadLines => kit_is)
    (case qBadTakingsBadTakings => kit_is)
    (case sbL => k_is)
    (case hdL => k_is)
    (case tyL => k_is)
    (case z5 => k_is)
    (case z6 => k_is)
    (case z7 => k_is)
    (case z9 => k_is)
    (case z10 => k_is)
    (case z11 => k_is)
    (case z12 => k_is)
    (case z13 => k_is)
    (case z14 => k_is)
    (case z15 => k_is)
    (case z16 => k_is)
    (case z17 => k_is)
    (case z18 => k_is)
    (case z19 => k_is)
    (case z20 => k_is)
    (case z21 => k_is)
    (case z22 => k_is)
    (case z23 => k_is)
    (case z24 => k_is)

