import PyProof.Rows.All
import Wide.All
import OpenK.AllK
import Wide.FinOn
import HandS.ForMost
import HandS.EndBits
import HandS.Evl
import HandS.Codes
import HandS.Gcd
import HandS.Wide
import HandS.Strs
import HandS.SetFor
import HandS.Zip
import HandS.IsInst
import HandS.Deep
import HandS.More
import HandS.Style
import HandS.Walk
import PySem.Challenge.RW_linehold_k02_whole_held
set_option Elab.async false
set_option linter.all false
set_option maxRecDepth 100000
set_option maxHeartbeats 4000000
namespace LH
open PySem PySem.Spec PyProof.Rows L2
/-! ### sets of whole numbers, out of a list -/
/-- a list's members, each once -/
def dd : List Int → List Int
  | [] => []
  | x :: r => if x ∈ dd r then dd r else x :: dd r
theorem dd_mem {k : Int} : ∀ {l : List Int}, k ∈ dd l ↔ k ∈ l
  | [] => Iff.rfl
  | x :: r => by
    have ih := dd_mem (k := k) (l := r)
    unfold dd
    by_cases h : x ∈ dd r
    · rw [if_pos h, List.mem_cons, ih]
      constructor
      · exact Or.inr
      · rintro (rfl | e)
        · exact dd_mem.mp h
        · exact e
    · rw [if_neg h, List.mem_cons, List.mem_cons, ih]
theorem dd_nodup : ∀ l : List Int, (dd l).Nodup
  | [] => List.nodup_nil
  | x :: r => by
    unfold dd
    by_cases h : x ∈ dd r
    · rw [if_pos h]
      exact dd_nodup r
    · rw [if_neg h]
      exact List.nodup_cons.mpr ⟨h, dd_nodup r⟩
theorem dd_le : ∀ l : List Int, (dd l).length ≤ l.length
  | [] => Nat.le_refl _
  | x :: r => by
    have ih := dd_le r
    unfold dd
    split
    · exact Nat.le_succ_of_le ih
    · exact Nat.succ_le_succ ih
theorem dd_id : ∀ {l : List Int}, l.Nodup → dd l = l
  | [], _ => rfl
  | x :: r, h => by
    obtain ⟨h1, h2⟩ := List.nodup_cons.mp h
    unfold dd
    rw [dd_id h2, if_neg h1]
theorem dd_lt : ∀ {l : List Int}, ¬ l.Nodup → (dd l).length < l.length
  | [], h => absurd List.nodup_nil h
  | x :: r, h => by
    unfold dd
    by_cases hx : x ∈ dd r
    · rw [if_pos hx]
      exact Nat.lt_succ_of_le (dd_le r)
    · rw [if_neg hx]
      have h2 : ¬ r.Nodup := fun z => h (List.nodup_cons.mpr ⟨fun e => hx (dd_mem.mpr e), z⟩)
      exact Nat.succ_lt_succ (dd_lt h2)
theorem dd_len_iff (l : List Int) : (dd l).length = l.length ↔ l.Nodup := by
  constructor
  · intro e
    by_cases h : l.Nodup
    · exact h
    · have := dd_lt h
      omega
  · intro h
    rw [dd_id h]
/-- a list without repetitions of the same members has as many -/
theorem dd_len_of {l ks : List Int} (h : ks.Nodup) (m : ∀ k, k ∈ ks ↔ k ∈ l) : ks.length = (dd l).length :=
  ((List.perm_ext_iff_of_nodup h (dd_nodup l)).mpr fun k => (m k).trans dd_mem.symm).length_eq

theorem setR_count {w : World} {h : Heap} {a : Addr} {S : Int → Bool} {n : Nat} (R : SetR w h a S n) : ∃ ks : List Int, ks.Nodup ∧ ks.length = n ∧ ∀ k, k ∈ ks ↔ S k = true := by
  obtain ⟨o, es, ep, t, ho, hex, hd, g, nd, hm, hb, hf, hn, hr, hl⟩ := R
  refine ⟨es.toList.map keyOf, nd, ?_, fun k => (hm k).symm⟩
  rw [List.length_map, Array.length_toList]
  exact hn

section
variable {P : Program} {w : World} {A : Around} {E : Value → Shared → Prop} {s : Shared}
theorem out2 {a b c : Nat} (h1 : a ≠ b) (h2 : a ≠ c) : a ∉ [b, c] := fun z => (List.mem_cons.mp z).elim h1 fun z => h2 (List.mem_singleton.mp z)
/-- the object of an empty set, as set.__new__ lays it -/
abbrev bare (w : World) : Obj := { cls := .type "set", dict := none, data := .set #[] 0 (.fresh 0 0 (!w.params.followText "set-order")) }
/-- set(x): __new__ lays the bare set, then __init__ runs with x -/
theorem set_by {x : Value} {Q : Value → Shared → Prop}
    (run : wpAny (model P w) A.in1.in1 (Builtin.«set.__init__» ⟨[.ref s.heap.objs.size, x], []⟩)
      (fun fin t => match fin with | .done f => wants (fun r u => r = .none ∧ Q (.ref s.heap.objs.size) u) E (.ok f) t | .again k => k.quiet = true ∧ codeAny (model P w) A.in1 k (wants (fun r u => r = .none ∧ Q (.ref s.heap.objs.size) u) E) t)
      (fun e t => wants (fun r u => r = .none ∧ Q (.ref s.heap.objs.size) u) E (.error e) t) { s with heap := s.heap.push (bare w) }) : wpAny (model P w) A (call (.type "set") [x]) Q E s := by
  have new : (s.heap.push (bare w)).get? s.heap.objs.size = some (bare w) := Heap.get?_push_size _ rfl
  have isSet : Shared.TypeIs { s with heap := s.heap.push (bare w) } (.ref s.heap.objs.size) "set" := ⟨_, new, rfl⟩
  obtain ⟨_, _, f1⟩ := F.called_set.mro
  have f2 := F.called_set.made
  have f3 := F.called_set.sub
  have f4 := F.called_set.notType
  have f5 := F.called_set.canCreate
  have f6 := F.typeCall_set_1 x
  have f7 := F.called_set.init.lookup
  have f8 := F.called_set.init.bind (.ref s.heap.objs.size)
  refine wpAny_call (codeAny_of_tree (show wpAny _ _ (callAny (.type "set") _) _ _ _ from wpAny_pure ⟨Code.quiet_builtin _ (by decide +kernel), codeAny_builtin F.entry_type_call ?_⟩))
  rw [Around.under_plain (weight_type_call_type "set" [x] []) rfl]
  repeat (any_goals (first | assumption | wp_step))
  refine codeAny_mono (code_set_led1 x (E := E) (Q₁ := fun o t => o = .ref s.heap.objs.size ∧ t = { s with heap := s.heap.push (bare w) }) ⟨rfl, rfl⟩) fun r t hr => ?_
  match r, hr with
  | .error _, hr => exact hr
  | .ok (.ret _), hr =>
    obtain ⟨rfl, rfl⟩ := hr
    repeat (any_goals (first | assumption | wp_step))
    refine codeAny_mono (codeAny_call_builtin F.called_set.init.plain F.entry_set_init (check_set_init_1 isSet run)) fun r t hr => ?_
    match r, hr with
    | .error _, hr => exact hr
    | .ok (.ret _), hr =>
      obtain ⟨rfl, q⟩ := hr
      repeat (any_goals (first | assumption | wp_step))
/-- set(l), l a list of whole numbers: the members, each once -/
theorem set_of_list {l : Addr} {its : Array Value} {ns : List Int} {Q : Value → Shared → Prop} (calm : A.handled = none) (isl : s.heap.IsList l its) (isn : IntsAre its.toList ns) (few : ns.length + 1 < scanBound)
    (done : ∀ h2 tk c, SetR w h2 s.heap.objs.size (fun j => decide (j ∈ ns)) c → (∀ b o, s.heap.get? b = some o → h2.get? b = some o) → Q (.ref s.heap.objs.size) { s with heap := h2, toks := tk }) :
    wpAny (model P w) A (call (.type "set") [.ref l]) Q E s := by
  have size : its.size = ns.length := by rw [← Array.length_toList]; exact IntsAre.length isn
  refine set_by ?_
  have new : (s.heap.push (bare w)).get? s.heap.objs.size = some (bare w) := Heap.get?_push_size _ rfl
  obtain ⟨⟨k, dt, d, sl⟩, lo, kk, m, kd⟩ := isl
  subst kk
  cases kd
  have lo1 : (s.heap.push (bare w)).get? l = some { cls := .type "list", dict := dt, data := .seq its m, slots := sl } := Heap.get?_push_of_some _ lo
  have isl1 : (s.heap.push (bare w)).IsList l its := ⟨_, lo1, rfl, m, rfl⟩
  have ll : l < s.heap.objs.size := Heap.lt_size lo
  have n1 := F.sub_list_set
  have n2 := F.sub_list_frozenset
  have n3 : (Value.type "list" == Value.type "dict") = false := by decide
  unfold Builtin.«set.__init__» noKeywords Builtin.Frozenset.updateFrom
  generalize PI : pyIter = pI
  wp_walk
  subst PI
  refine wpAny_pyIter_list isl1 (wpAny_bind (wpAny_runValue ?_))
  have sz : s.heap.objs.size < (s.heap.push (bare w)).objs.size := by rw [Heap.size_push]; exact Nat.lt_succ_self _
  refine set_update_ints ((Walks.list (by simpa using calm) _ l (Nat.ne_of_lt (Nat.lt_trans ll sz)) its).toS) s.heap.objs.size (out2 (Nat.ne_of_lt sz) (Nat.ne_of_gt ll))
    ns size few (fun i v e => ?_) its.size 0 _ (by omega) (Nat.zero_le _) ⟨⟨_, Heap.get?_push_size _ rfl, rfl, rfl⟩, isl1.push _⟩ ⟨0, Nat.le_refl _, setR_new_at (Heap.get?_push_of_some _ new)⟩ ?_
  · have il : i < ns.length := size ▸ (Array.getElem?_eq_some_iff.mp e).1
    obtain ⟨t, q⟩ := IntsAre.int_at isn i v (by rw [Array.getElem?_toList]; exact e)
    exact ⟨ns[i], t, List.getElem?_eq_getElem il, by rw [q, List.getD_eq_getElem?_getD, List.getElem?_eq_getElem il] <;> rfl⟩
  · rintro ⟨h2, g2, d2, t2, o2⟩ c mv cl R
    cases (show g2 = s.gens from mv.gens)
    cases (show d2 = s.drawn from mv.drawn)
    cases (show o2 = s.os from mv.os)
    refine wpAny_pure (wpAny_pure ⟨rfl, done h2 t2 c R fun b o e => ?_⟩)
    have bl := Heap.lt_size e
    exact mv.heap b o (out2 (Nat.ne_of_lt bl) (Nat.ne_of_lt (Nat.lt_trans bl sz))) (Heap.get?_push_of_some _ (Heap.get?_push_of_some _ e))
end
section
variable {X : Cx}
/-- set(xs), xs a list of whole numbers -/
def rSetOf (K : PySem.W.Frag) (w : World) : List V → Hp → VK → Prop := fun vs H Q => ∃ (a : Addr) (ns : List Int), vs = [.ref a] ∧ SqL K H a (ns.map V.int) ∧ ns.length ≤ 4000 ∧
  ∀ p, H p = none → Q (.ref p) (upd H p (SetO w p (fun j => decide (j ∈ ns)) (dd ns).length))
theorem cr_setL (hc : X.calm = true) : CallR X (.type "set") (rSetOf X.K X.w) := by
  intro pins s σ H vs us Q I r h
  obtain ⟨a, ns, rfl, hq, hl, q⟩ := h
  obtain ⟨its, rv, pl, hz⟩ := I.list hq
  rw [Vals.ref1 r]
  refine set_of_list (I.ok.hd hc) pl.isList (by simpa using Vals.ints rv) (by unfold scanBound; omega) fun h' tk c R k => ?_
  have ec : c = (dd ns).length := by
    obtain ⟨ks, n1, n2, n3⟩ := setR_count R
    rw [← n2]
    exact dd_len_of n1 fun k => (n3 k).trans decide_eq_true_iff
  subst ec
  have hn : H s.heap.objs.size = none := I.hok.fresh (Nat.le_refl _)
  exact ⟨.ref s.heap.objs.size, _, I.laid (t' := tk) k (Nat.le_refl _) (setO_new R), rfl, q _ hn⟩
/-- len(s), s a set of whole numbers -/
def rLenSet (w : World) : List V → Hp → VK → Prop := fun vs H Q => ∃ (a : Addr) (S : Int → Bool) (n : Nat), vs = [.ref a] ∧ H a = some (SetO w a S n) ∧ Q (.int (n : Nat)) H
theorem cr_lenSet : CallR X (.builtin "len") (rLenSet X.w) := by
  intro pins s σ H vs us Q I r h
  obtain ⟨a, S, n, rfl, ha, q⟩ := h
  rw [Vals.ref1 r]
  have R := setO_get I ha
  obtain ⟨o, es, ep, t, ho, hex, hd, g, nd, hm, hb, hf, hn, hr, hl⟩ := R
  refine call_len_set ho hex hd hf (by unfold scanBound at hb; omega) ⟨.int (n : Nat), H, I.tok _, ⟨_, by rw [hn]⟩, q⟩
end
end LH

namespace LH
open PySem L2 Evl
/-! ### small heaps: what is known (Hs), within what stands (H); a step lets both grow, and takes nothing of H that was not known -/
structure Grow (Hs H Hs2 H2 : Hp) : Prop where
  s : Ex Hs Hs2
  b : Ex H H2
  i : Ex Hs2 H2
  f : ∀ p, Hs p = none → H p ≠ none → Hs2 p = none
section
variable {Hs H Hs2 H2 Hs3 H3 Hc : Hp} {p : Addr} {o : HO}
theorem up_some (e : Ex H H2) (h : H p ≠ none) : H2 p ≠ none := by
  cases q : H p with
  | none => exact absurd q h
  | some o => rw [e p o q]; exact fun z => nomatch z
theorem Grow.refl (e : Ex Hs H) : Grow Hs H Hs H := ⟨Ex.refl _, Ex.refl _, e, fun _ h _ => h⟩
theorem Grow.up (e : Ex Hs H) (b : Ex H H2) : Grow Hs H Hs H2 := ⟨Ex.refl _, b, e.trans b, fun _ h _ => h⟩
theorem Grow.trans (x : Grow Hs H Hs2 H2) (y : Grow Hs2 H2 Hs3 H3) : Grow Hs H Hs3 H3 :=
  ⟨x.s.trans y.s, x.b.trans y.b, y.i, fun p h n => y.f p (x.f p h n) (up_some x.b n)⟩
theorem Grow.new (e : Ex Hs H) (h : H p = none) : Grow Hs H (upd Hs p o) (upd H p o) := by
  refine ⟨Ex.new (fresh_back e h), Ex.new h, fun a u q => ?_, fun q h1 h2 => ?_⟩
  · by_cases ha : a = p
    · subst ha; rw [upd_same] at q ⊢; exact q
    · rw [upd_ne ha] at q ⊢; exact e a u q
  · rw [upd_ne (fun z => h2 (by rw [z]; exact h))]; exact h1
/-- a new object is known from here on -/
theorem Grow.know (x : Grow Hs H Hs2 H2) (h : H p = none) (h2 : H2 p = some o) : Grow Hs H (upd Hs2 p o) H2 := by
  have keep : Ex Hs2 (upd Hs2 p o) := fun a u q => by
    by_cases ha : a = p
    · subst ha; rw [upd_same]; rw [x.i a u q] at h2; exact h2.symm
    · rw [upd_ne ha]; exact q
  refine ⟨x.s.trans keep, x.b, fun a u q => ?_, fun q n1 n2 => ?_⟩
  · by_cases ha : a = p
    · subst ha; rw [upd_same] at q; cases q; exact h2
    · rw [upd_ne ha] at q; exact x.i a u q
  · rw [upd_ne (fun z => n2 (by rw [z]; exact h))]; exact x.f q n1 n2
def uni (A B : Hp) : Hp := fun a => match A a with | some o => some o | none => B a
theorem uni_l {A B : Hp} : Ex A (uni A B) := fun a o h => by unfold uni; rw [h]
theorem uni_r {A B C : Hp} (a : Ex A C) (b : Ex B C) : Ex B (uni A B) := fun x o h => by
  unfold uni
  cases q : A x with
  | none => exact h
  | some u => exact (a x u q).symm.trans (b x o h)
theorem uni_in {A B C : Hp} (a : Ex A C) (b : Ex B C) : Ex (uni A B) C := fun x o h => by
  unfold uni at h
  cases q : A x with
  | none => rw [q] at h; exact b x o h
  | some u => rw [q] at h; exact a x o (q.trans h)
theorem uni_none {A B : Hp} {x : Addr} (a : A x = none) (b : B x = none) : uni A B x = none := by unfold uni; rw [a]; exact b
/-- the same step where more is known -/
theorem Grow.uni (x : Grow Hs H Hs2 H2) (k : Ex Hs Hc) (e : Ex Hc H) : Grow Hc H (LH.uni Hc Hs2) H2 :=
  ⟨uni_l, x.b, uni_in (e.trans x.b) x.i, fun p h n => uni_none h (x.f p (fresh_back k h) n)⟩
theorem Grow.uniR (x : Grow Hs H Hs2 H2) (e : Ex Hc H) : Ex Hs2 (LH.uni Hc Hs2) := uni_r (e.trans x.b) x.i
end

/-! ### codes: what a value tells of data, in a heap -/
abbrev Cd (α : Type) := α → Hp → V → Prop
class Mo {α : Type} (c : Cd α) : Prop where
  mo : ∀ {a : α} {H H2 : Hp} {v : V}, Ex H H2 → c a H v → c a H2 v
def cI : Cd Int := fun n _ v => v = .int n
def cN : Cd Nat := fun n _ v => v = .int (n : Int)
def cB : Cd Bool := fun b _ v => v = .bl b
def cU : Cd Unit := fun _ _ v => v = .non
def cL {α : Type} (c : Cd α) : Cd (List α) := fun l H v => ∃ a xs, v = .ref a ∧ H a = some (.lst xs) ∧ Paired (fun b x => c b H x) l xs
/-- a tuple of things of one kind -/
def cQ {α : Type} (c : Cd α) : Cd (List α) := fun l H v => ∃ a xs, v = .ref a ∧ H a = some (.tup xs) ∧ Paired (fun b x => c b H x) l xs
def cP {α β : Type} (c : Cd α) (d : Cd β) : Cd (α × β) := fun p H v => ∃ a x y, v = .ref a ∧ H a = some (.tup [x, y]) ∧ c p.1 H x ∧ d p.2 H y
def cO {α : Type} (c : Cd α) : Cd (Option α) := fun o H v => match o with | none => v = .non | some a => c a H v
instance : Mo cI := ⟨fun _ h => h⟩
instance : Mo cN := ⟨fun _ h => h⟩
instance : Mo cB := ⟨fun _ h => h⟩
instance : Mo cU := ⟨fun _ h => h⟩
theorem paired_mo {α : Type} {c : Cd α} [Mo c] {l : List α} {xs : List V} {H H2 : Hp} (e : Ex H H2) (p : Paired (fun b x => c b H x) l xs) : Paired (fun b x => c b H2 x) l xs := Paired.mono (fun _ _ h => Mo.mo e h) p
instance {α : Type} {c : Cd α} [Mo c] : Mo (cL c) := ⟨fun e ⟨a, xs, h1, h2, h3⟩ => ⟨a, xs, h1, e _ _ h2, paired_mo e h3⟩⟩
instance {α : Type} {c : Cd α} [Mo c] : Mo (cQ c) := ⟨fun e ⟨a, xs, h1, h2, h3⟩ => ⟨a, xs, h1, e _ _ h2, paired_mo e h3⟩⟩
instance {α β : Type} {c : Cd α} {d : Cd β} [Mo c] [Mo d] : Mo (cP c d) := ⟨fun e ⟨a, x, y, h1, h2, h3, h4⟩ => ⟨a, x, y, h1, e _ _ h2, Mo.mo e h3, Mo.mo e h4⟩⟩
instance {α : Type} {c : Cd α} [Mo c] : Mo (cO c) := ⟨fun {a _ _ _} e h => match a, h with | none, h => h | some _, h => Mo.mo (c := c) e h⟩
theorem paired_ints : ∀ {l : List Int} {xs : List V} {H : Hp}, Paired (fun b x => cI b H x) l xs → xs = l.map V.int
  | _, _, _, .nil => rfl
  | _, _, _, .cons h t => by rw [paired_ints t, h]; rfl
theorem ints_paired {H : Hp} : ∀ l : List Int, Paired (fun b x => cI b H x) l (l.map V.int)
  | [] => .nil
  | _ :: r => .cons rfl (ints_paired r)
theorem paired_bls : ∀ {l : List Bool} {xs : List V} {H : Hp}, Paired (fun b x => cB b H x) l xs → xs = l.map V.bl
  | _, _, _, .nil => rfl
  | _, _, _, .cons h t => by rw [paired_bls t, h]; rfl
theorem cL_ints {l : List Int} {H : Hp} {v : V} (h : cL cI l H v) : ∃ a, v = .ref a ∧ H a = some (.lst (l.map V.int)) := by
  obtain ⟨a, xs, h1, h2, h3⟩ := h
  exact ⟨a, h1, by rw [h2, paired_ints h3]⟩
theorem ints_cL {l : List Int} {H : Hp} {a : Addr} (h : H a = some (.lst (l.map V.int))) : cL cI l H (.ref a) := ⟨a, _, rfl, h, ints_paired l⟩
theorem Paired.at {α β : Type} {F : α → β → Prop} : ∀ {l : List α} {xs : List β} {i : Nat} {x : β}, Paired F l xs → xs[i]? = some x → ∃ a, l[i]? = some a ∧ F a x
  | _, _, _, _, .nil, h => by simp at h
  | _, _, 0, x, .cons h _, e => ⟨_, rfl, (Option.some.inj e) ▸ h⟩
  | _, _, i + 1, x, .cons _ t, e => Paired.at (i := i) t (by simpa using e)
theorem Paired.at2 {α β : Type} {F : α → β → Prop} : ∀ {l : List α} {xs : List β} {i : Nat} {a : α}, Paired F l xs → l[i]? = some a → ∃ x, xs[i]? = some x ∧ F a x
  | _, _, _, _, .nil, h => by simp at h
  | _, _, 0, x, .cons h _, e => ⟨_, rfl, (Option.some.inj e) ▸ h⟩
  | _, _, i + 1, x, .cons _ t, e => Paired.at2 (i := i) t (by simpa using e)
theorem Paired.app {α β : Type} {F : α → β → Prop} : ∀ {l m : List α} {xs ys : List β}, Paired F l xs → Paired F m ys → Paired F (l ++ m) (xs ++ ys)
  | _, _, _, _, .nil, h => h
  | _, _, _, _, .cons h t, k => .cons h (Paired.app t k)

/-! ### what evaluates to what -/
def EvP (te : TE) (σ : L2.St) (Hs : Hp) (P : V → Hp → Prop) : Prop := ∀ H, Ex Hs H → ∀ Q : VK, (∀ v H2 Hs2, Grow Hs H Hs2 H2 → P v Hs2 → Q v H2) → te σ H Q
/-- a new list, not known as yet -/
def EvF (te : TE) (σ : L2.St) (Hs : Hp) (P : List V → Hp → Prop) : Prop :=
  ∀ H, Ex Hs H → ∀ Q : VK, (∀ p xs H2 Hs2, Grow Hs H Hs2 H2 → H p = none → Hs2 p = none → H2 p = some (.lst xs) → P xs Hs2 → Q (.ref p) H2) → te σ H Q
def EvAs (ta : TA) (σ : L2.St) (Hs : Hp) (P : List V → Hp → Prop) : Prop := ∀ H, Ex Hs H → ∀ Q : List V → Hp → Prop, (∀ vs H2 Hs2, Grow Hs H Hs2 H2 → P vs Hs2 → Q vs H2) → ta σ H Q
abbrev EvC {α : Type} (te : TE) (σ : L2.St) (Hs : Hp) (c : Cd α) (a : α) : Prop := EvP te σ Hs fun v H => c a H v
/-- a new list of data -/
abbrev EvFC {α : Type} (te : TE) (σ : L2.St) (Hs : Hp) (c : Cd α) (l : List α) : Prop := EvF te σ Hs fun xs H => Paired (fun b x => c b H x) l xs
def RetP (Hs H : Hp) (P : V → Hp → Prop) (Q : VK) : Prop := ∀ v H2 Hs2, Grow Hs H Hs2 H2 → P v Hs2 → Q v H2
abbrev RetC {α : Type} (Hs H : Hp) (c : Cd α) (a : α) (Q : VK) : Prop := RetP Hs H (fun v H => c a H v) Q
def RetF (Hs H : Hp) (P : List V → Hp → Prop) (Q : VK) : Prop := ∀ p xs H2 Hs2, Grow Hs H Hs2 H2 → H p = none → Hs2 p = none → H2 p = some (.lst xs) → P xs Hs2 → Q (.ref p) H2
abbrev RetFC {α : Type} (Hs H : Hp) (c : Cd α) (l : List α) (Q : VK) : Prop := RetF Hs H (fun xs H => Paired (fun b x => c b H x) l xs) Q
section
variable {α β : Type} {c : Cd α} {d : Cd β} {σ : L2.St} {Hs H Hs2 H2 : Hp} {te ta tb : TE} {tt : TT} {v x y z : V} {P P' : V → Hp → Prop} {K : PySem.W.Frag} {r : R2} {targ : TA}
theorem ep_ev (h : Ev te σ Hs v) (p : P v Hs) : EvP te σ Hs P := fun H e Q q => h H e Q fun H2 b => q v H2 Hs (Grow.up e b) p
theorem ep_var {i : Nat} (h : σ[i]? = some (some v)) (p : P v Hs) : EvP (tVar i) σ Hs P := ep_ev (ev_var h) p
theorem ec_var {i : Nat} {a : α} (h : σ[i]? = some (some v)) (p : c a Hs v) : EvC (tVar i) σ Hs c a := ep_ev (ev_var h) p
theorem ev_ep (h : EvP te σ Hs fun u _ => u = v) : Ev te σ Hs v := fun H e Q q => h H e Q fun u H2 Hs2 g p => p ▸ q H2 g.b
theorem EvP.imp (h : EvP te σ Hs P) (k : ∀ v H, Ex Hs H → P v H → P' v H) : EvP te σ Hs P' := fun H e Q q => h H e Q fun v H2 Hs2 g p => q v H2 Hs2 g (k v Hs2 g.s p)
theorem EvP.lift (h : EvP te σ Hs P) (e : Ex Hs Hs2) (mo : ∀ v H H2, Ex H H2 → P v H → P v H2) : EvP te σ Hs2 P := fun H e2 Q q => h H (e.trans e2) Q fun v H3 Hs3 g p =>
  q v H3 (uni Hs2 Hs3) (g.uni e e2) (mo v Hs3 _ (g.uniR e2) p)
theorem EvC.lift [Mo c] {a : α} (h : EvC te σ Hs c a) (e : Ex Hs Hs2) : EvC te σ Hs2 c a := EvP.lift h e fun _ _ _ e p => Mo.mo e p
/-- a new list, taken as known -/
theorem EvF.toP {P : List V → Hp → Prop} (h : EvF te σ Hs P) (k : ∀ p xs Hs2, Ex Hs Hs2 → P xs Hs2 → Hs2 p = none → P' (.ref p) (upd Hs2 p (.lst xs))) : EvP te σ Hs P' := fun H e Q q => h H e Q fun p xs H2 Hs2 g h1 h2 h3 h4 =>
  q (.ref p) H2 _ (g.know h1 h3) (k p xs Hs2 g.s h4 h2)
theorem EvF.toC [Mo c] {l : List α} (h : EvFC te σ Hs c l) : EvC te σ Hs (cL c) l := EvF.toP h fun p xs Hs2 _ hp hn => ⟨p, xs, rfl, upd_same, paired_mo (Ex.new hn) hp⟩
theorem EvF.imp {P P' : List V → Hp → Prop} (h : EvF te σ Hs P) (k : ∀ xs H, Ex Hs H → P xs H → P' xs H) : EvF te σ Hs P' := fun H e Q q => h H e Q fun p xs H2 Hs2 g h1 h2 h3 h4 => q p xs H2 Hs2 g h1 h2 h3 (k xs Hs2 g.s h4)
/-- Evl's new list of known values -/
theorem ef_el {xs : List V} (h : EvL te σ Hs xs) : EvF te σ Hs fun ys _ => ys = xs := fun H e Q q => h H e Q fun p H2 hp b h2 => q p xs H2 Hs (Grow.up e b) hp (fresh_back e hp) h2 rfl
theorem el_ef {xs : List V} (h : EvF te σ Hs fun ys _ => ys = xs) : EvL te σ Hs xs := fun H e Q q => h H e Q fun p ys H2 Hs2 g h1 _ h3 h4 => q p H2 h1 g.b (h4 ▸ h3)
theorem elI {l : List Int} (h : EvFC te σ Hs cI l) : EvL te σ Hs (l.map V.int) := el_ef (h.imp fun _ _ _ p => paired_ints p)
theorem efI {l : List Int} (h : EvL te σ Hs (l.map V.int)) : EvFC te σ Hs cI l := (ef_el h).imp fun _ _ _ p => p ▸ ints_paired l
theorem elB {l : List Bool} (h : EvFC te σ Hs cB l) : EvL te σ Hs (l.map V.bl) := el_ef (h.imp fun _ _ _ p => paired_bls p)

/-! arguments -/
theorem as_nil : EvAs tNil σ Hs fun vs _ => vs = [] := fun H e Q q => q [] H Hs (Grow.refl e) rfl
theorem as_cons {P2 : List V → Hp → Prop} (h : EvP te σ Hs P) (mo : ∀ v H H2, Ex H H2 → P v H → P v H2) (hr : ∀ Hs1, Ex Hs Hs1 → EvAs targ σ Hs1 P2) : EvAs (tCons te targ) σ Hs fun vs H => ∃ v r, vs = v :: r ∧ P v H ∧ P2 r H := fun H e Q q =>
  h H e _ fun v H2 Hs2 g p => hr Hs2 g.s H2 g.i _ fun vs H3 Hs3 g2 p2 => q _ H3 Hs3 (g.trans g2) ⟨v, vs, rfl, mo v Hs2 Hs3 g2.s p, p2⟩
theorem as_ea {vs : List V} (h : EvA targ σ Hs vs) : EvAs targ σ Hs fun ws _ => ws = vs := fun H e Q q => h H e Q fun H2 b => q vs H2 Hs (Grow.up e b) rfl
theorem ea_as {vs : List V} (h : EvAs targ σ Hs fun ws _ => ws = vs) : EvA targ σ Hs vs := fun H e Q q => h H e Q fun ws H2 Hs2 g p => p ▸ q H2 g.b
theorem EvAs.imp {P P' : List V → Hp → Prop} (h : EvAs targ σ Hs P) (k : ∀ v H, Ex Hs H → P v H → P' v H) : EvAs targ σ Hs P' := fun H e Q q => h H e Q fun v H2 Hs2 g p => q v H2 Hs2 g (k v Hs2 g.s p)

/-! calls of defs -/
theorem ev_callS {sp : Sp} {dvs : List V} {E : XK} {P : List V → Hp → Prop} (h : EvAs targ σ Hs P) (hs : ∀ vs Hs1, Ex Hs Hs1 → P vs Hs1 → ∀ H, Ex Hs1 H → ∀ Q : VK, RetV z H Q → sp (vs ++ dvs) H Q E) : Ev (tCall sp dvs E targ) σ Hs z := fun H e Q q =>
  h H e _ fun vs H2 Hs2 g p => hs vs Hs2 g.s p H2 g.i Q fun H3 b => q H3 (g.b.trans b)
theorem ep_call {sp : Sp} {dvs : List V} {E : XK} {P : List V → Hp → Prop} (h : EvAs targ σ Hs P) (hs : ∀ vs Hs1, Ex Hs Hs1 → P vs Hs1 → ∀ H, Ex Hs1 H → ∀ Q : VK, RetP Hs1 H P' Q → sp (vs ++ dvs) H Q E) : EvP (tCall sp dvs E targ) σ Hs P' := fun H e Q q =>
  h H e _ fun vs H2 Hs2 g p => hs vs Hs2 g.s p H2 g.i Q fun v H3 Hs3 g2 p2 => q v H3 Hs3 (g.trans g2) p2
theorem ef_call {sp : Sp} {dvs : List V} {E : XK} {P P' : List V → Hp → Prop} (h : EvAs targ σ Hs P) (hs : ∀ vs Hs1, Ex Hs Hs1 → P vs Hs1 → ∀ H, Ex Hs1 H → ∀ Q : VK, RetF Hs1 H P' Q → sp (vs ++ dvs) H Q E) : EvF (tCall sp dvs E targ) σ Hs P' := fun H e Q q =>
  h H e _ fun vs H2 Hs2 g p => hs vs Hs2 g.s p H2 g.i Q fun p xs H3 Hs3 g2 h1 h2 h3 h4 => q p xs H3 Hs3 (g.trans g2) (fresh_back g.b h1) h2 h3 h4

/-! operators where one side is a thing -/
theorem ev_opP (ha : EvP ta σ Hs P) (mo : ∀ v H H2, Ex H H2 → P v H → P v H2) (hb : EvP tb σ Hs P') (mo' : ∀ v H H2, Ex H H2 → P' v H → P' v H2) (hr : ∀ x y Hs1, Ex Hs Hs1 → P x Hs1 → P' y Hs1 → RV r x y Hs1 z) : Ev (tOp r ta tb) σ Hs z := fun H e Q q =>
  ha H e _ fun x H2 Hs2 g p => (EvP.lift hb g.s mo') H2 g.i _ fun y H3 Hs3 g2 p2 => hr x y Hs3 (g.s.trans g2.s) (mo x Hs2 Hs3 g2.s p) p2 H3 g2.i Q fun H4 b => q H4 ((g.b.trans g2.b).trans b)
end
end LH

namespace LH
open PySem L2 Evl
/-! ### what a loop or a comprehension walks: a list of data -/
structure Src {α : Type} (J : It) (Hs : Hp) (src : List α) (c : Cd α) : Prop where
  ex : ∃ (G : Hp → Prop) (Y : Nat → Hp → V → Hp → Prop), Walk J src.length G Y ∧ (∀ H, Ex Hs H → G H) ∧
    ∀ i H x H', i < src.length → Ex Hs H → Y i H x H' → ∃ a Hs', src[i]? = some a ∧ Grow Hs H Hs' H' ∧ c a Hs' x
def EvI {α : Type} (wi : TI) (σ : L2.St) (Hs : Hp) (src : List α) (c : Cd α) : Prop :=
  ∀ H, Ex Hs H → ∀ R : It → Hp → Prop, (∀ J H2 Hs2, Grow Hs H Hs2 H2 → Src J Hs2 src c → R J H2) → wi σ H R
theorem sq_ex {K : PySem.W.Frag} {Hs H : Hp} {a : Addr} {xs : List V} (e : Ex Hs H) (h : Hs a = some (.lst xs)) : SqL K H a xs := SqL.of (e _ _ h)
theorem sqt_ex {K : PySem.W.Frag} {Hs H : Hp} {a : Addr} {xs : List V} (e : Ex Hs H) (h : Hs a = some (.tup xs)) : SqT K H a xs := SqT.of (e _ _ h)
section
variable {α β : Type} {c : Cd α} {d : Cd β} {σ : L2.St} {Hs H : Hp} {te : TE} {ta : TA} {K : PySem.W.Frag} {l : List α} {m : List β}
/-- a list of data stands: it is walked as such -/
theorem src_list {a : Addr} {xs : List V} (h : Hs a = some (.lst xs)) (p : Paired (fun b x => c b Hs x) l xs) : Src (Itl K a) Hs l c := by
  have e : xs.length = l.length := p.length.symm
  refine ⟨_, _, e ▸ walk_list (K := K) (a := a) (xs := xs), fun H e => sq_ex e h, fun i H x H' hi eH y => ?_⟩
  obtain ⟨rfl, hx⟩ := y
  obtain ⟨b, hb, cb⟩ := Paired.at p hx
  exact ⟨b, Hs, hb, Grow.refl eH, cb⟩
theorem src_tup {a : Addr} {xs : List V} (h : Hs a = some (.tup xs)) (p : Paired (fun b x => c b Hs x) l xs) : Src (Itt K a) Hs l c := by
  have e : xs.length = l.length := p.length.symm
  refine ⟨_, _, e ▸ walk_tup (K := K) (a := a) (xs := xs), fun H e => sqt_ex e h, fun i H x H' hi eH y => ?_⟩
  obtain ⟨rfl, hx⟩ := y
  obtain ⟨b, hb, cb⟩ := Paired.at p hx
  exact ⟨b, Hs, hb, Grow.refl eH, cb⟩
theorem ei_list (h : EvC te σ Hs (cL c) l) : EvI (iList K te) σ Hs l c := fun H e R k => h H e _ fun v H2 Hs2 g ⟨a, xs, h1, h2, h3⟩ =>
  ⟨a, h1, ⟨xs, sq_ex g.i h2⟩, k _ H2 Hs2 g (src_list h2 h3)⟩
theorem ei_tup (h : EvC te σ Hs (cQ c) l) : EvI (iTup K te) σ Hs l c := fun H e R k => h H e _ fun v H2 Hs2 g ⟨a, xs, h1, h2, h3⟩ =>
  ⟨a, h1, ⟨xs, sqt_ex g.i h2⟩, k _ H2 Hs2 g (src_tup h2 h3)⟩
/-- range(n) -/
theorem ei_rng {n : Int} (h : EvA ta σ Hs [.int n]) (hn : n < 2 ^ 62) (h0 : -(2 ^ 62) ≤ n) : EvI (iRng1 ta) σ Hs (List.range n.toNat) cN := fun H e R k => h H e _ fun H2 b =>
  ⟨n, rfl, h0, hn, k _ H2 Hs (Grow.up e b) ⟨_, _, by rw [List.length_range]; exact walk_range, fun _ _ => trivial, fun i H x H' hi eH y => by
    obtain ⟨rfl, rfl⟩ := y
    rw [List.length_range] at hi
    exact ⟨i, Hs, by simp [hi], Grow.refl eH, by show V.int ((0 : Int) + (i : Int)) = V.int (i : Int); rw [Int.zero_add]⟩⟩⟩
/-- enumerate(l) -/
theorem ei_enum [Mo c] (h : EvAs ta σ Hs fun vs H => ∃ v, vs = [v] ∧ cL c l H v) : EvI (iEnum K ta) σ Hs ((List.range l.length).zip l) (cP cN c) := fun H e R k => h H e _ fun vs H2 Hs2 g hv => by
  obtain ⟨v, h1, a, xs, h2, h3, h4⟩ := hv
  have el : xs.length = l.length := h4.length.symm
  have e2 : ((List.range l.length).zip l).length = xs.length := by rw [List.length_zip, List.length_range, Nat.min_self, el]
  have S : Src (Ite K a) Hs2 ((List.range l.length).zip l) (cP cN c) := by
    refine ⟨_, _, e2 ▸ walk_enum (K := K) (a := a) (xs := xs), fun H e => sq_ex e h3, fun i H x H' hi eH y => ?_⟩
    obtain ⟨T, u, w, rfl, hT, rfl, q1, q2⟩ := y
    obtain ⟨b, hb, cb⟩ := Paired.at h4 q2
    have hil : i < l.length := (List.getElem?_eq_some_iff.mp hb).1
    refine ⟨(i, b), upd Hs2 T (.tup [u, w]), ?_, Grow.new eH hT, T, u, w, rfl, upd_same, (Option.some.inj q1).symm, Mo.mo (Ex.new (fresh_back eH hT)) cb⟩
    rw [List.getElem?_zip_eq_some]
    exact ⟨by simp [hil], hb⟩
  exact ⟨a, xs, by rw [h1, h2], sq_ex g.i h3, k _ H2 Hs2 g S⟩
/-- zip(l, m) -/
theorem ei_zip [Mo c] [Mo d] (h : EvAs ta σ Hs fun vs H => ∃ v w, vs = [v, w] ∧ cL c l H v ∧ cL d m H w) : EvI (iZip K ta) σ Hs (l.zip m) (cP c d) := fun H e R k => h H e _ fun vs H2 Hs2 g hv => by
  obtain ⟨v, w, h1, ⟨a, xs, h2, h3, h4⟩, b, ys, h5, h6, h7⟩ := hv
  have S : Src (Itz K a b) Hs2 (l.zip m) (cP c d) := by
    refine ⟨_, _, walk_zip (K := K) (a := a) (b := b) (xs := xs) (ys := ys) (by rw [List.length_zip, h4.length, h7.length]), fun H e => ⟨sq_ex e h3, sq_ex e h6⟩, fun i H x H' hi eH y => ?_⟩
    obtain ⟨T, u, z, rfl, hT, rfl, q1, q2⟩ := y
    obtain ⟨p, hp, cp⟩ := Paired.at h4 q1
    obtain ⟨q, hq, cq⟩ := Paired.at h7 q2
    refine ⟨(p, q), upd Hs2 T (.tup [u, z]), ?_, Grow.new eH hT, T, u, z, rfl, upd_same, Mo.mo (Ex.new (fresh_back eH hT)) cp, Mo.mo (Ex.new (fresh_back eH hT)) cq⟩
    rw [List.getElem?_zip_eq_some]
    exact ⟨hp, hq⟩
  exact ⟨a, b, xs, ys, by rw [h1, h2, h5], sq_ex g.i h3, sq_ex g.i h6, k _ H2 Hs2 g S⟩
end

/-! ### targets -/
section
variable {α β γ : Type} {c : Cd α} {d : Cd β} {e3 : Cd γ} {σ : L2.St} {Hs H : Hp} {K : PySem.W.Frag} {R : L2.St → Hp → Prop} {x : V}
theorem g_two {i j : Nat} {ab : α × β} (h : cP c d ab Hs x) (e : Ex Hs H) (k : ∀ u v, c ab.1 Hs u → d ab.2 Hs v → R ((σ.set i (some u)).set j (some v)) H) :
    gTup K 2 (gCons (gName i) (gCons (gName j) gNil)) x σ H R := by
  obtain ⟨a, u, v, h1, h2, h3, h4⟩ := h
  exact ⟨a, [u, v], h1, sqt_ex e h2, rfl, u, [v], rfl, v, [], rfl, rfl, k u v h3 h4⟩
end

/-! ### for -/
section
variable {α : Type} {c : Cd α} {σ : L2.St} {Hs H : Hp} {wi : TI} {src : List α} {g : TG} {tu tz : TS} {D : Ends}
theorem take_snoc {l : List α} {i : Nat} {a : α} (h : l[i]? = some a) : l.take (i + 1) = l.take i ++ [a] ∧ l = l.take i ++ a :: l.drop (i + 1) := by
  obtain ⟨hi, ha⟩ := List.getElem?_eq_some_iff.mp h
  refine ⟨by rw [List.take_add_one, h]; rfl, ?_⟩
  rw [← ha, List.getElem_cons_drop, List.take_append_drop]
theorem s_for (hI : EvI wi σ Hs src c) (e : Ex Hs H)
    (k : ∀ Hs2 H2, Grow Hs H Hs2 H2 → ∃ Pv : List α → L2.St → Hp → Prop, Pv [] σ H2 ∧ (∀ pre σ' H', Pv pre σ' H' → Ex Hs2 H') ∧
      (∀ pre a post x σ' H' Hs'' H'', src = pre ++ a :: post → Pv pre σ' H' → Grow Hs2 H' Hs'' H'' → c a Hs'' x → g x σ' H'' fun σ3 H3 => tu { D with nx := Pv (pre ++ [a]), ct := Pv (pre ++ [a]), bk := D.nx } σ3 H3) ∧
      ∀ σ' H', Pv src σ' H' → D.nx σ' H') : tFor wi g tu D σ H := hI H e _ fun J H2 Hs2 gr S => by
  obtain ⟨Pv, p0, pe, ps, pd⟩ := k Hs2 H2 gr
  obtain ⟨G, Y, W, hG, hY⟩ := S.ex
  refine for_it W (fun i σ' H' => Pv (src.take i) σ' H') (by simpa using p0) (fun i σ' H' _ p => hG H' (pe _ σ' H' p)) (fun i x σ' H' H'' hi p y => ?_) (fun σ' H' p => pd σ' H' (by simpa using p))
  obtain ⟨a, Hs'', ha, g2, ca⟩ := hY i H' x H'' hi (pe _ σ' H' p) y
  obtain ⟨e1, e2⟩ := take_snoc ha
  have q := ps (src.take i) a (src.drop (i + 1)) x σ' H' Hs'' H'' e2 p g2 ca
  rw [← e1] at q
  exact q
theorem q_for (hI : EvI wi σ Hs src c) (e : Ex Hs H)
    (k : ∀ Hs2 H2, Grow Hs H Hs2 H2 → ∃ Pv : List α → L2.St → Hp → Prop, Pv [] σ H2 ∧ (∀ pre σ' H', Pv pre σ' H' → Ex Hs2 H') ∧
      (∀ pre a post x σ' H' Hs'' H'', src = pre ++ a :: post → Pv pre σ' H' → Grow Hs2 H' Hs'' H'' → c a Hs'' x → g x σ' H'' fun σ3 H3 => tu { D with nx := Pv (pre ++ [a]), ct := Pv (pre ++ [a]), bk := tz D } σ3 H3) ∧
      ∀ σ' H', Pv src σ' H' → tz D σ' H') : tSeq (tFor wi g tu) tz D σ H := s_for (D := { D with nx := tz D }) hI e k
end

/-! ### comprehensions -/
section
variable {α β : Type} {c : Cd α} {d : Cd β} {σ : L2.St} {Hs H : Hp} {wi : TI} {src : List α} {g : TG} {tt : TT} {te : TE} {vs : List Nat}
theorem size_lt {n : Nat} (h : n ≤ 40000) : n < sizeLine := Nat.lt_of_le_of_lt h (by decide)
theorem ef_comp [Mo d] (hI : EvI wi σ Hs src c) (p : α → Bool) (f : α → β) (hz : src.length ≤ 40000)
    (hb : ∀ a x Hs', a ∈ src → Ex Hs Hs' → c a Hs' x → ∃ σ2, wipe σ2 vs = wipe σ vs ∧ (∀ H' (R : L2.St → Hp → Prop), Ex Hs' H' → R σ2 H' → g x (wipe σ vs) H' R) ∧ EvT tt σ2 Hs' (p a) ∧ (p a = true → EvC te σ2 Hs' d (f a))) :
    EvFC (tLc wi g tt te vs) σ Hs d ((src.filter p).map f) := fun H e Q q => hI H e _ fun J H2 Hs2 gr S Dl hD => by
  obtain ⟨G, Y, W, hG, hY⟩ := S.ex
  have hDs : Hs2 Dl = none := fresh_back gr.i hD
  refine lc_it W (fun i H' => ∃ Hi acc, Ex Hs2 Hi ∧ Grow Hs2 H2 Hi H' ∧ Hi Dl = none ∧ H' Dl = some (.lst acc) ∧ acc.length ≤ i ∧ Paired (fun b x => d b Hi x) (((src.take i).filter p).map f) acc)
    ⟨Hs2, [], Ex.refl _, Grow.up gr.i (Ex.new hD), hDs, upd_same, Nat.le_refl _, .nil⟩ (fun i H' _ ⟨Hi, _, e1, g1, _⟩ => hG H' (e1.trans g1.i)) (fun i x H' H'' hi ⟨Hi, acc, e1, g1, n1, d1, z1, p1⟩ y => ?_) (fun H' ⟨Hi, acc, e1, g1, n1, d1, z1, p1⟩ => ?_)
  · obtain ⟨a, Hs'', ha, g2, ca⟩ := hY i H' x H'' hi (e1.trans g1.i) y
    have g3 : Grow Hi H' (uni Hi Hs'') H'' := g2.uni e1 g1.i
    have n3 : uni Hi Hs'' Dl = none := g3.f Dl n1 (by rw [d1]; exact fun z => nomatch z)
    have d3 : H'' Dl = some (.lst acc) := g3.b _ _ d1
    obtain ⟨σ2, w2, tg, ht, he⟩ := hb a x Hs'' (List.mem_of_getElem? ha) (gr.s.trans g2.s) ca
    obtain ⟨tk, _⟩ := take_snoc ha
    refine tg H'' _ g2.i ⟨w2, ht H'' g2.i _ fun H3 b3 => ?_⟩
    have gg : Grow Hs2 H2 (uni Hi Hs'') H3 := (g1.trans g3).trans (Grow.up g3.i b3)
    have hg3 : Ex (uni Hi Hs'') H3 := g3.i.trans b3
    have d4 : H3 Dl = some (.lst acc) := b3 _ _ d3
    cases hp : p a with
    | false =>
      refine iteF ⟨uni Hi Hs'', acc, e1.trans g3.s, gg, n3, d4, Nat.le_succ_of_le z1, ?_⟩
      rw [tk, List.filter_append, List.filter_cons, if_neg (by rw [hp]; exact Bool.false_ne_true)]
      rw [show ([] : List α).filter p = [] from rfl, List.append_nil]
      exact paired_mo g3.s p1
    | true =>
      refine iteT ((EvC.lift (he hp) (g2.uniR g1.i)) H3 hg3 _ fun v H4 Hs4 g4 cv => ⟨acc, g4.b _ _ d4, size_lt (by omega), ?_⟩)
      have n4 : Hs4 Dl = none := g4.f Dl n3 (by rw [d4]; exact fun z => nomatch z)
      have g5 : Grow Hs2 H2 Hs4 H4 := gg.trans g4
      refine ⟨Hs4, acc ++ [v], (e1.trans g3.s).trans g4.s, ⟨g5.s, g5.b.mut hD, fun a u h => ?_, g5.f⟩, n4, upd_same, by rw [List.length_append]; exact Nat.succ_le_succ z1, ?_⟩
      · rw [upd_ne (fun z => by rw [z, n4] at h; cases h)]
        exact g4.i a u h
      · rw [tk, List.filter_append, List.map_append, List.filter_cons, if_pos hp]
        exact Paired.snoc (paired_mo (g3.s.trans g4.s) p1) cv
  · rw [List.take_length] at p1
    exact q Dl acc H' Hi (gr.trans g1) (fresh_back gr.b hD) n1 d1 p1
/-- every turn gives -/
theorem ef_map [Mo d] (hI : EvI wi σ Hs src c) (f : α → β) (hz : src.length ≤ 40000)
    (hb : ∀ a x Hs', a ∈ src → Ex Hs Hs' → c a Hs' x → ∃ σ2, wipe σ2 vs = wipe σ vs ∧ (∀ H' (R : L2.St → Hp → Prop), Ex Hs' H' → R σ2 H' → g x (wipe σ vs) H' R) ∧ EvC te σ2 Hs' d (f a)) :
    EvFC (tLc wi g tYes te vs) σ Hs d (src.map f) := by
  have h := ef_comp (tt := tYes) (te := te) (d := d) hI (fun _ => true) f hz fun a x Hs' ha e ca => by
    obtain ⟨σ2, h1, h2, h3⟩ := hb a x Hs' ha e ca
    exact ⟨σ2, h1, h2, fun H1 _ Q q => q H1 (Ex.refl _), fun _ => h3⟩
  rwa [List.filter_eq_self.mpr (fun _ _ => rfl)] at h
end
end LH
namespace LH
open PySem L2 Evl
section
variable {α β γ : Type} {c : Cd α} {d : Cd β} {e3 : Cd γ} {σ : L2.St} {Hs H : Hp} {wi : TI} {src : List α} {tt : TT} {te : TE} {vs : List Nat} {i j : Nat} {K : PySem.W.Frag}
/-- [e for x in l if t] -/
theorem ef_compN [Mo d] (hI : EvI wi σ Hs src c) (p : α → Bool) (f : α → β) (hz : src.length ≤ 40000)
    (hb : ∀ a x Hs', a ∈ src → Ex Hs Hs' → c a Hs' x → EvT tt ((wipe σ vs).set j (some x)) Hs' (p a) ∧ (p a = true → EvC te ((wipe σ vs).set j (some x)) Hs' d (f a)))
    (hw : ∀ x, wipe ((wipe σ vs).set j (some x)) vs = wipe σ vs := by intro _; rfl) : EvFC (tLc wi (gName j) tt te vs) σ Hs d ((src.filter p).map f) :=
  ef_comp hI p f hz fun a x Hs' ha e ca => ⟨_, hw x, fun _ _ _ r => r, hb a x Hs' ha e ca⟩
theorem ef_mapN [Mo d] (hI : EvI wi σ Hs src c) (f : α → β) (hz : src.length ≤ 40000)
    (hb : ∀ a x Hs', a ∈ src → Ex Hs Hs' → c a Hs' x → EvC te ((wipe σ vs).set j (some x)) Hs' d (f a))
    (hw : ∀ x, wipe ((wipe σ vs).set j (some x)) vs = wipe σ vs := by intro _; rfl) : EvFC (tLc wi (gName j) tYes te vs) σ Hs d (src.map f) :=
  ef_map hI f hz fun a x Hs' ha e ca => ⟨_, hw x, fun _ _ _ r => r, hb a x Hs' ha e ca⟩
/-- [x for x in l if t] -/
theorem ef_filter [Mo c] (hI : EvI wi σ Hs src c) (p : α → Bool) (hz : src.length ≤ 40000)
    (hb : ∀ a x Hs', a ∈ src → Ex Hs Hs' → c a Hs' x → EvT tt ((wipe σ vs).set j (some x)) Hs' (p a) ∧ (p a = true → EvC te ((wipe σ vs).set j (some x)) Hs' c a))
    (hw : ∀ x, wipe ((wipe σ vs).set j (some x)) vs = wipe σ vs := by intro _; rfl) : EvFC (tLc wi (gName j) tt te vs) σ Hs c (src.filter p) := by
  have h := ef_compN (f := fun a => a) hI p hz hb hw
  rwa [List.map_id'] at h
/-- [e for x, y in l if t] -/
theorem ef_compT [Mo d] {c1 : Cd α} {c2 : Cd γ} {src : List (α × γ)} (hI : EvI wi σ Hs src (cP c1 c2)) (p : α × γ → Bool) (f : α × γ → β) (hz : src.length ≤ 40000)
    (hb : ∀ a u v Hs', a ∈ src → Ex Hs Hs' → c1 a.1 Hs' u → c2 a.2 Hs' v → EvT tt (((wipe σ vs).set i (some u)).set j (some v)) Hs' (p a) ∧ (p a = true → EvC te (((wipe σ vs).set i (some u)).set j (some v)) Hs' d (f a)))
    (hw : ∀ u v, wipe (((wipe σ vs).set i (some u)).set j (some v)) vs = wipe σ vs := by intro _ _; rfl) : EvFC (tLc wi (gTup K 2 (gCons (gName i) (gCons (gName j) gNil))) tt te vs) σ Hs d ((src.filter p).map f) :=
  ef_comp hI p f hz fun a x Hs' ha e ca => by
    obtain ⟨T, u, w, h1, h2, h3, h4⟩ := ca
    exact ⟨_, hw u w, fun H' R e3 r => ⟨T, _, h1, sqt_ex e3 h2, rfl, u, _, rfl, w, _, rfl, rfl, r⟩, hb a u w Hs' ha e h3 h4⟩
theorem ef_mapT [Mo d] {c1 : Cd α} {c2 : Cd γ} {src : List (α × γ)} (hI : EvI wi σ Hs src (cP c1 c2)) (f : α × γ → β) (hz : src.length ≤ 40000)
    (hb : ∀ a u v Hs', a ∈ src → Ex Hs Hs' → c1 a.1 Hs' u → c2 a.2 Hs' v → EvC te (((wipe σ vs).set i (some u)).set j (some v)) Hs' d (f a))
    (hw : ∀ u v, wipe (((wipe σ vs).set i (some u)).set j (some v)) vs = wipe σ vs := by intro _ _; rfl) : EvFC (tLc wi (gTup K 2 (gCons (gName i) (gCons (gName j) gNil))) tYes te vs) σ Hs d (src.map f) :=
  ef_map hI f hz fun a x Hs' ha e ca => by
    obtain ⟨T, u, w, h1, h2, h3, h4⟩ := ca
    exact ⟨_, hw u w, fun H' R e3 r => ⟨T, _, h1, sqt_ex e3 h2, rfl, u, _, rfl, w, _, rfl, rfl, r⟩, hb a u w Hs' ha e h3 h4⟩
end
end LH

namespace LH
open PySem L2 Evl PyProof.Rows
/-! ### data for the comparisons -/
class Dt {α : Type} (c : Cd α) where
  d : α → PyData
  dp : ∀ {K : PySem.W.Frag} {a : α} {H : Hp} {v : V}, c a H v → Dp K H v (d a)
  lay : ∀ a, (d a).canLay0 = true
  dep : Nat
  depth : ∀ a, (d a).depth ≤ dep
  eqv : ∀ a b, PyData.eqv (d a) (d b) = true ↔ a = b
instance : Dt cI where
  d := .int
  dp := fun h => by cases h; exact .int _
  lay := fun _ => by simp only [PyData.canLay0]
  dep := 0
  depth := fun _ => by simp [PyData.depth]
  eqv := fun a b => by simp [PyData.eqv]
instance : Dt cB where
  d := .bool
  dp := fun h => by cases h; exact .bl _
  lay := fun _ => by simp only [PyData.canLay0]
  dep := 0
  depth := fun _ => by simp [PyData.depth]
  eqv := fun a b => by simp [PyData.eqv]
section
variable {α β : Type} {c : Cd α} {d : Cd β}
theorem dt_all [Dt c] {K : PySem.W.Frag} {H : Hp} : ∀ {l : List α} {xs : List V}, Paired (fun b x => c b H x) l xs → DpAll K H xs (l.map (Dt.d c))
  | _, _, .nil => .nil
  | _, _, .cons h t => .cons (Dt.dp h) (dt_all t)
theorem dt_lay [Dt c] : ∀ l : List α, PyData.canLayAll0 (l.map (Dt.d c)) = true
  | [] => by simp only [List.map_nil, PyData.canLayAll0]
  | x :: r => by simp only [List.map_cons, PyData.canLayAll0, Dt.lay (c := c) x, dt_lay r, Bool.and_self]
theorem dt_depth [Dt c] : ∀ l : List α, PyData.depthAll (l.map (Dt.d c)) ≤ Dt.dep c
  | [] => by simp [PyData.depthAll]
  | x :: r => by
    have h1 := Dt.depth (c := c) x
    have h2 := dt_depth r
    simp only [List.map_cons, PyData.depthAll]
    omega
theorem dt_eqv [Dt c] : ∀ l m : List α, PyData.eqvAll (l.map (Dt.d c)) (m.map (Dt.d c)) = true ↔ l = m
  | [], [] => by simp [PyData.eqvAll]
  | [], _ :: _ => by simp [PyData.eqvAll]
  | _ :: _, [] => by simp [PyData.eqvAll]
  | x :: r, y :: s => by
    simp only [List.map_cons, PyData.eqvAll, Bool.and_eq_true, Dt.eqv (c := c) x y, dt_eqv r s, List.cons.injEq]
instance [Dt c] : Dt (cL c) where
  d := fun l => .list (l.map (Dt.d c))
  dp := fun ⟨_, _, h1, h2, h3⟩ => by rw [h1]; exact .lst (SqL.of h2) (dt_all h3)
  lay := fun l => by simpa only [PyData.canLay0] using dt_lay l
  dep := Dt.dep c + 1
  depth := fun l => by
    have := dt_depth (c := c) l
    simp only [PyData.depth]
    omega
  eqv := fun l m => by simpa only [PyData.eqv] using dt_eqv l m
instance [Dt c] [Dt d] : Dt (cP c d) where
  d := fun p => .tuple [Dt.d c p.1, Dt.d d p.2]
  dp := fun ⟨_, _, _, h1, h2, h3, h4⟩ => by rw [h1]; exact .tup (SqT.of h2) (.cons (Dt.dp h3) (.cons (Dt.dp h4) .nil))
  lay := fun p => by simp [PyData.canLay0, PyData.canLayAll0, Dt.lay (c := c) p.1, Dt.lay (c := d) p.2]
  dep := max (Dt.dep c) (Dt.dep d) + 1
  depth := fun p => by
    have h1 := Dt.depth (c := c) p.1
    have h2 := Dt.depth (c := d) p.2
    simp only [PyData.depth, PyData.depthAll]
    omega
  eqv := fun p q => by
    simp only [PyData.eqv, PyData.eqvAll, Bool.and_true, Bool.and_eq_true, Dt.eqv (c := c), Dt.eqv (c := d)]
    exact ⟨fun h => Prod.ext h.1 h.2, fun h => by rw [h]; exact ⟨rfl, rfl⟩⟩
/-- what is never None -/
class Nn {α : Type} (c : Cd α) [Dt c] : Prop where
  l : ∀ a, PyData.eqv .none (Dt.d c a) = false
  r : ∀ a, PyData.eqv (Dt.d c a) .none = false
instance : Nn cI := ⟨fun _ => by simp [Dt.d, PyData.eqv], fun _ => by simp [Dt.d, PyData.eqv]⟩
instance [Dt c] [Dt d] : Nn (cP c d) := ⟨fun _ => by simp [Dt.d, PyData.eqv], fun _ => by simp [Dt.d, PyData.eqv]⟩
instance [Dt c] : Nn (cL c) := ⟨fun _ => by simp [Dt.d, PyData.eqv], fun _ => by simp [Dt.d, PyData.eqv]⟩
instance [Dt c] [Nn c] : Dt (cO c) where
  d := fun o => match o with | none => .none | some a => Dt.d c a
  dp := fun {K o H v} h => match o, h with | none, h => by cases (show v = .non from h); exact .non | some _, h => Dt.dp (c := c) h
  lay := fun o => match o with | none => by simp only [PyData.canLay0] | some a => Dt.lay (c := c) a
  dep := Dt.dep c
  depth := fun o => match o with | none => by simp [PyData.depth] | some a => Dt.depth (c := c) a
  eqv := fun o q => match o, q with
    | none, none => by simp [PyData.eqv]
    | none, some a => by simp [Nn.l (c := c) a]
    | some a, none => by simp [Nn.r (c := c) a]
    | some a, some b => by simp [Dt.eqv (c := c) a b]
theorem dt_dec [Dt c] [DecidableEq α] (a b : α) : PyData.eqv (Dt.d c a) (Dt.d c b) = decide (a = b) := by
  have h := Dt.eqv (c := c) a b
  cases e : PyData.eqv (Dt.d c a) (Dt.d c b) with
  | true => exact (decide_eq_true (h.mp e)).symm
  | false => exact (decide_eq_false fun z => by rw [h.mpr z] at e; cases e).symm
end

/-! ### the operators by which the text is read -/
def rAddI : R2 := rI0 fun i j => .int (i + j)
def rSubI : R2 := rI0 fun i j => .int (i - j)
def rMulI : R2 := rI IntMulOk fun i j => .int (i * j)
def rDivI : R2 := rI CDivW fun i j => .int (i / j)
def rModI : R2 := rI (fun _ j => 0 < j) fun i j => .int (i % j)
def rPowI : R2 := rI CPow fun i j => .int (i ^ j.toNat)
def rShlI : R2 := rI CPow fun i j => .int (i * 2 ^ j.toNat)
def rLtI : R2 := rI0 fun i j => .bl (decide (i < j))
def rLeI : R2 := rI0 fun i j => .bl (decide (i ≤ j))
def rGtI : R2 := rI0 fun i j => .bl (decide (j < i))
def rGeI : R2 := rI0 fun i j => .bl (decide (j ≤ i))
def rEqA (K : PySem.W.Frag) : R2 := fun x y H Q => rEq x y H Q ∨ rEqD K x y H Q
def rNeA (K : PySem.W.Frag) : R2 := fun x y H Q => rNe x y H Q ∨ rNeD K x y H Q
def rIsN : R2 := fun x y H Q => y = .non ∧ Q (.bl (decide (x = .non))) H
def rNotN : R2 := fun x y H Q => y = .non ∧ Q (.bl (!decide (x = .non))) H
def rNegU : V → Hp → VK → Prop := rU fun i => .int (-i)
section
variable {X : Cx}
theorem op_addI : OpR X (binaryOp .Add) rAddI := op_add
theorem op_subI : OpR X (binaryOp .Sub) rSubI := op_sub
theorem op_mulI : OpR X (binaryOp .Mult) rMulI := opI fun _ _ _ _ _ _ _ hc q => mul_int q hc
theorem op_divI : OpR X (binaryOp .FloorDiv) rDivI := op_fdivW
theorem op_modI : OpR X (binaryOp .Mod) rModI := op_mod
theorem op_powI : OpR X (binaryOp .Pow) rPowI := op_pow
theorem op_shlI : OpR X (binaryOp .LShift) rShlI := op_shl
theorem op_ltI : OpR X (compareOp .Lt) rLtI := op_lt
theorem op_leI : OpR X (compareOp .LtE) rLeI := op_le
theorem op_gtI : OpR X (compareOp .Gt) rGtI := op_gt
theorem op_geI : OpR X (compareOp .GtE) rGeI := op_ge
theorem op_eqA (hu : X.A.units + 64 < cLine) : OpR X (compareOp .Eq) (rEqA X.K) := op_eq.or (op_eqD hu)
theorem op_neA (hu : X.A.units + 64 < cLine) : OpR X (compareOp .NotEq) (rNeA X.K) := op_ne.or (op_neD hu)
theorem op_isNone : OpR X (compareOp .Is) rIsN := op_isN
theorem op_notNone : OpR X (compareOp .IsNot) rNotN := op_notN
theorem un_negU : UnR X (unaryOp .USub) rNegU := un_neg
end
/-- [..] + [..] of lists that stand -/
def rCatL (K : PySem.W.Frag) : R2 := fun x y H Q => ∃ l b xs zs, x = .ref l ∧ y = .ref b ∧ H l = some (.lst xs) ∧ H b = some (.lst zs) ∧ xs.length + zs.length ≤ sizeLine ∧ ∀ p, H p = none → Q (.ref p) (upd H p (.lst (xs ++ zs)))
theorem op_catL {X : Cx} : OpR X (binaryOp .Add) (rCatL X.K) := op_cat

section
variable {α β : Type} {c : Cd α} {d : Cd β} {σ : L2.St} {Hs H : Hp} {te ta tb tc : TE} {targ : TA} {x y v : V} {K : PySem.W.Frag} {i j : Int} {b k : Bool}
theorem ev_add (ha : Ev ta σ H (.int i)) (hb : Ev tb σ H (.int j)) : Ev (tOp rAddI ta tb) σ H (.int (i + j)) := ev_op ha hb rv_I0
theorem ev_sub (ha : Ev ta σ H (.int i)) (hb : Ev tb σ H (.int j)) : Ev (tOp rSubI ta tb) σ H (.int (i - j)) := ev_op ha hb rv_I0
theorem ev_mul (ha : Ev ta σ H (.int i)) (hb : Ev tb σ H (.int j)) (h : IntMulOk i j) : Ev (tOp rMulI ta tb) σ H (.int (i * j)) := ev_op ha hb (rv_I h)
theorem ev_div (ha : Ev ta σ H (.int i)) (hb : Ev tb σ H (.int j)) (h : CDivW i j) : Ev (tOp rDivI ta tb) σ H (.int (i / j)) := ev_op ha hb (rv_I h)
theorem ev_mod (ha : Ev ta σ H (.int i)) (hb : Ev tb σ H (.int j)) (h : 0 < j) : Ev (tOp rModI ta tb) σ H (.int (i % j)) := ev_op ha hb (rv_I h)
theorem ev_pow (ha : Ev ta σ H (.int i)) (hb : Ev tb σ H (.int j)) (h : CPow i j) : Ev (tOp rPowI ta tb) σ H (.int (i ^ j.toNat)) := ev_op ha hb (rv_I h)
theorem ev_shl (ha : Ev ta σ H (.int i)) (hb : Ev tb σ H (.int j)) (h : CPow i j) : Ev (tOp rShlI ta tb) σ H (.int (i * 2 ^ j.toNat)) := ev_op ha hb (rv_I h)
theorem ev_lt (ha : Ev ta σ H (.int i)) (hb : Ev tb σ H (.int j)) : Ev (tOp rLtI ta tb) σ H (.bl (decide (i < j))) := ev_op ha hb rv_I0
theorem ev_le (ha : Ev ta σ H (.int i)) (hb : Ev tb σ H (.int j)) : Ev (tOp rLeI ta tb) σ H (.bl (decide (i ≤ j))) := ev_op ha hb rv_I0
theorem ev_gt (ha : Ev ta σ H (.int i)) (hb : Ev tb σ H (.int j)) : Ev (tOp rGtI ta tb) σ H (.bl (decide (j < i))) := ev_op ha hb rv_I0
theorem ev_ge (ha : Ev ta σ H (.int i)) (hb : Ev tb σ H (.int j)) : Ev (tOp rGeI ta tb) σ H (.bl (decide (j ≤ i))) := ev_op ha hb rv_I0
theorem ev_neg (ha : Ev ta σ H (.int i)) : Ev (tUn rNegU ta) σ H (.int (-i)) := ev_un ha ru_neg
theorem ev_to {u : V} (h : Ev te σ H v) (e : v = u) : Ev te σ H u := e ▸ h
theorem int_dec : decide (V.int i = V.int j) = decide (i = j) := by
  by_cases h : i = j
  · rw [h]; simp
  · rw [decide_eq_false h, decide_eq_false fun z => h (V.int.inj z)]
theorem bl_dec : decide (V.bl b = V.bl k) = decide (b = k) := by
  by_cases h : b = k
  · rw [h]; simp
  · rw [decide_eq_false h, decide_eq_false fun z => h (V.bl.inj z)]
theorem ev_eqS (ha : Ev ta σ H x) (hb : Ev tb σ H y) (h : scal x y = true) : Ev (tOp (rEqA K) ta tb) σ H (.bl (decide (x = y))) := ev_op ha hb fun H1 e Q q => .inl ⟨h, q H1 (Ex.refl _)⟩
theorem ev_neS (ha : Ev ta σ H x) (hb : Ev tb σ H y) (h : scal x y = true) : Ev (tOp (rNeA K) ta tb) σ H (.bl (!decide (x = y))) := ev_op ha hb fun H1 e Q q => .inl ⟨h, q H1 (Ex.refl _)⟩
theorem ev_eqI (ha : Ev ta σ H (.int i)) (hb : Ev tb σ H (.int j)) : Ev (tOp (rEqA K) ta tb) σ H (.bl (decide (i = j))) := int_dec ▸ ev_eqS ha hb rfl
theorem ev_neI (ha : Ev ta σ H (.int i)) (hb : Ev tb σ H (.int j)) : Ev (tOp (rNeA K) ta tb) σ H (.bl (!decide (i = j))) := int_dec ▸ ev_neS ha hb rfl
theorem ev_eqB (ha : Ev ta σ H (.bl b)) (hb : Ev tb σ H (.bl k)) : Ev (tOp (rEqA K) ta tb) σ H (.bl (decide (b = k))) := bl_dec ▸ ev_eqS ha hb rfl
theorem ev_neB (ha : Ev ta σ H (.bl b)) (hb : Ev tb σ H (.bl k)) : Ev (tOp (rNeA K) ta tb) σ H (.bl (!decide (b = k))) := bl_dec ▸ ev_neS ha hb rfl
theorem shaped_of [Dt c] (h : Dt.dep c ≤ 64) (a : α) : SeqAt.shaped (Dt.d c a) = true := by
  unfold SeqAt.shaped
  rw [Dt.lay (c := c) a, Bool.true_and]
  exact decide_eq_true (Nat.le_trans (Dt.depth (c := c) a) h)
theorem ev_eqC [Mo c] [Dt c] [DecidableEq α] {a a' : α} (ha : EvC ta σ Hs c a) (hb : EvC tb σ Hs c a') (h : Dt.dep c ≤ 64 := by decide) : Ev (tOp (rEqA K) ta tb) σ Hs (.bl (decide (a = a'))) :=
  ev_opP ha (fun _ _ _ e p => Mo.mo e p) hb (fun _ _ _ e p => Mo.mo e p) fun x y Hs1 _ p q H e Q k => .inr ⟨_, _, Dt.dp (Mo.mo e p), Dt.dp (Mo.mo e q), shaped_of h a, shaped_of h a', by rw [dt_dec]; exact k H (Ex.refl _)⟩
theorem ev_neC [Mo c] [Dt c] [DecidableEq α] {a a' : α} (ha : EvC ta σ Hs c a) (hb : EvC tb σ Hs c a') (h : Dt.dep c ≤ 64 := by decide) : Ev (tOp (rNeA K) ta tb) σ Hs (.bl (!decide (a = a'))) :=
  ev_opP ha (fun _ _ _ e p => Mo.mo e p) hb (fun _ _ _ e p => Mo.mo e p) fun x y Hs1 _ p q H e Q k => .inr ⟨_, _, Dt.dp (Mo.mo e p), Dt.dp (Mo.mo e q), shaped_of h a, shaped_of h a', by rw [dt_dec]; exact k H (Ex.refl _)⟩
theorem ev_isN (ha : Ev ta σ H x) : Ev (tOp rIsN ta (tC .non)) σ H (.bl (decide (x = .non))) := ev_op ha ev_c fun H1 _ Q q => ⟨rfl, q H1 (Ex.refl _)⟩
theorem ev_notN (ha : Ev ta σ H x) : Ev (tOp rNotN ta (tC .non)) σ H (.bl (!decide (x = .non))) := ev_op ha ev_c fun H1 _ Q q => ⟨rfl, q H1 (Ex.refl _)⟩
theorem ev_isNP {P : V → Hp → Prop} (ha : EvP ta σ Hs P) (h : ∀ v H, P v H → decide (v = .non) = b) : Ev (tOp rIsN ta (tC .non)) σ Hs (.bl b) := fun H e Q q =>
  ha H e _ fun v H2 Hs2 g p => ⟨rfl, by rw [h v Hs2 p]; exact q H2 g.b⟩
theorem ev_notNP {P : V → Hp → Prop} (ha : EvP ta σ Hs P) (h : ∀ v H, P v H → decide (v = .non) = b) : Ev (tOp rNotN ta (tC .non)) σ Hs (.bl (!b)) := fun H e Q q =>
  ha H e _ fun v H2 Hs2 g p => ⟨rfl, by rw [h v Hs2 p]; exact q H2 g.b⟩
/-- a < b < c -/
theorem ev_chain {r r' : R2} {z : V} {k m : Bool} (ha : Ev ta σ H x) (hb : Ev tb σ H y) (hr : RV r x y H (.bl k)) (hc : k = true → Ev tc σ H z) (hr' : k = true → RV r' y z H (.bl m)) : Ev (tChain r r' ta tb tc) σ H (.bl (k && m)) := fun H1 e Q q =>
  ha H1 e _ fun H2 e2 => hb H2 (e.trans e2) _ fun H3 e3 => hr H3 ((e.trans e2).trans e3) _ fun H4 e4 => ⟨k, rfl, by
    cases k with
    | false => exact iteF (q H4 ((e2.trans e3).trans e4))
    | true =>
      have e' := ((e.trans e2).trans e3).trans e4
      exact iteT (hc rfl H4 e' _ fun H5 e5 => hr' rfl H5 (e'.trans e5) Q fun H6 e6 => q H6 ((((e2.trans e3).trans e4).trans e5).trans e6))⟩
theorem rv_I0' {g : Int → Int → V} : RV (rI0 g) (.int i) (.int j) H (g i j) := rv_I0
/-! in -/
theorem flat_ints (l : List Int) : (l.map V.int).all flatV = true := by
  rw [List.all_map]
  exact List.all_eq_true.mpr fun _ _ => rfl
theorem inV_ints : ∀ {n : Int} {l : List Int}, inV (.int n) (l.map V.int) = decide (n ∈ l)
  | n, [] => by simp [inV]
  | n, m :: l => by
    have ih := inV_ints (n := n) (l := l)
    have e : eqV (.int m) (.int n) = (m == n) := rfl
    show (eqV (.int m) (.int n) || inV (.int n) (l.map V.int)) = _
    rw [ih, e]
    by_cases h : n = m
    · subst h; simp
    · have h' : (m == n) = false := by simpa using fun z => h z.symm
      rw [h']
      simp [h]
theorem ev_in {l : List Int} (ha : Ev ta σ Hs (.int i)) (hb : EvC tb σ Hs (cL cI) l) : Ev (tOp (rIn K false) ta tb) σ Hs (.bl (decide (i ∈ l))) := fun H e Q q =>
  ha H e _ fun H2 e2 => hb H2 (e.trans e2) _ fun v H3 Hs3 g p => by
    obtain ⟨a, rfl, h2⟩ := cL_ints p
    refine ⟨a, _, rfl, .inl (sq_ex g.i h2), rfl, flat_ints l, ?_⟩
    show Q (.bl (inV (.int i) (l.map V.int))) H3
    rw [inV_ints]
    exact q H3 (e2.trans g.b)
theorem ev_notIn {l : List Int} (ha : Ev ta σ Hs (.int i)) (hb : EvC tb σ Hs (cL cI) l) : Ev (tOp (rIn K true) ta tb) σ Hs (.bl (!decide (i ∈ l))) := fun H e Q q =>
  ha H e _ fun H2 e2 => hb H2 (e.trans e2) _ fun v H3 Hs3 g p => by
    obtain ⟨a, rfl, h2⟩ := cL_ints p
    refine ⟨a, _, rfl, .inl (sq_ex g.i h2), rfl, flat_ints l, ?_⟩
    show Q (.bl (!inV (.int i) (l.map V.int))) H3
    rw [inV_ints]
    exact q H3 (e2.trans g.b)
/-! items -/
theorem ep_ixL {l : List α} {a : α} {n : Nat} [Mo c] (ha : EvC ta σ Hs (cL c) l) (hb : Ev tb σ Hs (.int (n : Int))) (h : l[n]? = some a) : EvC (tOp (rIx K) ta tb) σ Hs c a := fun H e Q q =>
  ha H e _ fun v H2 Hs2 g ⟨p, xs, h1, h2, h3⟩ => hb H2 (e.trans g.b) _ fun H3 e3 => by
    obtain ⟨x, hx, cx⟩ := Paired.at2 h3 h
    exact .inl ⟨p, xs, n, x, h1, rfl, sq_ex (g.i.trans e3) h2, atI_nat hx, q x H3 Hs2 (g.trans (Grow.up g.i e3)) cx⟩
theorem ep_ixLast {l : List α} {a : α} [Mo c] (ha : EvC ta σ Hs (cL c) (l ++ [a])) (hb : Ev tb σ Hs (.int (-1))) : EvC (tOp (rIx K) ta tb) σ Hs c a := fun H e Q q =>
  ha H e _ fun v H2 Hs2 g ⟨p, xs, h1, h2, h3⟩ => hb H2 (e.trans g.b) _ fun H3 e3 => by
    obtain ⟨x, hx, cx⟩ := Paired.at2 h3 (i := l.length) (a := a) (by simp)
    have hl : xs.length = l.length + 1 := by rw [← h3.length]; simp
    have ex : xs = xs.dropLast ++ [x] := by
      have hne : xs ≠ [] := fun z => by rw [z] at hl; simp at hl
      have e1 : xs.getLast hne = x := by
        rw [List.getLast_eq_getElem]
        have := (List.getElem?_eq_some_iff.mp hx).2
        simpa [hl] using this
      rw [← e1]
      exact (List.dropLast_concat_getLast hne).symm
    have hA : atI xs (-1) = some x := by
      rw [ex]
      exact atI_last _ _
    exact .inl ⟨p, xs, -1, x, h1, rfl, sq_ex (g.i.trans e3) h2, hA, q x H3 Hs2 (g.trans (Grow.up g.i e3)) cx⟩
theorem ep_ixQ {l : List α} {a : α} {n : Nat} [Mo c] (ha : EvC ta σ Hs (cQ c) l) (hb : Ev tb σ Hs (.int (n : Int))) (h : l[n]? = some a) : EvC (tOp (rIx K) ta tb) σ Hs c a := fun H e Q q =>
  ha H e _ fun v H2 Hs2 g ⟨p, xs, h1, h2, h3⟩ => hb H2 (e.trans g.b) _ fun H3 e3 => by
    obtain ⟨x, hx, cx⟩ := Paired.at2 h3 h
    exact .inr (.inl ⟨p, xs, n, x, h1, rfl, sqt_ex (g.i.trans e3) h2, atI_nat hx, q x H3 Hs2 (g.trans (Grow.up g.i e3)) cx⟩)
theorem ep_fst {p : α × β} (ha : EvC ta σ Hs (cP c d) p) (hb : Ev tb σ Hs (.int 0)) : EvC (tOp (rIx K) ta tb) σ Hs c p.1 := fun H e Q q =>
  ha H e _ fun v H2 Hs2 g ⟨a, x, y, h1, h2, h3, h4⟩ => hb H2 (e.trans g.b) _ fun H3 e3 =>
    .inr (.inl ⟨a, [x, y], 0, x, h1, rfl, sqt_ex (g.i.trans e3) h2, atI_nat (j := 0) rfl, q x H3 Hs2 (g.trans (Grow.up g.i e3)) h3⟩)
theorem ep_snd {p : α × β} (ha : EvC ta σ Hs (cP c d) p) (hb : Ev tb σ Hs (.int 1)) : EvC (tOp (rIx K) ta tb) σ Hs d p.2 := fun H e Q q =>
  ha H e _ fun v H2 Hs2 g ⟨a, x, y, h1, h2, h3, h4⟩ => hb H2 (e.trans g.b) _ fun H3 e3 =>
    .inr (.inl ⟨a, [x, y], 1, y, h1, rfl, sqt_ex (g.i.trans e3) h2, atI_nat (j := 1) rfl, q y H3 Hs2 (g.trans (Grow.up g.i e3)) h4⟩)
theorem evI_c (h : EvC te σ Hs cI i) : Ev te σ Hs (.int i) := ev_ep h
theorem evB_c (h : EvC te σ Hs cB b) : Ev te σ Hs (.bl b) := ev_ep h
theorem c_evI (h : Ev te σ Hs (.int i)) : EvC te σ Hs cI i := ep_ev h rfl
theorem c_evB (h : Ev te σ Hs (.bl b)) : EvC te σ Hs cB b := ep_ev h rfl
/-! slices of lists -/
theorem sIx_le' (n k : Nat) : HT.sIx n 0 (some (k : Int)) = min k n := HT.sIx_nat n 0 k
theorem cut_to (xs : List V) (k : Nat) : cutV xs none (some (k : Int)) = xs.take k := by
  unfold cutV
  rw [HT.sIx_none, HT.sIx_nat, List.drop_zero, Nat.sub_zero, List.take_eq_take_iff]
  omega
theorem cut_from (xs : List V) (k : Nat) : cutV xs (some (k : Int)) none = xs.drop k := by
  unfold cutV
  rw [HT.sIx_none, HT.sIx_nat]
  by_cases h : k ≤ xs.length
  · rw [Nat.min_eq_left h]
    exact List.take_of_length_le (by rw [List.length_drop]; exact Nat.le_refl _)
  · rw [Nat.min_eq_right (by omega), List.drop_eq_nil_of_le (Nat.le_refl _), List.drop_eq_nil_of_le (by omega), List.take_nil]
theorem Paired.cut {F : α → V → Prop} : ∀ {l : List α} {xs : List V} (n : Nat), Paired F l xs → Paired F (l.take n) (xs.take n)
  | _, _, 0, _ => by rw [List.take_zero, List.take_zero]; exact .nil
  | _, _, _ + 1, .nil => .nil
  | _, _, n + 1, .cons h t => .cons h (Paired.cut n t)
theorem Paired.rest {F : α → V → Prop} : ∀ {l : List α} {xs : List V} (n : Nat), Paired F l xs → Paired F (l.drop n) (xs.drop n)
  | _, _, 0, h => h
  | _, _, _ + 1, .nil => .nil
  | _, _, n + 1, .cons h t => Paired.rest n t
theorem ef_sl {l m : List α} {lo hi : Option Int} {tl th : TO} (ha : EvC ta σ Hs (cL c) l) (h1 : EvO tl σ Hs lo) (h2 : EvO th σ Hs hi) (h : ∀ xs : List V, ∀ H : Hp, Paired (fun b x => c b H x) l xs → Paired (fun b x => c b H x) m (cutV xs lo hi)) : EvFC (tSl (rSlL K) ta tl th) σ Hs c m := fun H e Q q =>
  ha H e _ fun v H2 Hs2 g ⟨a, xs, e1, e2, e3⟩ => h1 H2 (e.trans g.b) _ fun H3 b3 => h2 H3 ((e.trans g.b).trans b3) _ fun H4 b4 => ⟨a, xs, e1, sq_ex ((g.i.trans b3).trans b4) e2, fun p hp => by
    have gg : Grow Hs H Hs2 H4 := g.trans (Grow.up g.i (b3.trans b4))
    refine q p _ (upd H4 p _) Hs2 (gg.trans (Grow.up gg.i (Ex.new hp))) (fresh_back gg.b hp) (fresh_back gg.i hp) upd_same (h xs Hs2 e3)⟩
theorem ef_to {l : List α} {n : Nat} {th : TE} (ha : EvC ta σ Hs (cL c) l) (h2 : Ev th σ Hs (.int (n : Int))) : EvFC (tSl (rSlL K) ta tNoPart (tPart th)) σ Hs c (l.take n) :=
  ef_sl ha eo_none (eo_some h2) fun xs H p => by rw [cut_to]; exact Paired.cut n p
theorem ef_from {l : List α} {n : Nat} {tl : TE} (ha : EvC ta σ Hs (cL c) l) (h2 : Ev tl σ Hs (.int (n : Int))) : EvFC (tSl (rSlL K) ta (tPart tl) tNoPart) σ Hs c (l.drop n) :=
  ef_sl ha (eo_some h2) eo_none fun xs H p => by rw [cut_from]; exact Paired.rest n p
/-! displays -/
theorem ef_nil : EvFC (tLst tNil) σ Hs c [] := fun H e Q q => ⟨Nat.zero_le _, fun p hp => q p [] _ Hs (Grow.up e (Ex.new hp)) hp (fresh_back e hp) upd_same .nil⟩
theorem ef_lst {P : List V → Hp → Prop} (h : EvAs targ σ Hs P) (hl : ∀ vs H, P vs H → vs.length ≤ 40000) : EvF (tLst targ) σ Hs P := fun H e Q q => h H e _ fun vs H2 Hs2 g p =>
  ⟨Nat.le_of_lt (size_lt (hl vs Hs2 p)), fun a ha => q a vs _ Hs2 (g.trans (Grow.up g.i (Ex.new ha))) (fresh_back g.b ha) (fresh_back g.i ha) upd_same p⟩
theorem ep_tup {P : List V → Hp → Prop} (h : EvAs targ σ Hs P) (hl : ∀ vs H, P vs H → vs.length ≤ 40000) : EvP (tTup targ) σ Hs fun v H => ∃ a vs H0, v = .ref a ∧ H a = some (.tup vs) ∧ Ex H0 H ∧ P vs H0 := fun H e Q q => h H e _ fun vs H2 Hs2 g p =>
  ⟨Nat.le_of_lt (size_lt (hl vs Hs2 p)), fun a ha => by
    have gg := g.trans (Grow.new (o := .tup vs) g.i ha)
    exact q (.ref a) _ (upd Hs2 a (.tup vs)) gg ⟨a, vs, Hs2, rfl, upd_same, Ex.new (fresh_back g.i ha), p⟩⟩
/-- (a, b) -/
theorem ep_pair {a : α} {b : β} [Mo c] [Mo d] (h1 : EvC ta σ Hs c a) (h2 : EvC tb σ Hs d b) : EvC (tTup (tCons ta (tCons tb tNil))) σ Hs (cP c d) (a, b) := by
  have h := ep_tup (σ := σ) (Hs := Hs) (as_cons h1 (fun _ _ _ e p => Mo.mo e p) fun Hs1 e => as_cons (EvC.lift h2 e) (fun _ _ _ e p => Mo.mo e p) fun _ _ => as_nil) (fun vs H p => by
    obtain ⟨v, r, rfl, _, w, r2, rfl, _, rfl⟩ := p
    show 2 ≤ 40000
    decide)
  refine h.imp fun v H e p => ?_
  obtain ⟨p, vs, H0, rfl, h3, h4, u, r, rfl, cu, w, r2, rfl, cw, rfl⟩ := p
  exact ⟨p, u, w, rfl, h3, Mo.mo h4 cu, Mo.mo h4 cw⟩
/-! built-ins -/
def rLenA (K : PySem.W.Frag) : List V → Hp → VK → Prop := fun xs H Q => ∃ p ys, xs = [.ref p] ∧ (SqL K H p ys ∨ SqT K H p ys) ∧ Q (.int ys.length) H
theorem ev_lenC {l : List α} (ha : EvC ta σ Hs (cL c) l) : Ev (tCB (rLenA K) (tCons ta tNil)) σ Hs (.int (l.length : Int)) := fun H e Q q => ha H e _ fun v H2 Hs2 g ⟨p, xs, h1, h2, h3⟩ =>
  ⟨p, xs, by rw [h1], .inl (sq_ex g.i h2), by rw [← h3.length]; exact q H2 g.b⟩
theorem ev_lenQ {l : List α} (ha : EvC ta σ Hs (cQ c) l) : Ev (tCB (rLenA K) (tCons ta tNil)) σ Hs (.int (l.length : Int)) := fun H e Q q => ha H e _ fun v H2 Hs2 g ⟨p, xs, h1, h2, h3⟩ =>
  ⟨p, xs, by rw [h1], .inr (sqt_ex g.i h2), by rw [← h3.length]; exact q H2 g.b⟩
theorem ev_sum {l : List Int} (ha : EvC ta σ Hs (cL cI) l) : Ev (tCB (rSum K) (tCons ta tNil)) σ Hs (.int l.sum) := fun H e Q q => ha H e _ fun v H2 Hs2 g p => by
  obtain ⟨a, rfl, h2⟩ := cL_ints p
  exact ⟨a, l, rfl, sq_ex g.i h2, q H2 g.b⟩
theorem bls_of {l : List Bool} {H : Hp} {v : V} (h : cL cB l H v) : ∃ a, v = .ref a ∧ H a = some (.lst (l.map V.bl)) := by
  obtain ⟨a, xs, h1, h2, h3⟩ := h
  exact ⟨a, h1, by rw [h2, paired_bls h3]⟩
theorem ev_any {l : List Bool} (ha : EvC ta σ Hs (cL cB) l) : Ev (tCB (rAny K) (tCons ta tNil)) σ Hs (.bl (l.any id)) := fun H e Q q => ha H e _ fun v H2 Hs2 g p => by
  obtain ⟨a, rfl, h2⟩ := bls_of p
  exact ⟨a, l, rfl, sq_ex g.i h2, q H2 g.b⟩
theorem ev_all {l : List Bool} (ha : EvC ta σ Hs (cL cB) l) : Ev (tCB (rAll K) (tCons ta tNil)) σ Hs (.bl (l.all id)) := fun H e Q q => ha H e _ fun v H2 Hs2 g p => by
  obtain ⟨a, rfl, h2⟩ := bls_of p
  exact ⟨a, l, rfl, sq_ex g.i h2, q H2 g.b⟩
def rMaxI : List V → Hp → VK → Prop := fun xs H Q => ∃ i j, xs = [.int i, .int j] ∧ Q (.int (if j > i then j else i)) H
theorem ev_maxI (ha : Ev ta σ H (.int i)) (hb : Ev tb σ H (.int j)) : Ev (tCB rMaxI (tCons ta (tCons tb tNil))) σ H (.int (if j > i then j else i)) := fun H1 e Q q =>
  ha H1 e _ fun H2 e2 => hb H2 (e.trans e2) _ fun H3 e3 => ⟨i, j, rfl, q H3 (e2.trans e3)⟩
theorem ev_gcd (ha : Ev ta σ H (.int i)) (hb : Ev tb σ H (.int j)) : Ev (tCB rGcd (tCons ta (tCons tb tNil))) σ H (.int ((Nat.gcd i.natAbs j.natAbs : Nat) : Int)) := fun H1 e Q q =>
  ha H1 e _ fun H2 e2 => hb H2 (e.trans e2) _ fun H3 e3 => ⟨i, j, rfl, q H3 (e2.trans e3)⟩
def rListA (K : PySem.W.Frag) : List V → Hp → VK → Prop := fun xs H Q => ∃ p ys, xs = [.ref p] ∧ (SqL K H p ys ∨ SqT K H p ys) ∧ ∀ l, H l = none → Q (.ref l) (upd H l (.lst ys))
theorem ef_list {l : List α} (ha : EvC ta σ Hs (cL c) l) : EvFC (tCB (rListA K) (tCons ta tNil)) σ Hs c l := fun H e Q q => ha H e _ fun v H2 Hs2 g ⟨p, xs, h1, h2, h3⟩ =>
  ⟨p, xs, by rw [h1], .inl (sq_ex g.i h2), fun a ha => q a xs _ Hs2 (g.trans (Grow.up g.i (Ex.new ha))) (fresh_back g.b ha) (fresh_back g.i ha) upd_same h3⟩
theorem ef_listQ {l : List α} (ha : EvC ta σ Hs (cQ c) l) : EvFC (tCB (rListA K) (tCons ta tNil)) σ Hs c l := fun H e Q q => ha H e _ fun v H2 Hs2 g ⟨p, xs, h1, h2, h3⟩ =>
  ⟨p, xs, by rw [h1], .inr (sqt_ex g.i h2), fun a ha => q a xs _ Hs2 (g.trans (Grow.up g.i (Ex.new ha))) (fresh_back g.b ha) (fresh_back g.i ha) upd_same h3⟩
/-- sorted(set(l)) -/
theorem ef_sortedSet {w : World} {l : List Int} (ha : EvC ta σ Hs (cL cI) l) (h : (dd l).length < 64) (hl : l.length ≤ 4000) : EvF (tCB (rSortedSet w) (tCons (tCB (rSetOf K w) (tCons ta tNil)) tNil)) σ Hs fun xs _ => ∃ ns : List Int, xs = ns.map V.int ∧ ns.Pairwise (· < ·) ∧ ∀ k, k ∈ ns ↔ k ∈ l := fun H e Q q => ha H e _ fun v H2 Hs2 g p => by
  obtain ⟨a, rfl, h2⟩ := cL_ints p
  refine ⟨a, l, rfl, sq_ex g.i h2, hl, fun s hs => ⟨s, _, _, rfl, upd_same, h, fun ns r hp hm _ hr => ?_⟩⟩
  have g2 : Grow Hs H Hs2 (upd H2 s (SetO w s (fun j => decide (j ∈ l)) (dd l).length)) := g.trans (Grow.up g.i (Ex.new hs))
  exact q r _ _ Hs2 (g2.trans (Grow.up g2.i (Ex.new hr))) (fresh_back g2.b hr) (fresh_back g2.i hr) upd_same ⟨ns, rfl, hp, fun k => (hm k).trans decide_eq_true_iff⟩
/-- len(set(l)) -/
theorem ev_lenSet {w : World} {l : List Int} (ha : EvC ta σ Hs (cL cI) l) (hl : l.length ≤ 4000) : Ev (tCB (rLenSet w) (tCons (tCB (rSetOf K w) (tCons ta tNil)) tNil)) σ Hs (.int ((dd l).length : Nat)) := fun H e Q q => ha H e _ fun v H2 Hs2 g p => by
  obtain ⟨a, rfl, h2⟩ := cL_ints p
  exact ⟨a, l, rfl, sq_ex g.i h2, hl, fun s hs => ⟨s, _, _, rfl, upd_same, q _ (g.b.trans (Ex.new hs))⟩⟩
end
end LH

namespace LH
open PySem L2 Evl PyProof.Rows
/-! ### statements -/
section
variable {α β : Type} {c : Cd α} {d : Cd β} {σ : L2.St} {Hs H : Hp} {te ta tb : TE} {tt : TT} {v w : V} {P : V → Hp → Prop} {K : PySem.W.Frag} {D : Ends} {tz tu tw : TS} {i j : Nat} {b : Bool}
theorem q_set (h : Ev te σ Hs v) (e : Ex Hs H) (k : ∀ H2, Ex H H2 → tz D (σ.set i (some v)) H2) : tSeq (tAsg te (gName i)) tz D σ H := h H e _ k
theorem s_set (h : Ev te σ Hs v) (e : Ex Hs H) (k : ∀ H2, Ex H H2 → D.nx (σ.set i (some v)) H2) : tAsg te (gName i) D σ H := h H e _ k
theorem q_setP (h : EvP te σ Hs P) (e : Ex Hs H) (k : ∀ v H2 Hs2, Grow Hs H Hs2 H2 → P v Hs2 → tz D (σ.set i (some v)) H2) : tSeq (tAsg te (gName i)) tz D σ H := h H e _ k
theorem s_setP (h : EvP te σ Hs P) (e : Ex Hs H) (k : ∀ v H2 Hs2, Grow Hs H Hs2 H2 → P v Hs2 → D.nx (σ.set i (some v)) H2) : tAsg te (gName i) D σ H := h H e _ k
theorem q_setF {P : List V → Hp → Prop} (h : EvF te σ Hs P) (e : Ex Hs H) (k : ∀ p xs H2 Hs2, Grow Hs H Hs2 H2 → H p = none → Hs2 p = none → H2 p = some (.lst xs) → P xs Hs2 → tz D (σ.set i (some (.ref p))) H2) : tSeq (tAsg te (gName i)) tz D σ H := h H e _ k
theorem q_par (h1 : Ev ta σ Hs v) (h2 : Ev tb σ Hs w) (e : Ex Hs H) (k : ∀ H2, Ex H H2 → tz D ((σ.set i (some v)).set j (some w)) H2) : tSeq (tPar i j (tCons ta (tCons tb tNil))) tz D σ H :=
  h1 H e _ fun H2 e2 => h2 H2 (e.trans e2) _ fun H3 e3 => ⟨v, w, rfl, k H3 (e2.trans e3)⟩
theorem s_par (h1 : Ev ta σ Hs v) (h2 : Ev tb σ Hs w) (e : Ex Hs H) (k : ∀ H2, Ex H H2 → D.nx ((σ.set i (some v)).set j (some w)) H2) : tPar i j (tCons ta (tCons tb tNil)) D σ H :=
  h1 H e _ fun H2 e2 => h2 H2 (e.trans e2) _ fun H3 e3 => ⟨v, w, rfl, k H3 (e2.trans e3)⟩
/-- a, b = [..], [..] : two new lists -/
theorem q_parF {P P' : List V → Hp → Prop} (h1 : EvF ta σ Hs P) (h2 : ∀ Hs1, Ex Hs Hs1 → EvF tb σ Hs1 P') (e : Ex Hs H) (mo : ∀ xs H H2, Ex H H2 → P xs H → P xs H2)
    (k : ∀ p q xs ys H2 Hs2, Grow Hs H Hs2 H2 → H p = none → H q = none → p ≠ q → Hs2 p = none → Hs2 q = none → H2 p = some (.lst xs) → H2 q = some (.lst ys) → P xs Hs2 → P' ys Hs2 → tz D ((σ.set i (some (.ref p))).set j (some (.ref q))) H2) :
    tSeq (tPar i j (tCons ta (tCons tb tNil))) tz D σ H :=
  h1 H e _ fun p xs H2 Hs2 g a1 a2 a3 a4 => h2 Hs2 g.s H2 g.i _ fun q ys H3 Hs3 g3 b1 b2 b3 b4 => by
    have pq : p ≠ q := fun z => by rw [z, b1] at a3; cases a3
    exact ⟨.ref p, .ref q, rfl, k p q xs ys H3 Hs3 (g.trans g3) a1 (fresh_back g.b b1) pq (g3.f p a2 (by rw [a3]; exact fun z => nomatch z)) b2 (g3.b _ _ a3) b3 (mo xs Hs2 Hs3 g3.s a4) b4⟩
theorem q_two {ab : α × β} (h : EvC te σ Hs (cP c d) ab) (e : Ex Hs H) (k : ∀ u v H2 Hs2, Grow Hs H Hs2 H2 → c ab.1 Hs2 u → d ab.2 Hs2 v → tz D ((σ.set i (some u)).set j (some v)) H2) :
    tSeq (tAsg te (gTup K 2 (gCons (gName i) (gCons (gName j) gNil)))) tz D σ H := h H e _ fun x H2 Hs2 g p => g_two p g.i fun u v cu cv => k u v H2 Hs2 g cu cv
theorem q_ifB (h : EvT tt σ Hs b) (e : Ex Hs H) (h1 : b = true → ∀ H2, Ex H H2 → tu { D with nx := tz D } σ H2) (h2 : b = false → ∀ H2, Ex H H2 → tw { D with nx := tz D } σ H2) : tSeq (tIfS tt tu tw) tz D σ H :=
  s_if (D := { D with nx := tz D }) (h.mono e) h1 h2
/-- an if without else -/
theorem q_whenB (h : EvT tt σ Hs b) (e : Ex Hs H) (h1 : b = true → ∀ H2, Ex H H2 → tu { D with nx := tz D } σ H2) (h2 : b = false → ∀ H2, Ex H H2 → tz D σ H2) : tSeq (tIfS tt tu tNext) tz D σ H := q_ifB h e h1 h2
theorem s_whenB (h : EvT tt σ Hs b) (e : Ex Hs H) (h1 : b = true → ∀ H2, Ex H H2 → tu D σ H2) (h2 : b = false → ∀ H2, Ex H H2 → D.nx σ H2) : tIfS tt tu tNext D σ H := s_if (h.mono e) h1 h2
/-- an if whose suite is never run -/
theorem q_no (h : EvT tt σ Hs false) (e : Ex Hs H) (k : ∀ H2, Ex H H2 → tz D σ H2) : tSeq (tIfS tt tu tNext) tz D σ H := q_ifB h e (fun z => nomatch z) fun _ => k
theorem s_no (h : EvT tt σ Hs false) (e : Ex Hs H) (k : ∀ H2, Ex H H2 → D.nx σ H2) : tIfS tt tu tNext D σ H := s_if (h.mono e) (fun z => nomatch z) fun _ => k
theorem s_ifB (h : EvT tt σ Hs b) (e : Ex Hs H) (h1 : b = true → ∀ H2, Ex H H2 → tu D σ H2) (h2 : b = false → ∀ H2, Ex H H2 → tw D σ H2) : tIfS tt tu tw D σ H := s_if (h.mono e) h1 h2
theorem q_dropE (h : EvP te σ Hs P) (e : Ex Hs H) (k : ∀ H2 Hs2, Grow Hs H Hs2 H2 → tz D σ H2) : tSeq (tDrop te) tz D σ H := h H e _ fun v H2 Hs2 g _ => k H2 Hs2 g
theorem s_dropE (h : EvP te σ Hs P) (e : Ex Hs H) (k : ∀ H2 Hs2, Grow Hs H Hs2 H2 → D.nx σ H2) : tDrop te D σ H := h H e _ fun v H2 Hs2 g _ => k H2 Hs2 g
theorem s_retS (h : Ev te σ Hs v) (e : Ex Hs H) (k : RetV v H D.rt) : tRet te D σ H := h H e _ k
theorem s_retP (h : EvP te σ Hs P) (e : Ex Hs H) (k : RetP Hs H P D.rt) : tRet te D σ H := h H e _ k
theorem s_retF {P : List V → Hp → Prop} (h : EvF te σ Hs P) (e : Ex Hs H) (k : RetF Hs H P D.rt) : tRet te D σ H := h H e _ k
/-- what was begun is gone on with -/
theorem RetP.on {Hs2 H2 : Hp} {Q : VK} (k : RetP Hs H P Q) (g : Grow Hs H Hs2 H2) : RetP Hs2 H2 P Q := fun v H3 Hs3 g3 p => k v H3 Hs3 (g.trans g3) p
theorem RetV.on {H2 : Hp} {Q : VK} (k : RetV v H Q) (b : Ex H H2) : RetV v H2 Q := fun H3 e => k H3 (b.trans e)
theorem on_v {H2 : Hp} {Q : VK} (k : RetV v H Q) (b : Ex H H2) : RetV v H2 Q := fun H3 e => k H3 (b.trans e)
theorem on_p {Hs2 H2 : Hp} {Q : VK} (k : RetP Hs H P Q) (g : Grow Hs H Hs2 H2) : RetP Hs2 H2 P Q := RetP.on k g
theorem RetF.on {P : List V → Hp → Prop} {Hs2 H2 : Hp} {Q : VK} (k : RetF Hs H P Q) (g : Grow Hs H Hs2 H2) : RetF Hs2 H2 P Q := fun p xs H3 Hs3 g3 a b x y => k p xs H3 Hs3 (g.trans g3) (fresh_back g.b a) b x y
theorem on_f {P : List V → Hp → Prop} {Hs2 H2 : Hp} {Q : VK} (k : RetF Hs H P Q) (g : Grow Hs H Hs2 H2) : RetF Hs2 H2 P Q := RetF.on k g
/-- a thing that was begun over the whole heap -/
theorem on_b {H2 : Hp} {Q : VK} (k : RetP Hs H P Q) (e : Ex Hs H) (b : Ex H H2) : RetP Hs H2 P Q := RetP.on k (Grow.up e b)
/-- p.append(e), p our own list -/
theorem s_appP {p : Addr} {xs : List V} (hp : Hs p = none) (h2 : H p = some (.lst xs)) (e : Ex Hs H) (ho : Ev ta σ Hs (.ref p)) (h : EvP te σ Hs P) (hz : xs.length ≤ 40000)
    (k : ∀ v H2 Hs2, Ex Hs2 (upd H2 p (.lst (xs ++ [v]))) → Ex Hs Hs2 → Ex H H2 → Hs2 p = none → (∀ q, Hs q = none → H q ≠ none → Hs2 q = none) → P v Hs2 → D.nx σ (upd H2 p (.lst (xs ++ [v])))) :
    tDrop (tBM K "list" rAppend ta (tCons te tNil)) D σ H := ho H e _ fun H1 e1 =>
  ⟨.inl ⟨rfl, xs, sq_of (e1 p _ h2)⟩, h H1 (e.trans e1) _ fun v H2 Hs2 g pv => ⟨p, xs, v, rfl, rfl, g.b p _ (e1 p _ h2), size_lt hz, by
    have np : Hs2 p = none := g.f p hp (by rw [e1 p _ h2]; exact fun z => nomatch z)
    refine k v H2 Hs2 (fun a o q => ?_) g.s (e1.trans g.b) np (fun q h n => g.f q h (up_some e1 n)) pv
    rw [upd_ne (fun z => by rw [z, np] at q; cases q)]
    exact g.i a o q⟩⟩
theorem q_appP {p : Addr} {xs : List V} (hp : Hs p = none) (h2 : H p = some (.lst xs)) (e : Ex Hs H) (ho : Ev ta σ Hs (.ref p)) (h : EvP te σ Hs P) (hz : xs.length ≤ 40000)
    (k : ∀ v H2 Hs2, Ex Hs2 (upd H2 p (.lst (xs ++ [v]))) → Ex Hs Hs2 → Ex H H2 → Hs2 p = none → (∀ q, Hs q = none → H q ≠ none → Hs2 q = none) → P v Hs2 → tz D σ (upd H2 p (.lst (xs ++ [v])))) :
    tSeq (tDrop (tBM K "list" rAppend ta (tCons te tNil))) tz D σ H := s_appP (D := { D with nx := tz D }) hp h2 e ho h hz k
end
/-! ### built-ins by name -/
theorem b_len : bootBuiltins "len" = some (.builtin "len") := by decide +kernel
theorem b_sum : bootBuiltins "sum" = some (.builtin "sum") := by decide +kernel
theorem b_max : bootBuiltins "max" = some (.builtin "max") := by decide +kernel
theorem b_min : bootBuiltins "min" = some (.builtin "min") := by decide +kernel
theorem b_abs : bootBuiltins "abs" = some (.builtin "abs") := by decide +kernel
theorem b_any : bootBuiltins "any" = some (.builtin "any") := by decide +kernel
theorem b_all : bootBuiltins "all" = some (.builtin "all") := by decide +kernel
theorem b_isinstance : bootBuiltins "isinstance" = some (.builtin "isinstance") := by decide +kernel
theorem b_sorted : bootBuiltins "sorted" = some (.builtin "sorted") := by decide +kernel
theorem b_list : bootBuiltins "list" = some (.type "list") := by decide +kernel
theorem b_tuple : bootBuiltins "tuple" = some (.type "tuple") := by decide +kernel
theorem b_set : bootBuiltins "set" = some (.type "set") := by decide +kernel
theorem b_int : bootBuiltins "int" = some (.type "int") := by decide +kernel
theorem b_bool : bootBuiltins "bool" = some (.type "bool") := by decide +kernel
theorem b_str : bootBuiltins "str" = some (.type "str") := by decide +kernel
/-- a module's whole number -/
theorem pe_k {X : Cx} {x : Str} {n : Int} {pos : Pos} (hg : Gl X x) (h : ∃ t, X.mg x = some (.int n t)) (hd : (x == ("__debug__" : Str)) = false := by decide) : PE X (.Name x pos) (tC (.int n)) := by
  obtain ⟨t, ht⟩ := h
  exact pe_glob hg ht ⟨t, rfl⟩ hd
/-- what is the same for all readings: the written part, the world, the classes -/
structure Cn where
  K : PySem.W.Frag
  w : World
  pairs : Addr
  few : Addr
  answer : Addr
  lineError : Addr
  badPlaces : Addr
  badLines : Addr
  badTakings : Addr
end LH

namespace LH
open PySem L2 Evl PyProof.Rows
/-! ### anything that may be handed in -/
inductive Wd where
  | non | bl (b : Bool) | int (i : Int) | str (x : Str) | lst (l : List Wd) | tup (l : List Wd) | dct
mutual
inductive CW (H : Hp) : Wd → V → Prop
  | non : CW H .non .non
  | bl (b : Bool) : CW H (.bl b) (.bl b)
  | int (i : Int) : CW H (.int i) (.int i)
  | str (x : Str) : CW H (.str x) (.str x)
  | lst {a : Addr} {xs : List V} {l : List Wd} : H a = some (.lst xs) → CWs H l xs → CW H (.lst l) (.ref a)
  | tup {a : Addr} {xs : List V} {l : List Wd} : H a = some (.tup xs) → CWs H l xs → CW H (.tup l) (.ref a)
  | dct {a : Addr} : H a = some (.dK []) → CW H .dct (.ref a)
inductive CWs (H : Hp) : List Wd → List V → Prop
  | nil : CWs H [] []
  | cons {d : Wd} {x : V} {l : List Wd} {xs : List V} : CW H d x → CWs H l xs → CWs H (d :: l) (x :: xs)
end
mutual
theorem CW.mono {H H2 : Hp} (e : Ex H H2) : ∀ {d : Wd} {v : V}, CW H d v → CW H2 d v
  | _, _, .non => .non
  | _, _, .bl b => .bl b
  | _, _, .int i => .int i
  | _, _, .str x => .str x
  | _, _, .lst h t => .lst (e _ _ h) (CWs.mono e t)
  | _, _, .tup h t => .tup (e _ _ h) (CWs.mono e t)
  | _, _, .dct h => .dct (e _ _ h)
theorem CWs.mono {H H2 : Hp} (e : Ex H H2) : ∀ {l : List Wd} {xs : List V}, CWs H l xs → CWs H2 l xs
  | _, _, .nil => .nil
  | _, _, .cons h t => .cons (CW.mono e h) (CWs.mono e t)
end
def cW : Cd Wd := fun d H v => CW H d v
instance : Mo cW := ⟨fun e h => CW.mono e h⟩
theorem cws_paired {H : Hp} : ∀ {l : List Wd} {xs : List V}, CWs H l xs → Paired (fun b x => cW b H x) l xs
  | _, _, .nil => .nil
  | _, _, .cons h t => .cons h (cws_paired t)
theorem paired_cws {H : Hp} : ∀ {l : List Wd} {xs : List V}, Paired (fun b x => cW b H x) l xs → CWs H l xs
  | _, _, .nil => .nil
  | _, _, .cons h t => .cons h (paired_cws t)
theorem cW_lst {H : Hp} {l : List Wd} {v : V} (h : cW (.lst l) H v) : cL cW l H v := by
  cases h with
  | lst h t => exact ⟨_, _, rfl, h, cws_paired t⟩
theorem lst_cW {H : Hp} {l : List Wd} {v : V} (h : cL cW l H v) : cW (.lst l) H v := by
  obtain ⟨a, xs, rfl, h1, h2⟩ := h
  exact .lst h1 (paired_cws h2)
theorem ints_cW {H : Hp} {ns : List Int} {v : V} (h : cL cI ns H v) : cW (.lst (ns.map .int)) H v := by
  obtain ⟨a, xs, rfl, h1, h2⟩ := h
  refine .lst h1 (paired_cws ?_)
  clear h1
  induction h2 with
  | nil => exact .nil
  | cons h t ih => exact .cons (by cases (show _ = _ from h); exact CW.int _) ih
theorem cW_ints {H : Hp} {ns : List Int} {v : V} (h : cW (.lst (ns.map .int)) H v) : cL cI ns H v := by
  obtain ⟨a, xs, rfl, h1, h2⟩ := cW_lst h
  refine ⟨a, xs, rfl, h1, ?_⟩
  clear h1 h
  induction ns generalizing xs with
  | nil => cases h2; exact .nil
  | cons n r ih =>
    cases h2 with
    | cons h t => exact .cons (by cases h; rfl) (ih _ t)
/-- its type's name -/
def wTy : Wd → String
  | .non => "NoneType" | .bl _ => "bool" | .int _ => "int" | .str _ => "str" | .lst _ => "list" | .tup _ => "tuple" | .dct => "dict"
theorem wTy_ty {K : PySem.W.Frag} {H : Hp} {d : Wd} {v : V} (h : cW d H v) : TyX K H v (.type (wTy d)) := by
  cases h with
  | non => exact .base .non
  | bl b => exact .base (.bl b)
  | int i => exact .base (.int i)
  | str x => exact .base (.str x)
  | lst h _ => exact .base (.lst h)
  | tup h _ => exact .base (.tup h)
  | dct h => exact .base (.dK h)
def isTy (T : String) (d : Wd) : Bool := kitB (wTy d) T == some true
def TyOk (T : String) : Prop := ∀ d : Wd, kitB (wTy d) T = some (isTy T d)
theorem ty_int : TyOk "int" := fun d => by cases d <;> with_unfolding_all rfl
theorem ty_bool : TyOk "bool" := fun d => by cases d <;> with_unfolding_all rfl
theorem ty_list : TyOk "list" := fun d => by cases d <;> with_unfolding_all rfl
theorem ty_tuple : TyOk "tuple" := fun d => by cases d <;> with_unfolding_all rfl
theorem ev_isi {K : PySem.W.Frag} {σ : L2.St} {Hs : Hp} {ta : TE} {d : Wd} {T : String} (ok : TyOk T) (ha : EvC ta σ Hs cW d) : Ev (tCB (rIsi K) (tCons ta (tCons (tC (.ty T)) tNil))) σ Hs (.bl (isTy T d)) := fun H e Q q => ha H e _ fun v H2 Hs2 g p =>
  ⟨v, .ty T, _, _, isTy T d, rfl, .ty T, wTy_ty (Mo.mo g.i p), kit_ty (ok d), q H2 g.b⟩
/-! ### the looks at what is handed in, as functions -/
def wWhole : Wd → Bool | .int _ => true | _ => false
def wInt : Wd → Int | .int i => i | _ => 0
def inR (P i : Int) : Bool := decide (0 ≤ i) && decide (i < P)
def wCount (P : Int) (d : Wd) : Bool := wWhole d && inR P (wInt d)
def wItems : Wd → List Wd | .lst l => l | _ => []
def isL : Wd → Bool | .lst _ => true | _ => false
def wPlaces (P : Int) (d : Wd) : Bool := isL d && (wItems d).all (wCount P)
def rise (l : List Int) : Bool := (l.zip (l.drop 1)).all fun p => decide (p.1 < p.2)
def wLine (P : Int) (d : Wd) : Bool := wPlaces P d && (decide ((wItems d).length ≠ 0) && rise ((wItems d).map wInt))
theorem whole_eq (d : Wd) : (isTy "int" d && !isTy "bool" d) = wWhole d := by cases d <;> with_unfolding_all rfl
theorem list_eq (d : Wd) : isTy "list" d = isL d := by cases d <;> with_unfolding_all rfl
theorem tuple_eq (d : Wd) : isTy "tuple" d = (match d with | .tup _ => true | _ => false) := by cases d <;> with_unfolding_all rfl
theorem places_ints {P : Int} {d : Wd} (h : wPlaces P d = true) : ∃ ns : List Int, d = .lst (ns.map .int) ∧ ∀ n ∈ ns, inR P n = true := by
  cases d with
  | lst l =>
    have h2 : l.all (wCount P) = true := h
    clear h
    suffices ∃ ns : List Int, l = ns.map .int ∧ ∀ n ∈ ns, inR P n = true by
      obtain ⟨ns, e, r⟩ := this
      exact ⟨ns, by rw [e], r⟩
    induction l with
    | nil => exact ⟨[], rfl, fun _ h => by cases h⟩
    | cons d l ih =>
      rw [List.all_cons, Bool.and_eq_true] at h2
      obtain ⟨ns, rfl, r⟩ := ih h2.2
      have h3 := h2.1
      unfold wCount at h3
      rw [Bool.and_eq_true] at h3
      cases d with
      | int i => exact ⟨i :: ns, rfl, fun n hn => (List.mem_cons.mp hn).elim (fun z => z ▸ h3.2) (r n)⟩
      | _ => cases h3.1
  | _ => cases h
theorem ints_all (P : Int) : ∀ ns : List Int, (ns.map Wd.int).all (wCount P) = ns.all (inR P)
  | [] => rfl
  | n :: r => by
    rw [List.map_cons, List.all_cons, List.all_cons, ints_all P r]
    show (true && inR P n && _) = _
    rw [Bool.true_and]
theorem ints_wInt (ns : List Int) : (ns.map Wd.int).map wInt = ns := by
  rw [List.map_map]
  exact (List.map_congr_left fun _ _ => rfl).trans (List.map_id ns)
/-! ### promises of the looks -/
def sp_is_whole (c : Cn) : Sp := fun vs H Q _ => ∃ (Hs : Hp) (v : V) (d : Wd), Ex Hs H ∧ vs = [v] ∧ cW d Hs v ∧ RetV (.bl (wWhole d)) H Q
def sp_is_count (c : Cn) : Sp := fun vs H Q _ => ∃ (Hs : Hp) (P : Int) (v : V) (d : Wd), Ex Hs H ∧ vs = [.int P, v] ∧ cW d Hs v ∧ RetV (.bl (wCount P d)) H Q
def sp_is_list_of_places (c : Cn) : Sp := fun vs H Q _ => ∃ (Hs : Hp) (P : Int) (v : V) (d : Wd), Ex Hs H ∧ vs = [.int P, v] ∧ cW d Hs v ∧ (wItems d).length ≤ 40000 ∧ RetV (.bl (wPlaces P d)) H Q
def sp_is_line (c : Cn) : Sp := fun vs H Q _ => ∃ (Hs : Hp) (P : Int) (v : V) (d : Wd), Ex Hs H ∧ vs = [.int P, v] ∧ cW d Hs v ∧ (wItems d).length ≤ 40000 ∧ RetV (.bl (wLine P d)) H Q
structure OkLine (P : Int) (l : List Int) : Prop where
  ne : l ≠ []
  inr : ∀ x ∈ l, 0 ≤ x ∧ x < P
  up : rise l = true
  few : l.length ≤ 60
  len : (l.length : Int) ≤ P
structure OkLines (P : Int) (ls : List (List Int)) : Prop where
  few : ls.length ≤ 60
  ok : ∀ l ∈ ls, OkLine P l
structure OkTake (P : Int) (hs ms : List Int) : Prop where
  h : ∀ x ∈ hs, 0 ≤ x ∧ x < P
  m : ∀ x ∈ ms, 0 ≤ x ∧ x < P
  nd : (hs ++ ms).Nodup
  few : hs.length ≤ 60 ∧ ms.length ≤ 60
structure Board (P : Int) (ls : List (List Int)) (hs ms : List Int) : Prop where
  p : 1 ≤ P ∧ P ≤ 60
  l : OkLines P ls
  t : OkTake P hs ms
def sp_check_places (c : Cn) : Sp := fun vs H Q _ => ∃ P : Int, vs = [.int P] ∧ (1 ≤ P ∧ P ≤ 60) ∧ RetV .non H Q
def sp_check_lines (c : Cn) : Sp := fun vs H Q _ => ∃ (Hs : Hp) (P : Int) (v : V) (ls : List (List Int)), Ex Hs H ∧ vs = [.int P, v] ∧ cL (cL cI) ls Hs v ∧ OkLines P ls ∧ RetV .non H Q
def sp_check_takings (c : Cn) : Sp := fun vs H Q _ => ∃ (Hs : Hp) (P : Int) (u v : V) (hs ms : List Int), Ex Hs H ∧ vs = [.int P, u, v] ∧ cL cI hs Hs u ∧ cL cI ms Hs v ∧ OkTake P hs ms ∧ RetV .non H Q
/-- a play as it is handed in -/
def Play (Hs H : Hp) (vs : List V) (P : Int) (ls : List (List Int)) (hs ms : List Int) : Prop := ∃ u v w, Ex Hs H ∧ vs = [.int P, u, v, w] ∧ cL (cL cI) ls Hs u ∧ cL cI hs Hs v ∧ cL cI ms Hs w ∧ Board P ls hs ms
def sp_check_play (c : Cn) : Sp := fun vs H Q _ => ∃ (Hs : Hp) (P : Int) (ls : List (List Int)) (hs ms : List Int), Play Hs H vs P ls hs ms ∧ RetV .non H Q
end LH

namespace LH
open PySem L2 Evl PyProof.Rows
def t_check_play (c : Cn) : TS := (tSeq (tDrop (tCall (sp_check_places c) [] C8.E0 (tCons (tVar 0) tNil))) (tSeq (tDrop (tCall (sp_check_lines c) [] C8.E0 (tCons (tVar 0) (tCons (tVar 1) tNil)))) (tDrop (tCall (sp_check_takings c) [] C8.E0 (tCons (tVar 0) (tCons (tVar 2) (tCons (tVar 3) tNil)))))))
def t_check_places (c : Cn) : TS := (tIfS (tNot (tAnd (tB (tCall (sp_is_whole c) [] C8.E0 (tCons (tVar 0) tNil))) (tTest (tChain rLeI rLeI (tC (.int 1)) (tVar 0) (tC (.int 60)))))) tNever tNext)
def t_check_lines (c : Cn) : TS := (tSeq (tIfS (tOr (tNot (tB (tCB (rIsi c.K) (tCons (tVar 1) (tCons (tC (.ty "list")) tNil))))) (tTest (tOp rGtI (tCB (rLenA c.K) (tCons (tVar 1) tNil)) (tC (.int 60))))) tNever tNext) (tIfS (tNot (tB (tCB (rAll c.K) (tCons (tLc (iList c.K (tVar 1)) (gName 2) tYes (tCall (sp_is_line c) [] C8.E0 (tCons (tVar 0) (tCons (tVar 2) tNil))) [2]) tNil)))) tNever tNext))
def t_check_takings (c : Cn) : TS := (tSeq (tIfS (tNot (tAnd (tB (tCall (sp_is_list_of_places c) [] C8.E0 (tCons (tVar 0) (tCons (tVar 1) tNil)))) (tB (tCall (sp_is_list_of_places c) [] C8.E0 (tCons (tVar 0) (tCons (tVar 2) tNil)))))) tNever tNext) (tSeq (tAsg (tOp (rCatL c.K) (tVar 1) (tVar 2)) (gName 3)) (tIfS (tTest (tOp (rNeA c.K) (tCB (rLenSet c.w) (tCons (tCB (rSetOf c.K c.w) (tCons (tVar 3) tNil)) tNil)) (tCB (rLenA c.K) (tCons (tVar 3) tNil)))) tNever tNext)))
def t_is_count (c : Cn) : TS := (tRet (tAndV (tCall (sp_is_whole c) [] C8.E0 (tCons (tVar 1) tNil)) (tChain rLeI rLtI (tC (.int 0)) (tVar 1) (tVar 0))))
def t_is_whole (c : Cn) : TS := (tRet (tAndV (tCB (rIsi c.K) (tCons (tVar 0) (tCons (tC (.ty "int")) tNil))) (tNotV (tCB (rIsi c.K) (tCons (tVar 0) (tCons (tC (.ty "bool")) tNil))))))
def t_is_list_of_places (c : Cn) : TS := (tRet (tAndV (tCB (rIsi c.K) (tCons (tVar 1) (tCons (tC (.ty "list")) tNil))) (tCB (rAll c.K) (tCons (tLc (iList c.K (tVar 1)) (gName 2) tYes (tCall (sp_is_count c) [] C8.E0 (tCons (tVar 0) (tCons (tVar 2) tNil))) [2]) tNil))))
def t_is_line (c : Cn) : TS := (tSeq (tIfS (tOr (tNot (tB (tCall (sp_is_list_of_places c) [] C8.E0 (tCons (tVar 0) (tCons (tVar 1) tNil))))) (tTest (tOp (rEqA c.K) (tCB (rLenA c.K) (tCons (tVar 1) tNil)) (tC (.int 0))))) (tRet (tC (.bl false))) tNext) (tRet (tCB (rAll c.K) (tCons (tLc (iZip c.K (tCons (tVar 1) (tCons (tSl (rSlL c.K) (tVar 1) (tPart (tC (.int 1))) tNoPart) tNil))) (gTup c.K 2 (gCons (gName 2) (gCons (gName 3) gNil))) tYes (tOp rLtI (tVar 2) (tVar 3)) [2, 3]) tNil))))
theorem EvT_to {t : TT} {σ : L2.St} {H : Hp} {a b : Bool} (h : EvT t σ H a) (e : a = b) : EvT t σ H b := e ▸ h
section
variable {c : Cn} {vs : List V} {H : Hp} {Q : VK} {E : XK}
theorem rd_is_whole (h : sp_is_whole c vs H Q E) : t_is_whole c { nx := fun _ H' => Q .non H', rt := Q } (start ["value"] vs) H := by
  obtain ⟨Hs, v, d, e, rfl, hd, k⟩ := h
  refine s_retS (ev_to (ev_andV (ev_isi ty_int (ec_var rfl hd)) fun _ => ev_notV (ev_isi ty_bool (ec_var rfl hd))) ?_) e k
  rw [whole_eq]
theorem call_is_whole {σ : L2.St} {Hs : Hp} {ta : TE} {d : Wd} (h2 : EvC ta σ Hs cW d) : Ev (tCall (sp_is_whole c) [] C8.E0 (tCons ta tNil)) σ Hs (.bl (wWhole d)) := by
  refine ev_callS (as_cons h2 (fun _ _ _ e p => Mo.mo e p) fun _ _ => as_nil) ?_
  rintro vs Hs1 e1 ⟨u, r, rfl, hu, rfl⟩ H1 e2 Q1 k1
  exact ⟨Hs1, u, d, e2, rfl, hu, k1⟩
theorem rd_is_count (h : sp_is_count c vs H Q E) : t_is_count c { nx := fun _ H' => Q .non H', rt := Q } (start ["many", "value"] vs) H := by
  obtain ⟨Hs, P, v, d, e, rfl, hd, k⟩ := h
  refine s_retS (ev_andV (a := wWhole d) (b := inR P (wInt d)) (call_is_whole (ec_var rfl hd)) fun hw => ?_) e k
  cases d with
  | int i =>
    cases hd
    exact ev_chain ev_c (ev_var rfl) rv_I0 (fun _ => ev_var rfl) fun _ => rv_I0
  | _ => cases hw
theorem call_is_count {σ : L2.St} {Hs : Hp} {ta tb : TE} {P : Int} {d : Wd} (h1 : Ev ta σ Hs (.int P)) (h2 : EvC tb σ Hs cW d) : Ev (tCall (sp_is_count c) [] C8.E0 (tCons ta (tCons tb tNil))) σ Hs (.bl (wCount P d)) := by
  refine ev_callS (as_cons (c_evI h1) (fun _ _ _ e p => Mo.mo e p) fun Hs1 e1 => as_cons (EvC.lift h2 e1) (fun _ _ _ e p => Mo.mo e p) fun _ _ => as_nil) ?_
  rintro vs Hs1 e1 ⟨u, r, rfl, hu, w, r2, rfl, hw, rfl⟩ H1 e2 Q1 k1
  cases hu
  exact ⟨Hs1, P, w, d, e2, rfl, hw, k1⟩
theorem rd_is_list_of_places (h : sp_is_list_of_places c vs H Q E) : t_is_list_of_places c { nx := fun _ H' => Q .non H', rt := Q } (start ["places", "values", "value"] vs) H := by
  obtain ⟨Hs, P, v, d, e, rfl, hd, hz, k⟩ := h
  refine s_retS (ev_to (ev_andV (b := ((wItems d).map (wCount P)).all id) (ev_isi ty_list (ec_var rfl hd)) fun hw => ?_) ?_) e k
  · rw [list_eq] at hw
    cases d with
    | lst l =>
      refine ev_all (EvF.toC (ef_mapN (d := cB) (ei_list (ec_var rfl (cW_lst hd))) (wCount P) hz fun a x Hs' ha e' ca => c_evB (call_is_count (ev_var rfl) (ec_var rfl ca))))
    | _ => cases hw
  · rw [list_eq, List.all_map]
    rfl
theorem call_is_places {σ : L2.St} {Hs : Hp} {ta tb : TE} {P : Int} {d : Wd} (h1 : Ev ta σ Hs (.int P)) (h2 : EvC tb σ Hs cW d) (hz : (wItems d).length ≤ 40000) : Ev (tCall (sp_is_list_of_places c) [] C8.E0 (tCons ta (tCons tb tNil))) σ Hs (.bl (wPlaces P d)) := by
  refine ev_callS (as_cons (c_evI h1) (fun _ _ _ e p => Mo.mo e p) fun Hs1 e1 => as_cons (EvC.lift h2 e1) (fun _ _ _ e p => Mo.mo e p) fun _ _ => as_nil) ?_
  rintro vs Hs1 e1 ⟨u, r, rfl, hu, w, r2, rfl, hw, rfl⟩ H1 e2 Q1 k1
  cases hu
  exact ⟨Hs1, P, w, d, e2, rfl, hw, hz, k1⟩
theorem rd_is_line (h : sp_is_line c vs H Q E) : t_is_line c { nx := fun _ H' => Q .non H', rt := Q } (start ["places", "line", "low", "high"] vs) H := by
  obtain ⟨Hs, P, v, d, e, rfl, hd, hz, k⟩ := h
  refine q_whenB (et_or (et_not (et_B (call_is_places (ev_var rfl) (ec_var rfl hd) hz))) fun hp => et_test (ev_eqI (ev_lenC (c := cW) (l := wItems d) (ec_var rfl ?_)) ev_c)) e (fun hb H2 e2 => ?_) (fun hb H2 e2 => ?_)
  · cases d with
    | lst l => exact cW_lst hd
    | _ => cases hp
  · refine s_retS (ev_to ev_c ?_) (e.trans e2) (on_v k e2)
    unfold wLine
    cases hp : wPlaces P d with
    | false => rfl
    | true =>
      rw [hp] at hb
      have hb' : (wItems d).length = 0 := by simpa using hb
      rw [hb']
      rfl
  · rw [Bool.or_eq_false_iff, Bool.not_eq_false'] at hb
    obtain ⟨ns, rfl, hr⟩ := places_ints hb.1
    have hn : cL cI ns Hs v := cW_ints hd
    have hz2 : ns.length ≤ 40000 := by simpa [wItems] using hz
    refine s_retS (ev_to (ev_all (l := (ns.zip (ns.drop 1)).map fun p => decide (p.1 < p.2)) (EvF.toC (ef_mapT (d := cB) (c1 := cI) (c2 := cI) (ei_zip (c := cI) (d := cI) ?_) (fun p => decide (p.1 < p.2)) ?_ fun a u w Hs' ha e' hu hw => ?_))) ?_) (e.trans e2) (on_v k e2)
    · refine (as_cons (ec_var rfl hn) (fun _ _ _ e p => Mo.mo e p) fun Hs1 e1 => as_cons (EvF.toC (ef_from (c := cI) (n := 1) (ec_var rfl (Mo.mo e1 hn)) ev_c)) (fun _ _ _ e p => Mo.mo e p) fun _ _ => as_nil).imp ?_
      rintro vs Hs1 e1 ⟨u, r, rfl, hu, w, r2, rfl, hw, rfl⟩
      exact ⟨u, w, rfl, hu, hw⟩
    · rw [List.length_zip]
      omega
    · cases hu
      cases hw
      exact c_evB (ev_lt (ev_var rfl) (ev_var rfl))
    · unfold wLine
      rw [hb.1, Bool.true_and, List.all_map]
      have h0 : decide ((wItems (Wd.lst (ns.map .int))).length ≠ 0) = true := by
        have := hb.2
        simpa using this
      rw [h0, Bool.true_and, show wItems (Wd.lst (ns.map .int)) = ns.map .int from rfl, ints_wInt]
      rfl
theorem call_is_line {σ : L2.St} {Hs : Hp} {ta tb : TE} {P : Int} {d : Wd} (h1 : Ev ta σ Hs (.int P)) (h2 : EvC tb σ Hs cW d) (hz : (wItems d).length ≤ 40000) : Ev (tCall (sp_is_line c) [] C8.E0 (tCons ta (tCons tb tNil))) σ Hs (.bl (wLine P d)) := by
  refine ev_callS (as_cons (c_evI h1) (fun _ _ _ e p => Mo.mo e p) fun Hs1 e1 => as_cons (EvC.lift h2 e1) (fun _ _ _ e p => Mo.mo e p) fun _ _ => as_nil) ?_
  rintro vs Hs1 e1 ⟨u, r, rfl, hu, w, r2, rfl, hw, rfl⟩ H1 e2 Q1 k1
  cases hu
  exact ⟨Hs1, P, w, d, e2, rfl, hw, hz, k1⟩
theorem rd_check_places (h : sp_check_places c vs H Q E) : t_check_places c { nx := fun _ H' => Q .non H', rt := Q } (start ["places"] vs) H := by
  obtain ⟨P, rfl, hP, k⟩ := h
  have hd : cW (.int P) H (.int P) := CW.int P
  refine s_no (Hs := H) (EvT_to (et_not (et_and (et_B (call_is_whole (ec_var rfl hd))) fun _ => et_test (ev_chain ev_c (ev_var rfl) rv_I0 (fun _ => ev_c) fun _ => rv_I0))) ?_) (Ex.refl H) k
  rw [decide_eq_true hP.1, decide_eq_true hP.2]
  rfl
theorem okLine_w {P : Int} {l : List Int} (h : OkLine P l) : wLine P (.lst (l.map .int)) = true := by
  unfold wLine wPlaces
  rw [show wItems (.lst (l.map .int)) = l.map .int from rfl, ints_all, ints_wInt, h.up, show isL (.lst (l.map .int)) = true from rfl, List.length_map]
  have h1 : l.all (inR P) = true := List.all_eq_true.mpr fun x hx => by
    unfold inR
    rw [decide_eq_true (h.inr x hx).1, decide_eq_true (h.inr x hx).2]
    rfl
  have h2 : decide (l.length ≠ 0) = true := decide_eq_true fun z => h.ne (List.length_eq_zero_iff.mp z)
  rw [h1, h2]
  rfl
theorem line_cW {Hs : Hp} {l : List Int} {x : V} (h : cL cI l Hs x) : cW (.lst (l.map .int)) Hs x := ints_cW h
theorem lst_list {α : Type} {d : Cd α} {l : List α} {Hs : Hp} {v : V} (h : cL d l Hs v) : ∃ a xs, v = .ref a ∧ Hs a = some (.lst xs) := by
  obtain ⟨a, xs, h1, h2, _⟩ := h
  exact ⟨a, xs, h1, h2⟩
theorem ev_isList {K : PySem.W.Frag} {σ : L2.St} {Hs : Hp} {ta : TE} {α : Type} {d : Cd α} {l : List α} (ha : EvC ta σ Hs (cL d) l) : Ev (tCB (rIsi K) (tCons ta (tCons (tC (.ty "list")) tNil))) σ Hs (.bl true) := fun H e Q q => ha H e _ fun v H2 Hs2 g p => by
  obtain ⟨a, xs, rfl, h1⟩ := lst_list p
  exact ⟨.ref a, .ty "list", _, _, true, rfl, .ty "list", .base (.lst (g.i _ _ h1)), kit_ty (by with_unfolding_all rfl), q H2 g.b⟩
theorem rd_check_lines (h : sp_check_lines c vs H Q E) : t_check_lines c { nx := fun _ H' => Q .non H', rt := Q } (start ["places", "lines", "line"] vs) H := by
  obtain ⟨Hs, P, v, ls, e, rfl, hl, ok, k⟩ := h
  have f1 := ok.few
  refine q_no (EvT_to (et_or (et_not (et_B (ev_isList (ec_var rfl hl)))) fun _ => et_test (ev_gt (ev_lenC (ec_var rfl hl)) ev_c)) ?_) e fun H2 e2 => ?_
  · rw [decide_eq_false (by omega)]
    rfl
  · refine s_no (EvT_to (et_not (et_B (ev_all (l := ls.map fun _ => true) (EvF.toC (ef_mapN (d := cB) (ei_list (ec_var rfl hl)) (fun _ => true) (by omega) fun a x Hs' ha e' ca => c_evB (ev_to (call_is_line (ev_var rfl) (ec_var rfl (line_cW ca)) ?_) ?_)))))) ?_) (e.trans e2) (on_v k e2)
    · have := (ok.ok a ha).few
      simp only [wItems, List.length_map]
      omega
    · rw [okLine_w (ok.ok a ha)]
    · rw [List.all_map]
      have : (ls.all (id ∘ fun _ => true)) = true := List.all_eq_true.mpr fun _ _ => rfl
      rw [this]
      rfl
theorem okInts_w {P : Int} {l : List Int} (h : ∀ x ∈ l, 0 ≤ x ∧ x < P) : wPlaces P (.lst (l.map .int)) = true := by
  unfold wPlaces
  rw [show wItems (.lst (l.map .int)) = l.map .int from rfl, ints_all, show isL (.lst (l.map .int)) = true from rfl, Bool.true_and]
  exact List.all_eq_true.mpr fun x hx => by
    unfold inR
    rw [decide_eq_true (h x hx).1, decide_eq_true (h x hx).2]
    rfl
theorem ef_cat {α : Type} {d : Cd α} [Mo d] {K : PySem.W.Frag} {σ : L2.St} {Hs : Hp} {ta tb : TE} {l m : List α} (ha : EvC ta σ Hs (cL d) l) (hb : EvC tb σ Hs (cL d) m) (hz : l.length + m.length ≤ 40000) : EvFC (tOp (rCatL K) ta tb) σ Hs d (l ++ m) := fun H e Q q =>
  ha H e _ fun u H2 Hs2 g p => (EvC.lift hb g.s) H2 g.i _ fun v H3 Hs3 g3 p3 => by
    obtain ⟨a, xs, rfl, h1, h2⟩ := p
    obtain ⟨b, ys, rfl, h3, h4⟩ := p3
    have gg := g.trans g3
    refine ⟨a, b, xs, ys, rfl, rfl, g3.b _ _ (g.i _ _ h1), g3.i _ _ h3, ?_, fun r hr => ?_⟩
    · rw [← h2.length, ← h4.length]
      exact Nat.le_of_lt (size_lt hz)
    · exact q r _ _ Hs3 (gg.trans (Grow.up gg.i (Ex.new hr))) (fresh_back gg.b hr) (fresh_back gg.i hr) upd_same (Paired.app (paired_mo g3.s h2) h4)
theorem rd_check_takings (h : sp_check_takings c vs H Q E) : t_check_takings c { nx := fun _ H' => Q .non H', rt := Q } (start ["places", "his", "mine", "taken"] vs) H := by
  obtain ⟨Hs, P, u, v, hs, ms, e, rfl, h1, h2, ok, k⟩ := h
  have f1 := ok.few
  refine q_no (EvT_to (et_not (et_and (et_B (call_is_places (ev_var rfl) (ec_var rfl (ints_cW h1)) ?_)) fun _ => et_B (call_is_places (ev_var rfl) (ec_var rfl (ints_cW h2)) ?_))) ?_) e fun H2 e2 => ?_
  · simp only [wItems, List.length_map]
    omega
  · simp only [wItems, List.length_map]
    omega
  · rw [okInts_w ok.h, okInts_w ok.m]
    rfl
  · refine q_setP (EvF.toC (ef_cat (ec_var rfl h1) (ec_var rfl h2) (by omega))) (e.trans e2) fun w H3 Hs3 g hw => ?_
    have hl : (hs ++ ms).length ≤ 4000 := by
      rw [List.length_append]
      omega
    refine s_no (EvT_to (et_test (ev_neI (ev_lenSet (ec_var rfl hw) hl) (ev_lenC (ec_var rfl hw)))) ?_) g.i (on_v k (e2.trans g.b))
    rw [dd_id ok.nd]
    simp
section
variable {σ : L2.St} {Hs : Hp} {ta tb tc td : TE} {P : Int} {ls : List (List Int)} {hs ms : List Int}
theorem mo_c {α : Type} {d : Cd α} [Mo d] {a : α} : ∀ v H H2, Ex H H2 → d a H v → d a H2 v := fun _ _ _ e p => Mo.mo e p
/-- four arguments that are a play -/
theorem as_play (h1 : Ev ta σ Hs (.int P)) (h2 : EvC tb σ Hs (cL (cL cI)) ls) (h3 : EvC tc σ Hs (cL cI) hs) (h4 : EvC td σ Hs (cL cI) ms) (b : Board P ls hs ms) :
    EvAs (tCons ta (tCons tb (tCons tc (tCons td tNil)))) σ Hs fun vs H => ∀ H2, Ex H H2 → Play H H2 (vs ++ []) P ls hs ms := by
  refine (as_cons (c_evI h1) mo_c fun _ e1 => as_cons (EvC.lift h2 e1) mo_c fun _ e2 => as_cons (EvC.lift h3 (e1.trans e2)) mo_c fun _ e3 => as_cons (EvC.lift h4 ((e1.trans e2).trans e3)) mo_c fun _ _ => as_nil).imp ?_
  rintro vs H1 _ ⟨_, _, rfl, p1, u, _, rfl, p2, v, _, rfl, p3, w, _, rfl, p4, rfl⟩ H2 e2
  cases p1
  exact ⟨u, v, w, e2, rfl, p2, p3, p4, b⟩
end
theorem rd_check_play (h : sp_check_play c vs H Q E) : t_check_play c { nx := fun _ H' => Q .non H', rt := Q } (start ["places", "lines", "his", "mine"] vs) H := by
  obtain ⟨Hs, P, ls, hs, ms, ⟨u, v, w, e, rfl, h1, h2, h3, b⟩, k⟩ := h
  refine q_dropE (P := fun _ _ => True) (ep_ev (ev_callS (z := .non) (as_cons (c_evI (ev_var rfl)) mo_c fun _ _ => as_nil) ?_) trivial) e fun H2 Hs2 g => ?_
  · rintro vs H1 _ ⟨_, _, rfl, p1, rfl⟩ H2 _ Q1 k1
    cases p1
    exact ⟨P, rfl, b.p, k1⟩
  refine q_dropE (P := fun _ _ => True) (ep_ev (ev_callS (z := .non) (as_cons (c_evI (ev_var rfl)) mo_c fun _ e1 => as_cons (ec_var rfl (Mo.mo e1 (Mo.mo g.s h1))) mo_c fun _ _ => as_nil) ?_) trivial) g.i fun H3 Hs3 g3 => ?_
  · rintro vs H1 _ ⟨_, _, rfl, p1, x, _, rfl, p2, rfl⟩ H2 e2 Q1 k1
    cases p1
    exact ⟨H1, P, x, ls, e2, rfl, p2, b.l, k1⟩
  refine s_dropE (P := fun _ _ => True) (ep_ev (ev_callS (z := .non) (as_cons (c_evI (ev_var rfl)) mo_c fun _ e1 => as_cons (ec_var rfl (Mo.mo e1 (Mo.mo g3.s (Mo.mo g.s h2)))) mo_c fun _ e2 => as_cons (ec_var rfl (Mo.mo e2 (Mo.mo e1 (Mo.mo g3.s (Mo.mo g.s h3))))) mo_c fun _ _ => as_nil) ?_) trivial) g3.i fun H4 Hs4 g4 => ?_
  · rintro vs H1 _ ⟨_, _, rfl, p1, x, _, rfl, p2, y, _, rfl, p3, rfl⟩ H2 e2 Q1 k1
    cases p1
    exact ⟨H1, P, x, y, hs, ms, e2, rfl, p2, p3, b.t, k1⟩
  exact k H4 ((g.b.trans g3.b).trans g4.b)
end
end LH

namespace LH
open PySem L2 Evl PyProof.Rows
/-! ### the danger, as functions -/
def missing (l hs : List Int) : Nat := (l.filter fun x => !decide (x ∈ hs)).length
def unit (P : Int) (l hs ms : List Int) : Int := if (l.map fun x => decide (x ∈ ms)).any id = true then 0 else 1 * 2 ^ (P - (missing l hs : Int)).toNat
def unitsL (P : Int) (ls : List (List Int)) (hs ms : List Int) : List Int := ls.map fun l => unit P l hs ms
def total (P : Int) (ls : List (List Int)) (hs ms : List Int) : Int := (unitsL P ls hs ms).sum
def one (P : Int) : Int := 1 * 2 ^ P.toNat
def gcdI (a b : Int) : Int := ((Nat.gcd a.natAbs b.natAbs : Nat) : Int)
def lowest (u o : Int) : Int × Int := (u / gcdI u o, o / gcdI u o)
def freeP (P : Int) (hs ms : List Int) : List Nat := (List.range P.toNat).filter fun p => !decide ((p : Int) ∈ hs) && !decide ((p : Int) ∈ ms)
def worthU (P : Int) (ls : List (List Int)) (hs ms : List Int) (p : Int) : Int := (((ls.zip (unitsL P ls hs ms)).filter fun q => decide (p ∈ q.1)).map fun q => q.2).sum
def worthsM (P : Int) (ls : List (List Int)) (hs ms : List Int) : List (Option (Int × Int)) :=
  (List.range P.toNat).map fun (p : Nat) => if p ∈ freeP P hs ms then some (lowest (worthU P ls hs ms (p : Int)) (one P)) else none
def pick (w : Nat → Int) (o : Option Nat) (p : Nat) : Option Nat := match o with | none => some p | some q => if w q < w p then some p else some q
def bestM (P : Int) (ls : List (List Int)) (hs ms : List Int) : Option Nat := (freeP P hs ms).foldl (pick fun p => worthU P ls hs ms (p : Int)) none
def fullM (ls : List (List Int)) (hs : List Int) : List Nat := (((List.range ls.length).zip ls).filter fun q => decide ((missing q.2 hs : Int) = 0)).map fun q => q.1
def sureM (P : Int) (ls : List (List Int)) (hs ms : List Int) : Bool × Bool := (decide (total P ls hs ms < one P), decide (2 * total P ls hs ms < one P))
def dangerM (P : Int) (ls : List (List Int)) (hs ms : List Int) : Int × Int := lowest (total P ls hs ms) (one P)
/-! ### promises -/
def sp_one (c : Cn) : Sp := fun vs H Q _ => ∃ P : Int, vs = [.int P] ∧ (0 ≤ P ∧ P ≤ 60) ∧ RetV (.int (one P)) H Q
def sp_in_lowest_terms (c : Cn) : Sp := fun vs H Q _ => ∃ (Hs : Hp) (u o : Int), Ex Hs H ∧ vs = [.int u, .int o] ∧ (0 < o ∧ o ≤ 2 ^ 60) ∧ RetC Hs H (cP cI cI) (lowest u o) Q
def sp_missing (c : Cn) : Sp := fun vs H Q _ => ∃ (Hs : Hp) (u v : V) (l hs : List Int), Ex Hs H ∧ vs = [u, v] ∧ cL cI l Hs u ∧ cL cI hs Hs v ∧ l.length ≤ 40000 ∧ RetV (.int (missing l hs)) H Q
def sp_units_of_line (c : Cn) : Sp := fun vs H Q _ => ∃ (Hs : Hp) (P : Int) (u v w : V) (l hs ms : List Int), Ex Hs H ∧ vs = [.int P, u, v, w] ∧ cL cI l Hs u ∧ cL cI hs Hs v ∧ cL cI ms Hs w ∧ (P ≤ 60 ∧ (l.length : Int) ≤ P) ∧ RetV (.int (unit P l hs ms)) H Q
/-- a play whose lines are no longer than there are places -/
structure Fits (P : Int) (ls : List (List Int)) : Prop where
  p : 1 ≤ P ∧ P ≤ 60
  few : ls.length ≤ 60
  len : ∀ l ∈ ls, (l.length : Int) ≤ P
def Play3 (Hs H : Hp) (vs : List V) (P : Int) (ls : List (List Int)) (hs ms : List Int) : Prop := ∃ u v w, Ex Hs H ∧ vs = [.int P, u, v, w] ∧ cL (cL cI) ls Hs u ∧ cL cI hs Hs v ∧ cL cI ms Hs w ∧ Fits P ls
def sp_units_of_lines (c : Cn) : Sp := fun vs H Q _ => ∃ (Hs : Hp) (P : Int) (ls : List (List Int)) (hs ms : List Int), Play3 Hs H vs P ls hs ms ∧ RetFC Hs H cI (unitsL P ls hs ms) Q
def sp_total (c : Cn) : Sp := fun vs H Q _ => ∃ (Hs : Hp) (P : Int) (ls : List (List Int)) (hs ms : List Int), Play3 Hs H vs P ls hs ms ∧ RetV (.int (total P ls hs ms)) H Q
def sp_free_places (c : Cn) : Sp := fun vs H Q _ => ∃ (Hs : Hp) (P : Int) (u v : V) (hs ms : List Int), Ex Hs H ∧ vs = [.int P, u, v] ∧ cL cI hs Hs u ∧ cL cI ms Hs v ∧ (0 ≤ P ∧ P ≤ 60) ∧ RetFC Hs H cN (freeP P hs ms) Q
/-- a new dict -/
def RetD (Hs H : Hp) (kvs : List (Key × V)) (Q : VK) : Prop := ∀ d H2 Hs2, Grow Hs H Hs2 H2 → H d = none → Hs2 d = none → H2 d = some (.dK kvs) → Q (.ref d) H2
def unitsD (P : Int) (ls : List (List Int)) (hs ms : List Int) (l : List Nat) : List (Key × V) := l.map fun (p : Nat) => (Sum.inl (p : Int), V.int (worthU P ls hs ms (p : Int)))
def sp_units_of_free (c : Cn) : Sp := fun vs H Q _ => ∃ (Hs : Hp) (P : Int) (ls : List (List Int)) (hs ms : List Int), Play3 Hs H vs P ls hs ms ∧ RetD Hs H (unitsD P ls hs ms (freeP P hs ms)) Q
def sp_danger (c : Cn) : Sp := fun vs H Q _ => ∃ (Hs : Hp) (P : Int) (ls : List (List Int)) (hs ms : List Int), Play Hs H vs P ls hs ms ∧ RetC Hs H (cP cI cI) (dangerM P ls hs ms) Q
def sp_worths (c : Cn) : Sp := fun vs H Q _ => ∃ (Hs : Hp) (P : Int) (ls : List (List Int)) (hs ms : List Int), Play Hs H vs P ls hs ms ∧ RetFC Hs H (cO (cP cI cI)) (worthsM P ls hs ms) Q
def sp_sure (c : Cn) : Sp := fun vs H Q _ => ∃ (Hs : Hp) (P : Int) (ls : List (List Int)) (hs ms : List Int), Play Hs H vs P ls hs ms ∧ RetC Hs H (cP cB cB) (sureM P ls hs ms) Q
def oV (o : Option Nat) : V := match o with | none => .non | some p => .int (p : Int)
def sp_best (c : Cn) : Sp := fun vs H Q _ => ∃ (Hs : Hp) (P : Int) (ls : List (List Int)) (hs ms : List Int), Play Hs H vs P ls hs ms ∧ RetV (oV (bestM P ls hs ms)) H Q
def sp_full (c : Cn) : Sp := fun vs H Q _ => ∃ (Hs : Hp) (P : Int) (ls : List (List Int)) (hs ms : List Int), Play Hs H vs P ls hs ms ∧ RetFC Hs H cN (fullM ls hs) Q
end LH

namespace LH
open PySem L2 Evl PyProof.Rows
def t_danger (c : Cn) : TS := (tSeq (tDrop (tCall (sp_check_play c) [] C8.E0 (tCons (tVar 0) (tCons (tVar 1) (tCons (tVar 2) (tCons (tVar 3) tNil)))))) (tRet (tCall (sp_in_lowest_terms c) [] C8.E0 (tCons (tCall (sp_total c) [] C8.E0 (tCons (tVar 0) (tCons (tVar 1) (tCons (tVar 2) (tCons (tVar 3) tNil))))) (tCons (tCall (sp_one c) [] C8.E0 (tCons (tVar 0) tNil)) tNil)))))
def t_worths (c : Cn) : TS := (tSeq (tDrop (tCall (sp_check_play c) [] C8.E0 (tCons (tVar 0) (tCons (tVar 1) (tCons (tVar 2) (tCons (tVar 3) tNil)))))) (tSeq (tAsg (tCall (sp_units_of_free c) [] C8.E0 (tCons (tVar 0) (tCons (tVar 1) (tCons (tVar 2) (tCons (tVar 3) tNil))))) (gName 4)) (tSeq (tAsg (tOp rRep (tLst (tCons (tC .non) tNil)) (tVar 0)) (gName 5)) (tSeq (tLock (tFor (iKeys (tVar 4)) (gName 6) (tAsg (tCall (sp_in_lowest_terms c) [] C8.E0 (tCons (tDGet (tVar 4) (tVar 6)) (tCons (tCall (sp_one c) [] C8.E0 (tCons (tVar 0) tNil)) tNil))) (gSub (tVar 5) (tVar 6) rSetL)))) (tRet (tVar 5))))))
def t_sure (c : Cn) : TS := (tSeq (tDrop (tCall (sp_check_play c) [] C8.E0 (tCons (tVar 0) (tCons (tVar 1) (tCons (tVar 2) (tCons (tVar 3) tNil)))))) (tSeq (tAsg (tCall (sp_total c) [] C8.E0 (tCons (tVar 0) (tCons (tVar 1) (tCons (tVar 2) (tCons (tVar 3) tNil))))) (gName 4)) (tRet (tTup (tCons (tOp rLtI (tVar 4) (tCall (sp_one c) [] C8.E0 (tCons (tVar 0) tNil))) (tCons (tOp rLtI (tOp rMulI (tC (.int 2)) (tVar 4)) (tCall (sp_one c) [] C8.E0 (tCons (tVar 0) tNil))) tNil))))))
def t_best (c : Cn) : TS := (tSeq (tDrop (tCall (sp_check_play c) [] C8.E0 (tCons (tVar 0) (tCons (tVar 1) (tCons (tVar 2) (tCons (tVar 3) tNil)))))) (tSeq (tAsg (tCall (sp_units_of_free c) [] C8.E0 (tCons (tVar 0) (tCons (tVar 1) (tCons (tVar 2) (tCons (tVar 3) tNil))))) (gName 4)) (tSeq (tAsg (tC .non) (gName 5)) (tSeq (tLock (tFor (iKeys (tVar 4)) (gName 6) (tIfS (tOr (tTest (tOp rIsN (tVar 5) (tC .non))) (tTest (tOp rGtI (tDGet (tVar 4) (tVar 6)) (tDGet (tVar 4) (tVar 5))))) (tAsg (tVar 6) (gName 5)) tNext))) (tRet (tVar 5))))))
def t_full (c : Cn) : TS := (tSeq (tDrop (tCall (sp_check_play c) [] C8.E0 (tCons (tVar 0) (tCons (tVar 1) (tCons (tVar 2) (tCons (tVar 3) tNil)))))) (tRet (tLc (iEnum c.K (tCons (tVar 1) tNil)) (gTup c.K 2 (gCons (gName 4) (gCons (gName 5) gNil))) (tTest (tOp (rEqA c.K) (tCall (sp_missing c) [] C8.E0 (tCons (tVar 5) (tCons (tVar 2) tNil))) (tC (.int 0)))) (tVar 4) [4, 5])))
def t_free_places (c : Cn) : TS := (tRet (tLc (iRng1 (tCons (tVar 0) tNil)) (gName 3) (tAnd (tTest (tOp (rIn c.K true) (tVar 3) (tVar 1))) (tTest (tOp (rIn c.K true) (tVar 3) (tVar 2)))) (tVar 3) [3]))
def t_one (c : Cn) : TS := (tRet (tOp rShlI (tC (.int 1)) (tVar 0)))
def t_in_lowest_terms (c : Cn) : TS := (tSeq (tAsg (tCB rGcd (tCons (tVar 0) (tCons (tVar 1) tNil))) (gName 2)) (tRet (tTup (tCons (tOp rDivI (tVar 0) (tVar 2)) (tCons (tOp rDivI (tVar 1) (tVar 2)) tNil)))))
def t_missing (c : Cn) : TS := (tRet (tCB (rLenA c.K) (tCons (tLc (iList c.K (tVar 0)) (gName 2) (tTest (tOp (rIn c.K true) (tVar 2) (tVar 1))) (tVar 2) [2]) tNil)))
def t_units_of_line (c : Cn) : TS := (tSeq (tIfS (tB (tCB (rAny c.K) (tCons (tLc (iList c.K (tVar 1)) (gName 4) tYes (tOp (rIn c.K false) (tVar 4) (tVar 3)) [4]) tNil))) (tRet (tC (.int 0))) tNext) (tRet (tOp rShlI (tC (.int 1)) (tOp rSubI (tVar 0) (tCall (sp_missing c) [] C8.E0 (tCons (tVar 1) (tCons (tVar 2) tNil)))))))
def t_units_of_lines (c : Cn) : TS := (tRet (tLc (iList c.K (tVar 1)) (gName 4) tYes (tCall (sp_units_of_line c) [] C8.E0 (tCons (tVar 0) (tCons (tVar 4) (tCons (tVar 2) (tCons (tVar 3) tNil))))) [4]))
def t_total (c : Cn) : TS := (tRet (tCB (rSum c.K) (tCons (tCall (sp_units_of_lines c) [] C8.E0 (tCons (tVar 0) (tCons (tVar 1) (tCons (tVar 2) (tCons (tVar 3) tNil))))) tNil)))
def t_units_of_free (c : Cn) : TS := (tSeq (tAsg (tCall (sp_units_of_lines c) [] C8.E0 (tCons (tVar 0) (tCons (tVar 1) (tCons (tVar 2) (tCons (tVar 3) tNil))))) (gName 4)) (tSeq (tAsg tDNewK (gName 5)) (tSeq (tFor (iList c.K (tCall (sp_free_places c) [] C8.E0 (tCons (tVar 0) (tCons (tVar 2) (tCons (tVar 3) tNil))))) (gName 6) (sDPut (tVar 5) (tVar 6) (tCB (rSum c.K) (tCons (tLc (iZip c.K (tCons (tVar 1) (tCons (tVar 4) tNil))) (gTup c.K 2 (gCons (gName 7) (gCons (gName 8) gNil))) (tTest (tOp (rIn c.K false) (tVar 6) (tVar 7))) (tVar 8) [7, 8]) tNil)))) (tRet (tVar 5)))))
/-! ### arithmetic -/
theorem pow_pos' (n : Nat) : (0 : Int) < 2 ^ n := Int.pow_pos (by decide)
theorem gcd_pos {a b : Int} (h : 0 < b) : 0 < gcdI a b := by
  unfold gcdI
  have : 0 < Nat.gcd a.natAbs b.natAbs := Nat.gcd_pos_of_pos_right _ (by omega)
  omega
theorem gcd_le {a b : Int} (h : 0 < b) : gcdI a b ≤ b := by
  unfold gcdI
  have := Nat.gcd_le_right a.natAbs (n := b.natAbs) (by omega)
  omega
theorem divW {j : Int} (h : 0 < j) (h2 : j ≤ 2 ^ 60) (i : Int) : CDivW i j := wide_div h (b := 61) (by
  have : (2 : Int) ^ 60 = 1152921504606846976 := by decide
  have : (2 : Nat) ^ 61 = 2305843009213693952 := by decide
  omega) (by decide) (by decide)
theorem shl_ok {P : Int} (h : 0 ≤ P ∧ P ≤ 60) : CPow 1 P := ⟨h.1, by omega, by decide⟩
theorem one_pos (P : Int) : 0 < one P := by unfold one; rw [Int.one_mul]; exact pow_pos' _
theorem one_le {P : Int} (h : P ≤ 60) : one P ≤ 2 ^ 60 := by
  unfold one
  rw [Int.one_mul]
  have h1 : (2 : Nat) ^ P.toNat ≤ 2 ^ 60 := Nat.pow_le_pow_right (by decide) (by omega)
  have h2 : (2 : Int) ^ P.toNat = ((2 ^ P.toNat : Nat) : Int) := by simp
  have h3 : (2 : Int) ^ 60 = ((2 ^ 60 : Nat) : Int) := by simp
  rw [h2, h3]
  exact Int.ofNat_le.mpr h1
theorem missing_le (l hs : List Int) : missing l hs ≤ l.length := List.length_filter_le _ _
section
variable {c : Cn} {vs : List V} {H : Hp} {Q : VK} {E : XK} {σ : L2.St} {Hs : Hp} {ta tb tc td : TE} {P : Int} {ls : List (List Int)} {hs ms : List Int}
theorem rd_one (h : sp_one c vs H Q E) : t_one c { nx := fun _ H' => Q .non H', rt := Q } (start ["places"] vs) H := by
  obtain ⟨P, rfl, hP, k⟩ := h
  exact s_retS (ev_shl ev_c (ev_var rfl) (shl_ok hP)) (Ex.refl H) k
theorem call_one (h : Ev ta σ Hs (.int P)) (hP : 0 ≤ P ∧ P ≤ 60) : Ev (tCall (sp_one c) [] C8.E0 (tCons ta tNil)) σ Hs (.int (one P)) := by
  refine ev_callS (as_cons (c_evI h) mo_c fun _ _ => as_nil) ?_
  rintro vs H1 _ ⟨_, _, rfl, p1, rfl⟩ H2 _ Q1 k1
  cases p1
  exact ⟨P, rfl, hP, k1⟩
theorem rd_in_lowest_terms (h : sp_in_lowest_terms c vs H Q E) : t_in_lowest_terms c { nx := fun _ H' => Q .non H', rt := Q } (start ["units", "one", "common"] vs) H := by
  obtain ⟨Hs, u, o, e, rfl, ho, k⟩ := h
  have g1 := gcd_pos (a := u) ho.1
  have g2 := gcd_le (a := u) ho.1
  refine q_set (ev_gcd (ev_var rfl) (ev_var rfl)) e fun H2 e2 => ?_
  exact s_retP (ep_pair (c := cI) (d := cI) (c_evI (ev_div (ev_var rfl) (ev_var rfl) (divW g1 (by omega) _))) (c_evI (ev_div (ev_var rfl) (ev_var rfl) (divW g1 (by omega) _)))) (e.trans e2) (on_b k e e2)
theorem call_lowest {u o : Int} (h1 : Ev ta σ Hs (.int u)) (h2 : Ev tb σ Hs (.int o)) (ho : 0 < o ∧ o ≤ 2 ^ 60) : EvC (tCall (sp_in_lowest_terms c) [] C8.E0 (tCons ta (tCons tb tNil))) σ Hs (cP cI cI) (lowest u o) := by
  refine ep_call (as_cons (c_evI h1) mo_c fun _ e1 => as_cons (c_evI (h2.mono e1)) mo_c fun _ _ => as_nil) ?_
  rintro vs H1 _ ⟨_, _, rfl, p1, _, _, rfl, p2, rfl⟩ H2 e2 Q1 k1
  cases p1
  cases p2
  exact ⟨H1, u, o, e2, rfl, ho, k1⟩
theorem rd_missing (h : sp_missing c vs H Q E) : t_missing c { nx := fun _ H' => Q .non H', rt := Q } (start ["line", "his", "place"] vs) H := by
  obtain ⟨Hs, u, v, l, hs, e, rfl, hl, hh, hz, k⟩ := h
  refine s_retS (ev_lenC (EvF.toC (ef_filter (ei_list (ec_var rfl hl)) (fun x => !decide (x ∈ hs)) hz fun a x Hs' ha e' ca => ?_))) e k
  cases ca
  exact ⟨et_test (ev_notIn (ev_var rfl) (ec_var rfl (Mo.mo e' hh))), fun _ => ec_var rfl rfl⟩
theorem call_missing {l : List Int} (h1 : EvC ta σ Hs (cL cI) l) (h2 : EvC tb σ Hs (cL cI) hs) (hz : l.length ≤ 40000) : Ev (tCall (sp_missing c) [] C8.E0 (tCons ta (tCons tb tNil))) σ Hs (.int (missing l hs)) := by
  refine ev_callS (as_cons h1 mo_c fun _ e1 => as_cons (EvC.lift h2 e1) mo_c fun _ _ => as_nil) ?_
  rintro vs H1 _ ⟨_, _, rfl, p1, _, _, rfl, p2, rfl⟩ H2 e2 Q1 k1
  exact ⟨H1, _, _, l, hs, e2, rfl, p1, p2, hz, k1⟩
theorem rd_units_of_line (h : sp_units_of_line c vs H Q E) : t_units_of_line c { nx := fun _ H' => Q .non H', rt := Q } (start ["places", "line", "his", "mine", "place"] vs) H := by
  obtain ⟨Hs, P, u, v, w, l, hs, ms, e, rfl, h1, h2, h3, hP, k⟩ := h
  have hz : l.length ≤ 40000 := by omega
  have hm := missing_le l hs
  refine q_whenB (et_B (ev_any (EvF.toC (ef_mapN (d := cB) (ei_list (ec_var rfl h1)) (fun x => decide (x ∈ ms)) hz fun a x Hs' ha e' ca => ?_)))) e (fun hb H2 e2 => ?_) (fun hb H2 e2 => ?_)
  · cases ca
    exact c_evB (ev_in (ev_var rfl) (ec_var rfl (Mo.mo e' h3)))
  · refine s_retS ev_c (e.trans e2) (on_v (v := .int 0) ?_ e2)
    unfold unit at k
    rw [if_pos hb] at k
    exact k
  · refine s_retS (ev_shl ev_c (ev_sub (ev_var rfl) (call_missing (ec_var rfl h1) (ec_var rfl h2) hz)) (shl_ok (by omega))) (e.trans e2) (on_v (v := .int (1 * 2 ^ (P - (missing l hs : Int)).toNat)) ?_ e2)
    unfold unit at k
    rw [if_neg (by rw [hb]; exact Bool.false_ne_true)] at k
    exact k
theorem call_unit {l : List Int} (h0 : Ev ta σ Hs (.int P)) (h1 : EvC tb σ Hs (cL cI) l) (h2 : EvC tc σ Hs (cL cI) hs) (h3 : EvC td σ Hs (cL cI) ms) (hP : P ≤ 60 ∧ (l.length : Int) ≤ P) :
    Ev (tCall (sp_units_of_line c) [] C8.E0 (tCons ta (tCons tb (tCons tc (tCons td tNil))))) σ Hs (.int (unit P l hs ms)) := by
  refine ev_callS (as_cons (c_evI h0) mo_c fun _ e1 => as_cons (EvC.lift h1 e1) mo_c fun _ e2 => as_cons (EvC.lift h2 (e1.trans e2)) mo_c fun _ e3 => as_cons (EvC.lift h3 ((e1.trans e2).trans e3)) mo_c fun _ _ => as_nil) ?_
  rintro vs H1 _ ⟨_, _, rfl, p1, u, _, rfl, p2, v, _, rfl, p3, w, _, rfl, p4, rfl⟩ H2 e2 Q1 k1
  cases p1
  exact ⟨H1, P, u, v, w, l, hs, ms, e2, rfl, p2, p3, p4, hP, k1⟩
theorem rd_units_of_lines (h : sp_units_of_lines c vs H Q E) : t_units_of_lines c { nx := fun _ H' => Q .non H', rt := Q } (start ["places", "lines", "his", "mine", "line"] vs) H := by
  obtain ⟨Hs, P, ls, hs, ms, ⟨u, v, w, e, rfl, h1, h2, h3, f⟩, k⟩ := h
  have := f.few
  refine s_retF (ef_mapN (d := cI) (ei_list (ec_var rfl h1)) (fun l => unit P l hs ms) (by omega) fun a x Hs' ha e' ca => ?_) e k
  exact c_evI (call_unit (ev_var rfl) (ec_var rfl ca) (ec_var rfl (Mo.mo e' h2)) (ec_var rfl (Mo.mo e' h3)) ⟨f.p.2, f.len a ha⟩)
theorem as_play3 (h1 : Ev ta σ Hs (.int P)) (h2 : EvC tb σ Hs (cL (cL cI)) ls) (h3 : EvC tc σ Hs (cL cI) hs) (h4 : EvC td σ Hs (cL cI) ms) (b : Fits P ls) :
    EvAs (tCons ta (tCons tb (tCons tc (tCons td tNil)))) σ Hs fun vs H => ∀ H2, Ex H H2 → Play3 H H2 (vs ++ []) P ls hs ms := by
  refine (as_cons (c_evI h1) mo_c fun _ e1 => as_cons (EvC.lift h2 e1) mo_c fun _ e2 => as_cons (EvC.lift h3 (e1.trans e2)) mo_c fun _ e3 => as_cons (EvC.lift h4 ((e1.trans e2).trans e3)) mo_c fun _ _ => as_nil).imp ?_
  rintro vs H1 _ ⟨_, _, rfl, p1, u, _, rfl, p2, v, _, rfl, p3, w, _, rfl, p4, rfl⟩ H2 e2
  cases p1
  exact ⟨u, v, w, e2, rfl, p2, p3, p4, b⟩
theorem call_unitsL (h1 : Ev ta σ Hs (.int P)) (h2 : EvC tb σ Hs (cL (cL cI)) ls) (h3 : EvC tc σ Hs (cL cI) hs) (h4 : EvC td σ Hs (cL cI) ms) (b : Fits P ls) :
    EvFC (tCall (sp_units_of_lines c) [] C8.E0 (tCons ta (tCons tb (tCons tc (tCons td tNil))))) σ Hs cI (unitsL P ls hs ms) :=
  ef_call (as_play3 h1 h2 h3 h4 b) fun vs H1 _ p H2 e2 Q1 k1 => ⟨H1, P, ls, hs, ms, p H2 e2, k1⟩
theorem rd_total (h : sp_total c vs H Q E) : t_total c { nx := fun _ H' => Q .non H', rt := Q } (start ["places", "lines", "his", "mine"] vs) H := by
  obtain ⟨Hs, P, ls, hs, ms, ⟨u, v, w, e, rfl, h1, h2, h3, f⟩, k⟩ := h
  exact s_retS (ev_sum (EvF.toC (call_unitsL (ev_var rfl) (ec_var rfl h1) (ec_var rfl h2) (ec_var rfl h3) f))) e k
theorem call_total (h1 : Ev ta σ Hs (.int P)) (h2 : EvC tb σ Hs (cL (cL cI)) ls) (h3 : EvC tc σ Hs (cL cI) hs) (h4 : EvC td σ Hs (cL cI) ms) (b : Fits P ls) :
    Ev (tCall (sp_total c) [] C8.E0 (tCons ta (tCons tb (tCons tc (tCons td tNil))))) σ Hs (.int (total P ls hs ms)) :=
  ev_callS (as_play3 h1 h2 h3 h4 b) fun vs H1 _ p H2 e2 Q1 k1 => ⟨H1, P, ls, hs, ms, p H2 e2, k1⟩
theorem rd_free_places (h : sp_free_places c vs H Q E) : t_free_places c { nx := fun _ H' => Q .non H', rt := Q } (start ["places", "his", "mine", "place"] vs) H := by
  obtain ⟨Hs, P, u, v, hs, ms, e, rfl, h1, h2, hP, k⟩ := h
  refine s_retF (ef_filter (ei_rng (ea_cons (ev_var rfl) ea_nil) (by omega) (by omega)) (fun p => !decide ((p : Int) ∈ hs) && !decide ((p : Int) ∈ ms)) (by rw [List.length_range]; omega) fun a x Hs' ha e' ca => ?_) e k
  cases ca
  exact ⟨et_and (et_test (ev_notIn (ev_var rfl) (ec_var rfl (Mo.mo e' h1)))) fun _ => et_test (ev_notIn (ev_var rfl) (ec_var rfl (Mo.mo e' h2))), fun _ => ec_var rfl rfl⟩
theorem call_free (h1 : Ev ta σ Hs (.int P)) (h3 : EvC tb σ Hs (cL cI) hs) (h4 : EvC tc σ Hs (cL cI) ms) (hP : 0 ≤ P ∧ P ≤ 60) : EvFC (tCall (sp_free_places c) [] C8.E0 (tCons ta (tCons tb (tCons tc tNil)))) σ Hs cN (freeP P hs ms) := by
  refine ef_call (as_cons (c_evI h1) mo_c fun _ e1 => as_cons (EvC.lift h3 e1) mo_c fun _ e2 => as_cons (EvC.lift h4 (e1.trans e2)) mo_c fun _ _ => as_nil) ?_
  rintro vs H1 _ ⟨_, _, rfl, p1, u, _, rfl, p2, v, _, rfl, p3, rfl⟩ H2 e2 Q1 k1
  cases p1
  exact ⟨H1, P, u, v, hs, ms, e2, rfl, p2, p3, hP, k1⟩
end
end LH

namespace LH
open PySem L2 Evl PyProof.Rows
/-! ### dicts -/
def IsDct (H : Hp) (d : Addr) (kvs : List (Key × V)) : Prop := H d = some (.dK kvs) ∨ ∃ od, H d = some (.frz od (.dK kvs))
theorem isDct_ex {H H2 : Hp} {d : Addr} {kvs : List (Key × V)} (e : Ex H H2) (h : IsDct H d kvs) : IsDct H2 d kvs := h.elim (fun h => .inl (e _ _ h)) fun ⟨od, h⟩ => .inr ⟨od, e _ _ h⟩
theorem isDct_rd {H : Hp} {d : Addr} {kvs : List (Key × V)} (h : IsDct H d kvs) : Rd H d (.dK kvs) := h
section
variable {σ : L2.St} {Hs H : Hp} {ta tb tc : TE} {v : V} {K : PySem.W.Frag} {D : Ends} {tz tu : TS} {i j : Nat} {d p : Addr} {kvs : List (Key × V)} {k : Key}
theorem ev_dget (h : IsDct Hs d kvs) (ha : Ev ta σ Hs (.ref d)) (hb : Ev tb σ Hs (kV k)) (hv : valV kvs k = some v) : Ev (tDGet ta tb) σ Hs v := fun H e Q q =>
  ha H e _ fun H2 e2 => hb H2 (e.trans e2) _ fun H3 e3 => ⟨d, v, rfl, .inl ⟨kvs, k, isDct_rd (isDct_ex ((e.trans e2).trans e3) h), rfl, hv.symm⟩, q H3 (e2.trans e3)⟩
theorem ev_din (h : IsDct Hs d kvs) (hb : Ev tb σ Hs (kV k)) (ha : Ev ta σ Hs (.ref d)) : Ev (tDIn tb ta) σ Hs (.bl (valV kvs k).isSome) := fun H e Q q =>
  hb H e _ fun H2 e2 => ha H2 (e.trans e2) _ fun H3 e3 => ⟨d, _, rfl, .inl ⟨kvs, k, isDct_rd (isDct_ex ((e.trans e2).trans e3) h), rfl, rfl⟩, q H3 (e2.trans e3)⟩
theorem ev_dnotin (h : IsDct Hs d kvs) (hb : Ev tb σ Hs (kV k)) (ha : Ev ta σ Hs (.ref d)) : Ev (tDNotIn tb ta) σ Hs (.bl (!(valV kvs k).isSome)) := fun H e Q q =>
  hb H e _ fun H2 e2 => ha H2 (e.trans e2) _ fun H3 e3 => ⟨d, _, rfl, .inl ⟨kvs, k, isDct_rd (isDct_ex ((e.trans e2).trans e3) h), rfl, rfl⟩, q H3 (e2.trans e3)⟩
/-- d[k] = v, d our own -/
theorem s_dput (hd : H d = some (.dK kvs)) (e : Ex Hs H) (hv : Ev tc σ Hs v) (ha : Ev ta σ Hs (.ref d)) (hb : Ev tb σ Hs (kV k)) (hl : kvs.length ≤ 40000) (q : ∀ H2, Ex H H2 → D.nx σ (upd H2 d (.dK (putK kvs k v)))) : sDPut ta tb tc D σ H :=
  hv H e _ fun H1 e1 => ha H1 (e.trans e1) _ fun H2 e2 => hb H2 ((e.trans e1).trans e2) _ fun H3 e3 =>
    ⟨d, _, rfl, .inl ⟨kvs, k, e3 _ _ (e2 _ _ (e1 _ _ hd)), rfl, size_lt hl, rfl⟩, q H3 ((e1.trans e2).trans e3)⟩
theorem q_dput (hd : H d = some (.dK kvs)) (e : Ex Hs H) (hv : Ev tc σ Hs v) (ha : Ev ta σ Hs (.ref d)) (hb : Ev tb σ Hs (kV k)) (hl : kvs.length ≤ 40000) (q : ∀ H2, Ex H H2 → tz D σ (upd H2 d (.dK (putK kvs k v)))) : tSeq (sDPut ta tb tc) tz D σ H :=
  s_dput (D := { D with nx := tz D }) hd e hv ha hb hl q
/-- d = {} -/
theorem q_dnew (k : ∀ d, H d = none → tz D (σ.set i (some (.ref d))) (upd H d (.dK []))) : tSeq (tAsg tDNewK (gName i)) tz D σ H := fun d hd => k d hd
theorem mut_dk {kvs : List (Key × V)} : Mut (some (.dK kvs)) := trivial
/-- for k in d, d our own: locked within -/
theorem q_keys (hd : H d = some (.dK kvs)) (hv : σ[i]? = some (some (.ref d)))
    (k : ∀ od, ∃ Pv : List (Key × V) → L2.St → Hp → Prop, Pv [] σ (upd H d (.frz od (.dK kvs))) ∧ (∀ pre σ' H', Pv pre σ' H' → H' d = some (.frz od (.dK kvs))) ∧
      (∀ pre kv post σ' H', kvs = pre ++ kv :: post → Pv pre σ' H' → tu { nx := Pv (pre ++ [kv]), rt := fun v H' => H' d = some (.frz od (.dK kvs)) ∧ D.rt v (upd H' d (.dK kvs)), bk := fun σ' H' => H' d = some (.frz od (.dK kvs)) ∧ tz D σ' (upd H' d (.dK kvs)), ct := Pv (pre ++ [kv]) } (σ'.set j (some (kV kv.1))) H') ∧
      ∀ σ' H', Pv kvs σ' H' → tz D σ' (upd H' d (.dK kvs))) : tSeq (tLock (tFor (iKeys (tVar i)) (gName j) tu)) tz D σ H := by
  refine ⟨d, .dK kvs, hd, mut_dk, fun od => ⟨.ref d, hv, d, od, rfl, .inl ⟨kvs, upd_same, ?_⟩⟩⟩
  obtain ⟨Pv, p0, pf, ps, pd⟩ := k od
  refine for_it walk_keys (fun n σ' H' => Pv (kvs.take n) σ' H') (by simpa using p0) (fun n σ' H' _ p => pf _ _ _ p) (fun n x σ' H' H'' hn p y => ?_) (fun σ' H' p => ?_)
  · obtain ⟨rfl, key, w, h1, rfl⟩ := y
    obtain ⟨e1, e2⟩ := take_snoc h1
    have q := ps (kvs.take n) (key, w) (kvs.drop (n + 1)) σ' _ e2 p
    rw [← e1] at q
    exact q
  · rw [List.take_length] at p
    exact ⟨pf _ _ _ p, pd σ' H' p⟩
end
/-- p[n] = e, p our own list -/
theorem s_setAt {σ : L2.St} {Hs H : Hp} {te ta tb : TE} {P : V → Hp → Prop} {D : Ends} {p : Addr} {xs : List V} {n : Nat} (hp : Hs p = none) (h2 : H p = some (.lst xs)) (e : Ex Hs H) (h : EvP te σ Hs P) (ho : Ev ta σ Hs (.ref p)) (hi : Ev tb σ Hs (.int (n : Int))) (hn : n < xs.length)
    (k : ∀ v H2 Hs2, Ex Hs2 (upd H2 p (.lst (xs.set n v))) → Ex Hs Hs2 → Ex H H2 → Hs2 p = none → (∀ q, Hs q = none → H q ≠ none → Hs2 q = none) → P v Hs2 → D.nx σ (upd H2 p (.lst (xs.set n v)))) : tAsg te (gSub ta tb rSetL) D σ H :=
  h H e _ fun v H2 Hs2 g pv => ho H2 (e.trans g.b) _ fun H3 e3 => hi H3 ((e.trans g.b).trans e3) _ fun H4 e4 => by
    have np : Hs2 p = none := g.f p hp (by rw [h2]; exact fun z => nomatch z)
    refine ⟨p, xs, n, n, rfl, rfl, e4 _ _ (e3 _ _ (g.b _ _ h2)), ixN_nat hn, k v H4 Hs2 (fun a o q => ?_) g.s ((g.b.trans e3).trans e4) np g.f pv⟩
    rw [upd_ne (fun z => by rw [z, np] at q; cases q)]
    exact e4 _ _ (e3 _ _ (g.i a o q))
/-! what the dict holds -/
theorem valV_map {f : Nat → V} : ∀ {l : List Nat} {p : Nat}, p ∈ l → valV (l.map fun (q : Nat) => ((Sum.inl (q : Int) : Key), f q)) (Sum.inl (p : Int)) = some (f p)
  | [], p, h => by cases h
  | q :: r, p, h => by
    unfold valV
    rw [List.map_cons, List.find?_cons]
    by_cases e : q = p
    · subst e
      rw [decide_eq_true rfl]
      rfl
    · have e2 : decide ((Sum.inl (q : Int) : Key) = Sum.inl (p : Int)) = false := decide_eq_false fun z => e (by have := Sum.inl.inj z; omega)
      rw [e2]
      exact valV_map ((List.mem_cons.mp h).resolve_left fun z => e z.symm)
theorem putK_new' {f : Nat → V} {l : List Nat} {p : Nat} {v : V} (h : p ∉ l) : putK (l.map fun (q : Nat) => ((Sum.inl (q : Int) : Key), f q)) (Sum.inl (p : Int)) v = (l.map fun (q : Nat) => ((Sum.inl (q : Int) : Key), f q)) ++ [(Sum.inl (p : Int), v)] := by
  unfold putK
  rw [if_neg]
  intro z
  obtain ⟨kv, h1, h2⟩ := List.any_eq_true.mp z
  obtain ⟨q, h3, rfl⟩ := List.mem_map.mp h1
  have h4 := of_decide_eq_true h2
  have h5 : (q : Int) = (p : Int) := Sum.inl.inj h4
  exact h ((by omega : q = p) ▸ h3)
end LH

namespace LH
open PySem L2 Evl PyProof.Rows
section
variable {c : Cn} {vs : List V} {H : Hp} {Q : VK} {E : XK} {σ : L2.St} {Hs : Hp} {ta tb tc td : TE} {P : Int} {ls : List (List Int)} {hs ms : List Int}
theorem Board.fits (b : Board P ls hs ms) : Fits P ls := ⟨b.p, b.l.few, fun l hl => (b.l.ok l hl).len⟩
theorem freeP_nodup (P : Int) (hs ms : List Int) : (freeP P hs ms).Nodup := List.Nodup.sublist List.filter_sublist List.nodup_range
theorem freeP_len (P : Int) (hs ms : List Int) : (freeP P hs ms).length ≤ P.toNat := Nat.le_trans (List.length_filter_le _ _) (Nat.le_of_eq List.length_range)
theorem unitsD_len (l : List Nat) : (unitsD P ls hs ms l).length = l.length := by unfold unitsD; rw [List.length_map]
theorem rd_units_of_free (h : sp_units_of_free c vs H Q E) : t_units_of_free c { nx := fun _ H' => Q .non H', rt := Q } (start ["places", "lines", "his", "mine", "of_lines", "units", "place", "line", "part"] vs) H := by
  obtain ⟨Hs, P, ls, hs, ms, ⟨u, v, w, e, rfl, h1, h2, h3, f⟩, k⟩ := h
  have hp := f.p
  have hfew := f.few
  refine q_setP (EvF.toC (call_unitsL (ev_var rfl) (ec_var rfl h1) (ec_var rfl h2) (ec_var rfl h3) f)) e fun x H2 Hs2 g hx => ?_
  refine q_dnew fun d hd => ?_
  have d2 : Hs2 d = none := fresh_back g.i hd
  have d0 : H d = none := fresh_back g.b hd
  refine q_for (ei_list (EvF.toC (call_free (Hs := Hs2) (ev_var rfl) (ec_var rfl (Mo.mo g.s h2)) (ec_var rfl (Mo.mo g.s h3)) (by omega)))) (g.i.trans (Ex.new hd)) fun Hs3 H3 g3 => ?_
  have d3 : Hs3 d = none := g3.f d d2 (by rw [upd_same]; exact fun z => nomatch z)
  refine ⟨fun pre σ' H' => ∃ y, σ' = [some (.int P), some u, some v, some w, some x, some (.ref d), y, none, none] ∧ Ex Hs3 H' ∧ Ex H H' ∧ H' d = some (.dK (unitsD P ls hs ms pre)),
    ⟨none, rfl, g3.i, g.b.trans ((Ex.new hd).trans g3.b), g3.b _ _ upd_same⟩, fun pre σ' H' ⟨y, _, p, _⟩ => p, ?_, ?_⟩
  · rintro pre a post z σ' H' Hs4 H4 hsrc ⟨y, rfl, i1, i2, i3⟩ g4 ca
    cases ca
    have ha : a ∈ freeP P hs ms := by rw [hsrc]; simp
    have hna : a ∉ pre := by
      have nd := freeP_nodup P hs ms
      rw [hsrc] at nd
      exact fun z => (List.nodup_append.mp nd).2.2 a z a (by simp) rfl
    have hlen : pre.length ≤ 60 := by
      have h1 := freeP_len P hs ms
      rw [hsrc] at h1
      simp at h1
      omega
    have ex4 : Ex Hs Hs4 := (g.s.trans g3.s).trans g4.s
    have hx4 : cL cI (unitsL P ls hs ms) Hs4 x := Mo.mo (g3.s.trans g4.s) hx
    have hul : (unitsL P ls hs ms).length = ls.length := by unfold unitsL; rw [List.length_map]
    refine s_dput (Hs := Hs4) (kvs := unitsD P ls hs ms pre) (k := Sum.inl (a : Int)) (v := .int (worthU P ls hs ms a)) (g4.b _ _ i3) g4.i (ev_sum (EvF.toC (ef_compT (d := cI) (c1 := cL cI) (c2 := cI) (ei_zip (c := cL cI) (d := cI) (l := ls) (m := unitsL P ls hs ms) ?_) (fun q => decide ((a : Int) ∈ q.1)) (fun q => q.2) (by rw [List.length_zip]; omega) fun q s t Hs' hq e' cs ct => ?_))) (ev_var rfl) (ev_var rfl) (by rw [unitsD_len]; omega) fun H5 e5 => ?_
    · refine (as_cons (ec_var rfl (Mo.mo ex4 h1)) mo_c fun _ e1 => as_cons (ec_var rfl (Mo.mo e1 hx4)) mo_c fun _ _ => as_nil).imp ?_
      rintro vs H1 _ ⟨s, _, rfl, p1, t, _, rfl, p2, rfl⟩
      exact ⟨s, t, rfl, p1, p2⟩
    · cases ct
      exact ⟨et_test (ev_in (ev_var rfl) (ec_var rfl cs)), fun _ => ec_var rfl rfl⟩
    · refine ⟨some (.int (a : Int)), rfl, ((i1.trans g4.b).trans e5).mut d3, ((i2.trans g4.b).trans e5).mut d0, ?_⟩
      rw [upd_same]
      unfold unitsD
      rw [putK_new' hna, List.map_append]
      rfl
  · rintro σ' H' ⟨y, rfl, i1, i2, i3⟩
    refine s_retS (Hs := Hs3) (ev_var rfl) i1 fun H4 e4 => k d H4 Hs3 ⟨g.s.trans g3.s, i2.trans e4, i1.trans e4, fun q n1 n2 => ?_⟩ d0 d3 (e4 _ _ i3)
    exact g3.f q (g.f q n1 n2) (up_some (g.b.trans (Ex.new hd)) n2)
theorem call_check (h1 : Ev ta σ Hs (.int P)) (h2 : EvC tb σ Hs (cL (cL cI)) ls) (h3 : EvC tc σ Hs (cL cI) hs) (h4 : EvC td σ Hs (cL cI) ms) (b : Board P ls hs ms) :
    EvP (tCall (sp_check_play c) [] C8.E0 (tCons ta (tCons tb (tCons tc (tCons td tNil))))) σ Hs fun _ _ => True :=
  ep_ev (ev_callS (z := .non) (as_play h1 h2 h3 h4 b) fun vs H1 _ p H2 e2 Q1 k1 => ⟨H1, P, ls, hs, ms, p H2 e2, k1⟩) trivial
theorem call_unitsD {D : Ends} {tz : TS} {i : Nat} (h1 : Ev ta σ Hs (.int P)) (h2 : EvC tb σ Hs (cL (cL cI)) ls) (h3 : EvC tc σ Hs (cL cI) hs) (h4 : EvC td σ Hs (cL cI) ms) (b : Fits P ls) (e : Ex Hs H)
    (k : ∀ d H2 Hs2, Grow Hs H Hs2 H2 → H d = none → Hs2 d = none → H2 d = some (.dK (unitsD P ls hs ms (freeP P hs ms))) → tz D (σ.set i (some (.ref d))) H2) :
    tSeq (tAsg (tCall (sp_units_of_free c) [] C8.E0 (tCons ta (tCons tb (tCons tc (tCons td tNil))))) (gName i)) tz D σ H :=
  show tCall (sp_units_of_free c) [] C8.E0 (tCons ta (tCons tb (tCons tc (tCons td tNil)))) σ H fun x H1 => tz D (σ.set i (some x)) H1 from as_play3 h1 h2 h3 h4 b H e _ fun vs H2 Hs2 g p => ⟨Hs2, P, ls, hs, ms, p H2 g.i, fun d H3 Hs3 g3 n1 n2 n3 => k d H3 Hs3 (g.trans g3) (fresh_back g.b n1) n2 n3⟩
theorem rd_danger (h : sp_danger c vs H Q E) : t_danger c { nx := fun _ H' => Q .non H', rt := Q } (start ["places", "lines", "his", "mine"] vs) H := by
  obtain ⟨Hs, P, ls, hs, ms, ⟨u, v, w, e, rfl, h1, h2, h3, b⟩, k⟩ := h
  have hp := b.p
  refine q_dropE (call_check (ev_var rfl) (ec_var rfl h1) (ec_var rfl h2) (ec_var rfl h3) b) e fun H2 Hs2 g => ?_
  exact s_retP (call_lowest (call_total (ev_var rfl) (ec_var rfl (Mo.mo g.s h1)) (ec_var rfl (Mo.mo g.s h2)) (ec_var rfl (Mo.mo g.s h3)) b.fits) (call_one (ev_var rfl) (by omega)) ⟨one_pos P, one_le hp.2⟩) g.i (on_p k g)
theorem mul2_ok (i : Int) : IntMulOk 2 i := CMul.ok (.inl ⟨by decide, by decide⟩)
theorem rd_sure (h : sp_sure c vs H Q E) : t_sure c { nx := fun _ H' => Q .non H', rt := Q } (start ["places", "lines", "his", "mine", "total"] vs) H := by
  obtain ⟨Hs, P, ls, hs, ms, ⟨u, v, w, e, rfl, h1, h2, h3, b⟩, k⟩ := h
  have hp := b.p
  refine q_dropE (call_check (ev_var rfl) (ec_var rfl h1) (ec_var rfl h2) (ec_var rfl h3) b) e fun H2 Hs2 g => ?_
  refine q_set (call_total (ev_var rfl) (ec_var rfl (Mo.mo g.s h1)) (ec_var rfl (Mo.mo g.s h2)) (ec_var rfl (Mo.mo g.s h3)) b.fits) g.i fun H3 e3 => ?_
  exact s_retP (ep_pair (c := cB) (d := cB) (c_evB (ev_lt (ev_var rfl) (call_one (ev_var rfl) (by omega)))) (c_evB (ev_lt (ev_mul ev_c (ev_var rfl) (mul2_ok _)) (call_one (ev_var rfl) (by omega))))) (g.i.trans e3) (on_p k (g.trans (Grow.up g.i e3)))
theorem rd_full (h : sp_full c vs H Q E) : t_full c { nx := fun _ H' => Q .non H', rt := Q } (start ["places", "lines", "his", "mine", "count", "line"] vs) H := by
  obtain ⟨Hs, P, ls, hs, ms, ⟨u, v, w, e, rfl, h1, h2, h3, b⟩, k⟩ := h
  have hl := b.l.few
  refine q_dropE (call_check (ev_var rfl) (ec_var rfl h1) (ec_var rfl h2) (ec_var rfl h3) b) e fun H2 Hs2 g => ?_
  refine s_retF (ef_compT (d := cN) (c1 := cN) (c2 := cL cI) (ei_enum (c := cL cI) (l := ls) ?_) (fun q => decide ((missing q.2 hs : Int) = 0)) (fun q => q.1) (by rw [List.length_zip, List.length_range]; omega) fun q s t Hs' hq e' cs ct => ?_) g.i (on_f k g)
  · refine (as_cons (ec_var rfl (Mo.mo g.s h1)) mo_c fun _ _ => as_nil).imp ?_
    rintro vs H1 _ ⟨s, _, rfl, p1, rfl⟩
    exact ⟨s, rfl, p1⟩
  · have hq2 : q.2 ∈ ls := (List.of_mem_zip hq).2
    exact ⟨et_test (ev_eqI (call_missing (ec_var rfl ct) (ec_var rfl (Mo.mo e' (Mo.mo g.s h2))) (by have := (b.l.ok _ hq2).few; omega)) ev_c), fun _ => ec_var rfl cs⟩
theorem unitsD_get {p : Nat} (h : p ∈ freeP P hs ms) : valV (unitsD P ls hs ms (freeP P hs ms)) (Sum.inl (p : Int)) = some (.int (worthU P ls hs ms (p : Int))) := valV_map (f := fun p => V.int (worthU P ls hs ms (p : Int))) h
/-- the keys, one by one -/
theorem unitsD_split {pre post : List (Key × V)} {kv : Key × V} {l : List Nat} (h : unitsD P ls hs ms l = pre ++ kv :: post) : ∃ (a : List Nat) (p : Nat) (b : List Nat), l = a ++ p :: b ∧ pre = unitsD P ls hs ms a ∧ kv = (Sum.inl (p : Int), V.int (worthU P ls hs ms (p : Int))) ∧ post = unitsD P ls hs ms b := by
  unfold unitsD at h
  obtain ⟨a, r, rfl, e1, e2⟩ := List.map_eq_append_iff.mp h
  obtain ⟨p, b, rfl, e3, e4⟩ := List.map_eq_cons_iff.mp e2
  exact ⟨a, p, b, rfl, e1.symm, e3.symm, e4.symm⟩
theorem unitsD_inj {a b : List Nat} (h : unitsD P ls hs ms a = unitsD P ls hs ms b) : a = b := by
  unfold unitsD at h
  have := congrArg (List.map Prod.fst) h
  rw [List.map_map, List.map_map] at this
  refine (List.map_inj_right (f := fun (p : Nat) => (Sum.inl (p : Int) : Key)) fun x y z => ?_).mp this
  have := Sum.inl.inj z
  omega
theorem rd_best (h : sp_best c vs H Q E) : t_best c { nx := fun _ H' => Q .non H', rt := Q } (start ["places", "lines", "his", "mine", "units", "chosen", "place"] vs) H := by
  obtain ⟨Hs, P, ls, hs, ms, ⟨u, v, w, e, rfl, h1, h2, h3, b⟩, k⟩ := h
  refine q_dropE (call_check (ev_var rfl) (ec_var rfl h1) (ec_var rfl h2) (ec_var rfl h3) b) e fun H2 Hs2 g => ?_
  refine call_unitsD (ev_var rfl) (ec_var rfl (Mo.mo g.s h1)) (ec_var rfl (Mo.mo g.s h2)) (ec_var rfl (Mo.mo g.s h3)) b.fits g.i fun d H3 Hs3 g3 n1 n2 n3 => ?_
  refine q_set (Hs := Hs3) ev_c g3.i fun H4 e4 => ?_
  have b04 : Ex H H4 := (g.b.trans g3.b).trans e4
  have d0 : H d = none := fresh_back g.b n1
  refine q_keys (e4 _ _ n3) rfl fun od => ?_
  refine ⟨fun pre σ' H' => ∃ y a, pre = unitsD P ls hs ms a ∧ (∀ p ∈ a, p ∈ freeP P hs ms) ∧ σ' = [some (.int P), some u, some v, some w, some (.ref d), some (oV (a.foldl (pick fun p => worthU P ls hs ms (p : Int)) none)), y] ∧ Ex H H' ∧ H' d = some (.frz od (.dK (unitsD P ls hs ms (freeP P hs ms)))),
    ⟨none, [], rfl, (fun _ h => by cases h), rfl, b04.mut d0, upd_same⟩, fun pre σ' H' ⟨_, _, _, _, _, _, h⟩ => h, ?_, ?_⟩
  · rintro pre kv post σ' H' hsrc ⟨y, a, ea, ha, rfl, i1, i2⟩
    obtain ⟨a', p, r, e1, e2, rfl, _⟩ := unitsD_split hsrc
    have eaa : a = a' := unitsD_inj (ea.symm.trans e2)
    subst eaa
    have hpf : p ∈ freeP P hs ms := by rw [e1]; simp
    have dct : IsDct H' d (unitsD P ls hs ms (freeP P hs ms)) := .inr ⟨od, i2⟩
    have gp := unitsD_get (ls := ls) hpf
    have q1 : unitsD P ls hs ms a ++ [(Sum.inl (p : Int), V.int (worthU P ls hs ms (p : Int)))] = unitsD P ls hs ms (a ++ [p]) := by unfold unitsD; rw [List.map_append]; rfl
    have q2 : ∀ q ∈ a ++ [p], q ∈ freeP P hs ms := fun q hq => (List.mem_append.mp hq).elim (ha q) fun z => (List.mem_singleton.mp z) ▸ hpf
    cases ho : a.foldl (pick fun p => worthU P ls hs ms (p : Int)) none with
    | none =>
      refine s_whenB (Hs := H') (et_or (a := true) (b := true) (et_test (ev_to (ev_isN (ev_var rfl)) rfl)) (fun z => nomatch z)) (Ex.refl _) (fun _ H5 e5 => ?_) (fun z => nomatch z)
      refine s_set (Hs := H5) (ev_var rfl) (Ex.refl _) fun H6 e6 => ?_
      refine ⟨some (.int (p : Int)), a ++ [p], by rw [ea, q1], q2, ?_, (i1.trans e5).trans e6, e6 _ _ (e5 _ _ i2)⟩
      rw [List.foldl_append, ho]
      rfl
    | some q =>
      have hq : q ∈ freeP P hs ms := by
        have : ∀ (l : List Nat) (o : Option Nat), (∀ x, o = some x → x ∈ freeP P hs ms) → (∀ x ∈ l, x ∈ freeP P hs ms) → ∀ x, l.foldl (pick fun p => worthU P ls hs ms (p : Int)) o = some x → x ∈ freeP P hs ms := by
          intro l
          induction l with
          | nil => exact fun o h1 _ x hx => h1 x hx
          | cons z l ih =>
            intro o h1 h2 x hx
            refine ih _ (fun x hx => ?_) (fun x hx => h2 x (List.mem_cons_of_mem _ hx)) x hx
            unfold pick at hx
            cases o with
            | none => exact Option.some.inj hx ▸ h2 z List.mem_cons_self
            | some o =>
              dsimp only at hx
              split at hx
              · exact Option.some.inj hx ▸ h2 z List.mem_cons_self
              · exact Option.some.inj hx ▸ h1 o rfl
        exact this a none (fun _ h => nomatch h) ha q ho
      have gq := unitsD_get (ls := ls) hq
      refine s_whenB (Hs := H') (et_or (a := false) (b := decide (worthU P ls hs ms (q : Int) < worthU P ls hs ms (p : Int))) (et_test (ev_to (ev_isN (ev_var rfl)) rfl)) (fun _ => et_test (ev_gt (ev_dget (k := Sum.inl (p : Int)) dct (ev_var rfl) (ev_var rfl) gp) (ev_dget (k := Sum.inl (q : Int)) dct (ev_var rfl) (ev_var rfl) gq)))) (Ex.refl _) (fun hb H5 e5 => ?_) (fun hb H5 e5 => ?_)
      · refine s_set (Hs := H5) (ev_var rfl) (Ex.refl _) fun H6 e6 => ?_
        refine ⟨some (.int (p : Int)), a ++ [p], by rw [ea, q1], q2, ?_, (i1.trans e5).trans e6, e6 _ _ (e5 _ _ i2)⟩
        have hb' : worthU P ls hs ms (q : Int) < worthU P ls hs ms (p : Int) := by simpa using hb
        rw [List.foldl_append, ho]
        show _ = [some (V.int P), some u, some v, some w, some (.ref d), some (oV (if worthU P ls hs ms (q : Int) < worthU P ls hs ms (p : Int) then some p else some q)), some (.int (p : Int))]
        rw [if_pos hb']
        rfl
      · refine ⟨some (.int (p : Int)), a ++ [p], by rw [ea, q1], q2, ?_, i1.trans e5, e5 _ _ i2⟩
        have hb' : ¬ worthU P ls hs ms (q : Int) < worthU P ls hs ms (p : Int) := by simpa using hb
        rw [List.foldl_append, ho]
        show _ = [some (V.int P), some u, some v, some w, some (.ref d), some (oV (if worthU P ls hs ms (q : Int) < worthU P ls hs ms (p : Int) then some p else some q)), some (.int (p : Int))]
        rw [if_neg hb']
        rfl
  · rintro σ' H' ⟨y, a, ea, ha, rfl, i1, i2⟩
    have eaa : freeP P hs ms = a := unitsD_inj ea
    subst eaa
    exact s_retS (Hs := upd H' d (.dK (unitsD P ls hs ms (freeP P hs ms)))) (ev_var rfl) (Ex.refl _) (on_v k (i1.mut d0))
end
end LH

namespace LH
open PySem L2 Evl PyProof.Rows
theorem ef_rep {σ : L2.St} {Hs : Hp} {tb : TE} {n : Nat} {v : V} (hb : Ev tb σ Hs (.int (n : Int))) (hn : n ≤ 40000) : EvF (tOp rRep (tLst (tCons (tC v) tNil)) tb) σ Hs fun xs _ => xs = List.replicate n v := fun H e Q q =>
  ⟨Nat.le_of_lt (size_lt (show 1 ≤ 40000 by decide)), fun l hl => hb _ (e.trans (Ex.new hl)) _ fun H3 e3 => ⟨l, (n : Int), [v], rfl, rfl, e3 _ _ upd_same, by omega, by omega, by
    rw [Int.toNat_natCast]
    show 1 * n ≤ sizeLine
    rw [Nat.one_mul]
    exact Nat.le_of_lt (size_lt hn), fun p hp => by
    have b : Ex H H3 := (Ex.new hl).trans e3
    refine q p _ _ Hs (Grow.up e (b.trans (Ex.new hp))) (fresh_back b hp) (fresh_back (e.trans b) hp) upd_same ?_
    rw [Int.toNat_natCast, List.flatten_replicate_singleton]⟩⟩
theorem marks_snoc {β : Type} (n : Nat) (g : Nat → β) (a : List Nat) {p : Nat} (hp : p < n) :
    ((List.range n).map fun q => if q ∈ a ++ [p] then some (g q) else none) = ((List.range n).map fun q => if q ∈ a then some (g q) else none).set p (some (g p)) := by
  refine List.ext_getElem (by simp) fun i h1 h2 => ?_
  have hi : i < n := by simpa using h1
  rw [List.getElem_set]
  simp only [List.getElem_map, List.getElem_range, List.mem_append, List.mem_singleton]
  by_cases e : p = i
  · subst e
    simp
  · have e' : ¬ i = p := fun z => e z.symm
    simp [e, e']
theorem marks_nil {β : Type} (n : Nat) (g : Nat → β) : ((List.range n).map fun q => if q ∈ ([] : List Nat) then some (g q) else none) = List.replicate n none := by
  refine List.ext_getElem (by simp) fun i h1 h2 => ?_
  simp
theorem Paired.setAt {α : Type} {F : α → V → Prop} {a : α} {v : V} (h : F a v) : ∀ {l : List α} {xs : List V} (n : Nat), Paired F l xs → Paired F (l.set n a) (xs.set n v)
  | _, _, _, .nil => .nil
  | _, _, 0, .cons _ t => .cons h t
  | _, _, n + 1, .cons q t => .cons q (Paired.setAt h n t)
theorem paired_rep {H : Hp} {α : Type} {c : Cd α} : ∀ n : Nat, Paired (fun b x => cO c b H x) (List.replicate n none) (List.replicate n .non)
  | 0 => .nil
  | n + 1 => .cons rfl (paired_rep n)
/-- all but d -/
def del (H : Hp) (d : Addr) : Hp := fun b => if b = d then none else H b
theorem del_ex {H : Hp} {d : Addr} : Ex (del H d) H := fun a o h => by
  unfold del at h
  split at h
  · cases h
  · exact h
theorem del_at {H : Hp} {d a : Addr} (h : a ≠ d) : del H d a = H a := if_neg h
theorem del_same {H : Hp} {d : Addr} : del H d d = none := if_pos rfl
theorem ex_del {A H : Hp} {d : Addr} (e : Ex A H) (h : A d = none) : Ex A (del H d) := fun a o q => by
  rw [del_at (ne_of_none q h)]
  exact e a o q
section
variable {c : Cn} {vs : List V} {H : Hp} {Q : VK} {E : XK}
theorem rd_worths (h : sp_worths c vs H Q E) : t_worths c { nx := fun _ H' => Q .non H', rt := Q } (start ["places", "lines", "his", "mine", "units", "pairs", "place"] vs) H := by
  obtain ⟨Hs, P, ls, hs, ms, ⟨u, v, w, e, rfl, h1, h2, h3, b⟩, k⟩ := h
  have hp := b.p
  refine q_dropE (call_check (ev_var rfl) (ec_var rfl h1) (ec_var rfl h2) (ec_var rfl h3) b) e fun H2 Hs2 g => ?_
  refine call_unitsD (ev_var rfl) (ec_var rfl (Mo.mo g.s h1)) (ec_var rfl (Mo.mo g.s h2)) (ec_var rfl (Mo.mo g.s h3)) b.fits g.i fun d H3 Hs3 g3 n1 n2 n3 => ?_
  have eP : P = (P.toNat : Int) := by omega
  refine q_setF (ef_rep (Hs := Hs3) (n := P.toNat) (ev_var (v := .int (P.toNat : Int)) (by rw [← eP]; rfl)) (by omega)) g3.i fun p xs H4 Hs4 g4 m1 m2 m3 hx => ?_
  subst hx
  have d0 : H d = none := fresh_back g.b n1
  have p0 : H p = none := fresh_back (g.b.trans g3.b) m1
  have d4 : Hs4 d = none := g4.f d n2 (by rw [n3]; exact fun z => nomatch z)
  have n4 := g4.b _ _ n3
  have pd : p ≠ d := fun z => by rw [z, n3] at m1; cases m1
  have b04 : Ex H H4 := (g.b.trans g3.b).trans g4.b
  have s04 : Ex Hs Hs4 := (g.s.trans g3.s).trans g4.s
  have f04 : ∀ q, Hs q = none → H q ≠ none → Hs4 q = none := fun q x y => g4.f q (g3.f q (g.f q x y) (up_some g.b y)) (up_some (g.b.trans g3.b) y)
  refine q_keys n4 rfl fun od => ?_
  refine ⟨fun pre σ' H' => ∃ y a xs Hi, pre = unitsD P ls hs ms a ∧ σ' = [some (.int P), some u, some v, some w, some (.ref d), some (.ref p), y] ∧ Ex H H' ∧ H' d = some (.frz od (.dK (unitsD P ls hs ms (freeP P hs ms)))) ∧
      Ex Hs Hi ∧ Ex Hi H' ∧ (∀ q, Hs q = none → H q ≠ none → Hi q = none) ∧ Hi d = none ∧ Hi p = none ∧ H' p = some (.lst xs) ∧
      Paired (fun b x => cO (cP cI cI) b Hi x) ((List.range P.toNat).map fun q => if q ∈ a then some (lowest (worthU P ls hs ms (q : Int)) (one P)) else none) xs,
    ⟨none, [], _, Hs4, rfl, rfl, b04.mut d0, upd_same, s04, g4.i.mut d4, f04, d4, m2, by rw [upd_ne pd]; exact m3, by rw [marks_nil]; exact paired_rep _⟩, fun pre σ' H' ⟨_, _, _, _, _, _, _, h, _⟩ => h, ?_, ?_⟩
  · rintro pre kv post σ' H' hsrc ⟨y, a, xs, Hi, ea, rfl, i1, i2, i3, i4, i5, i6, i7, i8, i9⟩
    obtain ⟨a', q, r, e1, e2, rfl, _⟩ := unitsD_split hsrc
    have eaa : a = a' := unitsD_inj (ea.symm.trans e2)
    subst eaa
    have hqf : q ∈ freeP P hs ms := by rw [e1]; simp
    have hqn : q < P.toNat := List.mem_range.mp (List.mem_filter.mp hqf).1
    have ex' : Ex (upd Hi d (.frz od (.dK (unitsD P ls hs ms (freeP P hs ms))))) H' := fun x o hx => by
      by_cases hxd : x = d
      · subst hxd; rw [upd_same] at hx; cases hx; exact i2
      · rw [upd_ne hxd] at hx; exact i4 x o hx
    have dct : IsDct (upd Hi d (.frz od (.dK (unitsD P ls hs ms (freeP P hs ms))))) d (unitsD P ls hs ms (freeP P hs ms)) := .inr ⟨od, upd_same⟩
    have hlen : xs.length = P.toNat := by rw [← i9.length]; simp
    refine s_setAt (n := q) (by rw [upd_ne pd]; exact i7) i8 ex' (call_lowest (ev_dget (k := Sum.inl (q : Int)) dct (ev_var rfl) (ev_var rfl) (unitsD_get hqf)) (call_one (ev_var rfl) (by omega)) ⟨one_pos P, one_le hp.2⟩) (ev_var rfl) (ev_var rfl) (by omega) fun x H5 Hs5 j1 j2 j3 j4 j5 j6 => ?_
    have hd5 : Hs5 d = some (.frz od (.dK (unitsD P ls hs ms (freeP P hs ms)))) := j2 _ _ upd_same
    have exi : Ex Hi (del Hs5 d) := ex_del ((Ex.new i6).trans j2) i6
    refine ⟨some (.int (q : Int)), a ++ [q], xs.set q x, del Hs5 d, by rw [ea]; unfold unitsD; rw [List.map_append]; rfl, rfl, (i1.trans j3).mut p0, ?_, i3.trans exi, del_ex.trans j1, fun z hz1 hz2 => ?_, del_same, ?_, upd_same, ?_⟩
    · rw [upd_ne pd.symm]
      exact j3 _ _ i2
    · by_cases hzd : z = d
      · rw [hzd]; exact del_same
      · rw [del_at hzd]
        exact j5 z (by rw [upd_ne hzd]; exact i5 z hz1 hz2) (up_some i1 hz2)
    · rw [del_at pd]
      exact j4
    · rw [marks_snoc P.toNat (fun q => lowest (worthU P ls hs ms (q : Int)) (one P)) a hqn]
      refine Paired.setAt ?_ q (paired_mo exi i9)
      obtain ⟨T, s, t, rfl, hT, hs', ht'⟩ := j6
      have hTd : T ≠ d := fun z => by rw [z, hd5] at hT; cases hT
      exact ⟨T, s, t, rfl, by rw [del_at hTd]; exact hT, hs', ht'⟩
  · rintro σ' H' ⟨y, a, xs, Hi, ea, rfl, i1, i2, i3, i4, i5, i6, i7, i8, i9⟩
    have eaa : freeP P hs ms = a := unitsD_inj ea
    subst eaa
    refine s_retS (Hs := Hi) (ev_var rfl) (i4.mut i6) fun H6 e6 => k p xs H6 Hi ⟨i3, (i1.mut d0).trans e6, (i4.mut i6).trans e6, i5⟩ p0 i7 (e6 _ _ (by rw [upd_ne pd]; exact i8)) i9
end
end LH

namespace LH
open PySem L2 Evl PyProof.Rows
/-! ### the script: a list of whole numbers that stands (it may be written) -/
def cS (K : PySem.W.Frag) : Cd (List Int) := fun l H v => ∃ a, v = .ref a ∧ SqL K H a (l.map V.int)
instance {K : PySem.W.Frag} : Mo (cS K) := ⟨fun e ⟨a, h1, h2⟩ => ⟨a, h1, ex_l e h2⟩⟩
section
variable {α β γ : Type} {c : Cd α} {d : Cd β} {f : Cd γ} {σ : L2.St} {Hs H : Hp} {te ta tb tc td : TE} {tt : TT} {K : PySem.W.Frag} {l : List Int} {b : Bool} {P : V → Hp → Prop} {PL : List V → Hp → Prop} {targ : TA}
theorem src_listS {a : Addr} (h : SqL K Hs a (l.map V.int)) : Src (Itl K a) Hs l cI := by
  have e : (l.map V.int).length = l.length := List.length_map _
  refine ⟨_, _, e ▸ walk_list (K := K) (a := a) (xs := l.map V.int), fun H e => ex_l e h, fun i H x H' hi eH y => ?_⟩
  obtain ⟨rfl, hx⟩ := y
  obtain ⟨b, hb, cb⟩ := Paired.at (ints_paired (H := Hs) l) hx
  exact ⟨b, Hs, hb, Grow.refl eH, cb⟩
theorem ei_listS (h : EvC te σ Hs (cS K) l) : EvI (iList K te) σ Hs l cI := fun H e R k => h H e _ fun v H2 Hs2 g ⟨a, h1, h2⟩ =>
  ⟨a, h1, ⟨_, ex_l g.i h2⟩, k _ H2 Hs2 g (src_listS h2)⟩
theorem ef_toS {n : Nat} {th : TE} (ha : EvC ta σ Hs (cS K) l) (h2 : Ev th σ Hs (.int (n : Int))) : EvFC (tSl (rSlL K) ta tNoPart (tPart th)) σ Hs cI (l.take n) := fun H e Q q =>
  ha H e _ fun v H2 Hs2 g ⟨a, e1, e2⟩ => eo_none H2 (e.trans g.b) _ fun H3 b3 => (eo_some h2) H3 ((e.trans g.b).trans b3) _ fun H4 b4 => ⟨a, _, e1, ex_l ((g.i.trans b3).trans b4) e2, fun p hp => by
    have gg : Grow Hs H Hs2 H4 := g.trans (Grow.up g.i (b3.trans b4))
    refine q p _ (upd H4 p _) Hs2 (gg.trans (Grow.up gg.i (Ex.new hp))) (fresh_back gg.b hp) (fresh_back gg.i hp) upd_same ?_
    rw [cut_to, ← List.map_take]
    exact ints_paired _⟩
theorem dp_int {H : Hp} (n : Int) : Dp K H (.int n) (.int n) := .int n
theorem dp_ints {H : Hp} : ∀ l : List Int, DpAll K H (l.map V.int) (l.map PyData.int)
  | [] => .nil
  | n :: r => .cons (.int n) (dp_ints r)
theorem ev_neNil (ha : EvC ta σ Hs (cS K) l) : Ev (tOp (rNeA K) ta (tLst tNil)) σ Hs (.bl (!decide (l = []))) := by
  refine ev_opP ha (fun _ _ _ e p => Mo.mo e p) (EvF.toC (c := cI) (l := []) ef_nil) (fun _ _ _ e p => Mo.mo e p) fun x y Hs1 _ p q H e Q k => .inr ⟨.list (l.map PyData.int), Dt.d (cL cI) [], ?_, Dt.dp (c := cL cI) (Mo.mo e q), ?_, shaped_of (c := cL cI) (by decide) [], ?_⟩
  · obtain ⟨a, rfl, h⟩ := p
    exact .lst (ex_l e h) (dp_ints l)
  · exact shaped_of (c := cL cI) (by decide) l
  · have h := dt_dec (c := cL cI) l []
    rw [show PyData.eqv (PyData.list (l.map PyData.int)) (Dt.d (cL cI) []) = _ from h]
    exact k H (Ex.refl _)
theorem ef_if (h : EvT tt σ Hs b) (h1 : b = true → EvF ta σ Hs PL) (h2 : b = false → EvF tb σ Hs PL) : EvF (tIf tt ta tb) σ Hs PL := fun H e Q q => h H e _ fun H2 e2 => by
  cases b with
  | true => exact iteT (h1 rfl H2 (e.trans e2) Q fun p xs H3 Hs3 g a1 a2 a3 a4 => q p xs H3 Hs3 ((Grow.up e e2).trans g) (fresh_back e2 a1) a2 a3 a4)
  | false => exact iteF (h2 rfl H2 (e.trans e2) Q fun p xs H3 Hs3 g a1 a2 a3 a4 => q p xs H3 Hs3 ((Grow.up e e2).trans g) (fresh_back e2 a1) a2 a3 a4)
theorem ep_if (h : EvT tt σ Hs b) (h1 : b = true → EvP ta σ Hs P) (h2 : b = false → EvP tb σ Hs P) : EvP (tIf tt ta tb) σ Hs P := fun H e Q q => h H e _ fun H2 e2 => by
  cases b with
  | true => exact iteT (h1 rfl H2 (e.trans e2) Q fun v H3 Hs3 g p => q v H3 Hs3 ((Grow.up e e2).trans g) p)
  | false => exact iteF (h2 rfl H2 (e.trans e2) Q fun v H3 Hs3 g p => q v H3 Hs3 ((Grow.up e e2).trans g) p)
end
/-! ### lists and tuples of things of several kinds -/
def cL2 {α β : Type} (c : Cd α) (d : Cd β) : Cd (α × β) := fun p H v => ∃ a x y, v = .ref a ∧ H a = some (.lst [x, y]) ∧ c p.1 H x ∧ d p.2 H y
def cL3 {α β γ : Type} (c : Cd α) (d : Cd β) (f : Cd γ) : Cd (α × β × γ) := fun p H v => ∃ a x y z, v = .ref a ∧ H a = some (.lst [x, y, z]) ∧ c p.1 H x ∧ d p.2.1 H y ∧ f p.2.2 H z
def cP3 {α β γ : Type} (c : Cd α) (d : Cd β) (f : Cd γ) : Cd (α × β × γ) := fun p H v => ∃ a x y z, v = .ref a ∧ H a = some (.tup [x, y, z]) ∧ c p.1 H x ∧ d p.2.1 H y ∧ f p.2.2 H z
section
variable {α β γ : Type} {c : Cd α} {d : Cd β} {f : Cd γ}
instance [Mo c] [Mo d] : Mo (cL2 c d) := ⟨fun e ⟨a, x, y, h1, h2, h3, h4⟩ => ⟨a, x, y, h1, e _ _ h2, Mo.mo e h3, Mo.mo e h4⟩⟩
instance [Mo c] [Mo d] [Mo f] : Mo (cL3 c d f) := ⟨fun e ⟨a, x, y, z, h1, h2, h3, h4, h5⟩ => ⟨a, x, y, z, h1, e _ _ h2, Mo.mo e h3, Mo.mo e h4, Mo.mo e h5⟩⟩
instance [Mo c] [Mo d] [Mo f] : Mo (cP3 c d f) := ⟨fun e ⟨a, x, y, z, h1, h2, h3, h4, h5⟩ => ⟨a, x, y, z, h1, e _ _ h2, Mo.mo e h3, Mo.mo e h4, Mo.mo e h5⟩⟩
instance [Dt c] [Dt d] : Dt (cL2 c d) where
  d := fun p => .list [Dt.d c p.1, Dt.d d p.2]
  dp := fun ⟨_, _, _, h1, h2, h3, h4⟩ => by rw [h1]; exact .lst (SqL.of h2) (.cons (Dt.dp h3) (.cons (Dt.dp h4) .nil))
  lay := fun p => by simp [PyData.canLay0, PyData.canLayAll0, Dt.lay (c := c) p.1, Dt.lay (c := d) p.2]
  dep := max (Dt.dep c) (Dt.dep d) + 1
  depth := fun p => by
    have h1 := Dt.depth (c := c) p.1
    have h2 := Dt.depth (c := d) p.2
    simp only [PyData.depth, PyData.depthAll]
    omega
  eqv := fun p q => by
    simp only [PyData.eqv, PyData.eqvAll, Bool.and_true, Bool.and_eq_true, Dt.eqv (c := c), Dt.eqv (c := d)]
    exact ⟨fun h => Prod.ext h.1 h.2, fun h => by rw [h]; exact ⟨rfl, rfl⟩⟩
instance [Dt c] [Dt d] [Dt f] : Dt (cL3 c d f) where
  d := fun p => .list [Dt.d c p.1, Dt.d d p.2.1, Dt.d f p.2.2]
  dp := fun ⟨_, _, _, _, h1, h2, h3, h4, h5⟩ => by rw [h1]; exact .lst (SqL.of h2) (.cons (Dt.dp h3) (.cons (Dt.dp h4) (.cons (Dt.dp h5) .nil)))
  lay := fun p => by simp [PyData.canLay0, PyData.canLayAll0, Dt.lay (c := c) p.1, Dt.lay (c := d) p.2.1, Dt.lay (c := f) p.2.2]
  dep := max (Dt.dep c) (max (Dt.dep d) (Dt.dep f)) + 1
  depth := fun p => by
    have h1 := Dt.depth (c := c) p.1
    have h2 := Dt.depth (c := d) p.2.1
    have h3 := Dt.depth (c := f) p.2.2
    simp only [PyData.depth, PyData.depthAll]
    omega
  eqv := fun p q => by
    simp only [PyData.eqv, PyData.eqvAll, Bool.and_true, Bool.and_eq_true, Dt.eqv (c := c), Dt.eqv (c := d), Dt.eqv (c := f)]
    exact ⟨fun h => Prod.ext h.1 (Prod.ext h.2.1 h.2.2), fun h => by rw [h]; exact ⟨rfl, rfl, rfl⟩⟩
variable {σ : L2.St} {Hs H : Hp} {te ta tb tc td : TE} {K : PySem.W.Frag} {a : α} {b : β} {g : γ}
theorem ep_lst2 [Mo c] [Mo d] (h1 : EvC ta σ Hs c a) (h2 : EvC tb σ Hs d b) : EvC (tLst (tCons ta (tCons tb tNil))) σ Hs (cL2 c d) (a, b) := by
  refine EvF.toP (ef_lst (as_cons h1 (fun _ _ _ e p => Mo.mo e p) fun Hs1 e => as_cons (EvC.lift h2 e) (fun _ _ _ e p => Mo.mo e p) fun _ _ => as_nil) ?_) ?_
  · rintro vs H ⟨v, r, rfl, _, w, r2, rfl, _, rfl⟩
    show 2 ≤ 40000
    decide
  · rintro p xs Hs2 e ⟨v, r, rfl, h, w, r2, rfl, h', rfl⟩ hp
    exact ⟨p, v, w, rfl, upd_same, Mo.mo (Ex.new hp) h, Mo.mo (Ex.new hp) h'⟩
theorem ep_lst3 [Mo c] [Mo d] [Mo f] (h1 : EvC ta σ Hs c a) (h2 : EvC tb σ Hs d b) (h3 : EvC tc σ Hs f g) : EvC (tLst (tCons ta (tCons tb (tCons tc tNil)))) σ Hs (cL3 c d f) (a, b, g) := by
  refine EvF.toP (ef_lst (as_cons h1 (fun _ _ _ e p => Mo.mo e p) fun Hs1 e => as_cons (EvC.lift h2 e) (fun _ _ _ e p => Mo.mo e p) fun Hs2 e2 => as_cons (EvC.lift h3 (e.trans e2)) (fun _ _ _ e p => Mo.mo e p) fun _ _ => as_nil) ?_) ?_
  · rintro vs H ⟨v, r, rfl, _, w, r2, rfl, _, x, r3, rfl, _, rfl⟩
    show 3 ≤ 40000
    decide
  · rintro p xs Hs2 e ⟨v, r, rfl, h, w, r2, rfl, h', x, r3, rfl, h'', rfl⟩ hp
    exact ⟨p, v, w, x, rfl, upd_same, Mo.mo (Ex.new hp) h, Mo.mo (Ex.new hp) h', Mo.mo (Ex.new hp) h''⟩
theorem ep_tup3 [Mo c] [Mo d] [Mo f] (h1 : EvC ta σ Hs c a) (h2 : EvC tb σ Hs d b) (h3 : EvC tc σ Hs f g) : EvC (tTup (tCons ta (tCons tb (tCons tc tNil)))) σ Hs (cP3 c d f) (a, b, g) := by
  have h := ep_tup (σ := σ) (Hs := Hs) (as_cons h1 (fun _ _ _ e p => Mo.mo e p) fun Hs1 e => as_cons (EvC.lift h2 e) (fun _ _ _ e p => Mo.mo e p) fun Hs2 e2 => as_cons (EvC.lift h3 (e.trans e2)) (fun _ _ _ e p => Mo.mo e p) fun _ _ => as_nil) (fun vs H p => by
    obtain ⟨v, r, rfl, _, w, r2, rfl, _, x, r3, rfl, _, rfl⟩ := p
    show 3 ≤ 40000
    decide)
  refine h.imp fun v H e p => ?_
  obtain ⟨p, vs, H0, rfl, h3, h4, u, r, rfl, cu, w, r2, rfl, cw, x, r3, rfl, cx, rfl⟩ := p
  exact ⟨p, u, w, x, rfl, h3, Mo.mo h4 cu, Mo.mo h4 cw, Mo.mo h4 cx⟩
variable {p2 : α × β} {p3 : α × β × γ}
theorem ep_l31 (ha : EvC ta σ Hs (cL3 c d f) p3) (hb : Ev tb σ Hs (.int 0)) : EvC (tOp (rIx K) ta tb) σ Hs c p3.1 := fun H e Q q =>
  ha H e _ fun v H2 Hs2 g ⟨a, x, y, z, h1, h2, h3, h4, h5⟩ => hb H2 (e.trans g.b) _ fun H3 e3 =>
    .inl ⟨a, [x, y, z], 0, x, h1, rfl, sq_ex (g.i.trans e3) h2, atI_nat (j := 0) rfl, q x H3 Hs2 (g.trans (Grow.up g.i e3)) h3⟩
theorem ep_l32 (ha : EvC ta σ Hs (cL3 c d f) p3) (hb : Ev tb σ Hs (.int 1)) : EvC (tOp (rIx K) ta tb) σ Hs d p3.2.1 := fun H e Q q =>
  ha H e _ fun v H2 Hs2 g ⟨a, x, y, z, h1, h2, h3, h4, h5⟩ => hb H2 (e.trans g.b) _ fun H3 e3 =>
    .inl ⟨a, [x, y, z], 1, y, h1, rfl, sq_ex (g.i.trans e3) h2, atI_nat (j := 1) rfl, q y H3 Hs2 (g.trans (Grow.up g.i e3)) h4⟩
theorem ep_l33 (ha : EvC ta σ Hs (cL3 c d f) p3) (hb : Ev tb σ Hs (.int 2)) : EvC (tOp (rIx K) ta tb) σ Hs f p3.2.2 := fun H e Q q =>
  ha H e _ fun v H2 Hs2 g ⟨a, x, y, z, h1, h2, h3, h4, h5⟩ => hb H2 (e.trans g.b) _ fun H3 e3 =>
    .inl ⟨a, [x, y, z], 2, z, h1, rfl, sq_ex (g.i.trans e3) h2, atI_nat (j := 2) rfl, q z H3 Hs2 (g.trans (Grow.up g.i e3)) h5⟩
theorem ep_t31 (ha : EvC ta σ Hs (cP3 c d f) p3) (hb : Ev tb σ Hs (.int 0)) : EvC (tOp (rIx K) ta tb) σ Hs c p3.1 := fun H e Q q =>
  ha H e _ fun v H2 Hs2 g ⟨a, x, y, z, h1, h2, h3, h4, h5⟩ => hb H2 (e.trans g.b) _ fun H3 e3 =>
    .inr (.inl ⟨a, [x, y, z], 0, x, h1, rfl, sqt_ex (g.i.trans e3) h2, atI_nat (j := 0) rfl, q x H3 Hs2 (g.trans (Grow.up g.i e3)) h3⟩)
theorem ep_t32 (ha : EvC ta σ Hs (cP3 c d f) p3) (hb : Ev tb σ Hs (.int 1)) : EvC (tOp (rIx K) ta tb) σ Hs d p3.2.1 := fun H e Q q =>
  ha H e _ fun v H2 Hs2 g ⟨a, x, y, z, h1, h2, h3, h4, h5⟩ => hb H2 (e.trans g.b) _ fun H3 e3 =>
    .inr (.inl ⟨a, [x, y, z], 1, y, h1, rfl, sqt_ex (g.i.trans e3) h2, atI_nat (j := 1) rfl, q y H3 Hs2 (g.trans (Grow.up g.i e3)) h4⟩)
theorem ep_t33 (ha : EvC ta σ Hs (cP3 c d f) p3) (hb : Ev tb σ Hs (.int 2)) : EvC (tOp (rIx K) ta tb) σ Hs f p3.2.2 := fun H e Q q =>
  ha H e _ fun v H2 Hs2 g ⟨a, x, y, z, h1, h2, h3, h4, h5⟩ => hb H2 (e.trans g.b) _ fun H3 e3 =>
    .inr (.inl ⟨a, [x, y, z], 2, z, h1, rfl, sqt_ex (g.i.trans e3) h2, atI_nat (j := 2) rfl, q z H3 Hs2 (g.trans (Grow.up g.i e3)) h5⟩)
theorem ef_butLast {l : List α} {x : α} [Mo c] (ha : EvC ta σ Hs (cL c) (l ++ [x])) (h2 : Ev tb σ Hs (.int (-1))) : EvFC (tSl (rSlL K) ta tNoPart (tPart tb)) σ Hs c l :=
  ef_sl ha eo_none (eo_some h2) fun xs H p => by
    have hl : xs.length = l.length + 1 := by rw [← p.length]; simp
    have e : cutV xs none (some (-1)) = xs.take l.length := by
      unfold cutV
      rw [HT.sIx_none, List.drop_zero, Nat.sub_zero]
      unfold HT.sIx
      simp [hl]
      omega
    rw [e]
    have h := Paired.cut l.length p
    rwa [List.take_left' rfl] at h
end
end LH

namespace LH
open PySem L2 Evl PyProof.Rows
/-! ### objects of one's own: made here, not known as yet, they may change -/
def emp : Hp := fun _ => none
structure Own (Hs0 H0 Ho Hi H : Hp) : Prop where
  g : Grow Hs0 H0 Hi H
  o : ∀ p u, Ho p = some u → H0 p = none ∧ Hi p = none ∧ H p = some u
/-- all that is known, with one's own -/
def kn (Ho Hi : Hp) : Hp := fun a => match Ho a with | some u => some u | none => Hi a
/-- without one's own -/
def mns (Hk Ho : Hp) : Hp := fun a => match Ho a with | some _ => none | none => Hk a
section
variable {Hs0 H0 Ho Hi H Hi2 H2 Hk Hs : Hp} {p q : Addr} {u u' : HO}
theorem Own.start (e : Ex Hs H) : Own Hs H emp Hs H := ⟨Grow.refl e, fun _ _ h => nomatch h⟩
theorem Own.on (w : Own Hs0 H0 Ho Hi H) (g : Grow Hi H Hi2 H2) : Own Hs0 H0 Ho Hi2 H2 :=
  ⟨w.g.trans g, fun p u h => by
    obtain ⟨a, b, c⟩ := w.o p u h
    exact ⟨a, g.f p b (by rw [c]; exact fun z => nomatch z), g.b p u c⟩⟩
theorem Own.up (w : Own Hs0 H0 Ho Hi H) (b : Ex H H2) : Own Hs0 H0 Ho Hi H2 := w.on (Grow.up w.g.i b)
theorem Own.ne (w : Own Hs0 H0 Ho Hi H) (h : Ho q = some u) (hp : H p = none) : q ≠ p := fun z => by
  have := (w.o q u h).2.2
  rw [z, hp] at this
  cases this
theorem Own.new (w : Own Hs0 H0 Ho Hi H) (g : Grow Hi H Hi2 H2) (h1 : H p = none) (h2 : Hi2 p = none) (h3 : H2 p = some u) : Own Hs0 H0 (upd Ho p u) Hi2 H2 :=
  ⟨(w.on g).g, fun q v h => by
    by_cases e : q = p
    · subst e
      rw [upd_same] at h
      cases h
      exact ⟨fresh_back w.g.b h1, h2, h3⟩
    · rw [upd_ne e] at h
      exact (w.on g).o q v h⟩
theorem Own.mut (w : Own Hs0 H0 Ho Hi H) (h : Ho p = some u) : Own Hs0 H0 (upd Ho p u') Hi (upd H p u') := by
  obtain ⟨a, b, c⟩ := w.o p u h
  refine ⟨⟨w.g.s, w.g.b.mut a, w.g.i.mut b, w.g.f⟩, fun q v h => ?_⟩
  by_cases e : q = p
  · subst e
    rw [upd_same] at h ⊢
    exact ⟨a, b, h⟩
  · rw [upd_ne e] at h ⊢
    exact w.o q v h
theorem Own.know (w : Own Hs0 H0 Ho Hi H) (h : Ho p = some u) : Own Hs0 H0 (del Ho p) (upd Hi p u) H := by
  obtain ⟨a, b, c⟩ := w.o p u h
  refine ⟨w.g.know a c, fun q v hq => ?_⟩
  by_cases e : q = p
  · subst e; rw [del_same] at hq; cases hq
  · rw [del_at e] at hq
    rw [upd_ne e]
    exact w.o q v hq
theorem Own.ek (w : Own Hs0 H0 Ho Hi H) : Ex (kn Ho Hi) H := fun a u h => by
  unfold kn at h
  cases e : Ho a with
  | some v => rw [e] at h; exact Option.some.inj h ▸ (w.o a v e).2.2
  | none => rw [e] at h; exact w.g.i a u h
theorem Own.ik (w : Own Hs0 H0 Ho Hi H) : Ex Hi (kn Ho Hi) := fun a u h => by
  unfold kn
  cases e : Ho a with
  | some v => have := (w.o a v e).2.1; rw [h] at this; cases this
  | none => exact h
theorem ok_kn : Ex Ho (kn Ho Hi) := fun a u h => by
  unfold kn
  rw [h]
theorem kn_at (h : Ho p = some u) : kn Ho Hi p = some u := by
  unfold kn
  rw [h]
theorem mns_ex : Ex (mns Hk Ho) Hk := fun a u h => by
  unfold mns at h
  cases e : Ho a with
  | some v => rw [e] at h; cases h
  | none => rw [e] at h; exact h
theorem mns_at (h : Ho p = none) : mns Hk Ho p = Hk p := by
  unfold mns
  rw [h]
theorem mns_own (h : Ho p = some u) : mns Hk Ho p = none := by
  unfold mns
  rw [h]
theorem Own.im (w : Own Hs0 H0 Ho Hi H) (g : Grow (kn Ho Hi) H Hk H2) : Ex Hi (mns Hk Ho) := fun a u h => by
  cases e : Ho a with
  | some v => have := (w.o a v e).2.1; rw [h] at this; cases this
  | none => rw [mns_at e]; exact g.s a u (w.ik a u h)
/-- a step that looked at one's own -/
theorem Own.back (w : Own Hs0 H0 Ho Hi H) (g : Grow (kn Ho Hi) H Hk H2) : Own Hs0 H0 Ho (mns Hk Ho) H2 := by
  refine ⟨⟨w.g.s.trans (w.im g), w.g.b.trans g.b, mns_ex.trans g.i, fun p h1 h2 => ?_⟩, fun p u h => ?_⟩
  · cases e : Ho p with
    | some v => exact mns_own e
    | none =>
      rw [mns_at e]
      refine g.f p ?_ (up_some w.g.b h2)
      unfold kn
      rw [e]
      exact w.g.f p h1 h2
  · obtain ⟨a, b, c⟩ := w.o p u h
    exact ⟨a, mns_own h, g.b p u c⟩
/-- what hangs on nothing of one's own -/
theorem own_none (w : Own Hs0 H0 Ho Hi H) (h : Hi p = some u) : Ho p = none := by
  cases e : Ho p with
  | none => rfl
  | some v => have := (w.o p v e).2.1; rw [h] at this; cases this
end
/-! ### statements with one's own -/
section
variable {α : Type} {c : Cd α} {σ : L2.St} {Hs0 H0 Ho Hi H : Hp} {te ta tb : TE} {tt : TT} {v w' : V} {P : V → Hp → Prop} {PL : List V → Hp → Prop} {K : PySem.W.Frag} {D : Ends} {tz tu tw : TS} {i j : Nat} {b : Bool} {p : Addr} {xs : List V} {wi : TI} {src : List α} {g : TG}
theorem q_oP (w : Own Hs0 H0 Ho Hi H) (h : EvP te σ Hi P) (k : ∀ v Hi2 H2, Own Hs0 H0 Ho Hi2 H2 → Ex Hi Hi2 → P v Hi2 → tz D (σ.set i (some v)) H2) : tSeq (tAsg te (gName i)) tz D σ H := h H w.g.i _ fun v H2 Hi2 g p => k v Hi2 H2 (w.on g) g.s p
theorem s_oP (w : Own Hs0 H0 Ho Hi H) (h : EvP te σ Hi P) (k : ∀ v Hi2 H2, Own Hs0 H0 Ho Hi2 H2 → Ex Hi Hi2 → P v Hi2 → D.nx (σ.set i (some v)) H2) : tAsg te (gName i) D σ H := h H w.g.i _ fun v H2 Hi2 g p => k v Hi2 H2 (w.on g) g.s p
theorem q_oV (w : Own Hs0 H0 Ho Hi H) (h : Ev te σ (kn Ho Hi) v) (k : ∀ H2, Own Hs0 H0 Ho Hi H2 → tz D (σ.set i (some v)) H2) : tSeq (tAsg te (gName i)) tz D σ H := h H w.ek _ fun H2 b => k H2 (w.up b)
theorem s_oV (w : Own Hs0 H0 Ho Hi H) (h : Ev te σ (kn Ho Hi) v) (k : ∀ H2, Own Hs0 H0 Ho Hi H2 → D.nx (σ.set i (some v)) H2) : tAsg te (gName i) D σ H := h H w.ek _ fun H2 b => k H2 (w.up b)
/-- a new list of one's own -/
theorem q_oF (w : Own Hs0 H0 Ho Hi H) (h : EvF te σ Hi PL) (k : ∀ p xs Hi2 H2, Own Hs0 H0 (upd Ho p (.lst xs)) Hi2 H2 → Ex Hi Hi2 → (∀ q u, Ho q = some u → q ≠ p) → PL xs Hi2 → tz D (σ.set i (some (.ref p))) H2) : tSeq (tAsg te (gName i)) tz D σ H :=
  h H w.g.i _ fun p xs H2 Hi2 g h1 h2 h3 h4 => k p xs Hi2 H2 (w.new g h1 h2 h3) g.s (fun q u hq => w.ne hq h1) h4
theorem q_oD (w : Own Hs0 H0 Ho Hi H) (k : ∀ p H2, Own Hs0 H0 (upd Ho p (.dK [])) Hi H2 → (∀ q u, Ho q = some u → q ≠ p) → tz D (σ.set i (some (.ref p))) H2) : tSeq (tAsg tDNewK (gName i)) tz D σ H :=
  fun d hd => k d _ (w.new (Grow.up w.g.i (Ex.new hd)) hd (fresh_back w.g.i hd) upd_same) (fun q u hq => w.ne hq hd)
theorem s_oApp (w : Own Hs0 H0 Ho Hi H) (hp : Ho p = some (.lst xs)) (ho : Ev ta σ Hi (.ref p)) (h : EvP te σ Hi P) (hz : xs.length ≤ 40000)
    (k : ∀ v Hi2 H2, Own Hs0 H0 (upd Ho p (.lst (xs ++ [v]))) Hi2 H2 → Ex Hi Hi2 → P v Hi2 → D.nx σ H2) : tDrop (tBM K "list" rAppend ta (tCons te tNil)) D σ H := ho H w.g.i _ fun H1 e1 =>
  ⟨.inl ⟨rfl, xs, sq_of (e1 p _ (w.o p _ hp).2.2)⟩, h H1 (w.g.i.trans e1) _ fun v H2 Hi2 g pv =>
    have w2 := (w.up e1).on g
    ⟨p, xs, v, rfl, rfl, (w2.o p _ hp).2.2, size_lt hz, k v Hi2 _ (w2.mut hp) g.s pv⟩⟩
theorem q_oApp (w : Own Hs0 H0 Ho Hi H) (hp : Ho p = some (.lst xs)) (ho : Ev ta σ Hi (.ref p)) (h : EvP te σ Hi P) (hz : xs.length ≤ 40000)
    (k : ∀ v Hi2 H2, Own Hs0 H0 (upd Ho p (.lst (xs ++ [v]))) Hi2 H2 → Ex Hi Hi2 → P v Hi2 → tz D σ H2) : tSeq (tDrop (tBM K "list" rAppend ta (tCons te tNil))) tz D σ H := s_oApp (D := { D with nx := tz D }) w hp ho h hz k
theorem q_oIf (w : Own Hs0 H0 Ho Hi H) (h : EvT tt σ (kn Ho Hi) b) (h1 : b = true → ∀ H2, Own Hs0 H0 Ho Hi H2 → tu { D with nx := tz D } σ H2) (h2 : b = false → ∀ H2, Own Hs0 H0 Ho Hi H2 → tw { D with nx := tz D } σ H2) : tSeq (tIfS tt tu tw) tz D σ H :=
  q_ifB h w.ek (fun hb H2 e => h1 hb H2 (w.up e)) fun hb H2 e => h2 hb H2 (w.up e)
theorem s_oIf (w : Own Hs0 H0 Ho Hi H) (h : EvT tt σ (kn Ho Hi) b) (h1 : b = true → ∀ H2, Own Hs0 H0 Ho Hi H2 → tu D σ H2) (h2 : b = false → ∀ H2, Own Hs0 H0 Ho Hi H2 → tw D σ H2) : tIfS tt tu tw D σ H :=
  s_ifB h w.ek (fun hb H2 e => h1 hb H2 (w.up e)) fun hb H2 e => h2 hb H2 (w.up e)
theorem q_oWhen (w : Own Hs0 H0 Ho Hi H) (h : EvT tt σ (kn Ho Hi) b) (h1 : b = true → ∀ H2, Own Hs0 H0 Ho Hi H2 → tu { D with nx := tz D } σ H2) (h2 : b = false → ∀ H2, Own Hs0 H0 Ho Hi H2 → tz D σ H2) : tSeq (tIfS tt tu tNext) tz D σ H := q_oIf w h h1 h2
theorem s_oWhen (w : Own Hs0 H0 Ho Hi H) (h : EvT tt σ (kn Ho Hi) b) (h1 : b = true → ∀ H2, Own Hs0 H0 Ho Hi H2 → tu D σ H2) (h2 : b = false → ∀ H2, Own Hs0 H0 Ho Hi H2 → D.nx σ H2) : tIfS tt tu tNext D σ H := s_oIf w h h1 h2
theorem q_oNo (w : Own Hs0 H0 Ho Hi H) (h : EvT tt σ (kn Ho Hi) false) (k : ∀ H2, Own Hs0 H0 Ho Hi H2 → tz D σ H2) : tSeq (tIfS tt tu tNext) tz D σ H := q_oWhen w h (fun z => nomatch z) fun _ => k
/-- for, with one's own -/
def NxO {α : Type} (Hs0 H0 Hi : Hp) (I : List α → L2.St → Hp → Hp → Prop) (pre : List α) (σ' : L2.St) (H' : Hp) : Prop := ∃ Ho' Hi', I pre σ' Ho' Hi' ∧ Ex Hi Hi' ∧ Own Hs0 H0 Ho' Hi' H'
theorem s_oFor (w : Own Hs0 H0 Ho Hi H) (hI : EvI wi σ Hi src c) (mo : ∀ (a : α) H H2 x, Ex H H2 → c a H x → c a H2 x) (I : List α → L2.St → Hp → Hp → Prop)
    (h0 : ∀ Hi2, Ex Hi Hi2 → I [] σ Ho Hi2)
    (hs : ∀ Hb, Ex Hi Hb → ∀ pre a post x σ' Ho' Hi' Hi'' H'', src = pre ++ a :: post → I pre σ' Ho' Hi' → Ex Hb Hi' → Own Hs0 H0 Ho' Hi'' H'' → Ex Hi' Hi'' → c a Hi'' x →
      g x σ' H'' fun σ3 H3 => tu { D with nx := NxO Hs0 H0 Hb I (pre ++ [a]), ct := NxO Hs0 H0 Hb I (pre ++ [a]), bk := D.nx } σ3 H3)
    (hd : ∀ σ' Ho' Hi' H', I src σ' Ho' Hi' → Ex Hi Hi' → Own Hs0 H0 Ho' Hi' H' → D.nx σ' H') : tFor wi g tu D σ H :=
  s_for hI w.g.i fun Hs2 H2 gr => ⟨NxO Hs0 H0 Hs2 I, ⟨Ho, Hs2, h0 Hs2 gr.s, Ex.refl _, w.on gr⟩, fun pre σ' H' ⟨_, _, _, e, w'⟩ => e.trans w'.g.i, fun pre a post x σ' H' Hs'' H'' he ⟨Ho', Hi', hi, e1, w1⟩ g2 ca => by
      have g3 : Grow Hi' H' (uni Hi' Hs'') H'' := g2.uni e1 w1.g.i
      exact hs Hs2 gr.s pre a post x σ' Ho' Hi' (uni Hi' Hs'') H'' he hi e1 (w1.on g3) g3.s (mo a Hs'' _ x (g2.uniR w1.g.i) ca), fun σ' H' ⟨Ho', Hi', hi, e1, w1⟩ => hd σ' Ho' Hi' H' hi (gr.s.trans e1) w1⟩
theorem q_oFor (w : Own Hs0 H0 Ho Hi H) (hI : EvI wi σ Hi src c) (mo : ∀ (a : α) H H2 x, Ex H H2 → c a H x → c a H2 x) (I : List α → L2.St → Hp → Hp → Prop)
    (h0 : ∀ Hi2, Ex Hi Hi2 → I [] σ Ho Hi2)
    (hs : ∀ Hb, Ex Hi Hb → ∀ pre a post x σ' Ho' Hi' Hi'' H'', src = pre ++ a :: post → I pre σ' Ho' Hi' → Ex Hb Hi' → Own Hs0 H0 Ho' Hi'' H'' → Ex Hi' Hi'' → c a Hi'' x →
      g x σ' H'' fun σ3 H3 => tu { D with nx := NxO Hs0 H0 Hb I (pre ++ [a]), ct := NxO Hs0 H0 Hb I (pre ++ [a]), bk := tz D } σ3 H3)
    (hd : ∀ σ' Ho' Hi' H', I src σ' Ho' Hi' → Ex Hi Hi' → Own Hs0 H0 Ho' Hi' H' → tz D σ' H') : tSeq (tFor wi g tu) tz D σ H :=
  s_oFor (D := { D with nx := tz D }) w hI mo I h0 hs hd
/-- at the end -/
theorem RetP.own {Q : VK} (k : RetP Hs0 H0 P Q) (w : Own Hs0 H0 Ho Hi H) : RetP Hi H P Q := k.on w.g
theorem RetV.own {Q : VK} (k : RetV v H0 Q) (w : Own Hs0 H0 Ho Hi H) : RetV v H Q := RetV.on k w.g.b
theorem s_oRet (w : Own Hs0 H0 Ho Hi H) (h : EvP te σ Hi P) (k : RetP Hs0 H0 P D.rt) : tRet te D σ H := s_retP h w.g.i (k.on w.g)
theorem s_oRetV (w : Own Hs0 H0 Ho Hi H) (h : Ev te σ (kn Ho Hi) v) (k : RetV v H0 D.rt) : tRet te D σ H := s_retS h w.ek (RetV.on k w.g.b)
theorem s_oRetL (w : Own Hs0 H0 Ho Hi H) (hp : Ho p = some (.lst xs)) (h : Ev te σ Hi (.ref p)) (hx : PL xs Hi) (k : RetF Hs0 H0 PL D.rt) : tRet te D σ H := h H w.g.i _ fun H2 e2 => by
  have w2 := w.up e2
  obtain ⟨a, b, c⟩ := w2.o p _ hp
  exact k p xs H2 Hi w2.g a b c hx
theorem s_oRetF (w : Own Hs0 H0 Ho Hi H) (h : EvF te σ Hi PL) (k : RetF Hs0 H0 PL D.rt) : tRet te D σ H := s_retF h w.g.i (k.on w.g)
end
end LH

namespace LH
open PySem L2 Evl PyProof.Rows
open Builtin.Int (intBits)
/-! ### the numbers drawn -/
def lawNumber (x t n : Int) : Int := if 10 ^ 18 ≤ x then x / (1 + t % 7) else
  (((x + 977 * t) * 48271 + n) % 2147483647) * (x + 31 * t + 7) * ((((x + 977 * t) * 48271 + n) % 2147483647) + x + 5) * ((((x + 977 * t) * 48271 + n) % 2147483647) * (((x + 977 * t) * 48271 + n) % 2147483647) + 11) / (1009 + t)
def lawPlaces (ns : List Int) : Int := if (ns.take 63).sum % 4 = 0 then 1 + (ns.take 63).sum / 4 % 9 else if (ns.take 63).sum % 4 = 1 then 16 else if (ns.take 63).sum % 4 = 2 then 30 else 60
theorem lawPlaces_in (ns : List Int) : 1 ≤ lawPlaces ns ∧ lawPlaces ns ≤ 60 := by
  unfold lawPlaces
  generalize (ns.take 63).sum = w
  split
  · omega
  · split
    · omega
    · split <;> omega
def Bits (ns : List Int) : Prop := ∀ x ∈ ns, intBits x ≤ 1048576
def sp_law_number (_ : Cn) : Sp := fun vs H Q _ => ∃ x t n : Int, vs = [.int x, .int t, .int n] ∧ (intBits x ≤ 1048576 ∧ 0 ≤ t ∧ t ≤ 1000) ∧ RetV (.int (lawNumber x t n)) H Q
def sp_law_places (c : Cn) : Sp := fun vs H Q _ => ∃ (Hs : Hp) (u : V) (ns : List Int), Ex Hs H ∧ vs = [u] ∧ cS c.K ns Hs u ∧ RetV (.int (lawPlaces ns)) H Q
def sp_law_lines (c : Cn) : Sp := fun vs H Q _ => ∃ (Hs : Hp) (u : V) (ns : List Int) (P m : Int), Ex Hs H ∧ vs = [u, .int P, .int m] ∧ cS c.K ns Hs u ∧ Bits ns ∧ (1 ≤ P ∧ P ≤ 60 ∧ 1 ≤ m ∧ m ≤ 20) ∧
  RetF Hs H (fun xs H => ∃ ls, Paired (fun b x => cL cI b H x) ls xs ∧ OkLines P ls ∧ ls.length ≤ ns.length) Q
def sp_law_takings (c : Cn) : Sp := fun vs H Q _ => ∃ (Hs : Hp) (u : V) (ns : List Int) (P m : Int), Ex Hs H ∧ vs = [u, .int P, .int m] ∧ cS c.K ns Hs u ∧ Bits ns ∧ (1 ≤ P ∧ P ≤ 60 ∧ 0 ≤ m ∧ m ≤ 100) ∧
  RetP Hs H (fun v H => ∃ hs ms, cP (cL cI) (cL cI) (hs, ms) H v ∧ OkTake P hs ms) Q
def sp_law_power (_ : Cn) : Sp := fun vs H Q _ => ∃ n : Nat, vs = [.int (n : Int)] ∧ n ≤ 60 ∧ RetV (.int (2 ^ n)) H Q
def weightsM (ls : List (List Int)) (hs ms : List Int) : List (List Int × Int) := (ls.filter fun l => !(l.map fun x => decide (x ∈ ms)).any id).map fun l => (l.filter fun x => !decide (x ∈ hs), 2 ^ missing l hs)
def sp_law_weights (_ : Cn) : Sp := fun vs H Q _ => ∃ (Hs : Hp) (u v w : V) (ls : List (List Int)) (hs ms : List Int), Ex Hs H ∧ vs = [u, v, w] ∧ cL (cL cI) ls Hs u ∧ cL cI hs Hs v ∧ cL cI ms Hs w ∧ (ls.length ≤ 60 ∧ ∀ l ∈ ls, l.length ≤ 60) ∧ RetFC Hs H (cP (cL cI) cI) (weightsM ls hs ms) Q
def fullL (ls : List (List Int)) (hs : List Int) : List Nat := (((List.range ls.length).zip ls).filter fun q => (q.2.map fun x => decide (x ∈ hs)).all id).map fun q => q.1
def sp_law_full (_ : Cn) : Sp := fun vs H Q _ => ∃ (Hs : Hp) (u v : V) (ls : List (List Int)) (hs : List Int), Ex Hs H ∧ vs = [u, v] ∧ cL (cL cI) ls Hs u ∧ cL cI hs Hs v ∧ (ls.length ≤ 60 ∧ ∀ l ∈ ls, l.length ≤ 60) ∧ RetFC Hs H cN (fullL ls hs) Q
def sp_law_fraction (_ : Cn) : Sp := fun vs H Q _ => ∃ (Hs : Hp) (u : V) (p : Int × Int), Ex Hs H ∧ vs = [u] ∧ cP cI cI p Hs u ∧ RetV (.bl true) H Q
def sp_law_sum (_ : Cn) : Sp := fun vs H Q _ => ∃ (Hs : Hp) (u : V) (as : List Nat) (P : Nat), Ex Hs H ∧ vs = [u] ∧ cL cI (as.map fun a => (2 : Int) ^ a) Hs u ∧ (P ≤ 60 ∧ as.length ≤ 60 ∧ ∀ a ∈ as, a ≤ P) ∧ RetC Hs H (cP cI cI) (lowest (as.map fun a => (2 : Int) ^ (P - a)).sum (2 ^ P)) Q
/-! readings -/
def t_law_number (c : Cn) : TS := (tSeq (tIfS (tTest (tOp rGeI (tVar 0) (tOp rPowI (tC (.int 10)) (tC (.int 18))))) (tRet (tOp rDivI (tVar 0) (tOp rAddI (tC (.int 1)) (tOp rModI (tVar 1) (tC (.int 7)))))) tNext) (tSeq (tAsg (tOp rModI (tOp rAddI (tOp rMulI (tOp rAddI (tVar 0) (tOp rMulI (tC (.int 977)) (tVar 1))) (tC (.int 48271))) (tVar 2)) (tC (.int 2147483647))) (gName 3)) (tSeq (tAsg (tOp rMulI (tVar 3) (tOp rAddI (tOp rAddI (tVar 0) (tOp rMulI (tC (.int 31)) (tVar 1))) (tC (.int 7)))) (gName 4)) (tRet (tOp rDivI (tOp rMulI (tOp rMulI (tVar 4) (tOp rAddI (tOp rAddI (tVar 3) (tVar 0)) (tC (.int 5)))) (tOp rAddI (tOp rMulI (tVar 3) (tVar 3)) (tC (.int 11)))) (tOp rAddI (tC (.int 1009)) (tVar 1)))))))
def t_law_places (c : Cn) : TS := (tSeq (tAsg (tCB (rSum c.K) (tCons (tSl (rSlL c.K) (tVar 0) tNoPart (tPart (tC (.int 63)))) tNil)) (gName 1)) (tRet (tOp (rIx c.K) (tTup (tCons (tOp rAddI (tC (.int 1)) (tOp rModI (tOp rDivI (tVar 1) (tC (.int 4))) (tC (.int 9)))) (tCons (tC (.int 16)) (tCons (tC (.int 30)) (tCons (tC (.int 60)) tNil))))) (tOp rModI (tVar 1) (tC (.int 4))))))
def t_law_lines (c : Cn) : TS := (tSeq (tAsg (tSl (rSlL c.K) (tVar 0) tNoPart (tPart (tC (.int 60)))) (gName 3)) (tSeq (tAsg (tLst tNil) (gName 4)) (tSeq (tFor (iEnum c.K (tCons (tVar 3) tNil)) (gTup c.K 2 (gCons (gName 5) (gCons (gName 6) gNil))) (tSeq (tAsg (tCall (sp_law_number c) [] C8.E0 (tCons (tVar 6) (tCons (tVar 5) (tCons (tCB (rLenA c.K) (tCons (tVar 3) tNil)) tNil)))) (gName 7)) (tSeq (tAsg (tOp rAddI (tOp rAddI (tVar 2) (tOp rModI (tVar 7) (tC (.int 4)))) (tIf (tTest (tOp (rEqA c.K) (tOp rModI (tOp rDivI (tVar 7) (tC (.int 36))) (tC (.int 5))) (tC (.int 1)))) (tOp rModI (tOp rDivI (tVar 7) (tC (.int 4))) (tC (.int 9))) (tC (.int 0)))) (gName 8)) (tSeq (tAsg (tLst tNil) (gName 9)) (tSeq (tFor (iRng1 (tCons (tVar 8) tNil)) (gName 10) (tSeq (tDrop (tBM c.K "list" rAppend (tVar 9) (tCons (tOp rModI (tOp rDivI (tVar 7) (tOp rAddI (tC (.int 64)) (tVar 10))) (tVar 1)) tNil))) (tAsg (tOp rAddI (tOp rDivI (tVar 7) (tC (.int 3))) (tOp rMulI (tC (.int 7)) (tVar 10))) (gName 7)))) (tDrop (tBM c.K "list" rAppend (tVar 4) (tCons (tCB (rSortedSet c.w) (tCons (tCB (rSetOf c.K c.w) (tCons (tVar 9) tNil)) tNil)) tNil)))))))) (tRet (tVar 4)))))
def t_law_takings (c : Cn) : TS := (tSeq (tAsg (tIf (tTest (tOp (rNeA c.K) (tVar 0) (tLst tNil))) (tSl (rSlL c.K) (tVar 0) tNoPart (tPart (tC (.int 63)))) (tLst (tCons (tC (.int 3)) tNil))) (gName 3)) (tSeq (tAsg (tCB (rSum c.K) (tCons (tVar 3) tNil)) (gName 4)) (tSeq (tPar 5 6 (tCons (tLst tNil) (tCons (tLst tNil) tNil))) (tSeq (tFor (iRng1 (tCons (tOp rModI (tOp rDivI (tVar 4) (tC (.int 5))) (tOp rAddI (tVar 1) (tC (.int 1)))) tNil)) (gName 7) (tSeq (tAsg (tOp rModI (tOp rDivI (tCall (sp_law_number c) [] C8.E0 (tCons (tOp (rIx c.K) (tVar 3) (tOp rModI (tVar 7) (tCB (rLenA c.K) (tCons (tVar 3) tNil)))) (tCons (tOp rAddI (tVar 7) (tVar 2)) (tCons (tCB (rLenA c.K) (tCons (tVar 3) tNil)) tNil)))) (tC (.int 5))) (tVar 1)) (gName 8)) (tIfS (tTest (tOp (rIn c.K true) (tVar 8) (tOp (rCatL c.K) (tVar 5) (tVar 6)))) (tIfS (tTest (tOp (rEqA c.K) (tOp rModI (tOp rAddI (tVar 7) (tVar 2)) (tC (.int 2))) (tC (.int 0)))) (tDrop (tBM c.K "list" rAppend (tVar 5) (tCons (tVar 8) tNil))) (tDrop (tBM c.K "list" rAppend (tVar 6) (tCons (tVar 8) tNil)))) tNext))) (tRet (tTup (tCons (tVar 5) (tCons (tVar 6) tNil))))))))
def t_law_sum (c : Cn) : TS := (tSeq (tAsg (tTup (tCons (tC (.int 0)) (tCons (tC (.int 1)) tNil))) (gTup c.K 2 (gCons (gName 1) (gCons (gName 2) gNil)))) (tSeq (tFor (iList c.K (tVar 0)) (gName 3) (tAsg (tCB rMaxI (tCons (tVar 2) (tCons (tVar 3) tNil))) (gName 2))) (tSeq (tFor (iList c.K (tVar 0)) (gName 3) (tAsg (tOp rAddI (tVar 1) (tOp rDivI (tVar 2) (tVar 3))) (gName 1))) (tSeq (tWhile (tAnd (tTest (tOp (rEqA c.K) (tOp rModI (tVar 1) (tC (.int 2))) (tC (.int 0)))) (tTest (tOp rGtI (tVar 2) (tC (.int 1))))) (tPar 1 2 (tCons (tOp rDivI (tVar 1) (tC (.int 2))) (tCons (tOp rDivI (tVar 2) (tC (.int 2))) tNil)))) (tRet (tTup (tCons (tVar 1) (tCons (tVar 2) tNil))))))))
def t_law_power (c : Cn) : TS := (tSeq (tAsg (tC (.int 1)) (gName 1)) (tSeq (tFor (iRng1 (tCons (tVar 0) tNil)) (gName 2) (tAsg (tOp rMulI (tC (.int 2)) (tVar 1)) (gName 1))) (tRet (tVar 1))))
def t_law_weights (c : Cn) : TS := (tSeq (tAsg (tLst tNil) (gName 3)) (tSeq (tFor (iList c.K (tVar 0)) (gName 4) (tIfS (tNot (tB (tCB (rAny c.K) (tCons (tLc (iList c.K (tVar 4)) (gName 5) tYes (tOp (rIn c.K false) (tVar 5) (tVar 2)) [5]) tNil)))) (tSeq (tAsg (tLc (iList c.K (tVar 4)) (gName 5) (tTest (tOp (rIn c.K true) (tVar 5) (tVar 1))) (tVar 5) [5]) (gName 6)) (tDrop (tBM c.K "list" rAppend (tVar 3) (tCons (tTup (tCons (tVar 6) (tCons (tCall (sp_law_power c) [] C8.E0 (tCons (tCB (rLenA c.K) (tCons (tVar 6) tNil)) tNil)) tNil))) tNil)))) tNext)) (tRet (tVar 3))))
def t_law_full (c : Cn) : TS := (tRet (tLc (iEnum c.K (tCons (tVar 0) tNil)) (gTup c.K 2 (gCons (gName 2) (gCons (gName 3) gNil))) (tB (tCB (rAll c.K) (tCons (tLc (iList c.K (tVar 3)) (gName 4) tYes (tOp (rIn c.K false) (tVar 4) (tVar 1)) [4]) tNil))) (tVar 2) [2, 3]))
def t_law_fraction (c : Cn) : TS := (tSeq (tIfS (tOr (tNot (tB (tCB (rIsi c.K) (tCons (tVar 0) (tCons (tC (.ty "tuple")) tNil))))) (tTest (tOp (rNeA c.K) (tCB (rLenA c.K) (tCons (tVar 0) tNil)) (tC (.int 2))))) (tRet (tC (.bl false))) tNext) (tRet (tCB (rAll c.K) (tCons (tLc (iTup c.K (tVar 0)) (gName 1) tYes (tAndV (tCB (rIsi c.K) (tCons (tVar 1) (tCons (tC (.ty "int")) tNil))) (tNotV (tCB (rIsi c.K) (tCons (tVar 1) (tCons (tC (.ty "bool")) tNil))))) [1]) tNil))))
theorem mo_c' {α : Type} {d : Cd α} [Mo d] : ∀ (a : α) H H2 x, Ex H H2 → d a H x → d a H2 x := fun _ _ _ _ e p => Mo.mo e p
theorem bits64 {x : Int} (h0 : -(2 ^ 64) < x) (h1 : x < 2 ^ 64) : intBits x ≤ 64 := intBits_le_64 h0 h1
section
variable {c : Cn} {vs : List V} {H : Hp} {Q : VK} {E : XK} {σ : L2.St} {Hs : Hp} {ta tb tc td : TE}
theorem rd_law_number (h : sp_law_number c vs H Q E) : t_law_number c { nx := fun _ H' => Q .non H', rt := Q } (start ["_law_cell", "_law_at", "_law_whole", "_law_mixed", "_law_more"] vs) H := by
  obtain ⟨x, t, n, rfl, ⟨hb, h0, h1⟩, k⟩ := h
  unfold lawNumber at k
  have c1 : CPow 10 18 := ⟨by decide, by decide, by decide⟩
  refine q_whenB (et_test (ev_ge (ev_var rfl) (ev_pow ev_c ev_c c1))) (Ex.refl H) (fun hc H2 e2 => ?_) (fun hc H2 e2 => ?_)
  · rw [if_pos (by simpa using hc)] at k
    exact s_retS (ev_div (ev_var rfl) (ev_add ev_c (ev_mod (ev_var rfl) ev_c (by decide))) (divW (by omega) (by omega) _)) e2 (on_v k e2)
  · rw [if_neg (by simpa using hc)] at k
    have m1 : IntMulOk 977 t := CMul.ok (.inl ⟨by decide, by decide⟩)
    have m2 : IntMulOk (x + 977 * t) 48271 := CMul.ok (.inr ⟨by decide, by decide⟩)
    have m3 : IntMulOk 31 t := CMul.ok (.inl ⟨by decide, by decide⟩)
    refine q_set (Hs := H) (ev_mod (ev_add (ev_mul (ev_add (ev_var rfl) (ev_mul ev_c (ev_var rfl) m1)) ev_c m2) (ev_var rfl)) ev_c (by decide)) e2 fun H3 e3 => ?_
    generalize hm : ((x + 977 * t) * 48271 + n) % 2147483647 = m at k ⊢
    have hm0 : 0 ≤ m := by omega
    have hm1 : m < 2147483647 := by omega
    have bm : intBits m ≤ 64 := bits64 (by omega) (by omega)
    have m4 : IntMulOk m (x + 31 * t + 7) := CMul.ok (.inl ⟨by omega, by omega⟩)
    have b1 : intBits (x + 31 * t) ≤ 1048577 := Nat.le_trans (intBits_add_le hb (bits64 (x := 31 * t) (by omega) (by omega))) (by decide)
    have b2 : intBits (x + 31 * t + 7) ≤ 1048578 := Nat.le_trans (intBits_add_le b1 (bits64 (x := 7) (by decide) (by decide))) (by decide)
    have b3 : intBits (m * (x + 31 * t + 7)) ≤ 1048642 := intBits_mul_le bm b2
    have b4 : intBits (m + x) ≤ 1048577 := Nat.le_trans (intBits_add_le bm hb) (by decide)
    have b5 : intBits (m + x + 5) ≤ 1048578 := Nat.le_trans (intBits_add_le b4 (bits64 (x := 5) (by decide) (by decide))) (by decide)
    have m5 : IntMulOk (m * (x + 31 * t + 7)) (m + x + 5) := IntMulOk.of_le b3 b5 (by decide)
    have b6 : intBits (m * (x + 31 * t + 7) * (m + x + 5)) ≤ 2097220 := intBits_mul_le b3 b5
    have m6 : IntMulOk m m := CMul.ok (.inl ⟨by omega, by omega⟩)
    have b7 : intBits (m * m) ≤ 128 := intBits_mul_le bm bm
    have b8 : intBits (m * m + 11) ≤ 129 := Nat.le_trans (intBits_add_le b7 (bits64 (x := 11) (by decide) (by decide))) (by decide)
    have m7 : IntMulOk (m * (x + 31 * t + 7) * (m + x + 5)) (m * m + 11) := IntMulOk.of_le b6 b8 (by decide)
    refine q_set (Hs := H) (ev_mul (ev_var rfl) (ev_add (ev_add (ev_var rfl) (ev_mul ev_c (ev_var rfl) m3)) ev_c) m4) (e2.trans e3) fun H4 e4 => ?_
    exact s_retS (Hs := H) (ev_div (ev_mul (ev_mul (ev_var rfl) (ev_add (ev_add (ev_var rfl) (ev_var rfl)) ev_c) m5) (ev_add (ev_mul (ev_var rfl) (ev_var rfl) m6) ev_c) m7) (ev_add ev_c (ev_var rfl)) (divW (by omega) (by omega) _)) ((e2.trans e3).trans e4) (on_v k ((e2.trans e3).trans e4))
theorem call_number {x t n : Int} (h1 : Ev ta σ Hs (.int x)) (h2 : Ev tb σ Hs (.int t)) (h3 : Ev tc σ Hs (.int n)) (hx : intBits x ≤ 1048576 ∧ 0 ≤ t ∧ t ≤ 1000) : Ev (tCall (sp_law_number c) [] C8.E0 (tCons ta (tCons tb (tCons tc tNil)))) σ Hs (.int (lawNumber x t n)) := by
  refine ev_callS (as_cons (c_evI h1) mo_c fun _ e1 => as_cons (c_evI (h2.mono e1)) mo_c fun _ e2 => as_cons (c_evI (h3.mono (e1.trans e2))) mo_c fun _ _ => as_nil) ?_
  rintro vs H1 _ ⟨_, _, rfl, p1, _, _, rfl, p2, _, _, rfl, p3, rfl⟩ H2 e2 Q1 k1
  cases p1
  cases p2
  cases p3
  exact ⟨x, t, n, rfl, hx, k1⟩
theorem ep_tupI {targ : TA} {l : List Int} (h : EvA targ σ Hs (l.map V.int)) (hl : l.length ≤ 40000) : EvC (tTup targ) σ Hs (cQ cI) l := by
  refine (ep_tup (as_ea h) fun vs H p => by rw [p, List.length_map]; exact hl).imp fun v H e p => ?_
  obtain ⟨a, vs, H0, rfl, h1, h2, rfl⟩ := p
  exact ⟨a, _, rfl, h1, ints_paired l⟩
theorem rd_law_places (h : sp_law_places c vs H Q E) : t_law_places c { nx := fun _ H' => Q .non H', rt := Q } (start ["_law_script", "_law_whole"] vs) H := by
  obtain ⟨Hs, u, ns, e, rfl, hu, k⟩ := h
  unfold lawPlaces at k
  refine q_set (ev_sum (EvF.toC (ef_toS (n := 63) (ec_var rfl hu) ev_c))) e fun H2 e2 => ?_
  generalize (ns.take 63).sum = w at k ⊢
  refine s_retS (evI_c (ep_ixQ (n := (w % 4).toNat) (ep_tupI (l := [1 + w / 4 % 9, 16, 30, 60]) (ea_cons (ev_add ev_c (ev_mod (ev_div (ev_var rfl) ev_c (divW (by decide) (by decide) _)) ev_c (by decide))) (ea_cons ev_c (ea_cons ev_c (ea_cons ev_c ea_nil)))) (show 4 ≤ 40000 by decide)) (ev_to (ev_mod (ev_var rfl) ev_c (by decide)) ?_) ?_)) (e.trans e2) (on_v k e2)
  · have : ((w % 4).toNat : Int) = w % 4 := Int.toNat_of_nonneg (by omega)
    rw [this]
  · rcases (by omega : w % 4 = 0 ∨ w % 4 = 1 ∨ w % 4 = 2 ∨ w % 4 = 3) with h | h | h | h <;> rw [h] <;> rfl
theorem call_places {ns : List Int} (h : EvC ta σ Hs (cS c.K) ns) : Ev (tCall (sp_law_places c) [] C8.E0 (tCons ta tNil)) σ Hs (.int (lawPlaces ns)) := by
  refine ev_callS (as_cons h mo_c fun _ _ => as_nil) ?_
  rintro vs H1 _ ⟨_, _, rfl, p1, rfl⟩ H2 e2 Q1 k1
  exact ⟨H1, _, ns, e2, rfl, p1, k1⟩
theorem rd_law_power (h : sp_law_power c vs H Q E) : t_law_power c { nx := fun _ H' => Q .non H', rt := Q } (start ["_law_many", "_law_found", "_law_time"] vs) H := by
  obtain ⟨n, rfl, hn, k⟩ := h
  refine q_set (Hs := H) ev_c (Ex.refl H) fun H2 e2 => ?_
  refine q_oFor (Own.start e2) (ei_rng (ea_cons (ev_var rfl) ea_nil) (by omega) (by omega)) (fun _ _ _ _ _ p => p) (fun pre σ' _ _ => ∃ y, σ' = [some (.int (n : Int)), some (.int (2 ^ pre.length)), y]) (fun _ _ => ⟨none, rfl⟩) ?_ ?_
  · rintro Hb eb pre a post x σ' Ho' Hi' Hi'' H'' hsrc ⟨y, rfl⟩ ei w' e' ca
    cases ca
    refine s_oV w' (ev_mul ev_c (ev_var rfl) (mul2_ok _)) fun H3 w3 => ⟨Ho', Hi'', ⟨some (.int (a : Int)), ?_⟩, ei.trans e', w3⟩
    have e : (2 : Int) ^ (pre ++ [a]).length = 2 * 2 ^ pre.length := by rw [List.length_append, List.length_singleton, Int.pow_succ, Int.mul_comm]
    rw [e]
    rfl
  · rintro σ' Ho' Hi' H' ⟨y, rfl⟩ ei w'
    refine s_oRetV w' (ev_var rfl) (on_v (v := .int (2 ^ (List.range ((n : Int)).toNat).length)) ?_ e2)
    rw [List.length_range, Int.toNat_natCast]
    exact k
theorem call_power {n : Nat} (h : Ev ta σ Hs (.int (n : Int))) (hn : n ≤ 60) : Ev (tCall (sp_law_power c) [] C8.E0 (tCons ta tNil)) σ Hs (.int (2 ^ n)) := by
  refine ev_callS (as_cons (c_evI h) mo_c fun _ _ => as_nil) ?_
  rintro vs H1 _ ⟨_, _, rfl, p1, rfl⟩ H2 e2 Q1 k1
  cases p1
  exact ⟨n, rfl, hn, k1⟩
theorem weightsM_snoc (pre : List (List Int)) (l : List Int) (hs ms : List Int) : weightsM (pre ++ [l]) hs ms = weightsM pre hs ms ++ (if (l.map fun x => decide (x ∈ ms)).any id = true then [] else [(l.filter fun x => !decide (x ∈ hs), 2 ^ missing l hs)]) := by
  unfold weightsM
  rw [List.filter_append, List.map_append]
  congr 1
  cases h : (l.map fun x => decide (x ∈ ms)).any id with
  | true => rw [if_pos rfl, List.filter_cons, h, if_neg (by decide), List.filter_nil, List.map_nil]
  | false => rw [if_neg (by decide), List.filter_cons, h, if_pos (by decide), List.filter_nil, List.map_cons, List.map_nil]
theorem weightsM_len (ls : List (List Int)) (hs ms : List Int) : (weightsM ls hs ms).length ≤ ls.length := by
  unfold weightsM
  rw [List.length_map]
  exact List.length_filter_le _ _
theorem rd_law_weights (h : sp_law_weights c vs H Q E) : t_law_weights c { nx := fun _ H' => Q .non H', rt := Q } (start ["_law_lines_here", "_law_his", "_law_mine", "_law_found", "_law_line", "_law_place", "_law_free"] vs) H := by
  obtain ⟨Hs, u, v, w, ls, hs, ms, e, rfl, h1, h2, h3, ⟨hz, hl⟩, k⟩ := h
  refine q_oF (Own.start e) (ef_nil (c := cP (cL cI) cI)) fun p xs Hi2 H2 w2 e2 _ hx => ?_
  cases hx
  refine q_oFor w2 (ei_list (ec_var rfl (Mo.mo e2 h1))) mo_c' (fun pre σ' Ho' Hi' => ∃ y4 y5 y6 xs, σ' = [some u, some v, some w, some (.ref p), y4, y5, y6] ∧ Ho' p = some (.lst xs) ∧ Paired (fun b x => cP (cL cI) cI b Hi' x) (weightsM pre hs ms) xs)
    (fun _ _ => ⟨none, none, none, [], rfl, upd_same, .nil⟩) ?_ ?_
  · rintro Hb eb pre l post x σ' Ho' Hi' Hi'' H'' hsrc ⟨y4, y5, y6, xs, rfl, hp, px⟩ ei w' e' ca
    have em : Ex Hs Hi'' := ((e2.trans eb).trans ei).trans e'
    have hlz : l.length ≤ 60 := hl l (by rw [hsrc]; simp)
    have hxs : xs.length ≤ ls.length := by
      rw [← px.length, hsrc]
      have := weightsM_len pre hs ms
      rw [List.length_append]
      omega
    refine s_oWhen w' (et_not (et_B (ev_any (EvF.toC (ef_mapN (d := cB) (ei_list (c := cI) (l := l) (ec_var rfl (Mo.mo w'.ik ca))) (fun x => decide (x ∈ ms)) (by omega) fun a x Hs' ha e' ca => ?_))))) (fun hb H3 w3 => ?_) (fun hb H3 w3 => ?_)
    · cases ca
      exact c_evB (ev_in (ev_var rfl) (ec_var rfl (Mo.mo e' (Mo.mo w'.ik (Mo.mo em h3)))))
    · have hb' : ¬ (l.map fun x => decide (x ∈ ms)).any id = true := by simpa using hb
      refine q_oP w3 (EvF.toC (ef_filter (c := cI) (ei_list (c := cI) (l := l) (ec_var rfl ca)) (fun x => !decide (x ∈ hs)) (by omega) fun a x Hs' ha e' ca => ?_)) fun z Hi3 H4 w4 e4 cz => ?_
      · cases ca
        exact ⟨et_test (ev_notIn (ev_var rfl) (ec_var rfl (Mo.mo e' (Mo.mo em h2)))), fun _ => ec_var rfl rfl⟩
      · refine s_oApp w4 hp (ev_var rfl) (ep_pair (c := cL cI) (d := cI) (ec_var rfl cz) (c_evI (call_power (n := missing l hs) (ev_lenC (c := cI) (ec_var rfl cz)) (Nat.le_trans (missing_le l hs) hlz)))) (by omega) fun t Hi5 H5 w5 e5 ct => ?_
        refine ⟨_, Hi5, ⟨some x, y5, some z, xs ++ [t], rfl, upd_same, ?_⟩, ((ei.trans e').trans e4).trans e5, w5⟩
        rw [weightsM_snoc, if_neg hb']
        exact Paired.snoc (paired_mo ((e'.trans e4).trans e5) px) ct
    · have hb' : (l.map fun x => decide (x ∈ ms)).any id = true := by simpa using hb
      refine ⟨_, Hi'', ⟨some x, y5, y6, xs, rfl, hp, ?_⟩, ei.trans e', w3⟩
      rw [weightsM_snoc, if_pos hb', List.append_nil]
      exact paired_mo e' px
  · rintro σ' Ho' Hi' H' ⟨y4, y5, y6, xs, rfl, hp, px⟩ ei w'
    exact s_oRetL w' hp (ev_var rfl) px k
theorem call_weights {ls : List (List Int)} {hs ms : List Int} (h1 : EvC ta σ Hs (cL (cL cI)) ls) (h2 : EvC tb σ Hs (cL cI) hs) (h3 : EvC tc σ Hs (cL cI) ms) (hz : ls.length ≤ 60 ∧ ∀ l ∈ ls, l.length ≤ 60) :
    EvFC (tCall (sp_law_weights c) [] C8.E0 (tCons ta (tCons tb (tCons tc tNil)))) σ Hs (cP (cL cI) cI) (weightsM ls hs ms) := by
  refine ef_call (as_cons h1 mo_c fun _ e1 => as_cons (EvC.lift h2 e1) mo_c fun _ e2 => as_cons (EvC.lift h3 (e1.trans e2)) mo_c fun _ _ => as_nil) ?_
  rintro vs H1 _ ⟨_, _, rfl, p1, _, _, rfl, p2, _, _, rfl, p3, rfl⟩ H2 e2 Q1 k1
  exact ⟨H1, _, _, _, ls, hs, ms, e2, rfl, p1, p2, p3, hz, k1⟩
theorem rd_law_full (h : sp_law_full c vs H Q E) : t_law_full c { nx := fun _ H' => Q .non H', rt := Q } (start ["_law_lines_here", "_law_his", "_law_at", "_law_line", "_law_place"] vs) H := by
  obtain ⟨Hs, u, v, ls, hs, e, rfl, h1, h2, ⟨hz, hl⟩, k⟩ := h
  refine s_retF (ef_compT (d := cN) (c1 := cN) (c2 := cL cI) (ei_enum (c := cL cI) (l := ls) ?_) (fun q => (q.2.map fun x => decide (x ∈ hs)).all id) (fun q => q.1) (by rw [List.length_zip, List.length_range]; omega) fun q s t Hs' hq e' cs ct => ?_) e k
  · refine (as_cons (ec_var rfl h1) mo_c fun _ _ => as_nil).imp ?_
    rintro vs H1 _ ⟨s, _, rfl, p1, rfl⟩
    exact ⟨s, rfl, p1⟩
  · have hq2 : q.2 ∈ ls := (List.of_mem_zip hq).2
    refine ⟨et_B (ev_all (EvF.toC (ef_mapN (d := cB) (ei_list (c := cI) (l := q.2) (ec_var rfl ct)) (fun x => decide (x ∈ hs)) (by have := hl _ hq2; omega) fun a x Hs3 ha e3 ca => ?_))), fun _ => ec_var rfl cs⟩
    cases ca
    exact c_evB (ev_in (ev_var rfl) (ec_var rfl (Mo.mo e3 (Mo.mo e' h2))))
theorem call_fullL {ls : List (List Int)} {hs : List Int} (h1 : EvC ta σ Hs (cL (cL cI)) ls) (h2 : EvC tb σ Hs (cL cI) hs) (hz : ls.length ≤ 60 ∧ ∀ l ∈ ls, l.length ≤ 60) :
    EvFC (tCall (sp_law_full c) [] C8.E0 (tCons ta (tCons tb tNil))) σ Hs cN (fullL ls hs) := by
  refine ef_call (as_cons h1 mo_c fun _ e1 => as_cons (EvC.lift h2 e1) mo_c fun _ e2 => as_nil) ?_
  rintro vs H1 _ ⟨_, _, rfl, p1, _, _, rfl, p2, rfl⟩ H2 e2 Q1 k1
  exact ⟨H1, _, _, ls, hs, e2, rfl, p1, p2, hz, k1⟩
theorem ints2_cW {p : Int × Int} {H : Hp} {v : V} (h : cP cI cI p H v) : cW (.tup [.int p.1, .int p.2]) H v := by
  obtain ⟨a, x, y, rfl, h1, h2, h3⟩ := h
  cases h2
  cases h3
  exact .tup h1 (.cons (.int _) (.cons (.int _) .nil))
theorem bls2_cW {p : Bool × Bool} {H : Hp} {v : V} (h : cP cB cB p H v) : cW (.tup [.bl p.1, .bl p.2]) H v := by
  obtain ⟨a, x, y, rfl, h1, h2, h3⟩ := h
  cases h2
  cases h3
  exact .tup h1 (.cons (.bl _) (.cons (.bl _) .nil))
theorem cW_tup {H : Hp} {l : List Wd} {v : V} (h : cW (.tup l) H v) : cQ cW l H v := by
  cases h with
  | tup h t => exact ⟨_, _, rfl, h, cws_paired t⟩
theorem rd_law_fraction (h : sp_law_fraction c vs H Q E) : t_law_fraction c { nx := fun _ H' => Q .non H', rt := Q } (start ["_law_found", "_law_one"] vs) H := by
  obtain ⟨Hs, u, p, e, rfl, hp, k⟩ := h
  have hw := ints2_cW hp
  refine q_no (EvT_to (et_or (et_not (et_B (ev_isi ty_tuple (ec_var rfl hw)))) fun _ => et_test (ev_neI (ev_lenQ (c := cW) (ec_var rfl (cW_tup hw))) ev_c)) ?_) e fun H2 e2 => ?_
  · rw [tuple_eq]
    rfl
  · refine s_retS (ev_to (ev_all (EvF.toC (ef_mapN (d := cB) (ei_tup (c := cW) (ec_var rfl (cW_tup hw))) (fun d => isTy "int" d && !isTy "bool" d) (show 2 ≤ 40000 by decide) fun a x Hs3 ha e3 ca => c_evB (ev_andV (ev_isi ty_int (ec_var rfl ca)) fun _ => ev_notV (ev_isi ty_bool (ec_var rfl ca)))))) ?_) (e.trans e2) (on_v k e2)
    simp only [whole_eq]
    rfl
theorem call_fraction {p : Int × Int} (h1 : EvC ta σ Hs (cP cI cI) p) : Ev (tCall (sp_law_fraction c) [] C8.E0 (tCons ta tNil)) σ Hs (.bl true) := by
  refine ev_callS (as_cons h1 mo_c fun _ e1 => as_nil) ?_
  rintro vs H1 _ ⟨_, _, rfl, p1, rfl⟩ H2 e2 Q1 k1
  exact ⟨H1, _, p, e2, rfl, p1, k1⟩
end
end LH

namespace LH
open PySem L2 Evl PyProof.Rows
theorem pow_split {P b : Nat} (h : b ≤ P) : (2 : Int) ^ P = 2 ^ b * 2 ^ (P - b) := by
  rw [← Int.pow_add]
  congr 1
  omega
theorem natAbs_pow2 (n : Nat) : ((2 : Int) ^ n).natAbs = 2 ^ n := by
  rw [Int.natAbs_pow]
  rfl
theorem cop_odd {a : Nat} (h : a % 2 = 1) (b : Nat) : Nat.gcd a (2 ^ b) = 1 := by
  have h2 : Nat.gcd 2 a = 1 := by
    rw [Nat.gcd_rec, h]
    rfl
  have : Nat.Coprime a 2 := by
    unfold Nat.Coprime
    rw [Nat.gcd_comm]
    exact h2
  exact Nat.Coprime.pow_right b this
theorem lowest_end {U A : Int} {P b : Nat} (hb : b ≤ P) (hU : U = A * 2 ^ (P - b)) (h : A % 2 = 1 ∨ b = 0) : lowest U (2 ^ P) = (A, 2 ^ b) := by
  have g : gcdI U (2 ^ P) = 2 ^ (P - b) := by
    unfold gcdI
    rw [hU, Int.natAbs_mul, natAbs_pow2, natAbs_pow2]
    have e : (2 : Nat) ^ P = 2 ^ b * 2 ^ (P - b) := by rw [← Nat.pow_add]; congr 1; omega
    rw [e, Nat.gcd_mul_right]
    have c : Nat.gcd A.natAbs (2 ^ b) = 1 := by
      rcases h with h | h
      · exact cop_odd (by omega) b
      · rw [h]
        exact Nat.gcd_one_right _
    rw [c, Nat.one_mul]
    rw [Int.natCast_pow]
    rfl
  unfold lowest
  rw [g]
  have p := pow_pos' (P - b)
  refine Prod.ext ?_ ?_
  · show U / 2 ^ (P - b) = A
    rw [hU]
    exact Int.mul_ediv_cancel _ (by omega)
  · show 2 ^ P / 2 ^ (P - b) = 2 ^ b
    rw [pow_split hb]
    exact Int.mul_ediv_cancel _ (by omega)
theorem max_pow (m a : Nat) : (if (2 : Int) ^ a > 2 ^ m then (2 : Int) ^ a else 2 ^ m) = 2 ^ (max m a) := by
  have key : ∀ x y : Nat, x ≤ y → (2 : Int) ^ x ≤ 2 ^ y := fun x y h => by
    rw [pow_split h]
    have h1 := pow_pos' x
    have h2 := pow_pos' (y - x)
    have : (2 : Int) ^ x * 1 ≤ 2 ^ x * 2 ^ (y - x) := Int.mul_le_mul_of_nonneg_left (by omega) (by omega)
    omega
  by_cases h : a ≤ m
  · rw [if_neg (by have := key a m h; omega), Nat.max_eq_left h]
  · rw [Nat.max_eq_right (by omega)]
    split
    · rfl
    · have := key m a (by omega)
      omega
def mx (as : List Nat) : Nat := as.foldl max 0
theorem mx_snoc (pre : List Nat) (a : Nat) : mx (pre ++ [a]) = max (mx pre) a := by
  unfold mx
  rw [List.foldl_append]
  rfl
theorem foldl_max_le : ∀ (as : List Nat) (m P : Nat), m ≤ P → (∀ a ∈ as, a ≤ P) → as.foldl max m ≤ P
  | [], _, _, h, _ => h
  | a :: r, m, P, h, k => foldl_max_le r (max m a) P (Nat.max_le.mpr ⟨h, k a List.mem_cons_self⟩) fun x hx => k x (List.mem_cons_of_mem _ hx)
theorem foldl_max_ge : ∀ (as : List Nat) (m : Nat), m ≤ as.foldl max m ∧ ∀ a ∈ as, a ≤ as.foldl max m
  | [], _ => ⟨Nat.le_refl _, fun _ h => nomatch h⟩
  | a :: r, m => by
    obtain ⟨h1, h2⟩ := foldl_max_ge r (max m a)
    refine ⟨Nat.le_trans (Nat.le_max_left m a) h1, fun x hx => ?_⟩
    rcases List.mem_cons.mp hx with e | e
    · rw [e]
      exact Nat.le_trans (Nat.le_max_right m a) h1
    · exact h2 x e
theorem sum_scale (as : List Nat) {m P : Nat} (hm : m ≤ P) (h : ∀ a ∈ as, a ≤ m) : (as.map fun a => (2 : Int) ^ (P - a)).sum = (as.map fun a => (2 : Int) ^ (m - a)).sum * 2 ^ (P - m) := by
  induction as with
  | nil => simp
  | cons a r ih =>
    rw [List.map_cons, List.map_cons, List.sum_cons, List.sum_cons, ih fun x hx => h x (List.mem_cons_of_mem _ hx), Int.add_mul]
    have ha := h a List.mem_cons_self
    rw [← Int.pow_add, show m - a + (P - m) = P - a by omega]
section
variable {c : Cn} {vs : List V} {H : Hp} {Q : VK} {E : XK} {σ : L2.St} {Hs : Hp} {ta tb tc td : TE}
theorem pow_le60 {a : Nat} (h : a ≤ 60) : (2 : Int) ^ a ≤ 2 ^ 60 := by
  rw [pow_split h]
  have h1 := pow_pos' a
  have h2 := pow_pos' (60 - a)
  have : (2 : Int) ^ a * 1 ≤ 2 ^ a * 2 ^ (60 - a) := Int.mul_le_mul_of_nonneg_left (by omega) (by omega)
  omega
theorem map_pow_split {as : List Nat} {pre post : List Int} {x : Int} (h : (as.map fun a => (2 : Int) ^ a) = pre ++ x :: post) : ∃ (a1 : List Nat) (a : Nat) (a2 : List Nat), as = a1 ++ a :: a2 ∧ pre = (a1.map fun a => (2 : Int) ^ a) ∧ x = 2 ^ a := by
  obtain ⟨a1, r, rfl, e1, e2⟩ := List.map_eq_append_iff.mp h
  obtain ⟨a, a2, rfl, e3, e4⟩ := List.map_eq_cons_iff.mp e2
  exact ⟨a1, a, a2, rfl, e1.symm, e3.symm⟩
theorem pow2_inj {a b : Nat} (h : (2 : Int) ^ a = 2 ^ b) : a = b := by
  have : (2 : Nat) ^ a = 2 ^ b := by
    have h2 := congrArg Int.natAbs h
    rwa [natAbs_pow2, natAbs_pow2] at h2
  exact (Nat.pow_right_inj (by decide)).mp this
theorem map_pow_inj {as bs : List Nat} (h : (as.map fun a => (2 : Int) ^ a) = bs.map fun a => (2 : Int) ^ a) : as = bs := (List.map_inj_right (f := fun a : Nat => (2 : Int) ^ a) fun _ _ z => pow2_inj z).mp h
theorem rd_law_sum (h : sp_law_sum c vs H Q E) : t_law_sum c { nx := fun _ H' => Q .non H', rt := Q } (start ["_law_some", "_law_above", "_law_below", "_law_power_here"] vs) H := by
  obtain ⟨Hs, u, as, P, e, rfl, hu, ⟨hP, hl, ha⟩, k⟩ := h
  refine q_two (ep_pair (c := cI) (d := cI) (a := 0) (b := 1) (c_evI ev_c) (c_evI ev_c)) e fun s t H2 Hs2 g cs ct => ?_
  cases cs
  cases ct
  have w := (Own.start e).on g
  refine q_oFor w (ei_list (ec_var rfl (Mo.mo g.s hu))) mo_c' (fun pre σ' _ _ => ∃ y a1, pre = (a1.map fun a => (2 : Int) ^ a) ∧ σ' = [some u, some (.int 0), some (.int (2 ^ mx a1)), y]) (fun _ _ => ⟨none, [], rfl, rfl⟩) ?_ ?_
  · rintro Hb eb pre x post z σ' Ho' Hi' Hi'' H'' hsrc ⟨y, a1, ea, rfl⟩ ei w' e' ca
    obtain ⟨b1, a, b2, e1, e2, rfl⟩ := map_pow_split hsrc
    have : a1 = b1 := map_pow_inj (ea.symm.trans e2)
    subst this
    cases ca
    refine s_oV w' (ev_maxI (ev_var rfl) (ev_var rfl)) fun H3 w3 => ⟨Ho', Hi'', ⟨some (.int (2 ^ a)), a1 ++ [a], by rw [ea, List.map_append]; rfl, ?_⟩, ei.trans e', w3⟩
    rw [max_pow, mx_snoc]
    rfl
  · rintro σ' Ho' Hi' H' ⟨y, a1, ea, rfl⟩ ei w'
    have : as = a1 := map_pow_inj ea
    subst this
    have m1 : mx as ≤ P := foldl_max_le as 0 P (Nat.zero_le _) ha
    have m2 : ∀ a ∈ as, a ≤ mx as := (foldl_max_ge as 0).2
    refine q_oFor w' (ei_list (ec_var rfl (Mo.mo ei (Mo.mo g.s hu)))) mo_c' (fun pre σ' _ _ => ∃ y a1, pre = (a1.map fun a => (2 : Int) ^ a) ∧ σ' = [some u, some (.int (a1.map fun a => (2 : Int) ^ (mx as - a)).sum), some (.int (2 ^ mx as)), y]) (fun _ _ => ⟨y, [], rfl, rfl⟩) ?_ ?_
    · rintro Hb eb pre x post z σ' Ho'' Hi'' Hi3 H'' hsrc ⟨y, a1, ea, rfl⟩ ei w' e' ca
      obtain ⟨b1, a, b2, e1, e2, rfl⟩ := map_pow_split hsrc
      have : a1 = b1 := map_pow_inj (ea.symm.trans e2)
      subst this
      cases ca
      have hm : a ≤ mx as := m2 a (by rw [e1]; simp)
      refine s_oV w' (ev_add (ev_var rfl) (ev_div (ev_var rfl) (ev_var rfl) (divW (pow_pos' a) (pow_le60 (by omega)) _))) fun H3 w3 => ⟨Ho'', Hi3, ⟨some (.int (2 ^ a)), a1 ++ [a], by rw [ea, List.map_append]; rfl, ?_⟩, ei.trans e', w3⟩
      have p := pow_pos' a
      have e5 : (2 : Int) ^ mx as / 2 ^ a = 2 ^ (mx as - a) := by
        rw [pow_split hm, Int.mul_ediv_cancel_left _ (by omega)]
      rw [e5, List.map_append, List.sum_append]
      simp
    · rintro σ' Ho'' Hi'' H'' ⟨y, a1, ea, rfl⟩ ei2 w2
      have : as = a1 := map_pow_inj ea
      subst this
      refine q_while (fun m σ' H' => ∃ A y Ho Hi, σ' = [some u, some (.int A), some (.int (2 ^ m)), y] ∧ m ≤ P ∧ (as.map fun a => (2 : Int) ^ (P - a)).sum = A * 2 ^ (P - m) ∧ Own Hs H Ho Hi H') (mx as) ⟨_, y, Ho'', Hi'', rfl, m1, sum_scale as m1 m2, w2⟩ ?_
      rintro m σ' H' ⟨A, y, Ho, Hi, rfl, hm, hU, w3⟩
      refine ⟨decide (A % 2 = 0) && decide (1 < (2 : Int) ^ m), (et_and (et_test (ev_eqI (ev_mod (ev_var rfl) ev_c (by decide)) ev_c)) fun _ => et_test (ev_gt (ev_var rfl) ev_c)), fun hb H3 e3 => ?_, fun hb H3 e3 => ?_⟩
      · rw [Bool.and_eq_true, decide_eq_true_eq, decide_eq_true_eq] at hb
        obtain ⟨b1, b2⟩ := hb
        obtain ⟨n, rfl⟩ : ∃ n, m = n + 1 := ⟨m - 1, by
          rcases m with _ | m
          · simp at b2
          · rfl⟩
        have c2 : ∀ x : Int, CDivW x 2 := divW (by decide) (by decide)
        refine ⟨fun σ2 H2 => ∃ m', m' < n + 1 ∧ ∃ A y Ho Hi, σ2 = [some u, some (.int A), some (.int (2 ^ m')), y] ∧ m' ≤ P ∧ (as.map fun a => (2 : Int) ^ (P - a)).sum = A * 2 ^ (P - m') ∧ Own Hs H Ho Hi H2, fun _ _ h => h, ?_⟩
        refine s_par (Hs := H3) (ev_div (ev_var rfl) ev_c (c2 _)) (ev_div (ev_var rfl) ev_c (c2 _)) (Ex.refl _) fun H4 e4 => ⟨n, Nat.lt_succ_self n, A / 2, y, Ho, Hi, ?_, by omega, ?_, (w3.up e3).up e4⟩
        · have : (2 : Int) ^ (n + 1) / 2 = 2 ^ n := by
            rw [Int.pow_succ]
            exact Int.mul_ediv_cancel _ (by decide)
          rw [this]
          rfl
        · rw [hU, show P - n = (P - (n + 1)) + 1 by omega, Int.pow_succ]
          have : A = 2 * (A / 2) := by omega
          generalize (2 : Int) ^ (P - (n + 1)) = z
          generalize hB : A / 2 = B at this ⊢
          rw [this, Int.mul_comm 2 B, Int.mul_assoc, Int.mul_comm 2 z]
      · have hend : A % 2 = 1 ∨ m = 0 := by
          rcases m with _ | m
          · exact .inr rfl
          · left
            rw [Bool.and_eq_false_iff, decide_eq_false_iff_not, decide_eq_false_iff_not] at hb
            rcases hb with hb | hb
            · omega
            · exfalso
              apply hb
              rw [Int.pow_succ]
              have := pow_pos' m
              omega
        have hL := lowest_end hm hU hend
        have w4 := w3.up e3
        rw [hL] at k
        exact s_oRet w4 (ep_pair (c := cI) (d := cI) (c_evI (ev_var rfl)) (c_evI (ev_var rfl))) k
theorem call_sum {as : List Nat} {P : Nat} (h1 : EvC ta σ Hs (cL cI) (as.map fun a => (2 : Int) ^ a)) (h : P ≤ 60 ∧ as.length ≤ 60 ∧ ∀ a ∈ as, a ≤ P) : EvC (tCall (sp_law_sum c) [] C8.E0 (tCons ta tNil)) σ Hs (cP cI cI) (lowest (as.map fun a => (2 : Int) ^ (P - a)).sum (2 ^ P)) := by
  refine ep_call (as_cons h1 mo_c fun _ e1 => as_nil) ?_
  rintro vs H1 _ ⟨_, _, rfl, p1, rfl⟩ H2 e2 Q1 k1
  exact ⟨H1, _, as, P, e2, rfl, p1, h, k1⟩
end
end LH

namespace LH
open PySem L2 Evl PyProof.Rows
open Builtin.Int (intBits)
/-! ### lines and takings drawn -/
theorem rise_of_pw : ∀ {l : List Int}, l.Pairwise (· < ·) → rise l = true
  | [], _ => rfl
  | [_], _ => rfl
  | a :: b :: r, h => by
    obtain ⟨h1, h2⟩ := List.pairwise_cons.mp h
    have ih : rise (b :: r) = true := rise_of_pw h2
    unfold rise at ih ⊢
    rw [List.drop_succ_cons, List.drop_zero] at ih ⊢
    rw [List.zip_cons_cons, List.all_cons, decide_eq_true (h1 b List.mem_cons_self), Bool.true_and]
    exact ih
theorem pw_len {P : Int} : ∀ {l : List Int} {a : Int}, l.Pairwise (· < ·) → (∀ x ∈ l, a ≤ x ∧ x < P) → a ≤ P → (l.length : Int) ≤ P - a
  | [], a, _, _, h => by simp; omega
  | x :: r, a, h, hx, hp => by
    obtain ⟨h1, h2⟩ := List.pairwise_cons.mp h
    have hx0 := hx x List.mem_cons_self
    have ih := pw_len (l := r) (a := x + 1) h2 (fun y hy => ⟨by have := h1 y hy; omega, (hx y (List.mem_cons_of_mem _ hy)).2⟩) (by omega)
    rw [List.length_cons]
    omega
theorem line_ok {P : Int} {ns ys : List Int} (hP : P ≤ 60) (hp : ns.Pairwise (· < ·)) (hm : ∀ k, k ∈ ns ↔ k ∈ ys) (hy : ∀ y ∈ ys, 0 ≤ y ∧ y < P) (h0 : ys ≠ []) (hP0 : 0 ≤ P) : OkLine P ns := by
  have hx : ∀ x ∈ ns, 0 ≤ x ∧ x < P := fun x hx => hy x ((hm x).mp hx)
  have hl := pw_len hp hx hP0
  refine ⟨fun z => ?_, hx, rise_of_pw hp, by omega, by omega⟩
  obtain ⟨y, hy0⟩ := List.exists_mem_of_ne_nil ys h0
  have := (hm y).mpr hy0
  rw [z] at this
  cases this
theorem cS_of {K : PySem.W.Frag} {l : List Int} {H : Hp} {v : V} (h : cL cI l H v) : cS K l H v := by
  obtain ⟨a, h1, h2⟩ := cL_ints h
  exact ⟨a, h1, sq_of h2⟩
theorem mod_in (x : Int) {P : Int} (h : 1 ≤ P) : 0 ≤ x % P ∧ x % P < P := ⟨Int.emod_nonneg _ (by omega), Int.emod_lt_of_pos _ (by omega)⟩
section
variable {c : Cn} {vs : List V} {H : Hp} {Q : VK} {E : XK} {σ : L2.St} {Hs : Hp} {ta tb tc td : TE}
theorem rd_law_lines (h : sp_law_lines c vs H Q E) : t_law_lines c { nx := fun _ H' => Q .non H', rt := Q } (start ["_law_script", "_law_places_here", "_law_least", "_law_cells", "_law_found", "_law_at", "_law_cell", "_law_number_here", "_law_size", "_law_line", "_law_k"] vs) H := by
  obtain ⟨Hs, u, ns, P, m, e, rfl, hu, hb, ⟨p1, p2, m1, m2⟩, k⟩ := h
  refine q_oP (Own.start e) (EvF.toC (ef_toS (n := 60) (ec_var rfl hu) ev_c)) fun cells Hi H1 w e1 hc => ?_
  refine q_oF w (ef_nil (c := cL cI)) fun p xs Hi2 H2 w2 e2 _ hx => ?_
  cases hx
  have hclen : (ns.take 60).length ≤ 60 := by rw [List.length_take]; omega
  have hzip : ((List.range (ns.take 60).length).zip (ns.take 60)).length = (ns.take 60).length := by rw [List.length_zip, List.length_range, Nat.min_self]
  refine q_oFor w2 (ei_enum (c := cI) (l := ns.take 60) ?_) mo_c' (fun pre σ' Ho' Hi' => ∃ y5 y6 y7 y8 y9 y10 xs ls, σ' = [some u, some (.int P), some (.int m), some cells, some (.ref p), y5, y6, y7, y8, y9, y10] ∧ Ho' p = some (.lst xs) ∧ Paired (fun b x => cL cI b Hi' x) ls xs ∧ ls.length = pre.length ∧ ∀ l ∈ ls, OkLine P l)
    (fun _ _ => ⟨none, none, none, none, none, none, [], [], rfl, upd_same, .nil, rfl, fun _ h => nomatch h⟩) ?_ ?_
  · refine (as_cons (ec_var rfl (Mo.mo e2 hc)) mo_c fun _ _ => as_nil).imp ?_
    rintro vs H1 _ ⟨s, _, rfl, p1, rfl⟩
    exact ⟨s, rfl, p1⟩
  · rintro Hb eb pre ⟨at_, cell⟩ post x σ' Ho' Hi' Hi'' H'' hsrc ⟨y5, y6, y7, y8, y9, y10, xs, ls, rfl, hp, px, pl, pok⟩ ei w' e' ca
    have hmem : (at_, cell) ∈ (List.range (ns.take 60).length).zip (ns.take 60) := by rw [hsrc]; simp
    have ha : at_ < 60 := by have := List.mem_range.mp (List.of_mem_zip hmem).1; omega
    have hcell : intBits cell ≤ 1048576 := hb cell (List.mem_of_mem_take (List.of_mem_zip hmem).2)
    have hpre : pre.length < 60 := by
      have := congrArg List.length hsrc
      rw [List.length_append, List.length_cons] at this
      omega
    refine g_two ca w'.g.i fun cu cv h1 h2 => ?_
    cases h1
    cases h2
    have em : Ex Hi2 Hi'' := (eb.trans ei).trans e'
    have hcells : cL cI (ns.take 60) Hi'' cells := Mo.mo em (Mo.mo e2 hc)
    refine q_oV w' (call_number (x := cell) (t := (at_ : Int)) (n := ((ns.take 60).length : Int)) (ev_var rfl) (ev_var rfl) (ev_lenC (c := cI) (ec_var rfl (Mo.mo w'.ik hcells))) ⟨hcell, by omega, by omega⟩) fun H3 w3 => ?_
    generalize lawNumber cell (at_ : Int) ((ns.take 60).length : Int) = N
    have d1 : ∀ x : Int, CDivW x 36 := divW (by decide) (by decide)
    have d2 : ∀ x : Int, CDivW x 4 := divW (by decide) (by decide)
    refine q_oV w3 (v := .int (m + N % 4 + if N / 36 % 5 = 1 then N / 4 % 9 else 0)) (ev_add (ev_add (ev_var rfl) (ev_mod (ev_var rfl) ev_c (by decide))) (ev_if (b := decide (N / 36 % 5 = 1)) (et_test (ev_eqI (ev_mod (ev_div (ev_var rfl) ev_c (d1 _)) ev_c (by decide)) ev_c)) (fun hb => ev_to (ev_mod (ev_div (ev_var rfl) ev_c (d2 _)) ev_c (by decide)) (by rw [if_pos (by simpa using hb)])) (fun hb => ev_to ev_c (by rw [if_neg (by simpa using hb)])))) fun H4 w4 => ?_
    have hs0 : 1 ≤ (m + N % 4 + if N / 36 % 5 = 1 then N / 4 % 9 else 0) := by split <;> omega
    have hs1 : (m + N % 4 + if N / 36 % 5 = 1 then N / 4 % 9 else 0) ≤ 31 := by split <;> omega
    generalize (m + N % 4 + if N / 36 % 5 = 1 then N / 4 % 9 else 0) = sz at hs0 hs1 ⊢
    refine q_oF w4 (ef_nil (c := cI)) fun q ys Hi5 H5 w5 e5 hne hy => ?_
    cases hy
    have qp : p ≠ q := hne p _ hp
    refine q_oFor w5 (ei_rng (ea_cons (ev_var rfl) ea_nil) (by omega) (by omega)) (fun _ _ _ _ _ p => p) (fun pre2 σ' Ho' Hi' => ∃ y10 N' ys, σ' = [some u, some (.int P), some (.int m), some cells, some (.ref p), some (.int (at_ : Int)), some (.int cell), some (.int N'), some (.int sz), some (.ref q), y10] ∧ Ho' p = some (.lst xs) ∧ Ho' q = some (.lst (ys.map V.int)) ∧ ys.length = pre2.length ∧ ∀ y ∈ ys, 0 ≤ y ∧ y < P)
      (fun _ _ => ⟨y10, N, [], rfl, by rw [upd_ne qp]; exact hp, upd_same, rfl, fun _ h => nomatch h⟩) ?_ ?_
    · rintro Hb2 eb2 pre2 j post2 x2 σ2 Ho6 Hi6 Hi7 H7 hsrc2 ⟨z10, N', ys, rfl, hp6, hq6, yl, yok⟩ ei6 w7 e7 ca2
      cases ca2
      have hpre2 : pre2.length < 31 := by
        have := congrArg List.length hsrc2
        rw [List.length_append, List.length_cons, List.length_range] at this
        omega
      have hj : (j : Int) < 31 := by
        have : j ∈ List.range sz.toNat := by rw [hsrc2]; simp
        have := List.mem_range.mp this
        omega
      have hj0 : (0 : Int) ≤ j := by omega
      have d3 : CDivW N' (64 + (j : Int)) := divW (by omega) (by omega) _
      have d4 : CDivW N' 3 := divW (by decide) (by decide) _
      have m7 : IntMulOk 7 (j : Int) := CMul.ok (.inl ⟨by decide, by decide⟩)
      refine q_oApp w7 hq6 (ev_var rfl) (P := fun v _ => v = .int (N' / (64 + (j : Int)) % P)) (ep_ev (ev_mod (ev_div (ev_var rfl) (ev_add ev_c (ev_var rfl)) d3) (ev_var rfl) (by omega)) rfl) (by rw [List.length_map]; omega) fun z Hi8 H8 w8 e8 hz => ?_
      cases hz
      refine s_oV w8 (ev_add (ev_div (ev_var rfl) ev_c d4) (ev_mul ev_c (ev_var rfl) m7)) fun H9 w9 => ⟨_, Hi8, ⟨some (.int (j : Int)), _, ys ++ [N' / (64 + (j : Int)) % P], rfl, by rw [upd_ne qp]; exact hp6, by rw [upd_same, List.map_append]; rfl, by rw [List.length_append, List.length_append, yl]; rfl, fun y hy => ?_⟩, (ei6.trans e7).trans e8, w9⟩
      rcases List.mem_append.mp hy with h | h
      · exact yok y h
      · rw [List.mem_singleton.mp h]
        exact mod_in _ p1
    · rintro σ2 Ho6 Hi6 H6 ⟨z10, N', ys, rfl, hp6, hq6, yl, yok⟩ ei6 w6
      rw [List.length_range] at yl
      have w7 := w6.know hq6
      have hk : cL cI ys (upd Hi6 q (.lst (ys.map V.int))) (.ref q) := ints_cL upd_same
      have hp7 : del Ho6 q p = some (.lst xs) := by rw [del_at qp]; exact hp6
      have hxs : xs.length ≤ 40000 := by rw [← px.length]; omega
      have ddl := dd_le ys
      refine s_oApp w7 hp7 (ev_var rfl) (EvF.toP (P' := fun v H => ∃ l, cL cI l H v ∧ OkLine P l) (ef_sortedSet (ec_var rfl hk) (by omega) (by omega)) ?_) hxs fun v Hi8 H8 w8 e8 hv => ?_
      · rintro r zs Hs2 _ ⟨l, rfl, h1, h2⟩ _
        exact ⟨l, ints_cL upd_same, line_ok p2 h1 h2 yok (fun z => by rw [z] at yl; simp at yl; omega) (by omega)⟩
      · obtain ⟨l, hl, ok⟩ := hv
        have eAll : Ex Hi' Hi8 := (((e'.trans e5).trans ei6).trans (Ex.new (w6.o q _ hq6).2.1)).trans e8
        refine ⟨_, Hi8, ⟨_, _, _, _, _, _, xs ++ [v], ls ++ [l], rfl, upd_same, Paired.snoc (paired_mo eAll px) hl, by rw [List.length_append, List.length_append, pl]; rfl, fun l' hl' => ?_⟩, ei.trans eAll, w8⟩
        rcases List.mem_append.mp hl' with h | h
        · exact pok l' h
        · rw [List.mem_singleton.mp h]
          exact ok
  · rintro σ' Ho' Hi' H' ⟨y5, y6, y7, y8, y9, y10, xs, ls, rfl, hp, px, pl, pok⟩ ei w'
    refine s_oRetL w' hp (ev_var rfl) ⟨ls, px, ⟨by omega, pok⟩, ?_⟩ k
    rw [pl, hzip, List.length_take]
    omega
theorem call_lines {ns : List Int} {P m : Int} (h1 : EvC ta σ Hs (cS c.K) ns) (h2 : Ev tb σ Hs (.int P)) (h3 : Ev tc σ Hs (.int m)) (hb : Bits ns) (hp : 1 ≤ P ∧ P ≤ 60 ∧ 1 ≤ m ∧ m ≤ 20) :
    EvF (tCall (sp_law_lines c) [] C8.E0 (tCons ta (tCons tb (tCons tc tNil)))) σ Hs fun xs H => ∃ ls, Paired (fun b x => cL cI b H x) ls xs ∧ OkLines P ls ∧ ls.length ≤ ns.length := by
  refine ef_call (as_cons h1 mo_c fun _ e1 => as_cons (c_evI (h2.mono e1)) mo_c fun _ e2 => as_cons (c_evI (h3.mono (e1.trans e2))) mo_c fun _ _ => as_nil) ?_
  rintro vs H1 _ ⟨_, _, rfl, p1, _, _, rfl, p2, _, _, rfl, p3, rfl⟩ H2 e2 Q1 k1
  cases p2
  cases p3
  exact ⟨H1, _, ns, P, m, e2, rfl, p1, hb, hp, k1⟩
/-- a, b = [], [] -/
theorem q_oNil2 {Hs0 H0 Ho Hi : Hp} {i j : Nat} {D : Ends} {tz : TS} (w : Own Hs0 H0 Ho Hi H) (k : ∀ p q H2, Own Hs0 H0 (upd (upd Ho p (.lst [])) q (.lst [])) Hi H2 → p ≠ q → (∀ r u, Ho r = some u → r ≠ p ∧ r ≠ q) → tz D ((σ.set i (some (.ref p))).set j (some (.ref q))) H2) :
    tSeq (tPar i j (tCons (tLst tNil) (tCons (tLst tNil) tNil))) tz D σ H :=
  ⟨Nat.zero_le _, fun p hp => ⟨Nat.zero_le _, fun q hq => ⟨.ref p, .ref q, rfl, by
    have w1 := w.new (Grow.up w.g.i (Ex.new hp)) hp (fresh_back w.g.i hp) (u := .lst []) upd_same
    have w2 := w1.new (Grow.up w1.g.i (Ex.new hq)) hq (fresh_back w1.g.i hq) (u := .lst []) upd_same
    refine k p q _ w2 (w1.ne (q := p) upd_same hq) fun r u hr => ⟨w.ne hr hp, ?_⟩
    have := w.ne hr hp
    exact w1.ne (q := r) (by rw [upd_ne this]; exact hr) hq⟩⟩⟩
theorem nodup_add {hs ms : List Int} {x : Int} (h : (hs ++ ms).Nodup) (hx : x ∉ hs ++ ms) : ((hs ++ [x]) ++ ms).Nodup ∧ (hs ++ (ms ++ [x])).Nodup := by
  have h2 : (hs ++ (ms ++ [x])).Nodup := by
    rw [← List.append_assoc]
    refine List.nodup_append.mpr ⟨h, by simp, fun a ha b hb => ?_⟩
    rw [List.mem_singleton.mp hb]
    exact fun z => hx (z ▸ ha)
  refine ⟨(List.Perm.nodup_iff ?_).mpr h2, h2⟩
  rw [List.append_assoc]
  exact List.Perm.append_left hs List.perm_append_comm
theorem rd_law_takings (h : sp_law_takings c vs H Q E) : t_law_takings c { nx := fun _ H' => Q .non H', rt := Q } (start ["_law_script", "_law_places_here", "_law_by", "_law_cells", "_law_whole", "_law_his", "_law_mine", "_law_k", "_law_place"] vs) H := by
  obtain ⟨Hs, u, ns, P, m, e, rfl, hu, hb, ⟨p1, p2, m1, m2⟩, k⟩ := h
  refine q_oP (P := fun v H => ∃ cs, cL cI cs H v ∧ Bits cs ∧ cs ≠ []) (Own.start e) (EvF.toP (ef_if (PL := fun xs H => ∃ cs, Paired (fun b x => cI b H x) cs xs ∧ Bits cs ∧ cs ≠ []) (b := !decide (ns = [])) (et_test (ev_neNil (ec_var rfl hu))) (fun hn => ?_) (fun _ => ?_)) ?_) fun cells Hi H1 w e1 hc => ?_
  · refine (ef_toS (n := 63) (ec_var rfl hu) ev_c).imp fun xs H _ px => ⟨ns.take 63, px, fun x hx => hb x (List.mem_of_mem_take hx), fun z => ?_⟩
    rw [List.take_eq_nil_iff] at z
    rcases z with z | z
    · cases z
    · rw [z] at hn; simp at hn
  · refine EvF.imp (ef_lst (as_ea (ea_cons ev_c ea_nil)) fun vs H p => by rw [p]; show 1 ≤ 40000; decide) fun xs H _ px => ⟨[3], ?_, ?_, by decide⟩
    · rw [px]
      exact ints_paired [3]
    · intro x hx
      rw [List.mem_singleton.mp hx]
      decide
  · rintro p xs Hs2 _ ⟨cs, px, b1, b2⟩ hp
    exact ⟨cs, ⟨p, xs, rfl, upd_same, paired_mo (Ex.new hp) px⟩, b1, b2⟩
  obtain ⟨cs, hc, bcs, ncs⟩ := hc
  refine q_oV w (ev_sum (ec_var rfl (Mo.mo w.ik hc))) fun H2 w2 => ?_
  generalize cs.sum = W
  refine q_oNil2 w2 fun p q H3 w3 pq _ => ?_
  have d5 : ∀ x : Int, CDivW x 5 := divW (by decide) (by decide)
  have hn := mod_in (W / 5) (P := P + 1) (by omega)
  refine q_oFor w3 (ei_rng (ea_cons (ev_mod (ev_div (ev_var rfl) ev_c (d5 _)) (ev_add (ev_var rfl) ev_c) (by omega)) ea_nil) (by omega) (by omega)) (fun _ _ _ _ _ p => p)
    (fun pre σ' Ho' Hi' => ∃ y7 y8 hs ms, σ' = [some u, some (.int P), some (.int m), some cells, some (.int W), some (.ref p), some (.ref q), y7, y8] ∧ Ho' p = some (.lst (hs.map V.int)) ∧ Ho' q = some (.lst (ms.map V.int)) ∧ hs.length + ms.length ≤ pre.length ∧ (hs ++ ms).Nodup ∧ ∀ x ∈ hs ++ ms, 0 ≤ x ∧ x < P)
    (fun _ _ => ⟨none, none, [], [], rfl, by rw [upd_ne pq]; exact upd_same, upd_same, Nat.le_refl _, List.nodup_nil, fun _ h => nomatch h⟩) ?_ ?_
  · rintro Hb eb pre j post x σ' Ho' Hi' Hi'' H'' hsrc ⟨y7, y8, hs, ms, rfl, hp, hq, hl, hnd, hin⟩ ei w' e' ca
    cases ca
    have hpre : pre.length < 61 := by
      have := congrArg List.length hsrc
      rw [List.length_append, List.length_cons, List.length_range] at this
      omega
    have hj : (j : Int) < 61 := by
      have : j ∈ List.range (W / 5 % (P + 1)).toNat := by rw [hsrc]; simp
      have := List.mem_range.mp this
      omega
    have hcells : cL cI cs (kn Ho' Hi'') cells := Mo.mo w'.ik (Mo.mo (((eb.trans ei).trans e')) hc)
    have hc0 : 0 < cs.length := List.length_pos_iff.mpr ncs
    have hjm : j % cs.length < cs.length := Nat.mod_lt _ hc0
    have hget : cs[j % cs.length]? = some cs[j % cs.length] := List.getElem?_eq_getElem hjm
    have hbit := bcs _ (List.getElem_mem hjm)
    generalize cs[j % cs.length] = x0 at hget hbit
    refine q_oV w' (ev_mod (ev_div (call_number (x := x0) (evI_c (ep_ixL (c := cI) (n := j % cs.length) (ec_var rfl hcells) (ev_to (ev_mod (ev_var rfl) (ev_lenC (c := cI) (ec_var rfl hcells)) (by omega)) (by rw [Int.natCast_emod])) hget)) (ev_add (ev_var rfl) (ev_var rfl)) (ev_lenC (c := cI) (ec_var rfl hcells)) ⟨hbit, by omega, by omega⟩) ev_c (d5 _)) (ev_var rfl) (by omega)) fun H4 w4 => ?_
    generalize lawNumber x0 ((j : Int) + m) (cs.length : Int) / 5 = N
    have hpl := mod_in N p1
    generalize N % P = z at hpl ⊢
    have kp : cL cI hs (kn Ho' Hi'') (.ref p) := ints_cL (kn_at hp)
    have kq : cL cI ms (kn Ho' Hi'') (.ref q) := ints_cL (kn_at hq)
    refine s_oWhen w4 (et_test (ev_notIn (ev_var rfl) (EvF.toC (ef_cat (d := cI) (ec_var rfl kp) (ec_var rfl kq) (by omega))))) (fun hb5 H5 w5 => ?_) (fun hb5 H5 w5 => ?_)
    · have hz : z ∉ hs ++ ms := by simpa using hb5
      obtain ⟨nd1, nd2⟩ := nodup_add hnd hz
      refine s_oIf w5 (et_test (ev_eqI (ev_mod (ev_add (ev_var rfl) (ev_var rfl)) ev_c (by decide)) ev_c)) (fun hb6 H6 w6 => ?_) (fun hb6 H6 w6 => ?_)
      · refine s_oApp w6 hp (ev_var rfl) (P := fun v _ => v = .int z) (ep_ev (ev_var rfl) rfl) (by rw [List.length_map]; omega) fun v Hi7 H7 w7 e7 hv => ?_
        cases hv
        refine ⟨_, Hi7, ⟨_, _, hs ++ [z], ms, rfl, by rw [upd_same, List.map_append]; rfl, by rw [upd_ne pq.symm]; exact hq, by rw [List.length_append, List.length_append, List.length_singleton, List.length_singleton]; omega, nd1, fun x hx => ?_⟩, (ei.trans e').trans e7, w7⟩
        simp only [List.mem_append, List.mem_singleton] at hx
        rcases hx with (h | h) | h
        · exact hin x (List.mem_append_left _ h)
        · rw [h]; exact hpl
        · exact hin x (List.mem_append_right _ h)
      · refine s_oApp w6 hq (ev_var rfl) (P := fun v _ => v = .int z) (ep_ev (ev_var rfl) rfl) (by rw [List.length_map]; omega) fun v Hi7 H7 w7 e7 hv => ?_
        cases hv
        refine ⟨_, Hi7, ⟨_, _, hs, ms ++ [z], rfl, by rw [upd_ne pq]; exact hp, by rw [upd_same, List.map_append]; rfl, by rw [List.length_append, List.length_append, List.length_singleton, List.length_singleton]; omega, nd2, fun x hx => ?_⟩, (ei.trans e').trans e7, w7⟩
        simp only [List.mem_append, List.mem_singleton] at hx
        rcases hx with h | h | h
        · exact hin x (List.mem_append_left _ h)
        · exact hin x (List.mem_append_right _ h)
        · rw [h]; exact hpl
    · exact ⟨Ho', Hi'', ⟨_, _, hs, ms, rfl, hp, hq, by rw [List.length_append]; omega, hnd, hin⟩, ei.trans e', w5⟩
  · rintro σ' Ho' Hi' H' ⟨y7, y8, hs, ms, rfl, hp, hq, hl, hnd, hin⟩ ei w'
    rw [List.length_range] at hl
    have w1 := w'.know hp
    have hq1 : del Ho' p q = some (.lst (ms.map V.int)) := by rw [del_at pq.symm]; exact hq
    have w2 := w1.know hq1
    have kp : cL cI hs (upd (upd Hi' p (.lst (hs.map V.int))) q (.lst (ms.map V.int))) (.ref p) := ints_cL (by rw [upd_ne pq]; exact upd_same)
    have kq : cL cI ms (upd (upd Hi' p (.lst (hs.map V.int))) q (.lst (ms.map V.int))) (.ref q) := ints_cL upd_same
    refine s_oRet w2 ((ep_pair (c := cL cI) (d := cL cI) (ec_var rfl kp) (ec_var rfl kq)).imp fun v H _ hv => ⟨hs, ms, hv, ⟨fun x hx => hin x (List.mem_append_left _ hx), fun x hx => hin x (List.mem_append_right _ hx), hnd, by omega⟩⟩) k
theorem call_takings {ns : List Int} {P m : Int} (h1 : EvC ta σ Hs (cS c.K) ns) (h2 : Ev tb σ Hs (.int P)) (h3 : Ev tc σ Hs (.int m)) (hb : Bits ns) (hp : 1 ≤ P ∧ P ≤ 60 ∧ 0 ≤ m ∧ m ≤ 100) :
    EvP (tCall (sp_law_takings c) [] C8.E0 (tCons ta (tCons tb (tCons tc tNil)))) σ Hs fun v H => ∃ hs ms, cP (cL cI) (cL cI) (hs, ms) H v ∧ OkTake P hs ms := by
  refine ep_call (as_cons h1 mo_c fun _ e1 => as_cons (c_evI (h2.mono e1)) mo_c fun _ e2 => as_cons (c_evI (h3.mono (e1.trans e2))) mo_c fun _ _ => as_nil) ?_
  rintro vs H1 _ ⟨_, _, rfl, p1, _, _, rfl, p2, _, _, rfl, p3, rfl⟩ H2 e2 Q1 k1
  cases p2
  cases p3
  exact ⟨H1, _, ns, P, m, e2, rfl, p1, hb, hp, k1⟩
end
end LH

namespace LH
/-! ### the danger by the law's own sum -/
def blocked (ms l : List Int) : Bool := (l.map fun x => decide (x ∈ ms)).any id
def expsM (ls : List (List Int)) (hs ms : List Int) : List Nat := (ls.filter fun l => !blocked ms l).map fun l => missing l hs
theorem weights_exps (ls : List (List Int)) (hs ms : List Int) : (weightsM ls hs ms).map (fun q => q.2) = (expsM ls hs ms).map fun a => (2 : Int) ^ a := by
  unfold weightsM expsM
  rw [List.map_map, List.map_map]
  rfl
theorem unit_eq {P : Int} {l hs ms : List Int} (hl : (l.length : Int) ≤ P) : unit P l hs ms = if blocked ms l = true then 0 else 2 ^ (P.toNat - missing l hs) := by
  unfold unit blocked
  have := missing_le l hs
  split
  · rfl
  · rw [Int.one_mul]
    congr 1
    omega
theorem sum_units {P : Int} {hs ms : List Int} : ∀ {ls : List (List Int)}, (∀ l ∈ ls, (l.length : Int) ≤ P) → (ls.map fun l => unit P l hs ms).sum = ((expsM ls hs ms).map fun a => (2 : Int) ^ (P.toNat - a)).sum
  | [], _ => rfl
  | l :: r, h => by
    have ih := sum_units (hs := hs) (ms := ms) fun x hx => h x (List.mem_cons_of_mem _ hx)
    rw [List.map_cons, List.sum_cons, ih, unit_eq (h l List.mem_cons_self)]
    unfold expsM
    rw [List.filter_cons]
    cases hb : blocked ms l with
    | true => simp
    | false => simp
theorem zip_units (ls : List (List Int)) (f : List Int → Int) (p : Int) : (((ls.zip (ls.map f)).filter fun q => decide (p ∈ q.1)).map fun q => q.2) = (ls.filter fun l => decide (p ∈ l)).map f := by
  induction ls with
  | nil => rfl
  | cons l r ih =>
    rw [List.map_cons, List.zip_cons_cons, List.filter_cons, List.filter_cons]
    by_cases h : p ∈ l
    · rw [if_pos (by simpa using h), if_pos (by simpa using h), List.map_cons, List.map_cons, ih]
    · rw [if_neg (by simpa using h), if_neg (by simpa using h), ih]
theorem worthU_eq (P : Int) (ls : List (List Int)) (hs ms : List Int) (p : Int) : worthU P ls hs ms p = ((ls.filter fun l => decide (p ∈ l)).map fun l => unit P l hs ms).sum := by
  unfold worthU unitsL
  rw [zip_units]
theorem one_eq (P : Int) : one P = 2 ^ P.toNat := Int.one_mul _
theorem danger_sum {P : Int} {ls : List (List Int)} {hs ms : List Int} (h : ∀ l ∈ ls, (l.length : Int) ≤ P) : lowest ((expsM ls hs ms).map fun a => (2 : Int) ^ (P.toNat - a)).sum (2 ^ P.toNat) = dangerM P ls hs ms := by
  unfold dangerM total unitsL
  rw [sum_units h, one_eq]
theorem weightsM_cons (l : List Int) (r : List (List Int)) (hs ms : List Int) : weightsM (l :: r) hs ms = if blocked ms l = true then weightsM r hs ms else (l.filter fun x => !decide (x ∈ hs), 2 ^ missing l hs) :: weightsM r hs ms := by
  show List.map _ (List.filter (fun l => !blocked ms l) (l :: r)) = _
  rw [List.filter_cons]
  cases hb : blocked ms l with
  | true => rfl
  | false => rfl
theorem expsM_cons (l : List Int) (r : List (List Int)) (hs ms : List Int) : expsM (l :: r) hs ms = if blocked ms l = true then expsM r hs ms else missing l hs :: expsM r hs ms := by
  unfold expsM
  rw [List.filter_cons]
  cases hb : blocked ms l with
  | true => rfl
  | false => rfl
/-- the powers of the lines with a place -/
theorem weights_at {hs ms : List Int} {p : Int} (hp : p ∉ hs) : ∀ ls : List (List Int), ((weightsM ls hs ms).filter fun q => decide (p ∈ q.1)).map (fun q => q.2) = (expsM (ls.filter fun l => decide (p ∈ l)) hs ms).map fun a => (2 : Int) ^ a
  | [] => rfl
  | l :: r => by
    have ih := weights_at (ms := ms) hp r
    rw [weightsM_cons]
    by_cases hm : p ∈ l
    · rw [List.filter_cons_of_pos (p := fun l => decide (p ∈ l)) (by simpa using hm), expsM_cons]
      by_cases hb : blocked ms l = true
      · rw [if_pos hb, if_pos hb]
        exact ih
      · have hq : p ∈ l.filter fun x => !decide (x ∈ hs) := List.mem_filter.mpr ⟨hm, by simpa using hp⟩
        rw [if_neg hb, if_neg hb, List.filter_cons_of_pos (by simpa using hq), List.map_cons, List.map_cons, ih]
    · rw [List.filter_cons_of_neg (p := fun l => decide (p ∈ l)) (by simpa using hm)]
      by_cases hb : blocked ms l = true
      · rw [if_pos hb]
        exact ih
      · have hq : ¬ p ∈ l.filter fun x => !decide (x ∈ hs) := fun z => hm (List.mem_filter.mp z).1
        rw [if_neg hb, List.filter_cons_of_neg (by simpa using hq)]
        exact ih
theorem worth_sum {P : Int} {ls : List (List Int)} {hs ms : List Int} (h : ∀ l ∈ ls, (l.length : Int) ≤ P) (p : Int) : lowest ((expsM (ls.filter fun l => decide (p ∈ l)) hs ms).map fun a => (2 : Int) ^ (P.toNat - a)).sum (2 ^ P.toNat) = lowest (worthU P ls hs ms p) (one P) := by
  rw [worthU_eq, sum_units fun l hl => h l (List.mem_filter.mp hl).1, one_eq]
theorem exps_ok {P : Int} {ls : List (List Int)} {hs ms : List Int} (hf : ls.length ≤ 60) (h : ∀ l ∈ ls, (l.length : Int) ≤ P) : (expsM ls hs ms).length ≤ 60 ∧ ∀ a ∈ expsM ls hs ms, a ≤ P.toNat := by
  unfold expsM
  refine ⟨?_, fun a ha => ?_⟩
  · rw [List.length_map]
    exact Nat.le_trans (List.length_filter_le _ _) hf
  · obtain ⟨l, hl, rfl⟩ := List.mem_map.mp ha
    have h1 := h l (List.mem_filter.mp hl).1
    have h2 := missing_le l hs
    omega
/-! fractions -/
theorem gcdI_dvd_l (u o : Int) : gcdI u o ∣ u := by
  unfold gcdI
  exact Int.dvd_natAbs.mp (Int.ofNat_dvd.mpr (Nat.gcd_dvd_left _ _))
theorem gcdI_dvd_r (u o : Int) : gcdI u o ∣ o := by
  unfold gcdI
  exact Int.dvd_natAbs.mp (Int.ofNat_dvd.mpr (Nat.gcd_dvd_right _ _))
/-- a fraction in lowest terms, undone -/
theorem lowest_back (u : Int) {o : Int} (h : 0 < o) : ∃ k, 0 < k ∧ (lowest u o).1 * k = u ∧ (lowest u o).2 * k = o := by
  refine ⟨gcdI u o, gcd_pos h, ?_, ?_⟩
  · exact Int.ediv_mul_cancel (gcdI_dvd_l u o)
  · exact Int.ediv_mul_cancel (gcdI_dvd_r u o)
theorem lowest_pos (u : Int) {o : Int} (h : 0 < o) : 0 < (lowest u o).2 := by
  obtain ⟨k, h1, _, h3⟩ := lowest_back u h
  by_cases z : 0 < (lowest u o).2
  · exact z
  · exfalso
    have : (lowest u o).2 * k ≤ 0 := Int.mul_nonpos_of_nonpos_of_nonneg (by omega) (by omega)
    omega
theorem lowest_le (u : Int) {o : Int} (h : 0 < o) : (lowest u o).2 ≤ o := by
  obtain ⟨k, h1, _, h3⟩ := lowest_back u h
  have h0 := lowest_pos u h
  have : (lowest u o).2 * 1 ≤ (lowest u o).2 * k := Int.mul_le_mul_of_nonneg_left (by omega) (by omega)
  omega
theorem cross (u v : Int) {o : Int} (h : 0 < o) : (lowest v o).1 * (lowest u o).2 < (lowest u o).1 * (lowest v o).2 ↔ v < u := by
  obtain ⟨k, k0, k1, k2⟩ := lowest_back u h
  obtain ⟨j, j0, j1, j2⟩ := lowest_back v h
  generalize (lowest u o).1 = a at *
  generalize (lowest u o).2 = b at *
  generalize (lowest v o).1 = d at *
  generalize (lowest v o).2 = e at *
  have kj : 0 < k * j := Int.mul_pos k0 j0
  have e1 : d * b * (k * j) = v * o := by rw [← j1, ← k2]; ac_rfl
  have e2 : a * e * (k * j) = u * o := by rw [← k1, ← j2]; ac_rfl
  constructor
  · intro hlt
    have := Int.mul_lt_mul_of_pos_right hlt kj
    rw [e1, e2] at this
    exact Int.lt_of_mul_lt_mul_right this (by omega)
  · intro hlt
    have := Int.mul_lt_mul_of_pos_right hlt h
    rw [← e1, ← e2] at this
    exact Int.lt_of_mul_lt_mul_right this (by omega)
theorem lowest_inj {u v o : Int} (h : 0 < o) (e : lowest u o = lowest v o) : u = v := by
  have h1 := cross u v h
  have h2 := cross v u h
  rw [e] at h1 h2
  omega
theorem lowest_lt (u : Int) {o : Int} (h : 0 < o) : ((lowest u o).1 < (lowest u o).2 ↔ u < o) ∧ (2 * (lowest u o).1 < (lowest u o).2 ↔ 2 * u < o) := by
  obtain ⟨k, k0, k1, k2⟩ := lowest_back u h
  generalize (lowest u o).1 = a at *
  generalize (lowest u o).2 = b at *
  have key : ∀ x : Int, (x < b ↔ x * k < o) := fun x => by
    rw [← k2]
    exact ⟨fun hlt => Int.mul_lt_mul_of_pos_right hlt k0, fun hlt => Int.lt_of_mul_lt_mul_right hlt (by omega)⟩
  refine ⟨?_, ?_⟩
  · rw [key, k1]
  · rw [key, Int.mul_assoc, k1]
/-! the best -/
/-- the first of the greatest -/
structure First (w : Nat → Int) (l : List Nat) (q : Nat) : Prop where
  mem : q ∈ l
  ge : ∀ r ∈ l, w r ≤ w q
  fst : ∀ r ∈ l, r < q → w r < w q
theorem pick_first (w : Nat → Int) : ∀ (l pre : List Nat) (o : Option Nat), (pre ++ l).Pairwise (· < ·) → (match o with | none => pre = [] | some q => First w pre q) →
    match l.foldl (pick w) o with | none => pre ++ l = [] | some q => First w (pre ++ l) q
  | [], pre, o, _, h => by
    rw [List.append_nil]
    exact h
  | x :: l, pre, o, hp, h => by
    have e : pre ++ x :: l = (pre ++ [x]) ++ l := by simp
    rw [e] at hp ⊢
    have hlt : ∀ r ∈ pre, r < x := by
      have := (List.pairwise_append.mp (List.pairwise_append.mp hp).1).2.2
      exact fun r hr => this r hr x (List.mem_singleton.mpr rfl)
    refine pick_first w l (pre ++ [x]) (pick w o x) hp ?_
    cases o with
    | none =>
      have h' : pre = [] := h
      subst h'
      exact ⟨by simp, fun r hr => by simp at hr; rw [hr]; omega, fun r hr hrx => by simp at hr; omega⟩
    | some q =>
      have h' : First w pre q := h
      show match (if w q < w x then some x else some q) with | none => pre ++ [x] = [] | some q => First w (pre ++ [x]) q
      by_cases c : w q < w x
      · rw [if_pos c]
        refine ⟨by simp, fun r hr => ?_, fun r hr hrx => ?_⟩
        · rcases List.mem_append.mp hr with z | z
          · have := h'.ge r z; omega
          · rw [List.mem_singleton.mp z]; omega
        · rcases List.mem_append.mp hr with z | z
          · have := h'.ge r z; omega
          · rw [List.mem_singleton.mp z] at hrx; omega
      · rw [if_neg c]
        refine ⟨by simp [h'.mem], fun r hr => ?_, fun r hr hrx => ?_⟩
        · rcases List.mem_append.mp hr with z | z
          · exact h'.ge r z
          · rw [List.mem_singleton.mp z]; omega
        · rcases List.mem_append.mp hr with z | z
          · exact h'.fst r z hrx
          · rw [List.mem_singleton.mp z] at hrx
            have := hlt q h'.mem
            omega
theorem free_sorted (P : Int) (hs ms : List Int) : (freeP P hs ms).Pairwise (· < ·) := List.Pairwise.filter _ List.pairwise_lt_range
theorem best_first {P : Int} {ls : List (List Int)} {hs ms : List Int} {q : Nat} (h : bestM P ls hs ms = some q) : First (fun p => worthU P ls hs ms (p : Int)) (freeP P hs ms) q := by
  have := pick_first (fun p => worthU P ls hs ms (p : Int)) (freeP P hs ms) [] none (free_sorted P hs ms) rfl
  unfold bestM at h
  rw [h] at this
  exact this
theorem worths_at (P : Int) (ls : List (List Int)) (hs ms : List Int) {p : Nat} (h : p < P.toNat) : (worthsM P ls hs ms)[p]? = some (if p ∈ freeP P hs ms then some (lowest (worthU P ls hs ms (p : Int)) (one P)) else none) := by
  unfold worthsM
  rw [List.getElem?_map, List.getElem?_range h]
  rfl
/-- the best place is the first of the greatest worth -/
theorem best_index {P : Int} {ls : List (List Int)} {hs ms : List Int} {q : Nat} (h : bestM P ls hs ms = some q) :
    (worthsM P ls hs ms)[q]? = some (some (lowest (worthU P ls hs ms (q : Int)) (one P))) ∧ ∀ m < q, (worthsM P ls hs ms)[m]? ≠ some (some (lowest (worthU P ls hs ms (q : Int)) (one P))) := by
  have F := best_first h
  have hq : q < P.toNat := List.mem_range.mp (List.mem_filter.mp F.mem).1
  refine ⟨by rw [worths_at P ls hs ms hq, if_pos F.mem], fun m hm z => ?_⟩
  rw [worths_at P ls hs ms (by omega)] at z
  by_cases hf : m ∈ freeP P hs ms
  · rw [if_pos hf] at z
    have := lowest_inj (one_pos P) (Option.some.inj (Option.some.inj z))
    have := F.fst m hf hm
    omega
  · rw [if_neg hf] at z
    cases z
/-! full lines -/
theorem fullL_eq (ls : List (List Int)) (hs : List Int) : fullL ls hs = fullM ls hs := by
  unfold fullL fullM
  congr 1
  congr 1
  funext q
  unfold missing
  rw [List.all_map]
  by_cases h : ∀ x ∈ q.2, x ∈ hs
  · rw [show (q.2.all (id ∘ fun x => decide (x ∈ hs))) = true from List.all_eq_true.mpr fun x hx => decide_eq_true (h x hx)]
    rw [List.filter_eq_nil_iff.mpr fun x hx => by simpa using h x hx]
    rfl
  · obtain ⟨x, hx, hn⟩ : ∃ x ∈ q.2, x ∉ hs := by
      rcases Classical.not_forall.mp h with ⟨x, hx⟩
      exact ⟨x, by simpa using hx⟩
    rw [show (q.2.all (id ∘ fun x => decide (x ∈ hs))) = false from Bool.eq_false_iff.mpr fun z => hn (by simpa using List.all_eq_true.mp z x hx)]
    symm
    rw [decide_eq_false_iff_not]
    intro z
    have : (q.2.filter fun x => !decide (x ∈ hs)).length = 0 := by omega
    have e := List.length_eq_zero_iff.mp this
    have : x ∈ q.2.filter fun x => !decide (x ∈ hs) := List.mem_filter.mpr ⟨hx, by simpa using hn⟩
    rw [e] at this
    cases this
end LH

namespace LH
open PySem L2 Evl PyProof.Rows
/-! ### the looks at a play, called -/
abbrev EvPlay (ta : TA) (σ : L2.St) (Hs : Hp) (P : Int) (ls : List (List Int)) (hs ms : List Int) : Prop := EvAs ta σ Hs fun vs H => ∀ H2, Ex H H2 → Play H H2 (vs ++ []) P ls hs ms
instance : Dt cN where
  d := fun n => .int (n : Int)
  dp := fun h => by cases h; exact .int _
  lay := fun _ => by simp only [PyData.canLay0]
  dep := 0
  depth := fun _ => by simp [PyData.depth]
  eqv := fun a b => by
    simp [PyData.eqv]
    omega
theorem u65 {k : Nat} {A : Around} (r : Room k A) : A.units + 65 < cLine := by have := r.un; omega
section
variable {c : Cn} {vs : List V} {H : Hp} {Q : VK} {E : XK} {σ : L2.St} {Hs Hs0 H0 Ho Hi : Hp} {ta tb tc td te : TE} {targ : TA} {P : Int} {ls : List (List Int)} {hs ms : List Int} {K : PySem.W.Frag}
theorem pl_h (h0 : Ev ta σ Hs (.int P)) (hh : EvC tb σ Hs (cL3 (cL (cL cI)) (cL cI) (cL cI)) (ls, hs, ms)) (b : Board P ls hs ms) :
    EvPlay (tCons ta (tCons (tOp (rIx K) tb (tC (.int 0))) (tCons (tOp (rIx K) tb (tC (.int 1))) (tCons (tOp (rIx K) tb (tC (.int 2))) tNil)))) σ Hs P ls hs ms := as_play h0 (ep_l31 hh ev_c) (ep_l32 hh ev_c) (ep_l33 hh ev_c) b
theorem pl_b (h0 : Ev ta σ Hs (.int P)) (hh : EvC tb σ Hs (cP3 (cL (cL cI)) (cL cI) (cL cI)) (ls, hs, ms)) (b : Board P ls hs ms) :
    EvPlay (tCons ta (tCons (tOp (rIx K) tb (tC (.int 0))) (tCons (tOp (rIx K) tb (tC (.int 1))) (tCons (tOp (rIx K) tb (tC (.int 2))) tNil)))) σ Hs P ls hs ms := as_play h0 (ep_t31 hh ev_c) (ep_t32 hh ev_c) (ep_t33 hh ev_c) b
theorem call_danger (h : EvPlay targ σ Hs P ls hs ms) : EvC (tCall (sp_danger c) [] C8.E0 targ) σ Hs (cP cI cI) (dangerM P ls hs ms) := ep_call h fun _ H1 _ p H2 e2 _ k => ⟨H1, P, ls, hs, ms, p H2 e2, k⟩
theorem call_worths (h : EvPlay targ σ Hs P ls hs ms) : EvFC (tCall (sp_worths c) [] C8.E0 targ) σ Hs (cO (cP cI cI)) (worthsM P ls hs ms) := ef_call h fun _ H1 _ p H2 e2 _ k => ⟨H1, P, ls, hs, ms, p H2 e2, k⟩
theorem call_sure (h : EvPlay targ σ Hs P ls hs ms) : EvC (tCall (sp_sure c) [] C8.E0 targ) σ Hs (cP cB cB) (sureM P ls hs ms) := ep_call h fun _ H1 _ p H2 e2 _ k => ⟨H1, P, ls, hs, ms, p H2 e2, k⟩
theorem call_best (h : EvPlay targ σ Hs P ls hs ms) : Ev (tCall (sp_best c) [] C8.E0 targ) σ Hs (oV (bestM P ls hs ms)) := ev_callS h fun _ H1 _ p H2 e2 _ k => ⟨H1, P, ls, hs, ms, p H2 e2, k⟩
theorem call_full (h : EvPlay targ σ Hs P ls hs ms) : EvFC (tCall (sp_full c) [] C8.E0 targ) σ Hs cN (fullM ls hs) := ef_call h fun _ H1 _ p H2 e2 _ k => ⟨H1, P, ls, hs, ms, p H2 e2, k⟩
theorem Own.m {α : Type} {d : Cd α} [Mo d] {a : α} {v : V} (w : Own Hs0 H0 Ho Hi H) (h : d a Hi v) : d a (kn Ho Hi) v := Mo.mo w.ik h
theorem Own.l {α : Type} {d : Cd α} [Mo d] {l : List α} {xs : List V} {p : Addr} (w : Own Hs0 H0 Ho Hi H) (hp : Ho p = some (.lst xs)) (px : Paired (fun b x => d b Hi x) l xs) : cL d l (kn Ho Hi) (.ref p) := ⟨p, xs, rfl, kn_at hp, paired_mo w.ik px⟩
theorem q_oTwo {α β : Type} {d : Cd α} {f : Cd β} {i j : Nat} {D : Ends} {tz : TS} {ab : α × β} (w : Own Hs0 H0 Ho Hi H) (h : EvC te σ Hi (cP d f) ab) (k : ∀ u v Hi2 H2, Own Hs0 H0 Ho Hi2 H2 → Ex Hi Hi2 → d ab.1 Hi2 u → f ab.2 Hi2 v → tz D ((σ.set i (some u)).set j (some v)) H2) :
    tSeq (tAsg te (gTup K 2 (gCons (gName i) (gCons (gName j) gNil)))) tz D σ H := q_two h w.g.i fun u v H2 Hi2 g cu cv => k u v Hi2 H2 (w.on g) g.s cu cv
theorem ev_index {α : Type} {d : Cd α} [Mo d] [Dt d] [DecidableEq α] {l : List α} {a : α} {j : Nat} (ha : EvC ta σ Hs (cL d) l) (hb : EvC tb σ Hs d a) (hj : l[j]? = some a) (hn : ∀ m < j, l[m]? ≠ some a) (hd : Dt.dep (cL d) ≤ 64 := by decide) :
    Ev (tBM K "list" (rIndexD K) ta (tCons tb tNil)) σ Hs (.int (j : Nat)) := fun H e Q q => ha H e _ fun v H2 Hs2 g ⟨p, xs, h1, h2, h3⟩ => by
  subst h1
  refine ⟨.inl ⟨rfl, xs, sq_ex g.i h2⟩, (EvC.lift hb g.s) H2 g.i _ fun y H3 Hs3 g3 cy => ?_⟩
  have hl : cL d l H3 (.ref p) := ⟨p, xs, rfl, g3.i _ _ (g3.s _ _ h2), paired_mo (g3.s.trans g3.i) h3⟩
  have hy : d a H3 y := Mo.mo g3.i cy
  have hd0 : Dt.dep d ≤ 64 := by
    have : Dt.dep (cL d) = Dt.dep d + 1 := rfl
    omega
  refine ⟨p, y, Dt.d d a, l.map (Dt.d d), j, Dt.d d a, rfl, rfl, Dt.dp (c := cL d) hl, Dt.dp hy, shaped_of (c := cL d) hd l, shaped_of hd0 a, by rw [List.getElem?_map, hj]; rfl, by rw [dt_dec]; exact decide_eq_true rfl, fun m z hm hz => ?_, q H3 (g.b.trans g3.b)⟩
  rw [List.getElem?_map] at hz
  cases hlm : l[m]? with
  | none => rw [hlm] at hz; cases hz
  | some x =>
    rw [hlm] at hz
    cases Option.some.inj hz
    rw [dt_dec]
    exact decide_eq_false fun z => hn m hm (by rw [hlm, z])
theorem oV_cW {H : Hp} : ∀ o : Option Nat, ∃ d : Wd, cW d H (oV o) ∧ isTy "bool" d = false
  | none => ⟨.non, .non, by with_unfolding_all rfl⟩
  | some p => ⟨.int (p : Int), .int _, by with_unfolding_all rfl⟩
end
end LH

namespace LH
open PySem L2 Evl PyProof.Rows
def sp_law_right (_ : Cn) : Sp := fun vs H Q _ => ∃ (Hs : Hp) (P : Int) (ls : List (List Int)) (hs ms : List Int), Play Hs H vs P ls hs ms ∧ RetV (.bl true) H Q
def t_law_right (c : Cn) : TS := (tSeq (tAsg (tLst (tCons (tLc (iList c.K (tVar 1)) (gName 5) tYes (tCB (rListA c.K) (tCons (tVar 5) tNil)) [5]) (tCons (tCB (rListA c.K) (tCons (tVar 2) tNil)) (tCons (tCB (rListA c.K) (tCons (tVar 3) tNil)) tNil)))) (gName 4)) (tSeq (tAsg (tCall (sp_law_weights c) [] C8.E0 (tCons (tVar 1) (tCons (tVar 2) (tCons (tVar 3) tNil)))) (gName 6)) (tSeq (tAsg (tCall (sp_law_sum c) [] C8.E0 (tCons (tLc (iList c.K (tVar 6)) (gTup c.K 2 (gCons (gName 8) (gCons (gName 9) gNil))) tYes (tVar 9) [8, 9]) tNil)) (gName 7)) (tSeq (tAsg (tCall (sp_danger c) [] C8.E0 (tCons (tVar 0) (tCons (tOp (rIx c.K) (tVar 4) (tC (.int 0))) (tCons (tOp (rIx c.K) (tVar 4) (tC (.int 1))) (tCons (tOp (rIx c.K) (tVar 4) (tC (.int 2))) tNil))))) (gName 10)) (tSeq (tIfS (tOr (tNot (tB (tCall (sp_law_fraction c) [] C8.E0 (tCons (tVar 10) tNil)))) (tOr (tTest (tOp (rNeA c.K) (tVar 10) (tVar 7))) (tTest (tOp (rNeA c.K) (tVar 4) (tLst (tCons (tVar 1) (tCons (tVar 2) (tCons (tVar 3) tNil)))))))) (tRet (tC (.bl false))) tNext) (tSeq (tAsg (tCall (sp_worths c) [] C8.E0 (tCons (tVar 0) (tCons (tOp (rIx c.K) (tVar 4) (tC (.int 0))) (tCons (tOp (rIx c.K) (tVar 4) (tC (.int 1))) (tCons (tOp (rIx c.K) (tVar 4) (tC (.int 2))) tNil))))) (gName 11)) (tSeq (tIfS (tOr (tNot (tB (tCB (rIsi c.K) (tCons (tVar 11) (tCons (tC (.ty "list")) tNil))))) (tTest (tOp (rNeA c.K) (tCB (rLenA c.K) (tCons (tVar 11) tNil)) (tVar 0)))) (tRet (tC (.bl false))) tNext) (tSeq (tAsg (tTup (tCons (tC .non) (tCons (tUn rNegU (tC (.int 1))) tNil))) (gTup c.K 2 (gCons (gName 12) (gCons (gName 13) gNil)))) (tSeq (tFor (iRng1 (tCons (tVar 0) tNil)) (gName 14) (tIfS (tOr (tTest (tOp (rIn c.K false) (tVar 14) (tVar 2))) (tTest (tOp (rIn c.K false) (tVar 14) (tVar 3)))) (tIfS (tTest (tOp rNotN (tOp (rIx c.K) (tVar 11) (tVar 14)) (tC .non))) (tRet (tC (.bl false))) tNext) (tSeq (tAsg (tCall (sp_law_sum c) [] C8.E0 (tCons (tLc (iList c.K (tVar 6)) (gTup c.K 2 (gCons (gName 8) (gCons (gName 9) gNil))) (tTest (tOp (rIn c.K false) (tVar 14) (tVar 8))) (tVar 9) [8, 9]) tNil)) (gName 15)) (tSeq (tIfS (tOr (tNot (tB (tCall (sp_law_fraction c) [] C8.E0 (tCons (tOp (rIx c.K) (tVar 11) (tVar 14)) tNil)))) (tTest (tOp (rNeA c.K) (tOp (rIx c.K) (tVar 11) (tVar 14)) (tVar 15)))) (tRet (tC (.bl false))) tNext) (tIfS (tOr (tTest (tOp rIsN (tVar 12) (tC .non))) (tTest (tOp rGtI (tOp rMulI (tOp (rIx c.K) (tVar 15) (tC (.int 0))) (tVar 13)) (tOp rMulI (tOp (rIx c.K) (tVar 12) (tC (.int 0))) (tOp (rIx c.K) (tVar 15) (tC (.int 1))))))) (tPar 12 13 (tCons (tVar 15) (tCons (tOp (rIx c.K) (tVar 15) (tC (.int 1))) tNil))) tNext))))) (tSeq (tAsg (tCall (sp_best c) [] C8.E0 (tCons (tVar 0) (tCons (tOp (rIx c.K) (tVar 4) (tC (.int 0))) (tCons (tOp (rIx c.K) (tVar 4) (tC (.int 1))) (tCons (tOp (rIx c.K) (tVar 4) (tC (.int 2))) tNil))))) (gName 14)) (tSeq (tIfS (tOr (tTest (tOp (rNeA c.K) (tVar 14) (tIf (tTest (tOp rIsN (tVar 12) (tC .non))) (tC .non) (tBM c.K "list" (rIndexD c.K) (tVar 11) (tCons (tVar 12) tNil))))) (tB (tCB (rIsi c.K) (tCons (tVar 14) (tCons (tC (.ty "bool")) tNil))))) (tRet (tC (.bl false))) tNext) (tSeq (tAsg (tCall (sp_sure c) [] C8.E0 (tCons (tVar 0) (tCons (tOp (rIx c.K) (tVar 4) (tC (.int 0))) (tCons (tOp (rIx c.K) (tVar 4) (tC (.int 1))) (tCons (tOp (rIx c.K) (tVar 4) (tC (.int 2))) tNil))))) (gName 16)) (tSeq (tIfS (tOr (tNot (tB (tCB (rIsi c.K) (tCons (tVar 16) (tCons (tC (.ty "tuple")) tNil))))) (tTest (tOp (rNeA c.K) (tVar 16) (tTup (tCons (tOp rLtI (tOp (rIx c.K) (tVar 7) (tC (.int 0))) (tOp (rIx c.K) (tVar 7) (tC (.int 1)))) (tCons (tOp rLtI (tOp rMulI (tC (.int 2)) (tOp (rIx c.K) (tVar 7) (tC (.int 0)))) (tOp (rIx c.K) (tVar 7) (tC (.int 1)))) tNil)))))) (tRet (tC (.bl false))) tNext) (tSeq (tIfS (tNot (tB (tCB (rAll c.K) (tCons (tLc (iTup c.K (tVar 16)) (gName 17) tYes (tCB (rIsi c.K) (tCons (tVar 17) (tCons (tC (.ty "bool")) tNil))) [17]) tNil)))) (tRet (tC (.bl false))) tNext) (tSeq (tAsg (tCall (sp_full c) [] C8.E0 (tCons (tVar 0) (tCons (tOp (rIx c.K) (tVar 4) (tC (.int 0))) (tCons (tOp (rIx c.K) (tVar 4) (tC (.int 1))) (tCons (tOp (rIx c.K) (tVar 4) (tC (.int 2))) tNil))))) (gName 18)) (tSeq (tIfS (tOr (tNot (tB (tCB (rIsi c.K) (tCons (tVar 18) (tCons (tC (.ty "list")) tNil))))) (tOr (tTest (tOp (rNeA c.K) (tVar 18) (tCall (sp_law_full c) [] C8.E0 (tCons (tVar 1) (tCons (tVar 2) tNil))))) (tTest (tOp (rNeA c.K) (tVar 4) (tLst (tCons (tVar 1) (tCons (tVar 2) (tCons (tVar 3) tNil)))))))) (tRet (tC (.bl false))) tNext) (tSeq (tDrop (tBM c.K "list" rAppend (tVar 11) (tCons (tC .non) tNil))) (tSeq (tDrop (tBM c.K "list" rAppend (tVar 18) (tCons (tC (.int 0)) tNil))) (tSeq (tAsg (tLst (tCons (tCall (sp_worths c) [] C8.E0 (tCons (tVar 0) (tCons (tOp (rIx c.K) (tVar 4) (tC (.int 0))) (tCons (tOp (rIx c.K) (tVar 4) (tC (.int 1))) (tCons (tOp (rIx c.K) (tVar 4) (tC (.int 2))) tNil))))) (tCons (tCall (sp_full c) [] C8.E0 (tCons (tVar 0) (tCons (tOp (rIx c.K) (tVar 4) (tC (.int 0))) (tCons (tOp (rIx c.K) (tVar 4) (tC (.int 1))) (tCons (tOp (rIx c.K) (tVar 4) (tC (.int 2))) tNil))))) tNil))) (gName 19)) (tRet (tOp (rEqA c.K) (tVar 19) (tLst (tCons (tSl (rSlL c.K) (tVar 11) tNoPart (tPart (tUn rNegU (tC (.int 1))))) (tCons (tSl (rSlL c.K) (tVar 18) tNoPart (tPart (tUn rNegU (tC (.int 1))))) tNil))))))))))))))))))))))))
/-- the best among the first so many -/
def bestTo (P : Int) (ls : List (List Int)) (hs ms : List Int) (pre : List Nat) : Option Nat := (pre.filter fun (p : Nat) => !decide ((p : Int) ∈ hs) && !decide ((p : Int) ∈ ms)).foldl (pick fun p => worthU P ls hs ms (p : Int)) none
theorem bestTo_snoc (P : Int) (ls : List (List Int)) (hs ms : List Int) (pre : List Nat) (p : Nat) : bestTo P ls hs ms (pre ++ [p]) = if (!decide ((p : Int) ∈ hs) && !decide ((p : Int) ∈ ms)) = true then pick (fun p => worthU P ls hs ms (p : Int)) (bestTo P ls hs ms pre) p else bestTo P ls hs ms pre := by
  unfold bestTo
  rw [List.filter_append, List.foldl_append, List.filter_cons]
  split <;> rfl
def wo (P : Int) (ls : List (List Int)) (hs ms : List Int) (q : Nat) : Int × Int := lowest (worthU P ls hs ms (q : Int)) (one P)
section
variable {c : Cn} {vs : List V} {H : Hp} {Q : VK} {E : XK}
theorem rd_law_right (h : sp_law_right c vs H Q E) : t_law_right c { nx := fun _ H' => Q .non H', rt := Q } (start ["_law_places_here", "_law_lines_here", "_law_his", "_law_mine", "_law_handed", "_law_line", "_law_weighed", "_law_due", "_law_free", "_law_power_here", "_law_found", "_law_much", "_law_greatest", "_law_far", "_law_place", "_law_worth", "_law_said", "_law_one", "_law_whole", "_law_again"] vs) H := by
  obtain ⟨Hs, P, ls, hs, ms, ⟨u, v, w_, e, rfl, h1, h2, h3, b⟩, k⟩ := h
  have hz : ls.length ≤ 60 ∧ ∀ l ∈ ls, l.length ≤ 60 := ⟨b.l.few, fun l hl => (b.l.ok l hl).few⟩
  have hle : ∀ l ∈ ls, (l.length : Int) ≤ P := fun l hl => (b.l.ok l hl).len
  have hP := b.p
  have hf := b.t.few
  have hone : (0 : Int) < one P := one_pos P
  have hone2 := one_le hP.2
  refine q_oP (Own.start e) (ep_lst3 (c := cL (cL cI)) (d := cL cI) (f := cL cI) (a := ls.map fun l => l) (b := hs) (g := ms) (EvF.toC (ef_mapN (d := cL cI) (ei_list (ec_var rfl h1)) (fun l => l) (by omega) fun a x Hs' ha e' ca => EvF.toC (ef_list (c := cI) (ec_var rfl ca)))) (EvF.toC (ef_list (c := cI) (ec_var rfl h2))) (EvF.toC (ef_list (c := cI) (ec_var rfl h3)))) fun hd Hi H2 w e1 hh => ?_
  rw [List.map_id'] at hh
  replace h1 := Mo.mo e1 h1
  replace h2 := Mo.mo e1 h2
  replace h3 := Mo.mo e1 h3
  refine q_oP w (EvF.toC (call_weights (ec_var rfl h1) (ec_var rfl h2) (ec_var rfl h3) hz)) fun wg Hi2 H3 w e2 hw => ?_
  replace h1 := Mo.mo e2 h1
  replace h2 := Mo.mo e2 h2
  replace h3 := Mo.mo e2 h3
  replace hh := Mo.mo e2 hh
  have hwl : (weightsM ls hs ms).length ≤ 60 := Nat.le_trans (weightsM_len ls hs ms) hz.1
  obtain ⟨x1, x2⟩ := exps_ok (hs := hs) (ms := ms) hz.1 hle
  refine q_oP w (call_sum (as := expsM ls hs ms) (P := P.toNat) (weights_exps ls hs ms ▸ EvF.toC (ef_mapT (d := cI) (c1 := cL cI) (c2 := cI) (ei_list (ec_var rfl hw)) (fun q => q.2) (by omega) fun a u v Hs' ha e' hu hv => ec_var rfl hv)) ⟨by omega, x1, x2⟩) fun du Hi3 H4 w e3 hdue => ?_
  rw [danger_sum hle] at hdue
  replace h1 := Mo.mo e3 h1
  replace h2 := Mo.mo e3 h2
  replace h3 := Mo.mo e3 h3
  replace hh := Mo.mo e3 hh
  replace hw := Mo.mo e3 hw
  refine q_oP w (call_danger (pl_h (ev_var rfl) (ec_var rfl hh) b)) fun fo Hi4 H5 w e4 hfo => ?_
  replace h1 := Mo.mo e4 h1
  replace h2 := Mo.mo e4 h2
  replace h3 := Mo.mo e4 h3
  replace hh := Mo.mo e4 hh
  replace hw := Mo.mo e4 hw
  replace hdue := Mo.mo e4 hdue
  refine q_oNo w (EvT_to (et_or (et_not (et_B (call_fraction (ec_var rfl (w.m hfo))))) fun _ => et_or (et_test (ev_neC (c := cP cI cI) (ec_var rfl (w.m hfo)) (ec_var rfl (w.m hdue)))) fun _ => et_test (ev_neC (c := cL3 (cL (cL cI)) (cL cI) (cL cI)) (a' := (ls, hs, ms)) (ec_var rfl (w.m hh)) (ep_lst3 (ec_var rfl (w.m h1)) (ec_var rfl (w.m h2)) (ec_var rfl (w.m h3))))) (by simp)) fun H6 w => ?_
  refine q_oF w (call_worths (pl_h (ev_var rfl) (ec_var rfl hh) b)) fun p xs Hi5 H7 w e5 _ px => ?_
  replace h1 := Mo.mo e5 h1
  replace h2 := Mo.mo e5 h2
  replace h3 := Mo.mo e5 h3
  replace hh := Mo.mo e5 hh
  replace hw := Mo.mo e5 hw
  replace hdue := Mo.mo e5 hdue
  have hp : upd emp p (.lst xs) p = some (.lst xs) := upd_same
  have hwlen : ((worthsM P ls hs ms).length : Int) = P := by
    unfold worthsM
    rw [List.length_map, List.length_range]
    omega
  refine q_oNo w (EvT_to (et_or (et_not (et_B (ev_isList (d := cO (cP cI cI)) (ec_var rfl (w.l hp px))))) fun _ => et_test (ev_neI (ev_lenC (c := cO (cP cI cI)) (ec_var rfl (w.l hp px))) (ev_var rfl))) (by rw [hwlen]; simp)) fun H8 w => ?_
  refine q_oTwo (d := cO (cP cI cI)) (f := cI) (ab := (none, -1)) w (ep_pair (c := cO (cP cI cI)) (d := cI) (ep_ev ev_c rfl) (c_evI (ev_neg ev_c))) fun gr fa Hi6 H9 w e6 cgr cfa => ?_
  cases cfa
  have px6 := paired_mo (c := cO (cP cI cI)) e6 px
  replace h1 := Mo.mo e6 h1
  replace h2 := Mo.mo e6 h2
  replace h3 := Mo.mo e6 h3
  replace hh := Mo.mo e6 hh
  replace hw := Mo.mo e6 hw
  replace hdue := Mo.mo e6 hdue
  refine q_oFor w (ei_rng (ea_cons (ev_var rfl) ea_nil) (by omega) (by omega)) (fun _ _ _ _ _ p => p)
    (fun pre σ' Ho' Hi' => ∃ y14 y15 g, σ' = [some (.int P), some u, some v, some w_, some hd, none, some wg, some du, none, none, some fo, some (.ref p), some g, some (.int (match bestTo P ls hs ms pre with | none => -1 | some q => (wo P ls hs ms q).2)), y14, y15, none, none, none, none] ∧ Ho' p = some (.lst xs) ∧ cO (cP cI cI) ((bestTo P ls hs ms pre).map (wo P ls hs ms)) Hi' g)
    (fun _ e7 => ⟨none, none, gr, rfl, hp, Mo.mo e7 cgr⟩) ?_ ?_
  · rintro Hb eb pre q post x σ' Ho' Hi' Hi'' H'' hsrc ⟨y14, y15, g, rfl, hp', cg⟩ ei w' e' ca
    cases ca
    have hq : q < P.toNat := by
      have : q ∈ List.range P.toNat := by rw [hsrc]; simp
      exact List.mem_range.mp this
    have em : Ex Hi6 Hi'' := (eb.trans ei).trans e'
    have k2 := w'.m (Mo.mo em h2)
    have k3 := w'.m (Mo.mo em h3)
    have hmuch := w'.l hp' (paired_mo (c := cO (cP cI cI)) em px6)
    have hat := worths_at P ls hs ms hq
    have hfr : q ∈ freeP P hs ms ↔ (!decide ((q : Int) ∈ hs) && !decide ((q : Int) ∈ ms)) = true := by
      unfold freeP
      rw [List.mem_filter]
      exact ⟨fun z => z.2, fun z => ⟨List.mem_range.mpr hq, z⟩⟩
    refine s_oIf w' (et_or (et_test (ev_in (ev_var rfl) (ec_var rfl k2))) fun _ => et_test (ev_in (ev_var rfl) (ec_var rfl k3))) (fun hb H10 w'' => ?_) (fun hb H10 w'' => ?_)
    · have hnf : ¬ (!decide ((q : Int) ∈ hs) && !decide ((q : Int) ∈ ms)) = true := by
        simp only [Bool.or_eq_true, decide_eq_true_eq] at hb
        simp only [Bool.and_eq_true, Bool.not_eq_true', decide_eq_false_iff_not]
        exact fun z => hb.elim z.1 z.2
      rw [if_neg fun z => hnf (hfr.mp z)] at hat
      refine s_oWhen w'' (b := false) (EvT_to (et_test (ev_notNP (b := true) (ep_ixL (c := cO (cP cI cI)) (n := q) (ec_var rfl hmuch) (ev_var rfl) hat) fun v H hv => ?_)) rfl) (fun z => nomatch z) (fun _ H11 w3 => ?_)
      · exact decide_eq_true hv
      · refine ⟨Ho', Hi'', ⟨some (.int (q : Int)), y15, g, ?_, hp', ?_⟩, ei.trans e', w3⟩
        · rw [bestTo_snoc, if_neg hnf]
          rfl
        · rw [bestTo_snoc, if_neg hnf]
          exact Mo.mo e' cg
    · have hfree : (!decide ((q : Int) ∈ hs) && !decide ((q : Int) ∈ ms)) = true := by
        rw [Bool.or_eq_false_iff] at hb
        rw [hb.1, hb.2]
        rfl
      have hqh : (q : Int) ∉ hs := by
        have := (Bool.or_eq_false_iff.mp hb).1
        simpa using this
      rw [if_pos (hfr.mpr hfree)] at hat
      have hexp := exps_ok (P := P) (ls := ls.filter fun l => decide ((q : Int) ∈ l)) (hs := hs) (ms := ms) (Nat.le_trans (List.length_filter_le _ _) hz.1) fun l hl => hle l (List.mem_filter.mp hl).1
      refine q_oP w'' (call_sum (as := expsM (ls.filter fun l => decide ((q : Int) ∈ l)) hs ms) (P := P.toNat) (weights_at hqh ls ▸ EvF.toC (ef_compT (d := cI) (c1 := cL cI) (c2 := cI) (ei_list (ec_var rfl (Mo.mo em hw))) (fun z => decide ((q : Int) ∈ z.1)) (fun z => z.2) (by omega) fun a u v Hs' ha e' hu hv => ⟨et_test (ev_in (ev_var rfl) (ec_var rfl hu)), fun _ => ec_var rfl hv⟩)) ⟨by omega, hexp.1, hexp.2⟩) fun wv Hi7 H11 w3 e7 cwv => ?_
      rw [worth_sum hle] at cwv
      have hmuch7 := w3.l hp' (paired_mo (c := cO (cP cI cI)) e7 (paired_mo (c := cO (cP cI cI)) em px6))
      have cg7 := w3.m (Mo.mo e7 (Mo.mo e' cg))
      have cwv' := w3.m cwv
      refine q_oNo w3 (EvT_to (et_or (et_not (et_B (call_fraction (p := lowest (worthU P ls hs ms (q : Int)) (one P)) (EvP.imp (ep_ixL (c := cO (cP cI cI)) (n := q) (ec_var rfl hmuch7) (ev_var rfl) hat) fun _ _ _ h => h)))) fun _ => et_test (ev_neC (c := cO (cP cI cI)) (a' := some (lowest (worthU P ls hs ms (q : Int)) (one P))) (ep_ixL (c := cO (cP cI cI)) (n := q) (ec_var rfl hmuch7) (ev_var rfl) hat) (ec_var rfl (show cO (cP cI cI) (some _) _ _ from cwv')))) (by simp)) fun H12 w4 => ?_
      have hlp := lowest_pos (worthU P ls hs ms (q : Int)) hone
      have hll := lowest_le (worthU P ls hs ms (q : Int)) hone
      cases ho : bestTo P ls hs ms pre with
      | none =>
        rw [ho] at cg7
        have hgn : g = .non := cg7
        subst hgn
        refine s_oWhen w4 (et_or (a := true) (b := true) (et_test (ev_to (ev_isN (ev_var rfl)) rfl)) (fun z => nomatch z)) (fun _ H13 w5 => ?_) (fun z => nomatch z)
        refine s_par (Hs := kn Ho' Hi7) (ev_var rfl) (evI_c (ep_snd (c := cI) (d := cI) (ec_var rfl cwv') ev_c)) w5.ek fun H14 b14 => ?_
        refine ⟨Ho', Hi7, ⟨some (.int (q : Int)), some wv, wv, ?_, hp', ?_⟩, (ei.trans e').trans e7, w5.up b14⟩
        · rw [bestTo_snoc, if_pos hfree, ho]
          rfl
        · rw [bestTo_snoc, if_pos hfree, ho]
          exact cwv
      | some r =>
        rw [ho] at cg7
        have cg8 : cP cI cI (wo P ls hs ms r) (kn Ho' Hi7) g := cg7
        have hgn : decide (g = V.non) = false := by
          obtain ⟨a, _, _, rfl, _⟩ := cg8
          rfl
        have hrp := lowest_pos (worthU P ls hs ms (r : Int)) hone
        have hrl := lowest_le (worthU P ls hs ms (r : Int)) hone
        have p62 : (2 : Int) ^ 60 < 2 ^ 64 := by decide
        have mm1 : IntMulOk (lowest (worthU P ls hs ms (q : Int)) (one P)).1 (wo P ls hs ms r).2 := CMul.ok (.inr ⟨by show -(2 ^ 64) < (lowest _ _).2; omega, by show (lowest _ _).2 < 2 ^ 64; omega⟩)
        have mm2 : IntMulOk (wo P ls hs ms r).1 (lowest (worthU P ls hs ms (q : Int)) (one P)).2 := CMul.ok (.inr ⟨by omega, by omega⟩)
        have hcr := cross (worthU P ls hs ms (q : Int)) (worthU P ls hs ms (r : Int)) hone
        refine s_oWhen w4 (et_or (a := false) (b := decide (worthU P ls hs ms (r : Int) < worthU P ls hs ms (q : Int))) (et_test (ev_to (ev_isN (ev_var rfl)) (by rw [hgn]))) fun _ => et_test (ev_to (ev_gt (ev_mul (evI_c (ep_fst (c := cI) (d := cI) (ec_var rfl cwv') ev_c)) (ev_var (v := .int (wo P ls hs ms r).2) rfl) mm1) (ev_mul (evI_c (ep_fst (c := cI) (d := cI) (ec_var rfl cg8) ev_c)) (evI_c (ep_snd (c := cI) (d := cI) (ec_var rfl cwv') ev_c)) mm2)) (by congr 1; exact decide_eq_decide.mpr hcr))) (fun hb2 H13 w5 => ?_) (fun hb2 H13 w5 => ?_)
        · have hlt : worthU P ls hs ms (r : Int) < worthU P ls hs ms (q : Int) := by simpa using hb2
          have hpick : pick (fun p => worthU P ls hs ms (p : Int)) (some r) q = some q := if_pos hlt
          refine s_par (Hs := kn Ho' Hi7) (ev_var rfl) (evI_c (ep_snd (c := cI) (d := cI) (ec_var rfl cwv') ev_c)) w5.ek fun H14 b14 => ?_
          refine ⟨Ho', Hi7, ⟨some (.int (q : Int)), some wv, wv, ?_, hp', ?_⟩, (ei.trans e').trans e7, w5.up b14⟩
          · rw [bestTo_snoc, if_pos hfree, ho, hpick]
            rfl
          · rw [bestTo_snoc, if_pos hfree, ho, hpick]
            exact cwv
        · have hlt : ¬ worthU P ls hs ms (r : Int) < worthU P ls hs ms (q : Int) := by simpa using hb2
          have hpick : pick (fun p => worthU P ls hs ms (p : Int)) (some r) q = some r := if_neg hlt
          refine ⟨Ho', Hi7, ⟨some (.int (q : Int)), some wv, g, ?_, hp', ?_⟩, (ei.trans e').trans e7, w5⟩
          · rw [bestTo_snoc, if_pos hfree, ho, hpick]
            rfl
          · rw [bestTo_snoc, if_pos hfree, ho, hpick]
            rw [ho] at cg
            exact Mo.mo e7 (Mo.mo e' cg)
  · rintro σ' Ho' Hi' H' ⟨y14, y15, g, rfl, hp', cg⟩ ei w'
    have hbt : bestTo P ls hs ms (List.range P.toNat) = bestM P ls hs ms := rfl
    rw [hbt] at cg
    rw [hbt]
    generalize (match bestM P ls hs ms with | none => (-1 : Int) | some q => (wo P ls hs ms q).2) = far
    replace h1 := Mo.mo ei h1
    replace h2 := Mo.mo ei h2
    replace h3 := Mo.mo ei h3
    replace hh := Mo.mo ei hh
    replace hdue := Mo.mo ei hdue
    have px7 := paired_mo (c := cO (cP cI cI)) ei px6
    refine q_oV w' (call_best (pl_h (ev_var rfl) (ec_var rfl (w'.m hh)) b)) fun H10 w => ?_
    obtain ⟨wd, hwd, hwb⟩ := oV_cW (H := kn Ho' Hi') (bestM P ls hs ms)
    refine q_oNo w (EvT_to (et_or (a := false) (et_test (ev_to (ev_neS (y := oV (bestM P ls hs ms)) (ev_var rfl) ?_ ?_) ?_)) fun _ => et_B (ev_isi ty_bool (ec_var rfl hwd))) (by rw [hwb]; rfl)) fun H11 w => ?_
    · cases ho : bestM P ls hs ms with
      | none =>
        rw [ho] at cg
        have hgn : g = .non := cg
        subst hgn
        exact ev_if (b := true) (et_test (ev_to (ev_isN (ev_var rfl)) rfl)) (fun _ => ev_c) (fun z => nomatch z)
      | some q =>
        rw [ho] at cg
        have cg8 := w.m (d := cO (cP cI cI)) cg
        have hgn : decide (g = V.non) = false := by
          obtain ⟨a, _, _, rfl, _⟩ := (show cP cI cI (wo P ls hs ms q) Hi' g from cg)
          rfl
        obtain ⟨i1, i2⟩ := best_index ho
        exact ev_if (b := false) (et_test (ev_to (ev_isN (ev_var rfl)) (by rw [hgn]))) (fun z => nomatch z) (fun _ => ev_index (d := cO (cP cI cI)) (a := some (wo P ls hs ms q)) (ec_var rfl (w.l hp' px7)) (ec_var rfl cg8) i1 i2)
    · cases bestM P ls hs ms <;> rfl
    · simp
    refine q_oP w (call_sure (pl_h (ev_var rfl) (ec_var rfl hh) b)) fun sd Hi8 H12 w e8 hsd => ?_
    replace h1 := Mo.mo e8 h1
    replace h2 := Mo.mo e8 h2
    replace h3 := Mo.mo e8 h3
    replace hh := Mo.mo e8 hh
    replace hdue := Mo.mo e8 hdue
    have px8 := paired_mo (c := cO (cP cI cI)) e8 px7
    have hsw := w.m (d := cW) (bls2_cW hsd)
    have hlt := lowest_lt (total P ls hs ms) hone
    have hd1 : ∀ {σ : L2.St} {t : TE}, EvC t σ (kn Ho' Hi8) (cP cI cI) (dangerM P ls hs ms) → EvC (tTup (tCons (tOp rLtI (tOp (rIx c.K) t (tC (.int 0))) (tOp (rIx c.K) t (tC (.int 1)))) (tCons (tOp rLtI (tOp rMulI (tC (.int 2)) (tOp (rIx c.K) t (tC (.int 0)))) (tOp (rIx c.K) t (tC (.int 1)))) tNil))) σ (kn Ho' Hi8) (cP cB cB) (sureM P ls hs ms) := fun ht =>
      ep_pair (c := cB) (d := cB) (c_evB (ev_to (ev_lt (evI_c (ep_fst (c := cI) (d := cI) ht ev_c)) (evI_c (ep_snd (c := cI) (d := cI) ht ev_c))) (by congr 1; exact decide_eq_decide.mpr hlt.1))) (c_evB (ev_to (ev_lt (ev_mul ev_c (evI_c (ep_fst (c := cI) (d := cI) ht ev_c)) (mul2_ok _)) (evI_c (ep_snd (c := cI) (d := cI) ht ev_c))) (by congr 1; exact decide_eq_decide.mpr hlt.2)))
    refine q_oNo w (EvT_to (et_or (et_not (et_B (ev_isi ty_tuple (ec_var rfl hsw)))) fun _ => et_test (ev_neC (c := cP cB cB) (ec_var rfl (w.m hsd)) (hd1 (ec_var rfl (w.m hdue))))) (by rw [tuple_eq]; simp)) fun H13 w => ?_
    refine q_oNo w (EvT_to (et_not (et_B (ev_all (EvF.toC (ef_mapN (d := cB) (ei_tup (c := cW) (ec_var rfl (cW_tup hsw))) (fun d => isTy "bool" d) (show 2 ≤ 40000 by decide) fun a x Hs3 ha e3 ca => c_evB (ev_isi ty_bool (ec_var rfl ca))))))) (by with_unfolding_all rfl)) fun H14 w => ?_
    refine q_oF w (call_full (pl_h (ev_var rfl) (ec_var rfl hh) b)) fun p2 zs Hi9 H15 w e9 hne pz => ?_
    have hpp : p ≠ p2 := hne p _ hp'
    replace h1 := Mo.mo e9 h1
    replace h2 := Mo.mo e9 h2
    replace h3 := Mo.mo e9 h3
    replace hh := Mo.mo e9 hh
    have px9 := paired_mo (c := cO (cP cI cI)) e9 px8
    have hp9 : upd Ho' p2 (.lst zs) p = some (.lst xs) := by rw [upd_ne hpp]; exact hp'
    have hz9 : upd Ho' p2 (.lst zs) p2 = some (.lst zs) := upd_same
    refine q_oNo w (EvT_to (et_or (et_not (et_B (ev_isList (d := cN) (ec_var rfl (w.l hz9 pz))))) fun _ => et_or (et_test (ev_neC (c := cL cN) (ec_var rfl (w.l hz9 pz)) (EvF.toC (call_fullL (ec_var rfl (w.m h1)) (ec_var rfl (w.m h2)) hz)))) fun _ => et_test (ev_neC (c := cL3 (cL (cL cI)) (cL cI) (cL cI)) (a' := (ls, hs, ms)) (ec_var rfl (w.m hh)) (ep_lst3 (ec_var rfl (w.m h1)) (ec_var rfl (w.m h2)) (ec_var rfl (w.m h3))))) (by rw [fullL_eq]; simp)) fun H16 w => ?_
    have hxl : xs.length ≤ 40000 := by rw [← px.length]; omega
    have hzl : zs.length ≤ 40000 := by
      rw [← pz.length]
      unfold fullM
      rw [List.length_map]
      refine Nat.le_trans (List.length_filter_le _ _) ?_
      rw [List.length_zip, List.length_range]
      omega
    refine q_oApp w hp9 (ev_var rfl) (P := fun v _ => v = .non) (ep_ev ev_c rfl) hxl fun nv Hi10 H17 w e10 hnv => ?_
    cases hnv
    have hz10 : upd (upd Ho' p2 (.lst zs)) p (.lst (xs ++ [.non])) p2 = some (.lst zs) := by rw [upd_ne hpp.symm]; exact upd_same
    refine q_oApp w hz10 (ev_var rfl) (P := fun v _ => v = .int 0) (ep_ev ev_c rfl) hzl fun nv Hi11 H18 w e11 hnv => ?_
    cases hnv
    have em := e10.trans e11
    refine q_oP w (ep_lst2 (c := cL (cO (cP cI cI))) (d := cL cN) (a := worthsM P ls hs ms) (b := fullM ls hs) (EvF.toC (call_worths (pl_h (ev_var rfl) (ec_var rfl (Mo.mo em hh)) b))) (EvF.toC (call_full (pl_h (ev_var rfl) (ec_var rfl (Mo.mo em hh)) b)))) fun ag Hi12 H19 w e12 hag => ?_
    have hpA : upd (upd (upd Ho' p2 (.lst zs)) p (.lst (xs ++ [.non]))) p2 (.lst (zs ++ [.int 0])) p = some (.lst (xs ++ [.non])) := by rw [upd_ne hpp]; exact upd_same
    have pxA : Paired (fun b x => cO (cP cI cI) b Hi12 x) (worthsM P ls hs ms ++ [none]) (xs ++ [.non]) := Paired.snoc (paired_mo (c := cO (cP cI cI)) (em.trans e12) px9) rfl
    have pzA : Paired (fun b x => cN b Hi12 x) (fullM ls hs ++ [0]) (zs ++ [.int 0]) := Paired.snoc (paired_mo (c := cN) (em.trans e12) pz) rfl
    refine s_oRetV w (ev_to (ev_eqC (c := cL2 (cL (cO (cP cI cI))) (cL cN)) (a' := (worthsM P ls hs ms, fullM ls hs)) (ec_var rfl (w.m hag)) (ep_lst2 (EvF.toC (ef_butLast (c := cO (cP cI cI)) (ec_var rfl (w.l hpA pxA)) (ev_neg ev_c))) (EvF.toC (ef_butLast (c := cN) (ec_var rfl (w.l upd_same pzA)) (ev_neg ev_c))))) (by simp)) k
end
end LH

namespace LH
open PySem L2 Evl PyProof.Rows
section
variable {c : Cn} {vs : List V} {H : Hp} {Q : VK} {E : XK}
theorem ln_is_whole (h : sp_is_whole c vs H Q E) : vs.length = 1 := by obtain ⟨_, _, _, _, rfl, _⟩ := h; rfl
theorem ln_is_count (h : sp_is_count c vs H Q E) : vs.length = 2 := by obtain ⟨_, _, _, _, _, rfl, _⟩ := h; rfl
theorem ln_is_list_of_places (h : sp_is_list_of_places c vs H Q E) : vs.length = 2 := by obtain ⟨_, _, _, _, _, rfl, _⟩ := h; rfl
theorem ln_is_line (h : sp_is_line c vs H Q E) : vs.length = 2 := by obtain ⟨_, _, _, _, _, rfl, _⟩ := h; rfl
theorem ln_check_places (h : sp_check_places c vs H Q E) : vs.length = 1 := by obtain ⟨_, rfl, _⟩ := h; rfl
theorem ln_check_lines (h : sp_check_lines c vs H Q E) : vs.length = 2 := by obtain ⟨_, _, _, _, _, rfl, _⟩ := h; rfl
theorem ln_check_takings (h : sp_check_takings c vs H Q E) : vs.length = 3 := by obtain ⟨_, _, _, _, _, _, _, rfl, _⟩ := h; rfl
theorem ln_play {Hs : Hp} {P : Int} {ls : List (List Int)} {hs ms : List Int} (h : Play Hs H vs P ls hs ms) : vs.length = 4 := by obtain ⟨_, _, _, _, rfl, _⟩ := h; rfl
theorem ln_play3 {Hs : Hp} {P : Int} {ls : List (List Int)} {hs ms : List Int} (h : Play3 Hs H vs P ls hs ms) : vs.length = 4 := by obtain ⟨_, _, _, _, rfl, _⟩ := h; rfl
theorem ln_check_play (h : sp_check_play c vs H Q E) : vs.length = 4 := by obtain ⟨_, _, _, _, _, h, _⟩ := h; exact ln_play h
theorem ln_one (h : sp_one c vs H Q E) : vs.length = 1 := by obtain ⟨_, rfl, _⟩ := h; rfl
theorem ln_in_lowest_terms (h : sp_in_lowest_terms c vs H Q E) : vs.length = 2 := by obtain ⟨_, _, _, _, rfl, _⟩ := h; rfl
theorem ln_missing (h : sp_missing c vs H Q E) : vs.length = 2 := by obtain ⟨_, _, _, _, _, _, rfl, _⟩ := h; rfl
theorem ln_units_of_line (h : sp_units_of_line c vs H Q E) : vs.length = 4 := by obtain ⟨_, _, _, _, _, _, _, _, _, rfl, _⟩ := h; rfl
theorem ln_units_of_lines (h : sp_units_of_lines c vs H Q E) : vs.length = 4 := by obtain ⟨_, _, _, _, _, h, _⟩ := h; exact ln_play3 h
theorem ln_total (h : sp_total c vs H Q E) : vs.length = 4 := by obtain ⟨_, _, _, _, _, h, _⟩ := h; exact ln_play3 h
theorem ln_free_places (h : sp_free_places c vs H Q E) : vs.length = 3 := by obtain ⟨_, _, _, _, _, _, _, rfl, _⟩ := h; rfl
theorem ln_units_of_free (h : sp_units_of_free c vs H Q E) : vs.length = 4 := by obtain ⟨_, _, _, _, _, h, _⟩ := h; exact ln_play3 h
theorem ln_danger (h : sp_danger c vs H Q E) : vs.length = 4 := by obtain ⟨_, _, _, _, _, h, _⟩ := h; exact ln_play h
theorem ln_worths (h : sp_worths c vs H Q E) : vs.length = 4 := by obtain ⟨_, _, _, _, _, h, _⟩ := h; exact ln_play h
theorem ln_sure (h : sp_sure c vs H Q E) : vs.length = 4 := by obtain ⟨_, _, _, _, _, h, _⟩ := h; exact ln_play h
theorem ln_best (h : sp_best c vs H Q E) : vs.length = 4 := by obtain ⟨_, _, _, _, _, h, _⟩ := h; exact ln_play h
theorem ln_full (h : sp_full c vs H Q E) : vs.length = 4 := by obtain ⟨_, _, _, _, _, h, _⟩ := h; exact ln_play h
end
end LH

namespace LH
open PySem L2 Evl PyProof.Rows
section
variable {c : Cn} {vs : List V} {H : Hp} {Q : VK} {E : XK}
theorem ln_law_number (h : sp_law_number c vs H Q E) : vs.length = 3 := by obtain ⟨_, _, _, rfl, _⟩ := h; rfl
theorem ln_law_places (h : sp_law_places c vs H Q E) : vs.length = 1 := by obtain ⟨_, _, _, _, rfl, _⟩ := h; rfl
theorem ln_law_lines (h : sp_law_lines c vs H Q E) : vs.length = 3 := by obtain ⟨_, _, _, _, _, _, rfl, _⟩ := h; rfl
theorem ln_law_takings (h : sp_law_takings c vs H Q E) : vs.length = 3 := by obtain ⟨_, _, _, _, _, _, rfl, _⟩ := h; rfl
theorem ln_law_power (h : sp_law_power c vs H Q E) : vs.length = 1 := by obtain ⟨_, rfl, _⟩ := h; rfl
theorem ln_law_weights (h : sp_law_weights c vs H Q E) : vs.length = 3 := by obtain ⟨_, _, _, _, _, _, _, _, rfl, _⟩ := h; rfl
theorem ln_law_full (h : sp_law_full c vs H Q E) : vs.length = 2 := by obtain ⟨_, _, _, _, _, _, rfl, _⟩ := h; rfl
theorem ln_law_fraction (h : sp_law_fraction c vs H Q E) : vs.length = 1 := by obtain ⟨_, _, _, _, rfl, _⟩ := h; rfl
theorem ln_law_sum (h : sp_law_sum c vs H Q E) : vs.length = 1 := by obtain ⟨_, _, _, _, _, rfl, _⟩ := h; rfl
theorem ln_law_right (h : sp_law_right c vs H Q E) : vs.length = 4 := by obtain ⟨_, _, _, _, _, h, _⟩ := h; exact ln_play h
end
end LH
namespace LH
open PySem PySem.Spec L2 PyProof.Rows
/-! ### the module behind its top -/
theorem defOf {K : PySem.W.Frag} {h : Heap} {mg : Str → Option Value} {x : Str} {st : Stmt} {f : Addr} {oc : Value} {od an : Option Addr} {osl : Array (Option Value)} {kV doc pm cdv ct : Value} (X : K.In h) (G : h.Ns mainGlobals mg)
    (a : PySem.W.nsIn K mainGlobals x = some (some (.ref f))) (l : K.lookup f = some ⟨oc, od, .func (PySem.W.fnOf x x (C8.fnArgs st) (C8.fnBody st) (C8.fnScope st) .none kV doc pm an cdv ct), osl⟩)
    (c : PySem.W.codeIn K cdv x = true) (k : PySem.W.keepIn K (.ref f) = true) : C8.Def K mg x st f (PySem.W.fnOf x x (C8.fnArgs st) (C8.fnBody st) (C8.fnScope st) .none kV doc pm an cdv ct) :=
  ⟨⟨⟨oc, od, .none, kV, doc, pm, an, cdv, ct, osl, rfl, l, c⟩⟩, PySem.W.mg_of X G a, k⟩
theorem walk {l : PySem.W.OpenLaw} {q : Program} {loose : List Str} {XP : (Str → Option Value) → Heap → Prop} {YP : World → Heap → Prop} {d : DefRec} {K : Params → PySem.W.Frag} {k : Nat} {sp : PySem.W.Frag → World → Sp} (hn : l.most = some 63) (hdf : d.params.defaults = []) (hr : Room k callerA)
    (hY : ∀ (w : World) (h : Heap), YP w h → (K w.params).In h)
    (F : ∀ (w : World) (mg : Str → Option Value) (fa : Addr) (h : Heap), (K w.params).In h → h.Ns mainGlobals mg → mg d.name = some (.ref fa) →
      ∃ fd : FuncData, (∀ (s : Shared) (u : Value), BindsTo s fd ⟨[u], []⟩ [("_law_script", u)]) ∧ ∀ base : Heap, (K w.params).In base → base.Ns mainGlobals mg → FnOk l.prog w (K w.params) mg base C8.CX0 k fa fd ["_law_script"] (sp (K w.params) w))
    (hsp : ∀ (K : PySem.W.Frag) (w : World) (H : Hp) (a : Addr) (ns : List Int), ns.length ≤ 63 → Bits ns → SqL K H a (ns.map V.int) → ∀ Q : VK, (∀ H2, Q (.bl true) H2) → sp K w [.ref a] H Q fun _ _ _ => False) :
    PySem.W.WalkO q loose XP YP l.row.toRowW d [] (fun f vs => PySem.call f vs) :=
  L2.walk_ofB (n := 63) (k := k) (x := "_law_script") (CX := fun _ => C8.CX0) (sp := fun w => sp (K w.params) w) hn (by decide) hdf hr hY F (fun w H a ns hl hb _ hS => hsp (K w.params) w H a ns hl hb hS _ fun _ => rfl) fun _ _ _ _ _ z => z
end LH

namespace LH
open PySem L2 Evl PyProof.Rows
/-! ### displays of data -/
abbrev EvCs {α : Type} (ta : TA) (σ : L2.St) (Hs : Hp) (c : Cd α) (l : List α) : Prop := EvAs ta σ Hs fun vs H => Paired (fun b x => c b H x) l vs
section
variable {α : Type} {c : Cd α} {σ : L2.St} {Hs H Hs2 : Hp} {te : TE} {ta : TA} {l : List α} {a : α} {P : List V → Hp → Prop}
theorem EvAs.lift (h : EvAs ta σ Hs P) (e : Ex Hs Hs2) (mo : ∀ v H H2, Ex H H2 → P v H → P v H2) : EvAs ta σ Hs2 P := fun H e2 Q q => h H (e.trans e2) Q fun v H3 Hs3 g p =>
  q v H3 (uni Hs2 Hs3) (g.uni e e2) (mo v Hs3 _ (g.uniR e2) p)
theorem ecs_nil : EvCs tNil σ Hs c [] := as_nil.imp fun v H _ h => by rw [h]; exact .nil
theorem ecs_cons [Mo c] (h : EvC te σ Hs c a) (hr : EvCs ta σ Hs c l) : EvCs (tCons te ta) σ Hs c (a :: l) :=
  (as_cons h mo_c fun _ e => EvAs.lift hr e fun _ _ _ e p => paired_mo e p).imp fun v H _ ⟨x, r, h1, h2, h3⟩ => by rw [h1]; exact .cons h2 h3
theorem ef_lstC (h : EvCs ta σ Hs c l) (hl : l.length ≤ 40000) : EvFC (tLst ta) σ Hs c l := ef_lst h fun vs H p => by rw [← p.length]; exact hl
theorem ec_lst [Mo c] (h : EvCs ta σ Hs c l) (hl : l.length ≤ 40000) : EvC (tLst ta) σ Hs (cL c) l := EvF.toC (ef_lstC h hl)
theorem ec_some (h : EvC te σ Hs c a) : EvC te σ Hs (cO c) (some a) := h
theorem ec_none {i : Cd α} : EvC (tC .non) σ Hs (cO i) none := ep_ev ev_c rfl
end
theorem q_join {t tz : TS} {D : Ends} {σ : L2.St} {H : Hp} {M : L2.St → Hp → Prop} (hk : ∀ σ' H', M σ' H' → tz D σ' H') (h : (∀ σ' H', M σ' H' → tz D σ' H') → tSeq t tz D σ H) : tSeq t tz D σ H := h hk
/-! a play, looked at -/
def lineB (P : Int) (l : List Int) : Bool := decide (l ≠ []) && (l.all fun x => decide (0 ≤ x) && decide (x < P)) && rise l && decide (l.length ≤ 60) && decide ((l.length : Int) ≤ P)
def boardB (P : Int) (ls : List (List Int)) (hs ms : List Int) : Bool :=
  decide (1 ≤ P) && decide (P ≤ 60) && decide (ls.length ≤ 60) && ls.all (lineB P) && ((hs ++ ms).all fun x => decide (0 ≤ x) && decide (x < P)) && decide (hs ++ ms).Nodup && decide (hs.length ≤ 60) && decide (ms.length ≤ 60)
theorem board_of {P : Int} {ls : List (List Int)} {hs ms : List Int} (h : boardB P ls hs ms = true) : Board P ls hs ms := by
  unfold boardB at h
  simp only [Bool.and_eq_true, decide_eq_true_eq, List.all_eq_true] at h
  obtain ⟨⟨⟨⟨⟨⟨⟨h1, h2⟩, h3⟩, h4⟩, h5⟩, h6⟩, h7⟩, h8⟩ := h
  refine ⟨⟨h1, h2⟩, ⟨h3, fun l hl => ?_⟩, ⟨fun x hx => h5 x (List.mem_append_left _ hx), fun x hx => h5 x (List.mem_append_right _ hx), h6, h7, h8⟩⟩
  have := h4 l hl
  unfold lineB at this
  simp only [Bool.and_eq_true, decide_eq_true_eq, List.all_eq_true] at this
  obtain ⟨⟨⟨⟨a1, a2⟩, a3⟩, a4⟩, a5⟩ := this
  exact ⟨a1, a2, a3, a4, a5⟩
theorem OkTake.swap {P : Int} {hs ms : List Int} (t : OkTake P hs ms) : OkTake P ms hs := ⟨t.m, t.h, (List.perm_append_comm.nodup_iff).mp t.nd, ⟨t.few.2, t.few.1⟩⟩
theorem OkTake.left {P : Int} {hs ms : List Int} (t : OkTake P hs ms) : OkTake P hs [] := ⟨t.h, fun _ h => (nomatch h), by rw [List.append_nil]; exact (List.nodup_append.mp t.nd).1, ⟨t.few.1, Nat.zero_le _⟩⟩
theorem OkTake.none (P : Int) : OkTake P [] [] := ⟨fun _ h => (nomatch h), fun _ h => (nomatch h), List.nodup_nil, ⟨Nat.zero_le _, Nat.zero_le _⟩⟩
theorem OkLines.take {P : Int} {ls : List (List Int)} (h : OkLines P ls) (n : Nat) : OkLines P (ls.take n) := ⟨by rw [List.length_take]; have := h.few; omega, fun l hl => h.ok l (List.mem_of_mem_take hl)⟩
theorem OkLines.none (P : Int) : OkLines P [] := ⟨Nat.zero_le _, fun _ h => (nomatch h)⟩
end LH

namespace LH
open PySem PySem.Spec PyProof.Rows L2
/-! ### min(l, key=len), l a list of lists -/
def Kp (h0 h : Heap) : Prop := ∀ b o, h0.get? b = some o → h.get? b = some o
theorem Kp.isList {h0 h : Heap} {l : Addr} {its : Array Value} (k : Kp h0 h) (z : h0.IsList l its) : h.IsList l its := by
  obtain ⟨o, ho, r⟩ := z
  exact ⟨o, k _ _ ho, r⟩
theorem Kp.but {h0 h h' : Heap} {a : Addr} (k : Kp h0 h) (g : ∀ b o, b ≠ a → h.get? b = some o → h'.get? b = some o) (n : h0.get? a = none) : Kp h0 h' := fun b o e => g b o (fun z => by rw [z, n] at e; cases e) (k b o e)
section
variable {P : Program} {w : World} {A : Around} {E : Value → Shared → Prop} {s : Shared} {l I S : Addr} {us : List Value} {R : Result → Shared → Prop} {Q : Value → Shared → Prop}
def AreLists (h0 : Heap) (us : List Value) : Prop := ∀ (i : Nat) (u : Value), us[i]? = some u → ∃ (p : Addr) (its : Array Value), u = .ref p ∧ (its.size : Int) < 2 ^ 63 ∧ h0.IsList p its
theorem len_of (al : AreLists s.heap us) {i : Nat} {u : Value} (hu : us[i]? = some u) {h : Heap} {tk : Nat} (k : Kp s.heap h)
    (q : ∀ n t tk', Q (.int n t) { s with heap := h, toks := tk' }) : wpAny (model P w) A (call (.builtin "len") [u]) Q E { s with heap := h, toks := tk } := by
  obtain ⟨p, its, rfl, sz, il⟩ := al i u hu
  exact Calls.call_len_list (k.isList il) sz (q _ _ _)
theorem minLen_turns (hh : A.handled = none) (hl : s.heap.IsList l us.toArray) (al : AreLists s.heap us) (nI : s.heap.get? I = none) (nS : s.heap.get? S = none) (SI : S ≠ I) (lI : l ≠ I)
    (hR : ∀ u h tk, u ∈ us → Kp s.heap h → R (.ok (.ret u)) { s with heap := h, toks := tk }) :
    ∀ (r j : Nat) (h : Heap) (tk : Nat) (u : Value) (n : Int) (t : Tok) (c : Nat), us.length - (j + 1) = r → j + 1 ≤ us.length → Kp s.heap h → h.get? S = some (seqObj "list" #[u, .int n t] c) → h.IsListIter I l (j + 1) → u ∈ us →
      codeAny (model P w) A (.builtin "min.loop" ⟨[.ref I, .builtin "len", .ref S], []⟩) R { s with heap := h, toks := tk } := by
  have nm : (toString "min" ++ toString ".loop" : String) = "min.loop" := by decide
  have W := Walks.list (prog := P) (w := w) (A := A.in1) hh I l lI us.toArray
  have sz : us.toArray.size = us.length := List.size_toArray ..
  have out1 : ∀ {b : Addr}, b ≠ I → b ∉ [I] := fun h z => h (List.mem_singleton.mp z)
  intro r
  induction r with
  | zero =>
    intro j h tk u n t c hr hj K gS it hu
    refine codeAny_builtin PySem.F.entry_min_loop ?_
    rw [Around.under_plainId PySem.F.plain_min_loop _]
    refine wpAny_bind (wpAny_seqItems gS rfl ?_)
    refine wpAny_bind (wpAny_tryCatch (W.done _ _ _ ⟨by rw [sz, ← (by omega : j + 1 = us.length)]; exact it, K.isList hl⟩ fun h' tk' k' => ?_))
    have K' : Kp s.heap h' := K.but (fun b o ne e => k' b o (out1 ne) e) nI
    have gS' := k' S _ (out1 SI) gS
    refine wpAny_bind (show wpAny _ A.in1 (updateSeq S fun _ => #[]) _ _ _ from ?_)
    refine wpAny_updateSeq gS' rfl (wpAny_bind (wpAny_letGo (wpAny_pure ?_)))
    exact hR u _ _ hu (K'.but (fun b o ne e => ((Heap.SameBut.update h' S _).2 b ne).trans e) nS)
  | succ r ih =>
    intro j h tk u n t c hr hj K gS it hu
    have lt : j + 1 < us.length := by omega
    refine codeAny_builtin PySem.F.entry_min_loop ?_
    rw [Around.under_plainId PySem.F.plain_min_loop _]
    refine wpAny_bind (wpAny_seqItems gS rfl ?_)
    refine wpAny_bind (wpAny_tryCatch (W.item (j + 1) _ _ _ (by rw [sz]; exact lt) ⟨it, K.isList hl⟩ fun v h' tk' hP hst k' => ?_))
    have hv : us[j + 1]? = some v := by simpa using hP
    have K' : Kp s.heap h' := K.but (fun b o ne e => k' b o (out1 ne) e) nI
    have gS' := k' S _ (out1 SI) gS
    refine wpAny_bind (show wpAny _ A.in1 (tryCatch (holding [v] (call (.builtin "len") [v])) _) _ _ _ from ?_)
    refine wpAny_tryCatch (wpAny_holding (len_of al hv K' fun m t2 tk2 => ?_))
    refine wpAny_bind (show wpAny _ A.in1 (tryCatch (holding [v, .int m t2] (richCompare .Lt (.int m t2) (.int n t) >>= _)) _) _ _ _ from ?_)
    refine wpAny_tryCatch (wpAny_holding (wpAny_bind ?_))
    refine (CmpOf.ints_lt (prog := P) (w := w) (A := A.in1) (P := fun i v => ∃ t, v = Value.int (if i = 0 then m else n) t) (fun i => if i = 0 then m else n) (fun i v h => h)) 0 1 _ _ _ _ _ ⟨t2, rfl⟩ ⟨t, rfl⟩ ?_
    refine wpAny_bind (wpAny_holding (wpAny_truthy_bool ?_))
    refine wpAny_bind (wpAny_letGo (wpAny_pure ?_))
    by_cases less : m < n
    · have e : (fun i j : Nat => decide ((if i = 0 then m else n) < if j = 0 then m else n)) 0 1 = true := decide_eq_true (by simpa using less)
      rw [if_pos e]
      have U := Heap.SameBut.update h' S (Obj.mapSeq fun _ => #[v, .int m t2])
      refine wpAny_bind ?_
      refine wpAny_updateSeq gS' rfl (wpAny_bind (wpAny_letGo ?_))
      rw [nm]
      obtain ⟨oI, hoI, hc, hd⟩ := hst.1
      exact wpAny_pure ⟨plainId_quiet PySem.F.plain_min_loop _, ih (j + 1) _ _ v m t2 _ (by omega) (by omega) (K'.but (fun b o ne e => (U.2 b ne).trans e) nS) (get?_update_seq gS' fun _ => #[v, .int m t2]) ⟨oI, (U.2 I SI.symm).trans hoI, hc, hd⟩ (List.mem_of_getElem? hv)⟩
    · have e : ¬ (fun i j : Nat => decide ((if i = 0 then m else n) < if j = 0 then m else n)) 0 1 = true := fun z => less (by simpa using of_decide_eq_true z)
      rw [if_neg e]
      refine wpAny_bind (wpAny_letGo ?_)
      rw [nm]
      exact wpAny_pure ⟨plainId_quiet PySem.F.plain_min_loop _, ih (j + 1) _ _ u n t c (by omega) (by omega) K' gS' hst.1 hu⟩
theorem call_minLen (hh : A.handled = none) (hl : s.heap.IsList l us.toArray) (al : AreLists s.heap us) (ne : 0 < us.length) (hQ : ∀ u h tk, u ∈ us → Kp s.heap h → Q u { s with heap := h, toks := tk }) :
    wpAny (model P w) A (call (.builtin "min") [.ref l] [(Str.ofString "key", .builtin "len")]) Q E s := by
  have nm : (toString "min" ++ toString ".loop" : String) = "min.loop" := by decide
  obtain ⟨ol, hol, _⟩ := id hl
  have ll : l < s.heap.objs.size := Heap.lt_size hol
  refine kmk_tree PySem.F.kind_min PySem.F.plain_min PySem.F.entry_min (kmk_min_key _ _) ?_
  refine wpAny_bind (wpAny_of_eq (show Builtin.Builtins.bindParams "min" ["key", "default"] 0 ⟨[], [(Str.ofString "key", .builtin "len")]⟩ = pure [some (.builtin "len"), none] from rfl) ?_)
  refine wpAny_bind (wpAny_pure (wpAny_bind (wpAny_pyIter_list hl (wpAny_bind (wpAny_newList ?_ (Nat.zero_le _))))))
  rw [nm]
  refine wpAny_pure ⟨plainId_quiet PySem.F.plain_min_loop _, ?_⟩
  generalize hI : s.heap.objs.size = I at ll
  generalize hh1 : s.heap.push { cls := .type "list_iterator", data := .fields #[.ref l, .int 0 0] } = h1
  generalize hS : h1.objs.size = S
  have e1 : S = I + 1 := by rw [← hS, ← hh1, ← hI]; exact Heap.size_push _ _
  have gI1 : h1.get? I = some { cls := .type "list_iterator", data := .fields #[.ref l, .int 0 0] } := by rw [← hh1, ← hI]; exact Heap.get?_push_size _ rfl
  have gS : (h1.push (seqObj "list" #[] 0)).get? S = some (seqObj "list" #[] 0) := by rw [← hS]; exact Heap.get?_push_size _ rfl
  have K1 : Kp s.heap h1 := fun b o e => by rw [← hh1]; exact Heap.get?_push_of_some _ e
  have K2 : Kp s.heap (h1.push (seqObj "list" #[] 0)) := fun b o e => Heap.get?_push_of_some _ (K1 b o e)
  have gI : (h1.push (seqObj "list" #[] 0)).get? I = some { cls := .type "list_iterator", data := .fields #[.ref l, .int 0 0] } := Heap.get?_push_of_some _ gI1
  have nI : s.heap.get? I = none := Heap.get?_none_of_le (by rw [hI]; exact Nat.le_refl _)
  have nS : s.heap.get? S = none := Heap.get?_none_of_le (by rw [hI, e1]; exact Nat.le_succ _)
  have SI : S ≠ I := by rw [e1]; exact Nat.succ_ne_self _
  have lI : l ≠ I := Nat.ne_of_lt ll
  generalize h1.push (seqObj "list" #[] 0) = h2 at gS K2 gI ⊢
  have W := Walks.list (prog := P) (w := w) (A := A.in1) hh I l lI us.toArray
  have sz : us.toArray.size = us.length := List.size_toArray ..
  have out1 : ∀ {b : Addr}, b ≠ I → b ∉ [I] := fun h z => h (List.mem_singleton.mp z)
  refine codeAny_builtin PySem.F.entry_min_loop ?_
  rw [Around.under_plainId PySem.F.plain_min_loop _]
  refine wpAny_bind (wpAny_seqItems gS rfl ?_)
  refine wpAny_bind (wpAny_tryCatch (W.item 0 _ _ _ (by rw [sz]; exact ne) ⟨⟨_, gI, rfl, rfl⟩, K2.isList hl⟩ fun v h' tk' hP hst k' => ?_))
  have hv : us[0]? = some v := by simpa using hP
  have K' : Kp s.heap h' := K2.but (fun b o ne e => k' b o (out1 ne) e) nI
  have gS' := k' S _ (out1 SI) gS
  refine wpAny_bind (show wpAny _ A.in1 (tryCatch (holding [v] (call (.builtin "len") [v])) _) _ _ _ from ?_)
  refine wpAny_tryCatch (wpAny_holding (len_of al hv K' fun m t2 tk2 => ?_))
  have U := Heap.SameBut.update h' S (Obj.mapSeq fun _ => #[v, .int m t2])
  refine wpAny_bind (show wpAny _ A.in1 (updateSeq S fun _ => #[v, .int m t2]) _ _ _ from ?_)
  refine wpAny_updateSeq gS' rfl ?_
  rw [nm]
  obtain ⟨oI, hoI, hc, hd⟩ := hst.1
  exact wpAny_pure ⟨plainId_quiet PySem.F.plain_min_loop _, minLen_turns hh hl al nI nS SI lI hQ _ 0 _ _ v m t2 _ rfl ne (K'.but (fun b o ne e => (U.2 b ne).trans e) nS) (get?_update_seq gS' fun _ => #[v, .int m t2]) ⟨oI, (U.2 I SI.symm).trans hoI, hc, hd⟩ (List.mem_of_getElem? hv)⟩
end
section
variable {X : Cx} {te : TE} {e : Expr} {p pl pos : Pos} {kp : Pos}
/-- min(l, key=len): one of the lists (which of them is not said) -/
def rMinLen (K : PySem.W.Frag) (x : V) (H : Hp) (Q : VK) : Prop := ∃ (a : Addr) (xs : List V), x = .ref a ∧ SqL K H a xs ∧ xs ≠ [] ∧ (∀ y ∈ xs, ∃ q ys, y = V.ref q ∧ SqL K H q ys) ∧ ∀ y ∈ xs, Q y H
def tMinLen (K : PySem.W.Frag) (te : TE) : TE := fun σ H Q => tCons te tNil σ H fun vs H1 => ∃ x, vs = [x] ∧ rMinLen K x H1 Q
theorem pe_minLen (hc : X.calm = true) (hg : Gl X "min") (hm : X.mg "min" = none) (hgl : Gl X "len") (hml : X.mg "len" = none) (he : PE X e te)
    (hse : starEach [e] X.env = (false, eval e X.env) :: starEach [] X.env := by rfl) (hst : backTo pos (starEach [e] X.env) = (false, eval e X.env) :: backTo pos (starEach [] X.env) := by rfl) (hpl : (backTo pos (starEach [e] X.env)).any (·.1) = false := by rfl)
    (hkw : backToKw pos (keywordEach [⟨some "key", .Name "len" pl, kp⟩] X.env) = [(some (Str.ofString "key"), do let v ← eval (.Name "len" pl) X.env; standAt pos; pure v)] := by rfl) :
    PE X (.Call (.Name "min" p) [e] [⟨some "key", .Name "len" pl, kp⟩] pos) (tMinLen X.K te) := by
  refine ⟨fun pins s σ H Q I h => ?_⟩
  refine wpAny_Call_Name_kw (ld_blt I hg hm LH.b_min ?_ (by decide) (by decide))
  refine callWith_kw (thn ((pa_cons he pa_nil hse).run pos pins s σ H _ I h) fun us s1 ⟨vs, H1, I1, r1, x, e1, a, xs, e2, hs, ne, al, q⟩ => ?_) hst hpl (by rw [hkw]; rfl) (by rw [hkw]; rfl)
  subst e1
  subst e2
  rw [Vals.ref1 r1, hkw]
  refine wpAny_evalAll_cons (wpAny_bind (ld_blt I1 hgl hml LH.b_len (wpAny_bind (wpAny_standAt (wpAny_pure ?_))) (by decide) (by decide)))
  refine wpAny_evalAll_nil ?_
  obtain ⟨its, rv, pll, hz⟩ := I1.list hs
  have ln := rv.length
  refine call_minLen (I1.ok.hd hc) pll.isList (fun i u hu => ?_) (by rw [← ln]; exact List.length_pos_iff.mpr ne) fun u h tk hu k => ?_
  · obtain ⟨x, hx, rx⟩ := Paired.at rv hu
    obtain ⟨p1, ys, rfl, hq⟩ := al x (List.mem_of_getElem? hx)
    cases rx
    obtain ⟨its2, rv2, pl2, hz2⟩ := I1.list hq
    have ln2 := rv2.length
    have := sizeLine_eq
    exact ⟨p1, its2.toArray, rfl, by rw [List.size_toArray]; omega, pl2.isList⟩
  · obtain ⟨i, hi⟩ := List.getElem?_of_mem hu
    obtain ⟨x, hx, rx⟩ := Paired.at rv hi
    exact ⟨x, H1, I1.kept k, rx, q x (List.mem_of_getElem? hx)⟩
end
section
variable {α : Type} {c : Cd α} {σ : L2.St} {Hs : Hp} {te : TE} {K : PySem.W.Frag}
open Evl
theorem ep_minLen [Mo c] {l : List (List α)} (h : EvC te σ Hs (cL (cL c)) l) (ne : l ≠ []) : EvP (tMinLen K te) σ Hs fun v H => ∃ m ∈ l, cL c m H v := fun H e Q q =>
  h H e _ fun v H2 Hs2 g ⟨a, xs, h1, h2, h3⟩ => ⟨v, rfl, a, xs, h1, sq_ex g.i h2, fun z => by subst z; cases h3; exact ne rfl, fun y hy => by
    obtain ⟨i, hi⟩ := List.getElem?_of_mem hy
    obtain ⟨m, _, b, ys, h4, h5, _⟩ := Paired.at h3 hi
    exact ⟨b, ys, h4, sq_ex g.i h5⟩, fun y hy => by
    obtain ⟨i, hi⟩ := List.getElem?_of_mem hy
    obtain ⟨m, hm, hc⟩ := Paired.at h3 hi
    exact q y H2 Hs2 g ⟨m, List.mem_of_getElem? hm, hc⟩⟩
end
end LH

namespace LH
/-! ### the danger, step by step -/
theorem unit_nn (P : Int) (l hs ms : List Int) : 0 ≤ unit P l hs ms := by
  unfold unit
  split
  · exact Int.le_refl _
  · rw [Int.one_mul]
    exact Int.le_of_lt (pow_pos' _)
theorem sum_le {α : Type} {f g : α → Int} : ∀ {l : List α}, (∀ a ∈ l, f a ≤ g a) → (l.map f).sum ≤ (l.map g).sum
  | [], _ => Int.le_refl _
  | a :: r, h => by
    have ih := sum_le fun x hx => h x (List.mem_cons_of_mem a hx)
    have := h a List.mem_cons_self
    rw [List.map_cons, List.map_cons, List.sum_cons, List.sum_cons]
    omega
theorem sum_add {α : Type} {f g h : α → Int} : ∀ {l : List α}, (∀ a ∈ l, f a = g a + h a) → (l.map f).sum = (l.map g).sum + (l.map h).sum
  | [], _ => rfl
  | a :: r, k => by
    have ih := sum_add fun x hx => k x (List.mem_cons_of_mem a hx)
    have := k a List.mem_cons_self
    rw [List.map_cons, List.map_cons, List.map_cons, List.sum_cons, List.sum_cons, List.sum_cons]
    omega
theorem sum_nn {α : Type} {f : α → Int} : ∀ {l : List α}, (∀ a ∈ l, 0 ≤ f a) → 0 ≤ (l.map f).sum
  | [], _ => Int.le_refl _
  | a :: r, k => by
    have ih := sum_nn fun x hx => k x (List.mem_cons_of_mem a hx)
    have := k a List.mem_cons_self
    rw [List.map_cons, List.sum_cons]
    omega
/-- a sum over some is a sum over all -/
theorem sum_filter {α : Type} {f : α → Int} {p : α → Bool} : ∀ l : List α, ((l.filter p).map f).sum = (l.map fun a => if p a = true then f a else 0).sum
  | [] => rfl
  | a :: r => by
    have ih := sum_filter (f := f) (p := p) r
    rw [List.filter_cons, List.map_cons, List.sum_cons, ← ih]
    split
    · rw [List.map_cons, List.sum_cons]
    · omega
theorem worth_all (P : Int) (ls : List (List Int)) (hs ms : List Int) (p : Int) : worthU P ls hs ms p = (ls.map fun l => if decide (p ∈ l) = true then unit P l hs ms else 0).sum := by
  rw [worthU_eq, sum_filter]
theorem total_all (P : Int) (ls : List (List Int)) (hs ms : List Int) : total P ls hs ms = (ls.map fun l => unit P l hs ms).sum := rfl
theorem worth_nn (P : Int) (ls : List (List Int)) (hs ms : List Int) (p : Int) : 0 ≤ worthU P ls hs ms p := by
  rw [worth_all]
  refine sum_nn fun l _ => ?_
  split
  · exact unit_nn _ _ _ _
  · exact Int.le_refl _
theorem total_nn (P : Int) (ls : List (List Int)) (hs ms : List Int) : 0 ≤ total P ls hs ms := sum_nn fun l _ => unit_nn _ _ _ _
theorem worth_le (P : Int) (ls : List (List Int)) (hs ms : List Int) (p : Int) : worthU P ls hs ms p ≤ total P ls hs ms := by
  rw [worth_all, total_all]
  refine sum_le fun l _ => ?_
  split
  · exact Int.le_refl _
  · exact unit_nn _ _ _ _
theorem blocked_iff (ms l : List Int) : blocked ms l = true ↔ ∃ x ∈ l, x ∈ ms := by
  unfold blocked
  rw [List.any_map, List.any_eq_true]
  simp
theorem blocked_snoc (ms l : List Int) (q : Int) : blocked (ms ++ [q]) l = (blocked ms l || decide (q ∈ l)) := by
  rw [Bool.eq_iff_iff, Bool.or_eq_true, blocked_iff, blocked_iff, decide_eq_true_eq]
  constructor
  · rintro ⟨x, hx, h⟩
    rcases List.mem_append.mp h with h | h
    · exact .inl ⟨x, hx, h⟩
    · exact .inr (List.mem_singleton.mp h ▸ hx)
  · rintro (⟨x, hx, h⟩ | h)
    · exact ⟨x, hx, List.mem_append_left _ h⟩
    · exact ⟨q, h, List.mem_append_right _ (List.mem_singleton.mpr rfl)⟩
/-- the holder takes q -/
theorem unit_mine (P : Int) (l hs ms : List Int) (q : Int) : unit P l hs (ms ++ [q]) = if q ∈ l then 0 else unit P l hs ms := by
  have h := blocked_snoc ms l q
  unfold blocked at h
  unfold unit
  rw [h]
  by_cases hq : q ∈ l
  · rw [if_pos (by simp [hq]), if_pos hq]
  · rw [if_neg hq, decide_eq_false hq, Bool.or_false]
theorem total_mine (P : Int) (ls : List (List Int)) (hs ms : List Int) (q : Int) : total P ls hs ms = total P ls hs (ms ++ [q]) + worthU P ls hs ms q := by
  rw [total_all, total_all, worth_all]
  refine sum_add fun l _ => ?_
  rw [unit_mine]
  by_cases hq : q ∈ l
  · rw [if_pos hq, if_pos (decide_eq_true hq)]
    omega
  · rw [if_neg hq, if_neg (by rw [decide_eq_false hq]; decide)]
    omega
theorem worth_mine (P : Int) (ls : List (List Int)) (hs ms : List Int) (q r : Int) : worthU P ls hs (ms ++ [q]) r ≤ worthU P ls hs ms r := by
  rw [worth_all, worth_all]
  refine sum_le fun l _ => ?_
  rw [unit_mine]
  split
  · split
    · exact unit_nn _ _ _ _
    · exact Int.le_refl _
  · exact Int.le_refl _
/-- the taker takes r -/
theorem rise_nodup : ∀ {l : List Int}, rise l = true → l.Pairwise (· < ·)
  | [], _ => .nil
  | [a], _ => List.pairwise_singleton _ _
  | a :: b :: r, h => by
    unfold rise at h
    rw [List.drop_succ_cons, List.drop_zero, List.zip_cons_cons, List.all_cons, Bool.and_eq_true, decide_eq_true_eq] at h
    have ih : (b :: r).Pairwise (· < ·) := rise_nodup (by unfold rise; rw [List.drop_succ_cons, List.drop_zero]; exact h.2)
    refine List.pairwise_cons.mpr ⟨fun x hx => ?_, ih⟩
    rcases List.mem_cons.mp hx with e | e
    · rw [e]; exact h.1
    · exact Int.lt_trans h.1 ((List.pairwise_cons.mp ih).1 x e)
theorem missing_his {hs : List Int} {r : Int} (hr : r ∉ hs) : ∀ {l : List Int}, l.Pairwise (· < ·) → missing l hs = missing l (hs ++ [r]) + if r ∈ l then 1 else 0
  | [], _ => rfl
  | a :: l, h => by
    obtain ⟨h1, h2⟩ := List.pairwise_cons.mp h
    have ih := missing_his hr h2
    have e : ∀ s : List Int, missing (a :: l) s = missing l s + if a ∈ s then 0 else 1 := fun s => by
      unfold missing
      rw [List.filter_cons]
      by_cases z : a ∈ s
      · simp [z]
      · simp [z]
    rw [e, e, ih]
    by_cases ea : a = r
    · subst ea
      have nl : a ∉ l := fun z => by have := h1 a z; omega
      have yl : a ∈ hs ++ [a] := List.mem_append_right _ (List.mem_singleton.mpr rfl)
      have yc : a ∈ a :: l := List.mem_cons_self
      simp only [hr, nl, yl, yc, if_true, if_false]
    · have e1 : (a ∈ hs ++ [r]) ↔ a ∈ hs := by simp [ea]
      have e2 : (r ∈ a :: l) ↔ r ∈ l := by
        rw [List.mem_cons]
        exact ⟨fun z => z.resolve_left fun y => ea y.symm, .inr⟩
      by_cases z1 : a ∈ hs
      · rw [if_pos z1, if_pos (e1.mpr z1)]
        by_cases z2 : r ∈ l
        · rw [if_pos z2, if_pos (e2.mpr z2)]
        · rw [if_neg z2, if_neg fun y => z2 (e2.mp y)]
      · rw [if_neg z1, if_neg fun y => z1 (e1.mp y)]
        by_cases z2 : r ∈ l
        · rw [if_pos z2, if_pos (e2.mpr z2)]
        · rw [if_neg z2, if_neg fun y => z2 (e2.mp y)]
theorem unit_his {P : Int} {l hs ms : List Int} {r : Int} (ok : OkLine P l) (hr : r ∉ hs) : unit P l (hs ++ [r]) ms = unit P l hs ms + if decide (r ∈ l) = true then unit P l hs ms else 0 := by
  have e := missing_his hr (rise_nodup ok.up)
  have le := missing_le l hs
  have ln := ok.len
  rw [unit_eq ln, unit_eq ln]
  split
  · simp
  · by_cases z : r ∈ l
    · rw [if_pos z] at e
      rw [if_pos (decide_eq_true z), show P.toNat - missing l (hs ++ [r]) = (P.toNat - missing l hs) + 1 by omega, Int.pow_succ]
      omega
    · rw [if_neg z] at e
      rw [if_neg (by rw [decide_eq_false z]; decide), show missing l (hs ++ [r]) = missing l hs by omega]
      omega
theorem total_his {P : Int} {ls : List (List Int)} {hs ms : List Int} {r : Int} (ok : OkLines P ls) (hr : r ∉ hs) : total P ls (hs ++ [r]) ms = total P ls hs ms + worthU P ls hs ms r := by
  rw [total_all, total_all, worth_all]
  exact sum_add fun l hl => unit_his (ok.ok l hl) hr
/-- while the danger is below 1, no line is all his -/
theorem none_full {P : Int} {ls : List (List Int)} {hs ms : List Int} (b : Board P ls hs ms) (h : total P ls hs ms < one P) : fullM ls hs = [] := by
  unfold fullM
  rw [List.map_eq_nil_iff, List.filter_eq_nil_iff]
  rintro ⟨i, l⟩ hq hd
  have hl : l ∈ ls := (List.of_mem_zip hq).2
  have ok := b.l.ok l hl
  have m0 : missing l hs = 0 := by
    have : ((missing l hs : Nat) : Int) = 0 := of_decide_eq_true hd
    omega
  have all : ∀ x ∈ l, x ∈ hs := fun x hx => by
    unfold missing at m0
    have := List.length_eq_zero_iff.mp m0
    rw [List.filter_eq_nil_iff] at this
    simpa using this x hx
  have nb : blocked ms l = false := by
    unfold blocked
    rw [Bool.eq_false_iff]
    intro z
    simp only [List.any_eq_true, List.mem_map, id_eq] at z
    obtain ⟨_, ⟨x, hx, rfl⟩, hm⟩ := z
    exact (List.nodup_append.mp b.t.nd).2.2 x (all x hx) x (of_decide_eq_true hm) rfl
  have u : unit P l hs ms = one P := by
    rw [unit_eq ok.len, nb, m0, one_eq]
    rfl
  have : unit P l hs ms ≤ total P ls hs ms := by
    rw [total_all]
    have key : ∀ (f : List Int → Int) (ls : List (List Int)), (∀ x ∈ ls, 0 ≤ f x) → l ∈ ls → f l ≤ (ls.map f).sum := by
      intro f ls
      induction ls with
      | nil => exact fun _ h => nomatch h
      | cons y r ih =>
        intro nn hm
        have h1 := nn y List.mem_cons_self
        have h2 := sum_nn (f := f) (l := r) fun x hx => nn x (List.mem_cons_of_mem _ hx)
        rw [List.map_cons, List.sum_cons]
        rcases List.mem_cons.mp hm with e | e
        · rw [e]; omega
        · have := ih (fun x hx => nn x (List.mem_cons_of_mem _ hx)) e
          omega
    exact key _ ls (fun x _ => unit_nn P x hs ms) hl
  omega
/-! places that are left -/
theorem subset_len {l m : List Int} (h : l.Nodup) (s : ∀ x ∈ l, x ∈ m) : l.length ≤ m.length := by
  have e := dd_len_of (l := m.filter fun x => decide (x ∈ l)) h fun k => by
    rw [List.mem_filter, decide_eq_true_eq]
    exact ⟨fun z => ⟨s k z, z⟩, fun z => z.2⟩
  have h1 := dd_le (m.filter fun x => decide (x ∈ l))
  have h2 := List.length_filter_le (fun x => decide (x ∈ l)) m
  omega
theorem range_nodup (n : Nat) : ((List.range n).map fun i : Nat => (i : Int)).Nodup := by
  refine List.pairwise_map.mpr (List.Pairwise.imp ?_ List.pairwise_lt_range)
  intro a b h
  omega
/-- a place is left -/
theorem free_left {P : Int} {hs ms : List Int} (h : (hs.length : Int) + ms.length < P) : freeP P hs ms ≠ [] := by
  intro z
  have s : ∀ x ∈ (List.range P.toNat).map fun i : Nat => (i : Int), x ∈ hs ++ ms := fun x hx => by
    obtain ⟨i, hi, rfl⟩ := List.mem_map.mp hx
    have n : i ∉ freeP P hs ms := by rw [z]; exact fun y => nomatch y
    unfold freeP at n
    rw [List.mem_filter] at n
    rw [List.mem_append]
    by_cases a : (i : Int) ∈ hs
    · exact .inl a
    · by_cases b : (i : Int) ∈ ms
      · exact .inr b
      · exact absurd ⟨hi, by simp [a, b]⟩ n
  have := subset_len (range_nodup P.toNat) s
  rw [List.length_map, List.length_range, List.length_append] at this
  omega
theorem best_some {P : Int} {ls : List (List Int)} {hs ms : List Int} (h : freeP P hs ms ≠ []) : ∃ q, bestM P ls hs ms = some q := by
  have := pick_first (fun p => worthU P ls hs ms (p : Int)) (freeP P hs ms) [] none (free_sorted P hs ms) rfl
  unfold bestM
  cases e : (freeP P hs ms).foldl (pick fun p => worthU P ls hs ms (p : Int)) none with
  | some q => exact ⟨q, rfl⟩
  | none =>
    rw [e] at this
    exact absurd (by simpa using this) h
structure Free (P : Int) (hs ms : List Int) (r : Int) : Prop where
  h0 : 0 ≤ r
  h1 : r < P
  his : r ∉ hs
  mine : r ∉ ms
theorem free_of {P : Int} {hs ms : List Int} {p : Nat} (h : p ∈ freeP P hs ms) : Free P hs ms (p : Int) := by
  unfold freeP at h
  rw [List.mem_filter, List.mem_range, Bool.and_eq_true] at h
  obtain ⟨a, b, c⟩ := h
  exact ⟨by omega, by omega, by simpa using b, by simpa using c⟩
theorem of_free {P : Int} {hs ms : List Int} {p : Nat} (h : Free P hs ms (p : Int)) : p ∈ freeP P hs ms := by
  unfold freeP
  rw [List.mem_filter, List.mem_range, Bool.and_eq_true]
  have := h.h1
  exact ⟨by omega, by simpa using h.his, by simpa using h.mine⟩
theorem worth_best {P : Int} {ls : List (List Int)} {hs ms : List Int} {q : Nat} (h : bestM P ls hs ms = some q) {r : Int} (f : Free P hs ms r) : worthU P ls hs ms r ≤ worthU P ls hs ms (q : Int) := by
  obtain ⟨n, rfl⟩ : ∃ n : Nat, r = (n : Int) := ⟨r.toNat, by have := f.h0; omega⟩
  exact (best_first h).ge n (of_free f)
theorem OkTake.his {P : Int} {hs ms : List Int} {r : Int} (t : OkTake P hs ms) (f : Free P hs ms r) (h : (hs.length : Int) + ms.length < P) (hP : P ≤ 60) : OkTake P (hs ++ [r]) ms := by
  refine ⟨fun x hx => ?_, t.m, (nodup_add t.nd (fun z => (List.mem_append.mp z).elim f.his f.mine)).1, by rw [List.length_append, List.length_singleton]; omega, by omega⟩
  rcases List.mem_append.mp hx with z | z
  · exact t.h x z
  · rw [List.mem_singleton.mp z]; exact ⟨f.h0, f.h1⟩
theorem OkTake.mine {P : Int} {hs ms : List Int} {r : Int} (t : OkTake P hs ms) (f : Free P hs ms r) (h : (hs.length : Int) + ms.length < P) (hP : P ≤ 60) : OkTake P hs (ms ++ [r]) := by
  refine ⟨t.h, fun x hx => ?_, (nodup_add t.nd (fun z => (List.mem_append.mp z).elim f.his f.mine)).2, by omega, by rw [List.length_append, List.length_singleton]; omega⟩
  rcases List.mem_append.mp hx with z | z
  · exact t.m x z
  · rw [List.mem_singleton.mp z]; exact ⟨f.h0, f.h1⟩
end LH

namespace LH
open PySem L2 Evl PyProof.Rows
open Builtin.Int (intBits)
/-! ### results from looks at one's own -/
class Sc {α : Type} (c : Cd α) : Prop where
  sc : ∀ {a : α} {H H2 : Hp} {v : V}, c a H v → c a H2 v
instance : Sc cI := ⟨fun h => h⟩
instance : Sc cB := ⟨fun h => h⟩
instance : Sc cN := ⟨fun h => h⟩
def Lists (Ho : Hp) : Prop := ∀ p u, Ho p = some u → ∃ xs, u = .lst xs
theorem Lists.upd {Ho : Hp} {p : Addr} {xs : List V} (h : Lists Ho) : Lists (upd Ho p (.lst xs)) := fun q u e => by
  by_cases z : q = p
  · subst z
    rw [upd_same] at e
    exact ⟨xs, (Option.some.inj e).symm⟩
  · rw [upd_ne z] at e
    exact h q u e
theorem Lists.emp : Lists emp := fun _ _ h => nomatch h
section
variable {α β γ : Type} {d : Cd α} {f : Cd β} {g3 : Cd γ} {σ : L2.St} {Hs0 H0 Ho Hi H Hs : Hp} {te ta tb : TE} {D : Ends} {tz : TS} {i j k3 : Nat} {K : PySem.W.Frag} {p : Addr} {xs : List V} {P : V → Prop}
theorem back_P [Sc d] [Sc f] {ab : α × β} {H2 Hk : Hp} {v : V} (hl : Lists Ho) (g : Grow (kn Ho Hi) H Hk H2) (h : cP d f ab Hk v) : cP d f ab (mns Hk Ho) v := by
  obtain ⟨T, x, y, rfl, h1, h2, h3⟩ := h
  have n : Ho T = none := by
    cases e : Ho T with
    | none => rfl
    | some u =>
      obtain ⟨zs, rfl⟩ := hl T u e
      have := g.s T _ (kn_at e)
      rw [h1] at this
      cases this
  exact ⟨T, x, y, rfl, by rw [mns_at n]; exact h1, Sc.sc h2, Sc.sc h3⟩
theorem q_oPK [Sc d] [Sc f] {ab : α × β} (w : Own Hs0 H0 Ho Hi H) (hl : Lists Ho) (h : EvC te σ (kn Ho Hi) (cP d f) ab) (k : ∀ v Hi2 H2, Own Hs0 H0 Ho Hi2 H2 → Ex Hi Hi2 → cP d f ab Hi2 v → tz D (σ.set i (some v)) H2) : tSeq (tAsg te (gName i)) tz D σ H :=
  h H w.ek _ fun v H2 Hk g p => k v _ H2 (w.back g) (w.im g) (back_P hl g p)
theorem s_oAppK (w : Own Hs0 H0 Ho Hi H) (hp : Ho p = some (.lst xs)) (ho : Ev ta σ Hi (.ref p)) (h : EvP te σ (kn Ho Hi) fun v _ => P v) (hz : xs.length ≤ 40000)
    (k : ∀ v Hi2 H2, Own Hs0 H0 (upd Ho p (.lst (xs ++ [v]))) Hi2 H2 → Ex Hi Hi2 → P v → D.nx σ H2) : tDrop (tBM K "list" rAppend ta (tCons te tNil)) D σ H := ho H w.g.i _ fun H1 e1 =>
  have w1 := w.up e1
  ⟨.inl ⟨rfl, xs, sq_of (e1 p _ (w.o p _ hp).2.2)⟩, h H1 w1.ek _ fun v H2 Hk g pv =>
    have w2 := w1.back g
    ⟨p, xs, v, rfl, rfl, (w2.o p _ hp).2.2, size_lt hz, k v _ _ (w2.mut hp) (w1.im g) pv⟩⟩
theorem q_oAppK (w : Own Hs0 H0 Ho Hi H) (hp : Ho p = some (.lst xs)) (ho : Ev ta σ Hi (.ref p)) (h : EvP te σ (kn Ho Hi) fun v _ => P v) (hz : xs.length ≤ 40000)
    (k : ∀ v Hi2 H2, Own Hs0 H0 (upd Ho p (.lst (xs ++ [v]))) Hi2 H2 → Ex Hi Hi2 → P v → tz D σ H2) : tSeq (tDrop (tBM K "list" rAppend ta (tCons te tNil))) tz D σ H := s_oAppK (D := { D with nx := tz D }) w hp ho h hz k
/-- a, b = two new lists -/
theorem q_oPar2 {P1 P2 : List V → Hp → Prop} (w : Own Hs0 H0 Ho Hi H) (h1 : EvF ta σ Hi P1) (h2 : ∀ Hi1, Ex Hi Hi1 → EvF tb σ Hi1 P2)
    (k : ∀ p q xs ys Hi1 Hi2 H2, Own Hs0 H0 (upd (upd Ho p (.lst xs)) q (.lst ys)) Hi2 H2 → Ex Hi Hi1 → Ex Hi1 Hi2 → p ≠ q → P1 xs Hi1 → P2 ys Hi2 → tz D ((σ.set i (some (.ref p))).set j (some (.ref q))) H2) :
    tSeq (tPar i j (tCons ta (tCons tb tNil))) tz D σ H := h1 H w.g.i _ fun p xs H1 Hi1 g a1 a2 a3 a4 =>
  have w1 := w.new g a1 a2 a3
  h2 Hi1 g.s H1 g.i _ fun q ys H2 Hi2 g2 b1 b2 b3 b4 => ⟨.ref p, .ref q, rfl, k p q xs ys Hi1 Hi2 H2 (w1.new g2 b1 b2 b3) g.s g2.s (w1.ne upd_same b1) a4 b4⟩
/-- a, b, c = t -/
theorem g_three {R : L2.St → Hp → Prop} {x : V} {abc : α × β × γ} (h : cP3 d f g3 abc Hs x) (e : Ex Hs H) (k : ∀ u v w, d abc.1 Hs u → f abc.2.1 Hs v → g3 abc.2.2 Hs w → R (((σ.set i (some u)).set j (some v)).set k3 (some w)) H) :
    gTup K 3 (gCons (gName i) (gCons (gName j) (gCons (gName k3) gNil))) x σ H R := by
  obtain ⟨a, u, v, w, h1, h2, h3, h4, h5⟩ := h
  exact ⟨a, [u, v, w], h1, sqt_ex e h2, rfl, u, [v, w], rfl, v, [w], rfl, w, [], rfl, rfl, k u v w h3 h4 h5⟩
/-- the script's cells, or one number -/
theorem ep_cells {ns : List Int} {n : Int} (h : EvC ta σ Hs (cS K) ns) (hb : Bits ns) (hn : intBits n ≤ 1048576) :
    EvP (tIf (tTest (tOp (rNeA K) ta (tLst tNil))) (tSl (rSlL K) ta tNoPart (tPart (tC (.int 63)))) (tLst (tCons (tC (.int n)) tNil))) σ Hs fun v H => ∃ cs, cL cI cs H v ∧ Bits cs ∧ cs ≠ [] := by
  refine EvF.toP (ef_if (PL := fun xs H => ∃ cs, Paired (fun b x => cI b H x) cs xs ∧ Bits cs ∧ cs ≠ []) (b := !decide (ns = [])) (et_test (ev_neNil h)) (fun hn => ?_) (fun _ => ?_)) ?_
  · refine (ef_toS (n := 63) h ev_c).imp fun xs H _ px => ⟨ns.take 63, px, fun x hx => hb x (List.mem_of_mem_take hx), fun z => ?_⟩
    rw [List.take_eq_nil_iff] at z
    rcases z with z | z
    · cases z
    · rw [z] at hn; simp at hn
  · refine EvF.imp (ef_lst (as_ea (ea_cons ev_c ea_nil)) fun vs H p => by rw [p]; show 1 ≤ 40000; decide) fun xs H _ px => ⟨[n], ?_, ?_, by simp⟩
    · rw [px]
      exact ints_paired [n]
    · intro x hx
      rw [List.mem_singleton.mp hx]
      exact hn
  · rintro p xs Hs2 _ ⟨cs, px, b1, b2⟩ hp
    exact ⟨cs, ⟨p, xs, rfl, upd_same, paired_mo (Ex.new hp) px⟩, b1, b2⟩
theorem ep_ix0 {p : List Int → Prop} (h : EvP ta σ Hs fun v H => ∃ m, p m ∧ cL cI m H v) (hne : ∀ m, p m → m ≠ []) (hb : Ev tb σ Hs (.int 0)) : EvP (tOp (rIx K) ta tb) σ Hs fun v _ => ∃ m x, p m ∧ x ∈ m ∧ v = .int x := fun H e Q q =>
  h H e _ fun v H2 Hs2 g ⟨m, pm, cm⟩ => hb H2 (e.trans g.b) _ fun H3 e3 => by
    obtain ⟨a, rfl, ha⟩ := cL_ints cm
    cases m with
    | nil => exact absurd rfl (hne [] pm)
    | cons x r => exact .inl ⟨a, _, 0, .int x, rfl, rfl, sq_ex (g.i.trans e3) ha, atI_nat (j := 0) rfl, q _ H3 Hs2 (g.trans (Grow.up g.i e3)) ⟨_, x, pm, List.mem_cons_self, rfl⟩⟩
end
end LH
namespace K02
open PySem L2 Evl PyProof.Rows LH
open Builtin.Int (intBits)
def sp_law_his (c : Cn) : Sp := fun vs H Q _ => ∃ (Hs : Hp) (u x y z : V) (ns : List Int) (P way : Int) (ls : List (List Int)) (hs ms : List Int), Ex Hs H ∧ vs = [u, .int P, x, y, z, .int way] ∧ cS c.K ns Hs u ∧ Bits ns ∧ cL (cL cI) ls Hs x ∧ cL cI hs Hs y ∧ cL cI ms Hs z ∧
  Board P ls hs ms ∧ (hs.length : Int) + ms.length < P ∧ RetP Hs H (fun v _ => ∃ r, v = .int r ∧ Free P hs ms r) Q
/-- what the holder may rely on -/
def Held (P : Int) (ls : List (List Int)) (hs ms : List Int) (o : Option Int) : Bool → Prop
  | true => total P ls hs ms < one P ∧ ∀ u, o = some u → total P ls hs ms ≤ u
  | false => ∀ r, Free P hs ms r → total P ls hs ms + worthU P ls hs ms r < one P ∧ ∀ u, o = some u → total P ls hs ms + worthU P ls hs ms r ≤ u
def sp_law_holds (c : Cn) : Sp := fun vs H Q _ => ∃ (Hs : Hp) (u x y z : V) (ns : List Int) (P way : Int) (first : Bool) (ls : List (List Int)) (hs ms : List Int), Ex Hs H ∧ vs = [u, .int P, x, y, z, .bl first, .int way] ∧ cS c.K ns Hs u ∧ Bits ns ∧ cL (cL cI) ls Hs x ∧ cL cI hs Hs y ∧ cL cI ms Hs z ∧
  Board P ls hs ms ∧ Held P ls hs ms none first ∧ RetV (.bl true) H Q
def t_law_his (c : Cn) : TS := (tSeq (tAsg (tLc (iRng1 (tCons (tVar 1) tNil)) (gName 7) (tAnd (tTest (tOp (rIn c.K true) (tVar 7) (tVar 3))) (tTest (tOp (rIn c.K true) (tVar 7) (tVar 4)))) (tVar 7) [7]) (gName 6)) (tSeq (tAsg (tIf (tTest (tOp (rNeA c.K) (tVar 0) (tLst tNil))) (tSl (rSlL c.K) (tVar 0) tNoPart (tPart (tC (.int 63)))) (tLst (tCons (tC (.int 5)) tNil))) (gName 8)) (tSeq (tAsg (tOp rAddI (tCB (rLenA c.K) (tCons (tVar 3) tNil)) (tCB (rLenA c.K) (tCons (tVar 4) tNil))) (gName 9)) (tSeq (tAsg (tOp (rIx c.K) (tVar 6) (tOp rModI (tOp rDivI (tCall (sp_law_number c) [] C8.E0 (tCons (tOp (rIx c.K) (tVar 8) (tOp rModI (tVar 9) (tCB (rLenA c.K) (tCons (tVar 8) tNil)))) (tCons (tOp rAddI (tVar 9) (tC (.int 60))) (tCons (tCB (rLenA c.K) (tCons (tVar 6) tNil)) tNil)))) (tC (.int 3))) (tCB (rLenA c.K) (tCons (tVar 6) tNil)))) (gName 10)) (tSeq (tIfS (tTest (tOp (rEqA c.K) (tVar 5) (tC (.int 0)))) (tRet (tVar 10)) tNext) (tSeq (tIfS (tTest (tOp (rEqA c.K) (tVar 5) (tC (.int 1)))) (tRet (tCall (sp_best c) [] C8.E0 (tCons (tVar 1) (tCons (tVar 2) (tCons (tVar 3) (tCons (tVar 4) tNil)))))) tNext) (tSeq (tAsg (tLc (iList c.K (tCall (sp_law_weights c) [] C8.E0 (tCons (tVar 2) (tCons (tVar 3) (tCons (tVar 4) tNil))))) (gTup c.K 2 (gCons (gName 12) (gCons (gName 13) gNil))) (tTest (tOp (rNeA c.K) (tVar 12) (tLst tNil))) (tVar 12) [12, 13]) (gName 11)) (tRet (tIf (tTest (tOp (rNeA c.K) (tVar 11) (tLst tNil))) (tOp (rIx c.K) (tMinLen c.K (tVar 11)) (tC (.int 0))) (tVar 10))))))))))
def t_law_holds (c : Cn) : TS := (tSeq (tPar 3 4 (tCons (tCB (rListA c.K) (tCons (tVar 3) tNil)) (tCons (tCB (rListA c.K) (tCons (tVar 4) tNil)) tNil))) (tSeq (tAsg (tC .non) (gName 7)) (tSeq (tAsg (tVar 5) (gName 8)) (tSeq (tWhile (tTest (tOp rLtI (tOp rAddI (tCB (rLenA c.K) (tCons (tVar 3) tNil)) (tCB (rLenA c.K) (tCons (tVar 4) tNil))) (tVar 1))) (tSeq (tIfS (tB (tVar 8)) (tSeq (tAsg (tCall (sp_danger c) [] C8.E0 (tCons (tVar 1) (tCons (tVar 2) (tCons (tVar 3) (tCons (tVar 4) tNil))))) (gName 9)) (tSeq (tIfS (tAnd (tTest (tOp rNotN (tVar 7) (tC .non))) (tTest (tOp rGtI (tOp rMulI (tOp (rIx c.K) (tVar 9) (tC (.int 0))) (tOp (rIx c.K) (tVar 7) (tC (.int 1)))) (tOp rMulI (tOp (rIx c.K) (tVar 7) (tC (.int 0))) (tOp (rIx c.K) (tVar 9) (tC (.int 1))))))) (tRet (tC (.bl false))) tNext) (tSeq (tAsg (tVar 9) (gName 7)) (tSeq (tAsg (tCall (sp_best c) [] C8.E0 (tCons (tVar 1) (tCons (tVar 2) (tCons (tVar 3) (tCons (tVar 4) tNil))))) (gName 10)) (tSeq (tIfS (tOr (tB (tCB (rIsi c.K) (tCons (tVar 10) (tCons (tC (.ty "bool")) tNil)))) (tOr (tTest (tOp (rIn c.K false) (tVar 10) (tVar 3))) (tOr (tTest (tOp (rIn c.K false) (tVar 10) (tVar 4))) (tNot (tTest (tChain rLeI rLtI (tC (.int 0)) (tVar 10) (tVar 1))))))) (tRet (tC (.bl false))) tNext) (tDrop (tBM c.K "list" rAppend (tVar 4) (tCons (tVar 10) tNil)))))))) (tSeq (tDrop (tBM c.K "list" rAppend (tVar 3) (tCons (tCall (sp_law_his c) [] C8.E0 (tCons (tVar 0) (tCons (tVar 1) (tCons (tVar 2) (tCons (tVar 3) (tCons (tVar 4) (tCons (tVar 6) tNil))))))) tNil))) (tIfS (tOr (tTest (tOp (rNeA c.K) (tCall (sp_full c) [] C8.E0 (tCons (tVar 1) (tCons (tVar 2) (tCons (tVar 3) (tCons (tVar 4) tNil))))) (tLst tNil))) (tTest (tOp (rNeA c.K) (tCall (sp_law_full c) [] C8.E0 (tCons (tVar 2) (tCons (tVar 3) tNil))) (tLst tNil)))) (tRet (tC (.bl false))) tNext))) (tAsg (tNotV (tVar 8)) (gName 8)))) (tRet (tC (.bl true)))))))
section
variable {c : Cn} {vs : List V} {H : Hp} {Q : VK} {E : XK} {σ : L2.St} {Hs : Hp} {ta tb tc td te tf tg : TE} {P : Int} {ls : List (List Int)} {hs ms : List Int}
theorem rd_law_his (h : sp_law_his c vs H Q E) : t_law_his c { nx := fun _ H' => Q .non H', rt := Q } (start ["_law_script", "_law_places_here", "_law_lines_here", "_law_his_here", "_law_mine", "_law_way", "_law_free", "_law_place", "_law_cells", "_law_at", "_law_drawn", "_law_open_ones", "_law_rest", "_law_power_here"] vs) H := by
  obtain ⟨Hs, u, x, y, z, ns, P, way, ls, hs, ms, e, rfl, hu, hb, h1, h2, h3, b, hlt, k⟩ := h
  have hP := b.p
  have hfew := b.t.few
  have hz : ls.length ≤ 60 ∧ ∀ l ∈ ls, l.length ≤ 60 := ⟨b.l.few, fun l hl => (b.l.ok l hl).few⟩
  refine q_oP (Own.start e) (EvF.toC (ef_filter (c := cN) (ei_rng (ea_cons (ev_var rfl) ea_nil) (by omega) (by omega)) (fun p : Nat => !decide ((p : Int) ∈ hs) && !decide ((p : Int) ∈ ms)) (by rw [List.length_range]; omega) fun a x Hs' ha e' ca => ?_)) fun fv Hi H1 w e1 hf => ?_
  · cases ca
    exact ⟨et_and (et_test (ev_notIn (ev_var rfl) (ec_var rfl (Mo.mo e' h2)))) fun _ => et_test (ev_notIn (ev_var rfl) (ec_var rfl (Mo.mo e' h3))), fun _ => ec_var rfl rfl⟩
  replace hf : cL cN (freeP P hs ms) Hi fv := hf
  refine q_oP w (ep_cells (ec_var rfl (Mo.mo e1 hu)) hb (by decide)) fun cv Hi2 H2 w e2 hc => ?_
  obtain ⟨cs, hc, bcs, ncs⟩ := hc
  replace h1 := Mo.mo e2 (Mo.mo e1 h1)
  replace h2 := Mo.mo e2 (Mo.mo e1 h2)
  replace h3 := Mo.mo e2 (Mo.mo e1 h3)
  replace hf := Mo.mo e2 hf
  refine q_oV w (ev_add (ev_lenC (c := cI) (ec_var rfl (w.m h2))) (ev_lenC (c := cI) (ec_var rfl (w.m h3)))) fun H3 w => ?_
  have hc0 : 0 < cs.length := List.length_pos_iff.mpr ncs
  have ef : ((hs.length : Int) + (ms.length : Int)) = ((hs.length + ms.length : Nat) : Int) := by omega
  rw [ef]
  generalize hs.length + ms.length = t at hlt ef ⊢
  have ht : t < 61 := by omega
  have hjm : t % cs.length < cs.length := Nat.mod_lt _ hc0
  have hget : cs[t % cs.length]? = some cs[t % cs.length] := List.getElem?_eq_getElem hjm
  have hbit := bcs _ (List.getElem_mem hjm)
  generalize cs[t % cs.length] = x0 at hget hbit
  have hfl := free_left (P := P) (hs := hs) (ms := ms) (by omega)
  have hf0 : 0 < (freeP P hs ms).length := List.length_pos_iff.mpr hfl
  have d3 : ∀ x : Int, CDivW x 3 := divW (by decide) (by decide)
  generalize hN : lawNumber x0 ((t : Int) + 60) ((freeP P hs ms).length : Int) / 3 = N
  have hm := mod_in N (P := ((freeP P hs ms).length : Int)) (by omega)
  obtain ⟨n, hn⟩ : ∃ n : Nat, N % ((freeP P hs ms).length : Int) = (n : Int) := ⟨(N % ((freeP P hs ms).length : Int)).toNat, by omega⟩
  have hnl : n < (freeP P hs ms).length := by omega
  have hgetf : (freeP P hs ms)[n]? = some (freeP P hs ms)[n] := List.getElem?_eq_getElem hnl
  have hfree := free_of (List.getElem_mem hnl)
  generalize (freeP P hs ms)[n] = r at hgetf hfree
  have hcw := w.m hc
  have hfw := w.m hf
  refine q_oV w (v := .int (r : Int)) (ev_ep (ep_ixL (c := cN) (n := n) (ec_var rfl hfw) (ev_to (ev_mod (ev_div (call_number (x := x0) (evI_c (ep_ixL (c := cI) (n := t % cs.length) (ec_var rfl hcw) (ev_to (ev_mod (ev_var rfl) (ev_lenC (c := cI) (ec_var rfl hcw)) (by omega)) (by rw [Int.natCast_emod])) hget)) (ev_add (ev_var rfl) ev_c) (ev_lenC (c := cN) (ec_var rfl hfw)) ⟨hbit, by omega, by omega⟩) ev_c (d3 _)) (ev_lenC (c := cN) (ec_var rfl hfw)) (by omega)) (by rw [hN, hn])) hgetf)) fun H4 w => ?_
  have kr : RetP Hs H (fun v _ => v = .int (r : Int)) Q := fun v H2 Hs2 g p => k v H2 Hs2 g ⟨r, p, hfree⟩
  refine q_oWhen w (et_test (ev_eqI (ev_var rfl) ev_c)) (fun _ H5 w => s_oRet w (ep_ev (ev_var rfl) rfl) kr) (fun _ H5 w => ?_)
  obtain ⟨q, hq⟩ := best_some (ls := ls) hfl
  refine q_oWhen w (et_test (ev_eqI (ev_var rfl) ev_c)) (fun _ H6 w => s_oRet w (ep_ev (call_best (as_play (ev_var rfl) (ec_var rfl h1) (ec_var rfl h2) (ec_var rfl h3) b)) ⟨(q : Int), by rw [hq]; rfl, free_of (best_first hq).mem⟩) k) (fun _ H6 w => ?_)
  refine q_oP w (EvF.toC (ef_compT (d := cL cI) (c1 := cL cI) (c2 := cI) (ei_list (EvF.toC (call_weights (ec_var rfl h1) (ec_var rfl h2) (ec_var rfl h3) hz))) (fun q => !decide (q.1 = [])) (fun q => q.1) (by have := weightsM_len ls hs ms; omega) fun a u v Hs' ha e' hu hv => ⟨et_test (ev_neC (c := cL cI) (a' := []) (ec_var rfl hu) (EvF.toC ef_nil)), fun _ => ec_var rfl hu⟩)) fun ov Hi3 H7 w e3 ho => ?_
  have hmem : ∀ m ∈ ((weightsM ls hs ms).filter fun q => !decide (q.1 = [])).map fun q => q.1, m ≠ [] ∧ ∀ x ∈ m, Free P hs ms x := by
    intro m hm
    obtain ⟨⟨m', pw⟩, hq, rfl⟩ := List.mem_map.mp hm
    obtain ⟨hq1, hq2⟩ := List.mem_filter.mp hq
    obtain ⟨l, hl, he⟩ := List.mem_map.mp hq1
    obtain ⟨hl1, hl2⟩ := List.mem_filter.mp hl
    cases he
    refine ⟨by simpa using hq2, fun x hx => ?_⟩
    obtain ⟨x1, x2⟩ := List.mem_filter.mp hx
    have ok := (b.l.ok l hl1).inr x x1
    refine ⟨ok.1, ok.2, by simpa using x2, fun z => ?_⟩
    have : blocked ms l = true := (blocked_iff ms l).mpr ⟨x, x1, z⟩
    have h2 : (!blocked ms l) = true := hl2
    rw [this] at h2
    cases h2
  generalize ((weightsM ls hs ms).filter fun q => !decide (q.1 = [])).map (fun q => q.1) = os at ho hmem
  refine s_oRet w (ep_if (b := !decide (os = [])) (et_test (ev_neC (c := cL (cL cI)) (a' := []) (ec_var rfl ho) (EvF.toC ef_nil))) (fun hne => ?_) (fun _ => ep_ev (ev_var rfl) ⟨r, rfl, hfree⟩)) k
  have hne' : os ≠ [] := by simpa using hne
  refine EvP.imp (ep_ix0 (p := fun m => m ∈ os) (EvP.imp (ep_minLen (ec_var rfl ho) hne') fun v H _ ⟨m, a, b⟩ => ⟨m, a, b⟩) (fun m hm => (hmem m hm).1) ev_c) fun v H _ ⟨m, x, hm, hx, hv⟩ => ⟨x, hv, (hmem m hm).2 x hx⟩
theorem call_his {ns : List Int} {way : Int} (h1 : EvC ta σ Hs (cS c.K) ns) (h2 : Ev tb σ Hs (.int P)) (h3 : EvC tc σ Hs (cL (cL cI)) ls) (h4 : EvC td σ Hs (cL cI) hs) (h5 : EvC te σ Hs (cL cI) ms) (h6 : Ev tf σ Hs (.int way)) (hb : Bits ns) (b : Board P ls hs ms) (hlt : (hs.length : Int) + ms.length < P) :
    EvP (tCall (sp_law_his c) [] C8.E0 (tCons ta (tCons tb (tCons tc (tCons td (tCons te (tCons tf tNil))))))) σ Hs fun v _ => ∃ r, v = .int r ∧ Free P hs ms r := by
  refine ep_call (as_cons h1 mo_c fun _ e1 => as_cons (c_evI (h2.mono e1)) mo_c fun _ e2 => as_cons (EvC.lift h3 (e1.trans e2)) mo_c fun _ e3 => as_cons (EvC.lift h4 ((e1.trans e2).trans e3)) mo_c fun _ e4 => as_cons (EvC.lift h5 (((e1.trans e2).trans e3).trans e4)) mo_c fun _ e5 => as_cons (c_evI (h6.mono ((((e1.trans e2).trans e3).trans e4).trans e5))) mo_c fun _ _ => as_nil) ?_
  rintro vs H1 _ ⟨_, _, rfl, p1, _, _, rfl, p2, _, _, rfl, p3, _, _, rfl, p4, _, _, rfl, p5, _, _, rfl, p6, rfl⟩ H2 e2 Q1 k1
  cases p2
  cases p6
  exact ⟨H1, _, _, _, _, ns, P, way, ls, hs, ms, e2, rfl, p1, hb, p3, p4, p5, b, hlt, k1⟩
theorem held_mine {o : Option Int} {q : Nat} (h : Held P ls hs ms o true) (hq : bestM P ls hs ms = some q) : Held P ls hs (ms ++ [(q : Int)]) (some (total P ls hs ms)) false := by
  obtain ⟨h1, h2⟩ := h
  intro r f
  have f2 : Free P hs ms r := ⟨f.h0, f.h1, f.his, fun z => f.mine (List.mem_append_left _ z)⟩
  have a := worth_best hq f2 (ls := ls)
  have b := worth_mine P ls hs ms (q : Int) r
  have t := total_mine P ls hs ms (q : Int)
  refine ⟨by omega, fun u hu => ?_⟩
  cases hu
  omega
theorem held_his {o : Option Int} {r : Int} (ok : OkLines P ls) (h : Held P ls hs ms o false) (f : Free P hs ms r) : Held P ls (hs ++ [r]) ms o true := by
  have h2 := h r f
  have t := total_his (ms := ms) ok f.his
  exact ⟨by omega, fun u hu => by have := h2.2 u hu; omega⟩
theorem rd_law_holds (h : sp_law_holds c vs H Q E) : t_law_holds c { nx := fun _ H' => Q .non H', rt := Q } (start ["_law_script", "_law_places_here", "_law_lines_here", "_law_his_here", "_law_mine", "_law_first", "_law_way", "_law_before", "_law_turn", "_law_now", "_law_place"] vs) H := by
  obtain ⟨Hs, u, x, y, z, ns, P, way, first, ls, hs, ms, e, rfl, hu, hb, h1, h2, h3, b, held, k⟩ := h
  have hP := b.p
  have hone : (0 : Int) < one P := one_pos P
  have hone2 := one_le hP.2
  have hz : ls.length ≤ 60 ∧ ∀ l ∈ ls, l.length ≤ 60 := ⟨b.l.few, fun l hl => (b.l.ok l hl).few⟩
  refine q_oPar2 (Own.start e) (ef_list (c := cI) (ec_var rfl h2)) (fun Hi1 e1 => ef_list (c := cI) (ec_var rfl (Mo.mo e1 h3))) fun p q xs ys Hi1 Hi2 H2 w e1 e2 pq px py => ?_
  rw [paired_ints px, paired_ints py] at w
  clear px py
  refine q_oV w ev_c fun H3 w => ?_
  refine q_oV w (ev_var rfl) fun H4 w => ?_
  have hsum : ∀ {hs ms : List Int}, Board P ls hs ms → (hs.length : Int) + ms.length ≤ P := fun {hs ms} b => by
    have s := subset_len (l := hs ++ ms) (m := (List.range P.toNat).map fun i : Nat => (i : Int)) b.t.nd fun x hx => by
      have : 0 ≤ x ∧ x < P := (List.mem_append.mp hx).elim (b.t.h x) (b.t.m x)
      exact List.mem_map.mpr ⟨x.toNat, List.mem_range.mpr (by omega), by omega⟩
    rw [List.length_append, List.length_map, List.length_range] at s
    omega
  have h0 := hsum b
  refine q_while (fun m σ' H' => ∃ hs ms bf turn y9 y10 Ho Hi o, σ' = [some u, some (.int P), some x, some (.ref p), some (.ref q), some (.bl first), some (.int way), some bf, some (.bl turn), y9, y10] ∧ Own Hs H Ho Hi H' ∧ Lists Ho ∧ Ex Hs Hi ∧
      Ho p = some (.lst (hs.map V.int)) ∧ Ho q = some (.lst (ms.map V.int)) ∧ Board P ls hs ms ∧ (m : Int) = P - hs.length - ms.length ∧ cO (cP cI cI) (o.map fun u => lowest u (one P)) Hi bf ∧ Held P ls hs ms o turn)
    (P - hs.length - ms.length).toNat ⟨hs, ms, .non, first, none, none, _, Hi2, none, rfl, w, Lists.emp.upd.upd, e1.trans e2, by rw [upd_ne pq]; exact upd_same, upd_same, b, by omega, rfl, held⟩ ?_
  rintro m σ' H' ⟨hs, ms, bf, turn, y9, y10, Ho, Hi, o, rfl, w, hl, ei, hp, hq, b, hm, cbf, held⟩
  have hfew := b.t.few
  have kx := w.m (Mo.mo ei h1)
  have kp : cL cI hs (kn Ho Hi) (.ref p) := ints_cL (kn_at hp)
  have kq : cL cI ms (kn Ho Hi) (.ref q) := ints_cL (kn_at hq)
  refine ⟨decide ((hs.length : Int) + ms.length < P), ?_, fun hb2 H1 e1 => ?_, fun hb2 H1 e1 => ?_⟩
  · intro H1 e1 Q1 k1
    have w1 := w.up e1
    exact (et_test (ev_lt (ev_add (ev_lenC (c := cI) (ec_var rfl kp)) (ev_lenC (c := cI) (ec_var rfl kq))) (ev_var rfl))) H1 w1.ek Q1 k1
  · have hlt : (hs.length : Int) + ms.length < P := of_decide_eq_true hb2
    replace w := w.up e1
    obtain ⟨m, rfl⟩ : ∃ n, m = n + 1 := ⟨m - 1, by omega⟩
    refine ⟨fun σ2 H2 => ∃ m', m' < m + 1 ∧ ∃ hs ms bf turn y9 y10 Ho Hi o, σ2 = [some u, some (.int P), some x, some (.ref p), some (.ref q), some (.bl first), some (.int way), some bf, some (.bl turn), y9, y10] ∧ Own Hs H Ho Hi H2 ∧ Lists Ho ∧ Ex Hs Hi ∧
      Ho p = some (.lst (hs.map V.int)) ∧ Ho q = some (.lst (ms.map V.int)) ∧ Board P ls hs ms ∧ (m' : Int) = P - hs.length - ms.length ∧ cO (cP cI cI) (o.map fun u => lowest u (one P)) Hi bf ∧ Held P ls hs ms o turn, fun _ _ h => h, ?_⟩
    refine q_oIf w (b := turn) (et_B (ev_var rfl)) (fun ht H5 w => ?_) (fun ht H5 w => ?_)
    · subst ht
      obtain ⟨hd1, hd2⟩ := id held
      refine q_oPK w hl (call_danger (as_play (ev_var rfl) (ec_var rfl kx) (ec_var rfl kp) (ec_var rfl kq) b)) fun nv Hi6 H6 w e6 hn => ?_
      have hnk := w.m hn
      have cbk := w.m (Mo.mo e6 cbf)
      have hnow : ∀ {D : Ends} {tz : TS}, (∀ H2, Own Hs H Ho Hi6 H2 → tz D [some u, some (.int P), some x, some (.ref p), some (.ref q), some (.bl first), some (.int way), some bf, some (.bl true), some nv, y10] H2) →
          tSeq (tIfS (tAnd (tTest (tOp rNotN (tVar 7) (tC .non))) (tTest (tOp rGtI (tOp rMulI (tOp (rIx c.K) (tVar 9) (tC (.int 0))) (tOp (rIx c.K) (tVar 7) (tC (.int 1)))) (tOp rMulI (tOp (rIx c.K) (tVar 7) (tC (.int 0))) (tOp (rIx c.K) (tVar 9) (tC (.int 1))))))) (tRet (tC (.bl false))) tNext) tz D [some u, some (.int P), some x, some (.ref p), some (.ref q), some (.bl first), some (.int way), some bf, some (.bl true), some nv, y10] H6 := by
        intro D tz kk
        cases o with
        | none =>
          have : bf = .non := cbf
          subst this
          exact q_oNo w (EvT_to (et_and (a := false) (b := false) (et_test (ev_to (ev_notN (ev_var rfl)) rfl)) fun z => nomatch z) rfl) kk
        | some uo =>
          have cb : cP cI cI (lowest uo (one P)) (kn Ho Hi6) bf := cbk
          have hbn : decide (bf = V.non) = false := by
            obtain ⟨a, _, _, rfl, _⟩ := cb
            rfl
          have l1 := lowest_pos uo hone
          have l2 := lowest_le uo hone
          have l3 := lowest_pos (total P ls hs ms) hone
          have l4 := lowest_le (total P ls hs ms) hone
          have p62 : (2 : Int) ^ 60 < 2 ^ 64 := by decide
          have m1 : IntMulOk (dangerM P ls hs ms).1 (lowest uo (one P)).2 := CMul.ok (.inr ⟨by omega, by omega⟩)
          have m2 : IntMulOk (lowest uo (one P)).1 (dangerM P ls hs ms).2 := CMul.ok (.inr ⟨by show -(2 ^ 64) < (lowest _ _).2; omega, by show (lowest _ _).2 < 2 ^ 64; omega⟩)
          have hcr := cross (total P ls hs ms) uo hone
          have hle := hd2 uo rfl
          have ha : EvT (tTest (tOp rNotN (tVar 7) (tC .non))) [some u, some (.int P), some x, some (.ref p), some (.ref q), some (.bl first), some (.int way), some bf, some (.bl true), some nv, y10] (kn Ho Hi6) true := et_test (ev_to (ev_notN (ev_var rfl)) (by rw [hbn]; rfl))
          refine q_oNo w (EvT_to (et_and (a := true) (b := false) ha fun _ => et_test (ev_to (ev_gt (ev_mul (evI_c (ep_fst (c := cI) (d := cI) (ec_var rfl hnk) ev_c)) (evI_c (ep_snd (c := cI) (d := cI) (ec_var rfl cb) ev_c)) m1) (ev_mul (evI_c (ep_fst (c := cI) (d := cI) (ec_var rfl cb) ev_c)) (evI_c (ep_snd (c := cI) (d := cI) (ec_var rfl hnk) ev_c)) m2)) (by congr 1; exact decide_eq_false fun z => by have := hcr.mp z; omega))) rfl) kk
      refine hnow fun H7 w => ?_
      refine q_oV w (ev_var rfl) fun H8 w => ?_
      obtain ⟨r, hr⟩ := best_some (ls := ls) (free_left (P := P) (hs := hs) (ms := ms) hlt)
      have fr := free_of (best_first hr).mem
      replace kx := w.m (Mo.mo e6 (Mo.mo ei h1))
      replace kp : cL cI hs (kn Ho Hi6) (.ref p) := ints_cL (kn_at hp)
      replace kq : cL cI ms (kn Ho Hi6) (.ref q) := ints_cL (kn_at hq)
      refine q_oV w (v := .int (r : Int)) (ev_to (call_best (as_play (ev_var rfl) (ec_var rfl kx) (ec_var rfl kp) (ec_var rfl kq) b)) (by rw [hr]; rfl)) fun H9 w => ?_
      have ci : cW (.int (r : Int)) (kn Ho Hi6) (.int (r : Int)) := CW.int _
      refine q_oNo w (EvT_to (et_or (et_B (ev_isi ty_bool (ec_var rfl ci))) fun _ => et_or (et_test (ev_in (ev_var rfl) (ec_var rfl kp))) fun _ => et_or (et_test (ev_in (ev_var rfl) (ec_var rfl kq))) fun _ => et_not (et_test (ev_chain ev_c (ev_var rfl) rv_I0 (fun _ => ev_var rfl) fun _ => rv_I0))) ?_) fun H10 w => ?_
      · rw [decide_eq_false fr.his, decide_eq_false fr.mine, decide_eq_true fr.h0, decide_eq_true fr.h1]
        with_unfolding_all rfl
      refine s_oApp w hq (ev_var rfl) (P := fun v _ => v = .int (r : Int)) (ep_ev (ev_var rfl) rfl) (by rw [List.length_map]; omega) fun nv2 Hi11 H11 w e11 hnv => ?_
      subst hnv
      refine s_oV w (ev_notV (ev_var rfl)) fun H12 w => ?_
      refine ⟨m, Nat.lt_succ_self m, hs, ms ++ [(r : Int)], nv, false, _, _, _, Hi11, some (total P ls hs ms), rfl, w, hl.upd, (ei.trans e6).trans e11, by rw [upd_ne pq]; exact hp, by rw [upd_same, List.map_append]; rfl, ⟨b.p, b.l, b.t.mine fr hlt hP.2⟩, by rw [List.length_append, List.length_singleton]; omega, Mo.mo e11 hn, held_mine held hr⟩
    · subst ht
      refine q_oAppK w hp (ev_var rfl) (call_his (EvC.lift (ec_var rfl (Mo.mo ei hu)) w.ik) (ev_var rfl) (ec_var rfl kx) (ec_var rfl kp) (ec_var rfl kq) (ev_var rfl) hb b hlt) (by rw [List.length_map]; omega) fun nv Hi6 H6 w e6 hn => ?_
      obtain ⟨r, rfl, fr⟩ := hn
      have b2 : Board P ls (hs ++ [r]) ms := ⟨b.p, b.l, b.t.his fr hlt hP.2⟩
      have held2 := held_his b.l held fr
      have nf := none_full b2 held2.1
      have hp2 : upd Ho p (.lst (hs.map V.int ++ [.int r])) p = some (.lst ((hs ++ [r]).map V.int)) := by rw [upd_same, List.map_append]; rfl
      have hq2 : upd Ho p (.lst (hs.map V.int ++ [.int r])) q = some (.lst (ms.map V.int)) := by rw [upd_ne pq.symm]; exact hq
      replace kx := w.m (Mo.mo e6 (Mo.mo ei h1))
      replace kp : cL cI (hs ++ [r]) (kn _ Hi6) (.ref p) := ints_cL (kn_at hp2)
      replace kq : cL cI ms (kn _ Hi6) (.ref q) := ints_cL (kn_at hq2)
      refine s_oWhen w (b := false) (EvT_to (et_or (et_test (ev_neC (c := cL cN) (a' := []) (EvF.toC (call_full (as_play (ev_var rfl) (ec_var rfl kx) (ec_var rfl kp) (ec_var rfl kq) b2))) (EvF.toC ef_nil))) fun _ => et_test (ev_neC (c := cL cN) (a' := []) (EvF.toC (call_fullL (ec_var rfl kx) (ec_var rfl kp) hz)) (EvF.toC ef_nil))) (by rw [fullL_eq, nf]; rfl)) (fun z => nomatch z) (fun _ H7 w => ?_)
      refine s_oV w (ev_notV (ev_var rfl)) fun H8 w => ?_
      refine ⟨m, Nat.lt_succ_self m, hs ++ [r], ms, bf, true, y9, y10, _, Hi6, o, rfl, w, hl.upd, ei.trans e6, hp2, hq2, b2, by rw [List.length_append, List.length_singleton]; omega, Mo.mo e6 cbf, held2⟩
  · exact s_oRetV (w.up e1) ev_c k
end
end K02

namespace LH
open PySem L2 Evl PyProof.Rows
/-- for x in l, l a list of which only so much is said -/
theorem q_oForE {α : Type} {c : Cd α} {σ : L2.St} {Hs0 H0 Ho Hi H : Hp} {te : TE} {K : PySem.W.Frag} {g : TG} {tu tz : TS} {D : Ends} {p : List α → Prop} (w : Own Hs0 H0 Ho Hi H) (h : EvP te σ Hi fun v H => ∃ l, p l ∧ cL c l H v)
    (k : ∀ l Hi2 H2 te', p l → Own Hs0 H0 Ho Hi2 H2 → Ex Hi Hi2 → EvC te' σ Hi2 (cL c) l → tSeq (tFor (iList K te') g tu) tz D σ H2) : tSeq (tFor (iList K te) g tu) tz D σ H := h H w.g.i _ fun v H2 Hi2 g ⟨l, pl, hl⟩ => by
  have := k l Hi2 H2 (tC v) pl (w.on g) g.s (ep_ev ev_c hl)
  exact this
end LH
namespace K02
open PySem L2 Evl PyProof.Rows LH
def sp_main (c : Cn) : Sp := fun vs H Q _ => ∃ (Hs : Hp) (u : V) (ns : List Int), Ex Hs H ∧ vs = [u] ∧ cS c.K ns Hs u ∧ Bits ns ∧ ns.length ≤ 63 ∧ RetV (.bl true) H Q
theorem ln_law_his {c : Cn} {vs : List V} {H : Hp} {Q : VK} {E : XK} (h : sp_law_his c vs H Q E) : vs.length = 6 := by obtain ⟨_, _, _, _, _, _, _, _, _, _, _, _, rfl, _⟩ := h; rfl
theorem ln_law_holds {c : Cn} {vs : List V} {H : Hp} {Q : VK} {E : XK} (h : sp_law_holds c vs H Q E) : vs.length = 7 := by obtain ⟨_, _, _, _, _, _, _, _, _, _, _, _, _, rfl, _⟩ := h; rfl
theorem ln_main {c : Cn} {vs : List V} {H : Hp} {Q : VK} {E : XK} (h : sp_main c vs H Q E) : vs.length = 1 := by obtain ⟨_, _, _, _, rfl, _⟩ := h; rfl
def t_main (c : Cn) : TS := (tSeq (tAsg (tCB (rSum c.K) (tCons (tSl (rSlL c.K) (tVar 0) tNoPart (tPart (tC (.int 63)))) tNil)) (gName 1)) (tSeq (tAsg (tCall (sp_law_places c) [] C8.E0 (tCons (tVar 0) tNil)) (gName 2)) (tSeq (tIfS (tAnd (tTest (tOp rGtI (tVar 2) (tC (.int 9)))) (tTest (tOp (rNeA c.K) (tOp rModI (tOp rDivI (tVar 1) (tC (.int 32))) (tC (.int 16))) (tC (.int 7))))) (tAsg (tOp rAddI (tC (.int 10)) (tOp rModI (tOp rDivI (tVar 1) (tC (.int 4))) (tC (.int 5)))) (gName 2)) tNext) (tSeq (tAsg (tCall (sp_law_takings c) [] C8.E0 (tCons (tVar 0) (tCons (tVar 2) (tCons (tC (.int 1)) tNil)))) (gTup c.K 2 (gCons (gName 3) (gCons (gName 4) gNil)))) (tSeq (tAsg (tLst (tCons (tTup (tCons (tC (.bl false)) (tCons (tLst tNil) (tCons (tLst tNil) tNil)))) (tCons (tTup (tCons (tC (.bl true)) (tCons (tLst tNil) (tCons (tLst tNil) tNil)))) (tCons (tTup (tCons (tC (.bl true)) (tCons (tSl (rSlL c.K) (tVar 3) tNoPart (tPart (tC (.int 3)))) (tCons (tVar 4) tNil)))) (tCons (tTup (tCons (tC (.bl false)) (tCons (tSl (rSlL c.K) (tVar 3) tNoPart (tPart (tC (.int 2)))) (tCons (tVar 4) tNil)))) tNil))))) (gName 5)) (tSeq (tFor (iEnum c.K (tCons (tVar 5) tNil)) (gTup c.K 2 (gCons (gName 6) (gCons (gName 7) gNil))) (tSeq (tAsg (tVar 7) (gTup c.K 3 (gCons (gName 8) (gCons (gName 9) (gCons (gName 10) gNil))))) (tSeq (tAsg (tLst tNil) (gName 11)) (tSeq (tFor (iList c.K (tCall (sp_law_lines c) [] C8.E0 (tCons (tSl (rSlL c.K) (tVar 0) tNoPart (tPart (tC (.int 20)))) (tCons (tVar 2) (tCons (tOp rAddI (tC (.int 2)) (tOp rModI (tOp rDivI (tVar 1) (tC (.int 8))) (tC (.int 4)))) tNil))))) (gName 12) (tSeq (tAsg (tOp (rCatL c.K) (tVar 11) (tLst (tCons (tVar 12) tNil))) (gName 13)) (tSeq (tAsg (tCall (sp_sure c) [] C8.E0 (tCons (tVar 2) (tCons (tVar 13) (tCons (tVar 9) (tCons (tVar 10) tNil))))) (gName 14)) (tIfS (tAnd (tB (tOp (rIx c.K) (tVar 14) (tC (.int 0)))) (tOr (tB (tVar 8)) (tB (tOp (rIx c.K) (tVar 14) (tC (.int 1)))))) (tAsg (tVar 13) (gName 11)) tNext)))) (tIfS (tNot (tB (tCall (sp_law_holds c) [] C8.E0 (tCons (tVar 0) (tCons (tVar 2) (tCons (tVar 11) (tCons (tVar 9) (tCons (tVar 10) (tCons (tVar 8) (tCons (tOp rModI (tOp rAddI (tVar 1) (tVar 6)) (tC (.int 3))) tNil)))))))))) (tRet (tC (.bl false))) tNext))))) (tRet (tAndV (tOp (rEqA c.K) (tCall (sp_sure c) [] C8.E0 (tCons (tC (.int 2)) (tCons (tLst (tCons (tLst (tCons (tC (.int 0)) (tCons (tC (.int 1)) tNil))) tNil)) (tCons (tLst tNil) (tCons (tLst tNil) tNil))))) (tTup (tCons (tC (.bl true)) (tCons (tC (.bl true)) tNil)))) (tOp (rEqA c.K) (tCall (sp_sure c) [] C8.E0 (tCons (tC (.int 2)) (tCons (tLst (tCons (tLst (tCons (tC (.int 0)) tNil)) (tCons (tLst (tCons (tC (.int 1)) tNil)) tNil))) (tCons (tLst tNil) (tCons (tLst tNil) tNil))))) (tTup (tCons (tC (.bl false)) (tCons (tC (.bl false)) tNil))))))))))))
/-- what the lines kept so far let hope -/
def Kept (P : Int) (ls : List (List Int)) (hs ms : List Int) (first : Bool) : Prop := if first = true then total P ls hs ms < one P else 2 * total P ls hs ms < one P
section
variable {c : Cn} {vs : List V} {H : Hp} {Q : VK} {E : XK} {σ : L2.St} {Hs : Hp} {ta tb tc td te tf tg : TE} {P : Int} {ls : List (List Int)} {hs ms : List Int}
theorem kept_held {first : Bool} (h : Kept P ls hs ms first) : Held P ls hs ms none first := by
  unfold Kept at h
  cases first with
  | true => exact ⟨h, fun _ z => nomatch z⟩
  | false =>
    intro r _
    have h' : 2 * total P ls hs ms < one P := h
    have := worth_le P ls hs ms r
    exact ⟨by omega, fun _ z => nomatch z⟩
theorem kept_nil (P : Int) (hs ms : List Int) (first : Bool) : Kept P [] hs ms first := by
  have h : total P [] hs ms = 0 := rfl
  have := one_pos P
  unfold Kept
  rw [h]
  split <;> omega
theorem call_holds {ns : List Int} {way : Int} {first : Bool} (h1 : EvC ta σ Hs (cS c.K) ns) (h2 : Ev tb σ Hs (.int P)) (h3 : EvC tc σ Hs (cL (cL cI)) ls) (h4 : EvC td σ Hs (cL cI) hs) (h5 : EvC te σ Hs (cL cI) ms) (h6 : Ev tf σ Hs (.bl first)) (h7 : Ev tg σ Hs (.int way)) (hb : Bits ns) (b : Board P ls hs ms) (hh : Held P ls hs ms none first) :
    Ev (tCall (sp_law_holds c) [] C8.E0 (tCons ta (tCons tb (tCons tc (tCons td (tCons te (tCons tf (tCons tg tNil)))))))) σ Hs (.bl true) := by
  refine ev_callS (as_cons h1 mo_c fun _ e1 => as_cons (c_evI (h2.mono e1)) mo_c fun _ e2 => as_cons (EvC.lift h3 (e1.trans e2)) mo_c fun _ e3 => as_cons (EvC.lift h4 ((e1.trans e2).trans e3)) mo_c fun _ e4 => as_cons (EvC.lift h5 (((e1.trans e2).trans e3).trans e4)) mo_c fun _ e5 => as_cons (c_evB (h6.mono ((((e1.trans e2).trans e3).trans e4).trans e5))) mo_c fun _ e6 => as_cons (c_evI (h7.mono (((((e1.trans e2).trans e3).trans e4).trans e5).trans e6))) mo_c fun _ _ => as_nil) ?_
  rintro vs H1 _ ⟨_, _, rfl, p1, _, _, rfl, p2, _, _, rfl, p3, _, _, rfl, p4, _, _, rfl, p5, _, _, rfl, p6, _, _, rfl, p7, rfl⟩ H2 e2 Q1 k1
  cases p2
  cases p6
  cases p7
  exact ⟨H1, _, _, _, _, ns, P, way, first, ls, hs, ms, e2, rfl, p1, hb, p3, p4, p5, b, hh, k1⟩
theorem OkTake.cut (t : OkTake P hs ms) (n : Nat) : OkTake P (hs.take n) ms := by
  refine ⟨fun x hx => t.h x (List.mem_of_mem_take hx), t.m, ?_, by rw [List.length_take]; have := t.few; omega⟩
  exact List.Sublist.nodup (List.Sublist.append (List.take_sublist n hs) (List.Sublist.refl ms)) t.nd
theorem rd_main (h : sp_main c vs H Q E) : t_main c { nx := fun _ H' => Q .non H', rt := Q } (start ["_law_script", "_law_whole", "_law_places_here", "_law_his_here", "_law_mine", "_law_plays", "_law_way", "_law_play", "_law_first", "_law_near", "_law_far", "_law_lines_here", "_law_line", "_law_some", "_law_said"] vs) H := by
  obtain ⟨Hs, u, ns, e, rfl, hu, hb, hn, k⟩ := h
  have hP0 := lawPlaces_in ns
  refine q_oV (Own.start e) (ev_sum (EvF.toC (ef_toS (n := 63) (ec_var rfl (Mo.mo (Own.start e).ik hu)) ev_c))) fun H1 w => ?_
  generalize (ns.take 63).sum = W
  refine q_oV w (call_places (ec_var rfl (w.m hu))) fun H2 w => ?_
  generalize lawPlaces ns = P at hP0
  have d32 : ∀ x : Int, CDivW x 32 := divW (by decide) (by decide)
  have d4 : ∀ x : Int, CDivW x 4 := divW (by decide) (by decide)
  have d8 : ∀ x : Int, CDivW x 8 := divW (by decide) (by decide)
  refine q_join (M := fun σ' H' => ∃ P : Int, σ' = [some u, some (.int W), some (.int P), none, none, none, none, none, none, none, none, none, none, none, none] ∧ Own Hs H emp Hs H' ∧ 1 ≤ P ∧ P ≤ 60) ?_ fun tail => ?_
  rotate_left
  · refine q_oWhen w (et_and (et_test (ev_gt (ev_var rfl) ev_c)) fun _ => et_test (ev_neI (ev_mod (ev_div (ev_var rfl) ev_c (d32 _)) ev_c (by decide)) ev_c)) (fun _ H4 w => ?_) (fun _ H4 w => tail _ _ ⟨P, rfl, w, hP0.1, hP0.2⟩)
    refine s_oV w (ev_add ev_c (ev_mod (ev_div (ev_var rfl) ev_c (d4 _)) ev_c (by decide))) fun H5 w => tail _ _ ⟨_, rfl, w, by omega, by omega⟩
  clear w
  rintro σ' H3 ⟨P, rfl, w, hP1, hP2⟩
  refine (call_takings (P := P) (m := 1) (ec_var rfl hu) (ev_var rfl) ev_c hb (by omega)) H3 w.g.i _ fun x H4 Hi2 g ⟨hs, ms, hx, okt⟩ => g_two hx g.i fun hv mv ch cm => ?_
  replace w := w.on g
  have e2 := g.s
  refine q_oP w (ec_lst (c := cP3 cB (cL cI) (cL cI)) (l := [(false, [], []), (true, [], []), (true, hs.take 3, ms), (false, hs.take 2, ms)])
    (ecs_cons (ep_tup3 (c_evB ev_c) (EvF.toC ef_nil) (EvF.toC ef_nil)) (ecs_cons (ep_tup3 (c_evB ev_c) (EvF.toC ef_nil) (EvF.toC ef_nil)) (ecs_cons (ep_tup3 (c_evB ev_c) (EvF.toC (ef_to (c := cI) (n := 3) (ec_var rfl ch) ev_c)) (ec_var rfl cm)) (ecs_cons (ep_tup3 (c_evB ev_c) (EvF.toC (ef_to (c := cI) (n := 2) (ec_var rfl ch) ev_c)) (ec_var rfl cm)) ecs_nil)))) (show 4 ≤ 40000 by decide)) fun pv Hi3 H5 w e3 hpl => ?_
  have hokb : ∀ b ∈ [(false, ([] : List Int), ([] : List Int)), (true, [], []), (true, hs.take 3, ms), (false, hs.take 2, ms)], OkTake P b.2.1 b.2.2 := by
    intro b hb
    simp only [List.mem_cons, List.not_mem_nil, or_false] at hb
    rcases hb with rfl | rfl | rfl | rfl
    · exact OkTake.none P
    · exact OkTake.none P
    · exact OkTake.cut okt 3
    · exact OkTake.cut okt 2
  generalize [(false, ([] : List Int), ([] : List Int)), (true, [], []), (true, hs.take 3, ms), (false, hs.take 2, ms)] = bs at hpl hokb
  refine q_oFor w (ei_enum (c := cP3 cB (cL cI) (cL cI)) (l := bs) ?_) mo_c' (fun pre σ' _ _ => ∃ y6 y7 y8 y9 y10 y11 y12 y13 y14, σ' = [some u, some (.int W), some (.int P), some hv, some mv, some pv, y6, y7, y8, y9, y10, y11, y12, y13, y14])
    (fun _ _ => ⟨none, none, none, none, none, none, none, none, none, rfl⟩) ?_ ?_
  · refine (as_cons (ec_var rfl hpl) mo_c fun _ _ => as_nil).imp ?_
    rintro vs H1 _ ⟨s, _, rfl, p1, rfl⟩
    exact ⟨s, rfl, p1⟩
  · rintro Hb eb pre ⟨wy, first, near, far⟩ post x σ' Ho' Hi' Hi'' H'' hsrc ⟨y6, y7, y8, y9, y10, y11, y12, y13, y14, rfl⟩ ei w e' ca
    have hbd : OkTake P near far := hokb (first, near, far) (by
      have : (wy, first, near, far) ∈ (List.range bs.length).zip bs := by rw [hsrc]; simp
      exact (List.of_mem_zip this).2)
    refine g_two ca w.g.i fun cu cv c1 c2 => ?_
    cases c1
    refine (ec_var (c := cP3 cB (cL cI) (cL cI)) (a := (first, near, far)) rfl c2) H'' w.g.i _ fun x H6 Hi7 g c3 => g_three c3 g.i fun fv nv rv d1 d2 d3 => ?_
    cases d1
    replace w := w.on g
    refine q_oP w (EvF.toC (ef_nil (c := cL cI))) fun lv0 Hi8 H7 w e8 hl0 => ?_
    have em : Ex Hs Hi8 := (((((e2.trans e3).trans eb).trans ei).trans e').trans g.s).trans e8
    refine q_oForE (c := cL cI) (p := fun ls => OkLines P ls) w (EvF.toP (call_lines (P := P) (m := 2 + W / 8 % 4) (ns := ns.take 20) ?_ (ev_var rfl) (ev_add ev_c (ev_mod (ev_div (ev_var rfl) ev_c (d8 _)) ev_c (by decide))) (fun x hx => hb x (List.mem_of_mem_take hx)) (by omega)) ?_) fun all Hi9 H8 te' okl w e9 hall => ?_
    · exact EvP.imp (EvF.toC (ef_toS (n := 20) (ec_var rfl (Mo.mo em hu)) ev_c)) fun v H _ h => cS_of h
    · rintro p xs Hs2 _ ⟨ls, px, ok, _⟩ hp
      exact ⟨ls, ok, ⟨p, xs, rfl, upd_same, paired_mo (Ex.new hp) px⟩⟩
    have ed2 := Mo.mo (e8.trans e9) d2
    have ed3 := Mo.mo (e8.trans e9) d3
    refine q_oFor w (ei_list hall) mo_c' (fun pre2 σ' _ Hi' => ∃ lv acc y12 y13 y14, σ' = [some u, some (.int W), some (.int P), some hv, some mv, some pv, some (.int (wy : Int)), some cv, some (.bl first), some nv, some rv, some lv, y12, y13, y14] ∧ cL (cL cI) acc Hi' lv ∧ acc.length ≤ pre2.length ∧ (∀ l ∈ acc, OkLine P l) ∧ Kept P acc near far first)
      (fun _ e10 => ⟨lv0, [], y12, y13, y14, rfl, Mo.mo (e9.trans e10) hl0, Nat.le_refl _, (fun _ h => nomatch h), kept_nil P near far first⟩) ?_ ?_
    · rintro Hb2 eb2 pre2 l post2 x2 σ2 Ho2 Hi10 Hi11 H10 hsrc2 ⟨lv, acc, z12, z13, z14, rfl, hacc, hlen, hok, hk⟩ ei2 w e11 cl
      have hlen2 : acc.length < 60 := by
        have := okl.few
        rw [hsrc2, List.length_append, List.length_cons] at this
        omega
      have okl1 : OkLine P l := okl.ok l (by rw [hsrc2]; simp)
      refine q_oP w (EvF.toC (ef_cat (d := cL cI) (m := [l]) (ec_var rfl (Mo.mo e11 hacc)) (ec_lst (ecs_cons (ec_var rfl cl) ecs_nil) (show 1 ≤ 40000 by decide)) (by rw [List.length_singleton]; omega))) fun sv Hi12 H11 w e12 hs2 => ?_
      have B : Board P (acc ++ [l]) near far := ⟨⟨hP1, hP2⟩, ⟨by rw [List.length_append, List.length_singleton]; omega, fun l' hl' => (List.mem_append.mp hl').elim (hok l') fun z => (List.mem_singleton.mp z) ▸ okl1⟩, hbd⟩
      have em2 := ((eb2.trans ei2).trans e11).trans e12
      refine q_oP w (call_sure (as_play (ev_var rfl) (ec_var rfl hs2) (ec_var rfl (Mo.mo em2 ed2)) (ec_var rfl (Mo.mo em2 ed3)) B)) fun dv Hi13 H12 w e13 hsd => ?_
      have hsd' := w.m hsd
      have hst : ∀ b, Kept P (acc ++ [l]) near far first ∨ (decide (total P (acc ++ [l]) near far < one P) && (first || decide (2 * total P (acc ++ [l]) near far < one P))) = b → b = true → Kept P (acc ++ [l]) near far first := by
        rintro b (z | z) hb
        · exact z
        · subst hb
          rw [Bool.and_eq_true, Bool.or_eq_true, decide_eq_true_eq, decide_eq_true_eq] at z
          unfold Kept
          cases first with
          | true => exact z.1
          | false => exact z.2.resolve_left (by decide)
      refine s_oWhen w (et_and (et_B (evB_c (ep_fst (c := cB) (d := cB) (ec_var rfl hsd') ev_c))) fun _ => et_or (et_B (ev_var rfl)) fun _ => et_B (evB_c (ep_snd (c := cB) (d := cB) (ec_var rfl hsd') ev_c))) (fun hc H13 w => ?_) (fun hc H13 w => ?_)
      · refine s_oV w (ev_var rfl) fun H14 w => ⟨Ho2, Hi13, ⟨sv, acc ++ [l], some x2, some sv, some dv, rfl, Mo.mo e13 hs2, by rw [List.length_append, List.length_append]; simp; exact hlen, B.l.ok, hst _ (.inr rfl) hc⟩, ((ei2.trans e11).trans e12).trans e13, w⟩
      · exact ⟨Ho2, Hi13, ⟨lv, acc, some x2, some sv, some dv, rfl, Mo.mo ((e11.trans e12).trans e13) hacc, by rw [List.length_append]; omega, hok, hk⟩, ((ei2.trans e11).trans e12).trans e13, w⟩
    · rintro σ2 Ho2 Hi10 H10 ⟨lv, acc, z12, z13, z14, rfl, hacc, hlen, hok, hk⟩ ei2 w
      have hf := okl.few
      have B : Board P acc near far := ⟨⟨hP1, hP2⟩, ⟨by omega, hok⟩, hbd⟩
      refine s_oWhen w (b := false) (EvT_to (et_not (et_B (call_holds (EvC.lift (ec_var rfl (Mo.mo (e9.trans ei2) (Mo.mo em hu))) w.ik) (ev_var rfl) (ec_var rfl (w.m hacc)) (ec_var rfl (w.m (Mo.mo ei2 ed2))) (ec_var rfl (w.m (Mo.mo ei2 ed3))) (ev_var rfl) (ev_mod (ev_add (ev_var rfl) (ev_var rfl)) ev_c (by decide)) hb B (kept_held hk)))) rfl) (fun z => nomatch z) fun _ H11 w => ?_
      exact ⟨Ho2, Hi10, ⟨_, _, _, _, _, _, _, _, _, rfl⟩, ((((ei.trans e').trans g.s).trans e8).trans e9).trans ei2, w⟩
  · rintro σ' Ho' Hi' H' ⟨y6, y7, y8, y9, y10, y11, y12, y13, y14, rfl⟩ ei w
    have B1 : Board 2 [[0, 1]] [] [] := board_of (by decide +kernel)
    have B2 : Board 2 [[0], [1]] [] [] := board_of (by decide +kernel)
    refine s_oRetV w (ev_to (ev_andV (ev_eqC (c := cP cB cB) (a' := (true, true)) (call_sure (as_play (P := 2) (ls := [[0, 1]]) (hs := []) (ms := []) ev_c (by repeat (first | exact ecs_nil | refine ecs_cons ?_ ?_ | exact c_evI ev_c | exact ec_none | refine ec_lst ?_ (by decide) | refine ep_pair ?_ ?_ | refine ec_some ?_)) (by repeat (first | exact ecs_nil | refine ecs_cons ?_ ?_ | exact c_evI ev_c | exact ec_none | refine ec_lst ?_ (by decide) | refine ep_pair ?_ ?_ | refine ec_some ?_)) (by repeat (first | exact ecs_nil | refine ecs_cons ?_ ?_ | exact c_evI ev_c | exact ec_none | refine ec_lst ?_ (by decide) | refine ep_pair ?_ ?_ | refine ec_some ?_)) B1)) (ep_pair (c_evB ev_c) (c_evB ev_c))) fun _ => ev_eqC (c := cP cB cB) (a' := (false, false)) (call_sure (as_play (P := 2) (ls := [[0], [1]]) (hs := []) (ms := []) ev_c (by repeat (first | exact ecs_nil | refine ecs_cons ?_ ?_ | exact c_evI ev_c | exact ec_none | refine ec_lst ?_ (by decide) | refine ep_pair ?_ ?_ | refine ec_some ?_)) (by repeat (first | exact ecs_nil | refine ecs_cons ?_ ?_ | exact c_evI ev_c | exact ec_none | refine ec_lst ?_ (by decide) | refine ep_pair ?_ ?_ | refine ec_some ?_)) (by repeat (first | exact ecs_nil | refine ecs_cons ?_ ?_ | exact c_evI ev_c | exact ec_none | refine ec_lst ?_ (by decide) | refine ep_pair ?_ ?_ | refine ec_some ?_)) B2)) (ep_pair (c_evB ev_c) (c_evB ev_c))) (by decide +kernel)) k
end
end K02

namespace K02
open PySem PySem.Spec PyProof.Rows L2 LH
def topS (i : Nat) : Stmt := PySem.Challenge.pw_linehold_k02_whole_held.main.body.getD i (.Pass ⟨0, 0, 0, 0⟩)
/-- the module's names that the text reads -/
structure Tb (mg : Str → Option Value) : Prop where
  MOST_LINES : ∃ t, mg "MOST_LINES" = some (.int 60 t)
  MOST_PLACES : ∃ t, mg "MOST_PLACES" = some (.int 60 t)
  all : mg "all" = none
  any : mg "any" = none
  bool : mg "bool" = none
  enumerate : mg "enumerate" = none
  gcd : mg "gcd" = some (.builtin "math.gcd")
  int : mg "int" = none
  isinstance : mg "isinstance" = none
  len : mg "len" = none
  list : mg "list" = none
  max : mg "max" = none
  min : mg "min" = none
  range : mg "range" = none
  set : mg "set" = none
  sorted : mg "sorted" = none
  sum : mg "sum" = none
  zip : mg "zip" = none
section
variable {P : Program} {mg : Str → Option Value} {base : Heap} {c : Cn} {f : Addr} {fd : FuncData}
abbrev s_is_whole : Stmt := topS 14
abbrev N_is_whole : List Str := ["value"]
theorem sc_is_whole : FnScope N_is_whole ["value"] (C8.fnScope s_is_whole) := C8.fnScope_by (by decide +kernel)
theorem ok_is_whole (F : C8.Def c.K mg "_is_whole" s_is_whole f fd) (b : Binds c.K fd ["value"] []) (T : Tb mg) : C8.Cal P c.w c.K mg base 1 "_is_whole" (sp_is_whole c) [] :=
  C8.cal0 F b .nil sc_is_whole (fun vs H Q E h => ln_is_whole h) (fun cdv A outer s H vs Q E hr h => ⟨t_is_whole c, by exact (pss_one (ps_ret (pe_and (pe_callB call_isi (by rfl) T.isinstance LH.b_isinstance (pa_cons (pv 0) (pa_cons (pe_bltn (by rfl) T.int LH.b_int rfl) pa_nil))) (pe_one (pe_not (pe_callB call_isi (by rfl) T.isinstance LH.b_isinstance (pa_cons (pv 0) (pa_cons (pe_bltn (by rfl) T.bool LH.b_bool rfl) pa_nil)))))))), rd_is_whole h⟩)
abbrev s_free_places : Stmt := topS 22
abbrev N_free_places : List Str := ["places", "his", "mine", "place"]
theorem sc_free_places : FnScope N_free_places ["places", "his", "mine"] (C8.fnScope s_free_places) := C8.fnScope_by (by decide +kernel)
theorem ok_free_places (F : C8.Def c.K mg "free_places" s_free_places f fd) (b : Binds c.K fd ["places", "his", "mine"] []) (T : Tb mg) : C8.Cal P c.w c.K mg base 1 "free_places" (sp_free_places c) [] :=
  C8.cal0 F b .nil sc_free_places (fun vs H Q E h => ln_free_places h) (fun cdv A outer s H vs Q E hr h => ⟨t_free_places c, by exact (pss_one (ps_ret (pe_lc (own := [("place", 3)]) (g := (gName 3)) (tt := (tAnd (tTest (tOp (rIn c.K true) (tVar 3) (tVar 1))) (tTest (tOp (rIn c.K true) (tVar 3) (tVar 2))))) (te := (tVar 3)) rfl sc_free_places.nd (pi_range1 (by rfl) T.range (pa_cons (pv 0) pa_nil)) (blkOk_by (by kernel_rfl)) (fun _ _ _ _ _ => (pg_name (i := 3) sc_free_places.nd rfl (.inl rfl))) (fun _ _ _ _ _ => (pts_one (PW.pt (pw_and (pt_cmpR op_notIn_seq (pv 3) (pv 1) (by rfl)) (pw_and1 (pt_cmpR op_notIn_seq (pv 3) (pv 2) (by rfl))))))) (fun _ _ _ _ _ => (pv 3))))), rd_free_places h⟩)
abbrev s_one : Stmt := topS 23
abbrev N_one : List Str := ["places"]
theorem sc_one : FnScope N_one ["places"] (C8.fnScope s_one) := C8.fnScope_by (by decide +kernel)
theorem ok_one (F : C8.Def c.K mg "_one" s_one f fd) (b : Binds c.K fd ["places"] []) (T : Tb mg) : C8.Cal P c.w c.K mg base 1 "_one" (sp_one c) [] :=
  C8.cal0 F b .nil sc_one (fun vs H Q E h => ln_one h) (fun cdv A outer s H vs Q E hr h => ⟨t_one c, by exact (pss_one (ps_ret (pe_op op_shlI pe_int (pv 0)))), rd_one h⟩)
abbrev s_in_lowest_terms : Stmt := topS 24
abbrev N_in_lowest_terms : List Str := ["units", "one", "common"]
theorem sc_in_lowest_terms : FnScope N_in_lowest_terms ["units", "one"] (C8.fnScope s_in_lowest_terms) := C8.fnScope_by (by decide +kernel)
theorem ok_in_lowest_terms (F : C8.Def c.K mg "_in_lowest_terms" s_in_lowest_terms f fd) (b : Binds c.K fd ["units", "one"] []) (T : Tb mg) : C8.Cal P c.w c.K mg base 1 "_in_lowest_terms" (sp_in_lowest_terms c) [] :=
  C8.cal0 F b .nil sc_in_lowest_terms (fun vs H Q E h => ln_in_lowest_terms h) (fun cdv A outer s H vs Q E hr h => ⟨t_in_lowest_terms c, by exact (pss_cons (ps_set (i := 2) sc_in_lowest_terms.nd rfl (.inl rfl) (pe_callBfun cr_gcd (by rfl) T.gcd (pa_cons (pv 0) (pa_cons (pv 1) pa_nil)))) (pss_one (ps_ret (pe_tup (pa_cons (pe_op op_divI (pv 0) (pv 2)) (pa_cons (pe_op op_divI (pv 1) (pv 2)) pa_nil)))))), rd_in_lowest_terms h⟩)
abbrev s_missing : Stmt := topS 25
abbrev N_missing : List Str := ["line", "his", "place"]
theorem sc_missing : FnScope N_missing ["line", "his"] (C8.fnScope s_missing) := C8.fnScope_by (by decide +kernel)
theorem ok_missing (F : C8.Def c.K mg "_missing" s_missing f fd) (b : Binds c.K fd ["line", "his"] []) (T : Tb mg) : C8.Cal P c.w c.K mg base 1 "_missing" (sp_missing c) [] :=
  C8.cal0 F b .nil sc_missing (fun vs H Q E h => ln_missing h) (fun cdv A outer s H vs Q E hr h => ⟨t_missing c, by exact (pss_one (ps_ret (pe_callB call_len_seq (by rfl) T.len LH.b_len (pa_cons (pe_lc (own := [("place", 2)]) (g := (gName 2)) (tt := (tTest (tOp (rIn c.K true) (tVar 2) (tVar 1)))) (te := (tVar 2)) rfl sc_missing.nd (pi_list (pv 0)) (blkOk_by (by kernel_rfl)) (fun _ _ _ _ _ => (pg_name (i := 2) sc_missing.nd rfl (.inl rfl))) (fun _ _ _ _ _ => (pts_one (pt_cmpR op_notIn_seq (pv 2) (pv 1) (by rfl)))) (fun _ _ _ _ _ => (pv 2))) pa_nil)))), rd_missing h⟩)
abbrev s_law_number : Stmt := topS 31
abbrev N_law_number : List Str := ["_law_cell", "_law_at", "_law_whole", "_law_mixed", "_law_more"]
theorem sc_law_number : FnScope N_law_number ["_law_cell", "_law_at", "_law_whole"] (C8.fnScope s_law_number) := C8.fnScope_by (by decide +kernel)
theorem ok_law_number (F : C8.Def c.K mg "_law_number" s_law_number f fd) (b : Binds c.K fd ["_law_cell", "_law_at", "_law_whole"] []) (T : Tb mg) : C8.Cal P c.w c.K mg base 1 "_law_number" (sp_law_number c) [] :=
  C8.cal0 F b .nil sc_law_number (fun vs H Q E h => ln_law_number h) (fun cdv A outer s H vs Q E hr h => ⟨t_law_number c, by exact (pss_cons (ps_if (pt_cmpR op_geI (pv 0) (pe_op op_powI pe_int pe_int) (nomark _)) (pss_one (ps_ret (pe_op op_divI (pv 0) (pe_op op_addI pe_int (pe_op op_modI (pv 1) pe_int))))) pss_nil) (pss_cons (ps_set (i := 3) sc_law_number.nd rfl (.inl rfl) (pe_op op_modI (pe_op op_addI (pe_op op_mulI (pe_op op_addI (pv 0) (pe_op op_mulI pe_int (pv 1))) pe_int) (pv 2)) pe_int)) (pss_cons (ps_set (i := 4) sc_law_number.nd rfl (.inl rfl) (pe_op op_mulI (pv 3) (pe_op op_addI (pe_op op_addI (pv 0) (pe_op op_mulI pe_int (pv 1))) pe_int))) (pss_one (ps_ret (pe_op op_divI (pe_op op_mulI (pe_op op_mulI (pv 4) (pe_op op_addI (pe_op op_addI (pv 3) (pv 0)) pe_int)) (pe_op op_addI (pe_op op_mulI (pv 3) (pv 3)) pe_int)) (pe_op op_addI pe_int (pv 1)))))))), rd_law_number h⟩)
abbrev s_law_places : Stmt := topS 32
abbrev N_law_places : List Str := ["_law_script", "_law_whole"]
theorem sc_law_places : FnScope N_law_places ["_law_script"] (C8.fnScope s_law_places) := C8.fnScope_by (by decide +kernel)
theorem ok_law_places (F : C8.Def c.K mg "_law_places" s_law_places f fd) (b : Binds c.K fd ["_law_script"] []) (T : Tb mg) : C8.Cal P c.w c.K mg base 1 "_law_places" (sp_law_places c) [] :=
  C8.cal0 F b .nil sc_law_places (fun vs H Q E h => ln_law_places h) (fun cdv A outer s H vs Q E hr h => ⟨t_law_places c, by exact (pss_cons (ps_set (i := 1) sc_law_places.nd rfl (.inl rfl) (pe_callB (cr_sum rfl) (by rfl) T.sum LH.b_sum (pa_cons (pe_slice sl_list (pv 0) po_none (po_some pe_int)) pa_nil))) (pss_one (ps_ret (pe_ix ix_seq (pe_tup (pa_cons (pe_op op_addI pe_int (pe_op op_modI (pe_op op_divI (pv 1) pe_int) pe_int)) (pa_cons pe_int (pa_cons pe_int (pa_cons pe_int pa_nil))))) (pe_op op_modI (pv 1) pe_int) (fun _ _ => rfl))))), rd_law_places h⟩)
abbrev s_law_sum : Stmt := topS 35
abbrev N_law_sum : List Str := ["_law_some", "_law_above", "_law_below", "_law_power_here"]
theorem sc_law_sum : FnScope N_law_sum ["_law_some"] (C8.fnScope s_law_sum) := C8.fnScope_by (by decide +kernel)
theorem ok_law_sum (F : C8.Def c.K mg "_law_sum" s_law_sum f fd) (b : Binds c.K fd ["_law_some"] []) (T : Tb mg) : C8.Cal P c.w c.K mg base 1 "_law_sum" (sp_law_sum c) [] :=
  C8.cal0 F b .nil sc_law_sum (fun vs H Q E h => ln_law_sum h) (fun cdv A outer s H vs Q E hr h => ⟨t_law_sum c, by exact (pss_cons (ps_asg (pe_tup (pa_cons pe_int (pa_cons pe_int pa_nil))) (pg_tup rfl (pgs_cons (pg_name (i := 1) sc_law_sum.nd rfl (.inl rfl)) (pgs_cons (pg_name (i := 2) sc_law_sum.nd rfl (.inl rfl)) pgs_nil)))) (pss_cons (ps_for PassesOwn.never rfl (pi_list (pv 0)) (pg_name (i := 3) sc_law_sum.nd rfl (.inl rfl)) (pss_one (ps_set (i := 2) sc_law_sum.nd rfl (.inl rfl) (pe_callB (call_max2 rfl) (by rfl) T.max LH.b_max (pa_cons (pv 2) (pa_cons (pv 3) pa_nil)))))) (pss_cons (ps_for PassesOwn.never rfl (pi_list (pv 0)) (pg_name (i := 3) sc_law_sum.nd rfl (.inl rfl)) (pss_one (ps_set (i := 1) sc_law_sum.nd rfl (.inl rfl) (pe_op op_addI (pv 1) (pe_op op_divI (pv 2) (pv 3)))))) (pss_cons (ps_while PassesOwn.never (PW.pt (pw_and (pt_cmpR (op_eqA hr.units) (pe_op op_modI (pv 1) pe_int) pe_int (nomark _)) (pw_and1 (pt_cmpR op_gtI (pv 2) pe_int (nomark _))))) (pss_one (ps_par (i := 1) (j := 2) rfl sc_law_sum.nd rfl rfl (by decide) rfl rfl (pa_cons (pe_op op_divI (pv 1) pe_int) (pa_cons (pe_op op_divI (pv 2) pe_int) pa_nil)) (by rfl)))) (pss_one (ps_ret (pe_tup (pa_cons (pv 1) (pa_cons (pv 2) pa_nil))))))))), rd_law_sum h⟩)
abbrev s_law_power : Stmt := topS 36
abbrev N_law_power : List Str := ["_law_many", "_law_found", "_law_time"]
theorem sc_law_power : FnScope N_law_power ["_law_many"] (C8.fnScope s_law_power) := C8.fnScope_by (by decide +kernel)
theorem ok_law_power (F : C8.Def c.K mg "_law_power" s_law_power f fd) (b : Binds c.K fd ["_law_many"] []) (T : Tb mg) : C8.Cal P c.w c.K mg base 1 "_law_power" (sp_law_power c) [] :=
  C8.cal0 F b .nil sc_law_power (fun vs H Q E h => ln_law_power h) (fun cdv A outer s H vs Q E hr h => ⟨t_law_power c, by exact (pss_cons (ps_set (i := 1) sc_law_power.nd rfl (.inl rfl) pe_int) (pss_cons (ps_for PassesOwn.never rfl (pi_range1 (by rfl) T.range (pa_cons (pv 0) pa_nil)) (pg_name (i := 2) sc_law_power.nd rfl (.inl rfl)) (pss_one (ps_set (i := 1) sc_law_power.nd rfl (.inl rfl) (pe_op op_mulI pe_int (pv 1))))) (pss_one (ps_ret (pv 1))))), rd_law_power h⟩)
abbrev s_law_full : Stmt := topS 38
abbrev N_law_full : List Str := ["_law_lines_here", "_law_his_here", "_law_at", "_law_line", "_law_place"]
theorem sc_law_full : FnScope N_law_full ["_law_lines_here", "_law_his_here"] (C8.fnScope s_law_full) := C8.fnScope_by (by decide +kernel)
theorem ok_law_full (F : C8.Def c.K mg "_law_full" s_law_full f fd) (b : Binds c.K fd ["_law_lines_here", "_law_his_here"] []) (T : Tb mg) : C8.Cal P c.w c.K mg base 1 "_law_full" (sp_law_full c) [] :=
  C8.cal0 F b .nil sc_law_full (fun vs H Q E h => ln_law_full h) (fun cdv A outer s H vs Q E hr h => ⟨t_law_full c, by exact (pss_one (ps_ret (pe_lc (own := [("_law_at", 2), ("_law_line", 3)]) (g := (gTup c.K 2 (gCons (gName 2) (gCons (gName 3) gNil)))) (tt := (tB (tCB (rAll c.K) (tCons (tLc (iList c.K (tVar 3)) (gName 4) tYes (tOp (rIn c.K false) (tVar 4) (tVar 1)) [4]) tNil)))) (te := (tVar 2)) rfl sc_law_full.nd (pi_enum (by rfl) T.enumerate (pa_cons (pv 0) pa_nil)) (blkOk_by (by kernel_rfl)) (fun _ _ _ _ _ => (pg_tup rfl (pgs_cons (pg_name (i := 2) sc_law_full.nd rfl (.inl rfl)) (pgs_cons (pg_name (i := 3) sc_law_full.nd rfl (.inl rfl)) pgs_nil)))) (fun _ _ _ _ _ => (pts_one (pt_val (pe_callB (cr_all rfl) (by rfl) T.all LH.b_all (pa_cons (pe_lc (own := [("_law_place", 4)]) (g := (gName 4)) (tt := tYes) (te := (tOp (rIn c.K false) (tVar 4) (tVar 1))) rfl sc_law_full.nd (pi_list (pv 3)) (blkOk_by (by kernel_rfl)) (fun _ _ _ _ _ => (pg_name (i := 4) sc_law_full.nd rfl (.inl rfl))) (fun _ _ _ _ _ => pts_nil) (fun _ _ _ _ _ => (pe_cmpR op_in_seq (pv 4) (pv 1) (by rfl)))) pa_nil))))) (fun _ _ _ _ _ => (pv 2))))), rd_law_full h⟩)
abbrev s_check_places : Stmt := topS 10
abbrev N_check_places : List Str := ["places"]
theorem sc_check_places : FnScope N_check_places ["places"] (C8.fnScope s_check_places) := C8.fnScope_by (by decide +kernel)
theorem ok_check_places (F : C8.Def c.K mg "check_places" s_check_places f fd) (b : Binds c.K fd ["places"] []) (T : Tb mg) (G_is_whole : C8.Cal P c.w c.K mg base 1 "_is_whole" (sp_is_whole c) []) : C8.Cal P c.w c.K mg base 2 "check_places" (sp_check_places c) [] :=
  C8.cal0 F b .nil sc_check_places (fun vs H Q E h => ln_check_places h) (fun cdv A outer s H vs Q E hr h => ⟨t_check_places c, by exact (pss_one (ps_if (pt_not (PW.pt (pw_and (pt_val (C8.pe_c G_is_whole hr (by decide) (by rfl) (pa_cons (pv 0) pa_nil))) (pw_and1 (pt_chain op_leI op_leI pe_int (pv 0) (LH.pe_k (by rfl) T.MOST_PLACES)))))) (pss_one ps_never) pss_nil)), rd_check_places h⟩)
abbrev s_is_count : Stmt := topS 13
abbrev N_is_count : List Str := ["many", "value"]
theorem sc_is_count : FnScope N_is_count ["many", "value"] (C8.fnScope s_is_count) := C8.fnScope_by (by decide +kernel)
theorem ok_is_count (F : C8.Def c.K mg "is_count" s_is_count f fd) (b : Binds c.K fd ["many", "value"] []) (T : Tb mg) (G_is_whole : C8.Cal P c.w c.K mg base 1 "_is_whole" (sp_is_whole c) []) : C8.Cal P c.w c.K mg base 2 "is_count" (sp_is_count c) [] :=
  C8.cal0 F b .nil sc_is_count (fun vs H Q E h => ln_is_count h) (fun cdv A outer s H vs Q E hr h => ⟨t_is_count c, by exact (pss_one (ps_ret (pe_and (C8.pe_c G_is_whole hr (by decide) (by rfl) (pa_cons (pv 1) pa_nil)) (pe_one (pe_chain op_leI op_ltI pe_int (pv 1) (pv 0)))))), rd_is_count h⟩)
abbrev s_units_of_line : Stmt := topS 26
abbrev N_units_of_line : List Str := ["places", "line", "his", "mine", "place"]
theorem sc_units_of_line : FnScope N_units_of_line ["places", "line", "his", "mine"] (C8.fnScope s_units_of_line) := C8.fnScope_by (by decide +kernel)
theorem ok_units_of_line (F : C8.Def c.K mg "_units_of_line" s_units_of_line f fd) (b : Binds c.K fd ["places", "line", "his", "mine"] []) (T : Tb mg) (G_missing : C8.Cal P c.w c.K mg base 1 "_missing" (sp_missing c) []) : C8.Cal P c.w c.K mg base 2 "_units_of_line" (sp_units_of_line c) [] :=
  C8.cal0 F b .nil sc_units_of_line (fun vs H Q E h => ln_units_of_line h) (fun cdv A outer s H vs Q E hr h => ⟨t_units_of_line c, by exact (pss_cons (ps_if (pt_val (pe_callB (cr_any rfl) (by rfl) T.any LH.b_any (pa_cons (pe_lc (own := [("place", 4)]) (g := (gName 4)) (tt := tYes) (te := (tOp (rIn c.K false) (tVar 4) (tVar 3))) rfl sc_units_of_line.nd (pi_list (pv 1)) (blkOk_by (by kernel_rfl)) (fun _ _ _ _ _ => (pg_name (i := 4) sc_units_of_line.nd rfl (.inl rfl))) (fun _ _ _ _ _ => pts_nil) (fun _ _ _ _ _ => (pe_cmpR op_in_seq (pv 4) (pv 3) (by rfl)))) pa_nil))) (pss_one (ps_ret pe_int)) pss_nil) (pss_one (ps_ret (pe_op op_shlI pe_int (pe_op op_subI (pv 0) (C8.pe_c G_missing hr (by decide) (by rfl) (pa_cons (pv 1) (pa_cons (pv 2) pa_nil)))))))), rd_units_of_line h⟩)
abbrev s_law_lines : Stmt := topS 33
abbrev N_law_lines : List Str := ["_law_script", "_law_places_here", "_law_least", "_law_cells", "_law_found", "_law_at", "_law_cell", "_law_number_here", "_law_size", "_law_line", "_law_k"]
theorem sc_law_lines : FnScope N_law_lines ["_law_script", "_law_places_here", "_law_least"] (C8.fnScope s_law_lines) := C8.fnScope_by (by decide +kernel)
theorem ok_law_lines (F : C8.Def c.K mg "_law_lines" s_law_lines f fd) (b : Binds c.K fd ["_law_script", "_law_places_here", "_law_least"] []) (T : Tb mg) (G_law_number : C8.Cal P c.w c.K mg base 1 "_law_number" (sp_law_number c) []) : C8.Cal P c.w c.K mg base 2 "_law_lines" (sp_law_lines c) [] :=
  C8.cal0 F b .nil sc_law_lines (fun vs H Q E h => ln_law_lines h) (fun cdv A outer s H vs Q E hr h => ⟨t_law_lines c, by exact (pss_cons (ps_set (i := 3) sc_law_lines.nd rfl (.inl rfl) (pe_slice sl_list (pv 0) po_none (po_some pe_int))) (pss_cons (ps_set (i := 4) sc_law_lines.nd rfl (.inl rfl) (pe_lst pa_nil)) (pss_cons (ps_for PassesOwn.never rfl (pi_enum (by rfl) T.enumerate (pa_cons (pv 3) pa_nil)) (pg_tup rfl (pgs_cons (pg_name (i := 5) sc_law_lines.nd rfl (.inl rfl)) (pgs_cons (pg_name (i := 6) sc_law_lines.nd rfl (.inl rfl)) pgs_nil))) (pss_cons (ps_set (i := 7) sc_law_lines.nd rfl (.inl rfl) (C8.pe_c G_law_number hr (by decide) (by rfl) (pa_cons (pv 6) (pa_cons (pv 5) (pa_cons (pe_callB call_len_seq (by rfl) T.len LH.b_len (pa_cons (pv 3) pa_nil)) pa_nil))))) (pss_cons (ps_set (i := 8) sc_law_lines.nd rfl (.inl rfl) (pe_op op_addI (pe_op op_addI (pv 2) (pe_op op_modI (pv 7) pe_int)) (pe_ifExp (pt_cmpR (op_eqA hr.units) (pe_op op_modI (pe_op op_divI (pv 7) pe_int) pe_int) pe_int (nomark _)) (pe_op op_modI (pe_op op_divI (pv 7) pe_int) pe_int) pe_int))) (pss_cons (ps_set (i := 9) sc_law_lines.nd rfl (.inl rfl) (pe_lst pa_nil)) (pss_cons (ps_for PassesOwn.never rfl (pi_range1 (by rfl) T.range (pa_cons (pv 8) pa_nil)) (pg_name (i := 10) sc_law_lines.nd rfl (.inl rfl)) (pss_cons (ps_expr (pe_bm PySem.F.plainAttrs_list PySem.F.slot_list_append PySem.F.type_list_append mt_append (pv 9) (pa_cons (pe_op op_modI (pe_op op_divI (pv 7) (pe_op op_addI pe_int (pv 10))) (pv 1)) pa_nil))) (pss_one (ps_set (i := 7) sc_law_lines.nd rfl (.inl rfl) (pe_op op_addI (pe_op op_divI (pv 7) pe_int) (pe_op op_mulI pe_int (pv 10))))))) (pss_one (ps_expr (pe_bm PySem.F.plainAttrs_list PySem.F.slot_list_append PySem.F.type_list_append mt_append (pv 4) (pa_cons (pe_callB (cr_sortedSet rfl) (by rfl) T.sorted LH.b_sorted (pa_cons (pe_callTy (cr_setL rfl) (by rfl) T.set LH.b_set (pa_cons (pv 9) pa_nil)) pa_nil)) pa_nil))))))))) (pss_one (ps_ret (pv 4)))))), rd_law_lines h⟩)
abbrev s_law_takings : Stmt := topS 34
abbrev N_law_takings : List Str := ["_law_script", "_law_places_here", "_law_by", "_law_cells", "_law_whole", "_law_his_here", "_law_mine", "_law_k", "_law_place"]
theorem sc_law_takings : FnScope N_law_takings ["_law_script", "_law_places_here", "_law_by"] (C8.fnScope s_law_takings) := C8.fnScope_by (by decide +kernel)
theorem ok_law_takings (F : C8.Def c.K mg "_law_takings" s_law_takings f fd) (b : Binds c.K fd ["_law_script", "_law_places_here", "_law_by"] []) (T : Tb mg) (G_law_number : C8.Cal P c.w c.K mg base 1 "_law_number" (sp_law_number c) []) : C8.Cal P c.w c.K mg base 2 "_law_takings" (sp_law_takings c) [] :=
  C8.cal0 F b .nil sc_law_takings (fun vs H Q E h => ln_law_takings h) (fun cdv A outer s H vs Q E hr h => ⟨t_law_takings c, by exact (pss_cons (ps_set (i := 3) sc_law_takings.nd rfl (.inl rfl) (pe_ifExp (pt_cmpR (op_neA hr.units) (pv 0) (pe_lst pa_nil) (nomark _)) (pe_slice sl_list (pv 0) po_none (po_some pe_int)) (pe_lst (pa_cons pe_int pa_nil)))) (pss_cons (ps_set (i := 4) sc_law_takings.nd rfl (.inl rfl) (pe_callB (cr_sum rfl) (by rfl) T.sum LH.b_sum (pa_cons (pv 3) pa_nil))) (pss_cons (ps_par (i := 5) (j := 6) rfl sc_law_takings.nd rfl rfl (by decide) rfl rfl (pa_cons (pe_lst pa_nil) (pa_cons (pe_lst pa_nil) pa_nil)) (by rfl)) (pss_cons (ps_for PassesOwn.never rfl (pi_range1 (by rfl) T.range (pa_cons (pe_op op_modI (pe_op op_divI (pv 4) pe_int) (pe_op op_addI (pv 1) pe_int)) pa_nil)) (pg_name (i := 7) sc_law_takings.nd rfl (.inl rfl)) (pss_cons (ps_set (i := 8) sc_law_takings.nd rfl (.inl rfl) (pe_op op_modI (pe_op op_divI (C8.pe_c G_law_number hr (by decide) (by rfl) (pa_cons (pe_ix ix_seq (pv 3) (pe_op op_modI (pv 7) (pe_callB call_len_seq (by rfl) T.len LH.b_len (pa_cons (pv 3) pa_nil))) (fun _ _ => rfl)) (pa_cons (pe_op op_addI (pv 7) (pv 2)) (pa_cons (pe_callB call_len_seq (by rfl) T.len LH.b_len (pa_cons (pv 3) pa_nil)) pa_nil)))) pe_int) (pv 1))) (pss_one (ps_if (pt_cmpR op_notIn_seq (pv 8) (pe_op op_catL (pv 5) (pv 6)) (by rfl)) (pss_one (ps_if (pt_cmpR (op_eqA hr.units) (pe_op op_modI (pe_op op_addI (pv 7) (pv 2)) pe_int) pe_int (nomark _)) (pss_one (ps_expr (pe_bm PySem.F.plainAttrs_list PySem.F.slot_list_append PySem.F.type_list_append mt_append (pv 5) (pa_cons (pv 8) pa_nil)))) (pss_one (ps_expr (pe_bm PySem.F.plainAttrs_list PySem.F.slot_list_append PySem.F.type_list_append mt_append (pv 6) (pa_cons (pv 8) pa_nil)))))) pss_nil)))) (pss_one (ps_ret (pe_tup (pa_cons (pv 5) (pa_cons (pv 6) pa_nil))))))))), rd_law_takings h⟩)
abbrev s_law_weights : Stmt := topS 37
abbrev N_law_weights : List Str := ["_law_lines_here", "_law_his_here", "_law_mine", "_law_found", "_law_line", "_law_place", "_law_free"]
theorem sc_law_weights : FnScope N_law_weights ["_law_lines_here", "_law_his_here", "_law_mine"] (C8.fnScope s_law_weights) := C8.fnScope_by (by decide +kernel)
theorem ok_law_weights (F : C8.Def c.K mg "_law_weights" s_law_weights f fd) (b : Binds c.K fd ["_law_lines_here", "_law_his_here", "_law_mine"] []) (T : Tb mg) (G_law_power : C8.Cal P c.w c.K mg base 1 "_law_power" (sp_law_power c) []) : C8.Cal P c.w c.K mg base 2 "_law_weights" (sp_law_weights c) [] :=
  C8.cal0 F b .nil sc_law_weights (fun vs H Q E h => ln_law_weights h) (fun cdv A outer s H vs Q E hr h => ⟨t_law_weights c, by exact (pss_cons (ps_set (i := 3) sc_law_weights.nd rfl (.inl rfl) (pe_lst pa_nil)) (pss_cons (ps_for PassesOwn.never rfl (pi_list (pv 0)) (pg_name (i := 4) sc_law_weights.nd rfl (.inl rfl)) (pss_one (ps_if (pt_not (pt_val (pe_callB (cr_any rfl) (by rfl) T.any LH.b_any (pa_cons (pe_lc (own := [("_law_place", 5)]) (g := (gName 5)) (tt := tYes) (te := (tOp (rIn c.K false) (tVar 5) (tVar 2))) rfl sc_law_weights.nd (pi_list (pv 4)) (blkOk_by (by kernel_rfl)) (fun _ _ _ _ _ => (pg_name (i := 5) sc_law_weights.nd rfl (.inl rfl))) (fun _ _ _ _ _ => pts_nil) (fun _ _ _ _ _ => (pe_cmpR op_in_seq (pv 5) (pv 2) (by rfl)))) pa_nil)))) (pss_cons (ps_setLc (i := 6) (own := [("_law_place", 5)]) (g := (gName 5)) (tt := (tTest (tOp (rIn c.K true) (tVar 5) (tVar 1)))) (te := (tVar 5)) rfl sc_law_weights.nd rfl rfl (sw_true rfl rfl rfl (by decide +kernel)) (pi_list (pv 4)) (blkOk_by (by kernel_rfl)) (fun _ _ _ _ _ => (pg_name (i := 5) sc_law_weights.nd rfl (.inl rfl))) (fun _ _ _ _ _ => (pts_one (pt_cmpR op_notIn_seq (pv 5) (pv 1) (by rfl)))) (fun _ _ _ _ _ => (pv 5))) (pss_one (ps_expr (pe_bm PySem.F.plainAttrs_list PySem.F.slot_list_append PySem.F.type_list_append mt_append (pv 3) (pa_cons (pe_tup (pa_cons (pv 6) (pa_cons (C8.pe_c G_law_power hr (by decide) (by rfl) (pa_cons (pe_callB call_len_seq (by rfl) T.len LH.b_len (pa_cons (pv 6) pa_nil)) pa_nil)) pa_nil))) pa_nil))))) pss_nil))) (pss_one (ps_ret (pv 3))))), rd_law_weights h⟩)
abbrev s_is_list_of_places : Stmt := topS 15
abbrev N_is_list_of_places : List Str := ["places", "values", "value"]
theorem sc_is_list_of_places : FnScope N_is_list_of_places ["places", "values"] (C8.fnScope s_is_list_of_places) := C8.fnScope_by (by decide +kernel)
theorem ok_is_list_of_places (F : C8.Def c.K mg "_is_list_of_places" s_is_list_of_places f fd) (b : Binds c.K fd ["places", "values"] []) (T : Tb mg) (G_is_count : C8.Cal P c.w c.K mg base 2 "is_count" (sp_is_count c) []) : C8.Cal P c.w c.K mg base 3 "_is_list_of_places" (sp_is_list_of_places c) [] :=
  C8.cal0 F b .nil sc_is_list_of_places (fun vs H Q E h => ln_is_list_of_places h) (fun cdv A outer s H vs Q E hr h => ⟨t_is_list_of_places c, by exact (pss_one (ps_ret (pe_and (pe_callB call_isi (by rfl) T.isinstance LH.b_isinstance (pa_cons (pv 1) (pa_cons (pe_bltn (by rfl) T.list LH.b_list rfl) pa_nil))) (pe_one (pe_callB (cr_all rfl) (by rfl) T.all LH.b_all (pa_cons (pe_lc (own := [("value", 2)]) (g := (gName 2)) (tt := tYes) (te := (tCall (sp_is_count c) [] C8.E0 (tCons (tVar 0) (tCons (tVar 2) tNil)))) rfl sc_is_list_of_places.nd (pi_list (pv 1)) (blkOk_by (by kernel_rfl)) (fun _ _ _ _ _ => (pg_name (i := 2) sc_is_list_of_places.nd rfl (.inl rfl))) (fun _ _ _ _ _ => pts_nil) (fun _ _ _ _ _ => (C8.pe_c G_is_count hr (by decide) (by rfl) (pa_cons (pv 0) (pa_cons (pv 2) pa_nil))))) pa_nil)))))), rd_is_list_of_places h⟩)
abbrev s_units_of_lines : Stmt := topS 27
abbrev N_units_of_lines : List Str := ["places", "lines", "his", "mine", "line"]
theorem sc_units_of_lines : FnScope N_units_of_lines ["places", "lines", "his", "mine"] (C8.fnScope s_units_of_lines) := C8.fnScope_by (by decide +kernel)
theorem ok_units_of_lines (F : C8.Def c.K mg "_units_of_lines" s_units_of_lines f fd) (b : Binds c.K fd ["places", "lines", "his", "mine"] []) (T : Tb mg) (G_units_of_line : C8.Cal P c.w c.K mg base 2 "_units_of_line" (sp_units_of_line c) []) : C8.Cal P c.w c.K mg base 3 "_units_of_lines" (sp_units_of_lines c) [] :=
  C8.cal0 F b .nil sc_units_of_lines (fun vs H Q E h => ln_units_of_lines h) (fun cdv A outer s H vs Q E hr h => ⟨t_units_of_lines c, by exact (pss_one (ps_ret (pe_lc (own := [("line", 4)]) (g := (gName 4)) (tt := tYes) (te := (tCall (sp_units_of_line c) [] C8.E0 (tCons (tVar 0) (tCons (tVar 4) (tCons (tVar 2) (tCons (tVar 3) tNil)))))) rfl sc_units_of_lines.nd (pi_list (pv 1)) (blkOk_by (by kernel_rfl)) (fun _ _ _ _ _ => (pg_name (i := 4) sc_units_of_lines.nd rfl (.inl rfl))) (fun _ _ _ _ _ => pts_nil) (fun _ _ _ _ _ => (C8.pe_c G_units_of_line hr (by decide) (by rfl) (pa_cons (pv 0) (pa_cons (pv 4) (pa_cons (pv 2) (pa_cons (pv 3) pa_nil))))))))), rd_units_of_lines h⟩)
abbrev s_check_takings : Stmt := topS 12
abbrev N_check_takings : List Str := ["places", "his", "mine", "taken"]
theorem sc_check_takings : FnScope N_check_takings ["places", "his", "mine"] (C8.fnScope s_check_takings) := C8.fnScope_by (by decide +kernel)
theorem ok_check_takings (F : C8.Def c.K mg "check_takings" s_check_takings f fd) (b : Binds c.K fd ["places", "his", "mine"] []) (T : Tb mg) (G_is_list_of_places : C8.Cal P c.w c.K mg base 3 "_is_list_of_places" (sp_is_list_of_places c) []) : C8.Cal P c.w c.K mg base 4 "check_takings" (sp_check_takings c) [] :=
  C8.cal0 F b .nil sc_check_takings (fun vs H Q E h => ln_check_takings h) (fun cdv A outer s H vs Q E hr h => ⟨t_check_takings c, by exact (pss_cons (ps_if (pt_not (PW.pt (pw_and (pt_val (C8.pe_c G_is_list_of_places hr (by decide) (by rfl) (pa_cons (pv 0) (pa_cons (pv 1) pa_nil)))) (pw_and1 (pt_val (C8.pe_c G_is_list_of_places hr (by decide) (by rfl) (pa_cons (pv 0) (pa_cons (pv 2) pa_nil)))))))) (pss_one ps_never) pss_nil) (pss_cons (ps_set (i := 3) sc_check_takings.nd rfl (.inl rfl) (pe_op op_catL (pv 1) (pv 2))) (pss_one (ps_if (pt_cmpR (op_neA hr.units) (pe_callB cr_lenSet (by rfl) T.len LH.b_len (pa_cons (pe_callTy (cr_setL rfl) (by rfl) T.set LH.b_set (pa_cons (pv 3) pa_nil)) pa_nil)) (pe_callB call_len_seq (by rfl) T.len LH.b_len (pa_cons (pv 3) pa_nil)) (nomark _)) (pss_one ps_never) pss_nil)))), rd_check_takings h⟩)
abbrev s_is_line : Stmt := topS 16
abbrev N_is_line : List Str := ["places", "line", "low", "high"]
theorem sc_is_line : FnScope N_is_line ["places", "line"] (C8.fnScope s_is_line) := C8.fnScope_by (by decide +kernel)
theorem ok_is_line (F : C8.Def c.K mg "_is_line" s_is_line f fd) (b : Binds c.K fd ["places", "line"] []) (T : Tb mg) (G_is_list_of_places : C8.Cal P c.w c.K mg base 3 "_is_list_of_places" (sp_is_list_of_places c) []) : C8.Cal P c.w c.K mg base 4 "_is_line" (sp_is_line c) [] :=
  C8.cal0 F b .nil sc_is_line (fun vs H Q E h => ln_is_line h) (fun cdv A outer s H vs Q E hr h => ⟨t_is_line c, by exact (pss_cons (ps_if (PW.pt (pw_or (pt_not (pt_val (C8.pe_c G_is_list_of_places hr (by decide) (by rfl) (pa_cons (pv 0) (pa_cons (pv 1) pa_nil))))) (pw_or1 (pt_cmpR (op_eqA hr.units) (pe_callB call_len_seq (by rfl) T.len LH.b_len (pa_cons (pv 1) pa_nil)) pe_int (nomark _))))) (pss_one (ps_ret pe_bl)) pss_nil) (pss_one (ps_ret (pe_callB (cr_all rfl) (by rfl) T.all LH.b_all (pa_cons (pe_lc (own := [("low", 2), ("high", 3)]) (g := (gTup c.K 2 (gCons (gName 2) (gCons (gName 3) gNil)))) (tt := tYes) (te := (tOp rLtI (tVar 2) (tVar 3))) rfl sc_is_line.nd (pi_zip (by rfl) T.zip (pa_cons (pv 1) (pa_cons (pe_slice sl_list (pv 1) (po_some pe_int) po_none) pa_nil))) (blkOk_by (by kernel_rfl)) (fun _ _ _ _ _ => (pg_tup rfl (pgs_cons (pg_name (i := 2) sc_is_line.nd rfl (.inl rfl)) (pgs_cons (pg_name (i := 3) sc_is_line.nd rfl (.inl rfl)) pgs_nil)))) (fun _ _ _ _ _ => pts_nil) (fun _ _ _ _ _ => (pe_cmpR op_ltI (pv 2) (pv 3) (nomark _)))) pa_nil))))), rd_is_line h⟩)
abbrev s_total : Stmt := topS 28
abbrev N_total : List Str := ["places", "lines", "his", "mine"]
theorem sc_total : FnScope N_total ["places", "lines", "his", "mine"] (C8.fnScope s_total) := C8.fnScope_by (by decide +kernel)
theorem ok_total (F : C8.Def c.K mg "_total" s_total f fd) (b : Binds c.K fd ["places", "lines", "his", "mine"] []) (T : Tb mg) (G_units_of_lines : C8.Cal P c.w c.K mg base 3 "_units_of_lines" (sp_units_of_lines c) []) : C8.Cal P c.w c.K mg base 4 "_total" (sp_total c) [] :=
  C8.cal0 F b .nil sc_total (fun vs H Q E h => ln_total h) (fun cdv A outer s H vs Q E hr h => ⟨t_total c, by exact (pss_one (ps_ret (pe_callB (cr_sum rfl) (by rfl) T.sum LH.b_sum (pa_cons (C8.pe_c G_units_of_lines hr (by decide) (by rfl) (pa_cons (pv 0) (pa_cons (pv 1) (pa_cons (pv 2) (pa_cons (pv 3) pa_nil))))) pa_nil)))), rd_total h⟩)
abbrev s_units_of_free : Stmt := topS 29
abbrev N_units_of_free : List Str := ["places", "lines", "his", "mine", "of_lines", "units", "place", "line", "part"]
theorem sc_units_of_free : FnScope N_units_of_free ["places", "lines", "his", "mine"] (C8.fnScope s_units_of_free) := C8.fnScope_by (by decide +kernel)
theorem ok_units_of_free (F : C8.Def c.K mg "_units_of_free" s_units_of_free f fd) (b : Binds c.K fd ["places", "lines", "his", "mine"] []) (T : Tb mg) (G_units_of_lines : C8.Cal P c.w c.K mg base 3 "_units_of_lines" (sp_units_of_lines c) []) (G_free_places : C8.Cal P c.w c.K mg base 1 "free_places" (sp_free_places c) []) : C8.Cal P c.w c.K mg base 4 "_units_of_free" (sp_units_of_free c) [] :=
  C8.cal0 F b .nil sc_units_of_free (fun vs H Q E h => ln_units_of_free h) (fun cdv A outer s H vs Q E hr h => ⟨t_units_of_free c, by exact (pss_cons (ps_set (i := 4) sc_units_of_free.nd rfl (.inl rfl) (C8.pe_c G_units_of_lines hr (by decide) (by rfl) (pa_cons (pv 0) (pa_cons (pv 1) (pa_cons (pv 2) (pa_cons (pv 3) pa_nil)))))) (pss_cons (ps_set (i := 5) sc_units_of_free.nd rfl (.inl rfl) pe_dnewK) (pss_cons (ps_for PassesOwn.never rfl (pi_list (C8.pe_c G_free_places hr (by decide) (by rfl) (pa_cons (pv 0) (pa_cons (pv 2) (pa_cons (pv 3) pa_nil))))) (pg_name (i := 6) sc_units_of_free.nd rfl (.inr rfl)) (pss_one (ps_dput (hu_of hr) (pv 5) (pv 6) (pe_callB (cr_sum rfl) (by rfl) T.sum LH.b_sum (pa_cons (pe_lc (own := [("line", 7), ("part", 8)]) (g := (gTup c.K 2 (gCons (gName 7) (gCons (gName 8) gNil)))) (tt := (tTest (tOp (rIn c.K false) (tVar 6) (tVar 7)))) (te := (tVar 8)) rfl sc_units_of_free.nd (pi_zip (by rfl) T.zip (pa_cons (pv 1) (pa_cons (pv 4) pa_nil))) (blkOk_by (by kernel_rfl)) (fun _ _ _ _ _ => (pg_tup rfl (pgs_cons (pg_name (i := 7) sc_units_of_free.nd rfl (.inl rfl)) (pgs_cons (pg_name (i := 8) sc_units_of_free.nd rfl (.inl rfl)) pgs_nil)))) (fun _ _ _ _ _ => (pts_one (pt_cmpR op_in_seq (pv 6) (pv 7) (by rfl)))) (fun _ _ _ _ _ => (pv 8))) pa_nil)) rfl))) (pss_one (ps_ret (pv 5)))))), rd_units_of_free h⟩)
abbrev s_check_lines : Stmt := topS 11
abbrev N_check_lines : List Str := ["places", "lines", "line"]
theorem sc_check_lines : FnScope N_check_lines ["places", "lines"] (C8.fnScope s_check_lines) := C8.fnScope_by (by decide +kernel)
theorem ok_check_lines (F : C8.Def c.K mg "check_lines" s_check_lines f fd) (b : Binds c.K fd ["places", "lines"] []) (T : Tb mg) (G_is_line : C8.Cal P c.w c.K mg base 4 "_is_line" (sp_is_line c) []) : C8.Cal P c.w c.K mg base 5 "check_lines" (sp_check_lines c) [] :=
  C8.cal0 F b .nil sc_check_lines (fun vs H Q E h => ln_check_lines h) (fun cdv A outer s H vs Q E hr h => ⟨t_check_lines c, by exact (pss_cons (ps_if (PW.pt (pw_or (pt_not (pt_val (pe_callB call_isi (by rfl) T.isinstance LH.b_isinstance (pa_cons (pv 1) (pa_cons (pe_bltn (by rfl) T.list LH.b_list rfl) pa_nil))))) (pw_or1 (pt_cmpR op_gtI (pe_callB call_len_seq (by rfl) T.len LH.b_len (pa_cons (pv 1) pa_nil)) (LH.pe_k (by rfl) T.MOST_LINES) (nomark _))))) (pss_one ps_never) pss_nil) (pss_one (ps_if (pt_not (pt_val (pe_callB (cr_all rfl) (by rfl) T.all LH.b_all (pa_cons (pe_lc (own := [("line", 2)]) (g := (gName 2)) (tt := tYes) (te := (tCall (sp_is_line c) [] C8.E0 (tCons (tVar 0) (tCons (tVar 2) tNil)))) rfl sc_check_lines.nd (pi_list (pv 1)) (blkOk_by (by kernel_rfl)) (fun _ _ _ _ _ => (pg_name (i := 2) sc_check_lines.nd rfl (.inl rfl))) (fun _ _ _ _ _ => pts_nil) (fun _ _ _ _ _ => (C8.pe_c G_is_line hr (by decide) (by rfl) (pa_cons (pv 0) (pa_cons (pv 2) pa_nil))))) pa_nil)))) (pss_one ps_never) pss_nil))), rd_check_lines h⟩)
abbrev s_check_play : Stmt := topS 9
abbrev N_check_play : List Str := ["places", "lines", "his", "mine"]
theorem sc_check_play : FnScope N_check_play ["places", "lines", "his", "mine"] (C8.fnScope s_check_play) := C8.fnScope_by (by decide +kernel)
theorem ok_check_play (F : C8.Def c.K mg "check_play" s_check_play f fd) (b : Binds c.K fd ["places", "lines", "his", "mine"] []) (T : Tb mg) (G_check_lines : C8.Cal P c.w c.K mg base 5 "check_lines" (sp_check_lines c) []) (G_check_places : C8.Cal P c.w c.K mg base 2 "check_places" (sp_check_places c) []) (G_check_takings : C8.Cal P c.w c.K mg base 4 "check_takings" (sp_check_takings c) []) : C8.Cal P c.w c.K mg base 6 "check_play" (sp_check_play c) [] :=
  C8.cal0 F b .nil sc_check_play (fun vs H Q E h => ln_check_play h) (fun cdv A outer s H vs Q E hr h => ⟨t_check_play c, by exact (pss_cons (ps_expr (C8.pe_c G_check_places hr (by decide) (by rfl) (pa_cons (pv 0) pa_nil))) (pss_cons (ps_expr (C8.pe_c G_check_lines hr (by decide) (by rfl) (pa_cons (pv 0) (pa_cons (pv 1) pa_nil)))) (pss_one (ps_expr (C8.pe_c G_check_takings hr (by decide) (by rfl) (pa_cons (pv 0) (pa_cons (pv 2) (pa_cons (pv 3) pa_nil)))))))), rd_check_play h⟩)
abbrev s_danger : Stmt := topS 18
abbrev N_danger : List Str := ["places", "lines", "his", "mine"]
theorem sc_danger : FnScope N_danger ["places", "lines", "his", "mine"] (C8.fnScope s_danger) := C8.fnScope_by (by decide +kernel)
theorem ok_danger (F : C8.Def c.K mg "danger" s_danger f fd) (b : Binds c.K fd ["places", "lines", "his", "mine"] []) (T : Tb mg) (G_in_lowest_terms : C8.Cal P c.w c.K mg base 1 "_in_lowest_terms" (sp_in_lowest_terms c) []) (G_one : C8.Cal P c.w c.K mg base 1 "_one" (sp_one c) []) (G_total : C8.Cal P c.w c.K mg base 4 "_total" (sp_total c) []) (G_check_play : C8.Cal P c.w c.K mg base 6 "check_play" (sp_check_play c) []) : C8.Cal P c.w c.K mg base 7 "danger" (sp_danger c) [] :=
  C8.cal0 F b .nil sc_danger (fun vs H Q E h => ln_danger h) (fun cdv A outer s H vs Q E hr h => ⟨t_danger c, by exact (pss_cons (ps_expr (C8.pe_c G_check_play hr (by decide) (by rfl) (pa_cons (pv 0) (pa_cons (pv 1) (pa_cons (pv 2) (pa_cons (pv 3) pa_nil)))))) (pss_one (ps_ret (C8.pe_c G_in_lowest_terms hr (by decide) (by rfl) (pa_cons (C8.pe_c G_total hr (by decide) (by rfl) (pa_cons (pv 0) (pa_cons (pv 1) (pa_cons (pv 2) (pa_cons (pv 3) pa_nil))))) (pa_cons (C8.pe_c G_one hr (by decide) (by rfl) (pa_cons (pv 0) pa_nil)) pa_nil)))))), rd_danger h⟩)
abbrev s_sure : Stmt := topS 19
abbrev N_sure : List Str := ["places", "lines", "his", "mine", "total"]
theorem sc_sure : FnScope N_sure ["places", "lines", "his", "mine"] (C8.fnScope s_sure) := C8.fnScope_by (by decide +kernel)
theorem ok_sure (F : C8.Def c.K mg "sure" s_sure f fd) (b : Binds c.K fd ["places", "lines", "his", "mine"] []) (T : Tb mg) (G_one : C8.Cal P c.w c.K mg base 1 "_one" (sp_one c) []) (G_total : C8.Cal P c.w c.K mg base 4 "_total" (sp_total c) []) (G_check_play : C8.Cal P c.w c.K mg base 6 "check_play" (sp_check_play c) []) : C8.Cal P c.w c.K mg base 7 "sure" (sp_sure c) [] :=
  C8.cal0 F b .nil sc_sure (fun vs H Q E h => ln_sure h) (fun cdv A outer s H vs Q E hr h => ⟨t_sure c, by exact (pss_cons (ps_expr (C8.pe_c G_check_play hr (by decide) (by rfl) (pa_cons (pv 0) (pa_cons (pv 1) (pa_cons (pv 2) (pa_cons (pv 3) pa_nil)))))) (pss_cons (ps_set (i := 4) sc_sure.nd rfl (.inl rfl) (C8.pe_c G_total hr (by decide) (by rfl) (pa_cons (pv 0) (pa_cons (pv 1) (pa_cons (pv 2) (pa_cons (pv 3) pa_nil)))))) (pss_one (ps_ret (pe_tup (pa_cons (pe_cmpR op_ltI (pv 4) (C8.pe_c G_one hr (by decide) (by rfl) (pa_cons (pv 0) pa_nil)) (nomark _)) (pa_cons (pe_cmpR op_ltI (pe_op op_mulI pe_int (pv 4)) (C8.pe_c G_one hr (by decide) (by rfl) (pa_cons (pv 0) pa_nil)) (nomark _)) pa_nil))))))), rd_sure h⟩)
abbrev s_best : Stmt := topS 20
abbrev N_best : List Str := ["places", "lines", "his", "mine", "units", "chosen", "place"]
theorem sc_best : FnScope N_best ["places", "lines", "his", "mine"] (C8.fnScope s_best) := C8.fnScope_by (by decide +kernel)
theorem ok_best (F : C8.Def c.K mg "best" s_best f fd) (b : Binds c.K fd ["places", "lines", "his", "mine"] []) (T : Tb mg) (G_units_of_free : C8.Cal P c.w c.K mg base 4 "_units_of_free" (sp_units_of_free c) []) (G_check_play : C8.Cal P c.w c.K mg base 6 "check_play" (sp_check_play c) []) : C8.Cal P c.w c.K mg base 7 "best" (sp_best c) [] :=
  C8.cal0 F b .nil sc_best (fun vs H Q E h => ln_best h) (fun cdv A outer s H vs Q E hr h => ⟨t_best c, by exact (pss_cons (ps_expr (C8.pe_c G_check_play hr (by decide) (by rfl) (pa_cons (pv 0) (pa_cons (pv 1) (pa_cons (pv 2) (pa_cons (pv 3) pa_nil)))))) (pss_cons (ps_set (i := 4) sc_best.nd rfl (.inl rfl) (C8.pe_c G_units_of_free hr (by decide) (by rfl) (pa_cons (pv 0) (pa_cons (pv 1) (pa_cons (pv 2) (pa_cons (pv 3) pa_nil)))))) (pss_cons (ps_set (i := 5) sc_best.nd rfl (.inl rfl) pe_non) (pss_cons (ps_lock (ps_for PassesOwn.never rfl (pi_keys (pv 4)) (pg_name (i := 6) sc_best.nd rfl (.inl rfl)) (pss_one (ps_if (PW.pt (pw_or (pt_cmpR op_isNone (pv 5) pe_non (nomark _)) (pw_or1 (pt_cmpR op_gtI (pe_dget (hu_of hr) (pv 4) (pv 6) (fun _ _ => rfl)) (pe_dget (hu_of hr) (pv 4) (pv 5) (fun _ _ => rfl)) (nomark _))))) (pss_one (ps_set (i := 5) sc_best.nd rfl (.inl rfl) (pv 6))) pss_nil)))) (pss_one (ps_ret (pv 5))))))), rd_best h⟩)
abbrev s_full : Stmt := topS 21
abbrev N_full : List Str := ["places", "lines", "his", "mine", "count", "line"]
theorem sc_full : FnScope N_full ["places", "lines", "his", "mine"] (C8.fnScope s_full) := C8.fnScope_by (by decide +kernel)
theorem ok_full (F : C8.Def c.K mg "full" s_full f fd) (b : Binds c.K fd ["places", "lines", "his", "mine"] []) (T : Tb mg) (G_missing : C8.Cal P c.w c.K mg base 1 "_missing" (sp_missing c) []) (G_check_play : C8.Cal P c.w c.K mg base 6 "check_play" (sp_check_play c) []) : C8.Cal P c.w c.K mg base 7 "full" (sp_full c) [] :=
  C8.cal0 F b .nil sc_full (fun vs H Q E h => ln_full h) (fun cdv A outer s H vs Q E hr h => ⟨t_full c, by exact (pss_cons (ps_expr (C8.pe_c G_check_play hr (by decide) (by rfl) (pa_cons (pv 0) (pa_cons (pv 1) (pa_cons (pv 2) (pa_cons (pv 3) pa_nil)))))) (pss_one (ps_ret (pe_lc (own := [("count", 4), ("line", 5)]) (g := (gTup c.K 2 (gCons (gName 4) (gCons (gName 5) gNil)))) (tt := (tTest (tOp (rEqA c.K) (tCall (sp_missing c) [] C8.E0 (tCons (tVar 5) (tCons (tVar 2) tNil))) (tC (.int 0))))) (te := (tVar 4)) rfl sc_full.nd (pi_enum (by rfl) T.enumerate (pa_cons (pv 1) pa_nil)) (blkOk_by (by kernel_rfl)) (fun _ _ _ _ _ => (pg_tup rfl (pgs_cons (pg_name (i := 4) sc_full.nd rfl (.inl rfl)) (pgs_cons (pg_name (i := 5) sc_full.nd rfl (.inl rfl)) pgs_nil)))) (fun _ _ _ _ _ => (pts_one (pt_cmpR (op_eqA hr.units) (C8.pe_c G_missing hr (by decide) (by rfl) (pa_cons (pv 5) (pa_cons (pv 2) pa_nil))) pe_int (nomark _)))) (fun _ _ _ _ _ => (pv 4)))))), rd_full h⟩)
abbrev s_law_his : Stmt := topS 39
abbrev N_law_his : List Str := ["_law_script", "_law_places_here", "_law_lines_here", "_law_his_here", "_law_mine", "_law_way", "_law_free", "_law_place", "_law_cells", "_law_at", "_law_drawn", "_law_open_ones", "_law_rest", "_law_power_here"]
theorem sc_law_his : FnScope N_law_his ["_law_script", "_law_places_here", "_law_lines_here", "_law_his_here", "_law_mine", "_law_way"] (C8.fnScope s_law_his) := C8.fnScope_by (by decide +kernel)
theorem ok_law_his (F : C8.Def c.K mg "_law_his" s_law_his f fd) (b : Binds c.K fd ["_law_script", "_law_places_here", "_law_lines_here", "_law_his_here", "_law_mine", "_law_way"] []) (T : Tb mg) (G_law_number : C8.Cal P c.w c.K mg base 1 "_law_number" (sp_law_number c) []) (G_law_weights : C8.Cal P c.w c.K mg base 2 "_law_weights" (sp_law_weights c) []) (G_best : C8.Cal P c.w c.K mg base 7 "best" (sp_best c) []) : C8.Cal P c.w c.K mg base 8 "_law_his" (sp_law_his c) [] :=
  C8.cal0 F b .nil sc_law_his (fun vs H Q E h => ln_law_his h) (fun cdv A outer s H vs Q E hr h => ⟨t_law_his c, by exact (pss_cons (ps_setLc (i := 6) (own := [("_law_place", 7)]) (g := (gName 7)) (tt := (tAnd (tTest (tOp (rIn c.K true) (tVar 7) (tVar 3))) (tTest (tOp (rIn c.K true) (tVar 7) (tVar 4))))) (te := (tVar 7)) rfl sc_law_his.nd rfl rfl (sw_true rfl rfl rfl (by decide +kernel)) (pi_range1 (by rfl) T.range (pa_cons (pv 1) pa_nil)) (blkOk_by (by kernel_rfl)) (fun _ _ _ _ _ => (pg_name (i := 7) sc_law_his.nd rfl (.inl rfl))) (fun _ _ _ _ _ => (pts_one (PW.pt (pw_and (pt_cmpR op_notIn_seq (pv 7) (pv 3) (by rfl)) (pw_and1 (pt_cmpR op_notIn_seq (pv 7) (pv 4) (by rfl))))))) (fun _ _ _ _ _ => (pv 7))) (pss_cons (ps_set (i := 8) sc_law_his.nd rfl (.inl rfl) (pe_ifExp (pt_cmpR (op_neA hr.units) (pv 0) (pe_lst pa_nil) (nomark _)) (pe_slice sl_list (pv 0) po_none (po_some pe_int)) (pe_lst (pa_cons pe_int pa_nil)))) (pss_cons (ps_set (i := 9) sc_law_his.nd rfl (.inl rfl) (pe_op op_addI (pe_callB call_len_seq (by rfl) T.len LH.b_len (pa_cons (pv 3) pa_nil)) (pe_callB call_len_seq (by rfl) T.len LH.b_len (pa_cons (pv 4) pa_nil)))) (pss_cons (ps_set (i := 10) sc_law_his.nd rfl (.inl rfl) (pe_ix ix_seq (pv 6) (pe_op op_modI (pe_op op_divI (C8.pe_c G_law_number hr (by decide) (by rfl) (pa_cons (pe_ix ix_seq (pv 8) (pe_op op_modI (pv 9) (pe_callB call_len_seq (by rfl) T.len LH.b_len (pa_cons (pv 8) pa_nil))) (fun _ _ => rfl)) (pa_cons (pe_op op_addI (pv 9) pe_int) (pa_cons (pe_callB call_len_seq (by rfl) T.len LH.b_len (pa_cons (pv 6) pa_nil)) pa_nil)))) pe_int) (pe_callB call_len_seq (by rfl) T.len LH.b_len (pa_cons (pv 6) pa_nil))) (fun _ _ => rfl))) (pss_cons (ps_if (pt_cmpR (op_eqA hr.units) (pv 5) pe_int (nomark _)) (pss_one (ps_ret (pv 10))) pss_nil) (pss_cons (ps_if (pt_cmpR (op_eqA hr.units) (pv 5) pe_int (nomark _)) (pss_one (ps_ret (C8.pe_c G_best hr (by decide) (by rfl) (pa_cons (pv 1) (pa_cons (pv 2) (pa_cons (pv 3) (pa_cons (pv 4) pa_nil))))))) pss_nil) (pss_cons (ps_setLc (i := 11) (own := [("_law_rest", 12), ("_law_power_here", 13)]) (g := (gTup c.K 2 (gCons (gName 12) (gCons (gName 13) gNil)))) (tt := (tTest (tOp (rNeA c.K) (tVar 12) (tLst tNil)))) (te := (tVar 12)) rfl sc_law_his.nd rfl rfl (sw_true rfl rfl rfl (by decide +kernel)) (pi_list (C8.pe_c G_law_weights hr (by decide) (by rfl) (pa_cons (pv 2) (pa_cons (pv 3) (pa_cons (pv 4) pa_nil))))) (blkOk_by (by kernel_rfl)) (fun _ _ _ _ _ => (pg_tup rfl (pgs_cons (pg_name (i := 12) sc_law_his.nd rfl (.inl rfl)) (pgs_cons (pg_name (i := 13) sc_law_his.nd rfl (.inl rfl)) pgs_nil)))) (fun _ _ _ _ _ => (pts_one (pt_cmpR (op_neA hr.units) (pv 12) (pe_lst pa_nil) (nomark _)))) (fun _ _ _ _ _ => (pv 12))) (pss_one (ps_ret (pe_ifExp (pt_cmpR (op_neA hr.units) (pv 11) (pe_lst pa_nil) (nomark _)) (pe_ix ix_seq (LH.pe_minLen rfl (by rfl) T.min (by rfl) T.len (pv 11)) pe_int (fun _ _ => rfl)) (pv 10))))))))))), rd_law_his h⟩)
abbrev s_law_holds : Stmt := topS 40
abbrev N_law_holds : List Str := ["_law_script", "_law_places_here", "_law_lines_here", "_law_his_here", "_law_mine", "_law_first", "_law_way", "_law_before", "_law_turn", "_law_now", "_law_place"]
theorem sc_law_holds : FnScope N_law_holds ["_law_script", "_law_places_here", "_law_lines_here", "_law_his_here", "_law_mine", "_law_first", "_law_way"] (C8.fnScope s_law_holds) := C8.fnScope_by (by decide +kernel)
theorem ok_law_holds (F : C8.Def c.K mg "_law_holds" s_law_holds f fd) (b : Binds c.K fd ["_law_script", "_law_places_here", "_law_lines_here", "_law_his_here", "_law_mine", "_law_first", "_law_way"] []) (T : Tb mg) (G_law_full : C8.Cal P c.w c.K mg base 1 "_law_full" (sp_law_full c) []) (G_law_his : C8.Cal P c.w c.K mg base 8 "_law_his" (sp_law_his c) []) (G_best : C8.Cal P c.w c.K mg base 7 "best" (sp_best c) []) (G_danger : C8.Cal P c.w c.K mg base 7 "danger" (sp_danger c) []) (G_full : C8.Cal P c.w c.K mg base 7 "full" (sp_full c) []) : C8.Cal P c.w c.K mg base 9 "_law_holds" (sp_law_holds c) [] :=
  C8.cal0 F b .nil sc_law_holds (fun vs H Q E h => ln_law_holds h) (fun cdv A outer s H vs Q E hr h => ⟨t_law_holds c, by exact (pss_cons (ps_par (i := 3) (j := 4) rfl sc_law_holds.nd rfl rfl (by decide) rfl rfl (pa_cons (pe_callTy call_list_of (by rfl) T.list LH.b_list (pa_cons (pv 3) pa_nil)) (pa_cons (pe_callTy call_list_of (by rfl) T.list LH.b_list (pa_cons (pv 4) pa_nil)) pa_nil)) (by rfl)) (pss_cons (ps_set (i := 7) sc_law_holds.nd rfl (.inl rfl) pe_non) (pss_cons (ps_set (i := 8) sc_law_holds.nd rfl (.inl rfl) (pv 5)) (pss_cons (ps_while PassesOwn.never (pt_cmpR op_ltI (pe_op op_addI (pe_callB call_len_seq (by rfl) T.len LH.b_len (pa_cons (pv 3) pa_nil)) (pe_callB call_len_seq (by rfl) T.len LH.b_len (pa_cons (pv 4) pa_nil))) (pv 1) (nomark _)) (pss_cons (ps_if (pt_val (pv 8)) (pss_cons (ps_set (i := 9) sc_law_holds.nd rfl (.inl rfl) (C8.pe_c G_danger hr (by decide) (by rfl) (pa_cons (pv 1) (pa_cons (pv 2) (pa_cons (pv 3) (pa_cons (pv 4) pa_nil)))))) (pss_cons (ps_if (PW.pt (pw_and (pt_cmpR op_notNone (pv 7) pe_non (nomark _)) (pw_and1 (pt_cmpR op_gtI (pe_op op_mulI (pe_ix ix_seq (pv 9) pe_int (fun _ _ => rfl)) (pe_ix ix_seq (pv 7) pe_int (fun _ _ => rfl))) (pe_op op_mulI (pe_ix ix_seq (pv 7) pe_int (fun _ _ => rfl)) (pe_ix ix_seq (pv 9) pe_int (fun _ _ => rfl))) (nomark _))))) (pss_one (ps_ret pe_bl)) pss_nil) (pss_cons (ps_set (i := 7) sc_law_holds.nd rfl (.inl rfl) (pv 9)) (pss_cons (ps_set (i := 10) sc_law_holds.nd rfl (.inl rfl) (C8.pe_c G_best hr (by decide) (by rfl) (pa_cons (pv 1) (pa_cons (pv 2) (pa_cons (pv 3) (pa_cons (pv 4) pa_nil)))))) (pss_cons (ps_if (PW.pt (pw_or (pt_val (pe_callB call_isi (by rfl) T.isinstance LH.b_isinstance (pa_cons (pv 10) (pa_cons (pe_bltn (by rfl) T.bool LH.b_bool rfl) pa_nil)))) (pw_or (pt_cmpR op_in_seq (pv 10) (pv 3) (by rfl)) (pw_or (pt_cmpR op_in_seq (pv 10) (pv 4) (by rfl)) (pw_or1 (pt_not (pt_chain op_leI op_ltI pe_int (pv 10) (pv 1)))))))) (pss_one (ps_ret pe_bl)) pss_nil) (pss_one (ps_expr (pe_bm PySem.F.plainAttrs_list PySem.F.slot_list_append PySem.F.type_list_append mt_append (pv 4) (pa_cons (pv 10) pa_nil))))))))) (pss_cons (ps_expr (pe_bm PySem.F.plainAttrs_list PySem.F.slot_list_append PySem.F.type_list_append mt_append (pv 3) (pa_cons (C8.pe_c G_law_his hr (by decide) (by rfl) (pa_cons (pv 0) (pa_cons (pv 1) (pa_cons (pv 2) (pa_cons (pv 3) (pa_cons (pv 4) (pa_cons (pv 6) pa_nil))))))) pa_nil))) (pss_one (ps_if (PW.pt (pw_or (pt_cmpR (op_neA hr.units) (C8.pe_c G_full hr (by decide) (by rfl) (pa_cons (pv 1) (pa_cons (pv 2) (pa_cons (pv 3) (pa_cons (pv 4) pa_nil))))) (pe_lst pa_nil) (nomark _)) (pw_or1 (pt_cmpR (op_neA hr.units) (C8.pe_c G_law_full hr (by decide) (by rfl) (pa_cons (pv 2) (pa_cons (pv 3) pa_nil))) (pe_lst pa_nil) (nomark _))))) (pss_one (ps_ret pe_bl)) pss_nil)))) (pss_one (ps_set (i := 8) sc_law_holds.nd rfl (.inl rfl) (pe_not (pv 8)))))) (pss_one (ps_ret pe_bl)))))), rd_law_holds h⟩)
abbrev s_main : Stmt := topS 41
abbrev N_main : List Str := ["_law_script", "_law_whole", "_law_places_here", "_law_his_here", "_law_mine", "_law_plays", "_law_way", "_law_play", "_law_first", "_law_near", "_law_far", "_law_lines_here", "_law_line", "_law_some", "_law_said"]
theorem sc_main : FnScope N_main ["_law_script"] (C8.fnScope s_main) := C8.fnScope_by (by decide +kernel)
theorem fn_main (F : C8.Def c.K mg "law" s_main f fd) (T : Tb mg) (G_law_holds : C8.Cal P c.w c.K mg base 9 "_law_holds" (sp_law_holds c) []) (G_law_lines : C8.Cal P c.w c.K mg base 2 "_law_lines" (sp_law_lines c) []) (G_law_places : C8.Cal P c.w c.K mg base 1 "_law_places" (sp_law_places c) []) (G_law_takings : C8.Cal P c.w c.K mg base 2 "_law_takings" (sp_law_takings c) []) (G_sure : C8.Cal P c.w c.K mg base 7 "sure" (sp_sure c) []) : FnOk P c.w c.K mg base C8.CX0 10 f fd ["_law_script"] (sp_main c) :=
  C8.fn0 F.fn sc_main (fun vs H Q E h => ln_main h) (fun cdv A outer s H vs Q E hr h => ⟨t_main c, by exact (pss_cons (ps_set (i := 1) sc_main.nd rfl (.inl rfl) (pe_callB (cr_sum rfl) (by rfl) T.sum LH.b_sum (pa_cons (pe_slice sl_list (pv 0) po_none (po_some pe_int)) pa_nil))) (pss_cons (ps_set (i := 2) sc_main.nd rfl (.inl rfl) (C8.pe_c G_law_places hr (by decide) (by rfl) (pa_cons (pv 0) pa_nil))) (pss_cons (ps_if (PW.pt (pw_and (pt_cmpR op_gtI (pv 2) pe_int (nomark _)) (pw_and1 (pt_cmpR (op_neA hr.units) (pe_op op_modI (pe_op op_divI (pv 1) pe_int) pe_int) pe_int (nomark _))))) (pss_one (ps_set (i := 2) sc_main.nd rfl (.inl rfl) (pe_op op_addI pe_int (pe_op op_modI (pe_op op_divI (pv 1) pe_int) pe_int)))) pss_nil) (pss_cons (ps_asg (C8.pe_c G_law_takings hr (by decide) (by rfl) (pa_cons (pv 0) (pa_cons (pv 2) (pa_cons pe_int pa_nil)))) (pg_tup rfl (pgs_cons (pg_name (i := 3) sc_main.nd rfl (.inl rfl)) (pgs_cons (pg_name (i := 4) sc_main.nd rfl (.inl rfl)) pgs_nil)))) (pss_cons (ps_set (i := 5) sc_main.nd rfl (.inl rfl) (pe_lst (pa_cons (pe_tup (pa_cons pe_bl (pa_cons (pe_lst pa_nil) (pa_cons (pe_lst pa_nil) pa_nil)))) (pa_cons (pe_tup (pa_cons pe_bl (pa_cons (pe_lst pa_nil) (pa_cons (pe_lst pa_nil) pa_nil)))) (pa_cons (pe_tup (pa_cons pe_bl (pa_cons (pe_slice sl_list (pv 3) po_none (po_some pe_int)) (pa_cons (pv 4) pa_nil)))) (pa_cons (pe_tup (pa_cons pe_bl (pa_cons (pe_slice sl_list (pv 3) po_none (po_some pe_int)) (pa_cons (pv 4) pa_nil)))) pa_nil)))))) (pss_cons (ps_for PassesOwn.never rfl (pi_enum (by rfl) T.enumerate (pa_cons (pv 5) pa_nil)) (pg_tup rfl (pgs_cons (pg_name (i := 6) sc_main.nd rfl (.inl rfl)) (pgs_cons (pg_name (i := 7) sc_main.nd rfl (.inl rfl)) pgs_nil))) (pss_cons (ps_asg (pv 7) (pg_tup rfl (pgs_cons (pg_name (i := 8) sc_main.nd rfl (.inl rfl)) (pgs_cons (pg_name (i := 9) sc_main.nd rfl (.inl rfl)) (pgs_cons (pg_name (i := 10) sc_main.nd rfl (.inl rfl)) pgs_nil))))) (pss_cons (ps_set (i := 11) sc_main.nd rfl (.inl rfl) (pe_lst pa_nil)) (pss_cons (ps_for PassesOwn.never rfl (pi_list (C8.pe_c G_law_lines hr (by decide) (by rfl) (pa_cons (pe_slice sl_list (pv 0) po_none (po_some pe_int)) (pa_cons (pv 2) (pa_cons (pe_op op_addI pe_int (pe_op op_modI (pe_op op_divI (pv 1) pe_int) pe_int)) pa_nil))))) (pg_name (i := 12) sc_main.nd rfl (.inl rfl)) (pss_cons (ps_set (i := 13) sc_main.nd rfl (.inl rfl) (pe_op op_catL (pv 11) (pe_lst (pa_cons (pv 12) pa_nil)))) (pss_cons (ps_set (i := 14) sc_main.nd rfl (.inl rfl) (C8.pe_c G_sure hr (by decide) (by rfl) (pa_cons (pv 2) (pa_cons (pv 13) (pa_cons (pv 9) (pa_cons (pv 10) pa_nil)))))) (pss_one (ps_if (PW.pt (pw_and (pt_val (pe_ix ix_seq (pv 14) pe_int (fun _ _ => rfl))) (pw_and1 (PW.pt (pw_or (pt_val (pv 8)) (pw_or1 (pt_val (pe_ix ix_seq (pv 14) pe_int (fun _ _ => rfl))))))))) (pss_one (ps_set (i := 11) sc_main.nd rfl (.inl rfl) (pv 13))) pss_nil))))) (pss_one (ps_if (pt_not (pt_val (C8.pe_c G_law_holds hr (by decide) (by rfl) (pa_cons (pv 0) (pa_cons (pv 2) (pa_cons (pv 11) (pa_cons (pv 9) (pa_cons (pv 10) (pa_cons (pv 8) (pa_cons (pe_op op_modI (pe_op op_addI (pv 1) (pv 6)) pe_int) pa_nil)))))))))) (pss_one (ps_ret pe_bl)) pss_nil)))))) (pss_one (ps_ret (pe_and (pe_cmpR (op_eqA hr.units) (C8.pe_c G_sure hr (by decide) (by rfl) (pa_cons pe_int (pa_cons (pe_lst (pa_cons (pe_lst (pa_cons pe_int (pa_cons pe_int pa_nil))) pa_nil)) (pa_cons (pe_lst pa_nil) (pa_cons (pe_lst pa_nil) pa_nil))))) (pe_tup (pa_cons pe_bl (pa_cons pe_bl pa_nil))) (nomark _)) (pe_one (pe_cmpR (op_eqA hr.units) (C8.pe_c G_sure hr (by decide) (by rfl) (pa_cons pe_int (pa_cons (pe_lst (pa_cons (pe_lst (pa_cons pe_int pa_nil)) (pa_cons (pe_lst (pa_cons pe_int pa_nil)) pa_nil))) (pa_cons (pe_lst pa_nil) (pa_cons (pe_lst pa_nil) pa_nil))))) (pe_tup (pa_cons pe_bl (pa_cons pe_bl pa_nil))) (nomark _)))))))))))), rd_main h⟩)
end
end K02

namespace K02
open PySem PySem.Spec PyProof.Rows L2 LH
theorem all {P : Program} {w : World} {K : PySem.W.Frag} {h : Heap} {mg : Str → Option Value} {fa : Addr} (X : K.In h) (G : h.Ns mainGlobals mg) (hfa : mg "law" = some (.ref fa))
    {f1 : Addr} {oc1 : Value} {od1 : Option Addr} {an1 : Option Addr} {sl1 : Array (Option Value)} {kV1 : Value} {dc1 : Value} {pm1 : Value} {cd1 : Value} {ct1 : Value}
    (a1 : PySem.W.nsIn K mainGlobals "_is_whole" = some (some (.ref f1)))
    (l1 : K.lookup f1 = some ⟨oc1, od1, .func (PySem.W.fnOf "_is_whole" "_is_whole" (C8.fnArgs s_is_whole) (C8.fnBody s_is_whole) (C8.fnScope s_is_whole) .none kV1 dc1 pm1 an1 cd1 ct1), sl1⟩)
    (c1 : PySem.W.codeIn K cd1 "_is_whole" = true) (k1 : PySem.W.keepIn K (.ref f1) = true)
    {f2 : Addr} {oc2 : Value} {od2 : Option Addr} {an2 : Option Addr} {sl2 : Array (Option Value)} {kV2 : Value} {dc2 : Value} {pm2 : Value} {cd2 : Value} {ct2 : Value}
    (a2 : PySem.W.nsIn K mainGlobals "free_places" = some (some (.ref f2)))
    (l2 : K.lookup f2 = some ⟨oc2, od2, .func (PySem.W.fnOf "free_places" "free_places" (C8.fnArgs s_free_places) (C8.fnBody s_free_places) (C8.fnScope s_free_places) .none kV2 dc2 pm2 an2 cd2 ct2), sl2⟩)
    (c2 : PySem.W.codeIn K cd2 "free_places" = true) (k2 : PySem.W.keepIn K (.ref f2) = true)
    {f3 : Addr} {oc3 : Value} {od3 : Option Addr} {an3 : Option Addr} {sl3 : Array (Option Value)} {kV3 : Value} {dc3 : Value} {pm3 : Value} {cd3 : Value} {ct3 : Value}
    (a3 : PySem.W.nsIn K mainGlobals "_one" = some (some (.ref f3)))
    (l3 : K.lookup f3 = some ⟨oc3, od3, .func (PySem.W.fnOf "_one" "_one" (C8.fnArgs s_one) (C8.fnBody s_one) (C8.fnScope s_one) .none kV3 dc3 pm3 an3 cd3 ct3), sl3⟩)
    (c3 : PySem.W.codeIn K cd3 "_one" = true) (k3 : PySem.W.keepIn K (.ref f3) = true)
    {f4 : Addr} {oc4 : Value} {od4 : Option Addr} {an4 : Option Addr} {sl4 : Array (Option Value)} {kV4 : Value} {dc4 : Value} {pm4 : Value} {cd4 : Value} {ct4 : Value}
    (a4 : PySem.W.nsIn K mainGlobals "_in_lowest_terms" = some (some (.ref f4)))
    (l4 : K.lookup f4 = some ⟨oc4, od4, .func (PySem.W.fnOf "_in_lowest_terms" "_in_lowest_terms" (C8.fnArgs s_in_lowest_terms) (C8.fnBody s_in_lowest_terms) (C8.fnScope s_in_lowest_terms) .none kV4 dc4 pm4 an4 cd4 ct4), sl4⟩)
    (c4 : PySem.W.codeIn K cd4 "_in_lowest_terms" = true) (k4 : PySem.W.keepIn K (.ref f4) = true)
    {f5 : Addr} {oc5 : Value} {od5 : Option Addr} {an5 : Option Addr} {sl5 : Array (Option Value)} {kV5 : Value} {dc5 : Value} {pm5 : Value} {cd5 : Value} {ct5 : Value}
    (a5 : PySem.W.nsIn K mainGlobals "_missing" = some (some (.ref f5)))
    (l5 : K.lookup f5 = some ⟨oc5, od5, .func (PySem.W.fnOf "_missing" "_missing" (C8.fnArgs s_missing) (C8.fnBody s_missing) (C8.fnScope s_missing) .none kV5 dc5 pm5 an5 cd5 ct5), sl5⟩)
    (c5 : PySem.W.codeIn K cd5 "_missing" = true) (k5 : PySem.W.keepIn K (.ref f5) = true)
    {f6 : Addr} {oc6 : Value} {od6 : Option Addr} {an6 : Option Addr} {sl6 : Array (Option Value)} {kV6 : Value} {dc6 : Value} {pm6 : Value} {cd6 : Value} {ct6 : Value}
    (a6 : PySem.W.nsIn K mainGlobals "_law_number" = some (some (.ref f6)))
    (l6 : K.lookup f6 = some ⟨oc6, od6, .func (PySem.W.fnOf "_law_number" "_law_number" (C8.fnArgs s_law_number) (C8.fnBody s_law_number) (C8.fnScope s_law_number) .none kV6 dc6 pm6 an6 cd6 ct6), sl6⟩)
    (c6 : PySem.W.codeIn K cd6 "_law_number" = true) (k6 : PySem.W.keepIn K (.ref f6) = true)
    {f7 : Addr} {oc7 : Value} {od7 : Option Addr} {an7 : Option Addr} {sl7 : Array (Option Value)} {kV7 : Value} {dc7 : Value} {pm7 : Value} {cd7 : Value} {ct7 : Value}
    (a7 : PySem.W.nsIn K mainGlobals "_law_places" = some (some (.ref f7)))
    (l7 : K.lookup f7 = some ⟨oc7, od7, .func (PySem.W.fnOf "_law_places" "_law_places" (C8.fnArgs s_law_places) (C8.fnBody s_law_places) (C8.fnScope s_law_places) .none kV7 dc7 pm7 an7 cd7 ct7), sl7⟩)
    (c7 : PySem.W.codeIn K cd7 "_law_places" = true) (k7 : PySem.W.keepIn K (.ref f7) = true)
    {f8 : Addr} {oc8 : Value} {od8 : Option Addr} {an8 : Option Addr} {sl8 : Array (Option Value)} {kV8 : Value} {dc8 : Value} {pm8 : Value} {cd8 : Value} {ct8 : Value}
    (a8 : PySem.W.nsIn K mainGlobals "_law_power" = some (some (.ref f8)))
    (l8 : K.lookup f8 = some ⟨oc8, od8, .func (PySem.W.fnOf "_law_power" "_law_power" (C8.fnArgs s_law_power) (C8.fnBody s_law_power) (C8.fnScope s_law_power) .none kV8 dc8 pm8 an8 cd8 ct8), sl8⟩)
    (c8 : PySem.W.codeIn K cd8 "_law_power" = true) (k8 : PySem.W.keepIn K (.ref f8) = true)
    {f9 : Addr} {oc9 : Value} {od9 : Option Addr} {an9 : Option Addr} {sl9 : Array (Option Value)} {kV9 : Value} {dc9 : Value} {pm9 : Value} {cd9 : Value} {ct9 : Value}
    (a9 : PySem.W.nsIn K mainGlobals "_law_full" = some (some (.ref f9)))
    (l9 : K.lookup f9 = some ⟨oc9, od9, .func (PySem.W.fnOf "_law_full" "_law_full" (C8.fnArgs s_law_full) (C8.fnBody s_law_full) (C8.fnScope s_law_full) .none kV9 dc9 pm9 an9 cd9 ct9), sl9⟩)
    (c9 : PySem.W.codeIn K cd9 "_law_full" = true) (k9 : PySem.W.keepIn K (.ref f9) = true)
    {f10 : Addr} {oc10 : Value} {od10 : Option Addr} {an10 : Option Addr} {sl10 : Array (Option Value)} {kV10 : Value} {dc10 : Value} {pm10 : Value} {cd10 : Value} {ct10 : Value}
    (a10 : PySem.W.nsIn K mainGlobals "check_places" = some (some (.ref f10)))
    (l10 : K.lookup f10 = some ⟨oc10, od10, .func (PySem.W.fnOf "check_places" "check_places" (C8.fnArgs s_check_places) (C8.fnBody s_check_places) (C8.fnScope s_check_places) .none kV10 dc10 pm10 an10 cd10 ct10), sl10⟩)
    (c10 : PySem.W.codeIn K cd10 "check_places" = true) (k10 : PySem.W.keepIn K (.ref f10) = true)
    {f11 : Addr} {oc11 : Value} {od11 : Option Addr} {an11 : Option Addr} {sl11 : Array (Option Value)} {kV11 : Value} {dc11 : Value} {pm11 : Value} {cd11 : Value} {ct11 : Value}
    (a11 : PySem.W.nsIn K mainGlobals "is_count" = some (some (.ref f11)))
    (l11 : K.lookup f11 = some ⟨oc11, od11, .func (PySem.W.fnOf "is_count" "is_count" (C8.fnArgs s_is_count) (C8.fnBody s_is_count) (C8.fnScope s_is_count) .none kV11 dc11 pm11 an11 cd11 ct11), sl11⟩)
    (c11 : PySem.W.codeIn K cd11 "is_count" = true) (k11 : PySem.W.keepIn K (.ref f11) = true)
    {f12 : Addr} {oc12 : Value} {od12 : Option Addr} {an12 : Option Addr} {sl12 : Array (Option Value)} {kV12 : Value} {dc12 : Value} {pm12 : Value} {cd12 : Value} {ct12 : Value}
    (a12 : PySem.W.nsIn K mainGlobals "_units_of_line" = some (some (.ref f12)))
    (l12 : K.lookup f12 = some ⟨oc12, od12, .func (PySem.W.fnOf "_units_of_line" "_units_of_line" (C8.fnArgs s_units_of_line) (C8.fnBody s_units_of_line) (C8.fnScope s_units_of_line) .none kV12 dc12 pm12 an12 cd12 ct12), sl12⟩)
    (c12 : PySem.W.codeIn K cd12 "_units_of_line" = true) (k12 : PySem.W.keepIn K (.ref f12) = true)
    {f13 : Addr} {oc13 : Value} {od13 : Option Addr} {an13 : Option Addr} {sl13 : Array (Option Value)} {kV13 : Value} {dc13 : Value} {pm13 : Value} {cd13 : Value} {ct13 : Value}
    (a13 : PySem.W.nsIn K mainGlobals "_law_lines" = some (some (.ref f13)))
    (l13 : K.lookup f13 = some ⟨oc13, od13, .func (PySem.W.fnOf "_law_lines" "_law_lines" (C8.fnArgs s_law_lines) (C8.fnBody s_law_lines) (C8.fnScope s_law_lines) .none kV13 dc13 pm13 an13 cd13 ct13), sl13⟩)
    (c13 : PySem.W.codeIn K cd13 "_law_lines" = true) (k13 : PySem.W.keepIn K (.ref f13) = true)
    {f14 : Addr} {oc14 : Value} {od14 : Option Addr} {an14 : Option Addr} {sl14 : Array (Option Value)} {kV14 : Value} {dc14 : Value} {pm14 : Value} {cd14 : Value} {ct14 : Value}
    (a14 : PySem.W.nsIn K mainGlobals "_law_takings" = some (some (.ref f14)))
    (l14 : K.lookup f14 = some ⟨oc14, od14, .func (PySem.W.fnOf "_law_takings" "_law_takings" (C8.fnArgs s_law_takings) (C8.fnBody s_law_takings) (C8.fnScope s_law_takings) .none kV14 dc14 pm14 an14 cd14 ct14), sl14⟩)
    (c14 : PySem.W.codeIn K cd14 "_law_takings" = true) (k14 : PySem.W.keepIn K (.ref f14) = true)
    {f15 : Addr} {oc15 : Value} {od15 : Option Addr} {an15 : Option Addr} {sl15 : Array (Option Value)} {kV15 : Value} {dc15 : Value} {pm15 : Value} {cd15 : Value} {ct15 : Value}
    (a15 : PySem.W.nsIn K mainGlobals "_law_weights" = some (some (.ref f15)))
    (l15 : K.lookup f15 = some ⟨oc15, od15, .func (PySem.W.fnOf "_law_weights" "_law_weights" (C8.fnArgs s_law_weights) (C8.fnBody s_law_weights) (C8.fnScope s_law_weights) .none kV15 dc15 pm15 an15 cd15 ct15), sl15⟩)
    (c15 : PySem.W.codeIn K cd15 "_law_weights" = true) (k15 : PySem.W.keepIn K (.ref f15) = true)
    {f16 : Addr} {oc16 : Value} {od16 : Option Addr} {an16 : Option Addr} {sl16 : Array (Option Value)} {kV16 : Value} {dc16 : Value} {pm16 : Value} {cd16 : Value} {ct16 : Value}
    (a16 : PySem.W.nsIn K mainGlobals "_is_list_of_places" = some (some (.ref f16)))
    (l16 : K.lookup f16 = some ⟨oc16, od16, .func (PySem.W.fnOf "_is_list_of_places" "_is_list_of_places" (C8.fnArgs s_is_list_of_places) (C8.fnBody s_is_list_of_places) (C8.fnScope s_is_list_of_places) .none kV16 dc16 pm16 an16 cd16 ct16), sl16⟩)
    (c16 : PySem.W.codeIn K cd16 "_is_list_of_places" = true) (k16 : PySem.W.keepIn K (.ref f16) = true)
    {f17 : Addr} {oc17 : Value} {od17 : Option Addr} {an17 : Option Addr} {sl17 : Array (Option Value)} {kV17 : Value} {dc17 : Value} {pm17 : Value} {cd17 : Value} {ct17 : Value}
    (a17 : PySem.W.nsIn K mainGlobals "_units_of_lines" = some (some (.ref f17)))
    (l17 : K.lookup f17 = some ⟨oc17, od17, .func (PySem.W.fnOf "_units_of_lines" "_units_of_lines" (C8.fnArgs s_units_of_lines) (C8.fnBody s_units_of_lines) (C8.fnScope s_units_of_lines) .none kV17 dc17 pm17 an17 cd17 ct17), sl17⟩)
    (c17 : PySem.W.codeIn K cd17 "_units_of_lines" = true) (k17 : PySem.W.keepIn K (.ref f17) = true)
    {f18 : Addr} {oc18 : Value} {od18 : Option Addr} {an18 : Option Addr} {sl18 : Array (Option Value)} {kV18 : Value} {dc18 : Value} {pm18 : Value} {cd18 : Value} {ct18 : Value}
    (a18 : PySem.W.nsIn K mainGlobals "check_takings" = some (some (.ref f18)))
    (l18 : K.lookup f18 = some ⟨oc18, od18, .func (PySem.W.fnOf "check_takings" "check_takings" (C8.fnArgs s_check_takings) (C8.fnBody s_check_takings) (C8.fnScope s_check_takings) .none kV18 dc18 pm18 an18 cd18 ct18), sl18⟩)
    (c18 : PySem.W.codeIn K cd18 "check_takings" = true) (k18 : PySem.W.keepIn K (.ref f18) = true)
    {f19 : Addr} {oc19 : Value} {od19 : Option Addr} {an19 : Option Addr} {sl19 : Array (Option Value)} {kV19 : Value} {dc19 : Value} {pm19 : Value} {cd19 : Value} {ct19 : Value}
    (a19 : PySem.W.nsIn K mainGlobals "_is_line" = some (some (.ref f19)))
    (l19 : K.lookup f19 = some ⟨oc19, od19, .func (PySem.W.fnOf "_is_line" "_is_line" (C8.fnArgs s_is_line) (C8.fnBody s_is_line) (C8.fnScope s_is_line) .none kV19 dc19 pm19 an19 cd19 ct19), sl19⟩)
    (c19 : PySem.W.codeIn K cd19 "_is_line" = true) (k19 : PySem.W.keepIn K (.ref f19) = true)
    {f20 : Addr} {oc20 : Value} {od20 : Option Addr} {an20 : Option Addr} {sl20 : Array (Option Value)} {kV20 : Value} {dc20 : Value} {pm20 : Value} {cd20 : Value} {ct20 : Value}
    (a20 : PySem.W.nsIn K mainGlobals "_total" = some (some (.ref f20)))
    (l20 : K.lookup f20 = some ⟨oc20, od20, .func (PySem.W.fnOf "_total" "_total" (C8.fnArgs s_total) (C8.fnBody s_total) (C8.fnScope s_total) .none kV20 dc20 pm20 an20 cd20 ct20), sl20⟩)
    (c20 : PySem.W.codeIn K cd20 "_total" = true) (k20 : PySem.W.keepIn K (.ref f20) = true)
    {f21 : Addr} {oc21 : Value} {od21 : Option Addr} {an21 : Option Addr} {sl21 : Array (Option Value)} {kV21 : Value} {dc21 : Value} {pm21 : Value} {cd21 : Value} {ct21 : Value}
    (a21 : PySem.W.nsIn K mainGlobals "_units_of_free" = some (some (.ref f21)))
    (l21 : K.lookup f21 = some ⟨oc21, od21, .func (PySem.W.fnOf "_units_of_free" "_units_of_free" (C8.fnArgs s_units_of_free) (C8.fnBody s_units_of_free) (C8.fnScope s_units_of_free) .none kV21 dc21 pm21 an21 cd21 ct21), sl21⟩)
    (c21 : PySem.W.codeIn K cd21 "_units_of_free" = true) (k21 : PySem.W.keepIn K (.ref f21) = true)
    {f22 : Addr} {oc22 : Value} {od22 : Option Addr} {an22 : Option Addr} {sl22 : Array (Option Value)} {kV22 : Value} {dc22 : Value} {pm22 : Value} {cd22 : Value} {ct22 : Value}
    (a22 : PySem.W.nsIn K mainGlobals "check_lines" = some (some (.ref f22)))
    (l22 : K.lookup f22 = some ⟨oc22, od22, .func (PySem.W.fnOf "check_lines" "check_lines" (C8.fnArgs s_check_lines) (C8.fnBody s_check_lines) (C8.fnScope s_check_lines) .none kV22 dc22 pm22 an22 cd22 ct22), sl22⟩)
    (c22 : PySem.W.codeIn K cd22 "check_lines" = true) (k22 : PySem.W.keepIn K (.ref f22) = true)
    {f23 : Addr} {oc23 : Value} {od23 : Option Addr} {an23 : Option Addr} {sl23 : Array (Option Value)} {kV23 : Value} {dc23 : Value} {pm23 : Value} {cd23 : Value} {ct23 : Value}
    (a23 : PySem.W.nsIn K mainGlobals "check_play" = some (some (.ref f23)))
    (l23 : K.lookup f23 = some ⟨oc23, od23, .func (PySem.W.fnOf "check_play" "check_play" (C8.fnArgs s_check_play) (C8.fnBody s_check_play) (C8.fnScope s_check_play) .none kV23 dc23 pm23 an23 cd23 ct23), sl23⟩)
    (c23 : PySem.W.codeIn K cd23 "check_play" = true) (k23 : PySem.W.keepIn K (.ref f23) = true)
    {f24 : Addr} {oc24 : Value} {od24 : Option Addr} {an24 : Option Addr} {sl24 : Array (Option Value)} {kV24 : Value} {dc24 : Value} {pm24 : Value} {cd24 : Value} {ct24 : Value}
    (a24 : PySem.W.nsIn K mainGlobals "danger" = some (some (.ref f24)))
    (l24 : K.lookup f24 = some ⟨oc24, od24, .func (PySem.W.fnOf "danger" "danger" (C8.fnArgs s_danger) (C8.fnBody s_danger) (C8.fnScope s_danger) .none kV24 dc24 pm24 an24 cd24 ct24), sl24⟩)
    (c24 : PySem.W.codeIn K cd24 "danger" = true) (k24 : PySem.W.keepIn K (.ref f24) = true)
    {f25 : Addr} {oc25 : Value} {od25 : Option Addr} {an25 : Option Addr} {sl25 : Array (Option Value)} {kV25 : Value} {dc25 : Value} {pm25 : Value} {cd25 : Value} {ct25 : Value}
    (a25 : PySem.W.nsIn K mainGlobals "sure" = some (some (.ref f25)))
    (l25 : K.lookup f25 = some ⟨oc25, od25, .func (PySem.W.fnOf "sure" "sure" (C8.fnArgs s_sure) (C8.fnBody s_sure) (C8.fnScope s_sure) .none kV25 dc25 pm25 an25 cd25 ct25), sl25⟩)
    (c25 : PySem.W.codeIn K cd25 "sure" = true) (k25 : PySem.W.keepIn K (.ref f25) = true)
    {f26 : Addr} {oc26 : Value} {od26 : Option Addr} {an26 : Option Addr} {sl26 : Array (Option Value)} {kV26 : Value} {dc26 : Value} {pm26 : Value} {cd26 : Value} {ct26 : Value}
    (a26 : PySem.W.nsIn K mainGlobals "best" = some (some (.ref f26)))
    (l26 : K.lookup f26 = some ⟨oc26, od26, .func (PySem.W.fnOf "best" "best" (C8.fnArgs s_best) (C8.fnBody s_best) (C8.fnScope s_best) .none kV26 dc26 pm26 an26 cd26 ct26), sl26⟩)
    (c26 : PySem.W.codeIn K cd26 "best" = true) (k26 : PySem.W.keepIn K (.ref f26) = true)
    {f27 : Addr} {oc27 : Value} {od27 : Option Addr} {an27 : Option Addr} {sl27 : Array (Option Value)} {kV27 : Value} {dc27 : Value} {pm27 : Value} {cd27 : Value} {ct27 : Value}
    (a27 : PySem.W.nsIn K mainGlobals "full" = some (some (.ref f27)))
    (l27 : K.lookup f27 = some ⟨oc27, od27, .func (PySem.W.fnOf "full" "full" (C8.fnArgs s_full) (C8.fnBody s_full) (C8.fnScope s_full) .none kV27 dc27 pm27 an27 cd27 ct27), sl27⟩)
    (c27 : PySem.W.codeIn K cd27 "full" = true) (k27 : PySem.W.keepIn K (.ref f27) = true)
    {f28 : Addr} {oc28 : Value} {od28 : Option Addr} {an28 : Option Addr} {sl28 : Array (Option Value)} {kV28 : Value} {dc28 : Value} {pm28 : Value} {cd28 : Value} {ct28 : Value}
    (a28 : PySem.W.nsIn K mainGlobals "_law_his" = some (some (.ref f28)))
    (l28 : K.lookup f28 = some ⟨oc28, od28, .func (PySem.W.fnOf "_law_his" "_law_his" (C8.fnArgs s_law_his) (C8.fnBody s_law_his) (C8.fnScope s_law_his) .none kV28 dc28 pm28 an28 cd28 ct28), sl28⟩)
    (c28 : PySem.W.codeIn K cd28 "_law_his" = true) (k28 : PySem.W.keepIn K (.ref f28) = true)
    {f29 : Addr} {oc29 : Value} {od29 : Option Addr} {an29 : Option Addr} {sl29 : Array (Option Value)} {kV29 : Value} {dc29 : Value} {pm29 : Value} {cd29 : Value} {ct29 : Value}
    (a29 : PySem.W.nsIn K mainGlobals "_law_holds" = some (some (.ref f29)))
    (l29 : K.lookup f29 = some ⟨oc29, od29, .func (PySem.W.fnOf "_law_holds" "_law_holds" (C8.fnArgs s_law_holds) (C8.fnBody s_law_holds) (C8.fnScope s_law_holds) .none kV29 dc29 pm29 an29 cd29 ct29), sl29⟩)
    (c29 : PySem.W.codeIn K cd29 "_law_holds" = true) (k29 : PySem.W.keepIn K (.ref f29) = true)
    {f30 : Addr} {oc30 : Value} {od30 : Option Addr} {an30 : Option Addr} {sl30 : Array (Option Value)} {kV30 : Value} {dc30 : Value} {pm30 : Value} {cd30 : Value} {ct30 : Value}
    (a30 : PySem.W.nsIn K mainGlobals "law" = some (some (.ref f30)))
    (l30 : K.lookup f30 = some ⟨oc30, od30, .func (PySem.W.fnOf "law" "law" (C8.fnArgs s_main) (C8.fnBody s_main) (C8.fnScope s_main) .none kV30 dc30 pm30 an30 cd30 ct30), sl30⟩)
    (c30 : PySem.W.codeIn K cd30 "law" = true) (k30 : PySem.W.keepIn K (.ref f30) = true)
    {t0 : Tok} (n0 : PySem.W.nsIn K mainGlobals "MOST_LINES" = some (some (.int 60 t0)))
    {t1 : Tok} (n1 : PySem.W.nsIn K mainGlobals "MOST_PLACES" = some (some (.int 60 t1)))
    (n2 : PySem.W.nsIn K mainGlobals "all" = some none)
    (n3 : PySem.W.nsIn K mainGlobals "any" = some none)
    (n4 : PySem.W.nsIn K mainGlobals "bool" = some none)
    (n5 : PySem.W.nsIn K mainGlobals "enumerate" = some none)
    (n6 : PySem.W.nsIn K mainGlobals "gcd" = some (some (.builtin "math.gcd")))
    (n7 : PySem.W.nsIn K mainGlobals "int" = some none)
    (n8 : PySem.W.nsIn K mainGlobals "isinstance" = some none)
    (n9 : PySem.W.nsIn K mainGlobals "len" = some none)
    (n10 : PySem.W.nsIn K mainGlobals "list" = some none)
    (n11 : PySem.W.nsIn K mainGlobals "max" = some none)
    (n12 : PySem.W.nsIn K mainGlobals "min" = some none)
    (n13 : PySem.W.nsIn K mainGlobals "range" = some none)
    (n14 : PySem.W.nsIn K mainGlobals "set" = some none)
    (n15 : PySem.W.nsIn K mainGlobals "sorted" = some none)
    (n16 : PySem.W.nsIn K mainGlobals "sum" = some none)
    (n17 : PySem.W.nsIn K mainGlobals "zip" = some none) :
    ∃ fd : FuncData, (∀ (s : Shared) (v : Value), BindsTo s fd ⟨[v], []⟩ [("_law_script", v)]) ∧ ∀ base : Heap, K.In base → base.Ns mainGlobals mg → FnOk P w K mg base C8.CX0 10 fa fd ["_law_script"] (sp_main (⟨K, w, 0, 0, 0, 0, 0, 0, 0⟩ : Cn)) := by
  have e := hfa.symm.trans (PySem.W.mg_of X G a30)
  cases e
  have T : Tb mg := ⟨⟨_, PySem.W.mg_of X G n0⟩, ⟨_, PySem.W.mg_of X G n1⟩, PySem.W.mg_none_of X G n2, PySem.W.mg_none_of X G n3, PySem.W.mg_none_of X G n4, PySem.W.mg_none_of X G n5, PySem.W.mg_of X G n6, PySem.W.mg_none_of X G n7, PySem.W.mg_none_of X G n8, PySem.W.mg_none_of X G n9, PySem.W.mg_none_of X G n10, PySem.W.mg_none_of X G n11, PySem.W.mg_none_of X G n12, PySem.W.mg_none_of X G n13, PySem.W.mg_none_of X G n14, PySem.W.mg_none_of X G n15, PySem.W.mg_none_of X G n16, PySem.W.mg_none_of X G n17⟩
  have F1 := LH.defOf (st := s_is_whole) X G a1 l1 c1 k1
  have b1 := F1.fn.binds (ps := ["value"]) rfl fun _ _ _ _ _ _ us hl => match us, hl with | [_], _ => rfl
  have F2 := LH.defOf (st := s_free_places) X G a2 l2 c2 k2
  have b2 := F2.fn.binds (ps := ["places", "his", "mine"]) rfl fun _ _ _ _ _ _ us hl => match us, hl with | [_, _, _], _ => rfl
  have F3 := LH.defOf (st := s_one) X G a3 l3 c3 k3
  have b3 := F3.fn.binds (ps := ["places"]) rfl fun _ _ _ _ _ _ us hl => match us, hl with | [_], _ => rfl
  have F4 := LH.defOf (st := s_in_lowest_terms) X G a4 l4 c4 k4
  have b4 := F4.fn.binds (ps := ["units", "one"]) rfl fun _ _ _ _ _ _ us hl => match us, hl with | [_, _], _ => rfl
  have F5 := LH.defOf (st := s_missing) X G a5 l5 c5 k5
  have b5 := F5.fn.binds (ps := ["line", "his"]) rfl fun _ _ _ _ _ _ us hl => match us, hl with | [_, _], _ => rfl
  have F6 := LH.defOf (st := s_law_number) X G a6 l6 c6 k6
  have b6 := F6.fn.binds (ps := ["_law_cell", "_law_at", "_law_whole"]) rfl fun _ _ _ _ _ _ us hl => match us, hl with | [_, _, _], _ => rfl
  have F7 := LH.defOf (st := s_law_places) X G a7 l7 c7 k7
  have b7 := F7.fn.binds (ps := ["_law_script"]) rfl fun _ _ _ _ _ _ us hl => match us, hl with | [_], _ => rfl
  have F8 := LH.defOf (st := s_law_power) X G a8 l8 c8 k8
  have b8 := F8.fn.binds (ps := ["_law_many"]) rfl fun _ _ _ _ _ _ us hl => match us, hl with | [_], _ => rfl
  have F9 := LH.defOf (st := s_law_full) X G a9 l9 c9 k9
  have b9 := F9.fn.binds (ps := ["_law_lines_here", "_law_his_here"]) rfl fun _ _ _ _ _ _ us hl => match us, hl with | [_, _], _ => rfl
  have F10 := LH.defOf (st := s_check_places) X G a10 l10 c10 k10
  have b10 := F10.fn.binds (ps := ["places"]) rfl fun _ _ _ _ _ _ us hl => match us, hl with | [_], _ => rfl
  have F11 := LH.defOf (st := s_is_count) X G a11 l11 c11 k11
  have b11 := F11.fn.binds (ps := ["many", "value"]) rfl fun _ _ _ _ _ _ us hl => match us, hl with | [_, _], _ => rfl
  have F12 := LH.defOf (st := s_units_of_line) X G a12 l12 c12 k12
  have b12 := F12.fn.binds (ps := ["places", "line", "his", "mine"]) rfl fun _ _ _ _ _ _ us hl => match us, hl with | [_, _, _, _], _ => rfl
  have F13 := LH.defOf (st := s_law_lines) X G a13 l13 c13 k13
  have b13 := F13.fn.binds (ps := ["_law_script", "_law_places_here", "_law_least"]) rfl fun _ _ _ _ _ _ us hl => match us, hl with | [_, _, _], _ => rfl
  have F14 := LH.defOf (st := s_law_takings) X G a14 l14 c14 k14
  have b14 := F14.fn.binds (ps := ["_law_script", "_law_places_here", "_law_by"]) rfl fun _ _ _ _ _ _ us hl => match us, hl with | [_, _, _], _ => rfl
  have F15 := LH.defOf (st := s_law_weights) X G a15 l15 c15 k15
  have b15 := F15.fn.binds (ps := ["_law_lines_here", "_law_his_here", "_law_mine"]) rfl fun _ _ _ _ _ _ us hl => match us, hl with | [_, _, _], _ => rfl
  have F16 := LH.defOf (st := s_is_list_of_places) X G a16 l16 c16 k16
  have b16 := F16.fn.binds (ps := ["places", "values"]) rfl fun _ _ _ _ _ _ us hl => match us, hl with | [_, _], _ => rfl
  have F17 := LH.defOf (st := s_units_of_lines) X G a17 l17 c17 k17
  have b17 := F17.fn.binds (ps := ["places", "lines", "his", "mine"]) rfl fun _ _ _ _ _ _ us hl => match us, hl with | [_, _, _, _], _ => rfl
  have F18 := LH.defOf (st := s_check_takings) X G a18 l18 c18 k18
  have b18 := F18.fn.binds (ps := ["places", "his", "mine"]) rfl fun _ _ _ _ _ _ us hl => match us, hl with | [_, _, _], _ => rfl
  have F19 := LH.defOf (st := s_is_line) X G a19 l19 c19 k19
  have b19 := F19.fn.binds (ps := ["places", "line"]) rfl fun _ _ _ _ _ _ us hl => match us, hl with | [_, _], _ => rfl
  have F20 := LH.defOf (st := s_total) X G a20 l20 c20 k20
  have b20 := F20.fn.binds (ps := ["places", "lines", "his", "mine"]) rfl fun _ _ _ _ _ _ us hl => match us, hl with | [_, _, _, _], _ => rfl
  have F21 := LH.defOf (st := s_units_of_free) X G a21 l21 c21 k21
  have b21 := F21.fn.binds (ps := ["places", "lines", "his", "mine"]) rfl fun _ _ _ _ _ _ us hl => match us, hl with | [_, _, _, _], _ => rfl
  have F22 := LH.defOf (st := s_check_lines) X G a22 l22 c22 k22
  have b22 := F22.fn.binds (ps := ["places", "lines"]) rfl fun _ _ _ _ _ _ us hl => match us, hl with | [_, _], _ => rfl
  have F23 := LH.defOf (st := s_check_play) X G a23 l23 c23 k23
  have b23 := F23.fn.binds (ps := ["places", "lines", "his", "mine"]) rfl fun _ _ _ _ _ _ us hl => match us, hl with | [_, _, _, _], _ => rfl
  have F24 := LH.defOf (st := s_danger) X G a24 l24 c24 k24
  have b24 := F24.fn.binds (ps := ["places", "lines", "his", "mine"]) rfl fun _ _ _ _ _ _ us hl => match us, hl with | [_, _, _, _], _ => rfl
  have F25 := LH.defOf (st := s_sure) X G a25 l25 c25 k25
  have b25 := F25.fn.binds (ps := ["places", "lines", "his", "mine"]) rfl fun _ _ _ _ _ _ us hl => match us, hl with | [_, _, _, _], _ => rfl
  have F26 := LH.defOf (st := s_best) X G a26 l26 c26 k26
  have b26 := F26.fn.binds (ps := ["places", "lines", "his", "mine"]) rfl fun _ _ _ _ _ _ us hl => match us, hl with | [_, _, _, _], _ => rfl
  have F27 := LH.defOf (st := s_full) X G a27 l27 c27 k27
  have b27 := F27.fn.binds (ps := ["places", "lines", "his", "mine"]) rfl fun _ _ _ _ _ _ us hl => match us, hl with | [_, _, _, _], _ => rfl
  have F28 := LH.defOf (st := s_law_his) X G a28 l28 c28 k28
  have b28 := F28.fn.binds (ps := ["_law_script", "_law_places_here", "_law_lines_here", "_law_his_here", "_law_mine", "_law_way"]) rfl fun _ _ _ _ _ _ us hl => match us, hl with | [_, _, _, _, _, _], _ => rfl
  have F29 := LH.defOf (st := s_law_holds) X G a29 l29 c29 k29
  have b29 := F29.fn.binds (ps := ["_law_script", "_law_places_here", "_law_lines_here", "_law_his_here", "_law_mine", "_law_first", "_law_way"]) rfl fun _ _ _ _ _ _ us hl => match us, hl with | [_, _, _, _, _, _, _], _ => rfl
  have F30 := LH.defOf (st := s_main) X G a30 l30 c30 k30
  refine ⟨PySem.W.fnOf "law" "law" (C8.fnArgs s_main) (C8.fnBody s_main) (C8.fnScope s_main) .none kV30 dc30 pm30 an30 cd30 ct30, fun s v => .of_eq rfl, fun base _ _ => ?_⟩
  have G1 := ok_is_whole (P := P) (base := base) (c := (⟨K, w, 0, 0, 0, 0, 0, 0, 0⟩ : Cn)) F1 b1 T
  have G2 := ok_free_places (P := P) (base := base) (c := (⟨K, w, 0, 0, 0, 0, 0, 0, 0⟩ : Cn)) F2 b2 T
  have G3 := ok_one (P := P) (base := base) (c := (⟨K, w, 0, 0, 0, 0, 0, 0, 0⟩ : Cn)) F3 b3 T
  have G4 := ok_in_lowest_terms (P := P) (base := base) (c := (⟨K, w, 0, 0, 0, 0, 0, 0, 0⟩ : Cn)) F4 b4 T
  have G5 := ok_missing (P := P) (base := base) (c := (⟨K, w, 0, 0, 0, 0, 0, 0, 0⟩ : Cn)) F5 b5 T
  have G6 := ok_law_number (P := P) (base := base) (c := (⟨K, w, 0, 0, 0, 0, 0, 0, 0⟩ : Cn)) F6 b6 T
  have G7 := ok_law_places (P := P) (base := base) (c := (⟨K, w, 0, 0, 0, 0, 0, 0, 0⟩ : Cn)) F7 b7 T
  have G8 := ok_law_power (P := P) (base := base) (c := (⟨K, w, 0, 0, 0, 0, 0, 0, 0⟩ : Cn)) F8 b8 T
  have G9 := ok_law_full (P := P) (base := base) (c := (⟨K, w, 0, 0, 0, 0, 0, 0, 0⟩ : Cn)) F9 b9 T
  have G10 := ok_check_places (P := P) (base := base) (c := (⟨K, w, 0, 0, 0, 0, 0, 0, 0⟩ : Cn)) F10 b10 T G1
  have G11 := ok_is_count (P := P) (base := base) (c := (⟨K, w, 0, 0, 0, 0, 0, 0, 0⟩ : Cn)) F11 b11 T G1
  have G12 := ok_units_of_line (P := P) (base := base) (c := (⟨K, w, 0, 0, 0, 0, 0, 0, 0⟩ : Cn)) F12 b12 T G5
  have G13 := ok_law_lines (P := P) (base := base) (c := (⟨K, w, 0, 0, 0, 0, 0, 0, 0⟩ : Cn)) F13 b13 T G6
  have G14 := ok_law_takings (P := P) (base := base) (c := (⟨K, w, 0, 0, 0, 0, 0, 0, 0⟩ : Cn)) F14 b14 T G6
  have G15 := ok_law_weights (P := P) (base := base) (c := (⟨K, w, 0, 0, 0, 0, 0, 0, 0⟩ : Cn)) F15 b15 T G8
  have G16 := ok_is_list_of_places (P := P) (base := base) (c := (⟨K, w, 0, 0, 0, 0, 0, 0, 0⟩ : Cn)) F16 b16 T G11
  have G17 := ok_units_of_lines (P := P) (base := base) (c := (⟨K, w, 0, 0, 0, 0, 0, 0, 0⟩ : Cn)) F17 b17 T G12
  have G18 := ok_check_takings (P := P) (base := base) (c := (⟨K, w, 0, 0, 0, 0, 0, 0, 0⟩ : Cn)) F18 b18 T G16
  have G19 := ok_is_line (P := P) (base := base) (c := (⟨K, w, 0, 0, 0, 0, 0, 0, 0⟩ : Cn)) F19 b19 T G16
  have G20 := ok_total (P := P) (base := base) (c := (⟨K, w, 0, 0, 0, 0, 0, 0, 0⟩ : Cn)) F20 b20 T G17
  have G21 := ok_units_of_free (P := P) (base := base) (c := (⟨K, w, 0, 0, 0, 0, 0, 0, 0⟩ : Cn)) F21 b21 T G17 G2
  have G22 := ok_check_lines (P := P) (base := base) (c := (⟨K, w, 0, 0, 0, 0, 0, 0, 0⟩ : Cn)) F22 b22 T G19
  have G23 := ok_check_play (P := P) (base := base) (c := (⟨K, w, 0, 0, 0, 0, 0, 0, 0⟩ : Cn)) F23 b23 T G22 G10 G18
  have G24 := ok_danger (P := P) (base := base) (c := (⟨K, w, 0, 0, 0, 0, 0, 0, 0⟩ : Cn)) F24 b24 T G4 G3 G20 G23
  have G25 := ok_sure (P := P) (base := base) (c := (⟨K, w, 0, 0, 0, 0, 0, 0, 0⟩ : Cn)) F25 b25 T G3 G20 G23
  have G26 := ok_best (P := P) (base := base) (c := (⟨K, w, 0, 0, 0, 0, 0, 0, 0⟩ : Cn)) F26 b26 T G21 G23
  have G27 := ok_full (P := P) (base := base) (c := (⟨K, w, 0, 0, 0, 0, 0, 0, 0⟩ : Cn)) F27 b27 T G5 G23
  have G28 := ok_law_his (P := P) (base := base) (c := (⟨K, w, 0, 0, 0, 0, 0, 0, 0⟩ : Cn)) F28 b28 T G6 G15 G26
  have G29 := ok_law_holds (P := P) (base := base) (c := (⟨K, w, 0, 0, 0, 0, 0, 0, 0⟩ : Cn)) F29 b29 T G9 G28 G26 G24 G27
  exact fn_main (c := (⟨K, w, 0, 0, 0, 0, 0, 0, 0⟩ : Cn)) F30 T G29 G13 G7 G14 G25
end K02

open PySem PySem.W PyProof.Rows in
set_option maxRecDepth 100000 in
set_option maxHeartbeats 0 in
theorem PySem.Challenge.cw_linehold_k02_whole_held_holds : PySem.Challenge.rw_linehold_k02_whole_held.Holds := by
  w_on; o_law; k_head; (case hw => w_witness2)
  k_fill
  refine LH.walk (l := PySem.Challenge.rw_linehold_k02_whole_held) (k := 10) (sp := fun K w => K02.sp_main ⟨K, w, 0, 0, 0, 0, 0, 0, 0⟩) rfl rfl ⟨rfl, by decide, by decide⟩ (fun w h Y => PySem.W.kIn_of Y) ?F (fun K w H a ns hl hb hS Q k => ⟨H, .ref a, ns, Evl.Ex.refl H, rfl, ⟨a, rfl, hS⟩, hb, hl, fun H2 _ => k H2⟩)
  case F =>
    intro w mg fa h KX G hmg
    refine' K02.all KX G hmg ?a1 ?l1 ?c1 ?k1 ?a2 ?l2 ?c2 ?k2 ?a3 ?l3 ?c3 ?k3 ?a4 ?l4 ?c4 ?k4 ?a5 ?l5 ?c5 ?k5 ?a6 ?l6 ?c6 ?k6 ?a7 ?l7 ?c7 ?k7 ?a8 ?l8 ?c8 ?k8 ?a9 ?l9 ?c9 ?k9 ?a10 ?l10 ?c10 ?k10 ?a11 ?l11 ?c11 ?k11 ?a12 ?l12 ?c12 ?k12 ?a13 ?l13 ?c13 ?k13 ?a14 ?l14 ?c14 ?k14 ?a15 ?l15 ?c15 ?k15 ?a16 ?l16 ?c16 ?k16 ?a17 ?l17 ?c17 ?k17 ?a18 ?l18 ?c18 ?k18 ?a19 ?l19 ?c19 ?k19 ?a20 ?l20 ?c20 ?k20 ?a21 ?l21 ?c21 ?k21 ?a22 ?l22 ?c22 ?k22 ?a23 ?l23 ?c23 ?k23 ?a24 ?l24 ?c24 ?k24 ?a25 ?l25 ?c25 ?k25 ?a26 ?l26 ?c26 ?k26 ?a27 ?l27 ?c27 ?k27 ?a28 ?l28 ?c28 ?k28 ?a29 ?l29 ?c29 ?k29 ?a30 ?l30 ?c30 ?k30 ?n0 ?n1 ?n2 ?n3 ?n4 ?n5 ?n6 ?n7 ?n8 ?n9 ?n10 ?n11 ?n12 ?n13 ?n14 ?n15 ?n16 ?n17
    (case a1 => k_is)
    (case l1 => k_is)
    (case c1 => k_is)
    (case k1 => k_is)
    (case a2 => k_is)
    (case l2 => k_is)
    (case c2 => k_is)
    (case k2 => k_is)
    (case a3 => k_is)
    (case l3 => k_is)
    (case c3 => k_is)
    (case k3 => k_is)
    (case a4 => k_is)
    (case l4 => k_is)
    (case c4 => k_is)
    (case k4 => k_is)
    (case a5 => k_is)
    (case l5 => k_is)
    (case c5 => k_is)
    (case k5 => k_is)
    (case a6 => k_is)
    (case l6 => k_is)
    (case c6 => k_is)
    (case k6 => k_is)
    (case a7 => k_is)
    (case l7 => k_is)
    (case c7 => k_is)
    (case k7 => k_is)
    (case a8 => k_is)
    (case l8 => k_is)
    (case c8 => k_is)
    (case k8 => k_is)
    (case a9 => k_is)
    (case l9 => k_is)
    (case c9 => k_is)
    (case k9 => k_is)
    (case a10 => k_is)
    (case l10 => k_is)
    (case c10 => k_is)
    (case k10 => k_is)
    (case a11 => k_is)
    (case l11 => k_is)
    (case c11 => k_is)
    (case k11 => k_is)
    (case a12 => k_is)
    (case l12 => k_is)
    (case c12 => k_is)
    (case k12 => k_is)
    (case a13 => k_is)
    (case l13 => k_is)
    (case c13 => k_is)
    (case k13 => k_is)
    (case a14 => k_is)
    (case l14 => k_is)
    (case c14 => k_is)
    (case k14 => k_is)
    (case a15 => k_is)
    (case l15 => k_is)
    (case c15 => k_is)
    (case k15 => k_is)
    (case a16 => k_is)
    (case l16 => k_is)
    (case c16 => k_is)
    (case k16 => k_is)
    (case a17 => k_is)
    (case l17 => k_is)
    (case c17 => k_is)
    (case k17 => k_is)
    (case a18 => k_is)
    (case l18 => k_is)
    (case c18 => k_is)
    (case k18 => k_is)
    (case a19 => k_is)
    (case l19 => k_is)
    (case c19 => k_is)
    (case k19 => k_is)
    (case a20 => k_is)
    (case l20 => k_is)
    (case c20 => k_is)
    (case k20 => k_is)
    (case a21 => k_is)
    (case l21 => k_is)
    (case c21 => k_is)
    (case k21 => k_is)
    (case a22 => k_is)
    (case l22 => k_is)
    (case c22 => k_is)
    (case k22 => k_is)
    (case a23 => k_is)
    (case l23 => k_is)
    (case c23 => k_is)
    (case k23 => k_is)
    (case a24 => k_is)
    (case l24 => k_is)
    (case c24 => k_is)
    (case k24 => k_is)
    (case a25 => k_is)
    (case l25 => k_is)
    (case c25 => k_is)
    (case k25 => k_is)
    (case a26 => k_is)
    (case l26 => k_is)
    (case c26 => k_is)
    (case k26 => k_is)
    (case a27 => k_is)
    (case l27 => k_is)
    (case c27 => k_is)
    (case k27 => k_is)
    (case a28 => k_is)
    (case l28 => k_is)
    (case c28 => k_is)
    (case k28 => k_is)
    (case a29 => k_is)
    (case l29 => k_is)
    (case c29 => k_is)
    (case k29 => k_is)
    (case a30 => k_is)
    (case l30 => k_is)
    (case c30 => k_is)
    (case k30 => k_is)
    (case n0 => k_is)
    (case n1 => k_is)
    (case n2 => k_is)
    (case n3 => k_is)
    (case n4 => k_is)
    (case n5 => k_is)
    (case n6 => k_is)
    (case n7 => k_is)
    (case n8 => k_is)
    (case n9 => k_is)
    (case n10 => k_is)
    (case n11 => k_is)
    (case n12 => k_is)
    (case n13 => k_is)
    (case n14 => k_is)
    (case n15 => k_is)
    (case n16 => k_is)
    (case n17 => k_is)

