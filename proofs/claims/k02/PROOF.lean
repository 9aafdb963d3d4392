import PyProof.Rows.All
import Wide.All
import OpenK.AllK
import Wide.FinOn
import HandS.ForMost
import HandS.Deep
import HandS.IsInst
import HandS.More
import HandS.SortRule
import HandS.SortInts
import KE.DataMinMax
import PyProof.TypeEq
import HandS.Codes
import HandS.Defaults
import HandS.Conv
import HandS.Exc
import HandS.ExcOwn
import HandS.WordsExc
import HandS.HotCalls
import HandS.ExcIs
import HandS.TupSets
import PySem.Challenge.RW_flatdraw_k02_webs_refused
set_option Elab.async false
set_option linter.all false
set_option maxRecDepth 100000
namespace Fd
open PySem L2
/-! ### == and != of two built-in types -/
theorem slot_ty_ne : Slot "type" (cmpInfo .NotEq).2.1 "object.__ne__" :=
  Slot.of (n := "__ne__") (owner := "object") (by rw [typeLookup_type, builtinLookup_eq_fast]; kernel_rfl) (by decide +kernel) (by decide +kernel) (by decide +kernel) (by first | exact .inl (by decide +kernel) | exact .inr (by decide +kernel)) (by rw [isSubtype_type]; kernel_rfl)
theorem slot_ty_ne' : Slot "type" (cmpInfo .NotEq).2.2 "object.__ne__" := slot_ty_ne
section
variable {prog : Program} {w : World} {A : Around} {E : Value → Shared → Prop} {s : Shared}
theorem call_ne_ty {X Y : String} {Q : Value → Shared → Prop} (hX : ∀ s' : Shared, s'.TypeIs (.type X) "type")
    (h : Q (if (Value.type X == Value.type Y) = true then .bool false else .notImplemented) s) : wpAny (model prog w) A (call (.builtin "object.__ne__") [.type X, .type Y]) Q E s := by
  refine wpAny_call (codeAny_call_builtin slot_ty_ne.plain F.entry_object_ne (slot_ty_ne.check _ _ _ _ _ _ _ _ (hX s) (F.args_object_ne_2 _ _) ?_))
  unfold Builtin.«object.__ne__»
  have e1 : slotArgs "__ne__" 1 ⟨[Value.type X, Value.type Y], []⟩ = pure (Value.type X, [Value.type Y]) := by
    simp [slotArgs]
  rw [e1]
  simp only [pure_bind]
  refine wpAny_bind (wpAny_cRoomFor_or (.inl rfl) ?_)
  refine wpAny_bind (wpAny_callSpecialIfBound?_slot (name := (cmpInfo .Eq).2.1) (hX s) TypeEq.slot_type_eq ?_)
  by_cases hk : (Value.type X == Value.type Y) = true
  · rw [if_pos hk] at h
    refine call_gives TypeEq.slot_type_eq (hX s) F.entry_object_eq (F.args_object_eq_2 _ _) (TypeEq.object_eq_same rfl hk) ?_
    exact wpAny_bind (wpAny_truthy_bool (wpAny_pure h))
  · rw [if_neg hk] at h
    refine call_gives TypeEq.slot_type_eq (hX s) F.entry_object_eq (F.args_object_eq_2 _ _) (TypeEq.object_eq_other rfl (Bool.eq_false_iff.mpr hk)) ?_
    exact wpAny_pure h
theorem ne_ty {X Y : String} {Q : Value → Shared → Prop} (hX : ∀ s' : Shared, s'.TypeIs (.type X) "type") (hY : ∀ s' : Shared, s'.TypeIs (.type Y) "type")
    (h : Q (.bool (!decide (X = Y))) s) : wpAny (model prog w) A (compareOp .NotEq (.type X) (.type Y)) Q E s := by
  show wpAny (model prog w) A (richCompare CmpOp.NotEq (.type X) (.type Y)) Q E s
  by_cases e : X = Y
  · subst e
    refine wpAny_richCompare_same (T := "type") (hX s) (hX s) slot_ty_ne (call_ne_ty hX ?_)
    rw [if_pos (by simp)]
    rw [decide_eq_true rfl] at h
    exact ⟨(by intro z; cases z), h⟩
  · have k1 : (Value.type X == Value.type Y) = false := by simp [e]
    have k2 : (Value.type Y == Value.type X) = false := by simpa using fun z : Y = X => e z.symm
    rw [decide_eq_false e] at h
    rcases hi : cmpInfo CmpOp.NotEq with ⟨sym, f, r⟩
    have h1 := slot_ty_ne
    have h2 := slot_ty_ne'
    rw [hi] at h1 h2
    simp only [richCompare, hi, (hX s).oneThing_none]
    try with_reducible refine wpAny_holding ?_
    refine wpAny_bind (wpAny_cRoomFor_or (.inl rfl) ?_)
    refine wpAny_bind (wpAny_typeOf (hX s) (wpAny_bind (wpAny_typeOf (hY s) ?_)))
    simp only [if_true, if_false, bne_self_eq_false, Bool.not_false, Bool.false_eq_true, pure_bind]
    refine wpAny_bind (m := tryCompare (.type X) _ (.type Y)) (wpAny_tryCompare_declines (hX s) h1 (call_ne_ty hX ?_))
    rw [if_neg (by rw [k1]; exact Bool.false_ne_true)]
    refine ⟨rfl, ?_⟩
    refine wpAny_bind (m := tryCompare (.type Y) _ (.type X)) (wpAny_tryCompare_declines (hY s) h2 (call_ne_ty hY ?_))
    rw [if_neg (by rw [k2]; exact Bool.false_ne_true)]
    refine ⟨rfl, ?_⟩
    refine wpAny_bind (wpAny_rule (wpAny_bind (wpAny_of_eq (isSame_plain rfl) ?_)))
    rw [k1]
    exact wpAny_pure h
end
/-- the names of the built-in kinds that are compared -/
def kinds : List String := ["int", "str", "bool", "NoneType", "list", "tuple", "dict", "bytes"]
theorem meta_of {T : String} (h : T ∈ kinds) (s : Shared) : s.TypeIs (.type T) "type" := by
  simp only [kinds, List.mem_cons, List.not_mem_nil, or_false] at h
  rcases h with rfl | rfl | rfl | rfl | rfl | rfl | rfl | rfl
  · exact TypeEq.meta_int s
  · exact TypeEq.meta_str s
  · exact TypeEq.meta_bool s
  · exact TypeEq.meta_NoneType s
  · exact TypeEq.meta_list s
  · exact TypeEq.meta_tuple s
  · exact TypeEq.meta_dict s
  · exact TypeEq.meta_bytes s
theorem TyB_kind {K : PySem.W.Frag} {H : Hp} {x : V} {T : String} (h : TyB K H x T) : T ∈ kinds := by
  cases h <;> decide
def rEqTy : R2 := fun x y H Q => ∃ a b, x = .ty a ∧ y = .ty b ∧ a ∈ kinds ∧ b ∈ kinds ∧ Q (.bl (decide (a = b))) H
def rNeTy : R2 := fun x y H Q => ∃ a b, x = .ty a ∧ y = .ty b ∧ a ∈ kinds ∧ b ∈ kinds ∧ Q (.bl (!decide (a = b))) H
section
variable {X : Cx}
theorem op_eqTy : OpR X (compareOp .Eq) rEqTy := by
  intro pins s σ H x y v u Q I rx ry h
  obtain ⟨a, b, rfl, rfl, ha, hb, q⟩ := h
  cases rx
  cases ry
  by_cases e : a = b
  · subst e
    rw [decide_eq_true rfl] at q
    exact TypeEq.eq_type_same (meta_of ha) ⟨.bl true, H, I, rfl, q⟩
  · rw [decide_eq_false e] at q
    exact TypeEq.eq_type_other (meta_of ha) (meta_of hb) (by simp [e]) ⟨.bl false, H, I, rfl, q⟩
theorem op_neTy : OpR X (compareOp .NotEq) rNeTy := by
  intro pins s σ H x y v u Q I rx ry h
  obtain ⟨a, b, rfl, rfl, ha, hb, q⟩ := h
  cases rx
  cases ry
  exact ne_ty (meta_of ha) (meta_of hb) ⟨.bl _, H, I, rfl, q⟩
end
end Fd
namespace Fd
/-! ### plain lists -/
theorem strict_uniq {α : Type} {lt : α → α → Prop} (asym : ∀ a b, lt a b → ¬ lt b a) : ∀ {l1 l2 : List α}, l1.Pairwise lt → l2.Pairwise lt → (∀ x, x ∈ l1 ↔ x ∈ l2) → l1 = l2
  | [], [], _, _, _ => rfl
  | [], b :: l2, _, _, h => absurd ((h b).mpr List.mem_cons_self) (by simp)
  | a :: l1, [], _, _, h => absurd ((h a).mp List.mem_cons_self) (by simp)
  | a :: l1, b :: l2, h1, h2, h => by
    obtain ⟨p1, q1⟩ := List.pairwise_cons.mp h1
    obtain ⟨p2, q2⟩ := List.pairwise_cons.mp h2
    have e : a = b := by
      rcases List.mem_cons.mp ((h a).mp List.mem_cons_self) with e | ha
      · exact e
      · rcases List.mem_cons.mp ((h b).mpr List.mem_cons_self) with e | hb
        · exact e.symm
        · exact absurd (p1 b hb) (asym _ _ (p2 a ha))
    subst e
    have irr : ∀ x, lt a x → x ≠ a := fun x hx z => by
      subst z
      exact asym _ _ hx hx
    rw [strict_uniq asym q1 q2 fun x => ⟨fun hx => ?_, fun hx => ?_⟩]
    · rcases List.mem_cons.mp ((h x).mp (List.mem_cons_of_mem _ hx)) with e | hx'
      · exact absurd e (irr x (p1 x hx))
      · exact hx'
    · rcases List.mem_cons.mp ((h x).mpr (List.mem_cons_of_mem _ hx)) with e | hx'
      · exact absurd e (irr x (p2 x hx))
      · exact hx'
theorem strict_of_le {l : List Int} (h : l.Pairwise (· ≤ ·)) (n : l.Nodup) : l.Pairwise (· < ·) := by
  induction l with
  | nil => exact List.Pairwise.nil
  | cons a l ih =>
    obtain ⟨p, q⟩ := List.pairwise_cons.mp h
    obtain ⟨n1, n2⟩ := List.nodup_cons.mp n
    refine List.pairwise_cons.mpr ⟨fun b hb => ?_, ih q n2⟩
    have h1 := p b hb
    have h2 : a ≠ b := fun e => n1 (e ▸ hb)
    omega
theorem take_next {α : Type} : ∀ {l : List α} {i : Nat} {x : α}, l[i]? = some x → l.take (i + 1) = l.take i ++ [x]
  | [], i, x, h => by simp at h
  | a :: l, 0, x, h => by
    cases Option.some.inj h
    rfl
  | a :: l, i + 1, x, h => by
    rw [List.take_succ_cons, take_next (l := l) (i := i) (x := x) h]
    rfl
/-! ### points, ties, rows -/
abbrev Tie := Int × Int
def pts (m : Nat) : List Int := (List.range m).map fun n : Nat => (n : Int)
theorem mem_pts {m : Nat} {x : Int} : x ∈ pts m ↔ 0 ≤ x ∧ x < m := by
  unfold pts
  rw [List.mem_map]
  constructor
  · rintro ⟨n, hn, rfl⟩
    rw [List.mem_range] at hn
    omega
  · intro h
    exact ⟨x.toNat, List.mem_range.mpr (by omega), by omega⟩
theorem pts_strict (m : Nat) : (pts m).Pairwise (· < ·) := by
  unfold pts
  rw [List.pairwise_map]
  exact List.pairwise_lt_range.imp fun h => by omega
theorem pts_len (m : Nat) : (pts m).length = m := by simp [pts]
theorem pts_at {m i : Nat} (h : i < m) : (pts m)[i]? = some (i : Int) := by
  simp [pts, h]
theorem pts_succ (m : Nat) : pts (m + 1) = pts m ++ [(m : Int)] := by
  simp [pts, List.range_succ]
/-- a tie joins p and j -/
def Adj (ts : List Tie) (p j : Int) : Prop := (p, j) ∈ ts ∨ (j, p) ∈ ts
instance (ts : List Tie) (p j : Int) : Decidable (Adj ts p j) := by unfold Adj; exact inferInstance
theorem Adj.symm {ts : List Tie} {p j : Int} (h : Adj ts p j) : Adj ts j p := Or.symm h
structure Good (m : Nat) (ts : List Tie) : Prop where
  rng : ∀ t ∈ ts, 0 ≤ t.1 ∧ t.1 < m ∧ 0 ≤ t.2 ∧ t.2 < m ∧ t.1 ≠ t.2
  ap : ts.Pairwise fun t u => t ≠ u ∧ t ≠ (u.2, u.1)
theorem Good.nil (m : Nat) : Good m [] := ⟨fun _ h => by simp at h, List.Pairwise.nil⟩
theorem Good.snoc {m : Nat} {ts : List Tie} {t : Tie} (g : Good m ts) (h : 0 ≤ t.1 ∧ t.1 < m ∧ 0 ≤ t.2 ∧ t.2 < m ∧ t.1 ≠ t.2) (h1 : t ∉ ts) (h2 : (t.2, t.1) ∉ ts) : Good m (ts ++ [t]) := by
  refine ⟨fun u hu => ?_, List.pairwise_append.mpr ⟨g.ap, List.pairwise_singleton _ _, fun u hu v hv => ?_⟩⟩
  · rcases List.mem_append.mp hu with hu | hu
    · exact g.rng u hu
    · rw [List.mem_singleton.mp hu]
      exact h
  · rw [List.mem_singleton.mp hv]
    exact ⟨fun e => h1 (e ▸ hu), fun e => h2 (e ▸ hu)⟩
theorem Good.drop {m : Nat} {ts : List Tie} (g : Good m ts) (k : Nat) : Good m (ts.drop k) := ⟨fun t h => g.rng t (List.mem_of_mem_drop h), g.ap.sublist (List.drop_sublist k ts)⟩
theorem Good.take {m : Nat} {ts : List Tie} (g : Good m ts) (k : Nat) : Good m (ts.take k) := ⟨fun t h => g.rng t (List.mem_of_mem_take h), g.ap.sublist (List.take_sublist k ts)⟩
theorem Good.apart {m : Nat} {ts : List Tie} (g : Good m ts) {i : Nat} {t : Tie} (h : ts[i]? = some t) : t ∉ ts.take i ∧ (t.2, t.1) ∉ ts.take i := by
  have e := take_next h
  have g1 := (g.take (i + 1)).ap
  rw [e] at g1
  have q := (List.pairwise_append.mp g1).2.2
  refine ⟨fun hm => ?_, fun hm => ?_⟩
  · exact (q t hm t (by simp)).1 rfl
  · exact (q (t.2, t.1) hm t (by simp)).2 rfl
/-- what one tie puts beside p -/
def here (t : Tie) (p : Int) : List Int := (if t.1 = p then [t.2] else []) ++ (if t.2 = p then [t.1] else [])
def nb (ts : List Tie) (p : Int) : List Int := ts.flatMap fun t => here t p
theorem mem_here {t : Tie} {p j : Int} : j ∈ here t p ↔ t = (p, j) ∨ t = (j, p) := by
  obtain ⟨a, b⟩ := t
  unfold here
  by_cases h1 : a = p <;> by_cases h2 : b = p <;> simp [h1, h2] <;> constructor <;> intro h <;> simp_all
theorem mem_nb {ts : List Tie} {p j : Int} : j ∈ nb ts p ↔ Adj ts p j := by
  unfold nb Adj
  rw [List.mem_flatMap]
  constructor
  · rintro ⟨t, ht, hj⟩
    rcases mem_here.mp hj with e | e
    · exact .inl (e ▸ ht)
    · exact .inr (e ▸ ht)
  · rintro (h | h)
    · exact ⟨_, h, mem_here.mpr (.inl rfl)⟩
    · exact ⟨_, h, mem_here.mpr (.inr rfl)⟩
theorem nb_snoc (ts : List Tie) (t : Tie) (p : Int) : nb (ts ++ [t]) p = nb ts p ++ here t p := by
  unfold nb
  rw [List.flatMap_append]
  simp
theorem nb_nodup {m : Nat} : ∀ {ts : List Tie} (g : Good m ts) (p : Int), (nb ts p).Nodup
  | [], _, _ => by simp [nb]
  | t :: ts, g, p => by
    have g' : Good m ts := ⟨fun u h => g.rng u (List.mem_cons_of_mem _ h), (List.pairwise_cons.mp g.ap).2⟩
    have ih := nb_nodup g' p
    have hne := (g.rng t List.mem_cons_self).2.2.2.2
    have e : nb (t :: ts) p = here t p ++ nb ts p := by simp [nb]
    rw [e]
    refine List.nodup_append.mpr ⟨?_, ih, fun x hx y hy z => ?_⟩
    · obtain ⟨a, b⟩ := t
      unfold here
      by_cases h1 : a = p <;> by_cases h2 : b = p <;> simp [h1, h2]
      exact hne (h1.trans h2.symm)
    · subst z
      have q := (List.pairwise_cons.mp g.ap).1
      rcases mem_here.mp hx with e1 | e1 <;> rcases mem_nb.mp hy with e2 | e2
      · exact (q _ e2).1 e1
      · exact (q _ e2).2 e1
      · exact (q _ e2).2 e1
      · exact (q _ e2).1 e1
/-- the points beside p, rising -/
def rowOf (m : Nat) (ts : List Tie) (p : Int) : List Int := (pts m).filter fun j => decide (Adj ts p j)
theorem mem_rowOf {m : Nat} {ts : List Tie} (g : Good m ts) {p j : Int} : j ∈ rowOf m ts p ↔ Adj ts p j := by
  unfold rowOf
  rw [List.mem_filter, decide_eq_true_iff, mem_pts]
  refine ⟨fun h => h.2, fun h => ⟨?_, h⟩⟩
  rcases h with h | h
  · have := g.rng _ h
    exact ⟨this.2.2.1, this.2.2.2.1⟩
  · have := g.rng _ h
    exact ⟨this.1, this.2.1⟩
theorem rowOf_strict (m : Nat) (ts : List Tie) (p : Int) : (rowOf m ts p).Pairwise (· < ·) := (pts_strict m).filter _
theorem rowOf_len (m : Nat) (ts : List Tie) (p : Int) : (rowOf m ts p).length ≤ m := by
  have h := List.length_filter_le (fun j => decide (Adj ts p j)) (pts m)
  rw [pts_len] at h
  exact h
theorem row_sorted {m : Nat} {ts : List Tie} (g : Good m ts) {p : Int} {ns : List Int} (hp : ns.Perm (nb ts p)) (hs : ns.Pairwise (· ≤ ·)) : ns = rowOf m ts p := by
  refine strict_uniq (lt := fun a b : Int => a < b) (fun a b h => by omega) (strict_of_le hs (hp.nodup_iff.mpr (nb_nodup g p))) (rowOf_strict m ts p) fun x => ?_
  rw [hp.mem_iff, mem_nb, mem_rowOf g]
def rowsOf (m : Nat) (ts : List Tie) : List (List Int) := (pts m).map (rowOf m ts)
theorem rowsOf_len (m : Nat) (ts : List Tie) : (rowsOf m ts).length = m := by simp [rowsOf, pts_len]
theorem rowsOf_at {m : Nat} {ts : List Tie} {i : Nat} (h : i < m) : (rowsOf m ts)[i]? = some (rowOf m ts i) := by
  unfold rowsOf
  rw [List.getElem?_map, pts_at h]
  rfl
/-! ### the ties told -/
def pickT (m : Nat) (ts : List Tie) (i : Int) : List Tie := ((rowOf m ts i).filter fun j => decide (i < j)).map fun j => (i, j)
def toldT (m : Nat) (ts : List Tie) : List Tie := (pts m).flatMap (pickT m ts)
def lexT (a b : Tie) : Prop := a.1 < b.1 ∨ (a.1 = b.1 ∧ a.2 < b.2)
theorem mem_pickT {m : Nat} {ts : List Tie} (g : Good m ts) {i : Int} {t : Tie} : t ∈ pickT m ts i ↔ t.1 = i ∧ t.1 < t.2 ∧ Adj ts t.1 t.2 := by
  unfold pickT
  rw [List.mem_map]
  constructor
  · rintro ⟨j, hj, rfl⟩
    rw [List.mem_filter, decide_eq_true_iff, mem_rowOf g] at hj
    exact ⟨rfl, hj.2, hj.1⟩
  · rintro ⟨rfl, h1, h2⟩
    exact ⟨t.2, by rw [List.mem_filter, decide_eq_true_iff, mem_rowOf g]; exact ⟨h2, h1⟩, rfl⟩
theorem mem_toldT {m : Nat} {ts : List Tie} (g : Good m ts) {t : Tie} : t ∈ toldT m ts ↔ t.1 < t.2 ∧ Adj ts t.1 t.2 := by
  unfold toldT
  rw [List.mem_flatMap]
  constructor
  · rintro ⟨i, _, h⟩
    exact ((mem_pickT g).mp h).2
  · intro h
    refine ⟨t.1, ?_, (mem_pickT g).mpr ⟨rfl, h⟩⟩
    rw [mem_pts]
    rcases h.2 with k | k
    · have := g.rng _ k
      exact ⟨this.1, this.2.1⟩
    · have := g.rng _ k
      exact ⟨this.2.2.1, this.2.2.2.1⟩
theorem toldT_strict {m : Nat} {ts : List Tie} (g : Good m ts) : (toldT m ts).Pairwise lexT := by
  unfold toldT
  rw [List.pairwise_flatMap]
  refine ⟨fun i _ => ?_, (pts_strict m).imp fun {i k} hik x hx y hy => ?_⟩
  · unfold pickT
    rw [List.pairwise_map]
    exact ((rowOf_strict m ts i).filter _).imp fun h => .inr ⟨rfl, h⟩
  · have h1 := ((mem_pickT g).mp hx).1
    have h2 := ((mem_pickT g).mp hy).1
    exact .inl (by omega)
def norm (t : Tie) : Tie := (min t.1 t.2, max t.1 t.2)
theorem norm_cases (t : Tie) : norm t = t ∨ norm t = (t.2, t.1) := by
  unfold norm
  obtain ⟨a, b⟩ := t
  by_cases h : a ≤ b
  · left
    show (min a b, max a b) = (a, b)
    rw [Int.min_eq_left h, Int.max_eq_right h]
  · right
    show (min a b, max a b) = (b, a)
    rw [Int.min_eq_right (by omega), Int.max_eq_left (by omega)]
theorem mem_norm {m : Nat} {ts : List Tie} (g : Good m ts) {t : Tie} : t ∈ ts.map norm ↔ t.1 < t.2 ∧ Adj ts t.1 t.2 := by
  rw [List.mem_map]
  constructor
  · rintro ⟨u, hu, rfl⟩
    have hne := (g.rng u hu).2.2.2.2
    obtain ⟨a, b⟩ := u
    refine ⟨?_, ?_⟩
    · show min a b < max a b
      have : a ≠ b := hne
      omega
    · rcases norm_cases (a, b) with e | e
      · rw [e]
        exact .inl hu
      · rw [e]
        exact .inr hu
  · rintro ⟨h1, h2⟩
    obtain ⟨a, b⟩ := t
    have h1 : a < b := h1
    rcases h2 with h2 | h2
    · refine ⟨_, h2, ?_⟩
      show (min a b, max a b) = (a, b)
      rw [Int.min_eq_left (by omega), Int.max_eq_right (by omega)]
    · refine ⟨_, h2, ?_⟩
      show (min b a, max b a) = (a, b)
      rw [Int.min_eq_right (by omega), Int.max_eq_left (by omega)]
theorem norm_nodup {m : Nat} : ∀ {ts : List Tie} (g : Good m ts), (ts.map norm).Nodup
  | [], _ => by simp
  | t :: ts, g => by
    have g' : Good m ts := ⟨fun u h => g.rng u (List.mem_cons_of_mem _ h), (List.pairwise_cons.mp g.ap).2⟩
    rw [List.map_cons, List.nodup_cons]
    refine ⟨fun h => ?_, norm_nodup g'⟩
    obtain ⟨u, hu, e⟩ := List.mem_map.mp h
    have q := (List.pairwise_cons.mp g.ap).1 u hu
    rcases norm_cases u with e1 | e1 <;> rcases norm_cases t with e2 | e2 <;> rw [e1, e2] at e
    · exact q.1 e.symm
    · exact q.2 (by rw [e])
    · exact q.2 e.symm
    · exact q.1 (by
        obtain ⟨a, b⟩ := t
        obtain ⟨c, d⟩ := u
        simp only [Prod.mk.injEq] at e ⊢
        exact ⟨e.2.symm, e.1.symm⟩)
theorem told_sorted {m : Nat} {ts ys : List Tie} (g : Good m ts) (hp : ys.Perm (ts.map norm)) (hs : ys.Pairwise fun a b => ¬ lexT b a) : ys = toldT m ts := by
  have nd : ys.Nodup := hp.nodup_iff.mpr (norm_nodup g)
  refine strict_uniq (lt := lexT) (fun a b h k => ?_) ?_ (toldT_strict g) fun x => ?_
  · unfold lexT at h k
    omega
  · have both := List.Pairwise.and hs nd
    refine both.imp fun {a b} h => ?_
    obtain ⟨h1, h2⟩ := h
    unfold lexT at h1 ⊢
    by_cases e1 : a.1 = b.1
    · by_cases e2 : a.2 = b.2
      · exact absurd (Prod.ext e1 e2) h2
      · omega
    · omega
  · rw [hp.mem_iff, mem_norm g, mem_toldT g]
theorem toldT_len {m : Nat} {ts : List Tie} (g : Good m ts) : (toldT m ts).length = ts.length := by
  have h1 : (toldT m ts).Nodup := (toldT_strict g).imp fun {a b} h e => by
    subst e
    unfold lexT at h
    omega
  have hp : (toldT m ts).Perm (ts.map norm) := (List.perm_ext_iff_of_nodup h1 (norm_nodup g)).mpr fun x => by rw [mem_norm g, mem_toldT g]
  have e := hp.length_eq
  rw [List.length_map] at e
  exact e
end Fd
namespace Fd
open PySem L2
/-! ### min and max of a pair of iL -/
def rPr (f : Int → Int → Int) (K : PySem.W.Frag) : List V → Hp → VK → Prop := fun vs H Q => ∃ (a : Addr) (i j : Int), vs = [V.ref a] ∧ SqT K H a [.int i, .int j] ∧ Q (.int (f i j)) H
section
variable {X : Cx}
theorem alike2 (i j : Int) : PySem.W.AlikeAll [PyData.int i, PyData.int j] := by
  refine ⟨fun x hx y hy => ?_, fun x hx => ?_⟩
  · simp only [List.mem_cons, List.not_mem_nil, or_false] at hx hy
    rcases hx with rfl | rfl <;> rcases hy with rfl | rfl <;> rfl
  · simp only [List.mem_cons, List.not_mem_nil, or_false] at hx
    rcases hx with rfl | rfl <;> intro z <;> cases z
theorem cr_minPr (hc : X.calm = true) (hu : X.A.units + 64 < cLine) : CallR X (.builtin "min") (rPr min X.K) := by
  intro pins s σ H vs us Q I r h
  obtain ⟨a, i, j, rfl, hT, q⟩ := h
  obtain ⟨its, rv, ⟨o, ho, hcl, n, hd⟩, _⟩ := I.tuple hT
  rw [Vals.ref1 r]
  obtain ⟨u1, u2, rfl, ri, rj⟩ := vals2 rv
  obtain ⟨t1, rfl⟩ := ri
  obtain ⟨t2, rfl⟩ := rj
  refine PySem.W.min_tuple_data (x := .int i) (xs := [.int j]) (I.ok.hd hc) ⟨o, ho, hcl, n, hd⟩ (.cons (.int i t1) (.cons (.int j t2) .nil)) (alike2 i j) ?_ fun k v h' tk bs hk hr keep => ?_
  · simp only [PyData.depthAll, PyData.depth]
    omega
  · rw [show PySem.W.minD (PyData.int i) [PyData.int j] = PyData.int (min i j) from PySem.W.minD_ints i [j]] at hr
    cases hr
    exact ⟨.int (min i j), H, I.kept keep, ⟨_, rfl⟩, q⟩
theorem cr_maxPr (hc : X.calm = true) (hu : X.A.units + 64 < cLine) : CallR X (.builtin "max") (rPr max X.K) := by
  intro pins s σ H vs us Q I r h
  obtain ⟨a, i, j, rfl, hT, q⟩ := h
  obtain ⟨its, rv, ⟨o, ho, hcl, n, hd⟩, _⟩ := I.tuple hT
  rw [Vals.ref1 r]
  obtain ⟨u1, u2, rfl, ri, rj⟩ := vals2 rv
  obtain ⟨t1, rfl⟩ := ri
  obtain ⟨t2, rfl⟩ := rj
  refine PySem.W.max_tuple_data (x := .int i) (xs := [.int j]) (I.ok.hd hc) ⟨o, ho, hcl, n, hd⟩ (.cons (.int i t1) (.cons (.int j t2) .nil)) (alike2 i j) ?_ fun k v h' tk bs hk hr keep => ?_
  · simp only [PyData.depthAll, PyData.depth]
    omega
  · rw [show PySem.W.maxD (PyData.int i) [PyData.int j] = PyData.int (max i j) from PySem.W.maxD_ints i [j]] at hr
    cases hr
    exact ⟨.int (max i j), H, I.kept keep, ⟨_, rfl⟩, q⟩
end
/-! ### pairs and lists of pairs in the heap -/
abbrev iL (xs : List Int) : List V := xs.map V.int
def PairAt (H : Hp) (v : V) (t : Tie) : Prop := ∃ a, v = .ref a ∧ H a = some (.tup [.int t.1, .int t.2])
abbrev PairsAt (H : Hp) (vs : List V) (ts : List Tie) : Prop := Paired (PairAt H) vs ts
theorem PairAt.same {H H' : Hp} (s : Same H H') {v : V} {t : Tie} (h : PairAt H v t) : PairAt H' v t := by
  obtain ⟨a, e, k⟩ := h
  exact ⟨a, e, s _ _ k⟩
theorem PairsAt.same {H H' : Hp} (s : Same H H') {vs : List V} {ts : List Tie} (h : PairsAt H vs ts) : PairsAt H' vs ts := Paired.mono (fun _ _ => PairAt.same s) h
theorem paired_get {α β : Type} {F : α → β → Prop} : ∀ {xs : List α} {ys : List β}, Paired F xs ys → ∀ {i : Nat} {x : α}, xs[i]? = some x → ∃ y, ys[i]? = some y ∧ F x y
  | _, _, .nil, i, x, h => by simp at h
  | _, _, .cons r t, 0, x, h => by
    cases Option.some.inj h
    exact ⟨_, rfl, r⟩
  | _, _, .cons r t, i + 1, x, h => paired_get t (i := i) (by simpa using h)
theorem paired_get' {α β : Type} {F : α → β → Prop} : ∀ {xs : List α} {ys : List β}, Paired F xs ys → ∀ {i : Nat} {y : β}, ys[i]? = some y → ∃ x, xs[i]? = some x ∧ F x y
  | _, _, .nil, i, x, h => by simp at h
  | _, _, .cons r t, 0, x, h => by
    cases Option.some.inj h
    exact ⟨_, rfl, r⟩
  | _, _, .cons r t, i + 1, x, h => paired_get' t (i := i) (by simpa using h)
theorem paired_drop {α β : Type} {F : α → β → Prop} : ∀ {xs : List α} {ys : List β}, Paired F xs ys → ∀ k, Paired F (xs.drop k) (ys.drop k)
  | _, _, h, 0 => h
  | _, _, .nil, _ + 1 => .nil
  | _, _, .cons _ t, k + 1 => paired_drop t k
theorem paired_take {α β : Type} {F : α → β → Prop} : ∀ {xs : List α} {ys : List β}, Paired F xs ys → ∀ k, Paired F (xs.take k) (ys.take k)
  | _, _, h, 0 => .nil
  | _, _, .nil, _ + 1 => .nil
  | _, _, .cons r t, k + 1 => .cons r (paired_take t k)
def prd (t : Tie) : PyData := .tuple [.int t.1, .int t.2]
theorem prd_lay (t : Tie) : (prd t).canLay0 = true := by simp [prd, PyData.canLay0, PyData.canLayAll0]
theorem prd_depth (t : Tie) : (prd t).depth = 1 := by simp [prd, PyData.depth, PyData.depthAll]
theorem prds_lay : ∀ ts : List Tie, PyData.canLayAll0 (ts.map prd) = true
  | [] => by simp [PyData.canLayAll0]
  | t :: ts => by simp [PyData.canLayAll0, prd_lay t, prds_lay ts]
theorem prds_depth : ∀ ts : List Tie, PyData.depthAll (ts.map prd) ≤ 1
  | [] => by simp [PyData.depthAll]
  | t :: ts => by
    have h1 := prds_depth ts
    have h2 := prd_depth t
    simp only [List.map_cons, PyData.depthAll]
    omega
theorem shaped_by {d : PyData} (h1 : d.canLay0 = true) (h2 : d.depth ≤ 64) : SeqAt.shaped d = true := by
  unfold SeqAt.shaped
  rw [h1, decide_eq_true h2, Bool.and_self]
theorem prd_shaped (t : Tie) : SeqAt.shaped (prd t) = true := shaped_by (prd_lay t) (by rw [prd_depth]; decide)
theorem prds_shaped (ts : List Tie) : SeqAt.shaped (.list (ts.map prd)) = true := by
  have h := prds_depth ts
  refine shaped_by (by simp only [PyData.canLay0]; exact prds_lay ts) ?_
  simp only [PyData.depth]
  omega
theorem prd_eqv (t u : Tie) : PyData.eqv (prd t) (prd u) = decide (t = u) := by
  obtain ⟨a, b⟩ := t
  obtain ⟨c, d⟩ := u
  simp only [prd, PyData.eqv, PyData.eqvAll, Bool.and_true]
  rw [Bool.eq_iff_iff]
  simp
theorem prds_any (ts : List Tie) (t : Tie) : ((ts.map prd).any fun z => PyData.eqv z (prd t)) = decide (t ∈ ts) := by
  rw [List.any_map, Bool.eq_iff_iff, List.any_eq_true, decide_eq_true_iff]
  constructor
  · rintro ⟨u, hu, e⟩
    have e : PyData.eqv (prd u) (prd t) = true := e
    rw [prd_eqv, decide_eq_true_iff] at e
    exact e ▸ hu
  · intro h
    exact ⟨t, h, by show PyData.eqv (prd t) (prd t) = true; rw [prd_eqv]; exact decide_eq_true rfl⟩
theorem prds_refl (ts : List Tie) : PyData.eqv (.list (ts.map prd)) (.list (ts.map prd)) = true := SeqAt.eqv_refl _ (SeqAt.canLay_of_shaped (prds_shaped ts))
theorem dp_pair {K : PySem.W.Frag} {H : Hp} {v : V} {t : Tie} (h : PairAt H v t) : Dp K H v (prd t) := by
  obtain ⟨a, rfl, k⟩ := h
  exact .tup (SqT.of k) (.cons (.int _) (.cons (.int _) .nil))
theorem dp_all {K : PySem.W.Frag} {H : Hp} : ∀ {vs : List V} {ts : List Tie}, PairsAt H vs ts → DpAll K H vs (ts.map prd)
  | _, _, .nil => .nil
  | _, _, .cons r t => .cons (dp_pair r) (dp_all t)
theorem dp_pairs {K : PySem.W.Frag} {H : Hp} {a : Addr} {vs : List V} {ts : List Tie} (h : SqL K H a vs) (k : PairsAt H vs ts) : Dp K H (.ref a) (.list (ts.map prd)) := .lst h (dp_all k)
theorem dpi_all {K : PySem.W.Frag} {H : Hp} : ∀ xs : List Int, DpAll K H (iL xs) (xs.map PyData.int)
  | [] => .nil
  | x :: xs => .cons (.int x) (dpi_all xs)
theorem dp_ints {K : PySem.W.Frag} {H : Hp} {a : Addr} {xs : List Int} (h : SqL K H a (iL xs)) : Dp K H (.ref a) (.list (xs.map PyData.int)) := .lst h (dpi_all xs)
theorem inl_lay : ∀ xs : List Int, PyData.canLayAll0 (xs.map PyData.int) = true
  | [] => by simp [PyData.canLayAll0]
  | t :: ts => by simp [PyData.canLayAll0, PyData.canLay0, inl_lay ts]
theorem inl_depth : ∀ xs : List Int, PyData.depthAll (xs.map PyData.int) = 0
  | [] => by simp [PyData.depthAll]
  | t :: ts => by simp [PyData.depthAll, PyData.depth, inl_depth ts]
theorem inl_shaped (xs : List Int) : SeqAt.shaped (.list (xs.map PyData.int)) = true := by
  have h := inl_depth xs
  refine shaped_by (by simp only [PyData.canLay0]; exact inl_lay xs) ?_
  simp only [PyData.depth]
  omega
theorem inl_refl (xs : List Int) : PyData.eqv (.list (xs.map PyData.int)) (.list (xs.map PyData.int)) = true := SeqAt.eqv_refl _ (SeqAt.canLay_of_shaped (inl_shaped xs))
theorem inV_ints (xs : List Int) (x : Int) : inV (.int x) (iL xs) = decide (x ∈ xs) := by
  unfold inV iL
  rw [List.any_map, Bool.eq_iff_iff, List.any_eq_true, decide_eq_true_iff]
  constructor
  · rintro ⟨u, hu, e⟩
    have e : (u == x) = true := e
    rw [beq_iff_eq] at e
    exact e ▸ hu
  · intro h
    exact ⟨x, h, beq_self_eq_true x⟩
theorem flat_ints (xs : List Int) : (iL xs).all flatV = true := by
  rw [List.all_eq_true]
  intro v hv
  obtain ⟨x, _, rfl⟩ := List.mem_map.mp hv
  rfl
theorem iL_at {xs : List Int} {i : Nat} {y : V} (h : (iL xs)[i]? = some y) : ∃ z, xs[i]? = some z ∧ y = V.int z := by
  rw [List.getElem?_map] at h
  cases e : xs[i]? with
  | none =>
    rw [e] at h
    cases h
  | some z =>
    rw [e] at h
    exact ⟨z, rfl, (Option.some.inj h).symm⟩
theorem iL_get {xs : List Int} {i : Nat} {z : Int} (h : xs[i]? = some z) : (iL xs)[i]? = some (.int z) := by
  rw [List.getElem?_map, h]
  rfl
/-! ### heaps -/
theorem Same.put {H : Hp} {p : Addr} {o : HO} (h : H p = none) : Same H (upd H p o) := fun b u e => by
  rw [upd_ne (ne_of_none e h)]
  exact e
theorem Same.step {H H1 : Hp} {p : Addr} {o : HO} (s : Same H H1) (h : H1 p = none) : Same H (upd H1 p o) := s.trans (Same.put h)
/-- a list that was new behind H is written -/
theorem Same.write {H H1 : Hp} {p : Addr} {o : HO} (s : Same H H1) (h : H p = none) : Same H (upd H1 p o) := fun b u e => by
  rw [upd_ne (ne_of_none e h)]
  exact s _ _ e
theorem small {n : Nat} (h : n ≤ 1000) : n < sizeLine := Nat.lt_of_le_of_lt h (by decide)
theorem smalle {n : Nat} (h : n ≤ 1000) : n ≤ sizeLine := Nat.le_of_lt (small h)
/-! ### rows: a list of lists of iL, all new behind H0, all apart -/
structure RowsAt (H0 H : Hp) (R : Addr) (as : List Addr) (rss : List (List Int)) : Prop where
  top : H R = some (.lst (as.map V.ref))
  new : H0 R = none
  len : as.length = rss.length
  nd : as.Nodup
  out : R ∉ as
  row : ∀ (i : Nat) (a : Addr) (r : List Int), as[i]? = some a → rss[i]? = some r → H0 a = none ∧ H a = some (.lst (iL r))
theorem RowsAt.get {H0 H : Hp} {R : Addr} {as : List Addr} {rss : List (List Int)} (h : RowsAt H0 H R as rss) {i : Nat} {r : List Int} (e : rss[i]? = some r) : ∃ a, as[i]? = some a ∧ (as.map V.ref)[i]? = some (.ref a) ∧ H0 a = none ∧ H a = some (.lst (iL r)) := by
  have hi : i < as.length := by
    rw [h.len]
    exact (List.getElem?_eq_some_iff.mp e).1
  have ea : as[i]? = some as[i] := List.getElem?_eq_getElem hi
  obtain ⟨k1, k2⟩ := h.row i _ r ea e
  refine ⟨as[i], ea, ?_, k1, k2⟩
  rw [List.getElem?_map, ea]
  rfl
theorem RowsAt.same {H0 H H' : Hp} {R : Addr} {as : List Addr} {rss : List (List Int)} (h : RowsAt H0 H R as rss) (s : Same H H') : RowsAt H0 H' R as rss :=
  ⟨s _ _ h.top, h.new, h.len, h.nd, h.out, fun i a r e1 e2 => ⟨(h.row i a r e1 e2).1, s _ _ (h.row i a r e1 e2).2⟩⟩
/-- what stood ahead may change -/
theorem RowsAt.apart {H0 H H' : Hp} {R : Addr} {as : List Addr} {rss : List (List Int)} (h : RowsAt H0 H R as rss) (s : ∀ b o, H b = some o → H0 b = none → H' b = some o) : RowsAt H0 H' R as rss :=
  ⟨s _ _ h.top h.new, h.new, h.len, h.nd, h.out, fun i a r e1 e2 => ⟨(h.row i a r e1 e2).1, s _ _ (h.row i a r e1 e2).2 (h.row i a r e1 e2).1⟩⟩
theorem RowsAt.older {H0 H1 H : Hp} {R : Addr} {as : List Addr} {rss : List (List Int)} (h : RowsAt H1 H R as rss) (s : Same H0 H1) : RowsAt H0 H R as rss :=
  ⟨h.top, s.free h.new, h.len, h.nd, h.out, fun i a r e1 e2 => ⟨s.free (h.row i a r e1 e2).1, (h.row i a r e1 e2).2⟩⟩
/-- a row more -/
theorem RowsAt.more {H0 H : Hp} {R p : Addr} {as : List Addr} {rss : List (List Int)} {r : List Int} (h : RowsAt H0 H R as rss) (s : Same H0 H) (hp : H p = none) :
    RowsAt H0 (upd (upd H p (.lst (iL r))) R (.lst (as.map V.ref ++ [.ref p]))) R (as ++ [p]) (rss ++ [r]) := by
  have pR : R ≠ p := ne_of_none h.top hp
  have pas : p ∉ as := fun hm => by
    obtain ⟨i, hi, e⟩ := List.getElem_of_mem hm
    have e' : as[i]? = some p := by rw [List.getElem?_eq_getElem hi, e]
    have hi2 : i < rss.length := by rw [← h.len]; exact hi
    have q := (h.row i p rss[i] e' (List.getElem?_eq_getElem hi2)).2
    rw [hp] at q
    cases q
  refine ⟨by rw [upd_same, List.map_append]; rfl, h.new, by simp [h.len], List.nodup_append.mpr ⟨h.nd, by simp, fun x hx y hy e => ?_⟩, fun hm => ?_, fun i a r' e1 e2 => ?_⟩
  · rw [List.mem_singleton.mp hy] at e
    exact pas (e ▸ hx)
  · rcases List.mem_append.mp hm with k | k
    · exact h.out k
    · exact pR (List.mem_singleton.mp k)
  · by_cases hi : i < as.length
    · rw [List.getElem?_append_left hi] at e1
      rw [List.getElem?_append_left (by rw [← h.len]; exact hi)] at e2
      obtain ⟨k1, k2⟩ := h.row i a r' e1 e2
      have aR : a ≠ R := fun e => h.out (e ▸ List.mem_of_getElem? e1)
      have ap : a ≠ p := ne_of_none k2 hp
      exact ⟨k1, by rw [upd_ne aR, upd_ne ap]; exact k2⟩
    · have hi' : as.length ≤ i := Nat.le_of_not_lt hi
      rw [List.getElem?_append_right hi'] at e1
      rw [List.getElem?_append_right (by rw [← h.len]; exact hi')] at e2
      obtain ⟨e1a, e1b⟩ := List.getElem?_eq_some_iff.mp e1
      obtain ⟨e2a, e2b⟩ := List.getElem?_eq_some_iff.mp e2
      simp only [List.getElem_singleton] at e1b e2b
      subst e1b
      subst e2b
      exact ⟨s.free hp, by rw [upd_ne pR.symm, upd_same]⟩
/-- a row is written -/
theorem RowsAt.write {H0 H : Hp} {R a : Addr} {as : List Addr} {rss : List (List Int)} {i : Nat} {r : List Int} (h : RowsAt H0 H R as rss) (e : as[i]? = some a) : RowsAt H0 (upd H a (.lst (iL r))) R as (rss.set i r) := by
  have aR : R ≠ a := fun z => h.out (z ▸ List.mem_of_getElem? e)
  refine ⟨by rw [upd_ne aR]; exact h.top, h.new, by rw [h.len, List.length_set], h.nd, h.out, fun j b r' e1 e2 => ?_⟩
  by_cases hj : i = j
  · subst hj
    have eb : a = b := Option.some.inj (e.symm.trans e1)
    subst eb
    have hi : i < rss.length := by
      rw [← h.len]
      exact (List.getElem?_eq_some_iff.mp e).1
    rw [List.getElem?_set_self hi] at e2
    cases Option.some.inj e2
    exact ⟨(h.row i a rss[i] e (List.getElem?_eq_getElem hi)).1, upd_same⟩
  · rw [List.getElem?_set_ne hj] at e2
    have ab : b ≠ a := fun z => hj (nd_ix h.nd e (z ▸ e1))
    obtain ⟨k1, k2⟩ := h.row j b r' e1 e2
    exact ⟨k1, by rw [upd_ne ab]; exact k2⟩
theorem RowsAt.sameW {H0 H : Hp} {R a : Addr} {as : List Addr} {rss : List (List Int)} {i : Nat} {o : HO} (h : RowsAt H0 H R as rss) (s : Same H0 H) (e : as[i]? = some a) : Same H0 (upd H a o) := by
  have hi : i < rss.length := by
    rw [← h.len]
    exact (List.getElem?_eq_some_iff.mp e).1
  exact Same.write s (h.row i a rss[i] e (List.getElem?_eq_getElem hi)).1
end Fd
namespace Fd
open PySem PySem.Spec PyProof.Rows L2
/-! ### defs as they stand behind the top -/
structure Fn (K : PySem.W.Frag) (mg : Str → Option Value) (x : Str) (st : Stmt) (ps : List Str) : Prop where
  ex : ∃ (f : Addr) (fd : FuncData), L2.Fun K x x st f fd ∧ mg x = some (.ref f) ∧ Binds K fd ps []
structure FnM (K : PySem.W.Frag) (C : Addr) (m qual : Str) (st : Stmt) (ps : List Str) : Prop where
  ex : ∃ (f : Addr) (fd : FuncData), L2.Fun K m qual st f fd ∧ Meth K C m f ∧ Binds K fd ps []
structure FnI (K : PySem.W.Frag) (C : Addr) (qual : Str) (st : Stmt) (ps : List Str) : Prop where
  ex : ∃ (f : Addr) (fd : FuncData), L2.Fun K "__init__" qual st f fd ∧ Mk K C f ∧ Binds K fd ps []
section
variable {P : Program} {w : World} {K : PySem.W.Frag} {mg : Str → Option Value} {base : Heap}
abbrev Body (P : Program) (w : World) (K : PySem.W.Frag) (mg : Str → Option Value) (base : Heap) (k : Nat) (qual : Str) (st : Stmt) (N : List Str) (sp : Sp) : Prop :=
  ∀ (f : Addr) (cdv : Value) (A : Around) (outer : List Env) (s : Shared) (H : Hp) (vs : List V) (Q : VK) (E : XK), Room k (A.deeper (envOfC qual (defScope st) s.heap.objs.size f cdv)) → sp vs H Q E →
    ∃ t, PSs (cxOf L2.CX0 P w K mg base N qual (defScope st) f cdv A outer s H E).nox (defBody st) t ∧ t { nx := fun _ H' => Q .non H', rt := Q } (start N vs) H
theorem cal_of {x : Str} {st : Stmt} {N ps : List Str} {k : Nat} {sp : Sp} (F : Fn K mg x st ps) (S : FnScope N ps (defScope st)) (len : ∀ vs H Q E, sp vs H Q E → vs.length = ps.length) (hb : Body P w K mg base k x st N sp) :
    C8.Cal P w K mg base (k + 1) x sp [] := by
  obtain ⟨f, fd, F, hm, b⟩ := F.ex
  exact ⟨f, fd, ps, [], F.ok S len fun cdv A outer s H vs Q E hr h => hb f cdv A outer s H vs Q E hr h, hm, F.kp, b, .nil⟩
theorem met_of {C : Addr} {m qual : Str} {st : Stmt} {N ps : List Str} {k : Nat} {sp : Sp} (c : Cls K C) (F : FnM K C m qual st ps) (S : FnScope N ps (defScope st)) (len : ∀ vs H Q E, sp vs H Q E → vs.length = ps.length) (hb : Body P w K mg base k qual st N sp) :
    C8.Met P w K mg base (k + 1) C m sp [] := by
  obtain ⟨f, fd, F, hm, b⟩ := F.ex
  exact ⟨f, fd, ps, [], c, hm, F.ok S len fun cdv A outer s H vs Q E hr h => hb f cdv A outer s H vs Q E hr h, b, .nil⟩
theorem mak_of {C : Addr} {x qual : Str} {st : Stmt} {N ps : List Str} {k : Nat} {sp : Sp} (g : mg x = some (.ref C)) (F : FnI K C qual st ps) (S : FnScope N ps (defScope st)) (len : ∀ vs H Q E, sp vs H Q E → vs.length = ps.length) (hb : Body P w K mg base k qual st N sp) :
    C8.Mak P w K mg base (k + 1) x C sp [] := by
  obtain ⟨f, fd, F, hm, b⟩ := F.ex
  exact ⟨f, fd, ps, [], hm, F.ok S len fun cdv A outer s H vs Q E hr h => hb f cdv A outer s H vs Q E hr h, g, b, .nil⟩
end
end Fd
namespace Fd
open PySem PySem.Spec PyProof.Rows L2
/-! ### what a call lets out within a try: wished for at any slots -/
abbrev EW (N : List Str) (W : WX) : XK := fun cls d H => ∀ σ : L2.St, σ.length = N.length → W cls d σ H
theorem passW {X : Cx} {W : WX} (tk : Takes X W) : Passes (L2.CX X.prog X.w) X (EW X.N W) := fun _ σ _ _ u st I c => tk u st (XE.of_call I (fun _ _ _ h => h σ I.len) c)
/-! ### a def that is handed the caught error -/
structure FnX (P : Program) (w : World) (K : PySem.W.Frag) (mg : Str → Option Value) (base : Heap) (k : Nat) (f : Addr) (fd : FuncData) (ps : List Str) (D : Addr) (sp : Addr → Sp) : Prop where
  run : ∀ (B : Around) (out : List Env) (st : Shared) (G : Hp) (us : List Value) (vs : List V) (R : VK) (p : Addr × Obj), L2H.RoomH k B → Zc (.ref D) none p.2 → (∃ z, p.2.data = .fields z) → L2H.PinOk out G st p →
    Env0 P w K mg base B out st G → BindsTo st fd ⟨us, []⟩ (ps.zip us) → Vals vs us → vs.length = ps.length → sp p.1 vs G R L2.E0 → codeAny (model P w) B (.call (.ref f) ⟨us, []⟩) (CR L2.CX0 out P w G st R L2.E0) st
theorem fnX_of {P : Program} {w : World} {K : PySem.W.Frag} {mg : Str → Option Value} {base : Heap} {k : Nat} {f D : Addr} {x qual : Str} {st0 : Stmt} {fd : FuncData} {N ps : List Str} {sp : Addr → Sp} (F : L2.Fun K x qual st0 f fd) (S : FnScope N ps (defScope st0))
    (hb : ∀ (cdv : Value) (B : Around) (out : List Env) (st : Shared) (G : Hp) (vs : List V) (R : VK) (p : Addr × Obj), Zc (.ref D) none p.2 → (∃ z, p.2.data = .fields z) → sp p.1 vs G R L2.E0 →
      ∃ t, PSs (L2H.cxH L2.CX0 P w K mg base N qual (defScope st0) f cdv B out st G L2.E0 p).nox (defBody st0) t ∧ t { nx := fun _ G' => R .non G', rt := R } (L2.start N vs) G) : FnX P w K mg base (k + 1) f fd ps D sp := by
  obtain ⟨oc, od, kV, doc, pm, an, cdv, ct, osl, rfl, lk, hcd⟩ := F.ex
  refine ⟨fun B out st G us vs R p room hz hf hpin e0 bind r hl hsp => ?_⟩
  have kin : K.In st.heap := e0.mod.kin.keeps fun b o e => (e0.bs b o e).1
  have nolim : st.heap.NoLimit := e0.mod.nolimit.keeps fun b o e => (e0.bs b o e).1
  have kinds : ∀ z ∈ ps.zip us, (defScope st0).names.lookup z.1 = some .local ∨ ((defScope st0).names.lookup z.1 = some .cell ∧ ((cellsFrom (st.heap.objs.size + 1) (defScope st0).names []).lookup z.1).isSome = true) := fun ⟨n, v⟩ hz => by
    rcases S.par n (List.of_mem_zip hz).1 with q | q
    · exact .inl q
    · exact .inr ⟨q, PySem.W.cellsFrom_some _ _ _ (.inl q)⟩
  refine codeAny_call_function room.depth (kin _ _ lk) rfl S.co S.gen rfl (PySem.W.codeRec_of kin hcd) (bind _ _ _ _ ?_)
  refine wpAny_newFunctionEnv_cells S.kind kinds fun env he st1 into => ?_
  subst he
  refine ⟨nolim.keeps into.toInCall.keep, codeAny_func ?_⟩
  obtain ⟨t, ht, hq⟩ := hb cdv B out st G vs R p hz hf hsp
  have I := (L2H.inv_startH (CX := L2.CX0) (E := L2.E0) S hpin e0 hl r into).wish fun _ _ => False
  refine wpAny_mono (ht.run [] st1 _ G _ I hq) (fun fl s' hs => ?_) fun e s' hs => hs.elim
  cases fl with
  | next =>
    obtain ⟨σ', G', J, q⟩ := hs
    exact ⟨V.non, G', J.os, J.bare, J.base, J.hok, rfl, q⟩
  | ret u =>
    obtain ⟨v, σ', G', J, rv, q⟩ := hs
    exact ⟨v, G', J.os, J.bare, J.base, J.hok, rv, q⟩
  | brk => exact hs.elim fun _ h => h.elim fun _ h => h.2.elim
  | cont => exact hs.elim fun _ h => h.elim fun _ h => h.2.elim
/-- f(n), n the name of the caught error, within the except suite -/
def tCallX (D0 : Value) (d0 : Option Addr) (a : Addr) (D : Addr) (sp : Addr → Sp) (t : TA) : TE := fun σ H Q => (D0 = .ref D ∧ d0 = none) ∧ t σ H fun vs H1 => vs.length = 1 ∧ sp a vs H1 Q L2.E0
section
variable {X : Cx}
theorem pe_callX {k : Nat} {f a D : Addr} {fd : FuncData} {ps : List Str} {sp : Addr → Sp} {oe : Obj} {cls : Value} {d : Option Addr} {pn : List (Addr × Obj)} {x : Str} {q pos : Pos} {e : Expr} {t : TA} (F : FnX X.prog X.w X.K X.mg X.base k f fd ps D sp) (hp1 : ps.length = 1) (hr : Room k X.A)
    (hz : Zc cls d oe) (hf : ∃ z, oe.data = .fields z) (hg : Gl X x) (hm : X.mg x = some (.ref f)) (hk : PySem.W.keepIn X.K (.ref f) = true) (hb : Binds X.K fd ps []) (ha : PA (X.suite a ((a, oe) :: pn)) [e] t)
    (hdb : (x == ("__debug__" : Str)) = false := by decide) (he : starEach [e] (X.suite a ((a, oe) :: pn)).env = (false, eval e (X.suite a ((a, oe) :: pn)).env) :: starEach [] (X.suite a ((a, oe) :: pn)).env := by rfl)
    (hpl : (backTo pos (starEach [] (X.suite a ((a, oe) :: pn)).env)).any (·.1) = false := by rfl) :
    PE (X.suite a ((a, oe) :: pn)) (.Call (.Name x q) [e] [] pos) (tCallX cls d a D sp t) := by
  refine ⟨fun pins s σ H Q I h => ?_⟩
  obtain ⟨⟨rfl, rfl⟩, h⟩ := h
  refine wpAny_Call_Name_kw (ld_glob I hg hm ?_ hdb)
  refine PySem.W.callWith_K (h₀ := X.base) I.ok.mod.kin hk (thn (ha.run pos pins s σ H _ I h) fun us s1 ⟨vs, H1, I1, r, hl, q⟩ => ⟨I1.kIn, ?_⟩) he hpl
  have lu : us.length = ps.length := by rw [← r.length, hl, hp1]
  have b := hb s1 us I1.kIn (by rw [List.append_nil]; exact lu)
  rw [List.append_nil] at b
  have pin := I1.pin (a, oe) (List.mem_append_left _ List.mem_cons_self)
  have ok : L2H.PinOk (X.suite a ((a, oe) :: pn)).stack H1 s1 (a, oe) := ⟨pin.1, pin.2.1, fun hm => (List.mem_cons.mp (I1.stkSub a hm)).elim pin.2.2.1 pin.2.2.2.1, pin.2.2.2.2⟩
  refine wpAny_call (codeAny_mono (F.run _ _ s1 H1 us vs Q (a, oe) (L2H.roomH_of (A := X.A) hr |> fun z => ⟨z.dp, z.un⟩) hz hf ok I1.env0 b r (by rw [hl, hp1]) q) fun res s' hq => ?_)
  cases res with
  | error e => exact hq.elim
  | ok fl =>
    cases fl with
    | ret u => exact I1.after hq
    | next => exact hq.elim
    | brk => exact hq.elim
    | cont => exact hq.elim
/-- isinstance of the caught error within the def it was handed to -/
def rIsX (K : PySem.W.Frag) (D a : Addr) : List V → Hp → VK → Prop := fun xs H Q => ∃ (c : V) (cv : Value) (b : Bool), xs = [.ref a, c] ∧ (∀ u, RelV c u → u = cv) ∧ PySem.W.kitOne K (.ref D) cv = some b ∧ Q (.bl b) H
theorem call_isX {D : Addr} {p : Addr × Obj} (hp : p ∈ X.pn) (C : ExcC X.K D) (hz : Zc (.ref D) none p.2) (hf : ∃ z, p.2.data = .fields z) : CallR X (.builtin "isinstance") (rIsX X.K D p.1) := by
  intro pins s σ H xs us Q I r h
  obtain ⟨c, cv, b, rfl, hcv, e, q⟩ := h
  obtain ⟨u1, u2, rfl, r1, r2⟩ := vals2 r
  cases r1
  have ec := hcv _ r2
  subst ec
  have got := (I.pin p (List.mem_append_left _ hp)).1
  obtain ⟨pa, po⟩ := p
  obtain ⟨z, hv⟩ := hf
  have J : PySem.W.InstAt s.heap pa po D none := by
    obtain ⟨oc, od, oda, osl⟩ := po
    obtain ⟨z1, z2⟩ := hz
    dsimp only at z1 z2 hv
    subst z1
    subst z2
    subst hv
    exact ⟨got, rfl, rfl, trivial⟩
  exact PySem.W.kia_one (PySem.W.handS_kitx_exc C.hg C.hk C.hs C.hd C.ha C.hn C.ht C.hm) I.kIn J e (fun y => nomatch y) fun tk => ⟨.bl b, H, I.tok tk, rfl, q⟩
/-- a text times nought or one -/
def rRepS : R2 := fun x y H Q => ∃ (z : Str) (b : Bool), x = .str z ∧ y = .int (if b then 1 else 0) ∧ Q (.str (if b then z else Str.empty)) H
theorem op_repS : OpR X (binaryOp .Mult) rRepS := by
  intro pins s σ H x y v u Q I rx ry h
  obtain ⟨z, b, rfl, rfl, q⟩ := h
  obtain ⟨t, rfl⟩ := rx
  cases b with
  | true =>
    obtain ⟨t', rfl⟩ : ∃ t', u = Value.int 1 t' := ry
    refine P.mul_str (by decide) (fun _ h => ?_) (fun _ h => ?_) ?_
    · simp at h
    · simp at h
    · rw [if_neg (by decide), if_pos (by simp)]
      exact ⟨.str z, H, I, ⟨t, rfl⟩, q⟩
  | false =>
    obtain ⟨t', rfl⟩ : ∃ t', u = Value.int 0 t' := ry
    exact P.mul_str_none (by decide) (by decide) ⟨.str Str.empty, H, I.tok _, ⟨_, rfl⟩, q⟩
end
end Fd
namespace Fd
open PySem L2
def top (i : Nat) : Stmt := PySem.Challenge.pw_flatdraw_k02_webs_refused.main.body.getD i (.Pass ⟨0, 0, 0, 0⟩)
abbrev sWall : Stmt := top 0
abbrev sWebInit : Stmt := inClass (top 9) 0
abbrev sWebTies : Stmt := inClass (top 9) 1
abbrev sWebBeside : Stmt := inClass (top 9) 2
abbrev sWebTied : Stmt := inClass (top 9) 3
abbrev sWebPieces : Stmt := inClass (top 9) 4
abbrev sWebCheckPoint : Stmt := inClass (top 9) 5
abbrev sJoined : Stmt := top 10
abbrev sIsTie : Stmt := top 11
abbrev sIsPoint : Stmt := top 12
abbrev sIsNumber : Stmt := top 13
abbrev sLawCellAt : Stmt := top 15
abbrev sLawWhole : Stmt := top 16
abbrev sLawWord : Stmt := top 17
abbrev sLawMade : Stmt := top 18
abbrev sLawAsked : Stmt := top 19
abbrev sLawGood : Stmt := top 20
abbrev sLawOdd : Stmt := top 21
abbrev sLaw : Stmt := top 22
end Fd
namespace Fd
open PySem PySem.Spec PyProof.Rows L2
/-! ### what the top has left, as far as the webs ask -/
structure WTxt (K : PySem.W.Frag) (mg : Str → Option Value) (C : Addr) : Prop where
  cl : Cls K C
  nMany : NoAttr K C "many"
  nRows : NoAttr K C "_rows"
  gWeb : mg "Web" = some (.ref C)
  mostP : ∃ t, mg "MOST_POINTS" = some (.int 16 t)
  mostT : ∃ t, mg "MOST_TIES" = some (.int 40 t)
  len : mg "len" = none
  type : mg "type" = none
  int : mg "int" = none
  list : mg "list" = none
  tuple : mg "tuple" = none
  range : mg "range" = none
  sorted : mg "sorted" = none
  fNum : Fn K mg "is_number" sIsNumber ["thing"]
  fPoint : Fn K mg "is_point" sIsPoint ["many", "thing"]
  fTie : Fn K mg "_is_tie" sIsTie ["many", "thing"]
  fJoined : Fn K mg "_joined" sJoined ["many", "ties"]
  fInit : FnI K C "Web.__init__" sWebInit ["self", "many", "ties"]
/-! ### the small tests -/
def spNum (K : PySem.W.Frag) : Sp := fun vs H Q _ => ∃ (x : V) (T : String), vs = [x] ∧ TyB K H x T ∧ Q (.bl (decide (T = "int"))) H
def isPt (m : Int) : V → Bool
  | .int i => decide (0 ≤ i) && decide (i < m)
  | _ => false
def spPoint (K : PySem.W.Frag) : Sp := fun vs H Q _ => ∃ (m : Int) (x : V) (T : String), vs = [.int m, x] ∧ TyB K H x T ∧ Q (.bl (isPt m x)) H
theorem isPt_int {m : Int} {x : V} (h : isPt m x = true) : ∃ i, x = .int i := by
  cases x with
  | int i => exact ⟨i, rfl⟩
  | _ => cases h
def tieOk (m : Int) : List V → Bool
  | [y, z] => isPt m y && isPt m z && !decide (y = z)
  | _ => false
def spTie (K : PySem.W.Frag) : Sp := fun vs H Q _ => ∃ (m : Int) (x : V), vs = [.int m, x] ∧
  ((∃ T, TyB K H x T ∧ T ≠ "tuple" ∧ Q (.bl false) H) ∨ ∃ (a : Addr) (xs : List V), x = .ref a ∧ SqT K H a xs ∧ (∀ y ∈ xs, ∃ T, TyB K H y T) ∧ Q (.bl (tieOk m xs)) H)
section
variable {P : Program} {w : World} {K : PySem.W.Frag} {mg : Str → Option Value} {base : Heap} {C : Addr}
theorem scNum : FnScope ["thing"] ["thing"] (defScope sIsNumber) := ⟨rfl, rfl, rfl, by decide +kernel, rfl, by decide +kernel, by decide +kernel⟩
theorem c_num (T : WTxt K mg C) : C8.Cal P w K mg base 1 "is_number" (spNum K) [] := by
  refine cal_of T.fNum scNum (fun vs H Q E h => ?_) (fun f cdv A outer s H vs Q E hr h => ?_)
  · obtain ⟨x, t, rfl, _⟩ := h
    rfl
  · obtain ⟨x, t, rfl, ht, k⟩ := h
    refine ⟨_, pss_one (ps_ret (pe_cmpR op_eqTy (pe_callTy call_type1 (by rfl) T.type (by decide +kernel) (pa_cons (pv 0) pa_nil)) (pe_bltn (v := .ty "int") (by rfl) T.int (by decide +kernel) rfl) (nomark _))), ?_⟩
    exact ⟨_, rfl, x, t, rfl, ht, t, "int", rfl, rfl, TyB_kind ht, by decide, k⟩
theorem scPoint : FnScope ["many", "thing"] ["many", "thing"] (defScope sIsPoint) := ⟨rfl, rfl, rfl, by decide +kernel, rfl, by decide +kernel, by decide +kernel⟩
theorem c_point (T : WTxt K mg C) : C8.Cal P w K mg base 2 "is_point" (spPoint K) [] := by
  refine cal_of T.fPoint scPoint (fun vs H Q E h => ?_) (fun f cdv A outer s H vs Q E hr h => ?_)
  · obtain ⟨m, x, t, rfl, _⟩ := h
    rfl
  · obtain ⟨m, x, t, rfl, ht, k⟩ := h
    refine ⟨_, pss_one (ps_ret (pe_and (C8.pe_c (c_num T) hr (by decide) (by rfl) (pa_cons (pv 1) pa_nil)) (pe_one (pe_chain op_le op_lt pe_int (pv 1) (pv 0))))), ?_⟩
    refine ⟨_, rfl, x, t, rfl, ht, _, rfl, ?_⟩
    cases ht with
    | int i =>
      refine iteT ?_
      refine ⟨_, rfl, 0, i, rfl, rfl, _, rfl, ?_⟩
      refine ite2 (fun c => ?_) (fun c => ?_)
      · refine ⟨_, rfl, i, m, rfl, rfl, ?_⟩
        have e : isPt m (.int i) = decide (i < m) := by
          show (decide (0 ≤ i) && decide (i < m)) = _
          rw [c, Bool.true_and]
        rw [e] at k
        exact k
      · have e : isPt m (.int i) = false := by
          show (decide (0 ≤ i) && decide (i < m)) = _
          rw [Bool.eq_false_iff.mpr c, Bool.false_and]
        rw [e] at k
        exact k
    | non => exact k
    | bl b => exact k
    | str x => exact k
    | byt b => exact k
    | lst h => exact k
    | tup h => exact k
    | dK h => exact k
theorem scTie : FnScope ["many", "thing", "one", "other"] ["many", "thing"] (defScope sIsTie) := ⟨rfl, rfl, rfl, by decide +kernel, rfl, by decide +kernel, by decide +kernel⟩
theorem c_tie (T : WTxt K mg C) : C8.Cal P w K mg base 3 "_is_tie" (spTie K) [] := by
  refine cal_of T.fTie scTie (fun vs H Q E h => ?_) (fun f cdv A outer s H vs Q E hr h => ?_)
  · obtain ⟨m, x, rfl, _⟩ := h
    rfl
  · obtain ⟨m, x, rfl, h⟩ := h
    refine ⟨_, pss_cons (ps_if (PW.pt (pw_or (pt_cmpR op_neTy (pe_callTy call_type1 (by rfl) T.type (by decide +kernel) (pa_cons (pv 1) pa_nil)) (pe_bltn (v := .ty "tuple") (by rfl) T.tuple (by decide +kernel) rfl) (nomark _))
        (pw_or1 (pt_cmpR op_ne (pe_callB call_len_seq (by rfl) T.len PySem.boot_len (pa_cons (pv 1) pa_nil)) pe_int (nomark _))))) (pss_one (ps_ret pe_bl)) pss_nil)
      (pss_cons (ps_asg (pv 1) (pg_tup (by rfl) (pgs_cons (pg_name (i := 2) scTie.nd rfl (.inl rfl)) (pgs_cons (pg_name (i := 3) scTie.nd rfl (.inl rfl)) pgs_nil))))
      (pss_one (ps_ret (pe_and (C8.pe_c (c_point T) hr (by decide) (by rfl) (pa_cons (pv 0) (pa_cons (pv 2) pa_nil)))
        (pe_and (C8.pe_c (c_point T) hr (by decide) (by rfl) (pa_cons (pv 0) (pa_cons (pv 3) pa_nil))) (pe_one (pe_cmpR op_ne (pv 2) (pv 3) (nomark _)))))))), ?_⟩
    rcases h with ⟨t, ht, hne, k⟩ | ⟨a, xs, rfl, hT, hy, k⟩
    · refine ⟨_, rfl, x, t, rfl, ht, t, "tuple", rfl, rfl, TyB_kind ht, by decide, _, rfl, ?_⟩
      rw [decide_eq_false hne]
      exact iteT (iteT k)
    · refine ⟨_, rfl, .ref a, "tuple", rfl, .tup hT, "tuple", "tuple", rfl, rfl, by decide, by decide, _, rfl, ?_⟩
      refine iteF ?_
      refine ⟨_, rfl, a, xs, rfl, .inr hT, rfl, _, rfl, ?_⟩
      match xs, hT, hy, k with
      | [], _, _, k => exact iteT k
      | [_], _, _, k => exact iteT k
      | _ :: _ :: _ :: l, _, _, k =>
        refine ite2 (fun _ => k) (fun c => ?_)
        refine absurd ?_ c
        rw [Bool.not_eq_true', decide_eq_false_iff_not]
        intro z
        have z : (((l.length + 1 + 1 + 1 : Nat)) : Int) = 2 := V.int.inj z
        omega
      | [y, z], hT, hy, k =>
        obtain ⟨t1, h1⟩ := hy y (by simp)
        obtain ⟨t2, h2⟩ := hy z (by simp)
        refine iteF ?_
        refine ⟨_, rfl, a, [y, z], rfl, hT, rfl, y, [z], rfl, z, [], rfl, rfl, ?_⟩
        refine ⟨_, rfl, _, rfl, m, y, t1, rfl, h1, _, rfl, ?_⟩
        refine ite2 (fun c1 => ?_) (fun c1 => ?_)
        · refine ⟨_, rfl, _, rfl, m, z, t2, rfl, h2, _, rfl, ?_⟩
          refine ite2 (fun c2 => ?_) (fun c2 => ?_)
          · obtain ⟨i, rfl⟩ := isPt_int c1
            obtain ⟨j, rfl⟩ := isPt_int c2
            refine ⟨_, rfl, _, rfl, rfl, ?_⟩
            have e : tieOk m [.int i, .int j] = !decide (V.int i = V.int j) := by
              show (isPt m (.int i) && isPt m (.int j) && !decide (V.int i = V.int j)) = _
              rw [c1, c2, Bool.and_self, Bool.true_and]
            rw [e] at k
            exact k
          · have e : tieOk m [y, z] = false := by
              show (isPt m y && isPt m z && !decide (y = z)) = _
              rw [c1, Bool.eq_false_iff.mpr c2, Bool.and_false, Bool.false_and]
            rw [e] at k
            exact k
        · have e : tieOk m [y, z] = false := by
            show (isPt m y && isPt m z && !decide (y = z)) = _
            rw [Bool.eq_false_iff.mpr c1, Bool.false_and, Bool.false_and]
          rw [e] at k
          exact k
end
end Fd
namespace Fd
open PySem PySem.Spec PyProof.Rows L2
theorem no_ {b : Bool} {A B : Prop} (e : b = false) (h : B) : if b = true then A else B := by
  rw [e]
  exact iteF h
theorem yep_ {b : Bool} {A B : Prop} (e : b = true) (h : A) : if b = true then A else B := by
  rw [e]
  exact iteT h
theorem yes_ {σ : L2.St} {H : Hp} {Q : Bool → Hp → Prop} (h : Q true H) : tYes σ H Q := h
theorem RowsAt.start {H : Hp} {D : Addr} (h : H D = none) : RowsAt H (upd H D (.lst [])) D [] [] :=
  ⟨upd_same, h, rfl, List.nodup_nil, by simp, fun i a r e _ => by simp at e⟩
/-! ### the rows as they grow -/
def nbRows (m : Nat) (ts : List Tie) : List (List Int) := (pts m).map (nb ts)
theorem nbRows_at {m : Nat} {ts : List Tie} {i : Nat} (h : i < m) : (nbRows m ts)[i]? = some (nb ts i) := by
  unfold nbRows
  rw [List.getElem?_map, pts_at h]
  rfl
theorem nbRows_len (m : Nat) (ts : List Tie) : (nbRows m ts).length = m := by simp [nbRows, pts_len]
theorem nbRows_nil (m : Nat) : nbRows m [] = List.replicate m [] := by
  unfold nbRows
  rw [show (nb [] : Int → List Int) = fun _ => [] from rfl, List.map_const', pts_len]
theorem nbRows_step {m : Nat} {ts : List Tie} {p q : Nat} (hp : p < m) (hq : q < m) (hne : p ≠ q) :
    ((nbRows m ts).set p (nb ts p ++ [(q : Int)])).set q (nb ts q ++ [(p : Int)]) = nbRows m (ts ++ [((p : Int), (q : Int))]) := by
  refine List.ext_getElem? fun j => ?_
  by_cases hj : j < m
  · rw [nbRows_at hj, nb_snoc]
    by_cases h2 : q = j
    · subst h2
      rw [List.getElem?_set_self (by rw [List.length_set, nbRows_len]; exact hj)]
      have e : here ((p : Int), (q : Int)) (q : Int) = [(p : Int)] := by
        unfold here
        rw [if_neg (by show ¬ (p : Int) = (q : Int); omega), if_pos rfl]
        rfl
      rw [e]
    · rw [List.getElem?_set_ne h2]
      by_cases h1 : p = j
      · subst h1
        rw [List.getElem?_set_self (by rw [nbRows_len]; exact hj)]
        have e : here ((p : Int), (q : Int)) (p : Int) = [(q : Int)] := by
          unfold here
          rw [if_pos rfl, if_neg (by show ¬ (q : Int) = (p : Int); omega)]
          rfl
        rw [e]
      · rw [List.getElem?_set_ne h1, nbRows_at hj]
        have e : here ((p : Int), (q : Int)) (j : Int) = [] := by
          unfold here
          rw [if_neg (by show ¬ (p : Int) = (j : Int); omega), if_neg (by show ¬ (q : Int) = (j : Int); omega)]
          rfl
        rw [e, List.append_nil]
  · rw [List.getElem?_eq_none (by rw [List.length_set, List.length_set, nbRows_len]; omega), List.getElem?_eq_none (by rw [nbRows_len]; omega)]
theorem here_len (t : Tie) (p : Int) : (here t p).length ≤ 2 := by
  unfold here
  rw [List.length_append]
  split <;> split <;> simp
theorem nb_len : ∀ (ts : List Tie) (p : Int), (nb ts p).length ≤ 2 * ts.length
  | [], _ => by simp [nb]
  | t :: ts, p => by
    have e : nb (t :: ts) p = here t p ++ nb ts p := by simp [nb]
    have h1 := here_len t p
    have h2 := nb_len ts p
    rw [e, List.length_append, List.length_cons]
    omega
end Fd
namespace Fd
open PySem PySem.Spec PyProof.Rows L2
/-! ### defs that may raise -/
structure CalX (P : Program) (w : World) (K : PySem.W.Frag) (mg : Str → Option Value) (base : Heap) (k : Nat) (x : Str) (sp : Sp) : Prop where
  ex : ∃ (f : Addr) (fd : FuncData) (ps : List Str), FnOk P w K mg base (L2.CX P w) k f fd ps sp ∧ mg x = some (.ref f) ∧ PySem.W.keepIn K (.ref f) = true ∧ Binds K fd ps []
structure MetX (P : Program) (w : World) (K : PySem.W.Frag) (mg : Str → Option Value) (base : Heap) (k : Nat) (C : Addr) (m : Str) (sp : Sp) : Prop where
  ex : ∃ (f : Addr) (fd : FuncData) (ps : List Str), Cls K C ∧ Meth K C m f ∧ FnOk P w K mg base (L2.CX P w) k f fd ps sp ∧ Binds K fd ps []
structure MakX (P : Program) (w : World) (K : PySem.W.Frag) (mg : Str → Option Value) (base : Heap) (k : Nat) (x : Str) (C : Addr) (sp : Sp) : Prop where
  ex : ∃ (f : Addr) (fd : FuncData) (ps : List Str), Mk K C f ∧ FnOk P w K mg base (L2.CX P w) k f fd ps sp ∧ mg x = some (.ref C) ∧ Binds K fd ps []
section
variable {P : Program} {w : World} {K : PySem.W.Frag} {mg : Str → Option Value} {base : Heap}
abbrev BodyX (P : Program) (w : World) (K : PySem.W.Frag) (mg : Str → Option Value) (base : Heap) (k : Nat) (qual : Str) (st : Stmt) (N : List Str) (sp : Sp) : Prop :=
  ∀ (f : Addr) (cdv : Value) (A : Around) (outer : List Env) (s : Shared) (H : Hp) (vs : List V) (Q : VK) (E : XK), Room k (A.deeper (envOfC qual (defScope st) s.heap.objs.size f cdv)) → sp vs H Q E →
    ∃ t, PSs (cxOf (L2.CX P w) P w K mg base N qual (defScope st) f cdv A outer s H E) (defBody st) t ∧ t { nx := fun _ H' => Q .non H', rt := Q } (start N vs) H
theorem calX_of {x : Str} {st : Stmt} {N ps : List Str} {k : Nat} {sp : Sp} (F : Fn K mg x st ps) (S : FnScope N ps (defScope st)) (len : ∀ vs H Q E, sp vs H Q E → vs.length = ps.length) (hb : BodyX P w K mg base k x st N sp) : CalX P w K mg base (k + 1) x sp := by
  obtain ⟨f, fd, F, hm, b⟩ := F.ex
  exact ⟨f, fd, ps, F.okX S len fun cdv A outer s H vs Q E hr h => hb f cdv A outer s H vs Q E hr h, hm, F.kp, b⟩
theorem metX_of {C : Addr} {m qual : Str} {st : Stmt} {N ps : List Str} {k : Nat} {sp : Sp} (c : Cls K C) (F : FnM K C m qual st ps) (S : FnScope N ps (defScope st)) (len : ∀ vs H Q E, sp vs H Q E → vs.length = ps.length) (hb : BodyX P w K mg base k qual st N sp) : MetX P w K mg base (k + 1) C m sp := by
  obtain ⟨f, fd, F, hm, b⟩ := F.ex
  exact ⟨f, fd, ps, c, hm, F.okX S len fun cdv A outer s H vs Q E hr h => hb f cdv A outer s H vs Q E hr h, b⟩
theorem makX_of {C : Addr} {x qual : Str} {st : Stmt} {N ps : List Str} {k : Nat} {sp : Sp} (g : mg x = some (.ref C)) (F : FnI K C qual st ps) (S : FnScope N ps (defScope st)) (len : ∀ vs H Q E, sp vs H Q E → vs.length = ps.length) (hb : BodyX P w K mg base k qual st N sp) : MakX P w K mg base (k + 1) x C sp := by
  obtain ⟨f, fd, F, hm, b⟩ := F.ex
  exact ⟨f, fd, ps, hm, F.okX S len fun cdv A outer s H vs Q E hr h => hb f cdv A outer s H vs Q E hr h, g, b⟩
end
section
variable {X : Cx} {k j : Nat} {C : Addr} {x m : Str} {sp : Sp} {E : XK} {p pos apos : Pos} {e o : Expr} {es : List Expr} {ta : TE} {t : TA}
theorem pe_cX (c : CalX X.prog X.w X.K X.mg X.base k x sp) (hr : Room j X.A) (hk : k ≤ j) (hg : Gl X x) (hx : Passes (L2.CX X.prog X.w) X E) (ha : PA X (e :: es) t)
    (hdb : (x == ("__debug__" : Str)) = false := by decide) (he : starEach (e :: es) X.env = (false, eval e X.env) :: starEach es X.env := by rfl) (hpl : (backTo pos (starEach es X.env)).any (·.1) = false := by rfl) : PE X (.Call (.Name x p) (e :: es) [] pos) (tCall sp [] E t) := by
  obtain ⟨f, fd, ps, F, hm, kp, b⟩ := c.ex
  exact pe_call F (hr.mono hk) hg hm kp b .nil hx ha hdb he hpl
theorem pe_mkX (c : MakX X.prog X.w X.K X.mg X.base k x C sp) (hr : Room j X.A) (hk : k + 1 ≤ j) (hg : Gl X x) (hx : Passes (L2.CX X.prog X.w) X E) (ha : PA X (e :: es) t)
    (hdb : (x == ("__debug__" : Str)) = false := by decide) (he : starEach (e :: es) X.env = (false, eval e X.env) :: starEach es X.env := by rfl) (hpl : (backTo pos (starEach es X.env)).any (·.1) = false := by rfl) : PE X (.Call (.Name x p) (e :: es) [] pos) (tMake C sp [] E t) := by
  obtain ⟨f, fd, ps, M, F, hm, b⟩ := c.ex
  exact pe_make M F (hr.mono hk) hg hm b .nil hx ha hdb he hpl
theorem pe_mtX {pl : Sem Bool} (c : MetX X.prog X.w X.K X.mg X.base k C m sp) (hr : Room j X.A) (hk : k ≤ j) (hx : Passes (L2.CX X.prog X.w) X E) (he : PE X o ta) (ha : PA X (e :: es) t)
    (hst : starEach (e :: es) X.env = (false, eval e X.env) :: starEach es X.env := by rfl) (hpl : (backTo pos (starEach es X.env)).any (·.1) = false := by rfl)
    (ht : eval (.Call (.Attribute o m apos) (e :: es) [] pos) X.env = (do
      let ov ← eval o X.env
      standAt apos.atName
      let (f, first) ← holding [ov] (getMethod ov m pl)
      callWith pos f first (backTo pos (starEach (e :: es) X.env)) (backToKw pos (keywordEach [] X.env))) := by rfl) : PE X (.Call (.Attribute o m apos) (e :: es) [] pos) (tMeth C m sp [] E ta t) := by
  obtain ⟨f, fd, ps, hc, hm, F, b⟩ := c.ex
  exact pe_meth (pl := pl) he hc hm F (hr.mono hk) b .nil hx ha hst hpl ht
end
/-! ### the error classes -/
abbrev bmV : List Value := [.type "ValueError", .type "Exception", .type "BaseException", .type "object"]
structure Err (K : PySem.W.Frag) (mg : Str → Option Value) (x : Str) (D : Addr) : Prop where
  g : mg x = some (.ref D)
  x : PySem.W.excIn K D bmV "ValueError.__new__" = true
  k : PySem.W.keepIn K (.ref D) = true
  b : PySem.W.subIn K (.ref D) (.type "BaseException") = some true
  t : PySem.W.typeIn K (.ref D) = some (.type "type")
theorem SqT.same {K : PySem.W.Frag} {H H' : Hp} {a : Addr} {xs : List V} (s : Same H H') (h : SqT K H a xs) : SqT K H' a xs := by
  rcases h with (h | ⟨o, h⟩) | h
  · exact .inl (.inl (s _ _ h))
  · exact .inl (.inr ⟨o, s _ _ h⟩)
  · exact .inr h
theorem TyB.same {K : PySem.W.Frag} {H H' : Hp} {x : V} {T : String} (s : Same H H') (h : TyB K H x T) : TyB K H' x T := by
  cases h with
  | non => exact .non
  | bl b => exact .bl b
  | int i => exact .int i
  | str x => exact .str x
  | byt b => exact .byt b
  | lst h => exact .lst (s.seq h)
  | tup h => exact .tup (SqT.same s h)
  | dK h => exact .dK (s _ _ h)
/-- no tie of m points behind the ties ts -/
def BadTie (K : PySem.W.Frag) (H : Hp) (m : Nat) (ts : List Tie) (x : V) : Prop :=
  (∃ T, TyB K H x T ∧ T ≠ "tuple") ∨ ∃ (a : Addr) (xs : List V), x = .ref a ∧ SqT K H a xs ∧ (∀ y ∈ xs, ∃ T, TyB K H y T) ∧ (tieOk m xs = false ∨ ∃ p q : Nat, xs = [.int p, .int q] ∧ p < m ∧ q < m ∧ p ≠ q ∧ Adj ts p q)
theorem BadTie.same {K : PySem.W.Frag} {H H' : Hp} {m : Nat} {ts : List Tie} {x : V} (s : Same H H') (h : BadTie K H m ts x) : BadTie K H' m ts x := by
  rcases h with ⟨T, h, n⟩ | ⟨a, xs, e, h, k, r⟩
  · exact .inl ⟨T, TyB.same s h, n⟩
  · exact .inr ⟨a, xs, e, SqT.same s h, fun y hy => (k y hy).imp fun T z => TyB.same s z, r⟩
theorem tie_ok {m p q : Nat} (hp : p < m) (hq : q < m) (hne : p ≠ q) : tieOk m [.int p, .int q] = true := by
  show (isPt m (.int p) && isPt m (.int q) && !decide (V.int p = V.int q)) = true
  have e1 : isPt m (.int p) = true := by
    show (decide ((0 : Int) ≤ p) && decide ((p : Int) < m)) = true
    rw [decide_eq_true (by omega), decide_eq_true (by omega), Bool.and_self]
  have e2 : isPt m (.int q) = true := by
    show (decide ((0 : Int) ≤ q) && decide ((q : Int) < m)) = true
    rw [decide_eq_true (by omega), decide_eq_true (by omega), Bool.and_self]
  rw [e1, e2, decide_eq_false (fun z => hne (by have := V.int.inj z; omega)), Bool.and_self, Bool.true_and, Bool.not_false]
/-- either all of ws are good ties ts, or the first ones are, and the next is none -/
def spJoinedX (K : PySem.W.Frag) (D : Addr) : Sp := fun vs H Q E => ∃ (m : Nat) (a : Addr) (ws : List V) (n : Nat) (ts : List Tie), vs = [.int m, .ref a] ∧ SqL K H a ws ∧ PairsAt H (ws.take n) ts ∧ Good m ts ∧ ts.length = n ∧ m ≤ 16 ∧ n ≤ 40 ∧
  ((n = ws.length ∧ ∀ (H' : Hp) (R : Addr) (as : List Addr), Same H H' → RowsAt H H' R as (rowsOf m ts) → Q (.ref R) H') ∨
    (∃ x, ws[n]? = some x ∧ BadTie K H m ts x ∧ ∀ H', Same H H' → E (.ref D) none H'))
section
variable {P : Program} {w : World} {K : PySem.W.Frag} {mg : Str → Option Value} {base : Heap} {C D : Addr}
theorem scJoined : FnScope ["many", "ties", "rows", "tie", "one", "other", "_", "row"] ["many", "ties"] (defScope sJoined) := ⟨rfl, rfl, rfl, by decide +kernel, rfl, by decide +kernel, by decide +kernel⟩
theorem c_joinedX (T : WTxt K mg C) (eD : Err K mg "NoWeb" D) : CalX P w K mg base 4 "_joined" (spJoinedX K D) := by
  refine calX_of T.fJoined scJoined (fun vs H Q E h => ?_) (fun f cdv A outer s H vs Q E hr h => ?_)
  · obtain ⟨m, a, ws, n, ts, rfl, _⟩ := h
    rfl
  · obtain ⟨m, a, ws, n, ts, rfl, hS, hP, g, htn, hm, hn, alt⟩ := h
    refine ⟨_, pss_cons (ps_setLc (i := 2) (own := [("_", 6)]) (g := gName 6) (tt := tYes) (by rfl) scJoined.nd rfl rfl (sw_true rfl rfl rfl (by decide +kernel)) (pi_range1 (by rfl) T.range (pa_cons (pv 0) pa_nil))
        (blkOk_by (own := [("_", 6)]) (N := ["many", "ties", "rows", "tie", "one", "other", "_", "row"]) (sc := defScope sJoined) (by decide +kernel)) (fun _ _ _ _ _ => pg_name (i := 6) scJoined.nd rfl (Or.inl rfl)) (fun _ _ _ _ _ => pts_nil) (fun _ _ _ _ _ => pe_lst pa_nil))
      (pss_cons (ps_for (passes_of rfl) rfl (pi_list (pv 1)) (pg_name (i := 3) scJoined.nd rfl (Or.inl rfl))
        (pss_cons (ps_if (pt_not (pt_val (C8.pe_c (c_tie T) hr (by decide) (by rfl) (pa_cons (pv 0) (pa_cons (pv 3) pa_nil)))))
          (pss_one (ps_raise rfl (takes_of rfl rfl rfl rfl) (pmk_own PySem.F.excBase_ValueError eD.x eD.g eD.k (raises_own eD.b eD.t) (by rfl)))) pss_nil)
        (pss_cons (ps_asg (pv 3) (pg_tup (by rfl) (pgs_cons (pg_name (i := 4) scJoined.nd rfl (.inl rfl)) (pgs_cons (pg_name (i := 5) scJoined.nd rfl (.inl rfl)) pgs_nil))))
        (pss_cons (ps_if (pt_cmpR op_in_seq (pv 5) (pe_ix ix_list (pv 2) (pv 4) (fun _ _ => rfl)) (by rfl))
          (pss_one (ps_raise rfl (takes_of rfl rfl rfl rfl) (pmk_own PySem.F.excBase_ValueError eD.x eD.g eD.k (raises_own eD.b eD.t) (by rfl)))) pss_nil)
        (pss_cons (ps_expr (pe_bm PySem.F.plainAttrs_list PySem.F.slot_list_append PySem.F.type_list_append mt_append (pe_ix ix_list (pv 2) (pv 4) (fun _ _ => rfl)) (pa_cons (pv 5) pa_nil)))
        (pss_one (ps_expr (pe_bm PySem.F.plainAttrs_list PySem.F.slot_list_append PySem.F.type_list_append mt_append (pe_ix ix_list (pv 2) (pv 5) (fun _ _ => rfl)) (pa_cons (pv 4) pa_nil)))))))))
      (pss_one (ps_ret (pe_lc (own := [("row", 7)]) (g := gName 7) (tt := tYes) (by rfl) scJoined.nd (pi_list (pv 2))
        (blkOk_by (own := [("row", 7)]) (N := ["many", "ties", "rows", "tie", "one", "other", "_", "row"]) (sc := defScope sJoined) (by decide +kernel)) (fun _ _ _ _ _ => pg_name (i := 7) scJoined.nd rfl (Or.inl rfl)) (fun _ _ _ _ _ => pts_nil)
        (fun _ _ _ _ _ => pe_callB (id := "sorted") (r := rSortedI K) cr_sortedI (by rfl) T.sorted (by decide +kernel) (pa_cons (pv 7) pa_nil)))))), ?_⟩
    -- rows = [[] for _ in range(many)]
    refine ⟨_, rfl, (m : Int), rfl, by omega, by omega, fun R hR => ?_⟩
    refine lc_range (lo := 0) (n := (m : Int).toNat) (fun i H1 => Same H H1 ∧ ∃ bs, RowsAt H H1 R bs (List.replicate i [])) ⟨Same.put hR, [], RowsAt.start hR⟩ (fun i H1 hi ⟨s1, bs, r1⟩ => ?_) (fun H1 ⟨s1, as, r1⟩ => ?_)
    · refine ⟨rfl, ?_⟩
      refine yes_ ?_
      refine iteT ?_
      refine ⟨Nat.zero_le _, fun p hp => ?_⟩
      have pR : R ≠ p := ne_of_none r1.top hp
      refine ⟨bs.map V.ref, by rw [upd_ne pR]; exact r1.top, ?_, ?_⟩
      · rw [List.length_map, r1.len, List.length_replicate]
        exact small (by omega)
      · refine ⟨Same.write (Same.step s1 hp) hR, bs ++ [p], ?_⟩
        have q := r1.more (r := []) s1 hp
        rw [List.replicate_succ']
        exact q
    · rw [Int.toNat_natCast] at r1
      have nw : n ≤ ws.length := by
        have := hP.length
        rw [List.length_take] at this
        omega
      -- for tie in ties
      refine ⟨_, rfl, a, rfl, ⟨_, s1.seq hS⟩, for_list (K := K) (a := a) (xs := ws) (fun i σ H2 => ∃ v1 v2 v3 : Option V, σ = [some (.int m), some (.ref a), some (.ref R), v1, v2, v3, none, none] ∧ i ≤ n ∧ Same H H2 ∧ RowsAt H H2 R as (nbRows m (ts.take i)))
        ⟨none, none, none, rfl, Nat.zero_le _, s1, by rw [List.take_zero, nbRows_nil]; exact r1⟩ (fun i σ H2 _ ⟨_, _, _, _, _, s2, _⟩ => s2.seq hS) ?_ ?_⟩
      · rintro i x σ H2 hi ⟨v1, v2, v3, rfl, hin, s2, r2⟩
        by_cases hlt : i < n
        · have hi2 : (ws.take n)[i]? = some x := by rw [List.getElem?_take_of_lt hlt]; exact hi
          obtain ⟨t, hti, hpair⟩ := paired_get hP hi2
          obtain ⟨c, rfl, hc⟩ := PairAt.same s2 hpair
          have rg := g.rng t (List.mem_of_getElem? hti)
          have ap := g.apart hti
          obtain ⟨t1, t2⟩ := t
          obtain ⟨h1, h2, h3, h4, h5⟩ := rg
          obtain ⟨p, rfl⟩ : ∃ p : Nat, t1 = p := ⟨t1.toNat, by have : 0 ≤ t1 := h1; omega⟩
          obtain ⟨q, rfl⟩ : ∃ q : Nat, t2 = q := ⟨t2.toNat, by have : 0 ≤ t2 := h3; omega⟩
          have hp : p < m := by have : ((p : Int) < m) := h2; omega
          have hq : q < m := by have : ((q : Int) < m) := h4; omega
          have hpq : p ≠ q := fun z => h5 (by rw [z])
          obtain ⟨b, eb, ebr, _, hb⟩ := r2.get (nbRows_at (ts := ts.take i) hp)
          have ok := tie_ok hp hq hpq
          -- if not _is_tie(many, tie)
          refine ⟨_, rfl, _, rfl, m, .ref c, rfl, .inr ⟨c, [.int p, .int q], rfl, SqT.of hc, fun y hy => ?_, _, rfl, no_ (by rw [ok]; rfl) ?_⟩⟩
          · simp only [List.mem_cons, List.not_mem_nil, or_false] at hy
            rcases hy with rfl | rfl <;> exact ⟨_, .int _⟩
          -- one, other = tie
          refine ⟨_, rfl, c, [.int p, .int q], rfl, SqT.of hc, rfl, .int p, [.int q], rfl, .int q, [], rfl, rfl, ?_⟩
          -- if other in rows[one]
          have hno : inV (.int q) (iL (nb (ts.take i) p)) = false := by
            rw [inV_ints]
            refine decide_eq_false fun z => ?_
            rcases mem_nb.mp z with z | z
            · exact ap.1 z
            · exact ap.2 z
          refine ⟨_, rfl, _, rfl, _, rfl, R, as.map V.ref, p, .ref b, rfl, rfl, SqL.of r2.top, atI_nat ebr, b, iL (nb (ts.take i) p), rfl, .inl (SqL.of hb), rfl, flat_ints _, _, rfl, no_ hno ?_⟩
          -- rows[one].append(other)
          have l1 := nb_len (ts.take i) p
          have l2 := nb_len (ts.take i) q
          rw [List.length_take] at l1 l2
          refine ⟨_, rfl, _, rfl, R, as.map V.ref, p, .ref b, rfl, rfl, SqL.of r2.top, atI_nat ebr, .inl ⟨rfl, _, SqL.of hb⟩, _, rfl, b, _, _, rfl, rfl, hb, by rw [List.length_map]; exact small (by omega), ?_⟩
          have r3 := r2.write (r := nb (ts.take i) p ++ [(q : Int)]) eb
          have e3 : iL (nb (ts.take i) p ++ [(q : Int)]) = iL (nb (ts.take i) p) ++ [V.int q] := by
            unfold iL
            rw [List.map_append]
            rfl
          rw [e3] at r3
          obtain ⟨d, ed, edr, _, hd⟩ := r3.get (i := q) (r := nb (ts.take i) q) (by rw [List.getElem?_set_ne hpq]; exact nbRows_at hq)
          -- rows[other].append(one)
          refine ⟨_, rfl, _, rfl, R, as.map V.ref, q, .ref d, rfl, rfl, SqL.of r3.top, atI_nat edr, .inl ⟨rfl, _, SqL.of hd⟩, _, rfl, d, _, _, rfl, rfl, hd, by rw [List.length_map]; exact small (by omega), ?_⟩
          have r4 := r3.write (r := nb (ts.take i) q ++ [(p : Int)]) ed
          have e4 : iL (nb (ts.take i) q ++ [(p : Int)]) = iL (nb (ts.take i) q) ++ [V.int p] := by
            unfold iL
            rw [List.map_append]
            rfl
          rw [e4, nbRows_step hp hq hpq, ← take_next hti] at r4
          exact ⟨_, _, _, rfl, by omega, r3.sameW (r2.sameW s2 eb) ed, r4⟩
        · have ein : i = n := by omega
          subst ein
          rcases alt with ⟨e, _⟩ | ⟨x', ex', bad, kE⟩
          · have := (List.getElem?_eq_some_iff.mp hi).1
            omega
          · cases Option.some.inj (hi.symm.trans ex')
            have bad2 := bad.same s2
            rcases bad2 with ⟨T0, h0, n0⟩ | ⟨c, xs, rfl, hc, hy, bad3⟩
            · refine ⟨_, rfl, _, rfl, m, x, rfl, .inl ⟨T0, h0, n0, _, rfl, ?_⟩⟩
              refine iteT ?_
              exact kE H2 s2
            · refine ⟨_, rfl, _, rfl, m, .ref c, rfl, .inr ⟨c, xs, rfl, hc, hy, _, rfl, ?_⟩⟩
              rcases bad3 with hf | ⟨p, q, rfl, hp, hq, hpq, adj⟩
              · refine yep_ (by rw [hf]; rfl) ?_
                exact kE H2 s2
              · refine no_ (by rw [tie_ok hp hq hpq]; rfl) ?_
                obtain ⟨b, eb, ebr, _, hb⟩ := r2.get (nbRows_at (ts := ts.take i) hp)
                refine ⟨_, rfl, c, [.int p, .int q], rfl, hc, rfl, .int p, [.int q], rfl, .int q, [], rfl, rfl, ?_⟩
                have hyes : inV (.int q) (iL (nb (ts.take i) p)) = true := by
                  rw [inV_ints]
                  refine decide_eq_true ?_
                  rw [show ts.take i = ts from by rw [← htn]; exact List.take_length]
                  exact mem_nb.mpr adj
                refine ⟨_, rfl, _, rfl, _, rfl, R, as.map V.ref, p, .ref b, rfl, rfl, SqL.of r2.top, atI_nat ebr, b, iL (nb (ts.take i) p), rfl, .inl (SqL.of hb), rfl, flat_ints _, _, rfl, yep_ hyes ?_⟩
                exact kE H2 s2
      · rintro σ H2 ⟨v1, v2, v3, rfl, hin, s2, r2⟩
        rcases alt with ⟨e, k⟩ | ⟨x', ex', _⟩
        · have el : ts.take ws.length = ts := by
            rw [← e, ← htn]
            exact List.take_length
          rw [el] at r2
          refine ⟨_, rfl, R, rfl, ⟨_, SqL.of r2.top⟩, fun D hD => ?_⟩
          refine lc_list (K := K) (a := R) (xs := as.map V.ref) (fun i H3 => Same H2 H3 ∧ ∃ bs, RowsAt H2 H3 D bs ((rowsOf m ts).take i)) ⟨Same.put hD, [], RowsAt.start hD⟩ (fun i H3 _ ⟨s3, _⟩ => s3.seq (SqL.of r2.top)) (fun i x H3 hi ⟨s3, bs, r3⟩ => ?_) (fun H3 ⟨s3, bs, r3⟩ => ?_)
          · have him : i < m := by
              have q := (List.getElem?_eq_some_iff.mp hi).1
              rw [List.length_map, r2.len, nbRows_len] at q
              exact q
            obtain ⟨b, eb, ebr, _, hb⟩ := r2.get (nbRows_at (ts := ts) him)
            obtain rfl : x = .ref b := Option.some.inj (hi.symm.trans ebr)
            refine ⟨rfl, ?_⟩
            refine yes_ ?_
            refine iteT ?_
            refine ⟨_, rfl, b, nb ts i, rfl, SqL.of (s3 _ _ hb), fun ns' p hp hs hnew => ?_⟩
            have e := row_sorted g hp hs
            subst e
            have pD : D ≠ p := ne_of_none r3.top hnew
            refine ⟨bs.map V.ref, by rw [upd_ne pD]; exact r3.top, ?_, Same.write (Same.step s3 hnew) hD, bs ++ [p], ?_⟩
            · rw [List.length_map, r3.len, List.length_take, rowsOf_len]
              exact small (by omega)
            · have q := r3.more (r := rowOf m ts i) s3 hnew
              rw [take_next (rowsOf_at him)]
              exact q
          · have e5 : (rowsOf m ts).take (as.map V.ref).length = rowsOf m ts := by
              rw [List.length_map, r2.len, nbRows_len]
              exact List.take_of_length_le (by rw [rowsOf_len]; exact Nat.le_refl _)
            rw [e5] at r3
            exact k _ D bs (s2.trans s3) (r3.older s2)
        · have := (List.getElem?_eq_some_iff.mp ex').1
          omega
end
end Fd
namespace Fd
open PySem PySem.Spec PyProof.Rows L2
theorem flat_len {m : Nat} {ts : List Tie} {i : Nat} (hi : i ≤ 16) (hm : m ≤ 16) : ((pts i).flatMap (pickT m ts)).length ≤ 16 * 16 := by
  have h : ∀ l : List Int, (l.flatMap (pickT m ts)).length ≤ 16 * l.length := fun l => by
    induction l with
    | nil => simp
    | cons a l ih =>
      have h1 : (pickT m ts a).length ≤ 16 := by
        unfold pickT
        rw [List.length_map]
        have h2 := List.length_filter_le (fun y => decide (a < y)) (rowOf m ts a)
        have h3 := rowOf_len m ts a
        omega
      rw [List.flatMap_cons, List.length_append, List.length_cons]
      omega
  have h2 := h (pts i)
  rw [pts_len] at h2
  omega
/-! ### a web in the heap -/
def wF (m : Nat) (R : Addr) : List (Str × V) := [("many", .int m), ("_rows", .ref R)]
theorem lkHere {k : Str} {v : V} {r : List (Str × V)} : List.lookup k ((k, v) :: r) = some v := by simp [List.lookup]
theorem lkPast {k g : Str} {v : V} {r : List (Str × V)} (h : (k == g) = false) : List.lookup k ((g, v) :: r) = List.lookup k r := by simp [List.lookup, h]
theorem wF_many (m : Nat) (R : Addr) : (wF m R).lookup ("many" : Str) = some (.int m) := lkHere
theorem wF_rows (m : Nat) (R : Addr) : (wF m R).lookup ("_rows" : Str) = some (.ref R) := (lkPast (by decide +kernel)).trans lkHere
theorem wF_no (m : Nat) (R : Addr) {x : Str} (h1 : (x == ("many" : Str)) = false) (h2 : (x == ("_rows" : Str)) = false) : (wF m R).lookup x = none := (lkPast h1).trans ((lkPast h2).trans rfl)
theorem wF_new (m : Nat) (R : Addr) : putF "_rows" (.ref R) (putF "many" (.int m) []) = wF m R := by
  show (if ("many" : Str) = "_rows" then _ else (("many" : Str), V.int m) :: putF "_rows" (.ref R) []) = wF m R
  rw [if_neg (by decide +kernel)]
  rfl
structure WebAt (C : Addr) (H0 H : Hp) (p : Addr) (m : Nat) (ts : List Tie) : Prop where
  new : H0 p = none
  ex : ∃ (dx R : Addr) (as : List Addr), H p = some (.ins C dx (wF m R)) ∧ RowsAt H0 H R as (rowsOf m ts)
theorem WebAt.same {C p : Addr} {H0 H H' : Hp} {m : Nat} {ts : List Tie} (h : WebAt C H0 H p m ts) (s : Same H H') : WebAt C H0 H' p m ts := by
  obtain ⟨n, dx, R, as, h1, h2⟩ := h
  exact ⟨n, dx, R, as, s _ _ h1, h2.same s⟩
theorem WebAt.apart {C p : Addr} {H0 H H' : Hp} {m : Nat} {ts : List Tie} (h : WebAt C H0 H p m ts) (s : ∀ b o, H b = some o → H0 b = none → H' b = some o) : WebAt C H0 H' p m ts := by
  obtain ⟨n, dx, R, as, h1, h2⟩ := h
  exact ⟨n, dx, R, as, s _ _ h1 n, h2.apart s⟩
theorem WebAt.older {C p : Addr} {H0 H1 H : Hp} {m : Nat} {ts : List Tie} (h : WebAt C H1 H p m ts) (s : Same H0 H1) : WebAt C H0 H p m ts := by
  obtain ⟨n, dx, R, as, h1, h2⟩ := h
  exact ⟨s.free n, dx, R, as, h1, h2.older s⟩
def spInit (C : Addr) (K : PySem.W.Frag) : Sp := fun vs H Q _ => ∃ (H0 : Hp) (p dx : Addr) (m : Nat) (a : Addr) (ws : List V) (ts : List Tie), vs = [.ref p, .int m, .ref a] ∧ H p = some (.ins C dx []) ∧ Same H0 H ∧ H0 p = none ∧
  SqL K H0 a ws ∧ PairsAt H0 ws ts ∧ Good m ts ∧ 1 ≤ m ∧ m ≤ 16 ∧ ts.length ≤ 40 ∧
  ∀ H' : Hp, (∀ b o, H b = some o → b ≠ p → H' b = some o) → WebAt C H0 H' p m ts → Q .non H'
def spCheck (C : Addr) : Sp := fun vs H Q _ => ∃ (H0 : Hp) (p : Addr) (m : Nat) (ts : List Tie) (j : Nat), vs = [.ref p, .int j] ∧ WebAt C H0 H p m ts ∧ j < m ∧ Q .non H
def spBeside (C : Addr) : Sp := fun vs H Q _ => ∃ (H0 : Hp) (p : Addr) (m : Nat) (ts : List Tie) (j : Nat), vs = [.ref p, .int j] ∧ WebAt C H0 H p m ts ∧ j < m ∧
  ∀ D, H D = none → Q (.ref D) (upd H D (.lst (iL (rowOf m ts j))))
def spTied (C : Addr) : Sp := fun vs H Q _ => ∃ (H0 : Hp) (p : Addr) (m : Nat) (ts : List Tie) (i j : Nat), vs = [.ref p, .int i, .int j] ∧ WebAt C H0 H p m ts ∧ i < m ∧ j < m ∧
  Q (.bl (decide ((j : Int) ∈ rowOf m ts i))) H
def spTies (C : Addr) : Sp := fun vs H Q _ => ∃ (H0 : Hp) (p : Addr) (m : Nat) (ts : List Tie), vs = [.ref p] ∧ WebAt C H0 H p m ts ∧ Good m ts ∧ m ≤ 16 ∧
  ∀ (H' : Hp) (D : Addr) (ws : List V), Same H H' → H D = none → H' D = some (.lst ws) → PairsAt H' ws (toldT m ts) → Q (.ref D) H'
end Fd
namespace Fd
open PySem PySem.Spec PyProof.Rows L2
theorem Dp.same' {K : PySem.W.Frag} {H H' : Hp} (s : Same H H') : (∀ (d : PyData) (v : V), Dp K H v d → Dp K H' v d) := by
  intro d v h
  refine Dp.rec (motive_1 := fun v d _ => Dp K H' v d) (motive_2 := fun vs ds _ => DpAll K H' vs ds) ?_ ?_ ?_ ?_ ?_ ?_ ?_ ?_ h
  · exact .non
  · exact fun b => .bl b
  · exact fun i => .int i
  · exact fun x => .str x
  · exact fun a _ ih => .lst (s.seq a) ih
  · exact fun a _ ih => .tup (SqT.same s a) ih
  · exact .nil
  · exact fun _ _ ih1 ih2 => .cons ih1 ih2
/-- what is handed to Web: a bad count; no list; a list that is too long; a list whose first n items are good ties, all of them or up to one that is none -/
inductive WebArgs (K : PySem.W.Frag) (H : Hp) : Bool → V → V → Prop
  | count {x y : V} {T : String} (h : TyB K H x T) (n : ∀ i, x = .int i → ¬ (1 ≤ i ∧ i ≤ 16)) : WebArgs K H false x y
  | kind {m : Nat} {y : V} {T : String} (h1 : 1 ≤ m) (h2 : m ≤ 16) (h : TyB K H y T) (n : T ≠ "list") : WebArgs K H false (.int m) y
  | long {m : Nat} {a : Addr} {ws : List V} (h1 : 1 ≤ m) (h2 : m ≤ 16) (h : SqL K H a ws) (n : 40 < ws.length) : WebArgs K H false (.int m) (.ref a)
  | tie {m n : Nat} {a : Addr} {ws : List V} {ts : List Tie} {x : V} (h1 : 1 ≤ m) (h2 : m ≤ 16) (h : SqL K H a ws) (nl : ws.length ≤ 40) (p : PairsAt H (ws.take n) ts) (g : Good m ts) (l : ts.length = n) (e : ws[n]? = some x) (b : BadTie K H m ts x) : WebArgs K H false (.int m) (.ref a)
  | good {m : Nat} {a : Addr} {ws : List V} {ts : List Tie} (h1 : 1 ≤ m) (h2 : m ≤ 16) (h : SqL K H a ws) (n : ws.length ≤ 40) (p : PairsAt H ws ts) (g : Good m ts) : WebArgs K H true (.int m) (.ref a)
def spInitX (C : Addr) (K : PySem.W.Frag) (D : Addr) : Sp := fun vs H Q E => ∃ (H0 : Hp) (p dx : Addr) (x y : V) (b : Bool), vs = [.ref p, x, y] ∧ H p = some (.ins C dx []) ∧ Same H0 H ∧ H0 p = none ∧ WebArgs K H0 b x y ∧
  (b = false → ∀ H' : Hp, (∀ c o, H c = some o → c ≠ p → H' c = some o) → E (.ref D) none H') ∧
  (b = true → ∀ (H' : Hp) (m : Nat) (a : Addr) (ws : List V) (ts : List Tie), x = .int m → y = .ref a → SqL K H0 a ws → PairsAt H0 ws ts → Good m ts → 1 ≤ m → m ≤ 16 → (∀ c o, H c = some o → c ≠ p → H' c = some o) → WebAt C H0 H' p m ts → Q .non H')
def spCheckX (C : Addr) (K : PySem.W.Frag) (D : Addr) : Sp := fun vs H Q E => ∃ (H0 : Hp) (p : Addr) (m : Nat) (ts : List Tie) (x : V) (T : String), vs = [.ref p, x] ∧ WebAt C H0 H p m ts ∧ TyB K H x T ∧ (isPt m x = true → Q .non H) ∧ (isPt m x = false → E (.ref D) none H)
def spBesideX (C : Addr) (K : PySem.W.Frag) (D : Addr) : Sp := fun vs H Q E => ∃ (H0 : Hp) (p : Addr) (m : Nat) (ts : List Tie) (x : V) (T : String), vs = [.ref p, x] ∧ WebAt C H0 H p m ts ∧ TyB K H x T ∧ isPt m x = false ∧ E (.ref D) none H
def spTiedX (C : Addr) (K : PySem.W.Frag) (D : Addr) : Sp := fun vs H Q E => ∃ (H0 : Hp) (p : Addr) (m : Nat) (ts : List Tie) (x y : V) (T U : String), vs = [.ref p, x, y] ∧ WebAt C H0 H p m ts ∧ TyB K H x T ∧ TyB K H y U ∧ (isPt m x = false ∨ isPt m y = false) ∧ E (.ref D) none H
section
variable {P : Program} {w : World} {K : PySem.W.Frag} {mg : Str → Option Value} {base : Heap} {C D : Addr}
theorem scInit : FnScope ["self", "many", "ties"] ["self", "many", "ties"] (defScope sWebInit) := ⟨rfl, rfl, rfl, by decide +kernel, rfl, by decide +kernel, by decide +kernel⟩
theorem c_initX (T : WTxt K mg C) (eD : Err K mg "NoWeb" D) : MakX P w K mg base 5 "Web" C (spInitX C K D) := by
  obtain ⟨tP, gP⟩ := T.mostP
  obtain ⟨tT, gT⟩ := T.mostT
  refine makX_of T.gWeb T.fInit scInit (fun vs H Q E h => ?_) (fun f cdv A outer s H vs Q E hr h => ?_)
  · obtain ⟨H0, p, dx, x, y, b, rfl, _⟩ := h
    rfl
  · obtain ⟨H0, p, dx, x, y, b, rfl, hp, s0, p0, args, kE, kQ⟩ := h
    refine ⟨_, pss_cons (ps_if (PW.pt (pw_or (pt_not (pt_val (C8.pe_c (c_num T) hr (by decide) (by rfl) (pa_cons (pv 1) pa_nil))))
        (pw_or1 (pt_not (pt_chain op_le op_le pe_int (pv 1) (pe_glob (v := .int 16) (by rfl) gP ⟨_, rfl⟩)))))) (pss_one (ps_raise rfl (takes_of rfl rfl rfl rfl) (pmk_own PySem.F.excBase_ValueError eD.x eD.g eD.k (raises_own eD.b eD.t) (by rfl)))) pss_nil)
      (pss_cons (ps_if (PW.pt (pw_or (pt_cmpR op_neTy (pe_callTy call_type1 (by rfl) T.type (by decide +kernel) (pa_cons (pv 2) pa_nil)) (pe_bltn (v := .ty "list") (by rfl) T.list (by decide +kernel) rfl) (nomark _))
        (pw_or1 (pt_cmpR op_gt (pe_callB call_len_seq (by rfl) T.len PySem.boot_len (pa_cons (pv 2) pa_nil)) (pe_glob (v := .int 40) (by rfl) gT ⟨_, rfl⟩) (nomark _)))))
        (pss_one (ps_raise rfl (takes_of rfl rfl rfl rfl) (pmk_own PySem.F.excBase_ValueError eD.x eD.g eD.k (raises_own eD.b eD.t) (by rfl)))) pss_nil)
      (pss_cons (ps_fld (pv 0) (pv 1) rfl)
      (pss_one (ps_fld (pv 0) (pe_cX (c_joinedX T eD) hr (by decide) (by rfl) (passes_call (takes_of rfl rfl rfl rfl) (fun _ _ _ _ h => h)) (pa_cons (pv 1) (pa_cons (pv 2) pa_nil))) rfl)))), ?_⟩
    have own : ∀ H' : Hp, Same H H' → ∀ c o, H c = some o → c ≠ p → H' c = some o := fun H' s c o e _ => s c o e
    cases args with
    | count h n =>
      refine ⟨_, rfl, x, _, rfl, TyB.same s0 h, _, rfl, ?_⟩
      cases h with
      | int i =>
        refine iteF ?_
        refine ⟨_, rfl, 1, i, rfl, rfl, _, rfl, ?_⟩
        by_cases c : 1 ≤ i
        · refine yep_ (decide_eq_true c) ?_
          refine ⟨i, 16, rfl, rfl, _, rfl, ?_⟩
          refine yep_ (by rw [Bool.not_eq_true']; exact decide_eq_false fun z => n i rfl ⟨c, z⟩) ?_
          exact kE rfl H (own H (Same.refl H))
        · refine no_ (decide_eq_false c) ?_
          refine ⟨_, rfl, ?_⟩
          refine iteT ?_
          exact kE rfl H (own H (Same.refl H))
      | non => exact iteT (iteT (kE rfl H (own H (Same.refl H))))
      | bl b => exact iteT (iteT (kE rfl H (own H (Same.refl H))))
      | str x => exact iteT (iteT (kE rfl H (own H (Same.refl H))))
      | byt b => exact iteT (iteT (kE rfl H (own H (Same.refl H))))
      | lst h => exact iteT (iteT (kE rfl H (own H (Same.refl H))))
      | tup h => exact iteT (iteT (kE rfl H (own H (Same.refl H))))
      | dK h => exact iteT (iteT (kE rfl H (own H (Same.refl H))))
    | @kind m y T0 h1 h2 h n =>
      refine ⟨_, rfl, .int m, "int", rfl, .int _, true, rfl, ?_⟩
      refine iteF ?_
      refine ⟨_, rfl, 1, (m : Int), rfl, rfl, _, rfl, ?_⟩
      refine yep_ (decide_eq_true (by omega)) ?_
      refine ⟨(m : Int), 16, rfl, rfl, _, rfl, ?_⟩
      refine no_ (by rw [Bool.not_eq_false']; exact decide_eq_true (by omega)) ?_
      refine ⟨_, rfl, y, T0, rfl, TyB.same s0 h, T0, "list", rfl, rfl, TyB_kind h, by decide, _, rfl, ?_⟩
      refine yep_ (by rw [decide_eq_false n]; rfl) ?_
      refine iteT ?_
      exact kE rfl H (own H (Same.refl H))
    | @long m a ws h1 h2 h n =>
      have hS := s0.seq h
      refine ⟨_, rfl, .int m, "int", rfl, .int _, true, rfl, ?_⟩
      refine iteF ?_
      refine ⟨_, rfl, 1, (m : Int), rfl, rfl, _, rfl, ?_⟩
      refine yep_ (decide_eq_true (by omega)) ?_
      refine ⟨(m : Int), 16, rfl, rfl, _, rfl, ?_⟩
      refine no_ (by rw [Bool.not_eq_false']; exact decide_eq_true (by omega)) ?_
      refine ⟨_, rfl, .ref a, "list", rfl, .lst hS, "list", "list", rfl, rfl, by decide, by decide, _, rfl, ?_⟩
      refine iteF ?_
      refine ⟨_, rfl, a, ws, rfl, .inl hS, _, 40, rfl, rfl, _, rfl, ?_⟩
      refine yep_ (decide_eq_true (by omega)) ?_
      exact kE rfl H (own H (Same.refl H))
    | @tie m n a ws ts x h1 h2 h nl pr g l e bad =>
      have hS := s0.seq h
      refine ⟨_, rfl, .int m, "int", rfl, .int _, true, rfl, ?_⟩
      refine iteF ?_
      refine ⟨_, rfl, 1, (m : Int), rfl, rfl, _, rfl, ?_⟩
      refine yep_ (decide_eq_true (by omega)) ?_
      refine ⟨(m : Int), 16, rfl, rfl, _, rfl, ?_⟩
      refine no_ (by rw [Bool.not_eq_false']; exact decide_eq_true (by omega)) ?_
      refine ⟨_, rfl, .ref a, "list", rfl, .lst hS, "list", "list", rfl, rfl, by decide, by decide, _, rfl, ?_⟩
      refine iteF ?_
      refine ⟨_, rfl, a, ws, rfl, .inl hS, _, 40, rfl, rfl, _, rfl, ?_⟩
      refine no_ (decide_eq_false (by omega)) ?_
      refine ⟨_, rfl, _, rfl, p, C, dx, [], rfl, hp, T.cl, T.nMany, by show 0 < 1000; decide, ?_⟩
      have s1 : Same H0 (upd H p (.ins C dx (putF "many" (.int m) []))) := Same.write s0 p0
      have nlt := (List.getElem?_eq_some_iff.mp e).1
      refine ⟨_, rfl, _, rfl, m, a, ws, n, ts, rfl, s1.seq h, pr.same s1, g, l, h2, by omega, .inr ⟨x, e, bad.same s1, fun H' s' => ?_⟩⟩
      exact kE rfl H' fun c o ec hc => s' _ _ (by rw [upd_ne hc]; exact ec)
    | @good m a ws ts h1 h2 h nl pr g =>
      have hS := s0.seq h
      refine ⟨_, rfl, .int m, "int", rfl, .int _, true, rfl, ?_⟩
      refine iteF ?_
      refine ⟨_, rfl, 1, (m : Int), rfl, rfl, _, rfl, ?_⟩
      refine yep_ (decide_eq_true (by omega)) ?_
      refine ⟨(m : Int), 16, rfl, rfl, _, rfl, ?_⟩
      refine no_ (by rw [Bool.not_eq_false']; exact decide_eq_true (by omega)) ?_
      refine ⟨_, rfl, .ref a, "list", rfl, .lst hS, "list", "list", rfl, rfl, by decide, by decide, _, rfl, ?_⟩
      refine iteF ?_
      refine ⟨_, rfl, a, ws, rfl, .inl hS, _, 40, rfl, rfl, _, rfl, ?_⟩
      refine no_ (decide_eq_false (by omega)) ?_
      refine ⟨_, rfl, _, rfl, p, C, dx, [], rfl, hp, T.cl, T.nMany, by show 0 < 1000; decide, ?_⟩
      have s1 : Same H0 (upd H p (.ins C dx (putF "many" (.int m) []))) := Same.write s0 p0
      have hl := pr.length
      refine ⟨_, rfl, _, rfl, m, a, ws, ws.length, ts, rfl, s1.seq h, by rw [List.take_length]; exact pr.same s1, g, hl.symm, h2, nl, .inl ⟨rfl, fun H' R as s' r' => ?_⟩⟩
      have hp' : H' p = some (.ins C dx (putF "many" (.int m) [])) := s' _ _ upd_same
      refine ⟨_, rfl, p, C, dx, _, rfl, hp', T.cl, T.nRows, by show 1 < 1000; decide, ?_⟩
      refine kQ rfl _ m a ws ts rfl rfl h pr g h1 h2 (fun b o e hb => ?_) ⟨p0, dx, R, as, by rw [upd_same, wF_new], ?_⟩
      · rw [upd_ne hb]
        exact s' _ _ (by rw [upd_ne hb]; exact e)
      · refine (r'.apart fun b o e hb => ?_).older s1
        rw [upd_ne (ne_of_none upd_same hb).symm]
        exact e
theorem scCheck : FnScope ["self", "thing"] ["self", "thing"] (defScope sWebCheckPoint) := ⟨rfl, rfl, rfl, by decide +kernel, rfl, by decide +kernel, by decide +kernel⟩
theorem c_checkX (T : WTxt K mg C) (eD : Err K mg "NoPoint" D) (FC : FnM K C "_check_point" "Web._check_point" sWebCheckPoint ["self", "thing"]) : MetX P w K mg base 3 C "_check_point" (spCheckX C K D) := by
  refine metX_of T.cl FC scCheck (fun vs H Q E h => ?_) (fun f cdv A outer s H vs Q E hr h => ?_)
  · obtain ⟨H0, p, m, ts, x, t, rfl, _⟩ := h
    rfl
  · obtain ⟨H0, p, m, ts, x, t, rfl, ⟨p0, dx, R, as, hp, r⟩, ht, kQ, kE⟩ := h
    refine ⟨_, pss_one (ps_if (pt_not (pt_val (C8.pe_c (c_point T) hr (by decide) (by rfl) (pa_cons (pe_fld (pv 0) rfl) (pa_cons (pv 1) pa_nil)))))
      (pss_one (ps_raise rfl (takes_of rfl rfl rfl rfl) (pmk_own PySem.F.excBase_ValueError eD.x eD.g eD.k (raises_own eD.b eD.t) (by rfl)))) pss_nil), ?_⟩
    refine ⟨_, rfl, p, C, dx, _, _, rfl, hp, T.cl, T.nMany, wF_many _ _, _, rfl, (m : Int), x, t, rfl, ht, _, rfl, ?_⟩
    by_cases c : isPt m x = true
    · exact no_ (by rw [c]; rfl) (kQ c)
    · exact yep_ (by rw [Bool.eq_false_iff.mpr c]; rfl) (kE (Bool.eq_false_iff.mpr c))
theorem scBeside : FnScope ["self", "point"] ["self", "point"] (defScope sWebBeside) := ⟨rfl, rfl, rfl, by decide +kernel, rfl, by decide +kernel, by decide +kernel⟩
theorem c_besideX (T : WTxt K mg C) (eD : Err K mg "NoPoint" D) (FC : FnM K C "_check_point" "Web._check_point" sWebCheckPoint ["self", "thing"]) (FB : FnM K C "beside" "Web.beside" sWebBeside ["self", "point"]) : MetX P w K mg base 4 C "beside" (spBesideX C K D) := by
  refine metX_of T.cl FB scBeside (fun vs H Q E h => ?_) (fun f cdv A outer s H vs Q E hr h => ?_)
  · obtain ⟨H0, p, m, ts, x, t, rfl, _⟩ := h
    rfl
  · obtain ⟨H0, p, m, ts, x, t, rfl, W, ht, hb, kE⟩ := h
    obtain ⟨p0, dx, R, as, hp, r⟩ := id W
    refine ⟨_, pss_cons (ps_expr (pe_mtX (c_checkX T eD FC) hr (by decide) (passes_call (takes_of rfl rfl rfl rfl) (fun _ _ _ _ h => h)) (pv 0) (pa_cons (pv 1) pa_nil))) pss_never, ?_⟩
    exact ⟨_, rfl, p, dx, _, rfl, hp, wF_no _ _ (by decide +kernel) (by decide +kernel), _, rfl, H0, p, m, ts, x, t, rfl, W, ht, fun c => absurd c (by rw [hb]; exact Bool.false_ne_true), fun _ => kE⟩
theorem scTied : FnScope ["self", "one", "other"] ["self", "one", "other"] (defScope sWebTied) := ⟨rfl, rfl, rfl, by decide +kernel, rfl, by decide +kernel, by decide +kernel⟩
theorem c_tiedX (T : WTxt K mg C) (eD : Err K mg "NoPoint" D) (FC : FnM K C "_check_point" "Web._check_point" sWebCheckPoint ["self", "thing"]) (FT : FnM K C "tied" "Web.tied" sWebTied ["self", "one", "other"]) : MetX P w K mg base 4 C "tied" (spTiedX C K D) := by
  refine metX_of T.cl FT scTied (fun vs H Q E h => ?_) (fun f cdv A outer s H vs Q E hr h => ?_)
  · obtain ⟨H0, p, m, ts, x, y, t, u, rfl, _⟩ := h
    rfl
  · obtain ⟨H0, p, m, ts, x, y, t, u, rfl, W, ht, hu, hb, kE⟩ := h
    obtain ⟨p0, dx, R, as, hp, r⟩ := id W
    refine ⟨_, pss_cons (ps_expr (pe_mtX (c_checkX T eD FC) hr (by decide) (passes_call (takes_of rfl rfl rfl rfl) (fun _ _ _ _ h => h)) (pv 0) (pa_cons (pv 1) pa_nil)))
      (pss_cons (ps_expr (pe_mtX (c_checkX T eD FC) hr (by decide) (passes_call (takes_of rfl rfl rfl rfl) (fun _ _ _ _ h => h)) (pv 0) (pa_cons (pv 2) pa_nil))) pss_never), ?_⟩
    refine ⟨_, rfl, p, dx, _, rfl, hp, wF_no _ _ (by decide +kernel) (by decide +kernel), _, rfl, H0, p, m, ts, x, t, rfl, W, ht, fun c => ?_, fun _ => kE⟩
    refine ⟨_, rfl, p, dx, _, rfl, hp, wF_no _ _ (by decide +kernel) (by decide +kernel), _, rfl, H0, p, m, ts, y, u, rfl, W, hu, fun c' => ?_, fun _ => kE⟩
    rcases hb with z | z
    · rw [z] at c
      cases c
    · rw [z] at c'
      cases c'
end
end Fd
namespace Fd
open PySem PySem.Spec PyProof.Rows L2
def cellAt (ns : List Int) (k : Nat) : Int := ns.getD k 0
def spCell (K : PySem.W.Frag) : Sp := fun vs H Q _ => ∃ (a : Addr) (ns : List Int) (k : Nat), vs = [.ref a, .int k] ∧ SqL K H a (iL ns) ∧ Q (.int (cellAt ns k)) H
theorem hu65 {k : Nat} {A : Around} (hr : Room k A) : A.units + 65 < cLine := by
  have := hr.un
  omega
/-- a new pair put behind the others -/
theorem PairsAt.more {H : Hp} {D t : Addr} {ws : List V} {ts : List Tie} {o q : Int} (hD : H D = some (.lst ws)) (h : PairsAt H ws ts) (ht : H t = none) :
    PairsAt (upd (upd H t (.tup [.int o, .int q])) D (.lst (ws ++ [.ref t]))) (ws ++ [.ref t]) (ts ++ [(o, q)]) := by
  have tD : D ≠ t := ne_of_none hD ht
  refine Paired.snoc ?_ ⟨t, rfl, by rw [upd_ne tD.symm, upd_same]⟩
  refine Paired.mono (fun v u ⟨a, e, k⟩ => ⟨a, e, ?_⟩) h
  rw [upd_ne (ne_of k hD (by intro z; cases z)), upd_ne (ne_of_none k ht)]
  exact k
theorem cut_iL (ns : List Int) (lo hi : Option Int) : ∃ ms : List Int, cutV (iL ns) lo hi = iL ms ∧ ms.length ≤ ns.length := by
  refine ⟨(ns.drop (HT.sIx (iL ns).length 0 lo)).take (HT.sIx (iL ns).length (iL ns).length hi - HT.sIx (iL ns).length 0 lo), ?_, ?_⟩
  · unfold cutV iL
    rw [List.map_take, List.map_drop]
  · rw [List.length_take, List.length_drop]
    omega
theorem cut_len (xs : List V) : (cutV xs (some 2) (some 42)).length ≤ 40 := by
  unfold cutV
  rw [List.length_take]
  have e1 : HT.sIx xs.length 0 (some 2) = min 2 xs.length := HT.sIx_nat _ _ 2
  have e2 : HT.sIx xs.length xs.length (some 42) = min 42 xs.length := HT.sIx_nat _ _ 42
  rw [e1, e2]
  omega
section
variable {P : Program} {w : World} {K : PySem.W.Frag} {mg : Str → Option Value} {base : Heap} {C : Addr}
theorem scCell : FnScope ["_law_script", "_law_k"] ["_law_script", "_law_k"] (defScope sLawCellAt) := ⟨rfl, rfl, rfl, by decide +kernel, rfl, by decide +kernel, by decide +kernel⟩
theorem c_cell (T : WTxt K mg C) (FCell : Fn K mg "_law_cell_at" sLawCellAt ["_law_script", "_law_k"]) : C8.Cal P w K mg base 1 "_law_cell_at" (spCell K) [] := by
  refine cal_of FCell scCell (fun vs H Q E h => ?_) (fun f cdv A outer s H vs Q E hr h => ?_)
  · obtain ⟨a, ns, k, rfl, _⟩ := h
    rfl
  · obtain ⟨a, ns, i, rfl, hS, k⟩ := h
    refine ⟨_, pss_cons (ps_if (pt_cmpR op_lt (pv 1) (pe_callB call_len_seq (by rfl) T.len PySem.boot_len (pa_cons (pv 0) pa_nil)) (nomark _)) (pss_one (ps_ret (pe_ix ix_list (pv 0) (pv 1) (fun _ _ => rfl)))) pss_nil)
      (pss_one (ps_ret pe_int)), ?_⟩
    refine ⟨_, rfl, _, rfl, a, iL ns, rfl, .inl hS, (i : Int), _, rfl, rfl, _, rfl, ?_⟩
    refine ite2 (fun c => ?_) (fun c => ?_)
    · have c' : i < ns.length := by
        have := of_decide_eq_true c
        rw [List.length_map] at this
        omega
      refine ⟨_, rfl, _, rfl, a, iL ns, (i : Int), .int (cellAt ns i), rfl, rfl, hS, atI_nat ?_, k⟩
      refine iL_get ?_
      unfold cellAt
      rw [List.getD_eq_getElem?_getD, List.getElem?_eq_getElem c']
      rfl
    · have c' : ¬ i < ns.length := fun z => c (decide_eq_true (by rw [List.length_map]; omega))
      have e : cellAt ns i = 0 := by
        unfold cellAt
        rw [List.getD_eq_getElem?_getD, List.getElem?_eq_none (by omega)]
        rfl
      rw [e] at k
      exact k
end
end Fd
namespace Fd
open PySem PySem.Spec PyProof.Rows L2
structure K2Txt (K : PySem.W.Frag) (mg : Str → Option Value) (CN CP CF CT : Addr) : Prop where
  eN : Err K mg "NoWeb" CN
  eP : Err K mg "NoPoint" CP
  gF : mg "FlatError" = some (.ref CF)
  gT : mg "NoTurns" = some (.ref CT)
  xN : PySem.W.exmOne K (.ref CN) (.ref CF) = some true
  xP : PySem.W.exmOne K (.ref CP) (.ref CF) = some true
  cN : ExcC K CN
  cP : ExcC K CP
  nn : PySem.W.kitOne K (.ref CN) (.ref CN) = some true
  np : PySem.W.kitOne K (.ref CN) (.ref CP) = some false
  nt : PySem.W.kitOne K (.ref CN) (.ref CT) = some false
  nv : PySem.W.kitOne K (.ref CN) (.type "ValueError") = some true
  pn : PySem.W.kitOne K (.ref CP) (.ref CN) = some false
  pp : PySem.W.kitOne K (.ref CP) (.ref CP) = some true
  pt : PySem.W.kitOne K (.ref CP) (.ref CT) = some false
  pv : PySem.W.kitOne K (.ref CP) (.type "ValueError") = some true
  isi : mg "isinstance" = none
  vE : mg "ValueError" = none
  fWord : Fn K mg "_law_word" sLawWord ["_law_e"]
def repB (b : Bool) (z : Str) : Str := if b then z else Str.empty
def wordOf (b1 b2 b3 b4 : Bool) : Str := ((repB b1 "web " ++ repB b2 "point ") ++ repB b3 "turns ") ++ repB b4 "value"
def spWord (z : Str) : Addr → Sp := fun a vs H Q _ => vs = [.ref a] ∧ Q (.str z) H
section
variable {P : Program} {w : World} {K : PySem.W.Frag} {mg : Str → Option Value} {base : Heap} {C CN CP CF CT : Addr}
theorem scWord : FnScope ["_law_e", "_law_word_here"] ["_law_e"] (defScope sLawWord) := ⟨rfl, rfl, rfl, by decide +kernel, rfl, by decide +kernel, by decide +kernel⟩
theorem word_ok {D f : Addr} {fd : FuncData} {b1 b2 b3 b4 : Bool} (F : L2.Fun K "_law_word" "_law_word" sLawWord f fd) (T : WTxt K mg C) (L : K2Txt K mg CN CP CF CT) (c : ExcC K D)
    (k1 : PySem.W.kitOne K (.ref D) (.ref CN) = some b1) (k2 : PySem.W.kitOne K (.ref D) (.ref CP) = some b2) (k3 : PySem.W.kitOne K (.ref D) (.ref CT) = some b3) (k4 : PySem.W.kitOne K (.ref D) (.type "ValueError") = some b4) :
    FnX P w K mg base 1 f fd ["_law_e"] D (spWord (wordOf b1 b2 b3 b4)) := by
  refine fnX_of F scWord (fun cdv B out st G vs R p hz hf h => ?_)
  obtain ⟨rfl, k⟩ := h
  refine ⟨_, pss_cons (ps_set (i := 1) scWord.nd rfl (Or.inl rfl) (pe_op op_add_str
      (pe_op op_repS pe_str (pe_callTy call_int1 (by rfl) T.int (by decide +kernel) (pa_cons (pe_callB (id := "isinstance") (r := rIsX K D p.1) (call_isX (by exact List.mem_cons_self) c hz hf) (by rfl) L.isi (by decide +kernel) (pa_cons (pv 0) (pa_cons (pe_glob (v := .ref CN) (by rfl) L.eN.g rfl) pa_nil))) pa_nil)))
      (pe_op op_repS pe_str (pe_callTy call_int1 (by rfl) T.int (by decide +kernel) (pa_cons (pe_callB (id := "isinstance") (r := rIsX K D p.1) (call_isX (by exact List.mem_cons_self) c hz hf) (by rfl) L.isi (by decide +kernel) (pa_cons (pv 0) (pa_cons (pe_glob (v := .ref CP) (by rfl) L.eP.g rfl) pa_nil))) pa_nil)))))
    (pss_one (ps_ret (pe_op op_add_str (pe_op op_add_str (pv 1)
      (pe_op op_repS pe_str (pe_callTy call_int1 (by rfl) T.int (by decide +kernel) (pa_cons (pe_callB (id := "isinstance") (r := rIsX K D p.1) (call_isX (by exact List.mem_cons_self) c hz hf) (by rfl) L.isi (by decide +kernel) (pa_cons (pv 0) (pa_cons (pe_glob (v := .ref CT) (by rfl) L.gT rfl) pa_nil))) pa_nil))))
      (pe_op op_repS pe_str (pe_callTy call_int1 (by rfl) T.int (by decide +kernel) (pa_cons (pe_callB (id := "isinstance") (r := rIsX K D p.1) (call_isX (by exact List.mem_cons_self) c hz hf) (by rfl) L.isi (by decide +kernel) (pa_cons (pv 0) (pa_cons (pe_bltn (v := .ty "ValueError") (by rfl) L.vE (by decide +kernel) rfl) pa_nil))) pa_nil)))))), ?_⟩
  refine ⟨_, rfl, .ref CN, .ref CN, b1, rfl, fun _ z => z, k1, .inr ⟨b1, rfl, _, b1, rfl, rfl, _, rfl, .ref CP, .ref CP, b2, rfl, fun _ z => z, k2, .inr ⟨b2, rfl, _, b2, rfl, rfl, _, _, rfl, rfl, ?_, ?_⟩⟩⟩
  · cases b1 <;> cases b2 <;> decide +kernel
  refine ⟨_, rfl, _, rfl, .ref CT, .ref CT, b3, rfl, fun _ z => z, k3, .inr ⟨b3, rfl, _, b3, rfl, rfl, _, _, rfl, rfl, ?_, ?_⟩⟩
  · cases b1 <;> cases b2 <;> cases b3 <;> decide +kernel
  refine ⟨_, rfl, .ty "ValueError", .type "ValueError", b4, rfl, fun _ z => z, k4, .inr ⟨b4, rfl, _, b4, rfl, rfl, _, _, rfl, rfl, ?_, k⟩⟩
  cases b1 <;> cases b2 <;> cases b3 <;> cases b4 <;> decide +kernel
end
def webVal : Str := "web value"
def pointVal : Str := "point value"
theorem word_web : wordOf true false false true = webVal := by decide +kernel
theorem word_point : wordOf false true false true = pointVal := by decide +kernel
def madeTxt (b : Bool) : Str := if b then "" else webVal
def spMade (K : PySem.W.Frag) : Sp := fun vs H Q _ => ∃ (x y : V) (b : Bool), vs = [x, y] ∧ WebArgs K H b x y ∧ ∀ H', Same H H' → Q (.str (madeTxt b)) H'
def spAsked (C : Addr) (K : PySem.W.Frag) : Sp := fun vs H Q _ => ∃ (H0 : Hp) (p : Addr) (m : Nat) (ts : List Tie) (wy : Int) (x : V) (T : String), vs = [.ref p, .int wy, x] ∧ WebAt C H0 H p m ts ∧ TyB K H x T ∧ isPt m x = false ∧ Q (.str pointVal) H
section
variable {P : Program} {w : World} {K : PySem.W.Frag} {mg : Str → Option Value} {base : Heap} {C CN CP CF CT : Addr}
theorem scMade : FnScope ["_law_many", "_law_ties", "_law_e"] ["_law_many", "_law_ties"] (defScope sLawMade) := ⟨rfl, rfl, rfl, by decide +kernel, rfl, by decide +kernel, by decide +kernel⟩
theorem c_made (T : WTxt K mg C) (L : K2Txt K mg CN CP CF CT) (FM : Fn K mg "_law_made" sLawMade ["_law_many", "_law_ties"]) : C8.Cal P w K mg base 7 "_law_made" (spMade K) [] := by
  obtain ⟨fw, fdw, FW, gW, bW⟩ := L.fWord.ex
  have G : FnX P w K mg base 1 fw fdw ["_law_e"] CN (spWord (wordOf true false false true)) := word_ok FW T L L.cN L.nn L.np L.nt L.nv
  refine cal_of FM scMade (fun vs H Q E h => ?_) (fun f cdv A outer s H vs Q E hr h => ?_)
  · obtain ⟨x, y, b, rfl, _⟩ := h
    rfl
  · obtain ⟨x, y, b, rfl, args, k⟩ := h
    refine ⟨_, pss_cons (ps_try_as (i := 2) (c := .ref CF) (tb := fun W => tDrop (tMake C (spInitX C K CN) [] (EW ["_law_many", "_law_ties", "_law_e"] W) (tCons (tVar 0) (tCons (tVar 1) tNil))))
        (ts := fun a cls d => tRet (tCallX cls d a CN (spWord (wordOf true false false true)) (tCons (tVar 2) tNil))) (Wout := fun _ _ _ _ => False) rfl rfl scMade.nd rfl rfl ⟨rfl, by decide, .inl L.gF⟩ takes0
        (fun W pn xe tk _ => pss_one (ps_expr (pe_mkX (c_initX T L.eN) hr (by decide) (by rfl) (passW tk) (pa_cons (pv 0) (pa_cons (pv 1) pa_nil)))))
        (fun a oe cls d pn hz hf => pss_one (ps_ret (pe_callX G rfl (hr.mono (by decide)) hz hf (by rfl) gW FW.kp bW (pa_cons (pv 2) pa_nil)))))
      (pss_one (ps_ret pe_str)), ?_⟩
    refine ⟨_, rfl, _, rfl, fun o dx no ndx nodx => ?_⟩
    refine ⟨H, o, dx, x, y, b, rfl, upd_same, fun c u e => by rw [upd_ne (ne_of_none e no), upd_ne (ne_of_none e ndx)]; exact e, no, args, fun hb H' keep σ' hlen => ?_, fun hb H' m a ws ts e1 e2 hS hP g h1 h2 keep W => ⟨rfl, ?_⟩⟩
    · refine ⟨true, L.xN, fun _ a ha => ?_, fun q => Bool.noConfusion q⟩
      refine ⟨⟨rfl, rfl⟩, _, List.getElem?_set_self (by rw [hlen]; decide), rfl, rfl, ?_⟩
      have q := k H' (Same.made no ndx keep)
      rw [hb] at q
      rw [word_web]
      exact q
    · have q := k H' (Same.made no ndx keep)
      rw [hb] at q
      exact q
theorem scAsked : FnScope ["_law_web", "_law_way", "_law_thing", "_law_e"] ["_law_web", "_law_way", "_law_thing"] (defScope sLawAsked) := ⟨rfl, rfl, rfl, by decide +kernel, rfl, by decide +kernel, by decide +kernel⟩
theorem c_asked (T : WTxt K mg C) (L : K2Txt K mg CN CP CF CT) (FA : Fn K mg "_law_asked" sLawAsked ["_law_web", "_law_way", "_law_thing"]) (FC : FnM K C "_check_point" "Web._check_point" sWebCheckPoint ["self", "thing"]) (FB : FnM K C "beside" "Web.beside" sWebBeside ["self", "point"])
    (FT : FnM K C "tied" "Web.tied" sWebTied ["self", "one", "other"]) : C8.Cal P w K mg base 6 "_law_asked" (spAsked C K) [] := by
  obtain ⟨fw, fdw, FW, gW, bW⟩ := L.fWord.ex
  have G : FnX P w K mg base 1 fw fdw ["_law_e"] CP (spWord (wordOf false true false true)) := word_ok FW T L L.cP L.pn L.pp L.pt L.pv
  refine cal_of FA scAsked (fun vs H Q E h => ?_) (fun f cdv A outer s H vs Q E hr h => ?_)
  · obtain ⟨H0, p, m, ts, wy, x, t, rfl, _⟩ := h
    rfl
  · obtain ⟨H0, p, m, ts, wy, x, t, rfl, W, ht, hb, k⟩ := h
    refine ⟨_, pss_cons (ps_try_as (i := 3) (c := .ref CF) (tb := fun W => tIfS (tTest (tOp rEq (tVar 1) (tC (.int 0)))) (tDrop (tMeth C "beside" (spBesideX C K CP) [] (EW ["_law_web", "_law_way", "_law_thing", "_law_e"] W) (tVar 0) (tCons (tVar 2) tNil)))
          (tIfS (tTest (tOp rEq (tVar 1) (tC (.int 1)))) (tDrop (tMeth C "tied" (spTiedX C K CP) [] (EW ["_law_web", "_law_way", "_law_thing", "_law_e"] W) (tVar 0) (tCons (tVar 2) (tCons (tC (.int 0)) tNil))))
            (tDrop (tMeth C "tied" (spTiedX C K CP) [] (EW ["_law_web", "_law_way", "_law_thing", "_law_e"] W) (tVar 0) (tCons (tC (.int 0)) (tCons (tVar 2) tNil))))))
        (ts := fun a cls d => tRet (tCallX cls d a CP (spWord (wordOf false true false true)) (tCons (tVar 3) tNil))) (Wout := fun _ _ _ _ => False) rfl rfl scAsked.nd rfl rfl ⟨rfl, by decide, .inl L.gF⟩ takes0
        (fun W pn xe tk _ => pss_one (ps_if (pt_cmpR op_eq (pv 1) pe_int (nomark _)) (pss_one (ps_expr (pe_mtX (c_besideX T L.eP FC FB) hr (by decide) (passW tk) (pv 0) (pa_cons (pv 2) pa_nil))))
          (pss_one (ps_if (pt_cmpR op_eq (pv 1) pe_int (nomark _)) (pss_one (ps_expr (pe_mtX (c_tiedX T L.eP FC FT) hr (by decide) (passW tk) (pv 0) (pa_cons (pv 2) (pa_cons pe_int pa_nil)))))
            (pss_one (ps_expr (pe_mtX (c_tiedX T L.eP FC FT) hr (by decide) (passW tk) (pv 0) (pa_cons pe_int (pa_cons (pv 2) pa_nil)))))))))
        (fun a oe cls d pn hz hf => pss_one (ps_ret (pe_callX G rfl (hr.mono (by decide)) hz hf (by rfl) gW FW.kp bW (pa_cons (pv 3) pa_nil)))))
      (pss_one (ps_ret pe_str)), ?_⟩
    obtain ⟨p0, dx, R, as, hp, r⟩ := id W
    have nB : (wF m R).lookup ("beside" : Str) = none := wF_no _ _ (by decide +kernel) (by decide +kernel)
    have nT : (wF m R).lookup ("tied" : Str) = none := wF_no _ _ (by decide +kernel) (by decide +kernel)
    have fin : ∀ (D : Ends), D.rt = Q → EW ["_law_web", "_law_way", "_law_thing", "_law_e"] (wAs K (.ref CF) 3 (fun a cls d => tRet (tCallX cls d a CP (spWord (wordOf false true false true)) (tCons (tVar 3) tNil))) (fun _ _ _ _ => False) D) (.ref CP) none H := fun D hD σ' hlen => by
      refine ⟨true, L.xP, fun _ a ha => ?_, fun q => Bool.noConfusion q⟩
      refine ⟨⟨rfl, rfl⟩, _, List.getElem?_set_self (by rw [hlen]; decide), rfl, rfl, ?_⟩
      rw [word_point]
      show D.rt _ _
      rw [hD]
      exact k
    refine ⟨_, rfl, rfl, _, rfl, ?_⟩
    refine ite2 (fun _ => ?_) (fun _ => ?_)
    · exact ⟨_, rfl, p, dx, _, rfl, hp, nB, _, rfl, H0, p, m, ts, x, t, rfl, W, ht, hb, fin _ rfl⟩
    · refine ⟨_, rfl, rfl, _, rfl, ?_⟩
      refine ite2 (fun _ => ?_) (fun _ => ?_)
      · exact ⟨_, rfl, p, dx, _, rfl, hp, nT, _, rfl, H0, p, m, ts, x, .int 0, t, "int", rfl, W, ht, .int 0, .inl hb, fin _ rfl⟩
      · exact ⟨_, rfl, p, dx, _, rfl, hp, nT, _, rfl, H0, p, m, ts, .int 0, x, "int", t, rfl, W, .int 0, ht, .inr hb, fin _ rfl⟩
end
end Fd
namespace Fd
open PySem PySem.Spec PyProof.Rows L2
def spGood (K : PySem.W.Frag) : Sp := fun vs H Q _ => ∃ (a : Addr) (ns : List Int) (m n : Nat), vs = [.ref a, .int m, .int n] ∧ SqL K H a (iL ns) ∧ 1 ≤ m ∧ m ≤ 16 ∧ n ≤ 40 ∧
  ∀ (H' : Hp) (D : Addr) (ws : List V) (ts : List Tie), Same H H' → H D = none → H' D = some (.lst ws) → PairsAt H' ws ts → Good m ts → ts.length ≤ 40 → Q (.ref D) H'
section
variable {P : Program} {w : World} {K : PySem.W.Frag} {mg : Str → Option Value} {base : Heap} {C : Addr}
theorem scGood : FnScope ["_law_script", "_law_many", "_law_most", "_law_ties", "_law_k", "_law_cell", "_law_one", "_law_other"] ["_law_script", "_law_many", "_law_most"] (defScope sLawGood) := ⟨rfl, rfl, rfl, by decide +kernel, rfl, by decide +kernel, by decide +kernel⟩
theorem c_good (T : WTxt K mg C) (mx : mg "max" = none) (FC : Fn K mg "_law_cell_at" sLawCellAt ["_law_script", "_law_k"]) (FG : Fn K mg "_law_good" sLawGood ["_law_script", "_law_many", "_law_most"]) : C8.Cal P w K mg base 2 "_law_good" (spGood K) [] := by
  refine cal_of FG scGood (fun vs H Q E h => ?_) (fun f cdv A outer s H vs Q E hr h => ?_)
  · obtain ⟨a, ns, m, n, rfl, _⟩ := h
    rfl
  · obtain ⟨a, ns, m, n, rfl, hS, m1, m16, n40, k⟩ := h
    refine ⟨_, pss_cons (ps_set (i := 3) scGood.nd rfl (Or.inl rfl) (pe_lst pa_nil))
      (pss_cons (ps_for PassesOwn.never rfl (pi_range1 (by rfl) T.range (pa_cons (pv 2) pa_nil)) (pg_name (i := 4) scGood.nd rfl (Or.inl rfl))
        (pss_cons (ps_set (i := 5) scGood.nd rfl (Or.inl rfl) (pe_op op_add (pe_op op_add (C8.pe_c (c_cell T FC) hr (by decide) (by rfl) (pa_cons (pv 0) (pa_cons (pe_op op_add pe_int (pe_op op_mod (pv 4) pe_int)) pa_nil)))
            (pe_op op_mul pe_int (pe_op op_fdiv (pv 4) pe_int))) (pv 4)))
        (pss_cons (ps_set (i := 6) scGood.nd rfl (Or.inl rfl) (pe_op op_mod (pv 5) (pv 1)))
        (pss_cons (ps_set (i := 7) scGood.nd rfl (Or.inl rfl) (pe_op op_mod (pe_op op_add (pe_op op_add (pv 6) pe_int)
            (pe_op op_mod (pe_op op_fdiv (pv 5) (pv 1)) (pe_callB (call_max2 rfl) (by rfl) mx (by decide +kernel) (pa_cons pe_int (pa_cons (pe_op op_sub (pv 1) pe_int) pa_nil))))) (pv 1)))
        (pss_one (ps_if (PW.pt (pw_and (pt_cmpR op_ne (pv 6) (pv 7) (nomark _)) (pw_and (pt_cmpR (op_notInD (hu65 hr)) (pe_tup (pa_cons (pv 6) (pa_cons (pv 7) pa_nil))) (pv 3) (by rfl))
            (pw_and1 (pt_cmpR (op_notInD (hu65 hr)) (pe_tup (pa_cons (pv 7) (pa_cons (pv 6) pa_nil))) (pv 3) (by rfl))))))
          (pss_one (ps_expr (pe_bm PySem.F.plainAttrs_list PySem.F.slot_list_append PySem.F.type_list_append mt_append (pv 3) (pa_cons (pe_tup (pa_cons (pv 6) (pa_cons (pv 7) pa_nil))) pa_nil)))) pss_nil))))))
      (pss_one (ps_ret (pv 3)))), ?_⟩
    refine ⟨Nat.zero_le _, fun D hD => ?_⟩
    have s0 : Same H (upd H D (.lst [])) := Same.put hD
    refine ⟨_, rfl, (n : Int), rfl, by omega, by omega, for_range (lo := 0) (n := (n : Int).toNat) (fun i σ H2 => ∃ (v1 v2 v3 v4 : Option V) (ws : List V) (ts : List Tie), σ = [some (.ref a), some (.int m), some (.int n), some (.ref D), v1, v2, v3, v4] ∧
        Same H H2 ∧ H2 D = some (.lst ws) ∧ PairsAt H2 ws ts ∧ Good m ts ∧ ts.length ≤ i)
      ⟨none, none, none, none, [], [], rfl, s0, upd_same, .nil, Good.nil m, Nat.le_refl _⟩ ?_ ?_⟩
    · rintro i σ H2 hi ⟨v1, v2, v3, v4, ws, ts, rfl, s2, hD2, hw, g, hl⟩
      rw [Int.toNat_natCast] at hi
      have hi40 : i < 40 := by omega
      have m0 : (0 : Int) < (m : Int) := by omega
      have x0 : (0 : Int) < (if ((m : Int) - 1) > 1 then ((m : Int) - 1) else 1) := by
        split <;> omega
      have ek : (4 : Int) + (0 + (i : Int)) % 30 = ((4 + i % 30 : Nat) : Int) := by omega
      have c64 : CMul 7919 ((0 + (i : Int)) / 30) := .inl ⟨by decide, by decide⟩
      refine ⟨_, rfl, _, rfl, _, _, rfl, rfl, by show (0 : Int) < 30; decide, _, _, rfl, rfl, a, ns, 4 + i % 30, by rw [← ek]; rfl, s2.seq hS, ?_⟩
      refine ⟨_, rfl, _, _, rfl, rfl, ⟨by decide, by decide⟩, _, _, rfl, rfl, c64, _, _, rfl, rfl, _, rfl, _, _, rfl, rfl, ?_⟩
      dsimp only
      generalize cellAt ns (4 + i % 30) + 7919 * ((0 + (i : Int)) / 30) + (0 + (i : Int)) = z
      refine ⟨_, rfl, _, rfl, _, _, rfl, rfl, m0, ?_⟩
      refine ⟨_, rfl, _, _, rfl, rfl, _, rfl, _, rfl, _, _, rfl, rfl, ⟨m0, by omega⟩, _, rfl, _, _, rfl, rfl, _, _, rfl, _, _, rfl, rfl, x0, _, _, rfl, rfl, _, rfl, _, _, rfl, rfl, m0, ?_⟩
      dsimp only
      generalize ho : z % (m : Int) = o
      generalize hq : (o + 1 + z / (m : Int) % (if ((m : Int) - 1) > 1 then ((m : Int) - 1) else 1)) % (m : Int) = q
      have o0 : 0 ≤ o := by rw [← ho]; exact Int.emod_nonneg _ (by omega)
      have o1 : o < m := by rw [← ho]; exact Int.emod_lt_of_pos _ m0
      have q0 : 0 ≤ q := by rw [← hq]; exact Int.emod_nonneg _ (by omega)
      have q1 : q < m := by rw [← hq]; exact Int.emod_lt_of_pos _ m0
      refine ⟨_, rfl, _, rfl, rfl, _, rfl, ?_⟩
      have stay : ∀ H3, Same H2 H3 → ∃ (v1 v2 v3 v4 : Option V) (ws : List V) (ts : List Tie), [some (V.ref a), some (.int m), some (.int n), some (.ref D), some (.int (0 + (i : Int))), some (.int z), some (.int o), some (.int q)] = [some (V.ref a), some (.int m), some (.int n), some (.ref D), v1, v2, v3, v4] ∧
          Same H H3 ∧ H3 D = some (.lst ws) ∧ PairsAt H3 ws ts ∧ Good m ts ∧ ts.length ≤ i + 1 := fun H3 s3 =>
        ⟨_, _, _, _, ws, ts, rfl, s2.trans s3, s3 _ _ hD2, hw.same s3, g, by omega⟩
      by_cases c1 : o = q
      · refine no_ (by rw [decide_eq_true (by rw [c1])]; rfl) ?_
        refine iteF ?_
        exact stay H2 (Same.refl _)
      · refine yep_ (by rw [decide_eq_false (fun e => c1 (V.int.inj e))]; rfl) ?_
        refine ⟨_, rfl, _, rfl, by show 2 ≤ sizeLine; decide, fun t ht => ?_⟩
        have s3 : Same H2 (upd H2 t (.tup [.int o, .int q])) := Same.put ht
        refine ⟨_, rfl, prd (o, q), ts.map prd, dp_pair ⟨t, rfl, upd_same⟩, dp_pairs (SqL.of (s3 _ _ hD2)) (hw.same s3), prd_shaped _, prds_shaped _, _, rfl, ?_⟩
        rw [prds_any]
        by_cases c2 : (o, q) ∈ ts
        · refine no_ (by rw [decide_eq_true c2]; rfl) ?_
          refine iteF ?_
          exact stay _ s3
        · refine yep_ (by rw [decide_eq_false c2]; rfl) ?_
          refine ⟨_, rfl, _, rfl, by show 2 ≤ sizeLine; decide, fun t' ht' => ?_⟩
          have s4 : Same H2 (upd (upd H2 t (.tup [.int o, .int q])) t' (.tup [.int q, .int o])) := Same.step s3 ht'
          refine ⟨_, rfl, prd (q, o), ts.map prd, dp_pair ⟨t', rfl, upd_same⟩, dp_pairs (SqL.of (s4 _ _ hD2)) (hw.same s4), prd_shaped _, prds_shaped _, _, rfl, ?_⟩
          rw [prds_any]
          by_cases c3 : (q, o) ∈ ts
          · refine no_ (by rw [decide_eq_true c3]; rfl) ?_
            exact stay _ s4
          · refine yep_ (by rw [decide_eq_false c3]; rfl) ?_
            refine ⟨_, rfl, .inl ⟨rfl, _, SqL.of (s4 _ _ hD2)⟩, _, rfl, _, rfl, by show 2 ≤ sizeLine; decide, fun u hu => ?_⟩
            have s5 := Same.put (o := .tup [.int o, .int q]) hu
            have hD5 := s5 _ _ (s4 _ _ hD2)
            refine ⟨D, _, _, rfl, rfl, hD5, by rw [hw.length]; exact small (by omega), ?_⟩
            have q5 := PairsAt.more (o := o) (q := q) (s4 _ _ hD2) (hw.same s4) hu
            exact ⟨_, _, _, _, _, ts ++ [(o, q)], rfl, Same.write (s2.trans (s4.trans s5)) hD, upd_same, q5, Good.snoc g ⟨o0, o1, q0, q1, c1⟩ c2 c3, by rw [List.length_append, List.length_singleton]; omega⟩
    · rintro σ H2 ⟨v1, v2, v3, v4, ws, ts, rfl, s2, hD2, hw, g, hl⟩
      rw [Int.toNat_natCast] at hl
      exact ⟨_, rfl, k H2 D ws ts s2 hD hD2 hw g (by omega)⟩
end
end Fd
namespace Fd
open PySem PySem.Spec PyProof.Rows L2
/-! ### displays: what each item is, whatever the heap -/
def OddAt (K : PySem.W.Frag) (m : Nat) (ts : List Tie) (H : Hp) (x : V) : Prop := BadTie K H m ts x ∧ ∃ d, Dp K H x d ∧ d.canLay0 = true ∧ d.depth ≤ 2
theorem OddAt.same {K : PySem.W.Frag} {m : Nat} {ts : List Tie} {H H' : Hp} {x : V} (s : Same H H') (h : OddAt K m ts H x) : OddAt K m ts H' x := by
  obtain ⟨b, d, k1, k2, k3⟩ := h
  exact ⟨b.same s, d, Dp.same' s d x k1, k2, k3⟩
abbrev Gv (H0 : Hp) (σ : L2.St) (P : Hp → V → Prop) (t : TE) : Prop := ∀ (H : Hp) (Q : VK), Same H0 H → (∀ H' x, Same H H' → P H' x → Q x H') → t σ H Q
abbrev GvA (H0 : Hp) (σ : L2.St) (P : Hp → V → Prop) (n : Nat) (t : TA) : Prop := ∀ (H : Hp) (Q : List V → Hp → Prop), Same H0 H → (∀ H' xs, Same H H' → xs.length = n → (∀ x ∈ xs, P H' x) → Q xs H') → t σ H Q
abbrev Pu (H0 : Hp) (σ : L2.St) (t : TE) (u : V) : Prop := ∀ (H : Hp) (Q : VK), Same H0 H → Q u H → t σ H Q
abbrev PuA (H0 : Hp) (σ : L2.St) (t : TA) (us : List V) : Prop := ∀ (H : Hp) (Q : List V → Hp → Prop), Same H0 H → Q us H → t σ H Q
section
variable {K : PySem.W.Frag} {m : Nat} {ts : List Tie} {H0 : Hp} {σ : L2.St} {P : Hp → V → Prop} {t : TE} {ta : TA} {n : Nat} {u : V} {us : List V}
theorem gv_nil : GvA H0 σ P 0 tNil := fun H Q _ h => h H [] (Same.refl H) rfl (fun x hx => by cases hx)
theorem gv_cons (st : ∀ H H' x, Same H H' → P H x → P H' x) (h1 : Gv H0 σ P t) (h2 : GvA H0 σ P n ta) : GvA H0 σ P (n + 1) (tCons t ta) := fun H Q s h =>
  h1 H _ s fun H1 x s1 p1 => h2 H1 _ (s.trans s1) fun H2 xs s2 l2 p2 => h H2 (x :: xs) (s1.trans s2) (by rw [List.length_cons, l2]) fun y hy => by
    rcases List.mem_cons.mp hy with rfl | q
    · exact st _ _ _ s2 p1
    · exact p2 y q
theorem pu_nil : PuA H0 σ tNil [] := fun _ _ _ h => h
theorem pu_cons (h1 : Pu H0 σ t u) (h2 : PuA H0 σ ta us) : PuA H0 σ (tCons t ta) (u :: us) := fun H _ s h => h1 H _ s (h2 H _ s h)
theorem pu_c (v : V) : Pu H0 σ (tC v) v := fun _ _ _ h => h
theorem pu_v {i : Nat} {v : V} (e : σ[i]? = some (some v)) : Pu H0 σ (tVar i) v := fun _ _ _ h => ⟨v, e, h⟩
/-- a scalar -/
def Scal (K : PySem.W.Frag) (v : V) : Prop := ∃ (T : String) (d : PyData), (∀ H, TyB K H v T) ∧ (∀ H, Dp K H v d) ∧ d.canLay0 = true ∧ d.depth = 0 ∧ T ≠ "tuple"
theorem sc_int (i : Int) : Scal K (.int i) := ⟨_, _, fun _ => .int i, fun _ => .int i, by simp [PyData.canLay0], by simp [PyData.depth], by decide⟩
theorem sc_bl (i : Bool) : Scal K (.bl i) := ⟨_, _, fun _ => .bl i, fun _ => .bl i, by simp [PyData.canLay0], by simp [PyData.depth], by decide⟩
theorem sc_str {i : Str} (h : PyData.strOk i = true) : Scal K (.str i) := ⟨_, _, fun _ => .str i, fun _ => .str i, by simp [PyData.canLay0, h], by simp [PyData.depth], by decide⟩
theorem sc_non : Scal K .non := ⟨_, _, fun _ => .non, fun _ => .non, by simp [PyData.canLay0], by simp [PyData.depth], by decide⟩
theorem sc_all : ∀ {us : List V}, (∀ u ∈ us, Scal K u) → ∃ ds, (∀ H, DpAll K H us ds) ∧ PyData.canLayAll0 ds = true ∧ PyData.depthAll ds = 0
  | [], _ => ⟨[], fun _ => .nil, by simp [PyData.canLayAll0], by simp [PyData.depthAll]⟩
  | u :: us, h => by
    obtain ⟨T, d, _, h2, h3, h4, _⟩ := h u List.mem_cons_self
    obtain ⟨ds, k2, k3, k4⟩ := sc_all (us := us) fun x hx => h x (List.mem_cons_of_mem _ hx)
    exact ⟨d :: ds, fun H => .cons (h2 H) (k2 H), by simp [PyData.canLayAll0, h3, k3], by simp [PyData.depthAll, h4, k4]⟩
theorem gv_scal (h : Pu H0 σ t u) (hu : Scal K u) : Gv H0 σ (OddAt K m ts) t := fun H Q s k => by
  obtain ⟨T, d, h1, h2, h3, h4, h5⟩ := hu
  exact h H _ s (k H u (Same.refl H) ⟨.inl ⟨T, h1 H, h5⟩, d, h2 H, h3, by omega⟩)
theorem gv_tup (h : PuA H0 σ ta us) (hs : ∀ u ∈ us, Scal K u) (l : us.length ≤ 3) (bad : tieOk m us = false) : Gv H0 σ (OddAt K m ts) (tTup ta) := fun H Q s k => by
  refine h H _ s ⟨smalle (by omega), fun p hp => k _ _ (Same.put hp) ?_⟩
  obtain ⟨ds, k2, k3, k4⟩ := sc_all hs
  refine ⟨.inr ⟨p, us, rfl, SqT.of upd_same, fun y hy => ?_, .inl bad⟩, .tuple ds, .tup (SqT.of upd_same) (k2 _), by simpa [PyData.canLay0] using k3, ?_⟩
  · obtain ⟨T, d, h1, _⟩ := hs y hy
    exact ⟨T, h1 _⟩
  · simp only [PyData.depth]
    omega
theorem gv_lst (h : PuA H0 σ ta us) (hs : ∀ u ∈ us, Scal K u) (l : us.length ≤ 3) : Gv H0 σ (OddAt K m ts) (tLst ta) := fun H Q s k => by
  refine h H _ s ⟨smalle (by omega), fun p hp => k _ _ (Same.put hp) ?_⟩
  obtain ⟨ds, k2, k3, k4⟩ := sc_all hs
  refine ⟨.inl ⟨"list", .lst (SqL.of upd_same), by decide⟩, .list ds, .lst (SqL.of upd_same) (k2 _), by simpa [PyData.canLay0] using k3, ?_⟩
  simp only [PyData.depth]
  omega
/-- (0, [1]) -/
theorem gv_deep (h1 : Pu H0 σ t u) (hu : Scal K u) (h : PuA H0 σ ta us) (hs : ∀ u ∈ us, Scal K u) (l : us.length ≤ 3) : Gv H0 σ (OddAt K m ts) (tTup (tCons t (tCons (tLst ta) tNil))) := fun H Q s k => by
  refine h1 H _ s (h H _ s ⟨smalle (by omega), fun q hq => ?_⟩)
  refine ⟨smalle (by show 2 ≤ 1000; omega), fun p hp => k _ _ (Same.step (Same.put hq) hp) ?_⟩
  obtain ⟨ds, k2, k3, k4⟩ := sc_all hs
  obtain ⟨T, d, g1, g2, g3, g4, _⟩ := hu
  have hq2 : (upd (upd H q (.lst us)) p (.tup [u, .ref q])) q = some (.lst us) := Same.put hp _ _ upd_same
  refine ⟨.inr ⟨p, [u, .ref q], rfl, SqT.of upd_same, fun y hy => ?_, .inl ?_⟩, .tuple [d, .list ds], .tup (SqT.of upd_same) (.cons (g2 _) (.cons (.lst (SqL.of hq2) (k2 _)) .nil)), ?_, ?_⟩
  · rcases List.mem_cons.mp hy with rfl | z
    · exact ⟨T, g1 _⟩
    · rw [List.mem_singleton.mp z]
      exact ⟨_, .lst (SqL.of hq2)⟩
  · show (isPt m u && isPt m (.ref q) && !decide (u = .ref q)) = false
    rw [show isPt m (.ref q) = false from rfl, Bool.and_false, Bool.false_and]
  · simp [PyData.canLay0, PyData.canLayAll0, g3, k3]
  · simp only [PyData.depth, PyData.depthAll]
    omega
end
theorem gv_list {H0 : Hp} {σ : L2.St} {P : Hp → V → Prop} {n : Nat} {t : TA} (st : ∀ H H' x, Same H H' → P H x → P H' x) (h : GvA H0 σ P n t) (hn : n ≤ 1000) {H : Hp} {Q : VK} (s : Same H0 H) (k : ∀ (H' : Hp) (p : Addr) (xs : List V), Same H H' → H' p = some (.lst xs) → xs.length = n → (∀ x ∈ xs, P H' x) → Q (.ref p) H') : tLst t σ H Q :=
  h H _ s fun H1 xs s1 l1 p1 => ⟨smalle (by omega), fun p hp => k _ p xs (Same.step s1 hp) upd_same l1 fun x hx => st _ _ _ (Same.put hp) (p1 x hx)⟩
theorem pick (ys : List V) (c : Int) (h : 0 < ys.length) : ∃ x, atI ys (c % (ys.length : Int)) = some x ∧ x ∈ ys := by
  have h0 := Int.emod_nonneg c (show (ys.length : Int) ≠ 0 by omega)
  have h1 := Int.emod_lt_of_pos c (show (0 : Int) < ys.length by omega)
  obtain ⟨j, e⟩ : ∃ j : Nat, c % (ys.length : Int) = j := ⟨(c % (ys.length : Int)).toNat, by omega⟩
  have hj : j < ys.length := by omega
  exact ⟨ys[j], by rw [e]; exact atI_nat (List.getElem?_eq_getElem hj), List.getElem_mem hj⟩
theorem bad1 {m : Nat} {u v : V} (h : isPt m u = false) : tieOk m [u, v] = false := by
  show (isPt m u && isPt m v && !decide (u = v)) = false
  rw [h, Bool.false_and, Bool.false_and]
theorem bad2 {m : Nat} {u v : V} (h : isPt m v = false) : tieOk m [u, v] = false := by
  show (isPt m u && isPt m v && !decide (u = v)) = false
  rw [h, Bool.and_false, Bool.false_and]
theorem bad3 {m : Nat} {u : V} : tieOk m [u, u] = false := by
  show (isPt m u && isPt m u && !decide (u = u)) = false
  rw [decide_eq_true rfl, Bool.not_true, Bool.and_false]
theorem isPt_lo {m : Nat} {i : Int} (h : i < 0) : isPt m (.int i) = false := by
  show (decide (0 ≤ i) && decide (i < m)) = false
  rw [decide_eq_false (by omega), Bool.false_and]
theorem isPt_hi {m : Nat} {i : Int} (h : (m : Int) ≤ i) : isPt m (.int i) = false := by
  show (decide (0 ≤ i) && decide (i < m)) = false
  rw [decide_eq_false (p := i < m) (by omega), Bool.and_false]
theorem odd_told {K : PySem.W.Frag} {H : Hp} {m : Nat} {ts : List Tie} {a : Addr} {o q : Int} (g : Good m ts) (h : (o, q) ∈ ts ∨ (q, o) ∈ ts) (d : H a = some (.tup [.int o, .int q])) : OddAt K m ts H (.ref a) := by
  refine ⟨.inr ⟨a, _, rfl, SqT.of d, fun y hy => ?_, .inr ?_⟩, .tuple [.int o, .int q], .tup (SqT.of d) (.cons (.int o) (.cons (.int q) .nil)), by simp [PyData.canLay0, PyData.canLayAll0], by simp [PyData.depth, PyData.depthAll]⟩
  · rcases List.mem_cons.mp hy with rfl | z
    · exact ⟨_, .int o⟩
    · rw [List.mem_singleton.mp z]
      exact ⟨_, .int q⟩
  · have k : 0 ≤ o ∧ o < m ∧ 0 ≤ q ∧ q < m ∧ o ≠ q := by
      rcases h with h | h
      · exact g.rng _ h
      · have := g.rng _ h
        exact ⟨this.2.2.1, this.2.2.2.1, this.1, this.2.1, fun e => this.2.2.2.2 e.symm⟩
    obtain ⟨i, rfl⟩ : ∃ i : Nat, o = i := ⟨o.toNat, by omega⟩
    obtain ⟨j, rfl⟩ : ∃ j : Nat, q = j := ⟨q.toNat, by omega⟩
    exact ⟨i, j, rfl, by omega, by omega, by omega, h⟩
def spOdd (K : PySem.W.Frag) : Sp := fun vs H Q _ => ∃ (c : Int) (m : Nat) (l : Addr) (ws : List V) (ts : List Tie), vs = [.int c, .int m, .ref l] ∧ 1 ≤ m ∧ m ≤ 16 ∧ H l = some (.lst ws) ∧ PairsAt H ws ts ∧ Good m ts ∧ ts.length ≤ 40 ∧
  ∀ (H' : Hp) (x : V), Same H H' → OddAt K m ts H' x → Q x H'
def farOf (c k : Int) : Int := c / k % (10 : Int) ^ (12 : Int).toNat
theorem far_nn (c k : Int) : 0 ≤ farOf c k := Int.emod_nonneg _ (by decide)
section
variable {P : Program} {w : World} {K : PySem.W.Frag} {mg : Str → Option Value} {base : Heap} {C : Addr}
theorem scOdd : FnScope ["_law_cell", "_law_many", "_law_ties", "_law_far", "_law_odd_here", "_law_tie"] ["_law_cell", "_law_many", "_law_ties"] (defScope sLawOdd) := ⟨rfl, rfl, rfl, by decide +kernel, rfl, by decide +kernel, by decide +kernel⟩
theorem c_odd (T : WTxt K mg C) (FO : Fn K mg "_law_odd" sLawOdd ["_law_cell", "_law_many", "_law_ties"]) : C8.Cal P w K mg base 1 "_law_odd" (spOdd K) [] := by
  refine cal_of FO scOdd (fun vs H Q E h => ?_) (fun f cdv A outer s H vs Q E hr h => ?_)
  · obtain ⟨c, m, l, ws, ts, rfl, _⟩ := h
    rfl
  · obtain ⟨c, m, l, ws, ts, rfl, m1, m16, hl, pr, g, tl, k⟩ := h
    have hun : (A.deeper (envOfC "_law_odd" (defScope sLawOdd) s.heap.objs.size f cdv)).units + 64 < cLine := by
      have := hr.un
      omega
    refine ⟨_, pss_cons (ps_set (i := 3) scOdd.nd rfl (Or.inl rfl) (pe_op op_mod (pe_op op_fdiv (pv 0) pe_int) (pe_op op_pow pe_int pe_int)))
      (pss_cons (ps_set (i := 4) scOdd.nd rfl (Or.inl rfl) (pe_lst (pa_cons (pe_tup (pa_cons pe_int (pa_cons pe_int pa_nil)))
        (pa_cons (pe_tup (pa_cons (pe_op op_sub (pv 1) pe_int) (pa_cons (pe_op op_sub (pv 1) pe_int) pa_nil)))
        (pa_cons (pe_tup (pa_cons pe_int (pa_cons (pv 1) pa_nil)))
        (pa_cons (pe_tup (pa_cons (pv 1) (pa_cons pe_int pa_nil)))
        (pa_cons (pe_tup (pa_cons (pe_un un_neg pe_int) (pa_cons pe_int pa_nil)))
        (pa_cons (pe_tup (pa_cons pe_int (pa_cons (pe_op op_sub (pe_un un_neg pe_int) (pv 3)) pa_nil)))
        (pa_cons (pe_tup (pa_cons (pe_op op_add (pv 1) (pv 3)) (pa_cons pe_int pa_nil)))
        (pa_cons (pe_tup (pa_cons pe_bl (pa_cons pe_int pa_nil))) pa_nil))))))))))
      (pss_cons (ps_set (i := 4) scOdd.nd rfl (Or.inl rfl) (pe_op op_cat (pv 4) (pe_lst (pa_cons (pe_tup (pa_cons pe_int (pa_cons pe_bl pa_nil)))
        (pa_cons (pe_tup (pa_cons pe_str (pa_cons pe_int pa_nil)))
        (pa_cons (pe_tup (pa_cons pe_int (pa_cons pe_non pa_nil)))
        (pa_cons (pe_tup (pa_cons pe_int pa_nil))
        (pa_cons (pe_tup (pa_cons pe_int (pa_cons pe_int (pa_cons pe_int pa_nil))))
        (pa_cons (pe_lst (pa_cons pe_int (pa_cons pe_int pa_nil)))
        (pa_cons pe_non (pa_cons pe_int
        (pa_cons (pe_tup (pa_cons pe_int (pa_cons (pe_lst (pa_cons pe_int pa_nil)) pa_nil))) pa_nil))))))))))))
      (pss_cons (ps_if (pt_cmpR (op_neD hun) (pv 2) (pe_lst pa_nil) (nomark _))
        (pss_cons (ps_set (i := 5) scOdd.nd rfl (Or.inl rfl) (pe_ix ix_list (pv 2) (pe_op op_mod (pe_op op_fdiv (pv 0) pe_int) (pe_callB call_len_seq (by rfl) T.len PySem.boot_len (pa_cons (pv 2) pa_nil))) (fun _ _ => rfl)))
        (pss_one (ps_set (i := 4) scOdd.nd rfl (Or.inl rfl) (pe_op op_cat (pv 4) (pe_lst (pa_cons (pv 5) (pa_cons (pe_tup (pa_cons (pe_ix ix_tup (pv 5) pe_int (fun _ _ => rfl)) (pa_cons (pe_ix ix_tup (pv 5) pe_int (fun _ _ => rfl)) pa_nil))) pa_nil)))))))
        pss_nil)
      (pss_one (ps_ret (pe_ix ix_list (pv 4) (pe_op op_mod (pv 0) (pe_callB call_len_seq (by rfl) T.len PySem.boot_len (pa_cons (pv 4) pa_nil))) (fun _ _ => rfl))))))), ?_⟩
    refine ⟨_, rfl, _, _, rfl, rfl, ⟨by decide, by decide⟩, _, _, rfl, rfl, ⟨by decide, by decide, by decide⟩, _, _, rfl, rfl, by show (0 : Int) < _; decide, ?_⟩
    have fn := far_nn c 20
    dsimp only [gName, tSeq, tAsg]
    generalize hf : c / 20 % (10 : Int) ^ (12 : Int).toNat = far
    have fn : 0 ≤ far := by rw [← hf]; exact far_nn c 20
    have mm : isPt m (.int (m : Int)) = false := isPt_hi (Int.le_refl _)
    have st : ∀ H H' x, Same H H' → OddAt K m ts H x → OddAt K m ts H' x := fun _ _ _ s h => h.same s
    have G1 : GvA H [some (.int c), some (.int m), some (.ref l), some (.int far), none, none] (OddAt K m ts) 8
        (tCons (tTup (tCons (tC (.int 0)) (tCons (tC (.int 0)) tNil))) (tCons (tTup (tCons (tOp (rI0 fun i j => V.int (i - j)) (tVar 1) (tC (.int 1))) (tCons (tOp (rI0 fun i j => V.int (i - j)) (tVar 1) (tC (.int 1))) tNil)))
          (tCons (tTup (tCons (tC (.int 0)) (tCons (tVar 1) tNil))) (tCons (tTup (tCons (tVar 1) (tCons (tC (.int 0)) tNil))) (tCons (tTup (tCons (tUn (rU fun i => V.int (-i)) (tC (.int 1))) (tCons (tC (.int 0)) tNil)))
          (tCons (tTup (tCons (tC (.int 0)) (tCons (tOp (rI0 fun i j => V.int (i - j)) (tUn (rU fun i => V.int (-i)) (tC (.int 1))) (tVar 3)) tNil))) (tCons (tTup (tCons (tOp (rI0 fun i j => V.int (i + j)) (tVar 1) (tVar 3)) (tCons (tC (.int 0)) tNil)))
          (tCons (tTup (tCons (tC (.bl true)) (tCons (tC (.int 0)) tNil))) tNil)))))))) := by
      have pm : Pu H [some (.int c), some (.int m), some (.ref l), some (.int far), none, none] (tOp (rI0 fun i j => V.int (i - j)) (tVar 1) (tC (.int 1))) (.int ((m : Int) - 1)) := fun _ _ _ h => ⟨_, rfl, _, _, rfl, rfl, h⟩
      have p1 : Pu H [some (.int c), some (.int m), some (.ref l), some (.int far), none, none] (tUn (rU fun i => V.int (-i)) (tC (.int 1))) (.int (-1)) := fun _ _ _ h => ⟨_, rfl, h⟩
      have p2 : Pu H [some (.int c), some (.int m), some (.ref l), some (.int far), none, none] (tOp (rI0 fun i j => V.int (i - j)) (tUn (rU fun i => V.int (-i)) (tC (.int 1))) (tVar 3)) (.int (-1 - far)) := fun _ _ _ h => ⟨_, rfl, _, rfl, _, _, rfl, rfl, h⟩
      have p3 : Pu H [some (.int c), some (.int m), some (.ref l), some (.int far), none, none] (tOp (rI0 fun i j => V.int (i + j)) (tVar 1) (tVar 3)) (.int ((m : Int) + far)) := fun _ _ _ h => ⟨_, rfl, _, rfl, _, _, rfl, rfl, h⟩
      have sc2 : ∀ u v : V, Scal K u → Scal K v → ∀ x ∈ [u, v], Scal K x := fun u v hu hv x hx => by
        rcases List.mem_cons.mp hx with rfl | z
        · exact hu
        · rw [List.mem_singleton.mp z]
          exact hv
      refine gv_cons st (gv_tup (pu_cons (pu_c _) (pu_cons (pu_c _) pu_nil)) (sc2 _ _ (sc_int _) (sc_int _)) (Nat.le_of_ble_eq_true rfl) bad3) ?_
      refine gv_cons st (gv_tup (pu_cons pm (pu_cons pm pu_nil)) (sc2 _ _ (sc_int _) (sc_int _)) (Nat.le_of_ble_eq_true rfl) bad3) ?_
      refine gv_cons st (gv_tup (pu_cons (pu_c _) (pu_cons (pu_v rfl) pu_nil)) (sc2 _ _ (sc_int _) (sc_int _)) (Nat.le_of_ble_eq_true rfl) (bad2 mm)) ?_
      refine gv_cons st (gv_tup (pu_cons (pu_v rfl) (pu_cons (pu_c _) pu_nil)) (sc2 _ _ (sc_int _) (sc_int _)) (Nat.le_of_ble_eq_true rfl) (bad1 mm)) ?_
      refine gv_cons st (gv_tup (pu_cons p1 (pu_cons (pu_c _) pu_nil)) (sc2 _ _ (sc_int _) (sc_int _)) (Nat.le_of_ble_eq_true rfl) (bad1 (isPt_lo (by omega)))) ?_
      refine gv_cons st (gv_tup (pu_cons (pu_c _) (pu_cons p2 pu_nil)) (sc2 _ _ (sc_int _) (sc_int _)) (Nat.le_of_ble_eq_true rfl) (bad2 (isPt_lo (by omega)))) ?_
      refine gv_cons st (gv_tup (pu_cons p3 (pu_cons (pu_c _) pu_nil)) (sc2 _ _ (sc_int _) (sc_int _)) (Nat.le_of_ble_eq_true rfl) (bad1 (isPt_hi (by omega)))) ?_
      exact gv_cons st (gv_tup (pu_cons (pu_c _) (pu_cons (pu_c _) pu_nil)) (sc2 _ _ (sc_bl _) (sc_int _)) (Nat.le_of_ble_eq_true rfl) (bad1 rfl)) gv_nil
    refine gv_list (P := OddAt K m ts) (n := 8) st G1 (by decide) (Same.refl H) (fun H1 D1 xs1 s1 d1 l1 o1 => ?_)
    refine ⟨_, rfl, ?_⟩
    have G2 : GvA H1 [some (.int c), some (.int m), some (.ref l), some (.int far), some (.ref D1), none] (OddAt K m ts) 9
        (tCons (tTup (tCons (tC (.int 0)) (tCons (tC (.bl true)) tNil))) (tCons (tTup (tCons (tC (.str "0")) (tCons (tC (.int 1)) tNil))) (tCons (tTup (tCons (tC (.int 0)) (tCons (tC .non) tNil))) (tCons (tTup (tCons (tC (.int 0)) tNil))
          (tCons (tTup (tCons (tC (.int 0)) (tCons (tC (.int 1)) (tCons (tC (.int 1)) tNil)))) (tCons (tLst (tCons (tC (.int 0)) (tCons (tC (.int 1)) tNil))) (tCons (tC .non) (tCons (tC (.int 7))
          (tCons (tTup (tCons (tC (.int 0)) (tCons (tLst (tCons (tC (.int 1)) tNil)) tNil))) tNil))))))))) := by
      have sc1 : ∀ u : V, Scal K u → ∀ x ∈ [u], Scal K x := fun u hu x hx => by
        rw [List.mem_singleton.mp hx]
        exact hu
      have scc : ∀ (u : V) (us : List V), Scal K u → (∀ x ∈ us, Scal K x) → ∀ x ∈ u :: us, Scal K x := fun u us hu hv x hx => by
        rcases List.mem_cons.mp hx with rfl | z
        · exact hu
        · exact hv x z
      refine gv_cons st (gv_tup (pu_cons (pu_c _) (pu_cons (pu_c _) pu_nil)) (scc _ _ (sc_int _) (sc1 _ (sc_bl _))) (Nat.le_of_ble_eq_true rfl) (bad2 rfl)) ?_
      refine gv_cons st (gv_tup (pu_cons (pu_c _) (pu_cons (pu_c _) pu_nil)) (scc _ _ (sc_str (by decide +kernel)) (sc1 _ (sc_int _))) (Nat.le_of_ble_eq_true rfl) (bad1 rfl)) ?_
      refine gv_cons st (gv_tup (pu_cons (pu_c _) (pu_cons (pu_c _) pu_nil)) (scc _ _ (sc_int _) (sc1 _ sc_non)) (Nat.le_of_ble_eq_true rfl) (bad2 rfl)) ?_
      refine gv_cons st (gv_tup (pu_cons (pu_c _) pu_nil) (sc1 _ (sc_int _)) (Nat.le_of_ble_eq_true rfl) rfl) ?_
      refine gv_cons st (gv_tup (pu_cons (pu_c _) (pu_cons (pu_c _) (pu_cons (pu_c _) pu_nil))) (scc _ _ (sc_int _) (scc _ _ (sc_int _) (sc1 _ (sc_int _)))) (Nat.le_of_ble_eq_true rfl) rfl) ?_
      refine gv_cons st (gv_lst (pu_cons (pu_c _) (pu_cons (pu_c _) pu_nil)) (scc _ _ (sc_int _) (sc1 _ (sc_int _))) (Nat.le_of_ble_eq_true rfl)) ?_
      refine gv_cons st (gv_scal (pu_c _) sc_non) ?_
      refine gv_cons st (gv_scal (pu_c _) (sc_int _)) ?_
      exact gv_cons st (gv_deep (pu_c _) (sc_int _) (pu_cons (pu_c _) pu_nil) (sc1 _ (sc_int _)) (Nat.le_of_ble_eq_true rfl)) gv_nil
    refine gv_list (P := OddAt K m ts) (n := 9) st G2 (by decide) (Same.refl H1) (fun H2 D2 xs2 s2 d2 l2 o2 => ?_)
    refine ⟨D1, D2, xs1, xs2, rfl, rfl, s2 _ _ d1, d2, smalle (by omega), fun D3 h3 => ?_⟩
    have s3 := Same.put (o := .lst (xs1 ++ xs2)) h3
    have o3 : ∀ x ∈ xs1 ++ xs2, OddAt K m ts (upd H2 D3 (.lst (xs1 ++ xs2))) x := fun x hx => by
      rcases List.mem_append.mp hx with z | z
      · exact st _ _ _ (s2.trans s3) (o1 x z)
      · exact st _ _ _ s3 (o2 x z)
    have s03 : Same H (upd H2 D3 (.lst (xs1 ++ xs2))) := s1.trans (s2.trans s3)
    have d3 : (upd H2 D3 (.lst (xs1 ++ xs2))) D3 = some (.lst (xs1 ++ xs2)) := upd_same
    have l3 : 0 < (xs1 ++ xs2).length ∧ (xs1 ++ xs2).length ≤ 17 := by rw [List.length_append]; omega
    generalize upd H2 D3 (.lst (xs1 ++ xs2)) = H3 at s03 d3 o3 ⊢
    generalize xs1 ++ xs2 = xs at d3 o3 l3 ⊢
    refine ⟨_, rfl, Nat.zero_le _, fun z hz => ?_⟩
    have s4 := Same.put (o := .lst []) hz
    refine ⟨.list (ts.map prd), .list [], dp_pairs (SqL.of (s4 _ _ (s03 _ _ hl))) ((pr.same s03).same s4), .lst (SqL.of upd_same) .nil, prds_shaped _, inl_shaped [], _, rfl, ?_⟩
    have e1 : PyData.eqv (.list (ts.map prd)) (.list []) = decide (ts = []) := by
      cases ts with
      | nil => rfl
      | cons x r =>
        simp only [List.map_cons, PyData.eqv, PyData.eqvAll]
        rfl
    rw [e1]
    have s04 := s03.trans s4
    have d4 := s4 _ _ d3
    have o4 : ∀ x ∈ xs, OddAt K m ts (upd H3 z (.lst [])) x := fun x hx => st _ _ _ s4 (o3 x hx)
    generalize upd H3 z (.lst []) = H4 at s04 d4 o4 ⊢
    by_cases ce : ts = []
    · refine no_ (by rw [decide_eq_true ce]; rfl) ?_
      obtain ⟨x, hx, mx⟩ := pick xs c l3.1
      exact ⟨_, rfl, _, rfl, _, rfl, D3, xs, rfl, .inl (SqL.of d4), _, _, rfl, rfl, by show (0 : Int) < _; omega, D3, xs, _, x, rfl, rfl, SqL.of d4, hx, k H4 x s04 (o4 x mx)⟩
    · refine yep_ (by rw [decide_eq_false ce]; rfl) ?_
      have hl4 := s04 _ _ hl
      have pr4 := pr.same s04
      have wl : 0 < ws.length := by
        rw [pr.length]
        exact List.length_pos_iff.mpr ce
      obtain ⟨v, hv, mv⟩ := pick ws (c / 20) wl
      refine ⟨_, rfl, _, rfl, _, _, rfl, rfl, ⟨by decide, by decide⟩, _, rfl, l, ws, rfl, .inl (SqL.of hl4), _, _, rfl, rfl, by show (0 : Int) < _; omega, l, ws, _, v, rfl, rfl, SqL.of hl4, hv, ?_⟩
      obtain ⟨j, hj⟩ := List.mem_iff_getElem?.mp mv
      obtain ⟨⟨o, q⟩, ht, ⟨b, rfl, hb⟩⟩ := paired_get pr4 hj
      have mt : (o, q) ∈ ts := List.mem_of_getElem? ht
      refine ⟨_, rfl, _, rfl, ?_⟩
      refine ⟨_, rfl, b, _, 1, .int q, rfl, rfl, SqT.of hb, rfl, _, rfl, b, _, 0, .int o, rfl, rfl, SqT.of hb, rfl, by show 2 ≤ sizeLine; decide, fun t2 ht2 => ?_⟩
      have s5 := Same.put (o := .tup [.int q, .int o]) ht2
      refine ⟨by show 2 ≤ sizeLine; decide, fun D5 hD5 => ?_⟩
      have s6 := s5.trans (Same.put (o := .lst [.ref b, .ref t2]) hD5)
      refine ⟨D3, D5, xs, [.ref b, .ref t2], rfl, rfl, s6 _ _ d4, upd_same, smalle (by show _ + 2 ≤ 1000; omega), fun D6 hD6 => ?_⟩
      have s7 := s6.trans (Same.put (o := .lst (xs ++ [.ref b, .ref t2])) hD6)
      have d6 : (upd (upd (upd H4 t2 (.tup [.int q, .int o])) D5 (.lst [.ref b, .ref t2])) D6 (.lst (xs ++ [.ref b, .ref t2]))) D6 = some (.lst (xs ++ [.ref b, .ref t2])) := upd_same
      have o7 : ∀ x ∈ xs ++ [.ref b, .ref t2], OddAt K m ts (upd (upd (upd H4 t2 (.tup [.int q, .int o])) D5 (.lst [.ref b, .ref t2])) D6 (.lst (xs ++ [.ref b, .ref t2]))) x := fun x hx => by
        rcases List.mem_append.mp hx with z | z
        · exact st _ _ _ s7 (o4 x z)
        · rcases List.mem_cons.mp z with rfl | z
          · exact odd_told g (.inl mt) (s7 _ _ hb)
          · rw [List.mem_singleton.mp z]
            exact odd_told g (.inr mt) ((Same.put (o := .lst (xs ++ [.ref b, .ref t2])) hD6) _ _ ((Same.put (o := .lst [.ref b, .ref t2]) hD5) _ _ upd_same))
      have l7 : 0 < (xs ++ [V.ref b, V.ref t2]).length := by rw [List.length_append]; omega
      obtain ⟨x, hx, mx⟩ := pick (xs ++ [V.ref b, V.ref t2]) c l7
      exact ⟨_, rfl, _, rfl, _, rfl, D6, _, rfl, .inl (SqL.of d6), _, _, rfl, rfl, by show (0 : Int) < _; omega, D6, _, _, x, rfl, rfl, SqL.of d6, hx, k _ x (s04.trans s7) (o7 x mx)⟩
end
end Fd
namespace Fd
open PySem PySem.Spec PyProof.Rows L2
theorem passE0 {X : Cx} : Passes (L2.CX X.prog X.w) X L2.E0 := fun _ _ _ _ _ _ _ ⟨_, _, _, _, _, _, _, _, _, _, _, _, h⟩ => h.elim
theorem gv_pick {K : PySem.W.Frag} {σ : L2.St} {P : Hp → V → Prop} {n : Nat} {t : TA} {u : TE} {c : Int} {H : Hp} {Q : VK} (st : ∀ H H' x, Same H H' → P H x → P H' x) (h : GvA H σ P n t) (hn : n ≤ 1000) (n0 : 0 < n) (hu : Pu H σ u (.int (c % (n : Int)))) (k : ∀ (H' : Hp) (x : V), Same H H' → P H' x → Q x H') :
    tOp (rIxL K) (tLst t) u σ H Q := by
  refine gv_list (P := P) (n := n) st h hn (Same.refl H) (fun H1 D1 xs s1 d1 l1 o1 => ?_)
  obtain ⟨x, hx, mx⟩ := pick xs c (by omega)
  rw [l1] at hx
  exact hu H1 _ s1 ⟨D1, xs, _, x, rfl, rfl, SqL.of d1, hx, k H1 x s1 (o1 x mx)⟩
theorem gv_pick1 {K : PySem.W.Frag} {σ : L2.St} {P : Hp → V → Prop} {n : Nat} {t : TA} {u : TE} {c : Int} {H : Hp} {Q : List V → Hp → Prop} (st : ∀ H H' x, Same H H' → P H x → P H' x) (h : GvA H σ P n t) (hn : n ≤ 1000) (n0 : 0 < n) (hu : Pu H σ u (.int (c % (n : Int)))) (k : ∀ (H' : Hp) (x : V), Same H H' → P H' x → Q [x] H') :
    tCons (tOp (rIxL K) (tLst t) u) tNil σ H Q := gv_pick (K := K) (P := P) (Q := fun x H' => Q [x] H') st h hn n0 hu k
theorem cut_take (xs : List V) (k : Nat) (h : k ≤ xs.length) : cutV xs none (some (k : Int)) = xs.take k := by
  unfold cutV
  have e2 : HT.sIx xs.length xs.length (some (k : Int)) = min k xs.length := HT.sIx_nat _ _ k
  have e1 : HT.sIx xs.length 0 none = 0 := rfl
  rw [e1, e2, Nat.min_eq_left h, List.drop_zero, Nat.sub_zero]
theorem cut_drop (xs : List V) (k : Nat) (h : k ≤ xs.length) : cutV xs (some (k : Int)) none = xs.drop k := by
  unfold cutV
  have e2 : HT.sIx xs.length 0 (some (k : Int)) = min k xs.length := HT.sIx_nat _ _ k
  have e1 : HT.sIx xs.length xs.length none = xs.length := rfl
  rw [e1, e2, Nat.min_eq_left h]
  exact List.take_of_length_le (by rw [List.length_drop]; omega)
theorem dpall_same {K : PySem.W.Frag} {H H' : Hp} (s : Same H H') : ∀ {xs : List V} {ds : List PyData}, DpAll K H xs ds → DpAll K H' xs ds
  | _, _, .nil => .nil
  | _, _, .cons a b => .cons (Dp.same' s _ _ a) (dpall_same s b)
theorem dp_app {K : PySem.W.Frag} {H : Hp} {ys : List V} {es : List PyData} : ∀ {xs : List V} {ds : List PyData}, DpAll K H xs ds → DpAll K H ys es → DpAll K H (xs ++ ys) (ds ++ es)
  | _, _, .nil, h => h
  | _, _, .cons a b, h => .cons a (dp_app b h)
theorem lay_app {es : List PyData} : ∀ {ds : List PyData}, PyData.canLayAll0 ds = true → PyData.canLayAll0 es = true → PyData.canLayAll0 (ds ++ es) = true
  | [], _, h => h
  | d :: ds, k, h => by
    simp only [PyData.canLayAll0, Bool.and_eq_true, List.cons_append] at k ⊢
    exact ⟨k.1, lay_app k.2 h⟩
theorem depth_app {es : List PyData} {n : Nat} : ∀ {ds : List PyData}, PyData.depthAll ds ≤ n → PyData.depthAll es ≤ n → PyData.depthAll (ds ++ es) ≤ n
  | [], _, h => h
  | d :: ds, k, h => by
    simp only [PyData.depthAll, List.cons_append] at k ⊢
    have := depth_app (ds := ds) (es := es) (n := n) (by omega) h
    omega
def greatT (i : Nat) : List Tie := (pts i).map fun k => (k % 16, (k + 1 + k / 16) % 16)
theorem great_succ (i : Nat) : greatT (i + 1) = greatT i ++ [((i : Int) % 16, ((i : Int) + 1 + (i : Int) / 16) % 16)] := by
  unfold greatT
  rw [pts_succ, List.map_append]
  rfl
theorem great_len (i : Nat) : (greatT i).length = i := by
  unfold greatT
  rw [List.length_map, pts_len]
theorem great_good : Good 16 (greatT 40) := ⟨by decide +kernel, by decide +kernel⟩
def BadCnt (K : PySem.W.Frag) (H : Hp) (x : V) : Prop := ∃ T, TyB K H x T ∧ ∀ i, x = .int i → ¬ (1 ≤ i ∧ i ≤ 16)
def NoList (K : PySem.W.Frag) (H : Hp) (x : V) : Prop := ∃ T, TyB K H x T ∧ T ≠ "list"
def NoPt (K : PySem.W.Frag) (m : Nat) (H : Hp) (x : V) : Prop := ∃ T, TyB K H x T ∧ isPt m x = false
theorem BadCnt.same {K : PySem.W.Frag} (H H' : Hp) (x : V) (s : Same H H') : BadCnt K H x → BadCnt K H' x := fun ⟨T, h, k⟩ => ⟨T, TyB.same s h, k⟩
theorem NoList.same {K : PySem.W.Frag} (H H' : Hp) (x : V) (s : Same H H') : NoList K H x → NoList K H' x := fun ⟨T, h, k⟩ => ⟨T, TyB.same s h, k⟩
theorem NoPt.same {K : PySem.W.Frag} {m : Nat} (H H' : Hp) (x : V) (s : Same H H') : NoPt K m H x → NoPt K m H' x := fun ⟨T, h, k⟩ => ⟨T, TyB.same s h, k⟩
/-- what is read without a new thing -/
theorem gv_pu {H0 : Hp} {σ : L2.St} {P : Hp → V → Prop} {t : TE} {u : V} (h : Pu H0 σ t u) (hp : ∀ H, Same H0 H → P H u) : Gv H0 σ P t := fun H _ s k => h H _ s (k H u (Same.refl H) (hp H s))
theorem gv_seqL {H0 : Hp} {σ : L2.St} {P : Hp → V → Prop} {t : TA} {us : List V} (h : PuA H0 σ t us) (l : us.length ≤ 3) (hp : ∀ H p, H p = some (.lst us) → P H (.ref p)) : Gv H0 σ P (tLst t) := fun H _ s k => h H _ s ⟨smalle (by omega), fun p hp' => k _ _ (Same.put hp') (hp _ p upd_same)⟩
theorem gv_seqT {H0 : Hp} {σ : L2.St} {P : Hp → V → Prop} {t : TA} {us : List V} (h : PuA H0 σ t us) (l : us.length ≤ 3) (hp : ∀ H p, H p = some (.tup us) → P H (.ref p)) : Gv H0 σ P (tTup t) := fun H _ s k => h H _ s ⟨smalle (by omega), fun p hp' => k _ _ (Same.put hp') (hp _ p upd_same)⟩
theorem gv_dict {H0 : Hp} {σ : L2.St} {P : Hp → V → Prop} (hp : ∀ H p, H p = some (.dK []) → P H (.ref p)) : Gv H0 σ P tDNewK := fun H _ s k p hp' => k _ _ (Same.put hp') (hp _ p upd_same)
theorem e_web : decide (V.str (madeTxt false) = V.str "web value") = true := by decide +kernel
theorem e_no : decide (V.str (madeTxt true) = V.str "") = true := by decide +kernel
theorem e_pt : decide (V.str pointVal = V.str "point value") = true := by decide +kernel
def spLaw (K : PySem.W.Frag) : Sp := fun vs H Q _ => ∃ (a : Addr) (ns : List Int), vs = [.ref a] ∧ SqL K H a (ns.map V.int) ∧ ∀ H', Q (.bl true) H'
structure L2Txt (K : PySem.W.Frag) (mg : Str → Option Value) (C : Addr) : Prop where
  max : mg "max" = none
  fCell : Fn K mg "_law_cell_at" sLawCellAt ["_law_script", "_law_k"]
  fMade : Fn K mg "_law_made" sLawMade ["_law_many", "_law_ties"]
  fAsked : Fn K mg "_law_asked" sLawAsked ["_law_web", "_law_way", "_law_thing"]
  fGood : Fn K mg "_law_good" sLawGood ["_law_script", "_law_many", "_law_most"]
  fOdd : Fn K mg "_law_odd" sLawOdd ["_law_cell", "_law_many", "_law_ties"]
  fC : FnM K C "_check_point" "Web._check_point" sWebCheckPoint ["self", "thing"]
  fB : FnM K C "beside" "Web.beside" sWebBeside ["self", "point"]
  fT : FnM K C "tied" "Web.tied" sWebTied ["self", "one", "other"]
section
variable {P : Program} {w : World} {K : PySem.W.Frag} {mg : Str → Option Value} {base : Heap} {C CN CP CF CT : Addr}
abbrev nLaw : List Str := ["_law_script", "_law_many", "_law_way", "_law_cell", "_law_far", "_law_bad", "_law_ties", "_law_great", "_law_at", "_law_spoilt", "_law_handed", "_law_odd_here", "_law_thing", "_law_k"]
theorem scLaw : FnScope nLaw ["_law_script"] (defScope sLaw) := ⟨rfl, rfl, rfl, by decide +kernel, rfl, by decide +kernel, by decide +kernel⟩
abbrev oMod : R2 := rI (fun _ j => 0 < j) fun i j => .int (i % j)
abbrev oAdd : R2 := rI0 fun i j => .int (i + j)
abbrev oSub : R2 := rI0 fun i j => .int (i - j)
abbrev uNeg : V → Hp → VK → Prop := rU fun i => .int (-i)
theorem ok_law {f : Addr} {fd : FuncData} (F : L2.Fun K "law" "law" sLaw f fd) (T : WTxt K mg C) (L : K2Txt K mg CN CP CF CT) (N : L2Txt K mg C) : FnOk P w K mg base L2.CX0 8 f fd ["_law_script"] (spLaw K) := by
  refine F.ok scLaw (fun vs H Q E h => ?_) (fun cdv A outer s H vs Q E hr h => ?_)
  · obtain ⟨a, ns, rfl, _⟩ := h
    rfl
  · obtain ⟨a, ns, rfl, hS, k⟩ := h
    have hun : (A.deeper (envOfC "law" (defScope sLaw) s.heap.objs.size f cdv)).units + 64 < cLine := by
      have := hr.un
      omega
    refine ⟨_, pss_cons (ps_set (i := 1) scLaw.nd rfl (Or.inl rfl) (pe_op op_add pe_int (pe_op op_mod (C8.pe_c (c_cell T N.fCell) hr (by decide) (by rfl) (pa_cons (pv 0) (pa_cons pe_int pa_nil))) pe_int)))
      (pss_cons (ps_set (i := 2) scLaw.nd rfl (Or.inl rfl) (pe_op op_mod (C8.pe_c (c_cell T N.fCell) hr (by decide) (by rfl) (pa_cons (pv 0) (pa_cons pe_int pa_nil))) pe_int))
      (pss_cons (ps_set (i := 3) scLaw.nd rfl (Or.inl rfl) (C8.pe_c (c_cell T N.fCell) hr (by decide) (by rfl) (pa_cons (pv 0) (pa_cons pe_int pa_nil))))
      (pss_cons (ps_set (i := 4) scLaw.nd rfl (Or.inl rfl) (pe_op op_mod (pe_op op_fdiv (pv 3) pe_int) (pe_op op_pow pe_int pe_int)))
      (pss_cons (ps_if (pt_cmpR op_eq (pv 2) pe_int (nomark _))
        (pss_cons (ps_set (i := 5) scLaw.nd rfl (Or.inl rfl) (pe_ix ix_list (pe_lst (pa_cons pe_int (pa_cons pe_int (pa_cons (pe_op op_sub (pe_un un_neg pe_int) (pv 4)) (pa_cons (pe_op op_add pe_int (pv 4)) (pa_cons pe_bl (pa_cons pe_str (pa_cons pe_non (pa_cons (pe_lst (pa_cons pe_int pa_nil)) pa_nil))))))))) (pe_op op_mod (pv 3) pe_int) (fun _ _ => rfl)))
        (pss_one (ps_ret (pe_cmpR op_eq (C8.pe_c (c_made T L N.fMade) hr (by decide) (by rfl) (pa_cons (pv 5) (pa_cons (pe_lst pa_nil) pa_nil))) pe_str (nomark _))))) pss_nil)
      (pss_cons (ps_set (i := 6) scLaw.nd rfl (Or.inl rfl) (C8.pe_c (c_good T N.max N.fCell N.fGood) hr (by decide) (by rfl) (pa_cons (pv 0) (pa_cons (pv 1) (pa_cons (pe_op op_mod (pv 3) pe_int) pa_nil)))))
      (pss_cons (ps_if (pt_cmpR op_eq (pv 2) pe_int (nomark _))
        (pss_one (ps_ret (pe_cmpR op_eq (C8.pe_c (c_made T L N.fMade) hr (by decide) (by rfl) (pa_cons (pv 1) (pa_cons (pe_ix ix_list (pe_lst (pa_cons pe_non (pa_cons (pe_callTy call_tuple_of (by rfl) T.tuple (by decide +kernel) (pa_cons (pv 6) pa_nil)) (pa_cons pe_str (pa_cons pe_int (pa_cons pe_dnewK pa_nil)))))) (pe_op op_mod (pv 3) pe_int) (fun _ _ => rfl)) pa_nil))) pe_str (nomark _)))) pss_nil)
      (pss_cons (ps_if (pt_cmpR op_eq (pv 2) pe_int (nomark _))
        (pss_cons (ps_setLc (i := 7) (own := [("_law_k", 13)]) (g := gName 13) (tt := tYes) (te := tTup (tCons (tOp oMod (tVar 13) (tC (.int 16))) (tCons (tOp oMod (tOp oAdd (tOp oAdd (tVar 13) (tC (.int 1))) (tOp (rI CDiv fun i j => .int (i / j)) (tVar 13) (tC (.int 16)))) (tC (.int 16))) tNil)))
            (by rfl) scLaw.nd rfl rfl (sw_true rfl rfl rfl (by decide +kernel)) (pi_range1 (by rfl) T.range (pa_cons (pe_op op_add pe_int (pe_op op_mod (pv 3) pe_int)) pa_nil))
            (blkOk_by (own := [("_law_k", 13)]) (N := nLaw) (sc := defScope sLaw) (by decide +kernel)) (fun _ _ _ _ _ => pg_name (i := 13) scLaw.nd rfl (Or.inl rfl)) (fun _ _ _ _ _ => pts_nil)
            (fun _ _ _ _ _ => pe_tup (pa_cons (pe_op op_mod (pv 13) pe_int) (pa_cons (pe_op op_mod (pe_op op_add (pe_op op_add (pv 13) pe_int) (pe_op op_fdiv (pv 13) pe_int)) pe_int) pa_nil))))
        (pss_one (ps_ret (pe_cmpR op_eq (C8.pe_c (c_made T L N.fMade) hr (by decide) (by rfl) (pa_cons pe_int (pa_cons (pv 7) pa_nil))) (pe_ix ix_list (pe_lst (pa_cons pe_str (pa_cons pe_str pa_nil))) (pe_op op_mod (pv 3) pe_int) (fun _ _ => rfl)) (nomark _))))) pss_nil)
      (pss_cons (ps_if (pt_cmpR op_lt (pv 2) pe_int (nomark _))
        (pss_cons (ps_set (i := 8) scLaw.nd rfl (Or.inl rfl) (pe_op op_mod (pe_op op_fdiv (pv 3) pe_int) (pe_op op_add (pe_callB call_len_seq (by rfl) T.len PySem.boot_len (pa_cons (pv 6) pa_nil)) pe_int)))
        (pss_cons (ps_set (i := 9) scLaw.nd rfl (Or.inl rfl) (pe_op op_cat (pe_op op_cat (pe_slice sl_list (pv 6) po_none (po_some (pv 8)))
            (pe_lst (pa_cons (C8.pe_c (c_odd T N.fOdd) hr (by decide) (by rfl) (pa_cons (C8.pe_c (c_cell T N.fCell) hr (by decide) (by rfl) (pa_cons (pv 0) (pa_cons pe_int pa_nil))) (pa_cons (pv 1) (pa_cons (pe_slice sl_list (pv 6) po_none (po_some (pv 8))) pa_nil)))) pa_nil)))
            (pe_slice sl_list (pv 6) (po_some (pv 8)) po_none)))
        (pss_cons (ps_set (i := 10) scLaw.nd rfl (Or.inl rfl) (pe_callTy call_list_of (by rfl) T.list (by decide +kernel) (pa_cons (pv 9) pa_nil)))
        (pss_one (ps_ret (pe_and (pe_cmpR op_eq (C8.pe_c (c_made T L N.fMade) hr (by decide) (by rfl) (pa_cons (pv 1) (pa_cons (pv 10) pa_nil))) pe_str (nomark _)) (pe_one (pe_cmpR (op_eqD hun) (pv 10) (pv 9) (nomark _))))))))) pss_nil)
      (pss_cons (ps_if (pt_cmpR op_eq (pv 2) pe_int (nomark _)) (pss_one (ps_ret (pe_cmpR op_eq (C8.pe_c (c_made T L N.fMade) hr (by decide) (by rfl) (pa_cons (pv 1) (pa_cons (pv 6) pa_nil))) pe_str (nomark _)))) pss_nil)
      (pss_cons (ps_set (i := 11) scLaw.nd rfl (Or.inl rfl) (pe_lst (pa_cons (pv 1) (pa_cons (pe_un un_neg pe_int) (pa_cons (pe_op op_add (pv 1) (pv 4)) (pa_cons (pe_op op_sub (pe_un un_neg pe_int) (pv 4)) (pa_cons pe_bl (pa_cons pe_bl (pa_cons pe_str (pa_cons pe_non (pa_cons (pe_lst (pa_cons pe_int pa_nil)) (pa_cons (pe_tup (pa_cons pe_int pa_nil)) pa_nil))))))))))))
      (pss_cons (ps_set (i := 12) scLaw.nd rfl (Or.inl rfl) (pe_ix ix_list (pv 11) (pe_op op_mod (C8.pe_c (c_cell T N.fCell) hr (by decide) (by rfl) (pa_cons (pv 0) (pa_cons pe_int pa_nil))) pe_int) (fun _ _ => rfl)))
      (pss_one (ps_ret (pe_cmpR op_eq (C8.pe_c (c_asked T L N.fAsked N.fC N.fB N.fT) hr (by decide) (by rfl) (pa_cons (pe_mkX (E := L2.E0) (c_initX T L.eN) hr (by decide) (by rfl) passE0 (pa_cons (pv 1) (pa_cons (pv 6) pa_nil)))
          (pa_cons (pe_op op_mod (pe_op op_fdiv (C8.pe_c (c_cell T N.fCell) hr (by decide) (by rfl) (pa_cons (pv 0) (pa_cons pe_int pa_nil))) pe_int) pe_int) (pa_cons (pv 12) pa_nil)))) pe_str (nomark _))))))))))))))), ?_⟩
    refine ⟨_, rfl, a, ns, 0, rfl, hS, _, _, rfl, rfl, by show (0 : Int) < 16; decide, _, _, rfl, rfl, ?_⟩
    refine ⟨_, rfl, a, ns, 1, rfl, hS, _, _, rfl, rfl, by show (0 : Int) < 8; decide, ?_⟩
    refine ⟨_, rfl, a, ns, 2, rfl, hS, ?_⟩
    refine ⟨_, rfl, _, _, rfl, rfl, ⟨by decide, by decide⟩, _, _, rfl, rfl, ⟨by decide, by decide, by decide⟩, _, _, rfl, rfl, by show (0 : Int) < _; decide, ?_⟩
    dsimp only [gName, tSeq, tAsg]
    obtain ⟨m, em, m1, m16⟩ : ∃ m : Nat, 1 + cellAt ns 0 % 16 = (m : Int) ∧ 1 ≤ m ∧ m ≤ 16 := ⟨(1 + cellAt ns 0 % 16).toNat, by omega, by omega, by omega⟩
    rw [em]
    generalize cellAt ns 1 % 8 = wy
    generalize cellAt ns 2 = c
    generalize hf : c / 8 % (10 : Int) ^ (12 : Int).toNat = far
    have fn : 0 ≤ far := by rw [← hf]; exact far_nn c 8
    refine ⟨_, rfl, rfl, _, rfl, ?_⟩
    refine ite2 (fun _ => ?_) (fun _ => ?_)
    · -- a count that is none
      refine gv_pick (K := K) (P := BadCnt K) (n := 8) (c := c) BadCnt.same ?_ (by decide) (by decide) (fun H' Q s h => ⟨_, rfl, _, _, rfl, rfl, by show (0 : Int) < 8; decide, h⟩) (fun H1 x s1 ⟨T1, tx, nx⟩ => ?_)
      · refine gv_cons BadCnt.same (gv_pu (pu_c _) fun H _ => ⟨_, .int _, fun i e => by cases e; omega⟩) ?_
        refine gv_cons BadCnt.same (gv_pu (pu_c _) fun H _ => ⟨_, .int _, fun i e => by cases e; omega⟩) ?_
        refine gv_cons BadCnt.same (gv_pu (u := .int (-1 - far)) (fun _ _ _ h => ⟨_, rfl, _, rfl, _, _, rfl, rfl, h⟩) fun H _ => ⟨_, .int _, fun i e => by cases e; omega⟩) ?_
        refine gv_cons BadCnt.same (gv_pu (u := .int (17 + far)) (fun _ _ _ h => ⟨_, rfl, _, _, rfl, rfl, h⟩) fun H _ => ⟨_, .int _, fun i e => by cases e; omega⟩) ?_
        refine gv_cons BadCnt.same (gv_pu (pu_c _) fun H _ => ⟨_, .bl _, fun i e => by cases e⟩) ?_
        refine gv_cons BadCnt.same (gv_pu (pu_c _) fun H _ => ⟨_, .str _, fun i e => by cases e⟩) ?_
        refine gv_cons BadCnt.same (gv_pu (pu_c _) fun H _ => ⟨_, .non, fun i e => by cases e⟩) ?_
        exact gv_cons BadCnt.same (gv_seqL (pu_cons (pu_c _) pu_nil) (Nat.le_of_ble_eq_true rfl) fun H p hp => ⟨_, .lst (SqL.of hp), fun i e => by cases e⟩) gv_nil
      · refine ⟨_, rfl, Nat.zero_le _, fun q hq => ⟨x, .ref q, false, rfl, .count (TyB.same (Same.put hq) tx) nx, fun H' s' => ⟨rfl, ?_⟩⟩⟩
        rw [e_web]
        exact k H'
    · obtain ⟨n, en, n40⟩ : ∃ n : Nat, c % 41 = (n : Int) ∧ n ≤ 40 := ⟨(c % 41).toNat, by omega, by omega⟩
      refine ⟨_, rfl, _, rfl, _, rfl, _, _, rfl, rfl, by show (0 : Int) < 41; decide, a, ns, m, n, by rw [← en]; rfl, hS, m1, m16, n40, fun H1 D ws ts s1 hD d1 p1 g tl => ?_⟩
      have hS1 := s1.seq hS
      have wl := p1.length
      refine ⟨_, rfl, rfl, _, rfl, ?_⟩
      refine ite2 (fun _ => ?_) (fun _ => ?_)
      · -- no list
        refine ⟨_, rfl, ?_⟩
        dsimp only
        refine gv_pick1 (K := K) (P := NoList K) (n := 5) (c := c) NoList.same ?_ (by decide) (by decide) (fun H' Q s h => ⟨_, rfl, _, _, rfl, rfl, by show (0 : Int) < 5; decide, h⟩) (fun H2 x s2 ⟨T2, tx, nx⟩ => ?_)
        · refine gv_cons NoList.same (gv_pu (pu_c _) fun H _ => ⟨_, .non, by decide⟩) ?_
          refine gv_cons NoList.same (fun H' Q s k => ⟨_, rfl, D, ws, rfl, .inl ⟨SqL.of (s _ _ d1), fun l hl => k _ _ (Same.put hl) ⟨_, .tup (SqT.of upd_same), by decide⟩⟩⟩) ?_
          refine gv_cons NoList.same (gv_pu (pu_c _) fun H _ => ⟨_, .str _, by decide⟩) ?_
          refine gv_cons NoList.same (gv_pu (pu_c _) fun H _ => ⟨_, .int _, by decide⟩) ?_
          exact gv_cons NoList.same (gv_dict fun H p hp => ⟨_, .dK hp, by decide⟩) gv_nil
        · refine ⟨.int m, x, false, rfl, .kind m1 m16 tx nx, fun H' s' => ⟨rfl, ?_⟩⟩
          rw [e_web]
          exact k H'
      · refine ⟨_, rfl, rfl, _, rfl, ?_⟩
        refine ite2 (fun _ => ?_) (fun _ => ?_)
        · -- forty ties, or one more
          have c2 : c % 2 = 0 ∨ c % 2 = 1 := by omega
          refine ⟨_, rfl, _, _, rfl, rfl, by show (0 : Int) < 2; decide, _, _, rfl, rfl, 40 + c % 2, rfl, by omega, by omega, fun D0 hD0 => ?_⟩
          refine lc_range (lo := 0) (n := (40 + c % 2).toNat) (fun i H2 => Same H1 H2 ∧ ∃ vs, H2 D0 = some (.lst vs) ∧ PairsAt H2 vs (greatT i)) ⟨Same.put hD0, [], upd_same, .nil⟩ (fun i H2 hi ⟨s2, vs, d2, p2⟩ => ?_) (fun H2 ⟨s2, vs, d2, p2⟩ => ?_)
          · rw [Int.zero_add]
            refine ⟨rfl, ?_⟩
            refine yes_ ?_
            refine iteT ?_
            refine ⟨_, rfl, _, _, rfl, rfl, by show (0 : Int) < 16; decide, _, rfl, _, _, rfl, rfl, _, rfl, _, _, rfl, rfl, ⟨by decide, by decide⟩, _, _, rfl, rfl, _, _, rfl, rfl, by show (0 : Int) < 16; decide, by show 2 ≤ sizeLine; decide, fun t ht => ?_⟩
            have l2 := p2.length
            rw [great_len] at l2
            refine ⟨vs, (Same.put ht) _ _ d2, small (by omega), Same.write (Same.step s2 ht) hD0, vs ++ [.ref t], upd_same, ?_⟩
            rw [great_succ]
            exact PairsAt.more d2 p2 ht
          · rcases c2 with e | e
            · have e1 : (40 + c % 2).toNat = 40 := by rw [e]; rfl
              rw [e1] at p2
              have l2 := p2.length
              rw [great_len] at l2
              refine ⟨_, rfl, .int 16, .ref D0, true, rfl, .good (m := 16) (by decide) (by decide) (SqL.of d2) (by omega) p2 great_good, fun H' s' => ?_⟩
              refine ⟨by show 2 ≤ sizeLine; decide, fun p hp => ⟨_, rfl, _, _, rfl, rfl, by show (0 : Int) < 2; decide, p, _, c % 2, .str "", rfl, rfl, SqL.of upd_same, by rw [e]; rfl, rfl, ?_⟩⟩
              rw [e_no]
              exact k _
            · have e1 : (40 + c % 2).toNat = 41 := by rw [e]; rfl
              rw [e1] at p2
              have l2 := p2.length
              rw [great_len] at l2
              refine ⟨_, rfl, .int 16, .ref D0, false, rfl, .long (m := 16) (by decide) (by decide) (SqL.of d2) (by omega), fun H' s' => ?_⟩
              refine ⟨by show 2 ≤ sizeLine; decide, fun p hp => ⟨_, rfl, _, _, rfl, rfl, by show (0 : Int) < 2; decide, p, _, c % 2, .str "web value", rfl, rfl, SqL.of upd_same, by rw [e]; rfl, rfl, ?_⟩⟩
              rw [e_web]
              exact k _
        · refine ⟨_, rfl, _, _, rfl, rfl, _, rfl, ?_⟩
          refine ite2 (fun _ => ?_) (fun _ => ?_)
          · -- one thing among the ties that is none
            obtain ⟨n0, en0, na⟩ : ∃ k : Nat, c / 41 % ((ws.length : Int) + 1) = (k : Int) ∧ k ≤ ws.length := by
              have h0 := Int.emod_nonneg (c / 41) (show ((ws.length : Int) + 1) ≠ 0 by omega)
              have h1 := Int.emod_lt_of_pos (c / 41) (show (0 : Int) < (ws.length : Int) + 1 by omega)
              exact ⟨(c / 41 % ((ws.length : Int) + 1)).toNat, by omega, by omega⟩
            refine ⟨_, rfl, _, _, rfl, rfl, ⟨by decide, by decide⟩, _, rfl, D, ws, rfl, .inl (SqL.of d1), _, _, rfl, rfl, _, _, rfl, rfl, by show (0 : Int) < (ws.length : Int) + 1; omega, ?_⟩
            dsimp only [gName, tSeq, tAsg]
            rw [en0]
            refine ⟨_, rfl, _, rfl, _, rfl, D, ws, rfl, SqL.of d1, fun q1 hq1 => ?_⟩
            rw [cut_take ws n0 na]
            have s12 : Same H1 (upd H1 q1 (.lst (ws.take n0))) := Same.put hq1
            have dq1 : (upd H1 q1 (.lst (ws.take n0))) q1 = some (.lst (ws.take n0)) := upd_same
            generalize upd H1 q1 (.lst (ws.take n0)) = H2 at s12 dq1 ⊢
            refine ⟨_, rfl, a, ns, 3, rfl, s12.seq hS1, _, rfl, _, rfl, _, rfl, _, rfl, D, ws, rfl, SqL.of (s12 _ _ d1), fun q2 hq2 => ?_⟩
            rw [cut_take ws n0 na]
            have s23 : Same H2 (upd H2 q2 (.lst (ws.take n0))) := Same.put hq2
            have dq2 : (upd H2 q2 (.lst (ws.take n0))) q2 = some (.lst (ws.take n0)) := upd_same
            generalize upd H2 q2 (.lst (ws.take n0)) = H3 at s23 dq2 ⊢
            have s13 := s12.trans s23
            refine ⟨_, m, q2, ws.take n0, ts.take n0, rfl, m1, m16, dq2, paired_take (p1.same s13) n0, g.take n0, by rw [List.length_take]; omega, fun H4 x s34 ox => ?_⟩
            refine ⟨by show 1 ≤ sizeLine; decide, fun q3 hq3 => ?_⟩
            have s45 : Same H4 (upd H4 q3 (.lst [x])) := Same.put hq3
            have dq3 : (upd H4 q3 (.lst [x])) q3 = some (.lst [x]) := upd_same
            generalize upd H4 q3 (.lst [x]) = H5 at s45 dq3 ⊢
            have lt : (ws.take n0).length = n0 := by rw [List.length_take]; omega
            refine ⟨q1, q3, _, _, rfl, rfl, s45 _ _ (s34 _ _ (s23 _ _ dq1)), dq3, smalle (by show _ + 1 ≤ 1000; omega), fun q4 hq4 => ?_⟩
            have s56 : Same H5 (upd H5 q4 (.lst (ws.take n0 ++ [x]))) := Same.put hq4
            have dq4 : (upd H5 q4 (.lst (ws.take n0 ++ [x]))) q4 = some (.lst (ws.take n0 ++ [x])) := upd_same
            generalize upd H5 q4 (.lst (ws.take n0 ++ [x])) = H6 at s56 dq4 ⊢
            have s16 : Same H1 H6 := s13.trans (s34.trans (s45.trans s56))
            refine ⟨_, rfl, _, rfl, _, rfl, D, ws, rfl, SqL.of (s16 _ _ d1), fun q5 hq5 => ?_⟩
            rw [cut_drop ws n0 na]
            have s67 : Same H6 (upd H6 q5 (.lst (ws.drop n0))) := Same.put hq5
            have dq5 : (upd H6 q5 (.lst (ws.drop n0))) q5 = some (.lst (ws.drop n0)) := upd_same
            generalize upd H6 q5 (.lst (ws.drop n0)) = H7 at s67 dq5 ⊢
            have ld : (ws.drop n0).length = ws.length - n0 := List.length_drop
            refine ⟨q4, q5, _, _, rfl, rfl, s67 _ _ dq4, dq5, smalle (by rw [List.length_append, List.length_singleton]; omega), fun q6 hq6 => ?_⟩
            have s78 := Same.put (o := .lst (ws.take n0 ++ [x] ++ ws.drop n0)) hq6
            have dq6 : (upd H7 q6 (.lst (ws.take n0 ++ [x] ++ ws.drop n0))) q6 = some (.lst (ws.take n0 ++ [x] ++ ws.drop n0)) := upd_same
            generalize upd H7 q6 (.lst (ws.take n0 ++ [x] ++ ws.drop n0)) = H8 at s78 dq6 ⊢
            have s18 : Same H1 H8 := s16.trans (s67.trans s78)
            have ox8 : OddAt K m (ts.take n0) H8 x := ox.same (s45.trans (s56.trans (s67.trans s78)))
            have p8 := p1.same s18
            have lw : (ws.take n0 ++ [x] ++ ws.drop n0).length = ws.length + 1 := by
              rw [List.length_append, List.length_append, List.length_singleton]
              omega
            have tw : (ws.take n0 ++ [x] ++ ws.drop n0).take n0 = ws.take n0 := by
              rw [List.append_assoc, List.take_append_of_le_length (by omega), List.take_of_length_le (by omega)]
            have ew : (ws.take n0 ++ [x] ++ ws.drop n0)[n0]? = some x := by
              rw [List.append_assoc, List.getElem?_append_right (by omega), lt, Nat.sub_self]
              rfl
            obtain ⟨bx, dx, kx, ky, kd⟩ := ox8
            have dpx : DpAll K H8 (ws.take n0 ++ [x] ++ ws.drop n0) ((ts.take n0).map prd ++ [dx] ++ (ts.drop n0).map prd) :=
              (dp_app (dp_app (dp_all (paired_take p8 n0)) (.cons kx .nil)) (dp_all (paired_drop p8 n0)))
            have shx : SeqAt.shaped (.list ((ts.take n0).map prd ++ [dx] ++ (ts.drop n0).map prd)) = true := by
              refine shaped_by ?_ ?_
              · simp only [PyData.canLay0]
                exact lay_app (lay_app (prds_lay _) (by simp [PyData.canLayAll0, ky])) (prds_lay _)
              · have q1 := prds_depth (ts.take n0)
                have q2 := prds_depth (ts.drop n0)
                have q3 : PyData.depthAll [dx] ≤ 2 := by
                  simp only [PyData.depthAll]
                  omega
                have q4 := depth_app (n := 2) (depth_app (n := 2) (ds := (ts.take n0).map prd) (by omega) q3) (es := (ts.drop n0).map prd) (by omega)
                simp only [PyData.depth]
                omega
            generalize ws.take n0 ++ [x] ++ ws.drop n0 = zs at dq6 lw tw ew dpx ⊢
            generalize (ts.take n0).map prd ++ [dx] ++ (ts.drop n0).map prd = ds at dpx shx
            refine ⟨_, rfl, q6, zs, rfl, .inl (SqL.of dq6), fun q7 hq7 => ?_⟩
            have s89 : Same H8 (upd H8 q7 (.lst zs)) := Same.put hq7
            have dq7 : (upd H8 q7 (.lst zs)) q7 = some (.lst zs) := upd_same
            generalize upd H8 q7 (.lst zs) = H9 at s89 dq7 ⊢
            have args : WebArgs K H9 false (.int m) (.ref q7) := by
              by_cases cl : ws.length = 40
              · exact .long m1 m16 (SqL.of dq7) (by omega)
              · exact .tie (n := n0) (ts := ts.take n0) m1 m16 (SqL.of dq7) (by omega) (by rw [tw]; exact PairsAt.same s89 (paired_take p8 n0)) (g.take n0) (by rw [List.length_take]; omega) ew (bx.same s89)
            refine ⟨_, rfl, _, rfl, .int m, .ref q7, false, rfl, args, fun H' s' => ⟨rfl, _, rfl, ?_⟩⟩
            refine yep_ e_web ?_
            refine ⟨_, rfl, _, rfl, .list ds, .list ds, .lst (SqL.of (s' _ _ dq7)) (dpall_same (s89.trans s') dpx), .lst (SqL.of ((s89.trans s') _ _ dq6)) (dpall_same (s89.trans s') dpx), shx, shx, ?_⟩
            rw [SeqAt.eqv_refl _ (SeqAt.canLay_of_shaped shx)]
            exact k H'
          · refine ⟨_, rfl, rfl, _, rfl, ?_⟩
            refine ite2 (fun _ => ?_) (fun _ => ?_)
            · -- all good
              refine ⟨_, rfl, _, rfl, .int m, .ref D, true, rfl, .good m1 m16 (SqL.of d1) (by omega) p1 g, fun H' s' => ⟨rfl, ?_⟩⟩
              rw [e_no]
              exact k H'
            · -- a point that is none
              dsimp only [tNext, gName, tSeq, tAsg]
              refine gv_list (P := NoPt K m) (n := 10) NoPt.same ?_ (by decide) (Same.refl H1) (fun H2 D2 xs s2 d2 l2 o2 => ?_)
              · refine gv_cons NoPt.same (gv_pu (pu_v rfl) fun H _ => ⟨_, .int _, isPt_hi (Int.le_refl _)⟩) ?_
                refine gv_cons NoPt.same (gv_pu (u := .int (-1)) (fun _ _ _ h => ⟨_, rfl, h⟩) fun H _ => ⟨_, .int _, isPt_lo (by omega)⟩) ?_
                refine gv_cons NoPt.same (gv_pu (u := .int ((m : Int) + far)) (fun _ _ _ h => ⟨_, rfl, _, rfl, _, _, rfl, rfl, h⟩) fun H _ => ⟨_, .int _, isPt_hi (by omega)⟩) ?_
                refine gv_cons NoPt.same (gv_pu (u := .int (-1 - far)) (fun _ _ _ h => ⟨_, rfl, _, rfl, _, _, rfl, rfl, h⟩) fun H _ => ⟨_, .int _, isPt_lo (by omega)⟩) ?_
                refine gv_cons NoPt.same (gv_pu (pu_c _) fun H _ => ⟨_, .bl _, rfl⟩) ?_
                refine gv_cons NoPt.same (gv_pu (pu_c _) fun H _ => ⟨_, .bl _, rfl⟩) ?_
                refine gv_cons NoPt.same (gv_pu (pu_c _) fun H _ => ⟨_, .str _, rfl⟩) ?_
                refine gv_cons NoPt.same (gv_pu (pu_c _) fun H _ => ⟨_, .non, rfl⟩) ?_
                refine gv_cons NoPt.same (gv_seqL (pu_cons (pu_c _) pu_nil) (Nat.le_of_ble_eq_true rfl) fun H p hp => ⟨_, .lst (SqL.of hp), rfl⟩) ?_
                exact gv_cons NoPt.same (gv_seqT (pu_cons (pu_c _) pu_nil) (Nat.le_of_ble_eq_true rfl) fun H p hp => ⟨_, .tup (SqT.of hp), rfl⟩) gv_nil
              · obtain ⟨x, hx, mx⟩ := pick xs (cellAt ns 3) (by omega)
                rw [l2] at hx
                obtain ⟨T2, tx, nx⟩ := o2 x mx
                refine ⟨_, rfl, _, rfl, a, ns, 3, rfl, s2.seq hS1, _, _, rfl, rfl, by show (0 : Int) < 10; decide, D2, xs, _, x, rfl, rfl, SqL.of d2, hx, ?_⟩
                refine ⟨_, rfl, _, rfl, fun o dy no ndy nody => ?_⟩
                have d1' := s2 _ _ d1
                have p1' := p1.same s2
                refine ⟨H2, o, dy, .int m, .ref D, true, rfl, upd_same, fun b u e => by rw [upd_ne (ne_of_none e no), upd_ne (ne_of_none e ndy)]; exact e, no, .good m1 m16 (SqL.of d1') (by omega) p1' g, fun hb => Bool.noConfusion hb, fun _ H' m' a' ws' ts' e1 e2 hS' hP' g' h1 h2 keep W => ⟨rfl, ?_⟩⟩
                have em : m' = m := by
                  have := V.int.inj e1
                  omega
                subst em
                have s23 := Same.made no ndy keep
                refine ⟨_, rfl, a, ns, 3, rfl, s23.seq (s2.seq hS1), _, _, rfl, rfl, ⟨by decide, by decide⟩, _, _, rfl, rfl, by show (0 : Int) < 3; decide, _, rfl, ?_⟩
                refine ⟨H2, o, m', ts', _, x, T2, rfl, W, TyB.same s23 tx, nx, rfl, ?_⟩
                rw [e_pt]
                exact k _
end
end Fd
namespace Fd
open PySem PySem.Spec PyProof.Rows L2
theorem fn_mk {K : PySem.W.Frag} {h : Heap} {mg : Str → Option Value} (X : K.In h) (G : h.Ns mainGlobals mg) {x : Str} {st : Stmt} {ps : List Str} {f : Addr} {od an : Option Addr} {sl : Array (Option Value)} {oc kV dc pm cd ct : Value}
    (a : PySem.W.nsIn K mainGlobals x = some (some (.ref f))) (l : K.lookup f = some ⟨oc, od, .func (PySem.W.fnOf x x (defArgs st) (defBody st) (defScope st) .none kV dc pm an cd ct), sl⟩) (c : PySem.W.codeIn K cd x = true) (k : PySem.W.keepIn K (.ref f) = true)
    (hb : ∀ (kV doc pm : Value) (an : Option Addr) (cdv ct : Value) (us : List Value), us.length = ps.length → bindArgs (PySem.W.fnOf x x (defArgs st) (defBody st) (defScope st) .none kV doc pm an cdv ct) ⟨us, []⟩ = pure (ps.zip us)) : Fn K mg x st ps :=
  ⟨f, _, fun_mk l c k, PySem.W.mg_of X G a, (fun_mk l c k).binds hb⟩
theorem fnM_mk {K : PySem.W.Frag} {C : Addr} {m qual : Str} {st : Stmt} {ps : List Str} {f : Addr} {od an : Option Addr} {sl : Array (Option Value)} {oc kV dc pm cd ct : Value}
    (a : PySem.W.findIn K (.ref C) m = some (some (.ref f))) (i : PySem.W.isFn K (.ref f) = true) (l : K.lookup f = some ⟨oc, od, .func (PySem.W.fnOf m qual (defArgs st) (defBody st) (defScope st) .none kV dc pm an cd ct), sl⟩) (c : PySem.W.codeIn K cd qual = true) (k : PySem.W.keepIn K (.ref f) = true)
    (hb : ∀ (kV doc pm : Value) (an : Option Addr) (cdv ct : Value) (us : List Value), us.length = ps.length → bindArgs (PySem.W.fnOf m qual (defArgs st) (defBody st) (defScope st) .none kV doc pm an cdv ct) ⟨us, []⟩ = pure (ps.zip us)) : FnM K C m qual st ps :=
  ⟨f, _, fun_mk l c k, ⟨a, i, k⟩, (fun_mk l c k).binds hb⟩
theorem fnI_mk {K : PySem.W.Frag} {C : Addr} {qual : Str} {st : Stmt} {ps : List Str} {f : Addr} {od an : Option Addr} {sl : Array (Option Value)} {oc kV dc pm cd ct : Value} (mk : PySem.W.makesIn K C = true)
    (a : PySem.W.findIn K (.ref C) "__init__" = some (some (.ref f))) (i : PySem.W.isFn K (.ref f) = true) (kc : PySem.W.keepIn K (.ref C) = true) (l : K.lookup f = some ⟨oc, od, .func (PySem.W.fnOf "__init__" qual (defArgs st) (defBody st) (defScope st) .none kV dc pm an cd ct), sl⟩) (c : PySem.W.codeIn K cd qual = true) (k : PySem.W.keepIn K (.ref f) = true)
    (hb : ∀ (kV doc pm : Value) (an : Option Addr) (cdv ct : Value) (us : List Value), us.length = ps.length → bindArgs (PySem.W.fnOf "__init__" qual (defArgs st) (defBody st) (defScope st) .none kV doc pm an cdv ct) ⟨us, []⟩ = pure (ps.zip us)) : FnI K C qual st ps :=
  ⟨f, _, fun_mk l c k, ⟨mk, a, i, kc⟩, (fun_mk l c k).binds hb⟩
end Fd
namespace Fd
open PySem PySem.Spec PyProof.Rows L2
/-! ### What the top has left, and the end -/
theorem all_mk {l : PySem.W.OpenLaw} {w : World} {K : PySem.W.Frag} {h : Heap} {mg : Str → Option Value} {fa C : Addr} {tmP : Tok} {tmT : Tok} {CN CP CF CT : Addr} {f1 : Addr} {od1 an1 : Option Addr} {sl1 : Array (Option Value)} {oc1 kV1 dc1 pm1 cd1 ct1 : Value} {f2 : Addr} {od2 an2 : Option Addr} {sl2 : Array (Option Value)} {oc2 kV2 dc2 pm2 cd2 ct2 : Value} {f3 : Addr} {od3 an3 : Option Addr} {sl3 : Array (Option Value)} {oc3 kV3 dc3 pm3 cd3 ct3 : Value} {f4 : Addr} {od4 an4 : Option Addr} {sl4 : Array (Option Value)} {oc4 kV4 dc4 pm4 cd4 ct4 : Value} {f5 : Addr} {od5 an5 : Option Addr} {sl5 : Array (Option Value)} {oc5 kV5 dc5 pm5 cd5 ct5 : Value} {f6 : Addr} {od6 an6 : Option Addr} {sl6 : Array (Option Value)} {oc6 kV6 dc6 pm6 cd6 ct6 : Value} {f7 : Addr} {od7 an7 : Option Addr} {sl7 : Array (Option Value)} {oc7 kV7 dc7 pm7 cd7 ct7 : Value} {f8 : Addr} {od8 an8 : Option Addr} {sl8 : Array (Option Value)} {oc8 kV8 dc8 pm8 cd8 ct8 : Value} {f9 : Addr} {od9 an9 : Option Addr} {sl9 : Array (Option Value)} {oc9 kV9 dc9 pm9 cd9 ct9 : Value} {f10 : Addr} {od10 an10 : Option Addr} {sl10 : Array (Option Value)} {oc10 kV10 dc10 pm10 cd10 ct10 : Value} {f11 : Addr} {od11 an11 : Option Addr} {sl11 : Array (Option Value)} {oc11 kV11 dc11 pm11 cd11 ct11 : Value} {f12 : Addr} {od12 an12 : Option Addr} {sl12 : Array (Option Value)} {oc12 kV12 dc12 pm12 cd12 ct12 : Value} {f13 : Addr} {od13 an13 : Option Addr} {sl13 : Array (Option Value)} {oc13 kV13 dc13 pm13 cd13 ct13 : Value} {f14 : Addr} {od14 an14 : Option Addr} {sl14 : Array (Option Value)} {oc14 kV14 dc14 pm14 cd14 ct14 : Value} {fL : Addr} {odL anL : Option Addr} {slL : Array (Option Value)} {ocL kVL dcL pmL cdL ctL : Value}
    (X : K.In h) (G : h.Ns mainGlobals mg) (hfa : mg "law" = some (.ref fa))
    (aC : PySem.W.nsIn K mainGlobals "Web" = some (some (.ref C)))
    (pg : PySem.W.plainGet K C Str.empty = true)
    (hd : PySem.W.hasDictIn K C = true)
    (po : PySem.W.plainOver K C = true)
    (sa : PySem.W.findIn K (.ref C) "__setattr__" = some (some (.builtin "object.__setattr__")))
    (mk : PySem.W.makesIn K C = true)
    (kc : PySem.W.keepIn K (.ref C) = true)
    (nM : PySem.W.findIn K (.ref C) "many" = some none)
    (nR : PySem.W.findIn K (.ref C) "_rows" = some none)
    (mP : PySem.W.nsIn K mainGlobals "MOST_POINTS" = some (some (.int 16 tmP)))
    (mT : PySem.W.nsIn K mainGlobals "MOST_TIES" = some (some (.int 40 tmT)))
    (z_len : PySem.W.nsIn K mainGlobals "len" = some none)
    (z_type : PySem.W.nsIn K mainGlobals "type" = some none)
    (z_int : PySem.W.nsIn K mainGlobals "int" = some none)
    (z_list : PySem.W.nsIn K mainGlobals "list" = some none)
    (z_tuple : PySem.W.nsIn K mainGlobals "tuple" = some none)
    (z_range : PySem.W.nsIn K mainGlobals "range" = some none)
    (z_sorted : PySem.W.nsIn K mainGlobals "sorted" = some none)
    (z_max : PySem.W.nsIn K mainGlobals "max" = some none)
    (z_isi : PySem.W.nsIn K mainGlobals "isinstance" = some none)
    (z_vE : PySem.W.nsIn K mainGlobals "ValueError" = some none)
    (aN : PySem.W.nsIn K mainGlobals "NoWeb" = some (some (.ref CN)))
    (aP : PySem.W.nsIn K mainGlobals "NoPoint" = some (some (.ref CP)))
    (aF : PySem.W.nsIn K mainGlobals "FlatError" = some (some (.ref CF)))
    (aT : PySem.W.nsIn K mainGlobals "NoTurns" = some (some (.ref CT)))
    (xN : PySem.W.excIn K CN [.type "ValueError", .type "Exception", .type "BaseException", .type "object"] "ValueError.__new__" = true)
    (kpN : PySem.W.keepIn K (.ref CN) = true)
    (sbN : PySem.W.subIn K (.ref CN) (.type "BaseException") = some true)
    (tyN : PySem.W.typeIn K (.ref CN) = some (.type "type"))
    (hgN : PySem.W.findIn K (.ref CN) "__getattribute__" = some (some (.builtin "BaseException.__getattribute__")))
    (hkN : PySem.W.findIn K (.ref CN) "__getattr__" = some none)
    (hdN : PySem.W.hasDictIn K CN = true)
    (haN : PySem.W.findIn K (.ref CN) "__class__" = some (some (.builtin "object.__class__")))
    (hmN : PySem.W.mroIn K CN (.type "object") = some true)
    (sFN : PySem.W.subIn K (.ref CN) (.ref CF) = some true)
    (xP : PySem.W.excIn K CP [.type "ValueError", .type "Exception", .type "BaseException", .type "object"] "ValueError.__new__" = true)
    (kpP : PySem.W.keepIn K (.ref CP) = true)
    (sbP : PySem.W.subIn K (.ref CP) (.type "BaseException") = some true)
    (tyP : PySem.W.typeIn K (.ref CP) = some (.type "type"))
    (hgP : PySem.W.findIn K (.ref CP) "__getattribute__" = some (some (.builtin "BaseException.__getattribute__")))
    (hkP : PySem.W.findIn K (.ref CP) "__getattr__" = some none)
    (hdP : PySem.W.hasDictIn K CP = true)
    (haP : PySem.W.findIn K (.ref CP) "__class__" = some (some (.builtin "object.__class__")))
    (hmP : PySem.W.mroIn K CP (.type "object") = some true)
    (sFP : PySem.W.subIn K (.ref CP) (.ref CF) = some true)
    (hn : PySem.W.specialIn K (.builtin "object.__class__") "__get__" = some (some (.builtin "getset_descriptor.__get__")))
    (ht : PySem.W.takesIn K (.builtin "object.__class__") = some true)
    (sbF : PySem.W.subIn K (.ref CF) (.type "BaseException") = some true)
    (hdF : PySem.W.hasDictIn K CF = true)
    (tyF : PySem.W.typeIn K (.ref CF) = some (.type "type"))
    (qnn : PySem.W.kitOne K (.ref CN) (.ref CN) = some true)
    (qnp : PySem.W.kitOne K (.ref CN) (.ref CP) = some false)
    (qnt : PySem.W.kitOne K (.ref CN) (.ref CT) = some false)
    (qnv : PySem.W.kitOne K (.ref CN) (.type "ValueError") = some true)
    (qpn : PySem.W.kitOne K (.ref CP) (.ref CN) = some false)
    (qpp : PySem.W.kitOne K (.ref CP) (.ref CP) = some true)
    (qpt : PySem.W.kitOne K (.ref CP) (.ref CT) = some false)
    (qpv : PySem.W.kitOne K (.ref CP) (.type "ValueError") = some true)
    (a1 : PySem.W.nsIn K mainGlobals "is_number" = some (some (.ref f1)))
    (l1 : K.lookup f1 = some ⟨oc1, od1, .func (PySem.W.fnOf "is_number" "is_number" (defArgs sIsNumber) (defBody sIsNumber) (defScope sIsNumber) .none kV1 dc1 pm1 an1 cd1 ct1), sl1⟩)
    (c1 : PySem.W.codeIn K cd1 "is_number" = true)
    (k1 : PySem.W.keepIn K (.ref f1) = true)
    (a2 : PySem.W.nsIn K mainGlobals "is_point" = some (some (.ref f2)))
    (l2 : K.lookup f2 = some ⟨oc2, od2, .func (PySem.W.fnOf "is_point" "is_point" (defArgs sIsPoint) (defBody sIsPoint) (defScope sIsPoint) .none kV2 dc2 pm2 an2 cd2 ct2), sl2⟩)
    (c2 : PySem.W.codeIn K cd2 "is_point" = true)
    (k2 : PySem.W.keepIn K (.ref f2) = true)
    (a3 : PySem.W.nsIn K mainGlobals "_is_tie" = some (some (.ref f3)))
    (l3 : K.lookup f3 = some ⟨oc3, od3, .func (PySem.W.fnOf "_is_tie" "_is_tie" (defArgs sIsTie) (defBody sIsTie) (defScope sIsTie) .none kV3 dc3 pm3 an3 cd3 ct3), sl3⟩)
    (c3 : PySem.W.codeIn K cd3 "_is_tie" = true)
    (k3 : PySem.W.keepIn K (.ref f3) = true)
    (a4 : PySem.W.nsIn K mainGlobals "_joined" = some (some (.ref f4)))
    (l4 : K.lookup f4 = some ⟨oc4, od4, .func (PySem.W.fnOf "_joined" "_joined" (defArgs sJoined) (defBody sJoined) (defScope sJoined) .none kV4 dc4 pm4 an4 cd4 ct4), sl4⟩)
    (c4 : PySem.W.codeIn K cd4 "_joined" = true)
    (k4 : PySem.W.keepIn K (.ref f4) = true)
    (a5 : PySem.W.nsIn K mainGlobals "_law_cell_at" = some (some (.ref f5)))
    (l5 : K.lookup f5 = some ⟨oc5, od5, .func (PySem.W.fnOf "_law_cell_at" "_law_cell_at" (defArgs sLawCellAt) (defBody sLawCellAt) (defScope sLawCellAt) .none kV5 dc5 pm5 an5 cd5 ct5), sl5⟩)
    (c5 : PySem.W.codeIn K cd5 "_law_cell_at" = true)
    (k5 : PySem.W.keepIn K (.ref f5) = true)
    (a6 : PySem.W.nsIn K mainGlobals "_law_word" = some (some (.ref f6)))
    (l6 : K.lookup f6 = some ⟨oc6, od6, .func (PySem.W.fnOf "_law_word" "_law_word" (defArgs sLawWord) (defBody sLawWord) (defScope sLawWord) .none kV6 dc6 pm6 an6 cd6 ct6), sl6⟩)
    (c6 : PySem.W.codeIn K cd6 "_law_word" = true)
    (k6 : PySem.W.keepIn K (.ref f6) = true)
    (a7 : PySem.W.nsIn K mainGlobals "_law_made" = some (some (.ref f7)))
    (l7 : K.lookup f7 = some ⟨oc7, od7, .func (PySem.W.fnOf "_law_made" "_law_made" (defArgs sLawMade) (defBody sLawMade) (defScope sLawMade) .none kV7 dc7 pm7 an7 cd7 ct7), sl7⟩)
    (c7 : PySem.W.codeIn K cd7 "_law_made" = true)
    (k7 : PySem.W.keepIn K (.ref f7) = true)
    (a8 : PySem.W.nsIn K mainGlobals "_law_asked" = some (some (.ref f8)))
    (l8 : K.lookup f8 = some ⟨oc8, od8, .func (PySem.W.fnOf "_law_asked" "_law_asked" (defArgs sLawAsked) (defBody sLawAsked) (defScope sLawAsked) .none kV8 dc8 pm8 an8 cd8 ct8), sl8⟩)
    (c8 : PySem.W.codeIn K cd8 "_law_asked" = true)
    (k8 : PySem.W.keepIn K (.ref f8) = true)
    (a9 : PySem.W.nsIn K mainGlobals "_law_good" = some (some (.ref f9)))
    (l9 : K.lookup f9 = some ⟨oc9, od9, .func (PySem.W.fnOf "_law_good" "_law_good" (defArgs sLawGood) (defBody sLawGood) (defScope sLawGood) .none kV9 dc9 pm9 an9 cd9 ct9), sl9⟩)
    (c9 : PySem.W.codeIn K cd9 "_law_good" = true)
    (k9 : PySem.W.keepIn K (.ref f9) = true)
    (a10 : PySem.W.nsIn K mainGlobals "_law_odd" = some (some (.ref f10)))
    (l10 : K.lookup f10 = some ⟨oc10, od10, .func (PySem.W.fnOf "_law_odd" "_law_odd" (defArgs sLawOdd) (defBody sLawOdd) (defScope sLawOdd) .none kV10 dc10 pm10 an10 cd10 ct10), sl10⟩)
    (c10 : PySem.W.codeIn K cd10 "_law_odd" = true)
    (k10 : PySem.W.keepIn K (.ref f10) = true)
    (a11 : PySem.W.findIn K (.ref C) "__init__" = some (some (.ref f11)))
    (i11 : PySem.W.isFn K (.ref f11) = true)
    (l11 : K.lookup f11 = some ⟨oc11, od11, .func (PySem.W.fnOf "__init__" "Web.__init__" (defArgs sWebInit) (defBody sWebInit) (defScope sWebInit) .none kV11 dc11 pm11 an11 cd11 ct11), sl11⟩)
    (c11 : PySem.W.codeIn K cd11 "Web.__init__" = true)
    (k11 : PySem.W.keepIn K (.ref f11) = true)
    (a12 : PySem.W.findIn K (.ref C) "_check_point" = some (some (.ref f12)))
    (i12 : PySem.W.isFn K (.ref f12) = true)
    (l12 : K.lookup f12 = some ⟨oc12, od12, .func (PySem.W.fnOf "_check_point" "Web._check_point" (defArgs sWebCheckPoint) (defBody sWebCheckPoint) (defScope sWebCheckPoint) .none kV12 dc12 pm12 an12 cd12 ct12), sl12⟩)
    (c12 : PySem.W.codeIn K cd12 "Web._check_point" = true)
    (k12 : PySem.W.keepIn K (.ref f12) = true)
    (a13 : PySem.W.findIn K (.ref C) "beside" = some (some (.ref f13)))
    (i13 : PySem.W.isFn K (.ref f13) = true)
    (l13 : K.lookup f13 = some ⟨oc13, od13, .func (PySem.W.fnOf "beside" "Web.beside" (defArgs sWebBeside) (defBody sWebBeside) (defScope sWebBeside) .none kV13 dc13 pm13 an13 cd13 ct13), sl13⟩)
    (c13 : PySem.W.codeIn K cd13 "Web.beside" = true)
    (k13 : PySem.W.keepIn K (.ref f13) = true)
    (a14 : PySem.W.findIn K (.ref C) "tied" = some (some (.ref f14)))
    (i14 : PySem.W.isFn K (.ref f14) = true)
    (l14 : K.lookup f14 = some ⟨oc14, od14, .func (PySem.W.fnOf "tied" "Web.tied" (defArgs sWebTied) (defBody sWebTied) (defScope sWebTied) .none kV14 dc14 pm14 an14 cd14 ct14), sl14⟩)
    (c14 : PySem.W.codeIn K cd14 "Web.tied" = true)
    (k14 : PySem.W.keepIn K (.ref f14) = true)
    (aL : PySem.W.nsIn K mainGlobals "law" = some (some (.ref fL)))
    (lL : K.lookup fL = some ⟨ocL, odL, .func (PySem.W.fnOf "law" "law" (defArgs sLaw) (defBody sLaw) (defScope sLaw) .none kVL dcL pmL anL cdL ctL), slL⟩)
    (cL : PySem.W.codeIn K cdL "law" = true)
    (kL : PySem.W.keepIn K (.ref fL) = true)
    : ∃ fd : FuncData, (∀ (s : Shared) (v : Value), BindsTo s fd ⟨[v], []⟩ [("_law_script", v)]) ∧ ∀ base : Heap, K.In base → base.Ns mainGlobals mg → FnOk l.prog w K mg base L2.CX0 8 fa fd ["_law_script"] (spLaw K) := by
  have e := hfa.symm.trans (PySem.W.mg_of X G aL)
  cases e
  have T : WTxt K mg C := { cl := ⟨pg, hd, po, sa⟩, nMany := nM, nRows := nR, gWeb := PySem.W.mg_of X G aC, mostP := ⟨_, PySem.W.mg_of X G mP⟩, mostT := ⟨_, PySem.W.mg_of X G mT⟩, len := PySem.W.mg_none_of X G z_len, type := PySem.W.mg_none_of X G z_type, int := PySem.W.mg_none_of X G z_int, list := PySem.W.mg_none_of X G z_list, tuple := PySem.W.mg_none_of X G z_tuple, range := PySem.W.mg_none_of X G z_range, sorted := PySem.W.mg_none_of X G z_sorted, fNum := (fn_mk (ps := ["thing"]) X G a1 l1 c1 k1 fun _ _ _ _ _ _ us hl => match us, hl with | [_], _ => rfl), fPoint := (fn_mk (ps := ["many", "thing"]) X G a2 l2 c2 k2 fun _ _ _ _ _ _ us hl => match us, hl with | [_, _], _ => rfl), fTie := (fn_mk (ps := ["many", "thing"]) X G a3 l3 c3 k3 fun _ _ _ _ _ _ us hl => match us, hl with | [_, _], _ => rfl), fJoined := (fn_mk (ps := ["many", "ties"]) X G a4 l4 c4 k4 fun _ _ _ _ _ _ us hl => match us, hl with | [_, _], _ => rfl), fInit := (fnI_mk (ps := ["self", "many", "ties"]) mk a11 i11 kc l11 c11 k11 fun _ _ _ _ _ _ us hl => match us, hl with | [_, _, _], _ => rfl) }
  have L : K2Txt K mg CN CP CF CT := { eN := ⟨PySem.W.mg_of X G aN, xN, kpN, sbN, tyN⟩, eP := ⟨PySem.W.mg_of X G aP, xP, kpP, sbP, tyP⟩, gF := PySem.W.mg_of X G aF, gT := PySem.W.mg_of X G aT, xN := PySem.W.exm_ref sbF hdF tyF sFN, xP := PySem.W.exm_ref sbF hdF tyF sFP, cN := ⟨hgN, hkN, sbN, hdN, haN, hn, ht, hmN⟩, cP := ⟨hgP, hkP, sbP, hdP, haP, hn, ht, hmP⟩, nn := qnn, np := qnp, nt := qnt, nv := qnv, pn := qpn, pp := qpp, pt := qpt, pv := qpv, isi := PySem.W.mg_none_of X G z_isi, vE := PySem.W.mg_none_of X G z_vE, fWord := (fn_mk (ps := ["_law_e"]) X G a6 l6 c6 k6 fun _ _ _ _ _ _ us hl => match us, hl with | [_], _ => rfl) }
  have N : L2Txt K mg C := { max := PySem.W.mg_none_of X G z_max, fCell := (fn_mk (ps := ["_law_script", "_law_k"]) X G a5 l5 c5 k5 fun _ _ _ _ _ _ us hl => match us, hl with | [_, _], _ => rfl), fMade := (fn_mk (ps := ["_law_many", "_law_ties"]) X G a7 l7 c7 k7 fun _ _ _ _ _ _ us hl => match us, hl with | [_, _], _ => rfl), fAsked := (fn_mk (ps := ["_law_web", "_law_way", "_law_thing"]) X G a8 l8 c8 k8 fun _ _ _ _ _ _ us hl => match us, hl with | [_, _, _], _ => rfl), fGood := (fn_mk (ps := ["_law_script", "_law_many", "_law_most"]) X G a9 l9 c9 k9 fun _ _ _ _ _ _ us hl => match us, hl with | [_, _, _], _ => rfl), fOdd := (fn_mk (ps := ["_law_cell", "_law_many", "_law_ties"]) X G a10 l10 c10 k10 fun _ _ _ _ _ _ us hl => match us, hl with | [_, _, _], _ => rfl), fC := (fnM_mk (ps := ["self", "thing"]) a12 i12 l12 c12 k12 fun _ _ _ _ _ _ us hl => match us, hl with | [_, _], _ => rfl), fB := (fnM_mk (ps := ["self", "point"]) a13 i13 l13 c13 k13 fun _ _ _ _ _ _ us hl => match us, hl with | [_, _], _ => rfl), fT := (fnM_mk (ps := ["self", "one", "other"]) a14 i14 l14 c14 k14 fun _ _ _ _ _ _ us hl => match us, hl with | [_, _, _], _ => rfl) }
  exact ⟨_, fun s v => .of_eq rfl, fun base _ _ => ok_law (fun_mk (st := sLaw) lL cL kL) T L N⟩
theorem walk_law {l : PySem.W.OpenLaw} {q : Program} {loose : List Str} {XP : (Str → Option Value) → Heap → Prop} {YP : World → Heap → Prop} {d : DefRec} {K : Params → PySem.W.Frag} (hn : l.most = some 63) (hdf : d.params.defaults = [])
    (hY : ∀ (w : World) (h : Heap), YP w h → (K w.params).In h)
    (F : ∀ (w : World) (mg : Str → Option Value) (fa : Addr) (h : Heap), (K w.params).In h → h.Ns mainGlobals mg → mg d.name = some (.ref fa) →
      ∃ fd : FuncData, (∀ (s : Shared) (u : Value), BindsTo s fd ⟨[u], []⟩ [("_law_script", u)]) ∧ ∀ base : Heap, (K w.params).In base → base.Ns mainGlobals mg → FnOk l.prog w (K w.params) mg base L2.CX0 8 fa fd ["_law_script"] (spLaw (K w.params))) :
    PySem.W.WalkO q loose XP YP l.row.toRowW d [] (fun f vs => PySem.call f vs) :=
  L2.walk_of (n := 63) (k := 8) (x := "_law_script") (CX := fun _ => L2.CX0) (sp := fun w => spLaw (K w.params)) hn (by decide) hdf ⟨rfl, by decide, by decide⟩ hY F (fun _ _ a ns hl _ hS => ⟨a, ns, rfl, hS, fun _ => rfl⟩) fun _ _ _ _ _ z => z
end Fd
open PySem PySem.W PyProof.Rows
set_option maxRecDepth 100000 in
set_option maxHeartbeats 0 in
theorem PySem.Challenge.cw_flatdraw_k02_webs_refused_holds : PySem.Challenge.rw_flatdraw_k02_webs_refused.Holds := by
  w_on; o_law; k_head; (case hw => w_witness2)
  k_fill
  refine Fd.walk_law (l := PySem.Challenge.rw_flatdraw_k02_webs_refused) rfl rfl (fun w h Y => PySem.W.kIn_of Y) ?F
  case F =>
    intro w mg fa h KX G hmg
    refine' Fd.all_mk KX G hmg ?aC ?pg ?hd ?po ?sa ?mk ?kc ?nM ?nR ?mP ?mT ?z_len ?z_type ?z_int ?z_list ?z_tuple ?z_range ?z_sorted ?z_max ?z_isi ?z_vE ?aN ?aP ?aF ?aT ?xN ?kpN ?sbN ?tyN ?hgN ?hkN ?hdN ?haN ?hmN ?sFN ?xP ?kpP ?sbP ?tyP ?hgP ?hkP ?hdP ?haP ?hmP ?sFP ?hn ?ht ?sbF ?hdF ?tyF ?qnn ?qnp ?qnt ?qnv ?qpn ?qpp ?qpt ?qpv ?a1 ?l1 ?c1 ?k1 ?a2 ?l2 ?c2 ?k2 ?a3 ?l3 ?c3 ?k3 ?a4 ?l4 ?c4 ?k4 ?a5 ?l5 ?c5 ?k5 ?a6 ?l6 ?c6 ?k6 ?a7 ?l7 ?c7 ?k7 ?a8 ?l8 ?c8 ?k8 ?a9 ?l9 ?c9 ?k9 ?a10 ?l10 ?c10 ?k10 ?a11 ?i11 ?l11 ?c11 ?k11 ?a12 ?i12 ?l12 ?c12 ?k12 ?a13 ?i13 ?l13 ?c13 ?k13 ?a14 ?i14 ?l14 ?c14 ?k14 ?aL ?lL ?cL ?kL
    (case aC => k_is)
    (case pg => k_is)
    (case hd => k_is)
    (case po => k_is)
    (case sa => k_is)
    (case mk => k_is)
    (case kc => k_is)
    (case nM => k_is)
    (case nR => k_is)
    (case mP => k_is)
    (case mT => k_is)
    (case z_len => k_is)
    (case z_type => k_is)
    (case z_int => k_is)
    (case z_list => k_is)
    (case z_tuple => k_is)
    (case z_range => k_is)
    (case z_sorted => k_is)
    (case z_max => k_is)
    (case z_isi => k_is)
    (case z_vE => k_is)
    (case aN => k_is)
    (case aP => k_is)
    (case aF => k_is)
    (case aT => k_is)
    (case xN => k_exc)
    (case kpN => k_is)
    (case sbN => k_is)
    (case tyN => k_is)
    (case hgN => k_is)
    (case hkN => k_is)
    (case hdN => k_is)
    (case haN => k_is)
    (case hmN => k_is)
    (case sFN => k_is)
    (case xP => k_exc)
    (case kpP => k_is)
    (case sbP => k_is)
    (case tyP => k_is)
    (case hgP => k_is)
    (case hkP => k_is)
    (case hdP => k_is)
    (case haP => k_is)
    (case hmP => k_is)
    (case sFP => k_is)
    (case hn => k_is)
    (case ht => k_is)
    (case sbF => k_is)
    (case hdF => k_is)
    (case tyF => k_is)
    (case qnn => kit_is)
    (case qnp => kit_is)
    (case qnt => kit_is)
    (case qnv => kit_is)
    (case qpn => kit_is)
    (case qpp => kit_is)
    (case qpt => kit_is)
    (case qpv => kit_is)
    (case a1 => k_is)
    (case l1 => k_is)
    (case c1 => k_is)
    (case k1 => k_is)
    (case a2 => k_is)
    (case l2 => k_is)
    (case c2 => k_is)
    (case k2 => k_is)
    (case a3 => k_is)
    (case l3 => k_is)
    (case c3 => k_is)
    (case k3 => k_is)
    (case a4 => k_is)
    (case l4 => k_is)
    (case c4 => k_is)
    (case k4 => k_is)
    (case a5 => k_is)
    (case l5 => k_is)
    (case c5 => k_is)
    (case k5 => k_is)
    (case a6 => k_is)
    (case l6 => k_is)
    (case c6 => k_is)
    (case k6 => k_is)
    (case a7 => k_is)
    (case l7 => k_is)
    (case c7 => k_is)
    (case k7 => k_is)
    (case a8 => k_is)
    (case l8 => k_is)
    (case c8 => k_is)
    (case k8 => k_is)
    (case a9 => k_is)
    (case l9 => k_is)
    (case c9 => k_is)
    (case k9 => k_is)
    (case a10 => k_is)
    (case l10 => k_is)
    (case c10 => k_is)
    (case k10 => k_is)
    (case a11 => k_is)
    (case i11 => k_is)
    (case l11 => k_is)
    (case c11 => k_is)
    (case k11 => k_is)
    (case a12 => k_is)
    (case i12 => k_is)
    (case l12 => k_is)
    (case c12 => k_is)
    (case k12 => k_is)
    (case a13 => k_is)
    (case i13 => k_is)
    (case l13 => k_is)
    (case c13 => k_is)
    (case k13 => k_is)
    (case a14 => k_is)
    (case i14 => k_is)
    (case l14 => k_is)
    (case c14 => k_is)
    (case k14 => k_is)
    (case aL => k_is)
    (case lL => k_is)
    (case cL => k_is)
    (case kL => k_is)
