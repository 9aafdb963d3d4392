import PyProof.Rows.All
import Wide.All
import OpenK.AllK
import Wide.FinOn
import HandS.ForMost
import HandS.Deep
import HandS.IsInst
import HandS.More
import HandS.SortRule
import HandS.SortInts
import KE.DataMinMax
import PyProof.TypeEq
import HandS.Codes
import HandS.Defaults
import HandS.Conv
import HandS.Exc
import HandS.ExcOwn
import HandS.WordsExc
import HandS.HotCalls
import HandS.ExcIs
import HandS.TupSets
import HandS.DictComp
import HandS.TupLe
import HandS.Zip
import KE.KDictZip
import KE.DatumOrd
import KE.DataFind
import PyProof.Claim2Refuses
import HandS.Rev
import HandS.ListItems
import HandS.Walk
import KE.KLam
import KE.KMinKey
import HandS.Lambda
import HandS.EndTab
import HandS.SetFor
import HandS.Strs
import HandS.SetBool
import HandS.Style
import HandS.DictTup
import HandS.Steps
import HandS.ExcValue
import PySem.Challenge.RW_flatdraw_k07_flat
set_option Elab.async false
set_option linter.all false
set_option maxRecDepth 100000
namespace Fd
open PySem L2
/-! ### == and != of two built-in types -/
theorem slot_ty_ne : Slot "type" (cmpInfo .NotEq).2.1 "object.__ne__" :=
  Slot.of (n := "__ne__") (owner := "object") (by rw [typeLookup_type, builtinLookup_eq_fast]; kernel_rfl) (by decide +kernel) (by decide +kernel) (by decide +kernel) (by first | exact .inl (by decide +kernel) | exact .inr (by decide +kernel)) (by rw [isSubtype_type]; kernel_rfl)
theorem slot_ty_ne' : Slot "type" (cmpInfo .NotEq).2.2 "object.__ne__" := slot_ty_ne
section
variable {prog : Program} {w : World} {A : Around} {E : Value → Shared → Prop} {s : Shared}
theorem call_ne_ty {X Y : String} {Q : Value → Shared → Prop} (hX : ∀ s' : Shared, s'.TypeIs (.type X) "type")
    (h : Q (if (Value.type X == Value.type Y) = true then .bool false else .notImplemented) s) : wpAny (model prog w) A (call (.builtin "object.__ne__") [.type X, .type Y]) Q E s := by
  refine wpAny_call (codeAny_call_builtin slot_ty_ne.plain F.entry_object_ne (slot_ty_ne.check _ _ _ _ _ _ _ _ (hX s) (F.args_object_ne_2 _ _) ?_))
  unfold Builtin.«object.__ne__»
  have e1 : slotArgs "__ne__" 1 ⟨[Value.type X, Value.type Y], []⟩ = pure (Value.type X, [Value.type Y]) := by
    simp [slotArgs]
  rw [e1]
  simp only [pure_bind]
  refine wpAny_bind (wpAny_cRoomFor_or (.inl rfl) ?_)
  refine wpAny_bind (wpAny_callSpecialIfBound?_slot (name := (cmpInfo .Eq).2.1) (hX s) TypeEq.slot_type_eq ?_)
  by_cases hk : (Value.type X == Value.type Y) = true
  · rw [if_pos hk] at h
    refine call_gives TypeEq.slot_type_eq (hX s) F.entry_object_eq (F.args_object_eq_2 _ _) (TypeEq.object_eq_same rfl hk) ?_
    exact wpAny_bind (wpAny_truthy_bool (wpAny_pure h))
  · rw [if_neg hk] at h
    refine call_gives TypeEq.slot_type_eq (hX s) F.entry_object_eq (F.args_object_eq_2 _ _) (TypeEq.object_eq_other rfl (Bool.eq_false_iff.mpr hk)) ?_
    exact wpAny_pure h
theorem ne_ty {X Y : String} {Q : Value → Shared → Prop} (hX : ∀ s' : Shared, s'.TypeIs (.type X) "type") (hY : ∀ s' : Shared, s'.TypeIs (.type Y) "type")
    (h : Q (.bool (!decide (X = Y))) s) : wpAny (model prog w) A (compareOp .NotEq (.type X) (.type Y)) Q E s := by
  show wpAny (model prog w) A (richCompare CmpOp.NotEq (.type X) (.type Y)) Q E s
  by_cases e : X = Y
  · subst e
    refine wpAny_richCompare_same (T := "type") (hX s) (hX s) slot_ty_ne (call_ne_ty hX ?_)
    rw [if_pos (by simp)]
    rw [decide_eq_true rfl] at h
    exact ⟨(by intro z; cases z), h⟩
  · have k1 : (Value.type X == Value.type Y) = false := by simp [e]
    have k2 : (Value.type Y == Value.type X) = false := by simpa using fun z : Y = X => e z.symm
    rw [decide_eq_false e] at h
    rcases hi : cmpInfo CmpOp.NotEq with ⟨sym, f, r⟩
    have h1 := slot_ty_ne
    have h2 := slot_ty_ne'
    rw [hi] at h1 h2
    simp only [richCompare, hi, (hX s).oneThing_none]
    try with_reducible refine wpAny_holding ?_
    refine wpAny_bind (wpAny_cRoomFor_or (.inl rfl) ?_)
    refine wpAny_bind (wpAny_typeOf (hX s) (wpAny_bind (wpAny_typeOf (hY s) ?_)))
    simp only [if_true, if_false, bne_self_eq_false, Bool.not_false, Bool.false_eq_true, pure_bind]
    refine wpAny_bind (m := tryCompare (.type X) _ (.type Y)) (wpAny_tryCompare_declines (hX s) h1 (call_ne_ty hX ?_))
    rw [if_neg (by rw [k1]; exact Bool.false_ne_true)]
    refine ⟨rfl, ?_⟩
    refine wpAny_bind (m := tryCompare (.type Y) _ (.type X)) (wpAny_tryCompare_declines (hY s) h2 (call_ne_ty hY ?_))
    rw [if_neg (by rw [k2]; exact Bool.false_ne_true)]
    refine ⟨rfl, ?_⟩
    refine wpAny_bind (wpAny_rule (wpAny_bind (wpAny_of_eq (isSame_plain rfl) ?_)))
    rw [k1]
    exact wpAny_pure h
end
/-- the names of the built-in kinds that are compared -/
def kinds : List String := ["int", "str", "bool", "NoneType", "list", "tuple", "dict", "bytes"]
theorem meta_of {T : String} (h : T ∈ kinds) (s : Shared) : s.TypeIs (.type T) "type" := by
  simp only [kinds, List.mem_cons, List.not_mem_nil, or_false] at h
  rcases h with rfl | rfl | rfl | rfl | rfl | rfl | rfl | rfl
  · exact TypeEq.meta_int s
  · exact TypeEq.meta_str s
  · exact TypeEq.meta_bool s
  · exact TypeEq.meta_NoneType s
  · exact TypeEq.meta_list s
  · exact TypeEq.meta_tuple s
  · exact TypeEq.meta_dict s
  · exact TypeEq.meta_bytes s
theorem TyB_kind {K : PySem.W.Frag} {H : Hp} {x : V} {T : String} (h : TyB K H x T) : T ∈ kinds := by
  cases h <;> decide
def rEqTy : R2 := fun x y H Q => ∃ a b, x = .ty a ∧ y = .ty b ∧ a ∈ kinds ∧ b ∈ kinds ∧ Q (.bl (decide (a = b))) H
def rNeTy : R2 := fun x y H Q => ∃ a b, x = .ty a ∧ y = .ty b ∧ a ∈ kinds ∧ b ∈ kinds ∧ Q (.bl (!decide (a = b))) H
section
variable {X : Cx}
theorem op_eqTy : OpR X (compareOp .Eq) rEqTy := by
  intro pins s σ H x y v u Q I rx ry h
  obtain ⟨a, b, rfl, rfl, ha, hb, q⟩ := h
  cases rx
  cases ry
  by_cases e : a = b
  · subst e
    rw [decide_eq_true rfl] at q
    exact TypeEq.eq_type_same (meta_of ha) ⟨.bl true, H, I, rfl, q⟩
  · rw [decide_eq_false e] at q
    exact TypeEq.eq_type_other (meta_of ha) (meta_of hb) (by simp [e]) ⟨.bl false, H, I, rfl, q⟩
theorem op_neTy : OpR X (compareOp .NotEq) rNeTy := by
  intro pins s σ H x y v u Q I rx ry h
  obtain ⟨a, b, rfl, rfl, ha, hb, q⟩ := h
  cases rx
  cases ry
  exact ne_ty (meta_of ha) (meta_of hb) ⟨.bl _, H, I, rfl, q⟩
end
end Fd
namespace Fd
/-! ### plain lists -/
theorem strict_uniq {α : Type} {lt : α → α → Prop} (asym : ∀ a b, lt a b → ¬ lt b a) : ∀ {l1 l2 : List α}, l1.Pairwise lt → l2.Pairwise lt → (∀ x, x ∈ l1 ↔ x ∈ l2) → l1 = l2
  | [], [], _, _, _ => rfl
  | [], b :: l2, _, _, h => absurd ((h b).mpr List.mem_cons_self) (by simp)
  | a :: l1, [], _, _, h => absurd ((h a).mp List.mem_cons_self) (by simp)
  | a :: l1, b :: l2, h1, h2, h => by
    obtain ⟨p1, q1⟩ := List.pairwise_cons.mp h1
    obtain ⟨p2, q2⟩ := List.pairwise_cons.mp h2
    have e : a = b := by
      rcases List.mem_cons.mp ((h a).mp List.mem_cons_self) with e | ha
      · exact e
      · rcases List.mem_cons.mp ((h b).mpr List.mem_cons_self) with e | hb
        · exact e.symm
        · exact absurd (p1 b hb) (asym _ _ (p2 a ha))
    subst e
    have irr : ∀ x, lt a x → x ≠ a := fun x hx z => by
      subst z
      exact asym _ _ hx hx
    rw [strict_uniq asym q1 q2 fun x => ⟨fun hx => ?_, fun hx => ?_⟩]
    · rcases List.mem_cons.mp ((h x).mp (List.mem_cons_of_mem _ hx)) with e | hx'
      · exact absurd e (irr x (p1 x hx))
      · exact hx'
    · rcases List.mem_cons.mp ((h x).mpr (List.mem_cons_of_mem _ hx)) with e | hx'
      · exact absurd e (irr x (p2 x hx))
      · exact hx'
theorem strict_of_le {l : List Int} (h : l.Pairwise (· ≤ ·)) (n : l.Nodup) : l.Pairwise (· < ·) := by
  induction l with
  | nil => exact List.Pairwise.nil
  | cons a l ih =>
    obtain ⟨p, q⟩ := List.pairwise_cons.mp h
    obtain ⟨n1, n2⟩ := List.nodup_cons.mp n
    refine List.pairwise_cons.mpr ⟨fun b hb => ?_, ih q n2⟩
    have h1 := p b hb
    have h2 : a ≠ b := fun e => n1 (e ▸ hb)
    omega
theorem take_next {α : Type} : ∀ {l : List α} {i : Nat} {x : α}, l[i]? = some x → l.take (i + 1) = l.take i ++ [x]
  | [], i, x, h => by simp at h
  | a :: l, 0, x, h => by
    cases Option.some.inj h
    rfl
  | a :: l, i + 1, x, h => by
    rw [List.take_succ_cons, take_next (l := l) (i := i) (x := x) h]
    rfl
/-! ### points, ties, rows -/
abbrev Tie := Int × Int
def pts (m : Nat) : List Int := (List.range m).map fun n : Nat => (n : Int)
theorem mem_pts {m : Nat} {x : Int} : x ∈ pts m ↔ 0 ≤ x ∧ x < m := by
  unfold pts
  rw [List.mem_map]
  constructor
  · rintro ⟨n, hn, rfl⟩
    rw [List.mem_range] at hn
    omega
  · intro h
    exact ⟨x.toNat, List.mem_range.mpr (by omega), by omega⟩
theorem pts_strict (m : Nat) : (pts m).Pairwise (· < ·) := by
  unfold pts
  rw [List.pairwise_map]
  exact List.pairwise_lt_range.imp fun h => by omega
theorem pts_len (m : Nat) : (pts m).length = m := by simp [pts]
theorem pts_at {m i : Nat} (h : i < m) : (pts m)[i]? = some (i : Int) := by
  simp [pts, h]
theorem pts_succ (m : Nat) : pts (m + 1) = pts m ++ [(m : Int)] := by
  simp [pts, List.range_succ]
/-- a tie joins p and j -/
def Adj (ts : List Tie) (p j : Int) : Prop := (p, j) ∈ ts ∨ (j, p) ∈ ts
instance (ts : List Tie) (p j : Int) : Decidable (Adj ts p j) := by unfold Adj; exact inferInstance
theorem Adj.symm {ts : List Tie} {p j : Int} (h : Adj ts p j) : Adj ts j p := Or.symm h
structure Good (m : Nat) (ts : List Tie) : Prop where
  rng : ∀ t ∈ ts, 0 ≤ t.1 ∧ t.1 < m ∧ 0 ≤ t.2 ∧ t.2 < m ∧ t.1 ≠ t.2
  ap : ts.Pairwise fun t u => t ≠ u ∧ t ≠ (u.2, u.1)
theorem Good.nil (m : Nat) : Good m [] := ⟨fun _ h => by simp at h, List.Pairwise.nil⟩
theorem Good.snoc {m : Nat} {ts : List Tie} {t : Tie} (g : Good m ts) (h : 0 ≤ t.1 ∧ t.1 < m ∧ 0 ≤ t.2 ∧ t.2 < m ∧ t.1 ≠ t.2) (h1 : t ∉ ts) (h2 : (t.2, t.1) ∉ ts) : Good m (ts ++ [t]) := by
  refine ⟨fun u hu => ?_, List.pairwise_append.mpr ⟨g.ap, List.pairwise_singleton _ _, fun u hu v hv => ?_⟩⟩
  · rcases List.mem_append.mp hu with hu | hu
    · exact g.rng u hu
    · rw [List.mem_singleton.mp hu]
      exact h
  · rw [List.mem_singleton.mp hv]
    exact ⟨fun e => h1 (e ▸ hu), fun e => h2 (e ▸ hu)⟩
theorem Good.drop {m : Nat} {ts : List Tie} (g : Good m ts) (k : Nat) : Good m (ts.drop k) := ⟨fun t h => g.rng t (List.mem_of_mem_drop h), g.ap.sublist (List.drop_sublist k ts)⟩
theorem Good.take {m : Nat} {ts : List Tie} (g : Good m ts) (k : Nat) : Good m (ts.take k) := ⟨fun t h => g.rng t (List.mem_of_mem_take h), g.ap.sublist (List.take_sublist k ts)⟩
theorem Good.apart {m : Nat} {ts : List Tie} (g : Good m ts) {i : Nat} {t : Tie} (h : ts[i]? = some t) : t ∉ ts.take i ∧ (t.2, t.1) ∉ ts.take i := by
  have e := take_next h
  have g1 := (g.take (i + 1)).ap
  rw [e] at g1
  have q := (List.pairwise_append.mp g1).2.2
  refine ⟨fun hm => ?_, fun hm => ?_⟩
  · exact (q t hm t (by simp)).1 rfl
  · exact (q (t.2, t.1) hm t (by simp)).2 rfl
/-- what one tie puts beside p -/
def here (t : Tie) (p : Int) : List Int := (if t.1 = p then [t.2] else []) ++ (if t.2 = p then [t.1] else [])
def nb (ts : List Tie) (p : Int) : List Int := ts.flatMap fun t => here t p
theorem mem_here {t : Tie} {p j : Int} : j ∈ here t p ↔ t = (p, j) ∨ t = (j, p) := by
  obtain ⟨a, b⟩ := t
  unfold here
  by_cases h1 : a = p <;> by_cases h2 : b = p <;> simp [h1, h2] <;> constructor <;> intro h <;> simp_all
theorem mem_nb {ts : List Tie} {p j : Int} : j ∈ nb ts p ↔ Adj ts p j := by
  unfold nb Adj
  rw [List.mem_flatMap]
  constructor
  · rintro ⟨t, ht, hj⟩
    rcases mem_here.mp hj with e | e
    · exact .inl (e ▸ ht)
    · exact .inr (e ▸ ht)
  · rintro (h | h)
    · exact ⟨_, h, mem_here.mpr (.inl rfl)⟩
    · exact ⟨_, h, mem_here.mpr (.inr rfl)⟩
theorem nb_snoc (ts : List Tie) (t : Tie) (p : Int) : nb (ts ++ [t]) p = nb ts p ++ here t p := by
  unfold nb
  rw [List.flatMap_append]
  simp
theorem nb_nodup {m : Nat} : ∀ {ts : List Tie} (g : Good m ts) (p : Int), (nb ts p).Nodup
  | [], _, _ => by simp [nb]
  | t :: ts, g, p => by
    have g' : Good m ts := ⟨fun u h => g.rng u (List.mem_cons_of_mem _ h), (List.pairwise_cons.mp g.ap).2⟩
    have ih := nb_nodup g' p
    have hne := (g.rng t List.mem_cons_self).2.2.2.2
    have e : nb (t :: ts) p = here t p ++ nb ts p := by simp [nb]
    rw [e]
    refine List.nodup_append.mpr ⟨?_, ih, fun x hx y hy z => ?_⟩
    · obtain ⟨a, b⟩ := t
      unfold here
      by_cases h1 : a = p <;> by_cases h2 : b = p <;> simp [h1, h2]
      exact hne (h1.trans h2.symm)
    · subst z
      have q := (List.pairwise_cons.mp g.ap).1
      rcases mem_here.mp hx with e1 | e1 <;> rcases mem_nb.mp hy with e2 | e2
      · exact (q _ e2).1 e1
      · exact (q _ e2).2 e1
      · exact (q _ e2).2 e1
      · exact (q _ e2).1 e1
/-- the points beside p, rising -/
def rowOf (m : Nat) (ts : List Tie) (p : Int) : List Int := (pts m).filter fun j => decide (Adj ts p j)
theorem mem_rowOf {m : Nat} {ts : List Tie} (g : Good m ts) {p j : Int} : j ∈ rowOf m ts p ↔ Adj ts p j := by
  unfold rowOf
  rw [List.mem_filter, decide_eq_true_iff, mem_pts]
  refine ⟨fun h => h.2, fun h => ⟨?_, h⟩⟩
  rcases h with h | h
  · have := g.rng _ h
    exact ⟨this.2.2.1, this.2.2.2.1⟩
  · have := g.rng _ h
    exact ⟨this.1, this.2.1⟩
theorem rowOf_strict (m : Nat) (ts : List Tie) (p : Int) : (rowOf m ts p).Pairwise (· < ·) := (pts_strict m).filter _
theorem rowOf_len (m : Nat) (ts : List Tie) (p : Int) : (rowOf m ts p).length ≤ m := by
  have h := List.length_filter_le (fun j => decide (Adj ts p j)) (pts m)
  rw [pts_len] at h
  exact h
theorem row_sorted {m : Nat} {ts : List Tie} (g : Good m ts) {p : Int} {ns : List Int} (hp : ns.Perm (nb ts p)) (hs : ns.Pairwise (· ≤ ·)) : ns = rowOf m ts p := by
  refine strict_uniq (lt := fun a b : Int => a < b) (fun a b h => by omega) (strict_of_le hs (hp.nodup_iff.mpr (nb_nodup g p))) (rowOf_strict m ts p) fun x => ?_
  rw [hp.mem_iff, mem_nb, mem_rowOf g]
def rowsOf (m : Nat) (ts : List Tie) : List (List Int) := (pts m).map (rowOf m ts)
theorem rowsOf_len (m : Nat) (ts : List Tie) : (rowsOf m ts).length = m := by simp [rowsOf, pts_len]
theorem rowsOf_at {m : Nat} {ts : List Tie} {i : Nat} (h : i < m) : (rowsOf m ts)[i]? = some (rowOf m ts i) := by
  unfold rowsOf
  rw [List.getElem?_map, pts_at h]
  rfl
/-! ### the ties told -/
def pickT (m : Nat) (ts : List Tie) (i : Int) : List Tie := ((rowOf m ts i).filter fun j => decide (i < j)).map fun j => (i, j)
def toldT (m : Nat) (ts : List Tie) : List Tie := (pts m).flatMap (pickT m ts)
def lexT (a b : Tie) : Prop := a.1 < b.1 ∨ (a.1 = b.1 ∧ a.2 < b.2)
theorem mem_pickT {m : Nat} {ts : List Tie} (g : Good m ts) {i : Int} {t : Tie} : t ∈ pickT m ts i ↔ t.1 = i ∧ t.1 < t.2 ∧ Adj ts t.1 t.2 := by
  unfold pickT
  rw [List.mem_map]
  constructor
  · rintro ⟨j, hj, rfl⟩
    rw [List.mem_filter, decide_eq_true_iff, mem_rowOf g] at hj
    exact ⟨rfl, hj.2, hj.1⟩
  · rintro ⟨rfl, h1, h2⟩
    exact ⟨t.2, by rw [List.mem_filter, decide_eq_true_iff, mem_rowOf g]; exact ⟨h2, h1⟩, rfl⟩
theorem mem_toldT {m : Nat} {ts : List Tie} (g : Good m ts) {t : Tie} : t ∈ toldT m ts ↔ t.1 < t.2 ∧ Adj ts t.1 t.2 := by
  unfold toldT
  rw [List.mem_flatMap]
  constructor
  · rintro ⟨i, _, h⟩
    exact ((mem_pickT g).mp h).2
  · intro h
    refine ⟨t.1, ?_, (mem_pickT g).mpr ⟨rfl, h⟩⟩
    rw [mem_pts]
    rcases h.2 with k | k
    · have := g.rng _ k
      exact ⟨this.1, this.2.1⟩
    · have := g.rng _ k
      exact ⟨this.2.2.1, this.2.2.2.1⟩
theorem toldT_strict {m : Nat} {ts : List Tie} (g : Good m ts) : (toldT m ts).Pairwise lexT := by
  unfold toldT
  rw [List.pairwise_flatMap]
  refine ⟨fun i _ => ?_, (pts_strict m).imp fun {i k} hik x hx y hy => ?_⟩
  · unfold pickT
    rw [List.pairwise_map]
    exact ((rowOf_strict m ts i).filter _).imp fun h => .inr ⟨rfl, h⟩
  · have h1 := ((mem_pickT g).mp hx).1
    have h2 := ((mem_pickT g).mp hy).1
    exact .inl (by omega)
def norm (t : Tie) : Tie := (min t.1 t.2, max t.1 t.2)
theorem norm_cases (t : Tie) : norm t = t ∨ norm t = (t.2, t.1) := by
  unfold norm
  obtain ⟨a, b⟩ := t
  by_cases h : a ≤ b
  · left
    show (min a b, max a b) = (a, b)
    rw [Int.min_eq_left h, Int.max_eq_right h]
  · right
    show (min a b, max a b) = (b, a)
    rw [Int.min_eq_right (by omega), Int.max_eq_left (by omega)]
theorem mem_norm {m : Nat} {ts : List Tie} (g : Good m ts) {t : Tie} : t ∈ ts.map norm ↔ t.1 < t.2 ∧ Adj ts t.1 t.2 := by
  rw [List.mem_map]
  constructor
  · rintro ⟨u, hu, rfl⟩
    have hne := (g.rng u hu).2.2.2.2
    obtain ⟨a, b⟩ := u
    refine ⟨?_, ?_⟩
    · show min a b < max a b
      have : a ≠ b := hne
      omega
    · rcases norm_cases (a, b) with e | e
      · rw [e]
        exact .inl hu
      · rw [e]
        exact .inr hu
  · rintro ⟨h1, h2⟩
    obtain ⟨a, b⟩ := t
    have h1 : a < b := h1
    rcases h2 with h2 | h2
    · refine ⟨_, h2, ?_⟩
      show (min a b, max a b) = (a, b)
      rw [Int.min_eq_left (by omega), Int.max_eq_right (by omega)]
    · refine ⟨_, h2, ?_⟩
      show (min b a, max b a) = (a, b)
      rw [Int.min_eq_right (by omega), Int.max_eq_left (by omega)]
theorem norm_nodup {m : Nat} : ∀ {ts : List Tie} (g : Good m ts), (ts.map norm).Nodup
  | [], _ => by simp
  | t :: ts, g => by
    have g' : Good m ts := ⟨fun u h => g.rng u (List.mem_cons_of_mem _ h), (List.pairwise_cons.mp g.ap).2⟩
    rw [List.map_cons, List.nodup_cons]
    refine ⟨fun h => ?_, norm_nodup g'⟩
    obtain ⟨u, hu, e⟩ := List.mem_map.mp h
    have q := (List.pairwise_cons.mp g.ap).1 u hu
    rcases norm_cases u with e1 | e1 <;> rcases norm_cases t with e2 | e2 <;> rw [e1, e2] at e
    · exact q.1 e.symm
    · exact q.2 (by rw [e])
    · exact q.2 e.symm
    · exact q.1 (by
        obtain ⟨a, b⟩ := t
        obtain ⟨c, d⟩ := u
        simp only [Prod.mk.injEq] at e ⊢
        exact ⟨e.2.symm, e.1.symm⟩)
theorem told_sorted {m : Nat} {ts ys : List Tie} (g : Good m ts) (hp : ys.Perm (ts.map norm)) (hs : ys.Pairwise fun a b => ¬ lexT b a) : ys = toldT m ts := by
  have nd : ys.Nodup := hp.nodup_iff.mpr (norm_nodup g)
  refine strict_uniq (lt := lexT) (fun a b h k => ?_) ?_ (toldT_strict g) fun x => ?_
  · unfold lexT at h k
    omega
  · have both := List.Pairwise.and hs nd
    refine both.imp fun {a b} h => ?_
    obtain ⟨h1, h2⟩ := h
    unfold lexT at h1 ⊢
    by_cases e1 : a.1 = b.1
    · by_cases e2 : a.2 = b.2
      · exact absurd (Prod.ext e1 e2) h2
      · omega
    · omega
  · rw [hp.mem_iff, mem_norm g, mem_toldT g]
theorem toldT_len {m : Nat} {ts : List Tie} (g : Good m ts) : (toldT m ts).length = ts.length := by
  have h1 : (toldT m ts).Nodup := (toldT_strict g).imp fun {a b} h e => by
    subst e
    unfold lexT at h
    omega
  have hp : (toldT m ts).Perm (ts.map norm) := (List.perm_ext_iff_of_nodup h1 (norm_nodup g)).mpr fun x => by rw [mem_norm g, mem_toldT g]
  have e := hp.length_eq
  rw [List.length_map] at e
  exact e
end Fd
namespace Fd
open PySem L2
/-! ### min and max of a pair of iL -/
def rPr (f : Int → Int → Int) (K : PySem.W.Frag) : List V → Hp → VK → Prop := fun vs H Q => ∃ (a : Addr) (i j : Int), vs = [V.ref a] ∧ SqT K H a [.int i, .int j] ∧ Q (.int (f i j)) H
section
variable {X : Cx}
theorem alike2 (i j : Int) : PySem.W.AlikeAll [PyData.int i, PyData.int j] := by
  refine ⟨fun x hx y hy => ?_, fun x hx => ?_⟩
  · simp only [List.mem_cons, List.not_mem_nil, or_false] at hx hy
    rcases hx with rfl | rfl <;> rcases hy with rfl | rfl <;> rfl
  · simp only [List.mem_cons, List.not_mem_nil, or_false] at hx
    rcases hx with rfl | rfl <;> intro z <;> cases z
theorem cr_minPr (hc : X.calm = true) (hu : X.A.units + 64 < cLine) : CallR X (.builtin "min") (rPr min X.K) := by
  intro pins s σ H vs us Q I r h
  obtain ⟨a, i, j, rfl, hT, q⟩ := h
  obtain ⟨its, rv, ⟨o, ho, hcl, n, hd⟩, _⟩ := I.tuple hT
  rw [Vals.ref1 r]
  obtain ⟨u1, u2, rfl, ri, rj⟩ := vals2 rv
  obtain ⟨t1, rfl⟩ := ri
  obtain ⟨t2, rfl⟩ := rj
  refine PySem.W.min_tuple_data (x := .int i) (xs := [.int j]) (I.ok.hd hc) ⟨o, ho, hcl, n, hd⟩ (.cons (.int i t1) (.cons (.int j t2) .nil)) (alike2 i j) ?_ fun k v h' tk bs hk hr keep => ?_
  · simp only [PyData.depthAll, PyData.depth]
    omega
  · rw [show PySem.W.minD (PyData.int i) [PyData.int j] = PyData.int (min i j) from PySem.W.minD_ints i [j]] at hr
    cases hr
    exact ⟨.int (min i j), H, I.kept keep, ⟨_, rfl⟩, q⟩
theorem cr_maxPr (hc : X.calm = true) (hu : X.A.units + 64 < cLine) : CallR X (.builtin "max") (rPr max X.K) := by
  intro pins s σ H vs us Q I r h
  obtain ⟨a, i, j, rfl, hT, q⟩ := h
  obtain ⟨its, rv, ⟨o, ho, hcl, n, hd⟩, _⟩ := I.tuple hT
  rw [Vals.ref1 r]
  obtain ⟨u1, u2, rfl, ri, rj⟩ := vals2 rv
  obtain ⟨t1, rfl⟩ := ri
  obtain ⟨t2, rfl⟩ := rj
  refine PySem.W.max_tuple_data (x := .int i) (xs := [.int j]) (I.ok.hd hc) ⟨o, ho, hcl, n, hd⟩ (.cons (.int i t1) (.cons (.int j t2) .nil)) (alike2 i j) ?_ fun k v h' tk bs hk hr keep => ?_
  · simp only [PyData.depthAll, PyData.depth]
    omega
  · rw [show PySem.W.maxD (PyData.int i) [PyData.int j] = PyData.int (max i j) from PySem.W.maxD_ints i [j]] at hr
    cases hr
    exact ⟨.int (max i j), H, I.kept keep, ⟨_, rfl⟩, q⟩
end
/-! ### pairs and lists of pairs in the heap -/
abbrev iL (xs : List Int) : List V := xs.map V.int
def PairAt (H : Hp) (v : V) (t : Tie) : Prop := ∃ a, v = .ref a ∧ H a = some (.tup [.int t.1, .int t.2])
abbrev PairsAt (H : Hp) (vs : List V) (ts : List Tie) : Prop := Paired (PairAt H) vs ts
theorem PairAt.same {H H' : Hp} (s : Same H H') {v : V} {t : Tie} (h : PairAt H v t) : PairAt H' v t := by
  obtain ⟨a, e, k⟩ := h
  exact ⟨a, e, s _ _ k⟩
theorem PairsAt.same {H H' : Hp} (s : Same H H') {vs : List V} {ts : List Tie} (h : PairsAt H vs ts) : PairsAt H' vs ts := Paired.mono (fun _ _ => PairAt.same s) h
theorem paired_get {α β : Type} {F : α → β → Prop} : ∀ {xs : List α} {ys : List β}, Paired F xs ys → ∀ {i : Nat} {x : α}, xs[i]? = some x → ∃ y, ys[i]? = some y ∧ F x y
  | _, _, .nil, i, x, h => by simp at h
  | _, _, .cons r t, 0, x, h => by
    cases Option.some.inj h
    exact ⟨_, rfl, r⟩
  | _, _, .cons r t, i + 1, x, h => paired_get t (i := i) (by simpa using h)
theorem paired_get' {α β : Type} {F : α → β → Prop} : ∀ {xs : List α} {ys : List β}, Paired F xs ys → ∀ {i : Nat} {y : β}, ys[i]? = some y → ∃ x, xs[i]? = some x ∧ F x y
  | _, _, .nil, i, x, h => by simp at h
  | _, _, .cons r t, 0, x, h => by
    cases Option.some.inj h
    exact ⟨_, rfl, r⟩
  | _, _, .cons r t, i + 1, x, h => paired_get' t (i := i) (by simpa using h)
theorem paired_drop {α β : Type} {F : α → β → Prop} : ∀ {xs : List α} {ys : List β}, Paired F xs ys → ∀ k, Paired F (xs.drop k) (ys.drop k)
  | _, _, h, 0 => h
  | _, _, .nil, _ + 1 => .nil
  | _, _, .cons _ t, k + 1 => paired_drop t k
theorem paired_take {α β : Type} {F : α → β → Prop} : ∀ {xs : List α} {ys : List β}, Paired F xs ys → ∀ k, Paired F (xs.take k) (ys.take k)
  | _, _, h, 0 => .nil
  | _, _, .nil, _ + 1 => .nil
  | _, _, .cons r t, k + 1 => .cons r (paired_take t k)
def prd (t : Tie) : PyData := .tuple [.int t.1, .int t.2]
theorem prd_lay (t : Tie) : (prd t).canLay0 = true := by simp [prd, PyData.canLay0, PyData.canLayAll0]
theorem prd_depth (t : Tie) : (prd t).depth = 1 := by simp [prd, PyData.depth, PyData.depthAll]
theorem prds_lay : ∀ ts : List Tie, PyData.canLayAll0 (ts.map prd) = true
  | [] => by simp [PyData.canLayAll0]
  | t :: ts => by simp [PyData.canLayAll0, prd_lay t, prds_lay ts]
theorem prds_depth : ∀ ts : List Tie, PyData.depthAll (ts.map prd) ≤ 1
  | [] => by simp [PyData.depthAll]
  | t :: ts => by
    have h1 := prds_depth ts
    have h2 := prd_depth t
    simp only [List.map_cons, PyData.depthAll]
    omega
theorem shaped_by {d : PyData} (h1 : d.canLay0 = true) (h2 : d.depth ≤ 64) : SeqAt.shaped d = true := by
  unfold SeqAt.shaped
  rw [h1, decide_eq_true h2, Bool.and_self]
theorem prd_shaped (t : Tie) : SeqAt.shaped (prd t) = true := shaped_by (prd_lay t) (by rw [prd_depth]; decide)
theorem prds_shaped (ts : List Tie) : SeqAt.shaped (.list (ts.map prd)) = true := by
  have h := prds_depth ts
  refine shaped_by (by simp only [PyData.canLay0]; exact prds_lay ts) ?_
  simp only [PyData.depth]
  omega
theorem prd_eqv (t u : Tie) : PyData.eqv (prd t) (prd u) = decide (t = u) := by
  obtain ⟨a, b⟩ := t
  obtain ⟨c, d⟩ := u
  simp only [prd, PyData.eqv, PyData.eqvAll, Bool.and_true]
  rw [Bool.eq_iff_iff]
  simp
theorem prds_any (ts : List Tie) (t : Tie) : ((ts.map prd).any fun z => PyData.eqv z (prd t)) = decide (t ∈ ts) := by
  rw [List.any_map, Bool.eq_iff_iff, List.any_eq_true, decide_eq_true_iff]
  constructor
  · rintro ⟨u, hu, e⟩
    have e : PyData.eqv (prd u) (prd t) = true := e
    rw [prd_eqv, decide_eq_true_iff] at e
    exact e ▸ hu
  · intro h
    exact ⟨t, h, by show PyData.eqv (prd t) (prd t) = true; rw [prd_eqv]; exact decide_eq_true rfl⟩
theorem prds_refl (ts : List Tie) : PyData.eqv (.list (ts.map prd)) (.list (ts.map prd)) = true := SeqAt.eqv_refl _ (SeqAt.canLay_of_shaped (prds_shaped ts))
theorem dp_pair {K : PySem.W.Frag} {H : Hp} {v : V} {t : Tie} (h : PairAt H v t) : Dp K H v (prd t) := by
  obtain ⟨a, rfl, k⟩ := h
  exact .tup (SqT.of k) (.cons (.int _) (.cons (.int _) .nil))
theorem dp_all {K : PySem.W.Frag} {H : Hp} : ∀ {vs : List V} {ts : List Tie}, PairsAt H vs ts → DpAll K H vs (ts.map prd)
  | _, _, .nil => .nil
  | _, _, .cons r t => .cons (dp_pair r) (dp_all t)
theorem dp_pairs {K : PySem.W.Frag} {H : Hp} {a : Addr} {vs : List V} {ts : List Tie} (h : SqL K H a vs) (k : PairsAt H vs ts) : Dp K H (.ref a) (.list (ts.map prd)) := .lst h (dp_all k)
theorem dpi_all {K : PySem.W.Frag} {H : Hp} : ∀ xs : List Int, DpAll K H (iL xs) (xs.map PyData.int)
  | [] => .nil
  | x :: xs => .cons (.int x) (dpi_all xs)
theorem dp_ints {K : PySem.W.Frag} {H : Hp} {a : Addr} {xs : List Int} (h : SqL K H a (iL xs)) : Dp K H (.ref a) (.list (xs.map PyData.int)) := .lst h (dpi_all xs)
theorem inl_lay : ∀ xs : List Int, PyData.canLayAll0 (xs.map PyData.int) = true
  | [] => by simp [PyData.canLayAll0]
  | t :: ts => by simp [PyData.canLayAll0, PyData.canLay0, inl_lay ts]
theorem inl_depth : ∀ xs : List Int, PyData.depthAll (xs.map PyData.int) = 0
  | [] => by simp [PyData.depthAll]
  | t :: ts => by simp [PyData.depthAll, PyData.depth, inl_depth ts]
theorem inl_shaped (xs : List Int) : SeqAt.shaped (.list (xs.map PyData.int)) = true := by
  have h := inl_depth xs
  refine shaped_by (by simp only [PyData.canLay0]; exact inl_lay xs) ?_
  simp only [PyData.depth]
  omega
theorem inl_refl (xs : List Int) : PyData.eqv (.list (xs.map PyData.int)) (.list (xs.map PyData.int)) = true := SeqAt.eqv_refl _ (SeqAt.canLay_of_shaped (inl_shaped xs))
theorem inV_ints (xs : List Int) (x : Int) : inV (.int x) (iL xs) = decide (x ∈ xs) := by
  unfold inV iL
  rw [List.any_map, Bool.eq_iff_iff, List.any_eq_true, decide_eq_true_iff]
  constructor
  · rintro ⟨u, hu, e⟩
    have e : (u == x) = true := e
    rw [beq_iff_eq] at e
    exact e ▸ hu
  · intro h
    exact ⟨x, h, beq_self_eq_true x⟩
theorem flat_ints (xs : List Int) : (iL xs).all flatV = true := by
  rw [List.all_eq_true]
  intro v hv
  obtain ⟨x, _, rfl⟩ := List.mem_map.mp hv
  rfl
theorem iL_at {xs : List Int} {i : Nat} {y : V} (h : (iL xs)[i]? = some y) : ∃ z, xs[i]? = some z ∧ y = V.int z := by
  rw [List.getElem?_map] at h
  cases e : xs[i]? with
  | none =>
    rw [e] at h
    cases h
  | some z =>
    rw [e] at h
    exact ⟨z, rfl, (Option.some.inj h).symm⟩
theorem iL_get {xs : List Int} {i : Nat} {z : Int} (h : xs[i]? = some z) : (iL xs)[i]? = some (.int z) := by
  rw [List.getElem?_map, h]
  rfl
/-! ### heaps -/
theorem Same.put {H : Hp} {p : Addr} {o : HO} (h : H p = none) : Same H (upd H p o) := fun b u e => by
  rw [upd_ne (ne_of_none e h)]
  exact e
theorem Same.step {H H1 : Hp} {p : Addr} {o : HO} (s : Same H H1) (h : H1 p = none) : Same H (upd H1 p o) := s.trans (Same.put h)
/-- a list that was new behind H is written -/
theorem Same.write {H H1 : Hp} {p : Addr} {o : HO} (s : Same H H1) (h : H p = none) : Same H (upd H1 p o) := fun b u e => by
  rw [upd_ne (ne_of_none e h)]
  exact s _ _ e
theorem small {n : Nat} (h : n ≤ 1000) : n < sizeLine := Nat.lt_of_le_of_lt h (by decide)
theorem smalle {n : Nat} (h : n ≤ 1000) : n ≤ sizeLine := Nat.le_of_lt (small h)
/-! ### rows: a list of lists of iL, all new behind H0, all apart -/
structure RowsAt (H0 H : Hp) (R : Addr) (as : List Addr) (rss : List (List Int)) : Prop where
  top : H R = some (.lst (as.map V.ref))
  new : H0 R = none
  len : as.length = rss.length
  nd : as.Nodup
  out : R ∉ as
  row : ∀ (i : Nat) (a : Addr) (r : List Int), as[i]? = some a → rss[i]? = some r → H0 a = none ∧ H a = some (.lst (iL r))
theorem RowsAt.get {H0 H : Hp} {R : Addr} {as : List Addr} {rss : List (List Int)} (h : RowsAt H0 H R as rss) {i : Nat} {r : List Int} (e : rss[i]? = some r) : ∃ a, as[i]? = some a ∧ (as.map V.ref)[i]? = some (.ref a) ∧ H0 a = none ∧ H a = some (.lst (iL r)) := by
  have hi : i < as.length := by
    rw [h.len]
    exact (List.getElem?_eq_some_iff.mp e).1
  have ea : as[i]? = some as[i] := List.getElem?_eq_getElem hi
  obtain ⟨k1, k2⟩ := h.row i _ r ea e
  refine ⟨as[i], ea, ?_, k1, k2⟩
  rw [List.getElem?_map, ea]
  rfl
theorem RowsAt.same {H0 H H' : Hp} {R : Addr} {as : List Addr} {rss : List (List Int)} (h : RowsAt H0 H R as rss) (s : Same H H') : RowsAt H0 H' R as rss :=
  ⟨s _ _ h.top, h.new, h.len, h.nd, h.out, fun i a r e1 e2 => ⟨(h.row i a r e1 e2).1, s _ _ (h.row i a r e1 e2).2⟩⟩
/-- what stood ahead may change -/
theorem RowsAt.apart {H0 H H' : Hp} {R : Addr} {as : List Addr} {rss : List (List Int)} (h : RowsAt H0 H R as rss) (s : ∀ b o, H b = some o → H0 b = none → H' b = some o) : RowsAt H0 H' R as rss :=
  ⟨s _ _ h.top h.new, h.new, h.len, h.nd, h.out, fun i a r e1 e2 => ⟨(h.row i a r e1 e2).1, s _ _ (h.row i a r e1 e2).2 (h.row i a r e1 e2).1⟩⟩
theorem RowsAt.older {H0 H1 H : Hp} {R : Addr} {as : List Addr} {rss : List (List Int)} (h : RowsAt H1 H R as rss) (s : Same H0 H1) : RowsAt H0 H R as rss :=
  ⟨h.top, s.free h.new, h.len, h.nd, h.out, fun i a r e1 e2 => ⟨s.free (h.row i a r e1 e2).1, (h.row i a r e1 e2).2⟩⟩
/-- a row more -/
theorem RowsAt.more {H0 H : Hp} {R p : Addr} {as : List Addr} {rss : List (List Int)} {r : List Int} (h : RowsAt H0 H R as rss) (s : Same H0 H) (hp : H p = none) :
    RowsAt H0 (upd (upd H p (.lst (iL r))) R (.lst (as.map V.ref ++ [.ref p]))) R (as ++ [p]) (rss ++ [r]) := by
  have pR : R ≠ p := ne_of_none h.top hp
  have pas : p ∉ as := fun hm => by
    obtain ⟨i, hi, e⟩ := List.getElem_of_mem hm
    have e' : as[i]? = some p := by rw [List.getElem?_eq_getElem hi, e]
    have hi2 : i < rss.length := by rw [← h.len]; exact hi
    have q := (h.row i p rss[i] e' (List.getElem?_eq_getElem hi2)).2
    rw [hp] at q
    cases q
  refine ⟨by rw [upd_same, List.map_append]; rfl, h.new, by simp [h.len], List.nodup_append.mpr ⟨h.nd, by simp, fun x hx y hy e => ?_⟩, fun hm => ?_, fun i a r' e1 e2 => ?_⟩
  · rw [List.mem_singleton.mp hy] at e
    exact pas (e ▸ hx)
  · rcases List.mem_append.mp hm with k | k
    · exact h.out k
    · exact pR (List.mem_singleton.mp k)
  · by_cases hi : i < as.length
    · rw [List.getElem?_append_left hi] at e1
      rw [List.getElem?_append_left (by rw [← h.len]; exact hi)] at e2
      obtain ⟨k1, k2⟩ := h.row i a r' e1 e2
      have aR : a ≠ R := fun e => h.out (e ▸ List.mem_of_getElem? e1)
      have ap : a ≠ p := ne_of_none k2 hp
      exact ⟨k1, by rw [upd_ne aR, upd_ne ap]; exact k2⟩
    · have hi' : as.length ≤ i := Nat.le_of_not_lt hi
      rw [List.getElem?_append_right hi'] at e1
      rw [List.getElem?_append_right (by rw [← h.len]; exact hi')] at e2
      obtain ⟨e1a, e1b⟩ := List.getElem?_eq_some_iff.mp e1
      obtain ⟨e2a, e2b⟩ := List.getElem?_eq_some_iff.mp e2
      simp only [List.getElem_singleton] at e1b e2b
      subst e1b
      subst e2b
      exact ⟨s.free hp, by rw [upd_ne pR.symm, upd_same]⟩
/-- a row is written -/
theorem RowsAt.write {H0 H : Hp} {R a : Addr} {as : List Addr} {rss : List (List Int)} {i : Nat} {r : List Int} (h : RowsAt H0 H R as rss) (e : as[i]? = some a) : RowsAt H0 (upd H a (.lst (iL r))) R as (rss.set i r) := by
  have aR : R ≠ a := fun z => h.out (z ▸ List.mem_of_getElem? e)
  refine ⟨by rw [upd_ne aR]; exact h.top, h.new, by rw [h.len, List.length_set], h.nd, h.out, fun j b r' e1 e2 => ?_⟩
  by_cases hj : i = j
  · subst hj
    have eb : a = b := Option.some.inj (e.symm.trans e1)
    subst eb
    have hi : i < rss.length := by
      rw [← h.len]
      exact (List.getElem?_eq_some_iff.mp e).1
    rw [List.getElem?_set_self hi] at e2
    cases Option.some.inj e2
    exact ⟨(h.row i a rss[i] e (List.getElem?_eq_getElem hi)).1, upd_same⟩
  · rw [List.getElem?_set_ne hj] at e2
    have ab : b ≠ a := fun z => hj (nd_ix h.nd e (z ▸ e1))
    obtain ⟨k1, k2⟩ := h.row j b r' e1 e2
    exact ⟨k1, by rw [upd_ne ab]; exact k2⟩
theorem RowsAt.sameW {H0 H : Hp} {R a : Addr} {as : List Addr} {rss : List (List Int)} {i : Nat} {o : HO} (h : RowsAt H0 H R as rss) (s : Same H0 H) (e : as[i]? = some a) : Same H0 (upd H a o) := by
  have hi : i < rss.length := by
    rw [← h.len]
    exact (List.getElem?_eq_some_iff.mp e).1
  exact Same.write s (h.row i a rss[i] e (List.getElem?_eq_getElem hi)).1
end Fd
namespace Fd
open PySem PySem.Spec PyProof.Rows L2
/-! ### defs as they stand behind the top -/
structure Fn (K : PySem.W.Frag) (mg : Str → Option Value) (x : Str) (st : Stmt) (ps : List Str) : Prop where
  ex : ∃ (f : Addr) (fd : FuncData), L2.Fun K x x st f fd ∧ mg x = some (.ref f) ∧ Binds K fd ps []
structure FnM (K : PySem.W.Frag) (C : Addr) (m qual : Str) (st : Stmt) (ps : List Str) : Prop where
  ex : ∃ (f : Addr) (fd : FuncData), L2.Fun K m qual st f fd ∧ Meth K C m f ∧ Binds K fd ps []
structure FnI (K : PySem.W.Frag) (C : Addr) (qual : Str) (st : Stmt) (ps : List Str) : Prop where
  ex : ∃ (f : Addr) (fd : FuncData), L2.Fun K "__init__" qual st f fd ∧ Mk K C f ∧ Binds K fd ps []
section
variable {P : Program} {w : World} {K : PySem.W.Frag} {mg : Str → Option Value} {base : Heap}
abbrev Body (P : Program) (w : World) (K : PySem.W.Frag) (mg : Str → Option Value) (base : Heap) (k : Nat) (qual : Str) (st : Stmt) (N : List Str) (sp : Sp) : Prop :=
  ∀ (f : Addr) (cdv : Value) (A : Around) (outer : List Env) (s : Shared) (H : Hp) (vs : List V) (Q : VK) (E : XK), Room k (A.deeper (envOfC qual (defScope st) s.heap.objs.size f cdv)) → sp vs H Q E →
    ∃ t, PSs (cxOf L2.CX0 P w K mg base N qual (defScope st) f cdv A outer s H E).nox (defBody st) t ∧ t { nx := fun _ H' => Q .non H', rt := Q } (start N vs) H
theorem cal_of {x : Str} {st : Stmt} {N ps : List Str} {k : Nat} {sp : Sp} (F : Fn K mg x st ps) (S : FnScope N ps (defScope st)) (len : ∀ vs H Q E, sp vs H Q E → vs.length = ps.length) (hb : Body P w K mg base k x st N sp) :
    C8.Cal P w K mg base (k + 1) x sp [] := by
  obtain ⟨f, fd, F, hm, b⟩ := F.ex
  exact ⟨f, fd, ps, [], F.ok S len fun cdv A outer s H vs Q E hr h => hb f cdv A outer s H vs Q E hr h, hm, F.kp, b, .nil⟩
theorem met_of {C : Addr} {m qual : Str} {st : Stmt} {N ps : List Str} {k : Nat} {sp : Sp} (c : Cls K C) (F : FnM K C m qual st ps) (S : FnScope N ps (defScope st)) (len : ∀ vs H Q E, sp vs H Q E → vs.length = ps.length) (hb : Body P w K mg base k qual st N sp) :
    C8.Met P w K mg base (k + 1) C m sp [] := by
  obtain ⟨f, fd, F, hm, b⟩ := F.ex
  exact ⟨f, fd, ps, [], c, hm, F.ok S len fun cdv A outer s H vs Q E hr h => hb f cdv A outer s H vs Q E hr h, b, .nil⟩
theorem mak_of {C : Addr} {x qual : Str} {st : Stmt} {N ps : List Str} {k : Nat} {sp : Sp} (g : mg x = some (.ref C)) (F : FnI K C qual st ps) (S : FnScope N ps (defScope st)) (len : ∀ vs H Q E, sp vs H Q E → vs.length = ps.length) (hb : Body P w K mg base k qual st N sp) :
    C8.Mak P w K mg base (k + 1) x C sp [] := by
  obtain ⟨f, fd, F, hm, b⟩ := F.ex
  exact ⟨f, fd, ps, [], hm, F.ok S len fun cdv A outer s H vs Q E hr h => hb f cdv A outer s H vs Q E hr h, g, b, .nil⟩
end
end Fd
namespace Fd
open PySem L2
def top (i : Nat) : Stmt := PySem.Challenge.pw_flatdraw_k07_flat.main.body.getD i (.Pass ⟨0, 0, 0, 0⟩)
abbrev sWall : Stmt := top 0
abbrev sReached : Stmt := top 7
abbrev sWay : Stmt := top 8
abbrev sWebInit : Stmt := inClass (top 12) 0
abbrev sWebTies : Stmt := inClass (top 12) 1
abbrev sWebBeside : Stmt := inClass (top 12) 2
abbrev sWebTied : Stmt := inClass (top 12) 3
abbrev sWebPieces : Stmt := inClass (top 12) 4
abbrev sWebCheckPoint : Stmt := inClass (top 12) 5
abbrev sJoined : Stmt := top 13
abbrev sIsTie : Stmt := top 14
abbrev sIsPoint : Stmt := top 15
abbrev sIsNumber : Stmt := top 16
abbrev sAreTurns : Stmt := top 18
abbrev sWalks : Stmt := top 19
abbrev sFlat : Stmt := top 20
abbrev sCheckTurns : Stmt := top 21
abbrev sIsTurn : Stmt := top 22
abbrev sWalk : Stmt := top 23
abbrev sBehind : Stmt := top 24
abbrev sIsFlat : Stmt := top 25
abbrev sBlocks : Stmt := top 27
abbrev sBlock : Stmt := top 28
abbrev sRinged : Stmt := top 29
abbrev sDrawn : Stmt := top 31
abbrev sFields : Stmt := top 32
abbrev sPoints : Stmt := top 33
abbrev sRows : Stmt := top 34
abbrev sBridges : Stmt := top 35
abbrev sTightest : Stmt := top 36
abbrev sHomes : Stmt := top 37
abbrev sPath : Stmt := top 38
abbrev sUntied : Stmt := top 39
abbrev sSplit : Stmt := top 40
abbrev sTurn : Stmt := top 41
abbrev sLawCellAt : Stmt := top 43
abbrev sLawWhole : Stmt := top 44
abbrev sLawMany : Stmt := top 45
abbrev sLawTies : Stmt := top 46
abbrev sLawOrderBy : Stmt := top 47
abbrev sLawTurnsBy : Stmt := top 48
abbrev sLawLabels : Stmt := top 49
abbrev sLawFirsts : Stmt := top 50
abbrev sLawIsFlat : Stmt := top 51
abbrev sLawShaken : Stmt := top 52
abbrev sLawStays : Stmt := top 53
abbrev sLaw : Stmt := top 54
end Fd
namespace Fd
open PySem PySem.Spec PyProof.Rows L2
/-! ### what the top has left, as far as the webs ask -/
structure WTxt (K : PySem.W.Frag) (mg : Str → Option Value) (C : Addr) : Prop where
  cl : Cls K C
  nMany : NoAttr K C "many"
  nRows : NoAttr K C "_rows"
  gWeb : mg "Web" = some (.ref C)
  mostP : ∃ t, mg "MOST_POINTS" = some (.int 16 t)
  mostT : ∃ t, mg "MOST_TIES" = some (.int 40 t)
  len : mg "len" = none
  type : mg "type" = none
  int : mg "int" = none
  list : mg "list" = none
  tuple : mg "tuple" = none
  range : mg "range" = none
  sorted : mg "sorted" = none
  fNum : Fn K mg "is_number" sIsNumber ["thing"]
  fPoint : Fn K mg "is_point" sIsPoint ["many", "thing"]
  fTie : Fn K mg "_is_tie" sIsTie ["many", "thing"]
  fJoined : Fn K mg "_joined" sJoined ["many", "ties"]
  fInit : FnI K C "Web.__init__" sWebInit ["self", "many", "ties"]
/-! ### the small tests -/
def spNum (K : PySem.W.Frag) : Sp := fun vs H Q _ => ∃ (x : V) (T : String), vs = [x] ∧ TyB K H x T ∧ Q (.bl (decide (T = "int"))) H
def isPt (m : Int) : V → Bool
  | .int i => decide (0 ≤ i) && decide (i < m)
  | _ => false
def spPoint (K : PySem.W.Frag) : Sp := fun vs H Q _ => ∃ (m : Int) (x : V) (T : String), vs = [.int m, x] ∧ TyB K H x T ∧ Q (.bl (isPt m x)) H
theorem isPt_int {m : Int} {x : V} (h : isPt m x = true) : ∃ i, x = .int i := by
  cases x with
  | int i => exact ⟨i, rfl⟩
  | _ => cases h
def tieOk (m : Int) : List V → Bool
  | [y, z] => isPt m y && isPt m z && !decide (y = z)
  | _ => false
def spTie (K : PySem.W.Frag) : Sp := fun vs H Q _ => ∃ (m : Int) (x : V), vs = [.int m, x] ∧
  ((∃ T, TyB K H x T ∧ T ≠ "tuple" ∧ Q (.bl false) H) ∨ ∃ (a : Addr) (xs : List V), x = .ref a ∧ SqT K H a xs ∧ (∀ y ∈ xs, ∃ T, TyB K H y T) ∧ Q (.bl (tieOk m xs)) H)
section
variable {P : Program} {w : World} {K : PySem.W.Frag} {mg : Str → Option Value} {base : Heap} {C : Addr}
theorem scNum : FnScope ["thing"] ["thing"] (defScope sIsNumber) := ⟨rfl, rfl, rfl, by decide +kernel, rfl, by decide +kernel, by decide +kernel⟩
theorem c_num (T : WTxt K mg C) : C8.Cal P w K mg base 1 "is_number" (spNum K) [] := by
  refine cal_of T.fNum scNum (fun vs H Q E h => ?_) (fun f cdv A outer s H vs Q E hr h => ?_)
  · obtain ⟨x, t, rfl, _⟩ := h
    rfl
  · obtain ⟨x, t, rfl, ht, k⟩ := h
    refine ⟨_, pss_one (ps_ret (pe_cmpR op_eqTy (pe_callTy call_type1 (by rfl) T.type (by decide +kernel) (pa_cons (pv 0) pa_nil)) (pe_bltn (v := .ty "int") (by rfl) T.int (by decide +kernel) rfl) (nomark _))), ?_⟩
    exact ⟨_, rfl, x, t, rfl, ht, t, "int", rfl, rfl, TyB_kind ht, by decide, k⟩
theorem scPoint : FnScope ["many", "thing"] ["many", "thing"] (defScope sIsPoint) := ⟨rfl, rfl, rfl, by decide +kernel, rfl, by decide +kernel, by decide +kernel⟩
theorem c_point (T : WTxt K mg C) : C8.Cal P w K mg base 2 "is_point" (spPoint K) [] := by
  refine cal_of T.fPoint scPoint (fun vs H Q E h => ?_) (fun f cdv A outer s H vs Q E hr h => ?_)
  · obtain ⟨m, x, t, rfl, _⟩ := h
    rfl
  · obtain ⟨m, x, t, rfl, ht, k⟩ := h
    refine ⟨_, pss_one (ps_ret (pe_and (C8.pe_c (c_num T) hr (by decide) (by rfl) (pa_cons (pv 1) pa_nil)) (pe_one (pe_chain op_le op_lt pe_int (pv 1) (pv 0))))), ?_⟩
    refine ⟨_, rfl, x, t, rfl, ht, _, rfl, ?_⟩
    cases ht with
    | int i =>
      refine iteT ?_
      refine ⟨_, rfl, 0, i, rfl, rfl, _, rfl, ?_⟩
      refine ite2 (fun c => ?_) (fun c => ?_)
      · refine ⟨_, rfl, i, m, rfl, rfl, ?_⟩
        have e : isPt m (.int i) = decide (i < m) := by
          show (decide (0 ≤ i) && decide (i < m)) = _
          rw [c, Bool.true_and]
        rw [e] at k
        exact k
      · have e : isPt m (.int i) = false := by
          show (decide (0 ≤ i) && decide (i < m)) = _
          rw [Bool.eq_false_iff.mpr c, Bool.false_and]
        rw [e] at k
        exact k
    | non => exact k
    | bl b => exact k
    | str x => exact k
    | byt b => exact k
    | lst h => exact k
    | tup h => exact k
    | dK h => exact k
theorem scTie : FnScope ["many", "thing", "one", "other"] ["many", "thing"] (defScope sIsTie) := ⟨rfl, rfl, rfl, by decide +kernel, rfl, by decide +kernel, by decide +kernel⟩
theorem c_tie (T : WTxt K mg C) : C8.Cal P w K mg base 3 "_is_tie" (spTie K) [] := by
  refine cal_of T.fTie scTie (fun vs H Q E h => ?_) (fun f cdv A outer s H vs Q E hr h => ?_)
  · obtain ⟨m, x, rfl, _⟩ := h
    rfl
  · obtain ⟨m, x, rfl, h⟩ := h
    refine ⟨_, pss_cons (ps_if (PW.pt (pw_or (pt_cmpR op_neTy (pe_callTy call_type1 (by rfl) T.type (by decide +kernel) (pa_cons (pv 1) pa_nil)) (pe_bltn (v := .ty "tuple") (by rfl) T.tuple (by decide +kernel) rfl) (nomark _))
        (pw_or1 (pt_cmpR op_ne (pe_callB call_len_seq (by rfl) T.len PySem.boot_len (pa_cons (pv 1) pa_nil)) pe_int (nomark _))))) (pss_one (ps_ret pe_bl)) pss_nil)
      (pss_cons (ps_asg (pv 1) (pg_tup (by rfl) (pgs_cons (pg_name (i := 2) scTie.nd rfl (.inl rfl)) (pgs_cons (pg_name (i := 3) scTie.nd rfl (.inl rfl)) pgs_nil))))
      (pss_one (ps_ret (pe_and (C8.pe_c (c_point T) hr (by decide) (by rfl) (pa_cons (pv 0) (pa_cons (pv 2) pa_nil)))
        (pe_and (C8.pe_c (c_point T) hr (by decide) (by rfl) (pa_cons (pv 0) (pa_cons (pv 3) pa_nil))) (pe_one (pe_cmpR op_ne (pv 2) (pv 3) (nomark _)))))))), ?_⟩
    rcases h with ⟨t, ht, hne, k⟩ | ⟨a, xs, rfl, hT, hy, k⟩
    · refine ⟨_, rfl, x, t, rfl, ht, t, "tuple", rfl, rfl, TyB_kind ht, by decide, _, rfl, ?_⟩
      rw [decide_eq_false hne]
      exact iteT (iteT k)
    · refine ⟨_, rfl, .ref a, "tuple", rfl, .tup hT, "tuple", "tuple", rfl, rfl, by decide, by decide, _, rfl, ?_⟩
      refine iteF ?_
      refine ⟨_, rfl, a, xs, rfl, .inr hT, rfl, _, rfl, ?_⟩
      match xs, hT, hy, k with
      | [], _, _, k => exact iteT k
      | [_], _, _, k => exact iteT k
      | _ :: _ :: _ :: l, _, _, k =>
        refine ite2 (fun _ => k) (fun c => ?_)
        refine absurd ?_ c
        rw [Bool.not_eq_true', decide_eq_false_iff_not]
        intro z
        have z : (((l.length + 1 + 1 + 1 : Nat)) : Int) = 2 := V.int.inj z
        omega
      | [y, z], hT, hy, k =>
        obtain ⟨t1, h1⟩ := hy y (by simp)
        obtain ⟨t2, h2⟩ := hy z (by simp)
        refine iteF ?_
        refine ⟨_, rfl, a, [y, z], rfl, hT, rfl, y, [z], rfl, z, [], rfl, rfl, ?_⟩
        refine ⟨_, rfl, _, rfl, m, y, t1, rfl, h1, _, rfl, ?_⟩
        refine ite2 (fun c1 => ?_) (fun c1 => ?_)
        · refine ⟨_, rfl, _, rfl, m, z, t2, rfl, h2, _, rfl, ?_⟩
          refine ite2 (fun c2 => ?_) (fun c2 => ?_)
          · obtain ⟨i, rfl⟩ := isPt_int c1
            obtain ⟨j, rfl⟩ := isPt_int c2
            refine ⟨_, rfl, _, rfl, rfl, ?_⟩
            have e : tieOk m [.int i, .int j] = !decide (V.int i = V.int j) := by
              show (isPt m (.int i) && isPt m (.int j) && !decide (V.int i = V.int j)) = _
              rw [c1, c2, Bool.and_self, Bool.true_and]
            rw [e] at k
            exact k
          · have e : tieOk m [y, z] = false := by
              show (isPt m y && isPt m z && !decide (y = z)) = _
              rw [c1, Bool.eq_false_iff.mpr c2, Bool.and_false, Bool.false_and]
            rw [e] at k
            exact k
        · have e : tieOk m [y, z] = false := by
            show (isPt m y && isPt m z && !decide (y = z)) = _
            rw [Bool.eq_false_iff.mpr c1, Bool.false_and, Bool.false_and]
          rw [e] at k
          exact k
end
end Fd
namespace Fd
open PySem PySem.Spec PyProof.Rows L2
theorem no_ {b : Bool} {A B : Prop} (e : b = false) (h : B) : if b = true then A else B := by
  rw [e]
  exact iteF h
theorem yep_ {b : Bool} {A B : Prop} (e : b = true) (h : A) : if b = true then A else B := by
  rw [e]
  exact iteT h
theorem yes_ {σ : L2.St} {H : Hp} {Q : Bool → Hp → Prop} (h : Q true H) : tYes σ H Q := h
theorem RowsAt.start {H : Hp} {D : Addr} (h : H D = none) : RowsAt H (upd H D (.lst [])) D [] [] :=
  ⟨upd_same, h, rfl, List.nodup_nil, by simp, fun i a r e _ => by simp at e⟩
/-! ### the rows as they grow -/
def nbRows (m : Nat) (ts : List Tie) : List (List Int) := (pts m).map (nb ts)
theorem nbRows_at {m : Nat} {ts : List Tie} {i : Nat} (h : i < m) : (nbRows m ts)[i]? = some (nb ts i) := by
  unfold nbRows
  rw [List.getElem?_map, pts_at h]
  rfl
theorem nbRows_len (m : Nat) (ts : List Tie) : (nbRows m ts).length = m := by simp [nbRows, pts_len]
theorem nbRows_nil (m : Nat) : nbRows m [] = List.replicate m [] := by
  unfold nbRows
  rw [show (nb [] : Int → List Int) = fun _ => [] from rfl, List.map_const', pts_len]
theorem nbRows_step {m : Nat} {ts : List Tie} {p q : Nat} (hp : p < m) (hq : q < m) (hne : p ≠ q) :
    ((nbRows m ts).set p (nb ts p ++ [(q : Int)])).set q (nb ts q ++ [(p : Int)]) = nbRows m (ts ++ [((p : Int), (q : Int))]) := by
  refine List.ext_getElem? fun j => ?_
  by_cases hj : j < m
  · rw [nbRows_at hj, nb_snoc]
    by_cases h2 : q = j
    · subst h2
      rw [List.getElem?_set_self (by rw [List.length_set, nbRows_len]; exact hj)]
      have e : here ((p : Int), (q : Int)) (q : Int) = [(p : Int)] := by
        unfold here
        rw [if_neg (by show ¬ (p : Int) = (q : Int); omega), if_pos rfl]
        rfl
      rw [e]
    · rw [List.getElem?_set_ne h2]
      by_cases h1 : p = j
      · subst h1
        rw [List.getElem?_set_self (by rw [nbRows_len]; exact hj)]
        have e : here ((p : Int), (q : Int)) (p : Int) = [(q : Int)] := by
          unfold here
          rw [if_pos rfl, if_neg (by show ¬ (q : Int) = (p : Int); omega)]
          rfl
        rw [e]
      · rw [List.getElem?_set_ne h1, nbRows_at hj]
        have e : here ((p : Int), (q : Int)) (j : Int) = [] := by
          unfold here
          rw [if_neg (by show ¬ (p : Int) = (j : Int); omega), if_neg (by show ¬ (q : Int) = (j : Int); omega)]
          rfl
        rw [e, List.append_nil]
  · rw [List.getElem?_eq_none (by rw [List.length_set, List.length_set, nbRows_len]; omega), List.getElem?_eq_none (by rw [nbRows_len]; omega)]
theorem here_len (t : Tie) (p : Int) : (here t p).length ≤ 2 := by
  unfold here
  rw [List.length_append]
  split <;> split <;> simp
theorem nb_len : ∀ (ts : List Tie) (p : Int), (nb ts p).length ≤ 2 * ts.length
  | [], _ => by simp [nb]
  | t :: ts, p => by
    have e : nb (t :: ts) p = here t p ++ nb ts p := by simp [nb]
    have h1 := here_len t p
    have h2 := nb_len ts p
    rw [e, List.length_append, List.length_cons]
    omega
end Fd
namespace Fd
open PySem PySem.Spec PyProof.Rows L2
def spJoined (K : PySem.W.Frag) : Sp := fun vs H Q _ => ∃ (m : Nat) (a : Addr) (ws : List V) (ts : List Tie), vs = [.int m, .ref a] ∧ SqL K H a ws ∧ PairsAt H ws ts ∧ Good m ts ∧ m ≤ 16 ∧ ts.length ≤ 40 ∧
  ∀ (H' : Hp) (R : Addr) (as : List Addr), Same H H' → RowsAt H H' R as (rowsOf m ts) → Q (.ref R) H'
section
variable {P : Program} {w : World} {K : PySem.W.Frag} {mg : Str → Option Value} {base : Heap} {C : Addr}
theorem scJoined : FnScope ["many", "ties", "rows", "tie", "one", "other", "_", "row"] ["many", "ties"] (defScope sJoined) := ⟨rfl, rfl, rfl, by decide +kernel, rfl, by decide +kernel, by decide +kernel⟩
theorem c_joined (T : WTxt K mg C) : C8.Cal P w K mg base 4 "_joined" (spJoined K) [] := by
  refine cal_of T.fJoined scJoined (fun vs H Q E h => ?_) (fun f cdv A outer s H vs Q E hr h => ?_)
  · obtain ⟨m, a, ws, ts, rfl, _⟩ := h
    rfl
  · obtain ⟨m, a, ws, ts, rfl, hS, hP, g, hm, ht, k⟩ := h
    refine ⟨_, pss_cons (ps_setLc (i := 2) (own := [("_", 6)]) (g := gName 6) (tt := tYes) (by rfl) scJoined.nd rfl rfl (sw_true rfl rfl rfl (by decide +kernel)) (pi_range1 (by rfl) T.range (pa_cons (pv 0) pa_nil))
        (blkOk_by (own := [("_", 6)]) (N := ["many", "ties", "rows", "tie", "one", "other", "_", "row"]) (sc := defScope sJoined) (by decide +kernel)) (fun _ _ _ _ _ => pg_name (i := 6) scJoined.nd rfl (Or.inl rfl)) (fun _ _ _ _ _ => pts_nil) (fun _ _ _ _ _ => pe_lst pa_nil))
      (pss_cons (ps_for PassesOwn.never rfl (pi_list (pv 1)) (pg_name (i := 3) scJoined.nd rfl (Or.inl rfl))
        (pss_cons (ps_if (pt_not (pt_val (C8.pe_c (c_tie T) hr (by decide) (by rfl) (pa_cons (pv 0) (pa_cons (pv 3) pa_nil))))) (pss_one ps_never) pss_nil)
        (pss_cons (ps_asg (pv 3) (pg_tup (by rfl) (pgs_cons (pg_name (i := 4) scJoined.nd rfl (.inl rfl)) (pgs_cons (pg_name (i := 5) scJoined.nd rfl (.inl rfl)) pgs_nil))))
        (pss_cons (ps_if (pt_cmpR op_in_seq (pv 5) (pe_ix ix_list (pv 2) (pv 4) (fun _ _ => rfl)) (by rfl)) (pss_one ps_never) pss_nil)
        (pss_cons (ps_expr (pe_bm PySem.F.plainAttrs_list PySem.F.slot_list_append PySem.F.type_list_append mt_append (pe_ix ix_list (pv 2) (pv 4) (fun _ _ => rfl)) (pa_cons (pv 5) pa_nil)))
        (pss_one (ps_expr (pe_bm PySem.F.plainAttrs_list PySem.F.slot_list_append PySem.F.type_list_append mt_append (pe_ix ix_list (pv 2) (pv 5) (fun _ _ => rfl)) (pa_cons (pv 4) pa_nil)))))))))
      (pss_one (ps_ret (pe_lc (own := [("row", 7)]) (g := gName 7) (tt := tYes) (by rfl) scJoined.nd (pi_list (pv 2))
        (blkOk_by (own := [("row", 7)]) (N := ["many", "ties", "rows", "tie", "one", "other", "_", "row"]) (sc := defScope sJoined) (by decide +kernel)) (fun _ _ _ _ _ => pg_name (i := 7) scJoined.nd rfl (Or.inl rfl)) (fun _ _ _ _ _ => pts_nil)
        (fun _ _ _ _ _ => pe_callB (id := "sorted") (r := rSortedI K) cr_sortedI (by rfl) T.sorted (by decide +kernel) (pa_cons (pv 7) pa_nil)))))), ?_⟩
    -- rows = [[] for _ in range(many)]
    refine ⟨_, rfl, (m : Int), rfl, by omega, by omega, fun R hR => ?_⟩
    refine lc_range (lo := 0) (n := (m : Int).toNat) (fun i H1 => Same H H1 ∧ ∃ bs, RowsAt H H1 R bs (List.replicate i [])) ⟨Same.put hR, [], RowsAt.start hR⟩ (fun i H1 hi ⟨s1, bs, r1⟩ => ?_) (fun H1 ⟨s1, as, r1⟩ => ?_)
    · refine ⟨rfl, ?_⟩
      refine yes_ ?_
      refine iteT ?_
      refine ⟨Nat.zero_le _, fun p hp => ?_⟩
      have pR : R ≠ p := ne_of_none r1.top hp
      refine ⟨bs.map V.ref, by rw [upd_ne pR]; exact r1.top, ?_, ?_⟩
      · rw [List.length_map, r1.len, List.length_replicate]
        exact small (by omega)
      · refine ⟨Same.write (Same.step s1 hp) hR, bs ++ [p], ?_⟩
        have q := r1.more (r := []) s1 hp
        rw [List.replicate_succ']
        exact q
    · rw [Int.toNat_natCast] at r1
      -- for tie in ties
      refine ⟨_, rfl, a, rfl, ⟨_, s1.seq hS⟩, for_list (K := K) (a := a) (xs := ws) (fun i σ H2 => ∃ v1 v2 v3 : Option V, σ = [some (.int m), some (.ref a), some (.ref R), v1, v2, v3, none, none] ∧ Same H H2 ∧ RowsAt H H2 R as (nbRows m (ts.take i)))
        ⟨none, none, none, rfl, s1, by rw [List.take_zero, nbRows_nil]; exact r1⟩ (fun i σ H2 _ ⟨_, _, _, _, s2, _⟩ => s2.seq hS) ?_ ?_⟩
      · rintro i x σ H2 hi ⟨v1, v2, v3, rfl, s2, r2⟩
        obtain ⟨t, hti, hpair⟩ := paired_get hP hi
        obtain ⟨c, rfl, hc⟩ := PairAt.same s2 hpair
        have rg := g.rng t (List.mem_of_getElem? hti)
        have ap := g.apart hti
        obtain ⟨t1, t2⟩ := t
        obtain ⟨h1, h2, h3, h4, h5⟩ := rg
        obtain ⟨p, rfl⟩ : ∃ p : Nat, t1 = p := ⟨t1.toNat, by have : 0 ≤ t1 := h1; omega⟩
        obtain ⟨q, rfl⟩ : ∃ q : Nat, t2 = q := ⟨t2.toNat, by have : 0 ≤ t2 := h3; omega⟩
        have hp : p < m := by have : ((p : Int) < m) := h2; omega
        have hq : q < m := by have : ((q : Int) < m) := h4; omega
        have hpq : p ≠ q := fun z => h5 (by rw [z])
        have hil : i < ts.length := (List.getElem?_eq_some_iff.mp hti).1
        obtain ⟨b, eb, ebr, _, hb⟩ := r2.get (nbRows_at (ts := ts.take i) hp)
        have ok : tieOk m [.int p, .int q] = true := by
          show (isPt m (.int p) && isPt m (.int q) && !decide (V.int p = V.int q)) = true
          have e1 : isPt m (.int p) = true := by
            show (decide ((0 : Int) ≤ p) && decide ((p : Int) < m)) = true
            rw [decide_eq_true (by omega), decide_eq_true (by omega), Bool.and_self]
          have e2 : isPt m (.int q) = true := by
            show (decide ((0 : Int) ≤ q) && decide ((q : Int) < m)) = true
            rw [decide_eq_true (by omega), decide_eq_true (by omega), Bool.and_self]
          rw [e1, e2, decide_eq_false (fun z => h5 (V.int.inj z)), Bool.and_self, Bool.true_and, Bool.not_false]
        -- if not _is_tie(many, tie)
        refine ⟨_, rfl, _, rfl, m, .ref c, rfl, .inr ⟨c, [.int p, .int q], rfl, SqT.of hc, fun y hy => ?_, _, rfl, no_ (by rw [ok]; rfl) ?_⟩⟩
        · simp only [List.mem_cons, List.not_mem_nil, or_false] at hy
          rcases hy with rfl | rfl <;> exact ⟨_, .int _⟩
        -- one, other = tie
        refine ⟨_, rfl, c, [.int p, .int q], rfl, SqT.of hc, rfl, .int p, [.int q], rfl, .int q, [], rfl, rfl, ?_⟩
        -- if other in rows[one]
        have hno : inV (.int q) (iL (nb (ts.take i) p)) = false := by
          rw [inV_ints]
          refine decide_eq_false fun z => ?_
          rcases mem_nb.mp z with z | z
          · exact ap.1 z
          · exact ap.2 z
        refine ⟨_, rfl, _, rfl, _, rfl, R, as.map V.ref, p, .ref b, rfl, rfl, SqL.of r2.top, atI_nat ebr, b, iL (nb (ts.take i) p), rfl, .inl (SqL.of hb), rfl, flat_ints _, _, rfl, no_ hno ?_⟩
        -- rows[one].append(other)
        have l1 := nb_len (ts.take i) p
        have l2 := nb_len (ts.take i) q
        rw [List.length_take] at l1 l2
        refine ⟨_, rfl, _, rfl, R, as.map V.ref, p, .ref b, rfl, rfl, SqL.of r2.top, atI_nat ebr, .inl ⟨rfl, _, SqL.of hb⟩, _, rfl, b, _, _, rfl, rfl, hb, by rw [List.length_map]; exact small (by omega), ?_⟩
        have r3 := r2.write (r := nb (ts.take i) p ++ [(q : Int)]) eb
        have e3 : iL (nb (ts.take i) p ++ [(q : Int)]) = iL (nb (ts.take i) p) ++ [V.int q] := by
          unfold iL
          rw [List.map_append]
          rfl
        rw [e3] at r3
        obtain ⟨d, ed, edr, _, hd⟩ := r3.get (i := q) (r := nb (ts.take i) q) (by rw [List.getElem?_set_ne hpq]; exact nbRows_at hq)
        -- rows[other].append(one)
        refine ⟨_, rfl, _, rfl, R, as.map V.ref, q, .ref d, rfl, rfl, SqL.of r3.top, atI_nat edr, .inl ⟨rfl, _, SqL.of hd⟩, _, rfl, d, _, _, rfl, rfl, hd, by rw [List.length_map]; exact small (by omega), ?_⟩
        have r4 := r3.write (r := nb (ts.take i) q ++ [(p : Int)]) ed
        have e4 : iL (nb (ts.take i) q ++ [(p : Int)]) = iL (nb (ts.take i) q) ++ [V.int p] := by
          unfold iL
          rw [List.map_append]
          rfl
        rw [e4, nbRows_step hp hq hpq, ← take_next hti] at r4
        exact ⟨_, _, _, rfl, r3.sameW (r2.sameW s2 eb) ed, r4⟩
      · rintro σ H2 ⟨v1, v2, v3, rfl, s2, r2⟩
        have el : ts.take ws.length = ts := by
          rw [hP.length]
          exact List.take_length
        rw [el] at r2
        refine ⟨_, rfl, R, rfl, ⟨_, SqL.of r2.top⟩, fun D hD => ?_⟩
        refine lc_list (K := K) (a := R) (xs := as.map V.ref) (fun i H3 => Same H2 H3 ∧ ∃ bs, RowsAt H2 H3 D bs ((rowsOf m ts).take i)) ⟨Same.put hD, [], RowsAt.start hD⟩ (fun i H3 _ ⟨s3, _⟩ => s3.seq (SqL.of r2.top)) (fun i x H3 hi ⟨s3, bs, r3⟩ => ?_) (fun H3 ⟨s3, bs, r3⟩ => ?_)
        · have him : i < m := by
            have q := (List.getElem?_eq_some_iff.mp hi).1
            rw [List.length_map, r2.len, nbRows_len] at q
            exact q
          obtain ⟨b, eb, ebr, _, hb⟩ := r2.get (nbRows_at (ts := ts) him)
          obtain rfl : x = .ref b := Option.some.inj (hi.symm.trans ebr)
          refine ⟨rfl, ?_⟩
          refine yes_ ?_
          refine iteT ?_
          refine ⟨_, rfl, b, nb ts i, rfl, SqL.of (s3 _ _ hb), fun ns' p hp hs hnew => ?_⟩
          have e := row_sorted g hp hs
          subst e
          have pD : D ≠ p := ne_of_none r3.top hnew
          refine ⟨bs.map V.ref, by rw [upd_ne pD]; exact r3.top, ?_, Same.write (Same.step s3 hnew) hD, bs ++ [p], ?_⟩
          · rw [List.length_map, r3.len, List.length_take, rowsOf_len]
            exact small (by omega)
          · have q := r3.more (r := rowOf m ts i) s3 hnew
            rw [take_next (rowsOf_at him)]
            exact q
        · have e5 : (rowsOf m ts).take (as.map V.ref).length = rowsOf m ts := by
            rw [List.length_map, r2.len, nbRows_len]
            exact List.take_of_length_le (by rw [rowsOf_len]; exact Nat.le_refl _)
          rw [e5] at r3
          exact k _ D bs (s2.trans s3) (r3.older s2)
end
end Fd
namespace Fd
theorem least {P : Nat → Prop} (h : ∃ k, P k) : ∃ k, P k ∧ ∀ j, j < k → ¬ P j := by
  obtain ⟨k, hk⟩ := h
  induction k using Nat.strongRecOn with
  | ind k ih =>
    by_cases c : ∃ j, j < k ∧ P j
    · obtain ⟨j, h1, h2⟩ := c
      exact ih j h1 h2
    · exact ⟨k, hk, fun j h1 h2 => c ⟨j, h1, h2⟩⟩
end Fd
namespace Fd
open PySem PySem.Spec PyProof.Rows L2
/-! ### masks whose every slot is met -/
def orbN (m : Nat) : Nat → Nat → List Nat
  | 0, _ => []
  | k + 1, x => x :: orbN m k ((x * 5 + 1) % (m + 1))
theorem orbN_at (m : Nat) : ∀ (n b : Nat) {y : Nat}, y ∈ orbN m n (lcgN m b) → ∃ k, k < n ∧ lcgN m (b + k) = y
  | 0, b, y, h => by cases h
  | n + 1, b, y, h => by
    rcases List.mem_cons.mp h with rfl | h
    · exact ⟨0, Nat.succ_pos n, rfl⟩
    · obtain ⟨k, hk, e⟩ := orbN_at m n (b + 1) h
      exact ⟨k + 1, Nat.succ_lt_succ hk, by rw [← e]; congr 1; omega⟩
theorem big_orb : ((List.range 512).all fun j => (orbN 511 512 0).any fun y => y == j) = true := by decide +kernel
theorem big_round : lcgN 511 512 = 0 := by decide +kernel
theorem big_all {j : Nat} (h : j ≤ 511) : ∃ b, b ≤ 511 ∧ lcgN 511 b = j := by
  have q := List.all_eq_true.mp big_orb j (List.mem_range.mpr (by omega))
  obtain ⟨y, hy, e⟩ := List.any_eq_true.mp q
  obtain ⟨k, hk, e2⟩ := orbN_at 511 512 0 (y := y) hy
  rw [Nat.zero_add] at e2
  exact ⟨k, by omega, e2.trans (beq_iff_eq.mp e)⟩
theorem big_wrap : ∀ k, lcgN 511 (512 + k) = lcgN 511 k
  | 0 => big_round
  | k + 1 => congrArg (fun z => (z * 5 + 1) % 512) (big_wrap k)
theorem big_meet {i j : Nat} (hi : i ≤ 511) (hj : j ≤ 511) : ∃ k, k ≤ 511 ∧ lcgI 511 i k = j := by
  obtain ⟨x, hx, rfl⟩ := big_all hi
  obtain ⟨y, hy, rfl⟩ := big_all hj
  by_cases c : x ≤ y
  · exact ⟨y - x, by omega, by rw [lcgN_add]; congr 1; omega⟩
  · refine ⟨512 + y - x, by omega, ?_⟩
    rw [lcgN_add, ← big_wrap y]
    congr 1
    omega
structure Msk (m : Nat) : Prop where
  odd : m % 2 = 1
  top : m ≤ 511
  run : ∀ (h : Int) (j : Nat), j ≤ m → ∃ n, n ≤ m + 12 ∧ runI m (SetTable.bits h) n = j
theorem msk_old {m : Nat} (h : MaskOk m) : Msk m := by
  refine ⟨mask_odd h, ?_, fun x j hj => run_meets h x hj⟩
  rcases h with e | e | e
  · omega
  · omega
  · omega
theorem msk_big : Msk 511 := by
  refine ⟨rfl, Nat.le_refl _, fun h j hj => ?_⟩
  obtain ⟨k, hk, e⟩ := big_meet (runI_le 511 (SetTable.bits h) 12) hj
  exact ⟨12 + k, by omega, (runI_tail (bits_lt h) k).trans e⟩
theorem Msk.meets {m : Nat} (M : Msk m) (h : Int) {j : Nat} (hj : j ≤ m) : ∃ k, k < 10 * SetTable.turns m ∧ way m h k = j := by
  obtain ⟨n, hn, e⟩ := M.run h j hj
  obtain ⟨k, hk, q⟩ := run_nth m (SetTable.bits h) n
  refine ⟨k, ?_, ?_⟩
  · unfold SetTable.turns
    omega
  · show (nth m (runAt m (SetTable.bits h % (m + 1)) (SetTable.bits h)) k).j = j
    rw [q]
    exact e
theorem way_in (m : Nat) (h : Int) (k : Nat) : way m h k ≤ m := by
  have i0 : SetTable.bits h % (m + 1) ≤ m := Nat.le_of_lt_succ (Nat.mod_lt _ (Nat.succ_pos m))
  have r := (runEnd_bd i0).1
  have q : (nth m (runAt m (SetTable.bits h % (m + 1)) (SetTable.bits h)) k).j + (nth m (runAt m (SetTable.bits h % (m + 1)) (SetTable.bits h)) k).more ≤ m := nth_in k _ (by
    show SetTable.bits h % (m + 1) + (SetTable.runEnd m (SetTable.bits h % (m + 1)) - SetTable.bits h % (m + 1)) ≤ m
    have := runEnd_ge m (SetTable.bits h % (m + 1))
    omega)
  exact Nat.le_trans (Nat.le_add_right _ _) q
/-! ### a table by its hashes -/
structure TabW (t : SetTable) (hs : List Int) : Prop where
  up : Ris t.place.toList
  nod : t.dummies = #[]
  siz : t.place.size = hs.length
  msk : Msk t.mask
  ins : ∀ x ∈ t.place.toList, x ≤ t.mask
  met : ∀ (i : Nat) (g : Int) (y : Nat), hs[i]? = some g → t.place.toList[i]? = some y → ∃ k, way t.mask g k = y ∧ ∀ q, q < k → way t.mask g q ∈ t.place.toList
theorem TabW.len {t : SetTable} {hs : List Int} (B : TabW t hs) : t.place.toList.length = hs.length := by
  rw [Array.length_toList]
  exact B.siz
theorem TabW.hole {t : SetTable} {hs : List Int} (B : TabW t hs) (few : hs.length ≤ t.mask) (g : Int) : ∃ n, n < 10 * SetTable.turns t.mask ∧ way t.mask g n ∉ t.place.toList ∧ ∀ q, q < n → way t.mask g q ∈ t.place.toList := by
  obtain ⟨y, hy, out⟩ := st_missing t.place.toList (t.mask + 1) (by rw [B.len]; omega)
  obtain ⟨k, hk, e⟩ := B.msk.meets g (Nat.le_of_lt_succ hy)
  obtain ⟨n, ⟨a, b⟩, c⟩ := least (P := fun n => n < 10 * SetTable.turns t.mask ∧ way t.mask g n ∉ t.place.toList) ⟨k, hk, fun z => out (by rw [← e]; exact z)⟩
  exact ⟨n, a, b, fun q hq => Classical.byContradiction fun z => c q hq ⟨by omega, z⟩⟩
theorem TabW.ahead {t : SetTable} {hs : List Int} (B : TabW t hs) {g : Int} {n i y : Nat} (out : way t.mask g n ∉ t.place.toList) (e1 : hs[i]? = some g) (e2 : t.place.toList[i]? = some y) : ∃ k, k < n ∧ way t.mask g k = y := by
  obtain ⟨k, e, full⟩ := B.met i g y e1 e2
  have ne : k ≠ n := fun z => out (by rw [← z, e]; exact List.mem_of_getElem? e2)
  have nl : ¬ n < k := fun z => out (full n z)
  exact ⟨k, by omega, e⟩
theorem TabW.add {t : SetTable} {hs : List Int} (B : TabW t hs) {g : Int} {n y p : Nat} (ey : way t.mask g n = y) (ep : SetTable.below t.place y = p) (out : y ∉ t.place.toList) (full : ∀ q, q < n → way t.mask g q ∈ t.place.toList) :
    (t.put y).2 = p ∧ p ≤ hs.length ∧ TabW (t.put y).1 (hs.take p ++ g :: hs.drop p) ∧ (t.put y).1.mask = t.mask ∧ (t.put y).1.led = t.led ∧ (t.put y).1.plain = t.plain ∧ (t.put y).1.fill = hs.length + 1 := by
  have cut := (below_cut B.up y).1
  rw [ep] at cut
  have p1 : p ≤ t.place.toList.length := by rw [Array.length_toList]; exact cut
  have p2 : p ≤ hs.length := by rw [← B.len]; exact p1
  have new : t.place[SetTable.below t.place y]? ≠ some y := fun e => out (List.mem_of_getElem? (by rw [Array.getElem?_toList]; exact e))
  have pl : (t.put y).1.place.toList = t.place.toList.take p ++ y :: t.place.toList.drop p := by rw [← ep]; exact put_place t y
  have sz : (t.put y).1.place.size = hs.length + 1 := by rw [← Array.length_toList, pl, len_ins _ p1, B.len]
  have more : ∀ z, z ∈ t.place.toList → z ∈ (t.put y).1.place.toList := fun z hz => by rw [pl]; exact mem_ins.2 (.inr hz)
  refine ⟨ep, p2, ⟨ris_insert B.up new, put_dm B.nod y, by rw [sz, len_ins _ p2], B.msk, fun z hz => ?_, fun i h' z e1 e2 => ?_⟩, rfl, rfl, rfl, ?_⟩
  · rw [pl] at hz
    rcases mem_ins.1 hz with rfl | hz
    · rw [← ey]
      exact way_in _ _ _
    · exact B.ins z hz
  · rw [tins_get hs p2] at e1
    rw [pl, tins_get _ p1] at e2
    have old : ∀ i', hs[i']? = some h' → t.place.toList[i']? = some z → ∃ k, way t.mask h' k = z ∧ ∀ q, q < k → way t.mask h' q ∈ (t.put y).1.place.toList := fun i' a b => by
      obtain ⟨k, c, d⟩ := B.met i' h' z a b
      exact ⟨k, c, fun q hq => more _ (d q hq)⟩
    by_cases c1 : i < p
    · rw [if_pos c1] at e1 e2
      exact old i e1 e2
    · rw [if_neg c1] at e1 e2
      by_cases c2 : i = p
      · rw [if_pos c2] at e1 e2
        cases e1
        cases e2
        exact ⟨n, ey, fun q hq => more _ (full q hq)⟩
      · rw [if_neg c2] at e1 e2
        exact old (i - 1) e1 e2
  · show (t.put y).1.place.size + (t.put y).1.dummies.size = hs.length + 1
    rw [sz, put_dm B.nod y]
    rfl
/-! ### laid anew -/
theorem spot {m : Nat} (M : Msk m) (ow : Array (Option Nat)) (g : Int) {y : Nat} (hy : y ≤ m) (free : oAt ow y = none) :
    ∃ n, SetTable.layClean.free m ow (SetTable.turns m) (SetTable.bits g % (m + 1)) (SetTable.bits g) = some (way m g n) ∧ oAt ow (way m g n) = none ∧ ∀ q, q < n → oAt ow (way m g q) ≠ none := by
  obtain ⟨r, hr, e⟩ := M.run g y hy
  have land : way m g (off m (SetTable.bits g % (m + 1)) (SetTable.bits g) r) = y := by
    have z := congrArg SetTable.Probe.j (nth_off m r (SetTable.bits g % (m + 1)) (SetTable.bits g))
    rw [itL_run] at z
    exact z.trans e
  obtain ⟨n, ⟨a, b⟩, c⟩ := least (P := fun n => n ≤ off m (SetTable.bits g % (m + 1)) (SetTable.bits g) r ∧ oAt ow (way m g n) = none) ⟨_, Nat.le_refl _, by rw [land]; exact free⟩
  have busy : ∀ q, q < n → oAt ow (way m g q) ≠ none := fun q hq z => c q hq ⟨by omega, z⟩
  refine ⟨n, ?_, b, busy⟩
  refine free_spec m ow (SetTable.turns m) r (SetTable.bits g % (m + 1)) (SetTable.bits g) n ?_ a (fun q hq => ?_) ?_
  · unfold SetTable.turns
    omega
  · have z := busy q hq
    show (oAt ow (way m g q)).isNone = false
    cases w : oAt ow (way m g q) with
    | none => exact absurd w z
    | some _ => rfl
  · show (oAt ow (way m g n)).isNone = true
    rw [b]
    rfl
theorem own_next {m : Nat} (M : Msk m) {past : List Int} {ow : Array (Option Nat)} (W : Own m past ow) (few : past.length ≤ m) (g : Int) :
    ∃ y, SetTable.layClean.free m ow (SetTable.turns m) (SetTable.bits g % (m + 1)) (SetTable.bits g) = some y ∧ Own m (past ++ [g]) (ow.setIfInBounds y (some past.length)) := by
  obtain ⟨ps, pl, pin⟩ := W.ps
  obtain ⟨y0, hy0, out⟩ := st_missing ps (m + 1) (by omega)
  have free : oAt ow y0 = none := Classical.byContradiction fun z => out (pin y0 (Nat.le_of_lt_succ hy0) z)
  obtain ⟨n, e, fr, busy⟩ := spot M ow g (Nat.le_of_lt_succ hy0) free
  have ym : way m g n ≤ m := way_in m g n
  have ys : way m g n < ow.size := by rw [W.sz]; omega
  have here := oAt_set_self (owner := ow) (some past.length) ys
  have stays : ∀ i, oAt ow i ≠ none → oAt (ow.setIfInBounds (way m g n) (some past.length)) i ≠ none := fun i hi => by
    by_cases c : i = way m g n
    · subst c
      rw [here]
      exact Option.some_ne_none _
    · rw [oAt_set_ne _ c]
      exact hi
  refine ⟨_, e, ⟨(Array.size_setIfInBounds ..).trans W.sz, fun j k hj q => ?_, fun k hk => ?_, way m g n :: ps, ?_, fun j hj q => ?_⟩⟩
  · by_cases c : j = way m g n
    · subst c
      rw [here] at q
      cases q
      refine ⟨g, n, ?_, rfl, fun r hr => stays _ (busy r hr)⟩
      rw [List.getElem?_append_right (Nat.le_refl _), Nat.sub_self]
      rfl
    · rw [oAt_set_ne _ c] at q
      obtain ⟨h', n', a1, a2, a3⟩ := W.at_ j k hj q
      exact ⟨h', n', by rw [List.getElem?_append_left (List.getElem?_eq_some_iff.mp a1).1]; exact a1, a2, fun r hr => stays _ (a3 r hr)⟩
  · rw [List.length_append] at hk
    by_cases c : k < past.length
    · obtain ⟨j, hj, q⟩ := W.all k c
      have ne : j ≠ way m g n := fun z => by
        rw [z, fr] at q
        cases q
      exact ⟨j, hj, by rw [oAt_set_ne _ ne]; exact q⟩
    · have ek : k = past.length := by
        have : k < past.length + 1 := hk
        omega
      subst ek
      exact ⟨_, ym, here⟩
  · rw [List.length_cons, List.length_append, pl]
    rfl
  · by_cases c : j = way m g n
    · rw [c]
      exact List.mem_cons_self
    · rw [oAt_set_ne _ c] at q
      exact List.mem_cons_of_mem _ (pin j hj q)
theorem own_fold {m : Nat} (M : Msk m) : ∀ (todo past : List Int) (ow : Array (Option Nat)), Own m past ow → past.length + todo.length ≤ m →
    ∃ ow', todo.foldl (stepF m) (some (ow, past.length)) = some (ow', (past ++ todo).length) ∧ Own m (past ++ todo) ow'
  | [], past, ow, W, _ => ⟨ow, by rw [List.append_nil]; rfl, by rw [List.append_nil]; exact W⟩
  | g :: todo, past, ow, W, le => by
    have le2 : past.length + (todo.length + 1) ≤ m := le
    obtain ⟨y, e, W1⟩ := own_next M W (by omega) g
    have l1 : (past ++ [g]).length = past.length + 1 := List.length_append
    obtain ⟨ow', f, W2⟩ := own_fold M todo (past ++ [g]) _ W1 (by omega)
    rw [List.append_assoc] at f W2
    rw [l1] at f
    exact ⟨ow', (congrArg (todo.foldl (stepF m)) (stepF_some e)).trans f, W2⟩
theorem relaidW (t : SetTable) {hs : Array Int} {wanted M : Nat} (em : SetTable.sizeAbove wanted - 1 = M) (mk : Msk M) (few : hs.size ≤ M) :
    ∃ t' ord, t.relaid hs wanted = some (t', ord) ∧ ord.toList.Perm (List.range hs.size) ∧ TabW t' (ord.toList.map fun i => hs.getD i 0) ∧ t'.mask = M ∧ t'.led = t.led ∧ t'.plain = t.plain := by
  obtain ⟨ow, f, W⟩ := own_fold mk hs.toList [] _ (Own.init M) (by rw [Array.length_toList]; show 0 + hs.size ≤ M; omega)
  rw [List.nil_append] at W
  have lay : SetTable.layClean M hs = some ow := by
    rw [layClean_eq]
    exact congrArg (Option.map (·.1)) f
  have rel : t.relaid hs wanted = some (tabOf t M ow, ((liveOf M ow).map (·.2)).toArray) := by
    rw [relaid_eq, em, lay]
    rfl
  obtain ⟨r1, r2⟩ := ris_live (fun j => ow.getD j none) (List.range (M + 1)) (show Ris _ from List.pairwise_lt_range)
  have r1 : Ris ((liveOf M ow).map (·.1)) := r1
  have r2 : ∀ x ∈ (liveOf M ow).map (·.1), x ∈ List.range (M + 1) := r2
  have nd : ((liveOf M ow).map (·.1)).Nodup := r1.imp fun h => Nat.ne_of_lt h
  have many : ∀ k, k < hs.size → k ∈ (liveOf M ow).map (·.2) := fun k hk => by
    obtain ⟨j, a, b⟩ := W.all k (by rw [Array.length_toList]; exact hk)
    exact List.mem_map.mpr ⟨(j, k), (mem_live W.sz).2 ⟨a, b⟩, rfl⟩
  have count : (liveOf M ow).length = hs.size := by
    obtain ⟨ps, pl, pin⟩ := W.ps
    have a := nat_nodup_len _ ps nd fun x hx => by
      obtain ⟨⟨u, k⟩, hq, rfl⟩ := List.mem_map.mp hx
      obtain ⟨b1, b2⟩ := (mem_live W.sz).1 hq
      exact pin u b1 (by rw [b2]; exact Option.some_ne_none _)
    have b := nat_nodup_len (List.range hs.size) _ List.nodup_range fun k hk => many k (List.mem_range.mp hk)
    rw [List.length_map] at a b
    rw [List.length_range] at b
    have c : hs.toList.length = hs.size := Array.length_toList
    omega
  refine ⟨_, _, rel, perm_range hs.size _ (by show ((liveOf M ow).map (·.2)).length = hs.size; rw [List.length_map]; exact count) many, ⟨r1, rfl, ?_, mk, fun x hx => Nat.le_of_lt_succ (List.mem_range.mp (r2 x hx)), fun i g y e1 e2 => ?_⟩, rfl, rfl, rfl⟩
  · show ((liveOf M ow).map (·.1)).toArray.size = _
    rw [List.size_toArray, List.length_map, List.length_map, List.length_map]
  · have e1 : (((liveOf M ow).map (·.2)).map fun i => hs.getD i 0)[i]? = some g := e1
    have e2 : ((liveOf M ow).map (·.1))[i]? = some y := e2
    rw [List.getElem?_map, List.getElem?_map] at e1
    rw [List.getElem?_map] at e2
    cases el : (liveOf M ow)[i]? with
    | none =>
      rw [el] at e2
      cases e2
    | some u =>
      rw [el] at e1 e2
      obtain ⟨z, k⟩ := u
      obtain rfl : z = y := Option.some.inj e2
      have eg : hs.getD k 0 = g := Option.some.inj e1
      obtain ⟨b1, b2⟩ := (mem_live W.sz).1 (List.mem_of_getElem? el)
      obtain ⟨g', n, a1, a2, a3⟩ := W.at_ z k b1 b2
      have eg2 : hs.getD k 0 = g' := by
        rw [Array.getD_eq_getD_getElem?, ← Array.getElem?_toList, a1]
        rfl
      obtain rfl : g' = g := eg2.symm.trans eg
      refine ⟨n, a2, fun q hq => ?_⟩
      show way M g' q ∈ (liveOf M ow).map (·.1)
      cases w : oAt ow (way M g' q) with
      | none => exact absurd w (a3 q hq)
      | some k2 => exact List.mem_map.mpr ⟨(way M g' q, k2), (mem_live W.sz).2 ⟨way_in M g' q, w⟩, rfl⟩
theorem size_308 : SetTable.sizeAbove (SetTable.grown 77) = 512 := by decide +kernel
end Fd
namespace Fd
open PySem PySem.Spec PyProof.Rows L2
abbrev hashesW (P : Program) (w : World) (L : List (Addr × List Int)) : List Int := L.map fun p => thash P w p.2
structure SetW (P : Program) (w : World) (h : Heap) (a : Addr) (L : List (Addr × List Int)) (es : Array (Int × Value)) (ep : Nat) (t : SetTable) : Prop where
  obj : ∃ o, h.get? a = some o ∧ o.ExactSet ∧ o.data = .set es ep t
  rws : es.toList = L2.rowsOf P w L
  tb : TabW t (hashesW P w L)
  one : (L.map (·.2)).Nodup
  tup : ∀ p ∈ L, IsT P w h p.2 p.1
  pln : t.plain = true
  ld : w.params.followText "set-order" = true ∨ t.led = true
  rm : L.length * 5 < t.mask * 3
  lt : L.length < 100
section
variable {P : Program} {w : World} {A : Around} {E : Value → Shared → Prop} {s : Shared} {a x : Addr} {L : List (Addr × List Int)} {es : Array (Int × Value)} {ep : Nat} {t : SetTable} {k : List Int}
theorem rows_len {es : Array (Int × Value)} (h : es.toList = L2.rowsOf P w L) : es.size = L.length := by
  have e := congrArg List.length h
  rw [Array.length_toList] at e
  rw [e]
  exact List.length_map _
theorem SetW.ok (R : SetW P w s.heap a L es ep t) : t.fits es.size = true := by
  have e1 := rows_len R.rws
  have e2 := R.tb.siz
  have e3 := R.rm
  rw [List.length_map] at e2
  unfold SetTable.fits SetTable.fill
  rw [R.tb.nod, e1, e2, Bool.and_eq_true, beq_iff_eq, decide_eq_true_eq]
  refine ⟨rfl, ?_⟩
  show L.length + 0 ≤ t.mask
  omega
theorem SetW.row (R : SetW P w s.heap a L es ep t) {i : Nat} {p : Addr × List Int} (h : L[i]? = some p) : es[i]? = some (thash P w p.2, Value.ref p.1) := by
  have e : es.toList[i]? = some (thash P w p.2, Value.ref p.1) := by
    rw [R.rws]
    show (L.map fun p => (thash P w p.2, Value.ref p.1))[i]? = _
    rw [List.getElem?_map, h]
    rfl
  rw [Array.getElem?_toList] at e
  exact e
theorem SetW.sound (R : SetW P w s.heap a L es ep t) : ¬ t.gaveWay = true := by
  unfold SetTable.gaveWay
  rw [R.tb.msk.odd]
  decide
abbrev stW (t : SetTable) (h : Int) (c : Nat) : SetTable.Probe := nth t.mask (runAt t.mask (SetTable.bits h % (t.mask + 1)) (SetTable.bits h)) c
theorem stW_dm (t : SetTable) (h : Int) (c : Nat) : (stW t h c).dummy = none := by
  have go : ∀ (n : Nat) (p : SetTable.Probe), p.dummy = none → (nth t.mask p n).dummy = none := fun n => by
    induction n with
    | zero => exact fun p z => z
    | succ n ih =>
      refine fun p z => ih (adv t.mask p) ?_
      unfold adv
      split
      · exact z
      · exact z
  exact go c _ rfl
theorem stW_add (t : SetTable) (h : Int) (c q : Nat) : nth t.mask (stW t h c) q = stW t h (c + q) := (nth_add t.mask c _ q).symm
theorem SetW.item (R : SetW P w s.heap a L es ep t) {i j : Nat} (h : t.place.toList[i]? = some j) : ∃ p, L[i]? = some p := by
  have h1 := (List.getElem?_eq_some_iff.mp h).1
  have h2 := R.tb.len
  rw [List.length_map] at h2
  exact ⟨_, List.getElem?_eq_getElem (by omega : i < L.length)⟩
/-- the search, with or without what adding asks -/
theorem goW (R : SetW P w s.heap a L es ep t) (hx : IsT P w s.heap k x) (hu : A.units < cLine) {N : Nat} (hN : N < 10 * SetTable.turns t.mask) (ad : Bool)
    (free : (stW t (thash P w k) N).j ∉ t.place.toList) (full : ∀ c, c < N → (stW t (thash P w k) c).j ∈ t.place.toList) {Q : SetFound → Shared → Prop}
    (yes : k ∈ L.map (·.2) → ∀ i, (ad = false → i.isSome = true) → Q (.there i) s) (no : k ∉ L.map (·.2) → Q (.free (stW t (thash P w k) N).j false) s) :
    ∀ (f c : Nat) (st : Option SetTable.Probe), st.getD (t.probeStart (thash P w k)) = stW t (thash P w k) c → c ≤ N → N - c < f →
      (∀ (i : Nat) p, L[i]? = some p → p.2 = k → ∃ d, c ≤ d ∧ d < N ∧ t.place.toList[i]? = some (stW t (thash P w k) d).j) →
      wpAny (model P w) A (setSearchFrom a (.ref x) (thash P w k) ad f st) Q E s := by
  obtain ⟨o, ho, hex, hd⟩ := R.obj
  intro f
  induction f with
  | zero => exact fun c st _ _ z _ => absurd z (Nat.not_lt_zero _)
  | succ f ih =>
    intro c st est hc hf left
    have hashes : ∀ (i : Nat) p, L[i]? = some p → (es[i]?.map (·.1)).getD 0 = thash P w p.2 := fun i p hp => by
      rw [R.row hp]
      rfl
    have passed : ∀ {d q : Nat}, c ≤ d → (∀ (q' i' : Nat), q' < q → t.place.toList[i']? = some (nth t.mask (stW t (thash P w k) c) q').j → (es[i']?.map (·.1)).getD 0 ≠ thash P w k) → ∀ (i : Nat) p, L[i]? = some p → p.2 = k →
        t.place.toList[i]? = some (stW t (thash P w k) d).j → c + q ≤ d := fun {d q} cd pass i p hp hk ht => by
      rcases Nat.lt_or_ge d (c + q) with z | z
      · refine absurd ((hashes i p hp).trans (congrArg (thash P w) hk)) (pass (d - c) i (by omega) ?_)
        rw [stW_add, show c + (d - c) = d by omega]
        exact ht
      · exact z
    rw [setSearchFrom_succ]
    refine wpAny_bind (wpAny_setState_of ho hd R.ok ?_)
    dsimp only
    refine wp_if_neg R.sound ?_
    try refine wpAny_bind (wpAny_pure ?_)
    rcases go_spec t R.tb.up R.tb.nod (fun i => (es[i]?.map (·.1)).getD 0) (thash P w k) (10 * SetTable.turns t.mask) (N - c) (stW t (thash P w k) c) (stW_dm t _ c) (by omega)
        (fun q hq => by rw [stW_add]; exact full _ (by omega)) (by rw [stW_add, show c + (N - c) = N by omega]; exact free) with ⟨q, i, hq, hi, hh, pass, pr⟩ | ⟨pass, pr⟩
    · rw [stW_add] at hi
      rw [stW_add, stW_add] at pr
      have pr2 : t.probe (fun i => (es[i]?.map (·.1)).getD 0) (thash P w k) (st.getD (t.probeStart (thash P w k))) = some (.candidate (stW t (thash P w k) (c + q)).j i (stW t (thash P w k) (c + (q + 1)))) := by
        rw [est]
        exact pr
      rw [pr2]
      dsimp only
      obtain ⟨p, hp⟩ := R.item hi
      have pm := List.mem_of_getElem? hp
      have sl := slot_live R.tb.up hi
      have rest : wpAny (model P w) A (searchRest a (.ref x) (thash P w k) ad f es t (stW t (thash P w k) (c + q)).j i (stW t (thash P w k) (c + (q + 1)))) Q E s := by
        unfold searchRest
        rw [R.row hp]
        dsimp only
        refine wpAny_bind (wpAny_holding (wpAny_eqBool_tuple hu (R.tup p pm) hx ?_))
        refine wpAny_bind (wpAny_setState_of ho hd R.ok ?_)
        dsimp only
        have on : p.2 ≠ k → wpAny (model P w) A (setSearchFrom a (.ref x) (thash P w k) ad f (some (stW t (thash P w k) (c + (q + 1))))) Q E s := fun e => by
          refine ih (c + (q + 1)) _ rfl (by omega) (by omega) fun i1 p1 h1 k1 => ?_
          obtain ⟨d, d1, d2, d3⟩ := left i1 p1 h1 k1
          have d4 := passed d1 pass i1 p1 h1 k1 d3
          refine ⟨d, ?_, d2, d3⟩
          rcases Nat.lt_or_ge (c + q) d with z | z
          · omega
          · have ed : d = c + q := by omega
            subst ed
            have sl1 := slot_live R.tb.up d3
            rw [sl] at sl1
            cases sl1
            cases Option.some.inj (hp.symm.trans h1)
            exact absurd k1 e
        have key : ad = true ∧ p.2 = k ∨ ¬ (ad = true ∧ p.2 = k) := Classical.em _
        rcases key with ⟨rfl, e⟩ | key
        · refine wp_if_pos (by simp [e]) ?_
          exact wpAny_pure (yes (List.mem_map.mpr ⟨p, pm, e⟩) none (fun z => nomatch z))
        · refine wp_if_neg (by simpa using key) ?_
          try refine wpAny_bind (wpAny_pure ?_)
          rw [sameMem]
          dsimp only
          simp only [if_true, sl, R.row hp]
          refine wpAny_bind (wpAny_isSame_ref_self (wpAny_bind (wpAny_pure ?_)))
          simp only [if_true]
          by_cases e : p.2 = k
          · refine wp_if_pos (by simp [e]) ?_
            exact wpAny_pure (yes (List.mem_map.mpr ⟨p, pm, e⟩) (some i) fun _ => rfl)
          · refine wp_if_neg (by simp [e]) ?_
            exact on e
      by_cases led : t.led = true
      · refine wp_if_neg (by simp [led]) ?_
        try refine wpAny_bind (wpAny_pure ?_)
        exact rest
      · refine wp_if_pos (by simp [led]) ?_
        have tups : ∀ y ∈ (es.filter (·.1 == thash P w k)).toList.map (·.2), ∃ k' c, y = Value.ref c ∧ IsT P w s.heap k' c := fun y hy => by
          obtain ⟨e, he, ee⟩ := List.mem_map.mp hy
          have h1 : e ∈ es ∧ e.1 = thash P w k := by simpa using he
          have h2 : e ∈ es.toList := by simpa using h1.1
          rw [R.rws] at h2
          obtain ⟨u, hu1, hu2⟩ := List.mem_map.mp h2
          exact ⟨u.2, u.1, by rw [← ee, ← hu2], R.tup u hu1⟩
        refine wpAny_bind (seen_tup hx tups ?_)
        refine wp_if_neg (by decide) ?_
        try refine wpAny_bind (wpAny_pure ?_)
        exact rest
    · have pr2 : t.probe (fun i => (es[i]?.map (·.1)).getD 0) (thash P w k) (st.getD (t.probeStart (thash P w k))) = some (.empty (stW t (thash P w k) N).j none) := by
        rw [est]
        rw [stW_add, show c + (N - c) = N by omega] at pr
        exact pr
      rw [pr2]
      dsimp only
      refine wpAny_pure (no fun hm => ?_)
      obtain ⟨p, hp, hk⟩ := List.mem_map.mp hm
      obtain ⟨i, hi⟩ := List.mem_iff_getElem?.mp hp
      obtain ⟨d, d1, d2, d3⟩ := left i p hi hk
      have := passed d1 pass i p hi hk d3
      omega
theorem seekW (R : SetW P w s.heap a L es ep t) (hx : IsT P w s.heap k x) (hu : A.units < cLine) (ad : Bool) {Q : SetFound → Shared → Prop}
    (yes : k ∈ L.map (·.2) → ∀ i, (ad = false → i.isSome = true) → Q (.there i) s) (no : ∀ N, k ∉ L.map (·.2) → way t.mask (thash P w k) N ∉ t.place.toList → (∀ c, c < N → way t.mask (thash P w k) c ∈ t.place.toList) → Q (.free (way t.mask (thash P w k) N) false) s) :
    wpAny (model P w) A (setSearch a (.ref x) (thash P w k) ad) Q E s := by
  have room := R.rm
  have top := R.tb.msk.top
  obtain ⟨N, hN, free, full⟩ := R.tb.hole (by rw [List.length_map]; omega) (thash P w k)
  have few : N < 100000 := by
    unfold SetTable.turns at hN
    omega
  unfold setSearch
  refine goW (N := N) R hx hu hN ad free full yes (fun hm => no N hm free full) 100000 0 none rfl (Nat.zero_le _) (by omega) fun i p hp hk => ?_
  have h1 : (hashesW P w L)[i]? = some (thash P w k) := by
    rw [List.getElem?_map, hp, ← hk]
    rfl
  have h2 : i < t.place.toList.length := by
    have h3 := (List.getElem?_eq_some_iff.mp h1).1
    rw [R.tb.len]
    exact h3
  obtain ⟨d, d1, d2⟩ := R.tb.ahead free h1 (List.getElem?_eq_getElem h2)
  exact ⟨d, Nat.zero_le _, d1, by rw [List.getElem?_eq_getElem h2]; exact congrArg some d2.symm⟩
/-- x in a, asked of the set itself -/
theorem hasW (R : SetW P w s.heap a L es ep t) (hx : IsT P w s.heap k x) (hu : A.units < cLine) {Q : Bool → Shared → Prop} (h : ∀ tk, Q (decide (k ∈ L.map (·.2))) { s with toks := tk }) : wpAny (model P w) A (setContains a (.ref x)) Q E s := by
  obtain ⟨o, ho, hex, hd⟩ := R.obj
  unfold setContains
  refine wpAny_holding (wpAny_bind (wpAny_pyHash_tuple hu hx ?_))
  obtain ⟨tk, etk⟩ : ∃ tk, tk = s.toks + (k.length + 1) := ⟨_, rfl⟩
  rw [← etk]
  refine wpAny_bind ?_
  unfold setFind
  rw [show (100000 : Nat) = 99999 + 1 from rfl, setFindIn.eq_2]
  refine wpAny_bind (wpAny_setState_of (s := { s with toks := tk }) ho hd R.ok ?_)
  dsimp only
  refine wp_if_neg (by simp [byScan, Value.scannable]) ?_
  try refine wpAny_bind (wpAny_pure ?_)
  refine wpAny_bind (seekW (s := { s with toks := tk }) R hx hu false (fun hm i hi => ?_) fun N hm _ _ => ?_)
  · refine wpAny_pure (wpAny_pure ?_)
    have q := h tk
    rw [decide_eq_true hm] at q
    cases i with
    | none => exact absurd (hi rfl) Bool.false_ne_true
    | some i => exact q
  · refine wpAny_pure (wpAny_pure ?_)
    have q := h tk
    rw [decide_eq_false hm] at q
    exact q
/-! ### adding -/
theorem relayW' {o : Obj} (ho : s.heap.get? a = some o) (hex : o.ExactSet) (hd : o.data = .set es ep t) (rw' : es.toList = L2.rowsOf P w L) (fit : t.fits es.size = true) (one : (L.map (·.2)).Nodup) (tup : ∀ p ∈ L, IsT P w s.heap p.2 p.1) (pln : t.plain = true)
    (ld : w.params.followText "set-order" = true ∨ t.led = true) (lt : L.length < 100) {wanted M : Nat} (em : SetTable.sizeAbove wanted - 1 = M) (mk : Msk M) (sz : SetTable.sizeAbove wanted ≤ 512) (rm : L.length * 5 < M * 3) {Q : Unit → Shared → Prop}
    (k : ∀ h' L' es' ep' t', Heap.SameBut a s.heap h' → SetW P w h' a L' es' ep' t' → t'.mask = M → L'.Perm L → Q () { s with heap := h' }) : wpAny (model P w) A (setRelay a wanted) Q E s := by
  have nl := rows_len rw'
  obtain ⟨t', ord, e, pm, B, e1, e2, e3⟩ := relaidW t (hs := es.map (·.1)) (wanted := wanted) em mk (by rw [Array.size_map, nl]; omega)
  rw [Array.size_map, nl] at pm
  obtain ⟨L2', r1, r2, r3⟩ := order_rows L es ord rw' pm
  rw [← r3] at B
  have n2 : (ord.filterMap (es[·]?)).size = es.size := by
    rw [rows_len r1, r2.length_eq, nl]
  rw [setRelay_eq]
  refine wpAny_bind (wpAny_setState_of ho hd fit ?_)
  dsimp only
  refine wp_if_neg (by rw [sizeLine_eq]; omega) ?_
  try refine wpAny_bind (wpAny_pure ?_)
  rw [e]
  dsimp only
  refine wpAny_bind ?_
  refine wp_if_neg (by rw [n2]; simp) ?_
  try refine wpAny_bind (wpAny_pure ?_)
  refine wpAny_pure ?_
  dsimp only
  refine wpAny_storeSet_of ho hd ?_ (by rw [n2, nl, sizeLine_eq]; omega)
  have sb : Heap.SameBut a s.heap (s.heap.update a (Obj.putSet (ord.filterMap (es[·]?)) t')) := Heap.SameBut.update ..
  refine k _ L2' _ (ep + 1) t' sb ⟨⟨_, store_at ho hd, ⟨hex.1, hex.2.1, hex.2.2⟩, rfl⟩, r1, B, (r2.map (·.2)).nodup_iff.mpr one, fun p hp => isT_same (tup p (r2.mem_iff.mp hp)) ho hd sb, ?_, ?_, ?_, ?_⟩ e1 r2
  · rw [e3]
    exact pln
  · rw [e2]
    exact ld
  · rw [r2.length_eq, e1]
    exact rm
  · rw [r2.length_eq]
    exact lt
def MaskW (m : Nat) : Prop := MaskOk m ∨ m = 511
theorem addW (R : SetW P w s.heap a L es ep t) (mw : MaskW t.mask) (hx : IsT P w s.heap k x) (hu : A.units < cLine) (few : L.length + 1 < 100) {Q : Bool → Shared → Prop}
    (c : ∀ b h' L' es' ep' t', Heap.SameBut a s.heap h' → SetW P w h' a L' es' ep' t' → MaskW t'.mask → (k ∈ L.map (·.2) → L' = L) → (k ∉ L.map (·.2) → L'.Perm ((x, k) :: L)) → Q b { s with heap := h' }) :
    wpAny (model P w) A (setAddHashed a (.ref x) (thash P w k)) Q E s := by
  obtain ⟨o, ho, hex, hd⟩ := R.obj
  have nl := rows_len R.rws
  have room := R.rm
  unfold setAddHashed
  refine wpAny_holding ?_
  rw [show (100000 : Nat) = 99999 + 1 from rfl, setAddHashedIn_succ]
  refine wpAny_bind (wpAny_setState_of ho hd R.ok ?_)
  dsimp only
  refine wp_if_neg (by simp [byScan, Value.scannable]) ?_
  try refine wpAny_bind (wpAny_pure ?_)
  refine wpAny_bind (seekW R hx hu true (fun hm i _ => ?_) fun N hm free full => ?_)
  · exact wpAny_pure (c false s.heap L es ep t (Heap.SameBut.refl a s.heap) R mw (fun _ => rfl) fun z => absurd hm z)
  · dsimp only
    refine wpAny_bind (wpAny_setState_of ho hd R.ok ?_)
    dsimp only
    generalize ey : way t.mask (thash P w k) N = y at free full ⊢
    generalize epp : SetTable.below t.place y = p
    obtain ⟨q1, q2, q3, q4, q5, q6, q7⟩ := R.tb.add ey epp free full
    have pl1 : (t.put y).1.plain = true := q6.trans R.pln
    generalize t.put y = u at q1 q3 q4 q5 q6 q7 pl1 ⊢
    obtain ⟨t1, p'⟩ := u
    dsimp only at q1 q3 q4 q5 q6 q7 pl1 ⊢
    subst q1
    first
      | (refine wpAny_bind ?_; refine wp_if_pos pl1 ?_; refine hashBy_tup hx ?_)
      | refine wp_if_pos pl1 (wpAny_bind (hashBy_tup hx ?_))
    simp only [if_true]
    have rows1 : (SetTable.insertAt es p' (thash P w k, Value.ref x)).toList = L2.rowsOf P w (L.take p' ++ (x, k) :: L.drop p') := by
      rw [SetTable.toList_insertAt, rows_put, R.rws]
    have pm := put_perm L p' (x, k)
    have n1 : (L.take p' ++ (x, k) :: L.drop p').length = L.length + 1 := pm.length_eq
    have hh : hashesW P w (L.take p' ++ (x, k) :: L.drop p') = (hashesW P w L).take p' ++ thash P w k :: (hashesW P w L).drop p' := by
      unfold hashesW
      rw [List.map_append, List.map_cons, List.map_take, List.map_drop]
    rw [← hh] at q3
    have one1 : ((L.take p' ++ (x, k) :: L.drop p').map (·.2)).Nodup := (pm.map (·.2)).nodup_iff.mpr (List.nodup_cons.mpr ⟨hm, R.one⟩)
    generalize SetTable.insertAt es p' (thash P w k, Value.ref x) = es1 at rows1 ⊢
    generalize L.take p' ++ (x, k) :: L.drop p' = L1 at pm n1 q3 one1 rows1
    have ne1 := rows_len rows1
    refine wpAny_bind (wpAny_storeSet_of ho hd ?_ (by rw [ne1, n1, sizeLine_eq]; omega))
    have sb : Heap.SameBut a s.heap (s.heap.update a (Obj.putSet es1 t1)) := Heap.SameBut.update ..
    have ho1 := store_at (es' := es1) (t' := t1) ho hd
    generalize s.heap.update a (Obj.putSet es1 t1) = h1 at sb ho1 ⊢
    have tup1 : ∀ p ∈ L1, IsT P w h1 p.2 p.1 := fun p hp => by
      rcases List.mem_cons.mp (pm.mem_iff.mp hp) with rfl | z
      · exact isT_same hx ho hd sb
      · exact isT_same (R.tup p z) ho hd sb
    have ld1 : w.params.followText "set-order" = true ∨ t1.led = true := by
      rw [q5]
      exact R.ld
    have fillE : t1.fill = L.length + 1 := by
      rw [q7, List.length_map]
    by_cases hf : t1.tooFull = true
    · first
        | (refine wpAny_bind ?_; refine wp_if_pos (by simp [hf]) ?_)
        | (refine wp_if_pos (by simp [hf]) ?_; refine wpAny_bind ?_)
      have full1 : (L.length + 1) * 5 ≥ t1.mask * 3 := by
        unfold SetTable.tooFull at hf
        rw [decide_eq_true_eq, fillE] at hf
        exact hf
      rw [q4] at full1
      rw [nl]
      have siz1 := q3.siz
      rw [List.length_map, n1] at siz1
      have fit1 : t1.fits es1.size = true := by
        unfold SetTable.fits
        rw [fillE, ne1, n1, siz1, q4, Bool.and_eq_true, beq_iff_eq, decide_eq_true_eq]
        refine ⟨rfl, ?_⟩
        rcases mw with (e | e | e) | e <;> rw [e] at room ⊢ <;> omega
      have go : ∀ M, SetTable.sizeAbove (SetTable.grown (L.length + 1)) - 1 = M → Msk M → MaskW M → SetTable.sizeAbove (SetTable.grown (L.length + 1)) ≤ 512 → (L.length + 1) * 5 < M * 3 →
          wpAny (model P w) A (setRelay a (SetTable.grown (L.length + 1))) (fun _ s' => wpAny (model P w) A (pure true) Q E s') E { s with heap := h1 } := fun M m1 m2 m3 m4 m5 => by
        refine relayW' (s := { s with heap := h1 }) ho1 ⟨hex.1, hex.2.1, hex.2.2⟩ rfl rows1 fit1 one1 tup1 pl1 ld1 (by rw [n1]; exact few) m1 m2 m4 (by rw [n1]; exact m5) ?_
        intro h2 L2' es2 ep2 t2 sb2 R2 em2 pm2
        exact wpAny_pure (c true h2 L2' es2 ep2 t2 (sb.trans sb2) R2 (by rw [em2]; exact m3) (fun z => absurd z hm) fun _ => pm2.trans pm)
      have cases3 : (t.mask = 7 ∧ L.length = 4) ∨ (t.mask = 31 ∧ L.length = 18) ∨ (t.mask = 127 ∧ L.length = 76) := by
        rcases mw with (e | e | e) | e <;> rw [e] at room full1
        · exact .inl ⟨e, by omega⟩
        · exact .inr (.inl ⟨e, by omega⟩)
        · exact .inr (.inr ⟨e, by omega⟩)
        · omega
      rcases cases3 with ⟨_, e2⟩ | ⟨_, e2⟩ | ⟨_, e2⟩
      · exact go 31 (by rw [e2, size_20]) (msk_old (.inr (.inl rfl))) (.inl (.inr (.inl rfl))) (by rw [e2, size_20]; decide) (by omega)
      · exact go 127 (by rw [e2, size_76]) (msk_old (.inr (.inr rfl))) (.inl (.inr (.inr rfl))) (by rw [e2, size_76]; decide) (by omega)
      · exact go 511 (by rw [e2, size_308]) msk_big (.inr rfl) (by rw [e2, size_308]; decide) (by omega)
    · first
        | refine wp_if_neg (by simp [hf]) ?_
        | (refine wpAny_bind ?_; refine wp_if_neg (by simp [hf]) ?_; refine wpAny_pure ?_)
      have nf : (L.length + 1) * 5 < t1.mask * 3 := by
        unfold SetTable.tooFull at hf
        rw [decide_eq_true_eq, fillE] at hf
        omega
      exact wpAny_pure (c true h1 L1 es1 (ep + 1) t1 sb ⟨⟨_, ho1, ⟨hex.1, hex.2.1, hex.2.2⟩, rfl⟩, rows1, q3, one1, tup1, pl1, ld1, by rw [n1]; exact nf, by rw [n1]; exact few⟩ (by rw [q4]; exact mw) (fun z => absurd z hm) fun _ => pm)
end
end Fd
namespace Fd
open PySem PySem.Spec PyProof.Rows L2
/-! ### sets of pairs as things in a heap -/
def PackW (P : Program) (w : World) (h : Heap) (a : Addr) (L : List (Addr × List Int)) : Prop := ∃ (es : Array (Int × Value)) (ep : Nat) (t : SetTable), (∃ o, h.get? a = some o ∧ o.ExactSet ∧ o.data = .set es ep t) ∧ es.toList = L2.rowsOf P w L ∧ TabW t (hashesW P w L) ∧ (L.map (·.2)).Nodup ∧ t.plain = true ∧
    (w.params.followText "set-order" = true ∨ t.led = true) ∧ L.length * 5 < t.mask * 3 ∧ L.length < 100 ∧ MaskW t.mask
structure PackW' (P : Program) (w : World) (h : Heap) (a : Addr) (L : List (Addr × List Int)) : Prop where
  ex : PackW P w h a L
def SetWO (P : Program) (w : World) (a : Addr) (L : List (Addr × List Int)) : HO := .ext fun h => PackW' P w h a L
theorem SetW.pack {P : Program} {w : World} {h : Heap} {a : Addr} {L : List (Addr × List Int)} {es : Array (Int × Value)} {ep : Nat} {t : SetTable} (R : SetW P w h a L es ep t) (mw : MaskW t.mask) : PackW' P w h a L := ⟨es, ep, t, R.obj, R.rws, R.tb, R.one, R.pln, R.ld, R.rm, R.lt, mw⟩
theorem PackW'.full {P : Program} {w : World} {h : Heap} {a : Addr} {L : List (Addr × List Int)} (R : PackW' P w h a L) (ht : ∀ p ∈ L, IsT P w h p.2 p.1) : ∃ es ep t, SetW P w h a L es ep t ∧ MaskW t.mask := by
  obtain ⟨es, ep, t, h1, h2, h3, h4, h5, h6, h7, h8, h9⟩ := R.ex
  exact ⟨es, ep, t, ⟨h1, h2, h3, h4, ht, h5, h6, h7, h8⟩, h9⟩
theorem setWO_new {P : Program} {w : World} {H : Hp} {h : Heap} {a : Addr} {L : List (Addr × List Int)} (R : PackW' P w h a L) : ObjOk P w H h a (SetWO P w a L) := by
  obtain ⟨es, ep, t, ⟨o, ho, r⟩, q⟩ := R.ex
  refine ⟨R, ⟨o, ho⟩, fun h1 h2 p k => ?_⟩
  obtain ⟨es', ep', t', ⟨o', ho', r'⟩, q'⟩ := PackW'.ex p
  exact ⟨es', ep', t', ⟨o', k o' ho', r'⟩, q'⟩
def TupsAt (K : PySem.W.Frag) (H : Hp) (L : List (Addr × List Int)) : Prop := ∀ p ∈ L, SqT K H p.1 (p.2.map V.int)
theorem setW_of {X : Cx} {pins : List (Addr × Obj)} {σ : L2.St} {H : Hp} {s : Shared} {a : Addr} {L : List (Addr × List Int)} (I : Inv X pins σ H s) (h : H a = some (SetWO X.prog X.w a L)) (ht : TupsAt X.K H L) : ∃ es ep t, SetW X.prog X.w s.heap a L es ep t ∧ MaskW t.mask :=
  PackW'.full (I.hok a _ h).1 fun p hp => I.isT (ht p hp)
theorem freshW {P : Program} {w : World} {h : Heap} {a : Addr} (ho : h.get? a = some { cls := .type "set", dict := none, data := .set #[] 0 (.fresh 0 0 (!w.params.followText "set-order")) }) : SetW P w h a [] #[] 0 (.fresh 0 0 (!w.params.followText "set-order")) := by
  refine ⟨⟨_, ho, ⟨rfl, rfl, rfl⟩, rfl⟩, rfl, ⟨List.Pairwise.nil, rfl, rfl, msk_old (.inl rfl), fun x hx => (by cases hx), fun i h j hi => (by simp at hi)⟩, List.nodup_nil, fun p hp => (by cases hp), rfl, ?_, by show 0 * 5 < 7 * 3; decide, by show 0 < 100; decide⟩
  show w.params.followText "set-order" = true ∨ (!w.params.followText "set-order") = true
  cases w.params.followText "set-order"
  · exact .inr rfl
  · exact .inl rfl
def rNewW (P : Program) (w : World) : List V → Hp → VK → Prop := fun xs H Q => xs = [] ∧ ∀ p, H p = none → Q (.ref p) (upd H p (SetWO P w p []))
def rNotInW (K : PySem.W.Frag) (P : Program) (w : World) : V → V → Hp → VK → Prop := fun x y H Q => ∃ (b a : Addr) (k : List Int) (L : List (Addr × List Int)), x = .ref b ∧ y = .ref a ∧ SqT K H b (k.map V.int) ∧ H a = some (SetWO P w a L) ∧ TupsAt K H L ∧ Q (.bl (!decide (k ∈ L.map (·.2)))) H
def rAddW (K : PySem.W.Frag) (P : Program) (w : World) : V → List V → Hp → VK → Prop := fun x xs H Q => ∃ (a b : Addr) (k : List Int) (L : List (Addr × List Int)), x = .ref a ∧ xs = [.ref b] ∧ SqT K H b (k.map V.int) ∧ H a = some (SetWO P w a L) ∧ TupsAt K H L ∧ L.length + 1 < 100 ∧
  ∀ L' : List (Addr × List Int), (k ∈ L.map (·.2) → L' = L) → (k ∉ L.map (·.2) → L'.Perm ((b, k) :: L)) → Q .non (upd H a (SetWO P w a L'))
section
variable {X : Cx}
theorem cr_newW : CallR X (.type "set") (rNewW X.prog X.w) := by
  intro pins s σ H xs us Q I r h
  obtain ⟨rfl, q⟩ := h
  cases r
  refine setR_new fun _ => ?_
  have got := freshW (P := X.prog) (w := X.w) (a := s.heap.objs.size) (h := s.heap.push { cls := .type "set", dict := none, data := .set #[] 0 (.fresh 0 0 (!X.w.params.followText "set-order")) }) (Heap.get?_push_size _ rfl)
  exact ⟨.ref _, _, I.laid (t' := s.toks) (o := SetWO X.prog X.w s.heap.objs.size []) (fun b u e => Heap.get?_push_of_some _ e) (Nat.le_refl _) (setWO_new (got.pack (.inl (.inl rfl)))), rfl, q _ (I.hok.fresh (Nat.le_refl _))⟩
theorem op_notInW (hu : X.A.units + 65 < cLine) : OpR X (compareOp .NotIn) (rNotInW X.K X.prog X.w) := by
  intro pins s σ H x y v u Q I rx ry h
  obtain ⟨b, a, k, L, rfl, rfl, hb, ha, hL, q⟩ := h
  cases rx
  cases ry
  obtain ⟨es, ep, t, R, _⟩ := setW_of I ha hL
  have kb := I.isT hb
  obtain ⟨o, ho, hex, hd⟩ := id R.obj
  have ty : s.TypeIs (.ref a) "set" := ⟨o, ho, hex.1⟩
  show wpAny _ _ (do return Value.bool (!(← PySem.contains (.ref a) (.ref b))) : Sem Value) _ _ s
  refine wpAny_bind ?_
  unfold PySem.contains
  try with_reducible refine wpAny_holding ?_
  refine wpAny_bind (wpAny_specialOf ty F.slot_set_contains.lookup ?_)
  show wpAny _ _ (if (some (Value.builtin "set.__contains__") == some Value.none) = true then _ else _) _ _ s
  refine wp_if_neg (by rw [beq_builtin_none]; exact Bool.false_ne_true) ?_
  refine wpAny_bind (wpAny_callSpecialUnlessNone?_slot (name := Str.ofString "__contains__") ty F.slot_set_contains (wpAny_call_entry F.slot_set_contains ty entry_set_contains ?_ (F.args_set_contains_2 _ _)))
  unfold Builtin.«frozenset.__contains__» Builtin.Frozenset.oneOther
  simp only [List.isEmpty_nil, bind_assoc]
  unfold Builtin.Frozenset.addrOf Builtin.Frozenset.withSetAsKey
  refine wpAny_bind (wpAny_pure ?_)
  try dsimp only
  refine wpAny_bind (wpAny_pure ?_)
  try dsimp only
  refine wpAny_bind (wpAny_tryCatch (hasW R kb ?_ fun tk => ?_))
  · rw [PyProof.Rows.units_in1]
    omega
  · exact wpAny_pure ⟨_, rfl, wpAny_truthy_bool (wpAny_pure ⟨V.bl (!decide (k ∈ List.map (fun x : Addr × List Int => x.snd) L)), H, I.tok _, rfl, q⟩)⟩
theorem mt_addW (hu : X.A.units + 65 < cLine) : MtM X "set.add" (rAddW X.K X.prog X.w) := by
  intro pins s σ H x xs v us Q I rx rxs h
  obtain ⟨a, b, k, L, rfl, rfl, hb, ha, hL, few, q⟩ := h
  cases rx
  rw [Vals.ref1 rxs]
  obtain ⟨es, ep, t, R, mw⟩ := setW_of I ha hL
  have kb := I.isT hb
  obtain ⟨o, ho, hex, hd⟩ := id R.obj
  have ty : s.TypeIs (.ref a) "set" := ⟨o, ho, hex.1⟩
  refine wpAny_call_entry F.slot_set_add ty F.entry_set_add ?_ (F.args_set_add_2 _ _)
  unfold Builtin.«set.add» Builtin.Frozenset.oneOther
  simp only [List.isEmpty_nil, bind_assoc]
  unfold Builtin.Frozenset.addrOf setAdd
  refine wpAny_bind (wpAny_pure ?_)
  try dsimp only
  refine wpAny_bind (wpAny_pure ?_)
  try dsimp only
  have u1 : X.A.in1.units < cLine := by
    rw [PyProof.Rows.units_in1]
    omega
  refine wpAny_bind (wpAny_holding (wpAny_bind (wpAny_pyHash_tuple u1 kb ?_)))
  obtain ⟨tk, etk⟩ : ∃ tk, tk = s.toks + (k.length + 1) := ⟨_, rfl⟩
  rw [← etk]
  refine addW (s := { s with toks := tk }) R mw kb u1 few fun bb h' L' es' ep' t' sb R' mw' c1 c2 => ?_
  show wpAny _ _ (ret Value.none) _ _ _
  have he : ∃ u, h'.get? a = some u := by
    obtain ⟨o', ho', _⟩ := R'.obj
    exact ⟨o', ho'⟩
  exact wpAny_pure ⟨_, rfl, .non, _, I.write (e := a) (t' := tk) (o := SetWO X.prog X.w a L') (by rw [ha]; trivial) (.inl rfl) (fun b' u hb' hu' => (sb.2 b' hb').trans hu') he (setWO_new (R'.pack mw')), rfl, q L' c1 c2⟩
def tAddW (K : PySem.W.Frag) (P : Program) (w : World) (to : TE) (t : TA) : TE := fun σ H Q => to σ H fun x H1 => (∃ a L, x = V.ref a ∧ H1 a = some (SetWO P w a L)) ∧ t σ H1 fun xs H2 => rAddW K P w x xs H2 Q
variable {o e : Expr} {es : List Expr} {to : TE} {ta : TA} {apos cpos : Pos}
theorem pe_addW (hu : X.A.units + 65 < cLine) (ho : PE X o to) (ha : PA X (e :: es) ta) (h1 : attributeBase o "add" X.env (eval o X.env) = eval o X.env := by rfl)
    (h2 : ((backTo cpos (starEach (e :: es) X.env)).all (fun x => !x.1) && (backToKw cpos (keywordEach [] X.env)).all (fun x => x.1.isSome) && decide ((e :: es).length + ([] : List Keyword).length + (if ([] : List Keyword).isEmpty then 0 else 1) < 30)) = true := by rfl)
    (h3 : (apos.endLine == cpos.line) = true := by rfl) (h4 : starEach (e :: es) X.env = (false, eval e X.env) :: starEach es X.env := by rfl) (h5 : (backTo cpos (starEach es X.env)).any (·.1) = false := by rfl) :
    PE X (.Call (.Attribute o "add" apos) (e :: es) [] cpos) (tAddW X.K X.prog X.w to ta) := by
  refine ⟨fun pins s σ H Q I h => ?_⟩
  refine wpAny_Call_method_late h1 h2 h3 rfl (thn (ho.run pins s σ H _ I h) fun v s1 ⟨x, H1, I1, r1, ty, q1⟩ => ?_)
  obtain ⟨a, L, rfl, hka⟩ := ty
  obtain ⟨_, _, _, ⟨o1, ho1, hex1, _⟩, _⟩ := (PackW'.ex (I1.hok a _ hka).1)
  cases r1
  refine ⟨"set", "set.add", F.plainAttrs_set, F.slot_set_add, F.type_set_add, ⟨o1, ho1, hex1.1⟩, fun b e => ?_, ?_⟩
  · cases e
    exact ⟨o1, ho1, hex1.2.1⟩
  · have hA := ha.run cpos pins s1 σ H1 _ I1 q1
    rw [h4] at hA ⊢
    refine Calls.callWith_builtin (by show (false || (backTo cpos (starEach es X.env)).any (·.1)) = false; rw [h5]; rfl) (Calls.evalArgs_plain ?_)
    exact thn hA fun us s2 ⟨vs, H2, I2, r2, q2⟩ => mt_addW hu pins s2 σ H2 (.ref a) vs (.ref a) us Q I2 rfl r2 q2
end
/-! ### what is in it -/
def kOf (t : Tie) : List Int := [t.1, t.2]
theorem kOf_inj {t u : Tie} (h : kOf t = kOf u) : t = u := by
  injection h with e1 e2
  injection e2 with e2 _
  exact Prod.ext e1 e2
structure GoneAt (P : Program) (w : World) (H : Hp) (S : Addr) (L : List (Addr × List Int)) (U : List Tie) : Prop where
  at_ : H S = some (SetWO P w S L)
  tups : ∀ p ∈ L, H p.1 = some (.tup (p.2.map V.int))
  perm : (L.map (·.2)).Perm (U.map kOf)
  nd : U.Nodup
section
variable {P : Program} {w : World} {K : PySem.W.Frag} {H H' : Hp} {S : Addr} {L : List (Addr × List Int)} {U : List Tie}
theorem setWO_lst {xs : List V} (e : SetWO P w S L = .lst xs) : False := HO.noConfusion (show HO.ext _ = HO.lst xs from e)
theorem setWO_tup {xs : List V} (e : SetWO P w S L = .tup xs) : False := HO.noConfusion (show HO.ext _ = HO.tup xs from e)
theorem setWO_ins {C dx : Addr} {fs : List (Str × V)} (e : SetWO P w S L = .ins C dx fs) : False := HO.noConfusion (show HO.ext _ = HO.ins C dx fs from e)
theorem GoneAt.mem (h : GoneAt P w H S L U) {t : Tie} : kOf t ∈ L.map (·.2) ↔ t ∈ U := by
  rw [h.perm.mem_iff]
  exact ⟨fun z => by
    obtain ⟨u, hu, e⟩ := List.mem_map.mp z
    exact kOf_inj e ▸ hu, fun z => List.mem_map.mpr ⟨t, z, rfl⟩⟩
theorem GoneAt.len (h : GoneAt P w H S L U) : L.length = U.length := by
  have := h.perm.length_eq
  rw [List.length_map, List.length_map] at this
  exact this
theorem GoneAt.same (h : GoneAt P w H S L U) (s : Same H H') : GoneAt P w H' S L U := ⟨s _ _ h.at_, fun p hp => s _ _ (h.tups p hp), h.perm, h.nd⟩
theorem GoneAt.tupsAt (h : GoneAt P w H S L U) : TupsAt K H L := fun p hp => SqT.of (h.tups p hp)
/-- what is no set stays when the set is written -/
theorem GoneAt.lst (h : GoneAt P w H S L U) {D : Addr} {xs : List V} {o : HO} (d : H D = some (.lst xs)) : (upd H S o) D = some (.lst xs) := by
  rw [upd_ne (fun e => by subst e; exact setWO_lst (Option.some.inj (h.at_.symm.trans d)))]
  exact d
theorem GoneAt.tup (h : GoneAt P w H S L U) {D : Addr} {xs : List V} {o : HO} (d : H D = some (.tup xs)) : (upd H S o) D = some (.tup xs) := by
  rw [upd_ne (fun e => by subst e; exact setWO_tup (Option.some.inj (h.at_.symm.trans d)))]
  exact d
theorem GoneAt.ins (h : GoneAt P w H S L U) {D C dx : Addr} {fs : List (Str × V)} {o : HO} (d : H D = some (.ins C dx fs)) : (upd H S o) D = some (.ins C dx fs) := by
  rw [upd_ne (fun e => by subst e; exact setWO_ins (Option.some.inj (h.at_.symm.trans d)))]
  exact d
theorem GoneAt.pairs (h : GoneAt P w H S L U) {o : HO} {ws : List V} {ts : List Tie} (p : PairsAt H ws ts) : PairsAt (upd H S o) ws ts := Paired.mono (fun _ _ ⟨a, e, k⟩ => ⟨a, e, h.tup k⟩) p
theorem GoneAt.rows (h : GoneAt P w H S L U) {H0 : Hp} {R : Addr} {as : List Addr} {rss : List (List Int)} {o : HO} (r : RowsAt H0 H R as rss) : RowsAt H0 (upd H S o) R as rss :=
  ⟨h.lst r.top, r.new, r.len, r.nd, r.out, fun i a q e1 e2 => ⟨(r.row i a q e1 e2).1, h.lst (r.row i a q e1 e2).2⟩⟩
theorem GoneAt.over (h : GoneAt P w H S L U) {D : Addr} {xs ys : List V} (d : H D = some (.lst xs)) : GoneAt P w (upd H D (.lst ys)) S L U := by
  refine ⟨?_, fun p hp => ?_, h.perm, h.nd⟩
  · rw [upd_ne (fun e => by subst e; exact setWO_lst (Option.some.inj (h.at_.symm.trans d)))]
    exact h.at_
  · rw [upd_ne (ne_of (h.tups p hp) d (by intro z; cases z))]
    exact h.tups p hp
theorem GoneAt.add {L' : List (Addr × List Int)} {c : Addr} {u : Tie} (h : GoneAt P w H S L U) (hc : H c = some (.tup [.int u.1, .int u.2])) (c1 : kOf u ∈ L.map (·.2) → L' = L) (c2 : kOf u ∉ L.map (·.2) → L'.Perm ((c, kOf u) :: L)) :
    ∃ U', GoneAt P w (upd H S (SetWO P w S L')) S L' U' ∧ ∀ v, v ∈ U' ↔ v ∈ U ∨ v = u := by
  by_cases m : kOf u ∈ L.map (·.2)
  · rw [c1 m]
    exact ⟨U, ⟨upd_same, fun p hp => h.tup (h.tups p hp), h.perm, h.nd⟩, fun v => ⟨.inl, fun z => z.elim id fun e => e ▸ h.mem.mp m⟩⟩
  · have pm := c2 m
    refine ⟨u :: U, ⟨upd_same, fun p hp => ?_, (pm.map _).trans (h.perm.cons _), List.nodup_cons.mpr ⟨fun z => m (h.mem.mpr z), h.nd⟩⟩, fun v => ?_⟩
    · rcases List.mem_cons.mp (pm.mem_iff.mp hp) with e | z
      · rw [e]
        exact h.tup hc
      · exact h.tup (h.tups p z)
    · rw [List.mem_cons]
      exact ⟨fun z => z.elim .inr .inl, fun z => z.elim .inr .inl⟩
end
end Fd
namespace Fd
open PySem PySem.Spec PyProof.Rows L2
/-! ### for each in zip(xs, ys): the pair that was given out may be there still, or not -/
abbrev ZS (h : Heap) (z TI TO : Addr) (g : Value) (b : Bool) : Prop :=
  h.get? z = some { cls := .type "zip", dict := none, data := .fields #[g, .bool b, .bool false, .ref TI, .ref TO], slots := #[] }
def Gone (h : Heap) (g : Value) : Prop := g = .none ∨ ∃ T : Addr, g = rawInt T ∧ h.get? T = none
section
variable {P : Program} {w : World} {A : Around} {E : Value → Shared → Prop} {s : Shared} {z TI TO i1 i2 l1 l2 : Addr} {g : Value} {b : Bool} {p1 p2 : Nat} {us ws : Array Value} {u v u0 v0 : Value}
theorem zn_gone {Q : Bool → Shared → Prop} (hz : ZS s.heap z TI TO g b) (hg : Gone s.heap g) (q : Q true s) : wpAny (model P w) A (Builtin.SmallTypes.ownedTupleIsFree (.ref z)) Q E s := by
  unfold Builtin.SmallTypes.ownedTupleIsFree
  rcases hg with rfl | ⟨T, rfl, hT⟩
  · exact wpAny_bind (wpAny_field hz rfl (x := .none) rfl (wpAny_pure q))
  · refine wpAny_bind (wpAny_field hz rfl (x := rawInt T) rfl ?_)
    show wpAny _ _ (loadIfAlive ((T : Int).toNat) >>= _) _ _ _
    rw [Int.toNat_natCast]
    refine wpAny_bind ?_
    have k : wpAny (model P w) A (loadIfAlive T) (fun r s' => r = none ∧ s' = s) E s := fun _ _ _ => ⟨hT, rfl⟩
    refine wpAny_mono k (fun r s' hr => ?_) fun e s' h => h
    obtain ⟨rfl, rfl⟩ := hr
    exact wpAny_bind (wpAny_pure (wpAny_pure q))
theorem zn_item {Q : Value → Shared → Prop} (D : ZipApart z TI TO i1 i2 l1 l2) (hz : ZS s.heap z TI TO g b) (hg : Gone s.heap g) (eI : IsPair s.heap TI (.ref i1) (.ref i2)) (eO : IsPair s.heap TO u0 v0)
    (t1 : s.heap.IsListIter i1 l1 p1) (t2 : s.heap.IsListIter i2 l2 p2) (q1 : s.heap.IsList l1 us) (q2 : s.heap.IsList l2 ws) (hu : us[p1]? = some u) (hv : ws[p2]? = some v)
    (k : ∀ h' : Heap, ZS h' z TI TO (rawInt s.heap.objs.size) false → IsPair h' TO u v → h'.IsListIter i1 l1 (p1 + 1) → h'.IsListIter i2 l2 (p2 + 1) → IsPair h' s.heap.objs.size u v → h'.objs.size = s.heap.objs.size + 1 →
      (∀ c o, c ≠ z → c ≠ TO → c ≠ i1 → c ≠ i2 → s.heap.get? c = some o → h'.get? c = some o) → Q (.ref s.heap.objs.size) { s with heap := h' }) :
    wpAny (model P w) A (Builtin.«zip.__next__» ⟨[.ref z], []⟩) (fun r s' => ∃ y, r = .done (.ret y) ∧ Q y s') E s := by
  refine wpAny_bind (m := field (.ref z) 2) (wpAny_field hz rfl (x := .bool false) rfl ?_)
  refine wpAny_bind (m := field (.ref z) 3) (wpAny_field hz rfl (x := .ref TI) rfl ?_)
  refine wpAny_bind (wpAny_seqItems eI rfl ?_)
  refine wpAny_bind (m := Builtin.SmallTypes.ownedTupleIsFree (.ref z)) (zn_gone hz hg ?_)
  simp only [if_true]
  refine wpAny_bind (wpAny_rule ?_)
  refine wpAny_bind (wpAny_field hz rfl (x := .ref TO) rfl ?_)
  refine wpAny_bind (wpAny_setField_rec hz (by simp) fun ha za sa => ?_)
  replace za : ZS ha z TI TO .ellipsis b := za
  refine wpAny_bind ?_
  simp only [List.zipIdx_cons, List.zipIdx_nil, List.forIn_cons, List.forIn_nil]
  refine wpAny_bind (wpAny_bind (wpAny_onRaise ?_))
  refine wpAny_bind (m := Builtin.SmallTypes.nextOf (.ref i1)) (wpAny_nextOf_list_item (t1.extBut sa.extBut D.i1z) (q1.extBut sa.extBut D.l1z) hu fun hb tb sb => wpAny_pure ?_)
  have oB : IsPair hb TO u0 v0 := sb.extBut _ _ D.TOi1 (sa.extBut _ _ D.TOz eO)
  refine wpAny_bind (wpAny_seqItems oB rfl ?_)
  refine wpAny_bind (wpAny_updateSeq_pair oB fun hc oC sc => ?_)
  replace oC : IsPair hc TO u v0 := oC
  refine wpAny_bind (wpAny_letGo (wpAny_pure ?_))
  refine wpAny_bind (wpAny_bind (wpAny_onRaise ?_))
  have t2c := ((t2.extBut sa.extBut D.i2z).extBut sb.extBut D.i12.symm).extBut sc.extBut D.TOi2.symm
  have q2c := ((q2.extBut sa.extBut D.l2z).extBut sb.extBut D.l2i1).extBut sc.extBut D.l2TO
  refine wpAny_bind (m := Builtin.SmallTypes.nextOf (.ref i2)) (wpAny_nextOf_list_item t2c q2c hv fun hd td sd => wpAny_pure ?_)
  have oD : IsPair hd TO u v0 := sd.extBut _ _ D.TOi2 oC
  refine wpAny_bind (wpAny_seqItems oD rfl ?_)
  refine wpAny_bind (wpAny_updateSeq_pair oD fun he oE se => ?_)
  replace oE : IsPair he TO u v := oE
  refine wpAny_bind (wpAny_letGo (wpAny_pure (wpAny_pure ?_)))
  refine wpAny_bind (wpAny_seqItems oE rfl ?_)
  refine wpAny_bind (wpAny_newTuple ?_)
  have hsz : he.objs.size = s.heap.objs.size := by rw [se.1, sd.1, sc.1, sb.1, sa.1]
  have zE : ZS he z TI TO .ellipsis b := se.extBut _ _ D.TOz.symm (sd.extBut _ _ D.i2z.symm (sc.extBut _ _ D.TOz.symm (sb.extBut _ _ D.i1z.symm za)))
  have stay : ∀ c o, c ≠ z → c ≠ TO → c ≠ i1 → c ≠ i2 → s.heap.get? c = some o → he.get? c = some o := fun c o c1 c2 c3 c4 e =>
    se.extBut _ _ c2 (sd.extBut _ _ c4 (sc.extBut _ _ c2 (sb.extBut _ _ c3 (sa.extBut _ _ c1 e))))
  have t1e : he.IsListIter i1 l1 (p1 + 1) := ((tb.extBut sc.extBut D.TOi1.symm).extBut sd.extBut D.i12).extBut se.extBut D.TOi1.symm
  have t2e : he.IsListIter i2 l2 (p2 + 1) := td.extBut se.extBut D.TOi2.symm
  have zlt : z < he.objs.size := Heap.lt_size zE
  refine wpAny_bind (m := Builtin.SmallTypes.ownedTupleHandOut (.ref z) (.ref he.objs.size)) ?_
  unfold Builtin.SmallTypes.ownedTupleHandOut
  have zF : ZS (he.push { cls := .type "tuple", data := .seq #[u, v] }) z TI TO .ellipsis b := Heap.get?_push_of_some _ zE
  refine wpAny_bind (wpAny_setField_rec zF (by simp) fun hg zg sg => ?_)
  replace zg : ZS hg z TI TO (rawInt he.objs.size) b := zg
  refine wpAny_setField_rec zg (by simp) fun hh zh sh => ?_
  replace zh : ZS hh z TI TO (rawInt he.objs.size) false := zh
  have up : ∀ c o, c ≠ z → he.get? c = some o → hh.get? c = some o := fun c o c1 e => sh.extBut _ _ c1 (sg.extBut _ _ c1 (Heap.get?_push_of_some _ e))
  have new : IsPair hh he.objs.size u v := sh.extBut _ _ (Nat.ne_of_gt zlt) (sg.extBut _ _ (Nat.ne_of_gt zlt) (Heap.get?_push_size _ rfl))
  have big : hh.objs.size = he.objs.size + 1 := by rw [sh.1, sg.1, Heap.size_push]
  rw [hsz] at zh new big
  refine wpAny_pure ⟨_, rfl, ?_⟩
  show Q (.ref he.objs.size) _
  rw [hsz]
  exact k hh zh (up _ _ D.TOz oE) (t1e.at fun o e => up _ o D.i1z e) (t2e.at fun o e => up _ o D.i2z e) new big fun c o c1 c2 c3 c4 e => up c o c1 (stay c o c1 c2 c3 c4 e)
theorem zn_end {Q : Fin → Shared → Prop} (hh : A.handled = none) (D : ZipApart z TI TO i1 i2 l1 l2) (hz : ZS s.heap z TI TO g b) (hg : Gone s.heap g) (eI : IsPair s.heap TI (.ref i1) (.ref i2)) (eO : IsPair s.heap TO u0 v0)
    (t1 : s.heap.IsListIter i1 l1 p1) (t2 : s.heap.IsListIter i2 l2 p2) (q1 : s.heap.IsList l1 us) (q2 : s.heap.IsList l2 ws) (hend : us[p1]? = none ∨ ws[p2]? = none)
    (k : ∀ (h' : Heap) (e : Addr), (∀ c o, c ≠ z → c ≠ TO → c ≠ i1 → c ≠ i2 → s.heap.get? c = some o → h'.get? c = some o) → (∃ o, h'.get? e = some o ∧ o.cls = .type "StopIteration") → E (.ref e) { s with heap := h' }) :
    wpAny (model P w) A (Builtin.«zip.__next__» ⟨[.ref z], []⟩) Q E s := by
  refine wpAny_bind (m := field (.ref z) 2) (wpAny_field hz rfl (x := .bool false) rfl ?_)
  refine wpAny_bind (m := field (.ref z) 3) (wpAny_field hz rfl (x := .ref TI) rfl ?_)
  refine wpAny_bind (wpAny_seqItems eI rfl ?_)
  refine wpAny_bind (m := Builtin.SmallTypes.ownedTupleIsFree (.ref z)) (zn_gone hz hg ?_)
  simp only [if_true]
  refine wpAny_bind (wpAny_rule ?_)
  refine wpAny_bind (wpAny_field hz rfl (x := .ref TO) rfl ?_)
  refine wpAny_bind (wpAny_setField_rec hz (by simp) fun ha za sa => ?_)
  replace za : ZS ha z TI TO .ellipsis b := za
  refine wpAny_bind ?_
  simp only [List.zipIdx_cons, List.zipIdx_nil, List.forIn_cons, List.forIn_nil]
  refine wpAny_bind (wpAny_bind (wpAny_onRaise ?_))
  cases hu : us[p1]? with
  | none =>
    refine wpAny_bind (m := Builtin.SmallTypes.nextOf (.ref i1)) (wpAny_nextOf_list_end hh (t1.extBut sa.extBut D.i1z) (q1.extBut sa.extBut D.l1z) hu fun hb e sb he => ?_)
    obtain ⟨oe, ho, hc⟩ := he
    have zb : ZS hb z TI TO .ellipsis b := sb _ _ D.i1z.symm za
    have ez : e ≠ z := fun x => by subst x; rw [zb] at ho; cases ho; simp at hc
    refine wpAny_setField_rec zb (by simp) fun hd _ sd => k hd e (fun c o c1 _ c3 _ x => sd.extBut _ _ c1 (sb _ _ c3 (sa.extBut _ _ c1 x))) ⟨oe, sd.extBut _ _ ez ho, hc⟩
  | some u =>
    have hv : ws[p2]? = none := by
      rcases hend with h | h
      · rw [hu] at h
        cases h
      · exact h
    refine wpAny_bind (m := Builtin.SmallTypes.nextOf (.ref i1)) (wpAny_nextOf_list_item (t1.extBut sa.extBut D.i1z) (q1.extBut sa.extBut D.l1z) hu fun hb tb sb => wpAny_pure ?_)
    have oB : IsPair hb TO u0 v0 := sb.extBut _ _ D.TOi1 (sa.extBut _ _ D.TOz eO)
    refine wpAny_bind (wpAny_seqItems oB rfl ?_)
    refine wpAny_bind (wpAny_updateSeq_pair oB fun hc oC sc => ?_)
    refine wpAny_bind (wpAny_letGo (wpAny_pure ?_))
    refine wpAny_bind (wpAny_bind (wpAny_onRaise ?_))
    have t2c := ((t2.extBut sa.extBut D.i2z).extBut sb.extBut D.i12.symm).extBut sc.extBut D.TOi2.symm
    have q2c := ((q2.extBut sa.extBut D.l2z).extBut sb.extBut D.l2i1).extBut sc.extBut D.l2TO
    refine wpAny_bind (m := Builtin.SmallTypes.nextOf (.ref i2)) (wpAny_nextOf_list_end hh t2c q2c hv fun hd e sd he => ?_)
    obtain ⟨oe, ho, hcl⟩ := he
    have zd : ZS hd z TI TO .ellipsis b := sd _ _ D.i2z.symm (sc.extBut _ _ D.TOz.symm (sb.extBut _ _ D.i1z.symm za))
    have ez : e ≠ z := fun x => by subst x; rw [zd] at ho; cases ho; simp at hcl
    refine wpAny_setField_rec zd (by simp) fun hf _ sf => k hf e (fun c o c1 c2 c3 c4 x => sf.extBut _ _ c1 (sd _ _ c4 (sc.extBut _ _ c2 (sb.extBut _ _ c3 (sa.extBut _ _ c1 x))))) ⟨oe, sf.extBut _ _ ez ho, hcl⟩
/-- the next pair is a new one, whatever became of the one before -/
theorem zn_next {Q : Option Value → Shared → Prop} (D : ZipApart z TI TO i1 i2 l1 l2) (hz : ZS s.heap z TI TO g b) (hg : g = .none ∨ ∃ T : Addr, g = rawInt T) (eI : IsPair s.heap TI (.ref i1) (.ref i2)) (eO : IsPair s.heap TO u0 v0)
    (t1 : s.heap.IsListIter i1 l1 p1) (t2 : s.heap.IsListIter i2 l2 p2) (q1 : s.heap.IsList l1 us) (q2 : s.heap.IsList l2 ws) (hu : us[p1]? = some u) (hv : ws[p2]? = some v)
    (k : ∀ (h' : Heap) (T : Addr) (b' : Bool), ZS h' z TI TO (rawInt T) b' → (∃ x y, IsPair h' TO x y) → h'.IsListIter i1 l1 (p1 + 1) → h'.IsListIter i2 l2 (p2 + 1) → IsPair h' s.heap.objs.size u v → h'.objs.size = s.heap.objs.size + 1 →
      (∀ c o, c ≠ z → c ≠ TO → c ≠ i1 → c ≠ i2 → s.heap.get? c = some o → h'.get? c = some o) → Q (some (.ref s.heap.objs.size)) { s with heap := h' }) :
    wpAny (model P w) A (pyNext (.ref z)) Q E s := by
  have ty : s.TypeIs (.ref z) "zip" := ⟨_, hz, rfl⟩
  have free : Gone s.heap g → wpAny (model P w) A (pyNext (.ref z)) Q E s := fun hg => by
    unfold pyNext
    exact wpAny_bind (wpAny_attempt (wpAny_callSpecial?_slot (name := Str.ofString "__next__") ty F.slot_zip_next (wpAny_call_entry F.slot_zip_next ty F.entry_zip_next
      (zn_item D hz hg eI eO t1 t2 q1 q2 hu hv fun h' a1 a2 a3 a4 a5 a6 a7 => wpAny_pure (k h' _ _ a1 ⟨_, _, a2⟩ a3 a4 a5 a6 a7)) (F.args_zip_next_1 _))))
  rcases hg with rfl | ⟨T, rfl⟩
  · exact free (.inl rfl)
  · cases e : s.heap.get? T with
    | none => exact free (.inr ⟨T, rfl, e⟩)
    | some oT => exact wpAny_pyNext_zip_item_held D hz e eI t1 t2 q1 q2 hu hv fun h' a1 a3 a4 a5 a6 a7 => k h' T true a1 ⟨_, _, a7 _ _ D.TOz D.TOi1 D.TOi2 eO⟩ a3 a4 a5 a6 fun c o c1 _ c3 c4 x => a7 c o c1 c3 c4 x
theorem zn_stop {Q : Option Value → Shared → Prop} (hh : A.handled = none) (D : ZipApart z TI TO i1 i2 l1 l2) (hz : ZS s.heap z TI TO g b) (hg : g = .none ∨ ∃ T : Addr, g = rawInt T) (eI : IsPair s.heap TI (.ref i1) (.ref i2)) (eO : IsPair s.heap TO u0 v0)
    (t1 : s.heap.IsListIter i1 l1 p1) (t2 : s.heap.IsListIter i2 l2 p2) (q1 : s.heap.IsList l1 us) (q2 : s.heap.IsList l2 ws) (hend : us[p1]? = none ∨ ws[p2]? = none)
    (k : ∀ h' : Heap, (∀ c o, c ≠ z → c ≠ TO → c ≠ i1 → c ≠ i2 → s.heap.get? c = some o → h'.get? c = some o) → Q none { s with heap := h' }) : wpAny (model P w) A (pyNext (.ref z)) Q E s := by
  have ty : s.TypeIs (.ref z) "zip" := ⟨_, hz, rfl⟩
  have free : Gone s.heap g → wpAny (model P w) A (pyNext (.ref z)) Q E s := fun hg => by
    unfold pyNext
    refine wpAny_bind (wpAny_attempt (wpAny_callSpecial?_slot (name := Str.ofString "__next__") ty F.slot_zip_next (wpAny_call_entry F.slot_zip_next ty F.entry_zip_next
      (zn_end hh D hz hg eI eO t1 t2 q1 q2 hend fun h' e hk he => ?_) (F.args_zip_next_1 _))))
    obtain ⟨o, ho, hc⟩ := he
    exact wpAny_bind (wpAny_isInstance (T := "StopIteration") (b := true) ⟨o, ho, hc⟩ isSubtype_stop (wpAny_pure (k _ hk)))
  rcases hg with rfl | ⟨T, rfl⟩
  · exact free (.inl rfl)
  · cases e : s.heap.get? T with
    | none => exact free (.inr ⟨T, rfl, e⟩)
    | some oT => exact wpAny_pyNext_zip_end_held hh D hz e eI t1 t2 q1 q2 hend fun h' a7 => k h' fun c o c1 _ c3 c4 x => a7 c o c1 c3 c4 x
end
theorem turn_zipN {P : Program} {w : World} {K : PySem.W.Frag} {x : Str} {tpos : Pos} {a b z TI TO i1 i2 : Addr} (D : ZipApart z TI TO i1 i2 a b) :
    Turn P w K (.Name x tpos) (Itz K a b) [z, TI, TO, i1, i2] z (fun i h => (∃ g f, ZS h z TI TO g f ∧ (g = .none ∨ ∃ T : Addr, g = rawInt T)) ∧ IsPair h TI (.ref i1) (.ref i2) ∧ (∃ x y, IsPair h TO x y) ∧ h.IsListIter i1 a i ∧ h.IsListIter i2 b i) where
  mem := List.mem_cons_self
  obj := fun i h st c hc => by
    obtain ⟨⟨g, f, hz, _⟩, hI, ⟨x, y, hO⟩, ⟨o1, e1, _, d1⟩, ⟨o2, e2, _, d2⟩⟩ := st
    simp only [List.mem_cons, List.not_mem_nil, or_false] at hc
    rcases hc with rfl | rfl | rfl | rfl | rfl
    · exact ⟨_, hz, fun v q => nomatch q⟩
    · exact ⟨_, hI, fun v q => nomatch q⟩
    · exact ⟨_, hO, fun v q => nomatch q⟩
    · refine ⟨o1, e1, fun v q => ?_⟩
      rw [d1] at q
      cases q
    · refine ⟨o2, e2, fun v q => ?_⟩
      rw [d2] at q
      cases q
  keep := fun i h h' st k => by
    obtain ⟨⟨g, f, hz, hg⟩, hI, ⟨x, y, hO⟩, t1, t2⟩ := st
    refine ⟨⟨g, f, k z (by simp) _ hz, hg⟩, k TI (by simp) _ hI, ⟨x, y, k TO (by simp) _ hO⟩, t1.at fun o q => k i1 (by simp) o q, t2.at fun o q => k i2 (by simp) o q⟩
  item := by
    intro X hP hw hK hc i pins s σ H E I hf st hg
    subst hP hw hK
    obtain ⟨⟨g, f, hz, hg0⟩, hI, ⟨x0, y0, hO⟩, t1, t2⟩ := st
    obtain ⟨xs, ys, x, y, hqx, hqy, hx, hy⟩ := hg
    obtain ⟨its, rv, p, _⟩ := I.list hqx
    obtain ⟨its2, rv2, p2, _⟩ := I.list hqy
    obtain ⟨u, hu, ru⟩ := rv.get hx
    obtain ⟨u2, hu2, ru2⟩ := rv2.get hy
    refine zn_next D hz hg0 hI hO t1 t2 p.isList p2.isList (u := u) (v := u2) (by simpa using hu) (by simpa using hu2) fun h' T b' zz oo tt1 tt2 hT hsz hk => ?_
    have new : ObjOk X.prog X.w (upd H s.heap.objs.size (.tup [x, y])) h' s.heap.objs.size (.tup [x, y]) :=
      ⟨by show 2 ≤ sizeLine; decide, [u, u2], .cons ru (.cons ru2 .nil), ⟨_, hT, rfl, _, rfl⟩⟩
    have I1 : Inv X pins σ (upd H s.heap.objs.size (.tup [x, y])) { s with heap := h' } :=
      I.turnedNew (t' := s.toks) (ch := [z, TI, TO, i1, i2]) (fun c o hb q => hk c o (fun e => hb (by simp [e])) (fun e => hb (by simp [e])) (fun e => hb (by simp [e])) (fun e => hb (by simp [e])) q) hf (Nat.le_refl _) new
    refine ⟨_, rfl, wpAny_pure ⟨.ref s.heap.objs.size, _, I1, rfl, ⟨_, x, y, rfl, I.hok.fresh (Nat.le_refl _), rfl, fun l hl => by rw [I.list_inj hl hqx]; exact hx, fun l hl => by rw [I.list_inj hl hqy]; exact hy⟩,
      ⟨⟨_, b', zz, .inr ⟨T, rfl⟩⟩, hk _ _ D.TIz D.TITO D.TIi1 D.TIi2 hI, oo, tt1, tt2⟩, fun c hcm => ?_⟩⟩
    have hlt : c < s.heap.objs.size := by
      simp only [List.mem_cons, List.not_mem_nil, or_false] at hcm
      rcases hcm with rfl | rfl | rfl | rfl | rfl
      · exact Heap.lt_size hz
      · exact Heap.lt_size hI
      · exact Heap.lt_size hO
      · obtain ⟨_, e1, _⟩ := t1
        exact Heap.lt_size e1
      · obtain ⟨_, e2, _⟩ := t2
        exact Heap.lt_size e2
    rw [upd_ne (Nat.ne_of_lt hlt)]
    exact (hf c hcm).1
  done := by
    intro X hP hw hK hc i pins s σ H E I hf st hg
    subst hP hw hK
    obtain ⟨⟨g, f, hz, hg0⟩, hI, ⟨x0, y0, hO⟩, t1, t2⟩ := st
    obtain ⟨xs, ys, hqx, hqy, hend⟩ := hg
    obtain ⟨its, rv, p, _⟩ := I.list hqx
    obtain ⟨its2, rv2, p2, _⟩ := I.list hqy
    have n1 := rv.length
    have n2 := rv2.length
    have he : its.toArray[i]? = none ∨ its2.toArray[i]? = none := by
      rcases hend with q | q
      · exact .inl (by simp; omega)
      · exact .inr (by simp; omega)
    exact zn_stop (I.ok.hd hc) D hz hg0 hI hO t1 t2 p.isList p2.isList he fun h' hk => ⟨rfl, I.turnedL (t' := s.toks) (ch := [z, TI, TO, i1, i2]) (fun c o hb q =>
      hk c o (fun e => hb (by simp [e])) (fun e => hb (by simp [e])) (fun e => hb (by simp [e])) (fun e => hb (by simp [e])) q) hf⟩
  self := fun A i s Q E st h => by
    obtain ⟨⟨g, f, hz, _⟩, _⟩ := st
    have ty : s.TypeIs (.ref z) "zip" := ⟨_, hz, rfl⟩
    refine wpAny_pyIter_slot ty F.slot_zip_iter (wpAny_call_entry F.slot_zip_iter ty F.entry_zip_iter ?_ (F.args_zip_iter_1 _))
    exact wpAny_pure ⟨_, rfl, "zip", _, ty, F.slot_zip_next.lookup, h⟩
theorem pi_zipN {X : Cx} {e e2 : Expr} {ta : TA} {p pos tpos : Pos} {x : Str} (hg : Gl X "zip") (hm : X.mg "zip" = none) (ha : PA X [e, e2] ta)
    (hs : starEach [e, e2] X.env = (false, eval e X.env) :: starEach [e2] X.env := by rfl) (hpl : (backTo pos (starEach [e2] X.env)).any (·.1) = false := by rfl) :
    PI X (.Name x tpos) (.Call (.Name "zip" p) [e, e2] [] pos) (iZip X.K ta) := by
  refine ⟨fun pins s σ H R I h => ?_⟩
  refine Call_ (ld_blt I hg hm boot_zip (callWith_type1 (thn (ha.run pos pins s σ H _ I h) fun us s1 ⟨vs, H1, I1, r1, q1⟩ => ?_) hs hpl))
  obtain ⟨a, b, xs, ys, rfl, hqx, hqy, q⟩ := q1
  obtain ⟨v1, v2, rfl, r, r'⟩ := vals2 r1
  cases r
  cases r'
  obtain ⟨its, rv, p1, _⟩ := I1.list hqx
  obtain ⟨its2, rv2, p2, _⟩ := I1.list hqy
  refine call_zip_2 p1.isList p2.isList fun h' hz hI hO t1 t2 hsz hk => wpAny_pyIter_zip hz ?_
  have I2 : Inv X pins σ H1 { s1 with heap := h' } := I1.kept (t' := s1.toks) hk
  refine ⟨s1.heap.objs.size + 4, [s1.heap.objs.size + 4, s1.heap.objs.size + 2, s1.heap.objs.size + 3, s1.heap.objs.size, s1.heap.objs.size + 1], _, _, H1, rfl, I2, turn_zipN (PySem.W.ktu_apart s1.heap.objs.size a b p1.lt p2.lt), ⟨⟨_, _, hz, .inl rfl⟩, hI, ⟨_, _, hO⟩, t1, t2⟩, fun c hcm => ?_, q⟩
  have hle : s1.heap.objs.size ≤ c := by
    simp only [List.mem_cons, List.not_mem_nil, or_false] at hcm
    rcases hcm with rfl | rfl | rfl | rfl | rfl
    · exact Nat.le_add_right _ _
    · exact Nat.le_add_right _ _
    · exact Nat.le_add_right _ _
    · exact Nat.le_refl _
    · exact Nat.le_add_right _ _
  exact I1.fpOk hle (I1.hok.fresh hle)
end Fd
namespace Fd
open PySem PySem.Spec PyProof.Rows L2
/-! ### min of a list of pairs, a pair taken out of a list of pairs -/
theorem lexT_irr (a : Tie) : ¬ lexT a a := fun h => by
  unfold lexT at h
  omega
theorem dlt_pr (t u : Tie) (h : PySem.W.dataLt (prd t) (prd u) = true) : lexT t u := by
  have e := PySem.W.DatumOrd.lt_eq (α := Int × Int) t u
  have e2 : (if t.1 = u.1 then decide (t.2 < u.2) else decide (t.1 < u.1)) = true := e.symm.trans h
  unfold lexT
  by_cases c : t.1 = u.1
  · rw [if_pos c] at e2
    exact .inr ⟨c, of_decide_eq_true e2⟩
  · rw [if_neg c] at e2
    exact .inl (of_decide_eq_true e2)
theorem minD_head (d : Tie) : ∀ {ts : List Tie}, (∀ u ∈ ts, ¬ lexT u d) → PySem.W.minD (prd d) (ts.map prd) = prd d
  | [], _ => rfl
  | t :: ts, h => by
    unfold PySem.W.minD
    rw [List.map_cons, List.foldl_cons]
    have c : ¬ PySem.W.dataLt (prd t) (prd d) = true := fun z => h t List.mem_cons_self (dlt_pr t d z)
    rw [if_neg c]
    exact minD_head d fun u hu => h u (List.mem_cons_of_mem _ hu)
theorem prd_inj {t u : Tie} (h : prd t = prd u) : t = u := by
  unfold prd at h
  simp only [PyData.tuple.injEq, List.cons.injEq, PyData.int.injEq] at h
  exact Prod.ext h.1 h.2.1
def rMinP (K : PySem.W.Frag) : List V → Hp → VK → Prop := fun xs H Q => ∃ (a : Addr) (ws : List V) (d : Tie) (ts : List Tie), xs = [V.ref a] ∧ SqL K H a ws ∧ PairsAt H ws (d :: ts) ∧ (∀ u ∈ ts, ¬ lexT u d) ∧ ∀ t, H t = some (.tup [.int d.1, .int d.2]) → Q (.ref t) H
def rRemP (K : PySem.W.Frag) : V → List V → Hp → VK → Prop := fun x xs H Q => ∃ (l : Addr) (ws : List V) (ts : List Tie) (y : V) (t : Tie) (j : Nat), x = .ref l ∧ xs = [y] ∧ H l = some (.lst ws) ∧ PairsAt H ws ts ∧ PairAt H y t ∧ ts[j]? = some t ∧ (∀ i, i < j → ts[i]? ≠ some t) ∧
  Q .non (upd H l (.lst (ws.eraseIdx j)))
section
variable {X : Cx}
theorem cr_minP (hc : X.calm = true) (hu : X.A.units + 64 < cLine) : CallR X (.builtin "min") (rMinP X.K) := by
  intro pins s σ H x us Q I r h
  obtain ⟨a, ws, d, ts, rfl, hs, hp, hd, q⟩ := h
  obtain ⟨its, rv, hl, _⟩ := I.list hs
  rw [Vals.ref1 r]
  obtain ⟨as, hr⟩ := Dp.readsAll I _ ws its (dp_all hp) rv
  have dep := prds_depth (d :: ts)
  have alk : PySem.W.AlikeAll ((d :: ts).map prd) := by
    refine ⟨fun x hx y hy => ?_, fun x hx => ?_⟩
    · obtain ⟨t, _, rfl⟩ := List.mem_map.mp hx
      obtain ⟨u, _, rfl⟩ := List.mem_map.mp hy
      exact PySem.W.DatumOrd.alike (α := Int × Int) t u
    · obtain ⟨t, _, rfl⟩ := List.mem_map.mp hx
      exact fun z => by cases z
  refine PySem.W.min_list_data (x := prd d) (xs := ts.map prd) (I.ok.hd hc) hl.isList hr alk ?_ fun i v h' tk bs hi hr2 keep => ?_
  · have e : PyData.depthAll (prd d :: ts.map prd) ≤ 1 := dep
    omega
  · rw [minD_head d hd] at hr2
    have hi' : its[i]? = some v := by simpa using hi
    have il : i < ws.length := by
      have h1 := (List.getElem?_eq_some_iff.mp hi').1
      have h2 := rv.length
      omega
    obtain ⟨u, hu1, ru⟩ := rv.get (List.getElem?_eq_getElem il)
    obtain rfl : v = u := Option.some.inj (hi'.symm.trans hu1)
    obtain ⟨t, ht, c, ec, hc2⟩ := paired_get hp (List.getElem?_eq_getElem il)
    rw [ec] at ru
    cases (show v = Value.ref c from ru)
    obtain ⟨cs, hr3⟩ := Dp.reads I (prd t) (.ref c) (.ref c) (dp_pair ⟨c, rfl, hc2⟩) rfl
    have e := (Reads.unique hr2 _ _ (Reads.keeps keep hr3)).1
    obtain rfl := prd_inj e
    exact ⟨.ref c, H, I.kept keep, rfl, q c hc2⟩
theorem plain_prds : ∀ ts : List Tie, PyData.plainAll (ts.map prd) = true
  | [] => rfl
  | t :: ts => by
    show (PyData.plain (prd t) && PyData.plainAll (ts.map prd)) = true
    rw [plain_prds ts, Bool.and_true]
    rfl
theorem place_prd : ∀ {ts : List Tie} {t : Tie} {j : Nat}, ts[j]? = some t → (∀ i, i < j → ts[i]? ≠ some t) → SeqAt.dataPlace (ts.map prd) (prd t) = some j
  | [], t, j, h, _ => by simp at h
  | u :: ts, t, 0, h, _ => by
    cases Option.some.inj h
    unfold SeqAt.dataPlace
    rw [List.map_cons, List.findIdx?_cons, prd_eqv, decide_eq_true rfl]
    rfl
  | u :: ts, t, j + 1, h, no => by
    have ne : ¬ u = t := fun z => no 0 (Nat.succ_pos j) (by rw [z]; rfl)
    have ih := place_prd (ts := ts) (t := t) (j := j) h fun i hi => no (i + 1) (Nat.succ_lt_succ hi)
    unfold SeqAt.dataPlace at ih ⊢
    rw [List.map_cons, List.findIdx?_cons, prd_eqv, decide_eq_false ne, ih]
    rfl
theorem mt_removeP (hu : X.A.units + 65 < cLine) : MtM X "list.remove" (rRemP X.K) := by
  intro pins s σ H x xs v us Q I rx rxs h
  obtain ⟨l, ws, ts, y, t, j, rfl, rfl, hH, hp, hy, hj, hno, q⟩ := h
  cases rx
  obtain ⟨u, rfl, ru⟩ := rxs.one
  obtain ⟨z, its, n, r, hl, e⟩ := I.lstM hH
  obtain ⟨as, hr⟩ := Dp.readsAll I _ ws its (dp_all hp) r
  obtain ⟨bs, hr2⟩ := Dp.reads I (prd t) y u (dp_pair hy) ru
  have dep := prds_depth ts
  have dt := prd_depth t
  refine SeqAt.remove_list_data (vs := its.toArray) ⟨_, e, rfl, n, rfl⟩ hr hr2 (plain_prds ts) rfl ?_ (place_prd hj hno) (by rw [List.size_toArray]; omega) ?_
  · have := Nat.min_le_left (PyData.depthAll (ts.map prd)) (prd t).depth
    omega
  · refine ⟨.non, _, I.lset (its' := its.eraseIdx j) (t' := s.toks) hH e ?_ (r.eraseIdx j) ?_, rfl, q⟩
    · show its.toArray.eraseIdxIfInBounds j = (its.eraseIdx j).toArray
      rw [List.eraseIdxIfInBounds_toArray]
    · have z2 := List.length_eraseIdx_le ws j
      omega
end
end Fd
namespace Fd
open PySem PySem.Spec PyProof.Rows L2
/-! ### defs that may raise -/
structure CalX (P : Program) (w : World) (K : PySem.W.Frag) (mg : Str → Option Value) (base : Heap) (k : Nat) (x : Str) (sp : Sp) : Prop where
  ex : ∃ (f : Addr) (fd : FuncData) (ps : List Str), FnOk P w K mg base (L2.CX P w) k f fd ps sp ∧ mg x = some (.ref f) ∧ PySem.W.keepIn K (.ref f) = true ∧ Binds K fd ps []
structure MetX (P : Program) (w : World) (K : PySem.W.Frag) (mg : Str → Option Value) (base : Heap) (k : Nat) (C : Addr) (m : Str) (sp : Sp) : Prop where
  ex : ∃ (f : Addr) (fd : FuncData) (ps : List Str), Cls K C ∧ Meth K C m f ∧ FnOk P w K mg base (L2.CX P w) k f fd ps sp ∧ Binds K fd ps []
structure MakX (P : Program) (w : World) (K : PySem.W.Frag) (mg : Str → Option Value) (base : Heap) (k : Nat) (x : Str) (C : Addr) (sp : Sp) : Prop where
  ex : ∃ (f : Addr) (fd : FuncData) (ps : List Str), Mk K C f ∧ FnOk P w K mg base (L2.CX P w) k f fd ps sp ∧ mg x = some (.ref C) ∧ Binds K fd ps []
section
variable {P : Program} {w : World} {K : PySem.W.Frag} {mg : Str → Option Value} {base : Heap}
abbrev BodyX (P : Program) (w : World) (K : PySem.W.Frag) (mg : Str → Option Value) (base : Heap) (k : Nat) (qual : Str) (st : Stmt) (N : List Str) (sp : Sp) : Prop :=
  ∀ (f : Addr) (cdv : Value) (A : Around) (outer : List Env) (s : Shared) (H : Hp) (vs : List V) (Q : VK) (E : XK), Room k (A.deeper (envOfC qual (defScope st) s.heap.objs.size f cdv)) → sp vs H Q E →
    ∃ t, PSs (cxOf (L2.CX P w) P w K mg base N qual (defScope st) f cdv A outer s H E) (defBody st) t ∧ t { nx := fun _ H' => Q .non H', rt := Q } (start N vs) H
theorem calX_of {x : Str} {st : Stmt} {N ps : List Str} {k : Nat} {sp : Sp} (F : Fn K mg x st ps) (S : FnScope N ps (defScope st)) (len : ∀ vs H Q E, sp vs H Q E → vs.length = ps.length) (hb : BodyX P w K mg base k x st N sp) : CalX P w K mg base (k + 1) x sp := by
  obtain ⟨f, fd, F, hm, b⟩ := F.ex
  exact ⟨f, fd, ps, F.okX S len fun cdv A outer s H vs Q E hr h => hb f cdv A outer s H vs Q E hr h, hm, F.kp, b⟩
theorem metX_of {C : Addr} {m qual : Str} {st : Stmt} {N ps : List Str} {k : Nat} {sp : Sp} (c : Cls K C) (F : FnM K C m qual st ps) (S : FnScope N ps (defScope st)) (len : ∀ vs H Q E, sp vs H Q E → vs.length = ps.length) (hb : BodyX P w K mg base k qual st N sp) : MetX P w K mg base (k + 1) C m sp := by
  obtain ⟨f, fd, F, hm, b⟩ := F.ex
  exact ⟨f, fd, ps, c, hm, F.okX S len fun cdv A outer s H vs Q E hr h => hb f cdv A outer s H vs Q E hr h, b⟩
theorem makX_of {C : Addr} {x qual : Str} {st : Stmt} {N ps : List Str} {k : Nat} {sp : Sp} (g : mg x = some (.ref C)) (F : FnI K C qual st ps) (S : FnScope N ps (defScope st)) (len : ∀ vs H Q E, sp vs H Q E → vs.length = ps.length) (hb : BodyX P w K mg base k qual st N sp) : MakX P w K mg base (k + 1) x C sp := by
  obtain ⟨f, fd, F, hm, b⟩ := F.ex
  exact ⟨f, fd, ps, hm, F.okX S len fun cdv A outer s H vs Q E hr h => hb f cdv A outer s H vs Q E hr h, g, b⟩
end
section
variable {X : Cx} {k j : Nat} {C : Addr} {x m : Str} {sp : Sp} {E : XK} {p pos apos : Pos} {e o : Expr} {es : List Expr} {ta : TE} {t : TA}
theorem pe_cX (c : CalX X.prog X.w X.K X.mg X.base k x sp) (hr : Room j X.A) (hk : k ≤ j) (hg : Gl X x) (hx : Passes (L2.CX X.prog X.w) X E) (ha : PA X (e :: es) t)
    (hdb : (x == ("__debug__" : Str)) = false := by decide) (he : starEach (e :: es) X.env = (false, eval e X.env) :: starEach es X.env := by rfl) (hpl : (backTo pos (starEach es X.env)).any (·.1) = false := by rfl) : PE X (.Call (.Name x p) (e :: es) [] pos) (tCall sp [] E t) := by
  obtain ⟨f, fd, ps, F, hm, kp, b⟩ := c.ex
  exact pe_call F (hr.mono hk) hg hm kp b .nil hx ha hdb he hpl
theorem pe_mkX (c : MakX X.prog X.w X.K X.mg X.base k x C sp) (hr : Room j X.A) (hk : k + 1 ≤ j) (hg : Gl X x) (hx : Passes (L2.CX X.prog X.w) X E) (ha : PA X (e :: es) t)
    (hdb : (x == ("__debug__" : Str)) = false := by decide) (he : starEach (e :: es) X.env = (false, eval e X.env) :: starEach es X.env := by rfl) (hpl : (backTo pos (starEach es X.env)).any (·.1) = false := by rfl) : PE X (.Call (.Name x p) (e :: es) [] pos) (tMake C sp [] E t) := by
  obtain ⟨f, fd, ps, M, F, hm, b⟩ := c.ex
  exact pe_make M F (hr.mono hk) hg hm b .nil hx ha hdb he hpl
theorem pe_mtX {pl : Sem Bool} (c : MetX X.prog X.w X.K X.mg X.base k C m sp) (hr : Room j X.A) (hk : k ≤ j) (hx : Passes (L2.CX X.prog X.w) X E) (he : PE X o ta) (ha : PA X (e :: es) t)
    (hst : starEach (e :: es) X.env = (false, eval e X.env) :: starEach es X.env := by rfl) (hpl : (backTo pos (starEach es X.env)).any (·.1) = false := by rfl)
    (ht : eval (.Call (.Attribute o m apos) (e :: es) [] pos) X.env = (do
      let ov ← eval o X.env
      standAt apos.atName
      let (f, first) ← holding [ov] (getMethod ov m pl)
      callWith pos f first (backTo pos (starEach (e :: es) X.env)) (backToKw pos (keywordEach [] X.env))) := by rfl) : PE X (.Call (.Attribute o m apos) (e :: es) [] pos) (tMeth C m sp [] E ta t) := by
  obtain ⟨f, fd, ps, hc, hm, F, b⟩ := c.ex
  exact pe_meth (pl := pl) he hc hm F (hr.mono hk) b .nil hx ha hst hpl ht
end
/-! ### the error classes -/
abbrev bmV : List Value := [.type "ValueError", .type "Exception", .type "BaseException", .type "object"]
structure Err (K : PySem.W.Frag) (mg : Str → Option Value) (x : Str) (D : Addr) : Prop where
  g : mg x = some (.ref D)
  x : PySem.W.excIn K D bmV "ValueError.__new__" = true
  k : PySem.W.keepIn K (.ref D) = true
  b : PySem.W.subIn K (.ref D) (.type "BaseException") = some true
  t : PySem.W.typeIn K (.ref D) = some (.type "type")
theorem SqT.same {K : PySem.W.Frag} {H H' : Hp} {a : Addr} {xs : List V} (s : Same H H') (h : SqT K H a xs) : SqT K H' a xs := by
  rcases h with (h | ⟨o, h⟩) | h
  · exact .inl (.inl (s _ _ h))
  · exact .inl (.inr ⟨o, s _ _ h⟩)
  · exact .inr h
theorem TyB.same {K : PySem.W.Frag} {H H' : Hp} {x : V} {T : String} (s : Same H H') (h : TyB K H x T) : TyB K H' x T := by
  cases h with
  | non => exact .non
  | bl b => exact .bl b
  | int i => exact .int i
  | str x => exact .str x
  | byt b => exact .byt b
  | lst h => exact .lst (s.seq h)
  | tup h => exact .tup (SqT.same s h)
  | dK h => exact .dK (s _ _ h)
end Fd
namespace Fd
open PySem PySem.Spec PyProof.Rows L2
theorem flat_len {m : Nat} {ts : List Tie} {i : Nat} (hi : i ≤ 16) (hm : m ≤ 16) : ((pts i).flatMap (pickT m ts)).length ≤ 16 * 16 := by
  have h : ∀ l : List Int, (l.flatMap (pickT m ts)).length ≤ 16 * l.length := fun l => by
    induction l with
    | nil => simp
    | cons a l ih =>
      have h1 : (pickT m ts a).length ≤ 16 := by
        unfold pickT
        rw [List.length_map]
        have h2 := List.length_filter_le (fun y => decide (a < y)) (rowOf m ts a)
        have h3 := rowOf_len m ts a
        omega
      rw [List.flatMap_cons, List.length_append, List.length_cons]
      omega
  have h2 := h (pts i)
  rw [pts_len] at h2
  omega
/-! ### a web in the heap -/
def wF (m : Nat) (R : Addr) : List (Str × V) := [("many", .int m), ("_rows", .ref R)]
theorem lkHere {k : Str} {v : V} {r : List (Str × V)} : List.lookup k ((k, v) :: r) = some v := by simp [List.lookup]
theorem lkPast {k g : Str} {v : V} {r : List (Str × V)} (h : (k == g) = false) : List.lookup k ((g, v) :: r) = List.lookup k r := by simp [List.lookup, h]
theorem wF_many (m : Nat) (R : Addr) : (wF m R).lookup ("many" : Str) = some (.int m) := lkHere
theorem wF_rows (m : Nat) (R : Addr) : (wF m R).lookup ("_rows" : Str) = some (.ref R) := (lkPast (by decide +kernel)).trans lkHere
theorem wF_no (m : Nat) (R : Addr) {x : Str} (h1 : (x == ("many" : Str)) = false) (h2 : (x == ("_rows" : Str)) = false) : (wF m R).lookup x = none := (lkPast h1).trans ((lkPast h2).trans rfl)
theorem wF_new (m : Nat) (R : Addr) : putF "_rows" (.ref R) (putF "many" (.int m) []) = wF m R := by
  show (if ("many" : Str) = "_rows" then _ else (("many" : Str), V.int m) :: putF "_rows" (.ref R) []) = wF m R
  rw [if_neg (by decide +kernel)]
  rfl
structure WebAt (C : Addr) (H0 H : Hp) (p : Addr) (m : Nat) (ts : List Tie) : Prop where
  new : H0 p = none
  ex : ∃ (dx R : Addr) (as : List Addr), H p = some (.ins C dx (wF m R)) ∧ RowsAt H0 H R as (rowsOf m ts)
theorem WebAt.same {C p : Addr} {H0 H H' : Hp} {m : Nat} {ts : List Tie} (h : WebAt C H0 H p m ts) (s : Same H H') : WebAt C H0 H' p m ts := by
  obtain ⟨n, dx, R, as, h1, h2⟩ := h
  exact ⟨n, dx, R, as, s _ _ h1, h2.same s⟩
theorem WebAt.apart {C p : Addr} {H0 H H' : Hp} {m : Nat} {ts : List Tie} (h : WebAt C H0 H p m ts) (s : ∀ b o, H b = some o → H0 b = none → H' b = some o) : WebAt C H0 H' p m ts := by
  obtain ⟨n, dx, R, as, h1, h2⟩ := h
  exact ⟨n, dx, R, as, s _ _ h1 n, h2.apart s⟩
theorem WebAt.older {C p : Addr} {H0 H1 H : Hp} {m : Nat} {ts : List Tie} (h : WebAt C H1 H p m ts) (s : Same H0 H1) : WebAt C H0 H p m ts := by
  obtain ⟨n, dx, R, as, h1, h2⟩ := h
  exact ⟨s.free n, dx, R, as, h1, h2.older s⟩
def spInit (C : Addr) (K : PySem.W.Frag) : Sp := fun vs H Q _ => ∃ (H0 : Hp) (p dx : Addr) (m : Nat) (a : Addr) (ws : List V) (ts : List Tie), vs = [.ref p, .int m, .ref a] ∧ H p = some (.ins C dx []) ∧ Same H0 H ∧ H0 p = none ∧
  SqL K H0 a ws ∧ PairsAt H0 ws ts ∧ Good m ts ∧ 1 ≤ m ∧ m ≤ 16 ∧ ts.length ≤ 40 ∧
  ∀ H' : Hp, (∀ b o, H b = some o → b ≠ p → H' b = some o) → WebAt C H0 H' p m ts → Q .non H'
def spCheck (C : Addr) : Sp := fun vs H Q _ => ∃ (H0 : Hp) (p : Addr) (m : Nat) (ts : List Tie) (j : Nat), vs = [.ref p, .int j] ∧ WebAt C H0 H p m ts ∧ j < m ∧ Q .non H
def spBeside (C : Addr) : Sp := fun vs H Q _ => ∃ (H0 : Hp) (p : Addr) (m : Nat) (ts : List Tie) (j : Nat), vs = [.ref p, .int j] ∧ WebAt C H0 H p m ts ∧ j < m ∧
  ∀ D, H D = none → Q (.ref D) (upd H D (.lst (iL (rowOf m ts j))))
def spTied (C : Addr) : Sp := fun vs H Q _ => ∃ (H0 : Hp) (p : Addr) (m : Nat) (ts : List Tie) (i j : Nat), vs = [.ref p, .int i, .int j] ∧ WebAt C H0 H p m ts ∧ i < m ∧ j < m ∧
  Q (.bl (decide ((j : Int) ∈ rowOf m ts i))) H
def spTies (C : Addr) : Sp := fun vs H Q _ => ∃ (H0 : Hp) (p : Addr) (m : Nat) (ts : List Tie), vs = [.ref p] ∧ WebAt C H0 H p m ts ∧ Good m ts ∧ m ≤ 16 ∧
  ∀ (H' : Hp) (D : Addr) (ws : List V), Same H H' → H D = none → H' D = some (.lst ws) → PairsAt H' ws (toldT m ts) → Q (.ref D) H'
end Fd
namespace Fd
open PySem PySem.Spec PyProof.Rows L2
section
variable {P : Program} {w : World} {K : PySem.W.Frag} {mg : Str → Option Value} {base : Heap} {C : Addr}
theorem scInit : FnScope ["self", "many", "ties"] ["self", "many", "ties"] (defScope sWebInit) := ⟨rfl, rfl, rfl, by decide +kernel, rfl, by decide +kernel, by decide +kernel⟩
theorem c_init (T : WTxt K mg C) : C8.Mak P w K mg base 5 "Web" C (spInit C K) [] := by
  obtain ⟨tP, gP⟩ := T.mostP
  obtain ⟨tT, gT⟩ := T.mostT
  refine mak_of T.gWeb T.fInit scInit (fun vs H Q E h => ?_) (fun f cdv A outer s H vs Q E hr h => ?_)
  · obtain ⟨H0, p, dx, m, a, ws, ts, rfl, _⟩ := h
    rfl
  · obtain ⟨H0, p, dx, m, a, ws, ts, rfl, hp, s0, p0, hS, hP, g, m1, m16, ht, k⟩ := h
    refine ⟨_, pss_cons (ps_if (PW.pt (pw_or (pt_not (pt_val (C8.pe_c (c_num T) hr (by decide) (by rfl) (pa_cons (pv 1) pa_nil))))
        (pw_or1 (pt_not (pt_chain op_le op_le pe_int (pv 1) (pe_glob (v := .int 16) (by rfl) gP ⟨_, rfl⟩)))))) (pss_one ps_never) pss_nil)
      (pss_cons (ps_if (PW.pt (pw_or (pt_cmpR op_neTy (pe_callTy call_type1 (by rfl) T.type (by decide +kernel) (pa_cons (pv 2) pa_nil)) (pe_bltn (v := .ty "list") (by rfl) T.list (by decide +kernel) rfl) (nomark _))
        (pw_or1 (pt_cmpR op_gt (pe_callB call_len_seq (by rfl) T.len PySem.boot_len (pa_cons (pv 2) pa_nil)) (pe_glob (v := .int 40) (by rfl) gT ⟨_, rfl⟩) (nomark _))))) (pss_one ps_never) pss_nil)
      (pss_cons (ps_fld (pv 0) (pv 1) rfl)
      (pss_one (ps_fld (pv 0) (C8.pe_c (c_joined T) hr (by decide) (by rfl) (pa_cons (pv 1) (pa_cons (pv 2) pa_nil))) rfl)))), ?_⟩
    have hS' : SqL K H a ws := s0.seq hS
    have hl := hP.length
    -- if not _is_number(many) or not 1 <= many <= MOST_POINTS
    refine ⟨_, rfl, .int m, "int", rfl, .int _, true, rfl, ?_⟩
    refine iteF ?_
    refine ⟨_, rfl, 1, (m : Int), rfl, rfl, _, rfl, ?_⟩
    refine yep_ (decide_eq_true (by omega)) ?_
    refine ⟨(m : Int), 16, rfl, rfl, _, rfl, ?_⟩
    refine no_ (by rw [Bool.not_eq_false']; exact decide_eq_true (by omega)) ?_
    -- if type(ties) != list or len(ties) > MOST_TIES
    refine ⟨_, rfl, .ref a, "list", rfl, .lst hS', "list", "list", rfl, rfl, by decide, by decide, _, rfl, ?_⟩
    refine iteF ?_
    refine ⟨_, rfl, a, ws, rfl, .inl hS', _, 40, rfl, rfl, _, rfl, ?_⟩
    refine no_ (decide_eq_false (by omega)) ?_
    -- self.many = many
    refine ⟨_, rfl, _, rfl, p, C, dx, [], rfl, hp, T.cl, T.nMany, by show 0 < 1000; decide, ?_⟩
    -- self._rows = _joined(many, ties)
    have s1 : Same H0 (upd H p (.ins C dx (putF "many" (.int m) []))) := Same.write s0 p0
    refine ⟨_, rfl, _, rfl, m, a, ws, ts, rfl, s1.seq hS, hP.same s1, g, m16, ht, fun H' R as s' r' => ?_⟩
    have hp' : H' p = some (.ins C dx (putF "many" (.int m) [])) := s' _ _ upd_same
    refine ⟨_, rfl, p, C, dx, _, rfl, hp', T.cl, T.nRows, by show 1 < 1000; decide, ?_⟩
    refine k _ (fun b o e hb => ?_) ⟨p0, dx, R, as, by rw [upd_same, wF_new], ?_⟩
    · rw [upd_ne hb]
      exact s' _ _ (by rw [upd_ne hb]; exact e)
    · refine (r'.apart fun b o e hb => ?_).older s1
      rw [upd_ne (ne_of_none upd_same hb).symm]
      exact e
end
end Fd
namespace Fd
open PySem PySem.Spec PyProof.Rows L2
section
variable {P : Program} {w : World} {K : PySem.W.Frag} {mg : Str → Option Value} {base : Heap} {C : Addr}
theorem scCheck : FnScope ["self", "thing"] ["self", "thing"] (defScope sWebCheckPoint) := ⟨rfl, rfl, rfl, by decide +kernel, rfl, by decide +kernel, by decide +kernel⟩
theorem c_check (T : WTxt K mg C) (FC : FnM K C "_check_point" "Web._check_point" sWebCheckPoint ["self", "thing"]) : C8.Met P w K mg base 3 C "_check_point" (spCheck C) [] := by
  refine met_of T.cl FC scCheck (fun vs H Q E h => ?_) (fun f cdv A outer s H vs Q E hr h => ?_)
  · obtain ⟨H0, p, m, ts, j, rfl, _⟩ := h
    rfl
  · obtain ⟨H0, p, m, ts, j, rfl, ⟨p0, dx, R, as, hp, r⟩, hj, k⟩ := h
    refine ⟨_, pss_one (ps_if (pt_not (pt_val (C8.pe_c (c_point T) hr (by decide) (by rfl) (pa_cons (pe_fld (pv 0) rfl) (pa_cons (pv 1) pa_nil))))) (pss_one ps_never) pss_nil), ?_⟩
    refine ⟨_, rfl, p, C, dx, _, _, rfl, hp, T.cl, T.nMany, wF_many _ _, _, rfl, (m : Int), .int j, "int", rfl, .int _, _, rfl, no_ ?_ k⟩
    rw [Bool.not_eq_false']
    show (decide ((0 : Int) ≤ j) && decide ((j : Int) < m)) = true
    rw [decide_eq_true (by omega), decide_eq_true (by omega), Bool.and_self]
theorem scBeside : FnScope ["self", "point"] ["self", "point"] (defScope sWebBeside) := ⟨rfl, rfl, rfl, by decide +kernel, rfl, by decide +kernel, by decide +kernel⟩
theorem c_beside (T : WTxt K mg C) (FC : FnM K C "_check_point" "Web._check_point" sWebCheckPoint ["self", "thing"]) (FB : FnM K C "beside" "Web.beside" sWebBeside ["self", "point"]) : C8.Met P w K mg base 4 C "beside" (spBeside C) [] := by
  refine met_of T.cl FB scBeside (fun vs H Q E h => ?_) (fun f cdv A outer s H vs Q E hr h => ?_)
  · obtain ⟨H0, p, m, ts, j, rfl, _⟩ := h
    rfl
  · obtain ⟨H0, p, m, ts, j, rfl, W, hj, k⟩ := h
    obtain ⟨p0, dx, R, as, hp, r⟩ := id W
    refine ⟨_, pss_cons (ps_expr (C8.pe_mt (c_check T FC) hr (by decide) (pv 0) (pa_cons (pv 1) pa_nil)))
      (pss_one (ps_ret (pe_callTy call_list_of (by rfl) T.list (by decide +kernel) (pa_cons (pe_ix ix_list (pe_fld (pv 0) rfl) (pv 1) (fun _ _ => rfl)) pa_nil)))), ?_⟩
    obtain ⟨b, eb, ebr, _, hb⟩ := r.get (rowsOf_at (ts := ts) hj)
    refine ⟨_, rfl, p, dx, _, rfl, hp, wF_no _ _ (by decide +kernel) (by decide +kernel), _, rfl, H0, p, m, ts, j, rfl, W, hj, ?_⟩
    exact ⟨_, rfl, p, C, dx, _, _, rfl, hp, T.cl, T.nRows, wF_rows _ _, _, rfl, R, _, (j : Int), .ref b, rfl, rfl, SqL.of r.top, atI_nat ebr, b, _, rfl, .inl (SqL.of hb), k⟩
end
end Fd
namespace Fd
open PySem PySem.Spec PyProof.Rows L2
section
variable {P : Program} {w : World} {K : PySem.W.Frag} {mg : Str → Option Value} {base : Heap} {C : Addr}
theorem scTies : FnScope ["self", "one", "other"] ["self"] (defScope sWebTies) := ⟨rfl, rfl, rfl, by decide +kernel, rfl, by decide +kernel, by decide +kernel⟩
theorem c_ties (T : WTxt K mg C) (FT : FnM K C "ties" "Web.ties" sWebTies ["self"]) : C8.Met P w K mg base 1 C "ties" (spTies C) [] := by
  refine met_of T.cl FT scTies (fun vs H Q E h => ?_) (fun f cdv A outer s H vs Q E hr h => ?_)
  · obtain ⟨H0, p, m, ts, rfl, _⟩ := h
    rfl
  · obtain ⟨H0, p, m, ts, rfl, W, g, m16, k⟩ := h
    obtain ⟨p0, dx, R, as, hp, r⟩ := id W
    refine ⟨_, pss_one (ps_ret (pe_lc2 (own := [("one", 1), ("other", 2)]) (vs1 := [2]) (g := gName 1) (g1 := gName 2) (tt := tYes) (wi1 := iList K (tOp (rIxL K) (tFld K (tVar 0) "_rows") (tVar 1))) (by rfl) scTies.nd (pi_range1 (by rfl) T.range (pa_cons (pe_fld (pv 0) rfl) pa_nil))
      (blkOk_by (own := [("one", 1), ("other", 2)]) (N := ["self", "one", "other"]) (sc := defScope sWebTies) (by decide +kernel)) (by simp)
      (fun _ _ _ _ _ => pg_name (i := 1) scTies.nd rfl (Or.inl rfl)) (fun _ _ _ _ _ => pts_nil)
      (fun _ _ _ _ _ => pi_list (pe_ix ix_list (pe_fld (pv 0) rfl) (pv 1) (fun _ _ => rfl)))
      (fun _ _ _ _ _ => pg_name (i := 2) scTies.nd rfl (Or.inl rfl)) (fun _ _ _ _ _ => pts_one (pt_cmpR op_lt (pv 1) (pv 2) (nomark _)))
      (fun _ _ _ _ _ => pe_tup (pa_cons (pv 1) (pa_cons (pv 2) pa_nil))))), ?_⟩
    refine ⟨_, rfl, p, C, dx, _, _, rfl, hp, T.cl, T.nMany, wF_many _ _, (m : Int), rfl, by omega, by omega, fun D hD => ?_⟩
    refine ⟨fun i n H1 => n = m - i ∧ i ≤ m ∧ Same H H1 ∧ ∃ ws, H1 D = some (.lst ws) ∧ PairsAt H1 ws ((pts i).flatMap (pickT m ts)), ⟨_, rfl, Nat.zero_le _, Same.put hD, [], upd_same, .nil⟩, ?_⟩
    rintro i n H1 ⟨rfl, him, s1, ws, hDw, hw⟩
    by_cases hi : i < m
    · refine .inr ⟨by show i < (m : Int).toNat; omega, fun H2 => i + 1 ≤ m ∧ Same H H2 ∧ ∃ ws, H2 D = some (.lst ws) ∧ PairsAt H2 ws ((pts (i + 1)).flatMap (pickT m ts)), fun H2 q => ⟨m - (i + 1), by omega, rfl, q⟩, ?_⟩
      rintro x H2 ⟨rfl, rfl⟩
      refine ⟨rfl, ?_⟩
      refine yes_ ?_
      refine iteT ?_
      obtain ⟨b, eb, ebr, _, hb⟩ := r.get (rowsOf_at (ts := ts) hi)
      -- for other in self._rows[one]
      refine ⟨_, rfl, p, C, dx, _, _, rfl, s1 _ _ hp, T.cl, T.nRows, wF_rows _ _, _, rfl, R, _, (0 + (i : Int)), .ref b, rfl, rfl, SqL.of (s1 _ _ r.top), by rw [Int.zero_add]; exact atI_nat ebr, b, rfl, ⟨_, SqL.of (s1 _ _ hb)⟩, ?_⟩
      refine ⟨fun j n H2 => n = (rowOf m ts i).length - j ∧ j ≤ (rowOf m ts i).length ∧ Same H H2 ∧ ∃ ws, H2 D = some (.lst ws) ∧ PairsAt H2 ws ((pts i).flatMap (pickT m ts) ++ (((rowOf m ts i).take j).filter fun y => decide ((i : Int) < y)).map fun y => ((i : Int), y)),
        ⟨_, rfl, Nat.zero_le _, s1, ws, hDw, by rw [List.take_zero, List.filter_nil, List.map_nil, List.append_nil]; exact hw⟩, ?_⟩
      rintro j n H3 ⟨rfl, hjl, s3, us, hDu, hu⟩
      by_cases hj : j < (rowOf m ts i).length
      · have ej : (rowOf m ts i)[j]? = some (rowOf m ts i)[j] := List.getElem?_eq_getElem hj
        refine .inr ⟨⟨_, _, SqL.of (s3 _ _ hb), iL_get ej⟩, fun H4 => j + 1 ≤ (rowOf m ts i).length ∧ Same H H4 ∧ ∃ ws, H4 D = some (.lst ws) ∧ PairsAt H4 ws ((pts i).flatMap (pickT m ts) ++ (((rowOf m ts i).take (j + 1)).filter fun y => decide ((i : Int) < y)).map fun y => ((i : Int), y)), fun H4 q => ⟨_, by show (rowOf m ts i).length - (j + 1) < _; omega, rfl, q⟩, ?_⟩
        rintro x H4 ⟨rfl, hx⟩
        obtain rfl : x = .int (rowOf m ts i)[j] := Option.some.inj ((hx _ (SqL.of (s3 _ _ hb))).symm.trans (iL_get ej))
        generalize hy : (rowOf m ts i)[j] = y at ej ⊢
        refine ⟨rfl, ?_⟩
        -- if one < other
        refine ⟨_, rfl, _, rfl, (0 + (i : Int)), y, rfl, rfl, _, rfl, ?_⟩
        rw [Int.zero_add]
        refine ite2 (fun c => ?_) (fun c => ?_)
        · refine ⟨_, rfl, _, rfl, by show 2 ≤ sizeLine; decide, fun q hq => ?_⟩
          have qD : D ≠ q := ne_of_none hDu hq
          have l1 : us.length < sizeLine := by
            rw [hu.length, List.length_append, List.length_map]
            have h1 := List.length_filter_le (fun y => decide ((i : Int) < y)) ((rowOf m ts i).take (j + 1 - 1))
            have h2 := rowOf_len m ts i
            have h3 : ((pts i).flatMap (pickT m ts)).length ≤ 16 * 16 := flat_len (by omega) m16
            rw [List.length_take] at h1
            exact small (by simp only [Nat.add_sub_cancel] at h1; omega)
          refine ⟨us, by rw [upd_ne qD]; exact hDu, l1, by omega, Same.write (Same.step s3 hq) hD, _, upd_same, ?_⟩
          rw [take_next ej, List.filter_append, List.map_append, ← List.append_assoc]
          have e1 : (([y] : List Int).filter fun z => decide ((i : Int) < z)).map (fun z => ((i : Int), z)) = [((i : Int), y)] := by
            simp [of_decide_eq_true c]
          rw [e1]
          refine Paired.snoc ?_ ⟨q, rfl, by rw [upd_ne qD.symm, upd_same]⟩
          refine Paired.mono (fun v t ⟨a, e, h⟩ => ⟨a, e, ?_⟩) hu
          have a1 : a ≠ q := ne_of_none h hq
          have a2 : a ≠ D := ne_of h hDu (by intro z; cases z)
          rw [upd_ne a2, upd_ne a1]
          exact h
        · refine ⟨by omega, s3, us, hDu, ?_⟩
          rw [take_next ej, List.filter_append]
          have e1 : (([y] : List Int).filter fun z => decide ((i : Int) < z)) = [] := by
            simp [show ¬ ((i : Int) < y) from fun h => c (decide_eq_true h)]
          rw [e1, List.append_nil]
          exact hu
      · have e : j = (rowOf m ts i).length := by omega
        subst e
        refine .inl ⟨⟨_, SqL.of (s3 _ _ hb), by rw [List.length_map]; exact Nat.le_refl _⟩, by omega, s3, us, hDu, ?_⟩
        rw [List.take_length] at hu
        rw [pts_succ, List.flatMap_append, List.flatMap_singleton]
        exact hu
    · have e : i = m := by omega
      subst e
      exact .inl ⟨by show (i : Int).toNat ≤ i; omega, k H1 D ws s1 hD hDw hw⟩
end
end Fd
namespace Fd
open PySem PySem.Spec PyProof.Rows L2
structure LTxt (K : PySem.W.Frag) (mg : Str → Option Value) : Prop where
  isi : mg "isinstance" = none
  bool : mg "bool" = none
  max : mg "max" = none
  min : mg "min" = none
  fCell : Fn K mg "_law_cell_at" sLawCellAt ["_law_script", "_law_k"]
  fMany : Fn K mg "_law_many" sLawMany ["_law_script"]
/-! ### the law's small readers -/
def cellAt (ns : List Int) (k : Nat) : Int := ns.getD k 0
def spCell (K : PySem.W.Frag) : Sp := fun vs H Q _ => ∃ (a : Addr) (ns : List Int) (k : Nat), vs = [.ref a, .int k] ∧ SqL K H a (iL ns) ∧ Q (.int (cellAt ns k)) H
def isI : V → Bool
  | .int _ => true
  | _ => false
theorem tyX_of {K : PySem.W.Frag} {H : Hp} {x : V} {T : String} (h : TyB K H x T) : TyX K H x (.type T) := by
  cases h with
  | non => exact .base .non
  | bl b => exact .base (.bl b)
  | int i => exact .base (.int i)
  | str x => exact .base (.str x)
  | byt b => exact .byt b
  | lst h =>
    rcases h with (h | ⟨o, h⟩) | ⟨o, its, n, e, c, _⟩
    · exact .base (.lst h)
    · exact .base (.frz h)
    · exact .kList e c
  | tup h =>
    rcases h with (h | ⟨o, h⟩) | ⟨o, its, n, e, c, _⟩
    · exact .base (.tup h)
    · exact .fTuple h
    · exact .kTuple e c
  | dK h => exact .base (.dK h)
def spWholeX (K : PySem.W.Frag) : Sp := fun vs H Q _ => ∃ (x : V) (T : String), vs = [x] ∧ TyB K H x T ∧ Q (.bl (isI x)) H
def spWhole : Sp := fun vs H Q _ => ∃ i : Int, vs = [.int i] ∧ Q (.bl true) H
def spMany (K : PySem.W.Frag) : Sp := fun vs H Q _ => ∃ (a : Addr) (ns : List Int), vs = [.ref a] ∧ SqL K H a (iL ns) ∧ ∀ m : Nat, 1 ≤ m → m ≤ 16 → Q (.int m) H
def spLTies (K : PySem.W.Frag) : Sp := fun vs H Q _ => ∃ (a : Addr) (ns : List Int) (m : Nat), vs = [.ref a, .int m] ∧ SqL K H a (iL ns) ∧ 1 ≤ m ∧ m ≤ 16 ∧
  ∀ (H' : Hp) (D : Addr) (ws : List V) (ts : List Tie), Same H H' → H D = none → H' D = some (.lst ws) → PairsAt H' ws ts → Good m ts → ts.length ≤ 40 → Q (.ref D) H'
theorem hu65 {k : Nat} {A : Around} (hr : Room k A) : A.units + 65 < cLine := by
  have := hr.un
  omega
/-- a new pair put behind the others -/
theorem PairsAt.more {H : Hp} {D t : Addr} {ws : List V} {ts : List Tie} {o q : Int} (hD : H D = some (.lst ws)) (h : PairsAt H ws ts) (ht : H t = none) :
    PairsAt (upd (upd H t (.tup [.int o, .int q])) D (.lst (ws ++ [.ref t]))) (ws ++ [.ref t]) (ts ++ [(o, q)]) := by
  have tD : D ≠ t := ne_of_none hD ht
  refine Paired.snoc ?_ ⟨t, rfl, by rw [upd_ne tD.symm, upd_same]⟩
  refine Paired.mono (fun v u ⟨a, e, k⟩ => ⟨a, e, ?_⟩) h
  rw [upd_ne (ne_of k hD (by intro z; cases z)), upd_ne (ne_of_none k ht)]
  exact k
theorem cut_iL (ns : List Int) (lo hi : Option Int) : ∃ ms : List Int, cutV (iL ns) lo hi = iL ms ∧ ms.length ≤ ns.length := by
  refine ⟨(ns.drop (HT.sIx (iL ns).length 0 lo)).take (HT.sIx (iL ns).length (iL ns).length hi - HT.sIx (iL ns).length 0 lo), ?_, ?_⟩
  · unfold cutV iL
    rw [List.map_take, List.map_drop]
  · rw [List.length_take, List.length_drop]
    omega
theorem cut_len_ (xs : List V) : (cutV xs (some 2) (some 42)).length ≤ 40 := by
  unfold cutV
  rw [List.length_take]
  have e1 : HT.sIx xs.length 0 (some 2) = min 2 xs.length := HT.sIx_nat _ _ 2
  have e2 : HT.sIx xs.length xs.length (some 42) = min 42 xs.length := HT.sIx_nat _ _ 42
  rw [e1, e2]
  omega
section
variable {P : Program} {w : World} {K : PySem.W.Frag} {mg : Str → Option Value} {base : Heap} {C : Addr}
theorem scCell : FnScope ["_law_script", "_law_k"] ["_law_script", "_law_k"] (defScope sLawCellAt) := ⟨rfl, rfl, rfl, by decide +kernel, rfl, by decide +kernel, by decide +kernel⟩
theorem c_cell (T : WTxt K mg C) (L : LTxt K mg) : C8.Cal P w K mg base 1 "_law_cell_at" (spCell K) [] := by
  refine cal_of L.fCell scCell (fun vs H Q E h => ?_) (fun f cdv A outer s H vs Q E hr h => ?_)
  · obtain ⟨a, ns, k, rfl, _⟩ := h
    rfl
  · obtain ⟨a, ns, i, rfl, hS, k⟩ := h
    refine ⟨_, pss_cons (ps_if (pt_cmpR op_lt (pv 1) (pe_callB call_len_seq (by rfl) T.len PySem.boot_len (pa_cons (pv 0) pa_nil)) (nomark _)) (pss_one (ps_ret (pe_ix ix_list (pv 0) (pv 1) (fun _ _ => rfl)))) pss_nil)
      (pss_one (ps_ret pe_int)), ?_⟩
    refine ⟨_, rfl, _, rfl, a, iL ns, rfl, .inl hS, (i : Int), _, rfl, rfl, _, rfl, ?_⟩
    refine ite2 (fun c => ?_) (fun c => ?_)
    · have c' : i < ns.length := by
        have := of_decide_eq_true c
        rw [List.length_map] at this
        omega
      refine ⟨_, rfl, _, rfl, a, iL ns, (i : Int), .int (cellAt ns i), rfl, rfl, hS, atI_nat ?_, k⟩
      refine iL_get ?_
      unfold cellAt
      rw [List.getD_eq_getElem?_getD, List.getElem?_eq_getElem c']
      rfl
    · have c' : ¬ i < ns.length := fun z => c (decide_eq_true (by rw [List.length_map]; omega))
      have e : cellAt ns i = 0 := by
        unfold cellAt
        rw [List.getD_eq_getElem?_getD, List.getElem?_eq_none (by omega)]
        rfl
      rw [e] at k
      exact k
theorem scMany : FnScope ["_law_script"] ["_law_script"] (defScope sLawMany) := ⟨rfl, rfl, rfl, by decide +kernel, rfl, by decide +kernel, by decide +kernel⟩
theorem c_many (T : WTxt K mg C) (L : LTxt K mg) : C8.Cal P w K mg base 2 "_law_many" (spMany K) [] := by
  refine cal_of L.fMany scMany (fun vs H Q E h => ?_) (fun f cdv A outer s H vs Q E hr h => ?_)
  · obtain ⟨a, ns, rfl, _⟩ := h
    rfl
  · obtain ⟨a, ns, rfl, hS, k⟩ := h
    refine ⟨_, pss_cons (ps_if (pt_cmpR op_eq (pe_op op_mod (C8.pe_c (c_cell T L) hr (by decide) (by rfl) (pa_cons (pv 0) (pa_cons pe_int pa_nil))) pe_int) pe_int (nomark _))
        (pss_one (ps_ret (pe_op op_add pe_int (pe_op op_mod (pe_op op_fdiv (C8.pe_c (c_cell T L) hr (by decide) (by rfl) (pa_cons (pv 0) (pa_cons pe_int pa_nil))) pe_int) pe_int)))) pss_nil)
      (pss_one (ps_ret (pe_op op_add pe_int (pe_op op_mod (pe_op op_fdiv (C8.pe_c (c_cell T L) hr (by decide) (by rfl) (pa_cons (pv 0) (pa_cons pe_int pa_nil))) pe_int) pe_int)))), ?_⟩
    refine ⟨_, rfl, a, ns, 0, rfl, hS, _, _, rfl, rfl, by show (0 : Int) < 6; decide, rfl, _, rfl, ?_⟩
    refine ite2 (fun _ => ?_) (fun _ => ?_)
    · refine ⟨_, rfl, a, ns, 0, rfl, hS, _, _, rfl, rfl, ⟨by decide, by decide⟩, _, _, rfl, rfl, by show (0 : Int) < 8; decide, _, _, rfl, rfl, ?_⟩
      have h1 := Int.emod_nonneg (cellAt ns 0 / 6) (show (8 : Int) ≠ 0 by decide)
      have h2 := Int.emod_lt_of_pos (cellAt ns 0 / 6) (show (0 : Int) < 8 by decide)
      have q := k (9 + cellAt ns 0 / 6 % 8).toNat (by omega) (by omega)
      rw [Int.toNat_of_nonneg (by omega)] at q
      exact q
    · refine ⟨_, rfl, a, ns, 0, rfl, hS, _, _, rfl, rfl, ⟨by decide, by decide⟩, _, _, rfl, rfl, by show (0 : Int) < 8; decide, _, _, rfl, rfl, ?_⟩
      have h1 := Int.emod_nonneg (cellAt ns 0 / 6) (show (8 : Int) ≠ 0 by decide)
      have h2 := Int.emod_lt_of_pos (cellAt ns 0 / 6) (show (0 : Int) < 8 by decide)
      have q := k (1 + cellAt ns 0 / 6 % 8).toNat (by omega) (by omega)
      rw [Int.toNat_of_nonneg (by omega)] at q
      exact q
end
end Fd
namespace Fd
open PySem PySem.Spec PyProof.Rows L2
noncomputable def dB (p : Prop) : Bool := @decide p (Classical.propDecidable p)
theorem dB_t {p : Prop} (h : p) : dB p = true := @decide_eq_true p (Classical.propDecidable p) h
theorem dB_f {p : Prop} (h : ¬ p) : dB p = false := @decide_eq_false p (Classical.propDecidable p) h
theorem dB_iff {p : Prop} : dB p = true ↔ p := @decide_eq_true_iff p (Classical.propDecidable p)
theorem dB_eq {p q : Prop} (h : p ↔ q) : dB p = dB q := by rw [Bool.eq_iff_iff, dB_iff, dB_iff]; exact h
theorem dB_dec {p : Prop} [Decidable p] : dB p = decide p := by rw [Bool.eq_iff_iff, dB_iff, decide_eq_true_iff]
/-! ### what is handed in as turns -/
inductive It
  | lst (xs : List V)
  | oth
inductive ItAt (K : PySem.W.Frag) (H : Hp) : V → It → Prop
  | lst {a : Addr} {xs : List V} (h : SqL K H a xs) (t : ∀ y ∈ xs, ∃ T, TyB K H y T) (l : xs.length ≤ 100) : ItAt K H (.ref a) (.lst xs)
  | oth {x : V} {T : String} (h : TyB K H x T) (n : T ≠ "list") : ItAt K H x .oth
inductive ThAt (K : PySem.W.Frag) (H : Hp) : V → Option (List It) → Prop
  | lst {a : Addr} {ws : List V} {its : List It} (h : SqL K H a ws) (p : Paired (ItAt K H) ws its) (l : ws.length ≤ 100) : ThAt K H (.ref a) (some its)
  | oth {x : V} {T : String} (h : TyB K H x T) (n : T ≠ "list") : ThAt K H x none
theorem ItAt.same {K : PySem.W.Frag} {H H' : Hp} {x : V} {it : It} (s : Same H H') (h : ItAt K H x it) : ItAt K H' x it := by
  cases h with
  | lst h t l => exact .lst (s.seq h) (fun y hy => (t y hy).imp fun T z => TyB.same s z) l
  | oth h n => exact .oth (TyB.same s h) n
theorem itsSame {K : PySem.W.Frag} {H H' : Hp} {ws : List V} {its : List It} (s : Same H H') (h : Paired (ItAt K H) ws its) : Paired (ItAt K H') ws its := Paired.mono (fun _ _ k => ItAt.same s k) h
theorem ThAt.same {K : PySem.W.Frag} {H H' : Hp} {x : V} {o : Option (List It)} (s : Same H H') (h : ThAt K H x o) : ThAt K H' x o := by
  cases h with
  | lst h p l => exact .lst (s.seq h) (itsSame s p) l
  | oth h n => exact .oth (TyB.same s h) n
theorem itAt_ints {K : PySem.W.Frag} {H : Hp} {a : Addr} {r : List Int} (h : SqL K H a (iL r)) (l : r.length ≤ 100) : ItAt K H (.ref a) (.lst (iL r)) := by
  refine .lst h (fun y hy => ?_) (by rw [List.length_map]; exact l)
  obtain ⟨i, _, rfl⟩ := List.mem_map.mp hy
  exact ⟨_, .int i⟩
def okIt (r : List Int) : It → Prop
  | .lst xs => ∃ is : List Int, xs = iL is ∧ is.Perm r
  | .oth => False
def okTh (rss : List (List Int)) : Option (List It) → Prop
  | some its => its.length = rss.length ∧ ∀ (k : Nat) (it : It) (r : List Int), its[k]? = some it → rss[k]? = some r → okIt r it
  | none => False
theorem isInt_ty {K : PySem.W.Frag} {H : Hp} {x : V} {T : String} (h : TyB K H x T) : decide (T = "int") = isI x := by
  cases h <;> rfl
theorem allInt : ∀ {xs : List V}, (xs.map isI).all id = true → ∃ is : List Int, xs = iL is
  | [], _ => ⟨[], rfl⟩
  | x :: xs, h => by
    rw [List.map_cons, List.all_cons, Bool.and_eq_true] at h
    obtain ⟨is, e⟩ := allInt h.2
    cases x with
    | int i => exact ⟨i :: is, by rw [e]; rfl⟩
    | _ => exact absurd h.1 Bool.false_ne_true
theorem iL_inj {xs ys : List Int} (h : iL xs = iL ys) : xs = ys := List.map_inj_right (fun _ _ e => V.int.inj e) |>.mp h
theorem perm_sorted {is js r : List Int} (hp : js.Perm is) (ho : js.Pairwise (· ≤ ·)) (hr : r.Pairwise (· < ·)) : js = r ↔ is.Perm r := by
  constructor
  · rintro rfl
    exact hp.symm
  · intro h
    have nd : r.Nodup := hr.imp fun h e => by omega
    refine strict_uniq (lt := fun a b : Int => a < b) (fun a b h => by omega) (strict_of_le ho ((hp.trans h).nodup_iff.mpr nd)) hr fun x => (hp.trans h).mem_iff
theorem inl_eqv : ∀ (xs ys : List Int), PyData.eqvAll (xs.map PyData.int) (ys.map PyData.int) = decide (xs = ys)
  | [], [] => by simp [PyData.eqvAll]
  | [], y :: ys => by simp [PyData.eqvAll]
  | x :: xs, [] => by simp [PyData.eqvAll]
  | x :: xs, y :: ys => by
    rw [List.map_cons, List.map_cons, PyData.eqvAll, inl_eqv xs ys, Bool.eq_iff_iff]
    simp [PyData.eqv]
theorem ints_eqv (xs ys : List Int) : PyData.eqv (.list (xs.map PyData.int)) (.list (ys.map PyData.int)) = decide (xs = ys) := by
  rw [← inl_eqv]
  simp [PyData.eqv]
structure TTxt (K : PySem.W.Frag) (mg : Str → Option Value) (C : Addr) : Prop where
  all : mg "all" = none
  enum : mg "enumerate" = none
  fIsTurn : Fn K mg "_is_turn" sIsTurn ["near", "turn"]
  fAre : Fn K mg "are_turns" sAreTurns ["web", "turns"]
  fC : FnM K C "_check_point" "Web._check_point" sWebCheckPoint ["self", "thing"]
  fB : FnM K C "beside" "Web.beside" sWebBeside ["self", "point"]
def spIsTurn (K : PySem.W.Frag) : Sp := fun vs H Q _ => ∃ (n : Addr) (x : V) (r : List Int) (it : It), vs = [.ref n, x] ∧ H n = some (.lst (iL r)) ∧ r.Pairwise (· < ·) ∧ ItAt K H x it ∧ ∀ H', Same H H' → Q (.bl (dB (okIt r it))) H'
def spAre (C : Addr) (K : PySem.W.Frag) : Sp := fun vs H Q _ => ∃ (H0 : Hp) (p : Addr) (m : Nat) (ts : List Tie) (x : V) (o : Option (List It)), vs = [.ref p, x] ∧ WebAt C H0 H p m ts ∧ m ≤ 16 ∧ ThAt K H x o ∧ ∀ H', Same H H' → Q (.bl (dB (okTh (rowsOf m ts) o))) H'
section
variable {P : Program} {w : World} {K : PySem.W.Frag} {mg : Str → Option Value} {base : Heap} {C : Addr}
abbrev nIsTurn : List Str := ["near", "turn", "point"]
theorem scIsTurn : FnScope ["near", "turn", "point"] ["near", "turn"] (defScope sIsTurn) := ⟨rfl, rfl, rfl, by decide +kernel, rfl, by decide +kernel, by decide +kernel⟩
theorem c_isturn (T : WTxt K mg C) (U : TTxt K mg C) : C8.Cal P w K mg base 2 "_is_turn" (spIsTurn K) [] := by
  refine cal_of U.fIsTurn scIsTurn (fun vs H Q E h => ?_) (fun f cdv A outer s H vs Q E hr h => ?_)
  · obtain ⟨n, x, r, it, rfl, _⟩ := h
    rfl
  · obtain ⟨n, x, r, it, rfl, hn, hr0, hx, k⟩ := h
    have hun : (A.deeper (envOfC "_is_turn" (defScope sIsTurn) s.heap.objs.size f cdv)).units + 64 < cLine := by
      have := hr.un
      omega
    refine ⟨_, pss_one (ps_ret (pe_and (pe_cmpR op_eqTy (pe_callTy call_type1 (by rfl) T.type (by decide +kernel) (pa_cons (pv 1) pa_nil)) (pe_bltn (v := .ty "list") (by rfl) T.list (by decide +kernel) rfl) (nomark _))
      (pe_and (pe_callB (cr_all rfl) (by rfl) U.all (by decide +kernel) (pa_cons (pe_lc (own := [("point", 2)]) (g := gName 2) (tt := tYes) (te := tCall (spNum K) [] C8.E0 (tCons (tVar 2) tNil)) (by rfl) scIsTurn.nd (pi_list (pv 1))
          (blkOk_by (own := [("point", 2)]) (N := nIsTurn) (sc := defScope sIsTurn) (by decide +kernel)) (fun _ _ _ _ _ => pg_name (i := 2) scIsTurn.nd rfl (Or.inl rfl)) (fun _ _ _ _ _ => pts_nil)
          (fun _ _ _ _ _ => C8.pe_c (c_num T) hr (by decide) (by rfl) (pa_cons (pv 2) pa_nil))) pa_nil))
      (pe_one (pe_cmpR (op_eqD hun) (pe_callB (id := "sorted") (r := rSortedI K) cr_sortedI (by rfl) T.sorted (by decide +kernel) (pa_cons (pv 1) pa_nil)) (pv 0) (nomark _)))))), ?_⟩
    cases hx with
    | @oth _ T0 h hne =>
      refine ⟨_, rfl, x, T0, rfl, h, T0, "list", rfl, rfl, TyB_kind h, by decide, _, rfl, ?_⟩
      refine no_ (decide_eq_false hne) ?_
      have q := k H (Same.refl H)
      rw [dB_f (p := okIt r .oth) (fun z => z)] at q
      exact q
    | @lst a xs h t l =>
      refine ⟨_, rfl, .ref a, "list", rfl, .lst h, "list", "list", rfl, rfl, by decide, by decide, _, rfl, ?_⟩
      refine iteT ?_
      refine ⟨_, rfl, a, rfl, ⟨_, h⟩, fun D hD => ?_⟩
      refine lc_list (K := K) (a := a) (xs := xs) (fun i H1 => Same H H1 ∧ H1 D = some (.lst (((xs.take i).map isI).map V.bl))) ⟨Same.put hD, upd_same⟩ (fun i H1 _ ⟨s1, _⟩ => s1.seq h) (fun i y H1 hi ⟨s1, d1⟩ => ?_) (fun H1 ⟨s1, d1⟩ => ?_)
      · have hlt := (List.getElem?_eq_some_iff.mp hi).1
        obtain ⟨T1, ht⟩ := t y (List.mem_of_getElem? hi)
        refine ⟨rfl, ?_⟩
        refine yes_ ?_
        refine iteT ?_
        refine ⟨_, rfl, y, T1, rfl, TyB.same s1 ht, ?_⟩
        refine ⟨_, d1, ?_, Same.write s1 hD, ?_⟩
        · rw [List.length_map, List.length_map, List.length_take]
          exact small (by omega)
        · rw [upd_same, isInt_ty ht, take_next hi, List.map_append, List.map_append]
          rfl
      · rw [List.take_length] at d1
        refine ⟨D, xs.map isI, rfl, SqL.of d1, _, rfl, ?_⟩
        by_cases c : (xs.map isI).all id = true
        · refine yep_ c ?_
          obtain ⟨is, rfl⟩ := allInt c
          refine ⟨_, rfl, a, is, rfl, s1.seq h, fun js p hp ho hnew => ?_⟩
          have s2 := Same.step (o := .lst (js.map V.int)) s1 hnew
          refine ⟨_, rfl, .list (js.map PyData.int), .list (r.map PyData.int), dp_ints (SqL.of upd_same), dp_ints (SqL.of (s2 _ _ hn)), inl_shaped _, inl_shaped _, ?_⟩
          have q := k _ s2
          rw [ints_eqv]
          have e : dB (okIt r (.lst (iL is))) = decide (js = r) := by
            rw [← dB_dec]
            refine dB_eq ?_
            rw [perm_sorted hp ho hr0]
            constructor
            · rintro ⟨is', e1, e2⟩
              rw [iL_inj e1]
              exact e2
            · exact fun z => ⟨is, rfl, z⟩
          rw [e] at q
          exact q
        · have c' := Bool.eq_false_iff.mpr c
          refine no_ c' ?_
          have q := k H1 s1
          rw [dB_f] at q
          · exact q
          · rintro ⟨is, rfl, _⟩
            refine c ?_
            rw [List.all_eq_true]
            intro b hb
            obtain ⟨y, hy, rfl⟩ := List.mem_map.mp hb
            obtain ⟨i, _, rfl⟩ := List.mem_map.mp hy
            rfl
end
end Fd
namespace Fd
open PySem PySem.Spec PyProof.Rows L2
section
variable {P : Program} {w : World} {K : PySem.W.Frag} {mg : Str → Option Value} {base : Heap} {C : Addr}
abbrev nAre : List Str := ["web", "turns", "point", "turn"]
theorem scAre : FnScope ["web", "turns", "point", "turn"] ["web", "turns"] (defScope sAreTurns) := ⟨rfl, rfl, rfl, by decide +kernel, rfl, by decide +kernel, by decide +kernel⟩
theorem okTh_len {rss : List (List Int)} {its : List It} (h : its.length ≠ rss.length) : ¬ okTh rss (some its) := fun z => h z.1
theorem okTh_all {rss : List (List Int)} {its : List It} {bs : List Bool} (hl : its.length = rss.length) (hb : bs.length = its.length)
    (h : ∀ (k : Nat) (it : It) (r : List Int), its[k]? = some it → rss[k]? = some r → bs[k]? = some (dB (okIt r it))) : bs.all id = dB (okTh rss (some its)) := by
  rw [Bool.eq_iff_iff, dB_iff, List.all_eq_true]
  constructor
  · refine fun q => ⟨hl, fun k it r e1 e2 => ?_⟩
    have z := q _ (List.mem_of_getElem? (h k it r e1 e2))
    exact dB_iff.mp z
  · rintro ⟨_, q⟩ b hm
    obtain ⟨k, hk⟩ := List.mem_iff_getElem?.mp hm
    have k1 : k < bs.length := (List.getElem?_eq_some_iff.mp hk).1
    have e1 : its[k]? = some its[k] := List.getElem?_eq_getElem (by omega)
    have e2 : rss[k]? = some rss[k] := List.getElem?_eq_getElem (by omega)
    have z := h k _ _ e1 e2
    rw [Option.some.inj (hk.symm.trans z)]
    exact dB_t (q k _ _ e1 e2)
theorem c_are (T : WTxt K mg C) (U : TTxt K mg C) : C8.Cal P w K mg base 5 "are_turns" (spAre C K) [] := by
  refine cal_of U.fAre scAre (fun vs H Q E h => ?_) (fun f cdv A outer s H vs Q E hr h => ?_)
  · obtain ⟨H0, p, m, ts, x, o, rfl, _⟩ := h
    rfl
  · obtain ⟨H0, p, m, ts, x, o, rfl, W, m16, hx, k⟩ := h
    obtain ⟨p0, dx, R, as, hp, r⟩ := id W
    refine ⟨_, pss_cons (ps_if (PW.pt (pw_or (pt_cmpR op_neTy (pe_callTy call_type1 (by rfl) T.type (by decide +kernel) (pa_cons (pv 1) pa_nil)) (pe_bltn (v := .ty "list") (by rfl) T.list (by decide +kernel) rfl) (nomark _))
        (pw_or1 (pt_cmpR op_ne (pe_callB call_len_seq (by rfl) T.len PySem.boot_len (pa_cons (pv 1) pa_nil)) (pe_fld (pv 0) rfl) (nomark _))))) (pss_one (ps_ret pe_bl)) pss_nil)
      (pss_one (ps_ret (pe_callB (cr_all rfl) (by rfl) U.all (by decide +kernel) (pa_cons (pe_lc (own := [("point", 2), ("turn", 3)]) (g := gTup K 2 (gCons (gName 2) (gCons (gName 3) gNil))) (tt := tYes)
          (te := tCall (spIsTurn K) [] C8.E0 (tCons (tMeth C "beside" (spBeside C) [] C8.E0 (tVar 0) (tCons (tVar 2) tNil)) (tCons (tVar 3) tNil))) (by rfl) scAre.nd (pi_enum (by rfl) U.enum (pa_cons (pv 1) pa_nil))
          (blkOk_by (own := [("point", 2), ("turn", 3)]) (N := nAre) (sc := defScope sAreTurns) (by decide +kernel))
          (fun _ _ _ _ _ => pg_tup (by rfl) (pgs_cons (pg_name (i := 2) scAre.nd rfl (Or.inl rfl)) (pgs_cons (pg_name (i := 3) scAre.nd rfl (Or.inl rfl)) pgs_nil))) (fun _ _ _ _ _ => pts_nil)
          (fun _ _ _ _ _ => C8.pe_c (c_isturn T U) hr (by decide) (by rfl) (pa_cons (C8.pe_mt (c_beside T U.fC U.fB) hr (by decide) (pv 0) (pa_cons (pv 2) pa_nil)) (pa_cons (pv 3) pa_nil)))) pa_nil)))), ?_⟩
    cases hx with
    | @oth _ T0 h hne =>
      refine ⟨_, rfl, x, T0, rfl, h, T0, "list", rfl, rfl, TyB_kind h, by decide, _, rfl, ?_⟩
      refine yep_ (by rw [decide_eq_false hne]; rfl) ?_
      refine iteT ?_
      have q := k H (Same.refl H)
      rw [dB_f (p := okTh (rowsOf m ts) none) (fun z => z)] at q
      exact q
    | @lst a ws its h pr l =>
      have wl := pr.length
      refine ⟨_, rfl, .ref a, "list", rfl, .lst h, "list", "list", rfl, rfl, by decide, by decide, _, rfl, ?_⟩
      refine iteF ?_
      refine ⟨_, rfl, a, ws, rfl, .inl h, _, rfl, p, C, dx, _, _, rfl, hp, T.cl, T.nMany, wF_many _ _, rfl, _, rfl, ?_⟩
      by_cases c : ws.length = m
      · refine no_ (by rw [c, decide_eq_true rfl]; rfl) ?_
        refine ⟨_, rfl, a, ws, rfl, h, fun D hD => ?_⟩
        refine ⟨fun i n H2 => n = m - i ∧ i ≤ m ∧ Same H H2 ∧ ∃ bs : List Bool, H2 D = some (.lst (bs.map V.bl)) ∧ bs.length = i ∧ (∀ (k : Nat) (it : It) (r : List Int), k < i → its[k]? = some it → (rowsOf m ts)[k]? = some r → bs[k]? = some (dB (okIt r it))),
          ⟨m, rfl, Nat.zero_le _, Same.put hD, [], upd_same, rfl, fun k it r z => by omega⟩, ?_⟩
        rintro i n H2 ⟨rfl, him, s2, bs, d2, bl, hb⟩
        by_cases hi : i < m
        · have ew : ws[i]? = some ws[i] := List.getElem?_eq_getElem (by omega)
          generalize ws[i] = y0 at ew
          obtain ⟨it, ei, hit⟩ := paired_get pr ew
          have er := rowsOf_at (ts := ts) hi
          refine .inr ⟨⟨_, _, s2.seq h, ew⟩, fun H3 => i + 1 ≤ m ∧ Same H H3 ∧ ∃ bs : List Bool, H3 D = some (.lst (bs.map V.bl)) ∧ bs.length = i + 1 ∧ (∀ (k : Nat) (it : It) (r : List Int), k < i + 1 → its[k]? = some it → (rowsOf m ts)[k]? = some r → bs[k]? = some (dB (okIt r it))), fun H3 q => ⟨m - (i + 1), by omega, rfl, q⟩, ?_⟩
          rintro x H3 ⟨T0, y, rfl, hT, rfl, hy⟩
          obtain rfl : y = y0 := Option.some.inj ((hy _ (s2.seq h)).symm.trans ew)
          have s3 := Same.put (o := .tup [.int ((i : Nat) : Int), y]) hT
          refine ⟨T0, _, rfl, SqT.of upd_same, rfl, _, _, rfl, _, _, rfl, rfl, ?_⟩
          refine ⟨rfl, ?_⟩
          refine yes_ ?_
          refine iteT ?_
          have s4 := s2.trans s3
          refine ⟨_, rfl, p, dx, _, rfl, s4 _ _ hp, wF_no _ _ (by decide +kernel) (by decide +kernel), _, rfl, H0, p, m, ts, i, rfl, W.same s4, hi, fun N hN => ?_⟩
          have s5 := Same.step (o := .lst (iL (rowOf m ts i))) s4 hN
          refine ⟨_, rfl, N, y, rowOf m ts i, it, rfl, upd_same, rowOf_strict m ts i, ItAt.same s5 hit, fun H4 s6 => ?_⟩
          refine ⟨bs.map V.bl, s6 _ _ (Same.put hN _ _ (s3 _ _ d2)), by rw [List.length_map, bl]; exact small (by omega), by omega, Same.write (s5.trans s6) hD, bs ++ [dB (okIt (rowOf m ts i) it)], ?_, by rw [List.length_append, bl]; rfl, ?_⟩
          · rw [upd_same, List.map_append]
            rfl
          · intro j it' r' hj e1 e2
            by_cases hji : j < i
            · rw [List.getElem?_append_left (by omega)]
              exact hb j it' r' hji e1 e2
            · have e : j = i := by omega
              subst e
              cases Option.some.inj (e1.symm.trans ei)
              cases Option.some.inj (e2.symm.trans er)
              rw [List.getElem?_append_right (by omega), bl, Nat.sub_self]
              rfl
        · have e : i = m := by omega
          subst e
          refine .inl ⟨⟨_, s2.seq h, by rw [c]; exact Nat.le_refl _⟩, ?_⟩
          refine ⟨D, bs, rfl, SqL.of d2, ?_⟩
          rw [okTh_all (rss := rowsOf i ts) (its := its) (by rw [rowsOf_len, ← wl, c]) (by rw [bl, ← wl, c]) fun k it r e1 e2 => hb k it r (by
            have := (List.getElem?_eq_some_iff.mp e2).1
            rw [rowsOf_len] at this
            exact this) e1 e2]
          exact k H2 s2
      · refine yep_ ?_ ?_
        · rw [Bool.not_eq_true']
          exact decide_eq_false fun z => c (by have := V.int.inj z; omega)
        · have q := k H (Same.refl H)
          rw [dB_f (okTh_len (by rw [rowsOf_len, ← wl]; exact c))] at q
          exact q
end
end Fd
namespace Fd
open PySem PySem.Spec PyProof.Rows L2
/-! ### rows told in another order -/
theorem RowsAt.put {H0 H H' : Hp} {R p : Addr} {as : List Addr} {rss : List (List Int)} {r : List Int} (h : RowsAt H0 H R as rss) (s0 : Same H0 H) (s : Same H H') (hp : H p = none) (hp' : H' p = some (.lst (iL r))) :
    RowsAt H0 (upd H' R (.lst (as.map V.ref ++ [.ref p]))) R (as ++ [p]) (rss ++ [r]) := by
  have pR : R ≠ p := ne_of_none h.top hp
  have pas : p ∉ as := fun hm => by
    obtain ⟨i, hi, e⟩ := List.getElem_of_mem hm
    have e' : as[i]? = some p := by rw [List.getElem?_eq_getElem hi, e]
    have hi2 : i < rss.length := by rw [← h.len]; exact hi
    have q := (h.row i p rss[i] e' (List.getElem?_eq_getElem hi2)).2
    rw [hp] at q
    cases q
  refine ⟨by rw [upd_same, List.map_append]; rfl, h.new, by simp [h.len], List.nodup_append.mpr ⟨h.nd, by simp, fun x hx y hy e => ?_⟩, fun hm => ?_, fun i a r' e1 e2 => ?_⟩
  · rw [List.mem_singleton.mp hy] at e
    exact pas (e ▸ hx)
  · rcases List.mem_append.mp hm with k | k
    · exact h.out k
    · exact pR (List.mem_singleton.mp k)
  · by_cases hi : i < as.length
    · rw [List.getElem?_append_left hi] at e1
      rw [List.getElem?_append_left (by rw [← h.len]; exact hi)] at e2
      obtain ⟨k1, k2⟩ := h.row i a r' e1 e2
      have aR : a ≠ R := fun e => h.out (e ▸ List.mem_of_getElem? e1)
      exact ⟨k1, by rw [upd_ne aR]; exact s _ _ k2⟩
    · have hi' : as.length ≤ i := Nat.le_of_not_lt hi
      rw [List.getElem?_append_right hi'] at e1
      rw [List.getElem?_append_right (by rw [← h.len]; exact hi')] at e2
      obtain ⟨e1a, e1b⟩ := List.getElem?_eq_some_iff.mp e1
      obtain ⟨e2a, e2b⟩ := List.getElem?_eq_some_iff.mp e2
      simp only [List.getElem_singleton] at e1b e2b
      subst e1b
      subst e2b
      exact ⟨s0.free hp, by rw [upd_ne pR.symm]; exact hp'⟩
theorem map_erase : ∀ (l : List Int) (j : Nat), (iL l).eraseIdx j = iL (l.eraseIdx j)
  | [], _ => by simp
  | x :: l, 0 => rfl
  | x :: l, j + 1 => by
    show V.int x :: (iL l).eraseIdx j = iL (x :: l.eraseIdx j)
    rw [map_erase l j]
    rfl
theorem perm_erase {α : Type} : ∀ {l : List α} {i : Nat} {x : α}, l[i]? = some x → (x :: l.eraseIdx i).Perm l
  | [], i, x, h => by simp at h
  | a :: l, 0, x, h => by
    cases Option.some.inj h
    exact List.Perm.refl _
  | a :: l, i + 1, x, h => (List.Perm.swap a x (l.eraseIdx i)).trans ((perm_erase (l := l) (i := i) (x := x) h).cons a)
def muL (i : Nat) (σ : L2.St) (H : Hp) : Nat := match σ[i]? with
  | some (some (V.ref a)) => match H a with
    | some (.lst xs) => xs.length
    | _ => 0
  | _ => 0
def spOrder (K : PySem.W.Frag) : Sp := fun vs H Q _ => ∃ (c : Int) (l : Addr) (r : List Int), vs = [.int c, .ref l] ∧ SqL K H l (iL r) ∧ r.length ≤ 100 ∧
  ∀ (H' : Hp) (D : Addr) (r' : List Int), Same H H' → H D = none → H' D = some (.lst (iL r')) → r'.Perm r → Q (.ref D) H'
section
variable {P : Program} {w : World} {K : PySem.W.Frag} {mg : Str → Option Value} {base : Heap} {C : Addr}
theorem scOrder : FnScope ["_law_cell", "_law_row", "_law_left", "_law_made"] ["_law_cell", "_law_row"] (defScope sLawOrderBy) := ⟨rfl, rfl, rfl, by decide +kernel, rfl, by decide +kernel, by decide +kernel⟩
theorem c_order (T : WTxt K mg C) (FO : Fn K mg "_law_order_by" sLawOrderBy ["_law_cell", "_law_row"]) : C8.Cal P w K mg base 1 "_law_order_by" (spOrder K) [] := by
  refine cal_of FO scOrder (fun vs H Q E h => ?_) (fun f cdv A outer s H vs Q E hr h => ?_)
  · obtain ⟨c, l, r, rfl, _⟩ := h
    rfl
  · obtain ⟨c, l, r, rfl, hS, r100, k⟩ := h
    have hun : (A.deeper (envOfC "_law_order_by" (defScope sLawOrderBy) s.heap.objs.size f cdv)).units + 64 < cLine := by
      have := hr.un
      omega
    refine ⟨_, pss_cons (ps_set (i := 2) scOrder.nd rfl (Or.inl rfl) (pe_callTy call_list_of (by rfl) T.list (by decide +kernel) (pa_cons (pv 1) pa_nil)))
      (pss_cons (ps_set (i := 3) scOrder.nd rfl (Or.inl rfl) (pe_lst pa_nil))
      (pss_cons (ps_while PassesOwn.never (pt_cmpR (op_neD hun) (pv 2) (pe_lst pa_nil) (nomark _))
        (pss_cons (ps_expr (pe_bm PySem.F.plainAttrs_list PySem.F.slot_list_append PySem.F.type_list_append mt_append (pv 3) (pa_cons (pe_bm PySem.F.plainAttrs_list PySem.F.slot_list_pop PySem.F.type_list_pop mt_popAt (pv 2)
            (pa_cons (pe_op op_mod (pv 0) (pe_callB call_len_seq (by rfl) T.len PySem.boot_len (pa_cons (pv 2) pa_nil))) pa_nil)) pa_nil)))
        (pss_one (ps_set (i := 0) scOrder.nd rfl (Or.inl rfl) (pe_op op_fdiv (pv 0) (pe_op op_add (pe_callB call_len_seq (by rfl) T.len PySem.boot_len (pa_cons (pv 2) pa_nil)) pe_int))))))
      (pss_one (ps_ret (pv 3))))), ?_⟩
    refine ⟨_, rfl, l, iL r, rfl, .inl hS, fun L hL => ?_⟩
    refine ⟨Nat.zero_le _, fun D hD => ?_⟩
    have LD : L ≠ D := ne_of_none upd_same hD
    have H0D : H D = none := by
      rw [upd_ne LD.symm] at hD
      exact hD
    refine while_by (fun σ H1 => ∃ (c1 : Int) (lf md : List Int), σ = [some (.int c1), some (.ref l), some (.ref L), some (.ref D)] ∧ Same H H1 ∧ H1 L = some (.lst (iL lf)) ∧ H1 D = some (.lst (iL md)) ∧ (md ++ lf).Perm r) (muL 2)
      ⟨c, r, [], rfl, Same.step (Same.put hL) hD, by rw [upd_ne LD, upd_same], upd_same, List.Perm.refl r⟩ ?_ ?_
    · rintro σ H1 ⟨c1, lf, md, rfl, s1, hl1, hd1, pm⟩
      have len : md.length + lf.length = r.length := by
        have := pm.length_eq
        rw [List.length_append] at this
        exact this
      refine ⟨_, rfl, Nat.zero_le _, fun N hN => ?_⟩
      have s2 := Same.put (o := .lst []) hN
      have LN : L ≠ N := ne_of_none hl1 hN
      have DN : D ≠ N := ne_of_none hd1 hN
      refine ⟨.list (lf.map PyData.int), .list (([] : List Int).map PyData.int), dp_ints (SqL.of (s2 _ _ hl1)), dp_ints (SqL.of upd_same), inl_shaped _, inl_shaped _, _, rfl, ?_⟩
      rw [ints_eqv]
      by_cases c2 : lf = []
      · refine no_ (by rw [decide_eq_true c2]; rfl) ?_
        subst c2
        rw [List.append_nil] at pm
        exact ⟨_, rfl, k _ D md (s1.trans s2) H0D (s2 _ _ hd1) pm⟩
      · refine yep_ (by rw [decide_eq_false c2]; rfl) ?_
        have lpos : 0 < lf.length := List.length_pos_iff.mpr c2
        have m0 := Int.emod_nonneg c1 (show (lf.length : Int) ≠ 0 by omega)
        have m1 := Int.emod_lt_of_pos c1 (show (0 : Int) < lf.length by omega)
        obtain ⟨j, ej⟩ : ∃ j : Nat, c1 % (lf.length : Int) = j := ⟨(c1 % (lf.length : Int)).toNat, by omega⟩
        have hj : j < lf.length := by omega
        have e2 : ((iL lf).length : Int) = (lf.length : Int) := by rw [List.length_map]
        refine ⟨_, rfl, .inl ⟨rfl, _, SqL.of (s2 _ _ hd1)⟩, ?_⟩
        refine ⟨_, rfl, .inl ⟨rfl, _, SqL.of (s2 _ _ hl1)⟩, _, rfl, _, rfl, L, iL lf, rfl, .inl (SqL.of (s2 _ _ hl1)), _, _, rfl, rfl, by rw [e2]; omega, ?_⟩
        have e3 : c1 % ((iL lf).length : Int) = (j : Int) := by rw [e2]; exact ej
        refine ⟨L, iL lf, c1 % ((iL lf).length : Int), j, .int lf[j], rfl, rfl, s2 _ _ hl1, by rw [e3]; omega, by rw [e3]; omega, by rw [e3, seqIndex_of (by omega) (by rw [List.length_map]; omega), Int.toNat_natCast], iL_get (List.getElem?_eq_getElem hj), ?_⟩
        have eE : (iL lf).eraseIdx j = iL (lf.eraseIdx j) := map_erase _ _
        rw [eE]
        refine ⟨D, iL md, _, rfl, rfl, by rw [upd_ne LD.symm, upd_ne DN]; exact hd1, by rw [List.length_map]; exact small (by omega), ?_⟩
        have eM : iL md ++ [V.int lf[j]] = iL (md ++ [lf[j]]) := by
          unfold iL
          rw [List.map_append]
          rfl
        rw [eM]
        have hl3 : (upd (upd (upd H1 N (.lst [])) L (.lst (iL (lf.eraseIdx j)))) D (.lst (iL (md ++ [lf[j]])))) L = some (.lst (iL (lf.eraseIdx j))) := by rw [upd_ne LD, upd_same]
        have le : (lf.eraseIdx j).length = lf.length - 1 := List.length_eraseIdx_of_lt hj
        refine ⟨_, rfl, _, rfl, L, iL (lf.eraseIdx j), rfl, .inl (SqL.of hl3), _, _, rfl, rfl, _, _, rfl, rfl, ⟨by rw [List.length_map]; omega, by rw [List.length_map]; omega⟩, ?_⟩
        refine ⟨⟨_, lf.eraseIdx j, md ++ [lf[j]], rfl, ?_, hl3, upd_same, ?_⟩, ?_⟩
        · exact Same.write (Same.write (s1.trans s2) hL) H0D
        · rw [List.append_assoc]
          exact ((perm_erase (List.getElem?_eq_getElem hj)).append_left md).trans pm
        · show (match (upd (upd (upd H1 N (.lst [])) L (.lst (iL (lf.eraseIdx j)))) D (.lst (iL (md ++ [lf[j]])))) L with | some (.lst xs) => xs.length | _ => 0) < (match H1 L with | some (.lst xs) => xs.length | _ => 0)
          rw [hl3, hl1]
          show (iL (lf.eraseIdx j)).length < (iL lf).length
          rw [List.length_map, List.length_map, le]
          omega
    · rintro σ H1 Q1 Q2 hq ⟨v, e1, l0, h⟩
      refine ⟨v, e1, l0, fun p hp => ?_⟩
      obtain ⟨d, e, h1, h2, h3, h4, c, e6, q⟩ := h p hp
      exact ⟨d, e, h1, h2, h3, h4, c, e6, hq _ _ q⟩
end
/-- for each point the points beside it, in some order -/
structure TurnsOf (m : Nat) (ts : List Tie) (tss : List (List Int)) : Prop where
  len : tss.length = m
  row : ∀ (k : Nat) (t : List Int), tss[k]? = some t → t.Perm (rowOf m ts k)
theorem nb_next {ts : List Tie} {i : Nat} {t : Tie} (p : Int) (h : ts[i]? = some t) (ne : t.1 ≠ t.2) : nb (ts.take (i + 1)) p = nb (ts.take i) p ++ (if p = t.1 ∨ p = t.2 then [t.1 + t.2 - p] else []) := by
  rw [take_next h, nb_snoc]
  congr 1
  unfold here
  by_cases h1 : t.1 = p
  · have h2 : ¬ t.2 = p := fun z => ne (h1.trans z.symm)
    rw [if_pos h1, if_neg h2, if_pos (.inl h1.symm), List.append_nil]
    congr 1
    omega
  · by_cases h2 : t.2 = p
    · rw [if_neg h1, if_pos h2, if_pos (.inr h2.symm), List.nil_append]
      congr 1
      omega
    · rw [if_neg h1, if_neg h2, if_neg (by rintro (z | z) <;> simp_all)]
      rfl
def spTurnsBy (K : PySem.W.Frag) : Sp := fun vs H Q _ => ∃ (a : Addr) (ns : List Int) (m : Nat) (l : Addr) (ws : List V) (ts : List Tie), vs = [.ref a, .int m, .ref l] ∧ SqL K H a (iL ns) ∧ m ≤ 16 ∧ H l = some (.lst ws) ∧ PairsAt H ws ts ∧ Good m ts ∧ ts.length ≤ 63 ∧
  ∀ (H' : Hp) (R : Addr) (as : List Addr) (tss : List (List Int)), Same H H' → RowsAt H H' R as tss → TurnsOf m ts tss → Q (.ref R) H'
section
variable {P : Program} {w : World} {K : PySem.W.Frag} {mg : Str → Option Value} {base : Heap} {C : Addr}
abbrev nTurnsBy : List Str := ["_law_script", "_law_many_here", "_law_ties_here", "_law_turns", "_law_point", "_law_own", "_law_tie"]
theorem scTurnsBy : FnScope ["_law_script", "_law_many_here", "_law_ties_here", "_law_turns", "_law_point", "_law_own", "_law_tie"] ["_law_script", "_law_many_here", "_law_ties_here"] (defScope sLawTurnsBy) := ⟨rfl, rfl, rfl, by decide +kernel, rfl, by decide +kernel, by decide +kernel⟩
theorem c_turnsby (T : WTxt K mg C) (L : LTxt K mg) (FO : Fn K mg "_law_order_by" sLawOrderBy ["_law_cell", "_law_row"]) (FT : Fn K mg "_law_turns_by" sLawTurnsBy ["_law_script", "_law_many_here", "_law_ties_here"]) : C8.Cal P w K mg base 2 "_law_turns_by" (spTurnsBy K) [] := by
  refine cal_of FT scTurnsBy (fun vs H Q E h => ?_) (fun f cdv A outer s H vs Q E hr h => ?_)
  · obtain ⟨a, ns, m, l, ws, ts, rfl, _⟩ := h
    rfl
  · obtain ⟨a, ns, m, l, ws, ts, rfl, hS, m16, hl, hw, g, tl, k⟩ := h
    refine ⟨_, pss_cons (ps_set (i := 3) scTurnsBy.nd rfl (Or.inl rfl) (pe_lst pa_nil))
      (pss_cons (ps_for PassesOwn.never rfl (pi_range1 (by rfl) T.range (pa_cons (pv 1) pa_nil)) (pg_name (i := 4) scTurnsBy.nd rfl (Or.inr rfl))
        (pss_cons (ps_setLc (i := 5) (own := [("_law_tie", 6)]) (g := gName 6) (tt := tTest (tOp (rIn K false) (tVar 4) (tVar 6))) (te := tOp (rI0 fun i j => .int (i - j)) (tOp (rI0 fun i j => .int (i + j)) (tOp (rIxT K) (tVar 6) (tC (.int 0))) (tOp (rIxT K) (tVar 6) (tC (.int 1)))) (tVar 4))
            (by rfl) scTurnsBy.nd rfl rfl (sw_true rfl rfl rfl (by decide +kernel)) (pi_list (pv 2)) (blkOk_by (own := [("_law_tie", 6)]) (N := nTurnsBy) (sc := defScope sLawTurnsBy) (by decide +kernel)) (fun _ _ _ _ _ => pg_name (i := 6) scTurnsBy.nd rfl (Or.inl rfl))
            (fun _ _ _ _ _ => pts_one (pt_cmpR op_in_seq (pv 4) (pv 6) (by rfl)))
            (fun _ _ _ _ _ => pe_op op_sub (pe_op op_add (pe_ix ix_tup (pv 6) pe_int (fun _ _ => rfl)) (pe_ix ix_tup (pv 6) pe_int (fun _ _ => rfl))) (pv 4)))
        (pss_one (ps_expr (pe_bm PySem.F.plainAttrs_list PySem.F.slot_list_append PySem.F.type_list_append mt_append (pv 3) (pa_cons (C8.pe_c (c_order T FO) hr (by decide) (by rfl)
            (pa_cons (pe_op op_add (pe_op op_fdiv (C8.pe_c (c_cell T L) hr (by decide) (by rfl) (pa_cons (pv 0) (pa_cons pe_int pa_nil))) (pe_op op_add pe_int (pe_op op_mul pe_int (pv 4)))) (pe_op op_mul pe_int (pv 4)))
              (pa_cons (pe_callB (id := "sorted") (r := rSortedI K) cr_sortedI (by rfl) T.sorted (by decide +kernel) (pa_cons (pv 5) pa_nil)) pa_nil))) pa_nil))))))
      (pss_one (ps_ret (pv 3)))), ?_⟩
    refine ⟨Nat.zero_le _, fun R hR => ?_⟩
    refine ⟨_, rfl, (m : Int), rfl, by omega, by omega, for_range (lo := 0) (n := (m : Int).toNat) (fun i σ H1 => ∃ (v1 v2 : Option V) (as : List Addr) (tss : List (List Int)), σ = [some (.ref a), some (.int m), some (.ref l), some (.ref R), v1, v2, none] ∧ Same H H1 ∧ RowsAt H H1 R as tss ∧ tss.length = i ∧ (∀ (k : Nat) (t : List Int), tss[k]? = some t → t.Perm (rowOf m ts k)))
      ⟨none, none, [], [], rfl, Same.put hR, RowsAt.start hR, rfl, fun k t e => by simp at e⟩ ?_ ?_⟩
    · rintro i σ H1 hi ⟨v1, v2, as, tss, rfl, s1, r1, tlen, tperm⟩
      rw [Int.toNat_natCast] at hi
      rw [Int.zero_add]
      dsimp only [tNext, gName, tSeq, tAsg]
      refine ⟨_, rfl, l, rfl, ⟨_, SqL.of (s1 _ _ hl)⟩, fun D hD => ?_⟩
      refine lc_list (K := K) (a := l) (xs := ws) (fun j H2 => Same H1 H2 ∧ H2 D = some (.lst (iL (nb (ts.take j) (i : Int))))) ⟨Same.put hD, by rw [upd_same, List.take_zero]; rfl⟩ (fun j H2 _ ⟨s2, _⟩ => SqL.of (s2 _ _ (s1 _ _ hl))) (fun j x H2 hj ⟨s2, d2⟩ => ?_) (fun H2 ⟨s2, d2⟩ => ?_)
      · obtain ⟨t, ht, b, rfl, hb⟩ := paired_get (hw.same (s1.trans s2)) hj
        have ne := (g.rng t (List.mem_of_getElem? ht)).2.2.2.2
        refine ⟨rfl, ?_⟩
        refine ⟨_, rfl, _, rfl, b, iL [t.1, t.2], rfl, .inr (SqT.of hb), rfl, flat_ints _, _, rfl, ?_⟩
        have ein := inV_ints [t.1, t.2] (i : Int)
        rw [ein, nb_next _ ht ne]
        have nl := nb_len (ts.take j) (i : Int)
        rw [List.length_take] at nl
        by_cases c : (i : Int) = t.1 ∨ (i : Int) = t.2
        · refine yep_ (decide_eq_true (by simpa using c)) ?_
          rw [if_pos c]
          refine ⟨_, rfl, b, _, 0, .int t.1, rfl, rfl, SqT.of hb, rfl, _, rfl, b, _, 1, .int t.2, rfl, rfl, SqT.of hb, rfl, _, _, rfl, rfl, _, rfl, _, _, rfl, rfl, ?_⟩
          refine ⟨_, d2, by rw [List.length_map]; exact small (by omega), Same.write s2 hD, ?_⟩
          rw [upd_same]
          unfold iL
          rw [List.map_append]
          rfl
        · refine no_ (decide_eq_false (by simpa using c)) ?_
          rw [if_neg c, List.append_nil]
          exact ⟨s2, d2⟩
      · have et : ts.take ws.length = ts := by rw [hw.length]; exact List.take_length
        rw [et] at d2
        have s3 := s1.trans s2
        have c3 : CMul 3 (i : Int) := .inl ⟨by decide, by decide⟩
        have c31 : CMul 31 (i : Int) := .inl ⟨by decide, by decide⟩
        refine ⟨_, rfl, .inl ⟨rfl, _, SqL.of (s2 _ _ r1.top)⟩, ?_⟩
        refine ⟨_, rfl, a, ns, 2, rfl, s3.seq hS, _, rfl, _, _, rfl, rfl, c3, _, _, rfl, rfl, _, _, rfl, rfl, ⟨by omega, by omega⟩, _, rfl, _, _, rfl, rfl, c31, _, _, rfl, rfl, ?_⟩
        refine ⟨_, rfl, D, nb ts (i : Int), rfl, SqL.of d2, fun js q hp ho hq => ?_⟩
        obtain rfl := row_sorted g hp ho
        have s4 := Same.put (o := .lst ((rowOf m ts i).map V.int)) hq
        have rl := rowOf_len m ts (i : Int)
        refine ⟨_, q, rowOf m ts i, rfl, SqL.of upd_same, by omega, fun H4 Dn r' s5 hDn hDn' pm => ?_⟩
        have s6 : Same H1 H4 := (s2.trans s4).trans s5
        have nR : H1 Dn = none := (s2.trans s4).free hDn
        refine ⟨R, _, _, rfl, rfl, s6 _ _ r1.top, by rw [List.length_map, r1.len, tlen]; exact small (by omega), ?_⟩
        refine ⟨_, _, as ++ [Dn], tss ++ [r'], rfl, Same.write (s1.trans s6) hR, r1.put s1 s6 nR hDn', by rw [List.length_append, tlen]; rfl, fun k' t e => ?_⟩
        by_cases hk : k' < tss.length
        · rw [List.getElem?_append_left hk] at e
          exact tperm k' t e
        · have hk' : tss.length ≤ k' := Nat.le_of_not_lt hk
          rw [List.getElem?_append_right hk'] at e
          obtain ⟨h1, h2⟩ := List.getElem?_eq_some_iff.mp e
          simp only [List.length_singleton] at h1
          have ek : k' = i := by omega
          subst ek
          simp only [List.getElem_singleton] at h2
          rw [← h2]
          exact pm
    · rintro σ H1 ⟨v1, v2, as, tss, rfl, s1, r1, tlen, tperm⟩
      rw [Int.toNat_natCast] at tlen
      exact ⟨_, rfl, k H1 R as tss s1 r1 ⟨tlen, tperm⟩⟩
end
end Fd
namespace Fd
open PySem PySem.Spec PyProof.Rows L2
section
variable {α : Type} [DecidableEq α]
theorem one_of_nodup {p : α} : ∀ {r : List α}, r.Nodup → p ∈ r → (r.filter fun y => decide (y = p)).length = 1
  | [], _, h => by cases h
  | x :: r, nd, h => by
    obtain ⟨n1, n2⟩ := List.nodup_cons.mp nd
    by_cases e : x = p
    · subst e
      have z : r.filter (fun y => decide (y = x)) = [] := List.filter_eq_nil_iff.mpr fun y hy c => n1 (of_decide_eq_true c ▸ hy)
      rw [List.filter_cons_of_pos (by simp), z]
      rfl
    · rw [List.filter_cons_of_neg (by simpa using e)]
      refine one_of_nodup n2 ?_
      rcases List.mem_cons.mp h with z | z
      · exact absurd z.symm e
      · exact z
theorem filt_perm {xs ys : List α} (h : xs.Perm ys) (p : α) : (xs.filter fun y => decide (y = p)).length = (ys.filter fun y => decide (y = p)).length := (h.filter _).length_eq
theorem perm_of_ones : ∀ {r xs : List α}, xs.length = r.length → (∀ p ∈ r, (xs.filter fun y => decide (y = p)).length = 1) → r.Nodup → xs.Perm r
  | [], xs, hl, _, _ => by
    rw [List.length_eq_zero_iff.mp hl]
  | p :: r, xs, hl, h, nd => by
    obtain ⟨n1, n2⟩ := List.nodup_cons.mp nd
    have h1 := h p List.mem_cons_self
    have hm : p ∈ xs := by
      cases e : xs.filter (fun y => decide (y = p)) with
      | nil =>
        rw [e] at h1
        cases h1
      | cons a l =>
        have ha : a ∈ xs.filter (fun y => decide (y = p)) := by rw [e]; exact List.mem_cons_self
        rw [List.mem_filter, decide_eq_true_iff] at ha
        exact ha.2 ▸ ha.1
    have pe := List.perm_cons_erase hm
    have el : (xs.erase p).length = r.length := by
      have := pe.length_eq
      rw [List.length_cons] at this hl
      omega
    refine pe.trans ((perm_of_ones el (fun q hq => ?_) n2).cons p)
    have hq1 := h q (List.mem_cons_of_mem _ hq)
    have ne : p ≠ q := fun z => n1 (z ▸ hq)
    rw [filt_perm pe q, List.filter_cons_of_neg (by simpa using ne)] at hq1
    exact hq1
end
theorem iL_nodup {r : List Int} (nd : r.Nodup) : (iL r).Nodup := List.Pairwise.map _ (fun a b h z => h (V.int.inj z)) nd
def toI : V → Option Int
  | .int i => some i
  | _ => none
theorem iL_back (is : List Int) : (iL is).filterMap toI = is := by
  unfold iL
  rw [List.filterMap_map]
  exact List.filterMap_some
theorem perm_iL {xs : List V} {r : List Int} (h : xs.Perm (iL r)) : ∃ is, xs = iL is ∧ is.Perm r := by
  obtain ⟨is, rfl⟩ : ∃ is, xs = iL is := by
    refine allInt (List.all_eq_true.mpr fun b hb => ?_)
    obtain ⟨y, hy, rfl⟩ := List.mem_map.mp hb
    obtain ⟨i, _, rfl⟩ := List.mem_map.mp (h.mem_iff.mp hy)
    rfl
  refine ⟨is, rfl, ?_⟩
  have q := h.filterMap toI
  rw [iL_back, iL_back] at q
  exact q
/-- what the law looks at -/
def okC (r : List Int) : It → Prop
  | .lst xs => xs.length = r.length ∧ ∀ p ∈ r, (xs.filter fun y => decide (y = V.int p)).length = 1
  | .oth => False
theorem okC_iff {r : List Int} (nd : r.Nodup) (it : It) : okC r it ↔ okIt r it := by
  cases it with
  | oth => exact Iff.rfl
  | lst xs =>
    constructor
    · rintro ⟨hl, h⟩
      refine perm_iL (perm_of_ones (by rw [List.length_map]; exact hl) (fun p hp => ?_) (iL_nodup nd))
      obtain ⟨i, hi, rfl⟩ := List.mem_map.mp hp
      exact h i hi
    · rintro ⟨is, rfl, pm⟩
      refine ⟨by rw [List.length_map]; exact pm.length_eq, fun p hp => ?_⟩
      rw [filt_perm (pm.map V.int) (V.int p)]
      exact one_of_nodup (iL_nodup nd) (List.mem_map.mpr ⟨p, hp, rfl⟩)
theorem okIt_perm {r r' : List Int} (h : r.Perm r') (it : It) : okIt r it ↔ okIt r' it := by
  cases it with
  | oth => exact Iff.rfl
  | lst xs => exact ⟨fun ⟨is, e, p⟩ => ⟨is, e, p.trans h⟩, fun ⟨is, e, p⟩ => ⟨is, e, p.trans h.symm⟩⟩
theorem TurnsOf.get {m : Nat} {ts : List Tie} {tss : List (List Int)} (h : TurnsOf m ts tss) {k : Nat} (hk : k < m) : ∃ t, tss[k]? = some t ∧ t.Perm (rowOf m ts k) := by
  have hk2 : k < tss.length := by rw [h.len]; exact hk
  have e : tss[k]? = some tss[k] := List.getElem?_eq_getElem hk2
  exact ⟨_, e, h.row k _ e⟩
theorem rowOf_nodup (m : Nat) (ts : List Tie) (p : Int) : (rowOf m ts p).Nodup := (rowOf_strict m ts p).imp fun h e => by omega
theorem okTh_turns {m : Nat} {ts : List Tie} {tss : List (List Int)} (h : TurnsOf m ts tss) (o : Option (List It)) : okTh tss o ↔ okTh (rowsOf m ts) o := by
  cases o with
  | none => exact Iff.rfl
  | some its =>
    constructor
    · rintro ⟨h1, h2⟩
      refine ⟨by rw [h1, h.len, rowsOf_len], fun k it r e1 e2 => ?_⟩
      have hk : k < m := by
        have := (List.getElem?_eq_some_iff.mp e2).1
        rw [rowsOf_len] at this
        exact this
      obtain ⟨t, e3, pm⟩ := h.get hk
      cases Option.some.inj (e2.symm.trans (rowsOf_at hk))
      exact (okIt_perm pm it).mp (h2 k it t e1 e3)
    · rintro ⟨h1, h2⟩
      refine ⟨by rw [h1, h.len, rowsOf_len], fun k it t e1 e2 => ?_⟩
      have hk : k < m := by
        have := (List.getElem?_eq_some_iff.mp e2).1
        rw [h.len] at this
        exact this
      exact (okIt_perm (h.row k t e2) it).mpr (h2 k it _ e1 (rowsOf_at hk))
theorem kit_list {K : PySem.W.Frag} {T : String} (h : T ∈ kinds) : PySem.W.kitOne K (.type T) (.type "list") = some (decide (T = "list")) := by
  simp only [kinds, List.mem_cons, List.not_mem_nil, or_false] at h
  rcases h with rfl | rfl | rfl | rfl | rfl | rfl | rfl | rfl <;> exact kit_ty (by decide +kernel)
theorem kit_bool {K : PySem.W.Frag} {T : String} (h : T ∈ kinds) : PySem.W.kitOne K (.type T) (.type "bool") = some (decide (T = "bool")) := by
  simp only [kinds, List.mem_cons, List.not_mem_nil, or_false] at h
  rcases h with rfl | rfl | rfl | rfl | rfl | rfl | rfl | rfl <;> exact kit_ty (by decide +kernel)
def rListOf (K : PySem.W.Frag) : List V → Hp → VK → Prop := fun xs H Q => ∃ p ys, xs = [V.ref p] ∧ (SqL K H p ys ∨ SqT K H p ys) ∧ ∀ l, H l = none → Q (.ref l) (upd H l (.lst ys))
theorem lc_copy {K : PySem.W.Frag} {H0 H : Hp} {σ : L2.St} {i j : Nat} {R : Addr} {as : List Addr} {tss : List (List Int)} {Q : VK} (hi : σ[i]? = some (some (.ref R))) (hj : j < σ.length) (hR : RowsAt H0 H R as tss) (len : tss.length ≤ 16)
    (k : ∀ (H' : Hp) (D : Addr) (bs : List Addr), Same H H' → RowsAt H H' D bs tss → Q (.ref D) H') : tLc (iList K (tVar i)) (gName j) tYes (tCB (rListOf K) (tCons (tVar j) tNil)) [j] σ H Q := by
  refine ⟨_, hi, R, rfl, ⟨_, SqL.of hR.top⟩, fun D hD => ?_⟩
  refine lc_list (K := K) (a := R) (xs := as.map V.ref) (fun q H1 => Same H H1 ∧ ∃ bs, RowsAt H H1 D bs (tss.take q)) ⟨Same.put hD, [], RowsAt.start hD⟩ (fun q H1 _ ⟨s1, _⟩ => SqL.of (s1 _ _ hR.top)) (fun q x H1 hq ⟨s1, bs, r1⟩ => ?_) (fun H1 ⟨s1, bs, r1⟩ => ?_)
  · have hql : q < tss.length := by
      have := (List.getElem?_eq_some_iff.mp hq).1
      rw [List.length_map, hR.len] at this
      exact this
    have et : tss[q]? = some tss[q] := List.getElem?_eq_getElem hql
    generalize tss[q] = t at et
    obtain ⟨b, eb, ebr, _, hb⟩ := hR.get et
    obtain rfl : x = .ref b := Option.some.inj (hq.symm.trans ebr)
    have wl : (wipe σ [j]).length = σ.length := by simp [wipe]
    have eq : ((wipe σ [j]).set j (some (.ref b)))[j]? = some (some (.ref b)) := List.getElem?_set_self (by rw [wl]; exact hj)
    refine ⟨by simp [wipe], ?_⟩
    refine yes_ ?_
    refine iteT ?_
    refine ⟨_, eq, b, iL t, rfl, .inl (SqL.of (s1 _ _ hb)), fun l hl => ?_⟩
    have pD : D ≠ l := ne_of_none r1.top hl
    refine ⟨bs.map V.ref, by rw [upd_ne pD]; exact r1.top, ?_, Same.write (Same.step s1 hl) hD, bs ++ [l], ?_⟩
    · rw [List.length_map, r1.len, List.length_take]
      exact small (by omega)
    · rw [take_next et]
      exact r1.more s1 hl
  · rw [List.length_map, hR.len, List.take_length] at r1
    exact k H1 D bs s1 r1
theorem rows_its {K : PySem.W.Frag} {H0 H : Hp} {D : Addr} {bs : List Addr} {tss : List (List Int)} (h : RowsAt H0 H D bs tss) (l : ∀ t ∈ tss, t.length ≤ 100) : Paired (ItAt K H) (bs.map V.ref) (tss.map fun t => It.lst (iL t)) := by
  have go : ∀ (bs : List Addr) (tss : List (List Int)), bs.length = tss.length → (∀ (i : Nat) (a : Addr) (r : List Int), bs[i]? = some a → tss[i]? = some r → H a = some (.lst (iL r))) → (∀ t ∈ tss, t.length ≤ 100) → Paired (ItAt K H) (bs.map V.ref) (tss.map fun t => It.lst (iL t)) := fun bs => by
    induction bs with
    | nil =>
      intro tss hl _ _
      rw [List.length_eq_zero_iff.mp hl.symm]
      exact .nil
    | cons b bs ih =>
      intro tss hl h l
      cases tss with
      | nil => cases hl
      | cons t tss =>
        exact .cons (itAt_ints (SqL.of (h 0 b t rfl rfl)) (l t List.mem_cons_self)) (ih tss (by simpa using hl) (fun i a r e1 e2 => h (i + 1) a r (by simpa using e1) (by simpa using e2)) fun t ht => l t (List.mem_cons_of_mem _ ht))
  exact go bs tss h.len (fun i a r e1 e2 => (h.row i a r e1 e2).2) l
theorem TurnsOf.short {m : Nat} {ts : List Tie} {tss : List (List Int)} (h : TurnsOf m ts tss) (m16 : m ≤ 16) : ∀ t ∈ tss, t.length ≤ 16 := fun t ht => by
  obtain ⟨k, hk⟩ := List.mem_iff_getElem?.mp ht
  rw [(h.row k t hk).length_eq]
  have := rowOf_len m ts (k : Int)
  omega
theorem TurnsOf.ok {m : Nat} {ts : List Tie} {tss : List (List Int)} (h : TurnsOf m ts tss) : okTh (rowsOf m ts) (some (tss.map fun t => It.lst (iL t))) := by
  refine ⟨by rw [List.length_map, h.len, rowsOf_len], fun k it r e1 e2 => ?_⟩
  rw [List.getElem?_map] at e1
  cases e : tss[k]? with
  | none =>
    rw [e] at e1
    cases e1
  | some t =>
    rw [e] at e1
    cases Option.some.inj e1
    have hk : k < m := by
      have := (List.getElem?_eq_some_iff.mp e2).1
      rw [rowsOf_len] at this
      exact this
    cases Option.some.inj (e2.symm.trans (rowsOf_at hk))
    exact ⟨t, rfl, h.row k t e⟩
end Fd
namespace Fd
/-! ### ways along ties, and the walks -/
def dartsL (m : Nat) (ts : List Tie) : List Tie := (pts m).flatMap fun p => (rowOf m ts p).map fun q => (p, q)
theorem mem_darts {m : Nat} {ts : List Tie} (g : Good m ts) {d : Tie} : d ∈ dartsL m ts ↔ Adj ts d.1 d.2 := by
  unfold dartsL
  rw [List.mem_flatMap]
  constructor
  · rintro ⟨p, _, h⟩
    obtain ⟨q, hq, rfl⟩ := List.mem_map.mp h
    exact (mem_rowOf g).mp hq
  · intro h
    refine ⟨d.1, ?_, List.mem_map.mpr ⟨d.2, (mem_rowOf g).mpr h, rfl⟩⟩
    rw [mem_pts]
    rcases h with k | k
    · have := g.rng _ k
      exact ⟨this.1, this.2.1⟩
    · have := g.rng _ k
      exact ⟨this.2.2.1, this.2.2.2.1⟩
theorem Adj.inside {m : Nat} {ts : List Tie} (g : Good m ts) {p q : Int} (h : Adj ts p q) : (0 ≤ p ∧ p < m) ∧ 0 ≤ q ∧ q < m := by
  rcases h with k | k
  · have := g.rng _ k
    exact ⟨⟨this.1, this.2.1⟩, this.2.2.1, this.2.2.2.1⟩
  · have := g.rng _ k
    exact ⟨⟨this.2.2.1, this.2.2.2.1⟩, this.1, this.2.1⟩
theorem darts_strict (m : Nat) (ts : List Tie) : (dartsL m ts).Pairwise lexT := by
  unfold dartsL
  rw [List.pairwise_flatMap]
  refine ⟨fun i _ => ?_, (pts_strict m).imp fun {i k} hik x hx y hy => ?_⟩
  · rw [List.pairwise_map]
    exact (rowOf_strict m ts i).imp fun h => .inr ⟨rfl, h⟩
  · obtain ⟨a, _, rfl⟩ := List.mem_map.mp hx
    obtain ⟨b, _, rfl⟩ := List.mem_map.mp hy
    exact .inl hik
theorem lexT_asymm {a b : Tie} (h : lexT a b) : ¬ lexT b a := fun k => by
  unfold lexT at h k
  omega
theorem lexT_trans {a b c : Tie} (h : lexT a b) (k : lexT b c) : lexT a c := by
  unfold lexT at h k ⊢
  omega
theorem lexT_tri (a b : Tie) : lexT a b ∨ a = b ∨ lexT b a := by
  unfold lexT
  by_cases h1 : a.1 = b.1
  · by_cases h2 : a.2 = b.2
    · exact .inr (.inl (Prod.ext h1 h2))
    · omega
  · omega
theorem darts_nodup (m : Nat) (ts : List Tie) : (dartsL m ts).Nodup := (darts_strict m ts).imp fun h e => by
  subst e
  unfold lexT at h
  omega
theorem darts_len {m : Nat} (m16 : m ≤ 16) (ts : List Tie) : (dartsL m ts).length ≤ 256 := by
  unfold dartsL
  have h : ∀ l : List Int, (l.flatMap fun p => (rowOf m ts p).map fun q => (p, q)).length ≤ 16 * l.length := fun l => by
    induction l with
    | nil => simp
    | cons a l ih =>
      have h1 := rowOf_len m ts a
      rw [List.flatMap_cons, List.length_append, List.length_cons, List.length_map]
      omega
  have h2 := h (pts m)
  rw [pts_len] at h2
  omega
/-! ### a map that is gone along -/
def itr (f : Tie → Tie) : Nat → Tie → Tie
  | 0, d => d
  | n + 1, d => f (itr f n d)
theorem itr_add (f : Tie → Tie) (a b : Nat) (d : Tie) : itr f (a + b) d = itr f a (itr f b d) := by
  induction a with
  | zero => rw [Nat.zero_add]; rfl
  | succ a ih =>
    rw [Nat.succ_add]
    show f (itr f (a + b) d) = f (itr f a (itr f b d))
    rw [ih]
structure Goes (f : Tie → Tie) (L : List Tie) : Prop where
  mem : ∀ d ∈ L, f d ∈ L
  inj : ∀ d ∈ L, ∀ e ∈ L, f d = f e → d = e
  fst : ∀ d ∈ L, (f d).1 = d.2
theorem Goes.it {f : Tie → Tie} {L : List Tie} (G : Goes f L) {d : Tie} (h : d ∈ L) : ∀ n, itr f n d ∈ L
  | 0 => h
  | n + 1 => G.mem _ (G.it h n)
theorem Goes.back {f : Tie → Tie} {L : List Tie} (G : Goes f L) {d e : Tie} (hd : d ∈ L) (he : e ∈ L) : ∀ n, itr f n d = itr f n e → d = e
  | 0, h => h
  | n + 1, h => G.back hd he n (G.inj _ (G.it hd n) _ (G.it he n) h)
theorem Goes.comes {f : Tie → Tie} {L : List Tie} (G : Goes f L) {d : Tie} (h : d ∈ L) : ∃ k, 0 < k ∧ itr f k d = d := by
  refine Classical.byContradiction fun no => ?_
  have far : ∀ k, 0 < k → itr f k d ≠ d := fun k k0 e => no ⟨k, k0, e⟩
  have nd : ((List.range (L.length + 1)).map fun i => itr f i d).Nodup := by
    refine List.Pairwise.map _ (R := fun i j : Nat => i < j) (fun i j hij e => ?_) List.pairwise_lt_range
    have ej : j = i + (j - i) := by omega
    rw [ej, itr_add] at e
    exact far (j - i) (by omega) (G.back h (G.it h _) i e).symm
  have le := nd.length_le_of_subset (l₂ := L) fun x hx => by
    obtain ⟨i, _, rfl⟩ := List.mem_map.mp hx
    exact G.it h i
  rw [List.length_map, List.length_range] at le
  omega
open Classical in
noncomputable def per (f : Tie → Tie) (d : Tie) : Nat := if h : ∃ k, 0 < k ∧ itr f k d = d then Classical.choose (least h) else 1
theorem Goes.per {f : Tie → Tie} {L : List Tie} (G : Goes f L) {d : Tie} (h : d ∈ L) : 0 < per f d ∧ itr f (per f d) d = d ∧ ∀ j, 0 < j → j < Fd.per f d → itr f j d ≠ d := by
  have c := G.comes h
  unfold Fd.per
  rw [dif_pos c]
  obtain ⟨⟨h1, h2⟩, h3⟩ := Classical.choose_spec (least c)
  exact ⟨h1, h2, fun j j0 jl e => h3 j jl ⟨j0, e⟩⟩
noncomputable def orb (f : Tie → Tie) (d : Tie) : List Tie := (List.range (per f d)).map fun i => itr f i d
theorem orb_len (f : Tie → Tie) (d : Tie) : (orb f d).length = per f d := by simp [orb]
theorem orb_at {f : Tie → Tie} {d : Tie} {i : Nat} (h : i < per f d) : (orb f d)[i]? = some (itr f i d) := by simp [orb, h]
theorem Goes.times {f : Tie → Tie} {L : List Tie} (G : Goes f L) {d : Tie} (h : d ∈ L) (r : Nat) : ∀ q, itr f (r + Fd.per f d * q) d = itr f r d
  | 0 => by rw [Nat.mul_zero, Nat.add_zero]
  | q + 1 => by
    have e : r + Fd.per f d * (q + 1) = (r + Fd.per f d * q) + Fd.per f d := by rw [Nat.mul_succ]; omega
    rw [e, itr_add, (G.per h).2.1, G.times h r q]
theorem Goes.mem_orb {f : Tie → Tie} {L : List Tie} (G : Goes f L) {d e : Tie} (h : d ∈ L) : e ∈ orb f d ↔ ∃ n, itr f n d = e := by
  unfold orb
  rw [List.mem_map]
  constructor
  · rintro ⟨i, _, rfl⟩
    exact ⟨i, rfl⟩
  · rintro ⟨n, rfl⟩
    refine ⟨n % Fd.per f d, List.mem_range.mpr (Nat.mod_lt _ (G.per h).1), ?_⟩
    have q := G.times h (n % Fd.per f d) (n / Fd.per f d)
    rw [Nat.mod_add_div] at q
    exact q.symm
theorem Goes.own {f : Tie → Tie} {L : List Tie} (G : Goes f L) {d : Tie} (h : d ∈ L) : d ∈ orb f d := (G.mem_orb h).mpr ⟨0, rfl⟩
theorem Goes.sub {f : Tie → Tie} {L : List Tie} (G : Goes f L) {d e : Tie} (h : d ∈ L) (k : e ∈ orb f d) : e ∈ L := by
  obtain ⟨n, rfl⟩ := (G.mem_orb h).mp k
  exact G.it h n
theorem Goes.sym {f : Tie → Tie} {L : List Tie} (G : Goes f L) {d e : Tie} (h : d ∈ L) (k : e ∈ orb f d) : d ∈ orb f e := by
  have he := G.sub h k
  obtain ⟨n, rfl⟩ := (G.mem_orb h).mp k
  refine (G.mem_orb he).mpr ⟨Fd.per f d * n - n, ?_⟩
  have p := (G.per h).1
  have le : n ≤ Fd.per f d * n := Nat.le_mul_of_pos_left n p
  rw [← itr_add, Nat.sub_add_cancel le]
  have q := G.times h 0 n
  rw [Nat.zero_add] at q
  exact q
theorem Goes.trans {f : Tie → Tie} {L : List Tie} (G : Goes f L) {d e x : Tie} (h : d ∈ L) (k : e ∈ orb f d) (j : x ∈ orb f e) : x ∈ orb f d := by
  have he := G.sub h k
  obtain ⟨n, rfl⟩ := (G.mem_orb h).mp k
  obtain ⟨i, rfl⟩ := (G.mem_orb he).mp j
  exact (G.mem_orb h).mpr ⟨i + n, itr_add f i n d⟩
theorem Goes.orb_nodup {f : Tie → Tie} {L : List Tie} (G : Goes f L) {d : Tie} (h : d ∈ L) : (orb f d).Nodup := by
  unfold orb
  refine List.Pairwise.map _ (R := fun i j : Nat => i < j ∧ j < Fd.per f d) (fun i j hij e => ?_) ?_
  · have ej : j = i + (j - i) := by omega
    rw [ej, itr_add] at e
    exact (G.per h).2.2 (j - i) (by omega) (by omega) (G.back h (G.it h _) i e).symm
  · refine (List.Pairwise.and_mem.mp List.pairwise_lt_range).imp fun {i j} hij => ⟨hij.2.2, List.mem_range.mp hij.2.1⟩
theorem Goes.per_le {f : Tie → Tie} {L : List Tie} (G : Goes f L) {d : Tie} (h : d ∈ L) : Fd.per f d ≤ L.length := by
  have le := (G.orb_nodup h).length_le_of_subset (l₂ := L) fun x hx => G.sub h hx
  rw [orb_len] at le
  exact le
noncomputable def walkP (f : Tie → Tie) (d : Tie) : List Int := (orb f d).map Prod.fst
theorem walkP_len (f : Tie → Tie) (d : Tie) : (walkP f d).length = per f d := by unfold walkP; rw [List.length_map, orb_len]
theorem walkP_at {f : Tie → Tie} {d : Tie} {i : Nat} (h : i < per f d) : (walkP f d)[i]? = some (itr f i d).1 := by
  unfold walkP
  rw [List.getElem?_map, orb_at h]
  rfl
/-- the next point is the other end of the step -/
theorem Goes.next {f : Tie → Tie} {L : List Tie} (G : Goes f L) {d : Tie} (h : d ∈ L) {i : Nat} (hi : i < Fd.per f d) : (itr f ((i + 1) % Fd.per f d) d).1 = (itr f i d).2 := by
  have e : (itr f (i + 1) d).1 = (itr f i d).2 := G.fst _ (G.it h i)
  by_cases c : i + 1 = Fd.per f d
  · rw [c, Nat.mod_self, ← e, c, (G.per h).2.1]
    rfl
  · rw [Nat.mod_eq_of_lt (by omega)]
    exact e
noncomputable def headB (f : Tie → Tie) (d : Tie) : Bool := dB (∀ e ∈ orb f d, ¬ lexT e d)
theorem Goes.head_iff {f : Tie → Tie} {L : List Tie} (G : Goes f L) (st : L.Pairwise lexT) {n : Nat} {d : Tie} (hd : L[n]? = some d) : headB f d = true ↔ ∀ (j : Nat) (v : Tie), j < n → L[j]? = some v → d ∉ orb f v := by
  have dm := List.mem_of_getElem? hd
  have order : ∀ {i j : Nat} {a b : Tie}, i < j → L[i]? = some a → L[j]? = some b → lexT a b := fun {i j a b} hij ha hb => by
    obtain ⟨h1, rfl⟩ := List.getElem?_eq_some_iff.mp ha
    obtain ⟨h2, rfl⟩ := List.getElem?_eq_some_iff.mp hb
    exact List.pairwise_iff_getElem.mp st i j h1 h2 hij
  unfold headB
  rw [dB_iff]
  constructor
  · intro h j v hj hv k
    exact h v (G.sym (List.mem_of_getElem? hv) k) (order hj hv hd)
  · intro h e he hl
    have em := G.sub dm he
    obtain ⟨j, hj⟩ := List.mem_iff_getElem?.mp em
    rcases Nat.lt_trichotomy j n with c | c | c
    · exact h j e c hj (G.sym dm he)
    · subst c
      cases Option.some.inj (hj.symm.trans hd)
      exact lexT_asymm hl hl
    · exact lexT_asymm hl (order c hd hj)
/-- a least one -/
theorem lex_least : ∀ {l : List Tie}, l ≠ [] → ∃ d ∈ l, ∀ e ∈ l, ¬ lexT e d
  | [], h => absurd rfl h
  | [a], _ => ⟨a, List.mem_cons_self, fun e he => by rw [List.mem_singleton.mp he]; exact fun z => lexT_asymm z z⟩
  | a :: b :: l, _ => by
    obtain ⟨d, hd, h⟩ := lex_least (l := b :: l) (by simp)
    by_cases c : lexT a d
    · refine ⟨a, List.mem_cons_self, fun e he z => ?_⟩
      rcases List.mem_cons.mp he with rfl | he
      · exact lexT_asymm z z
      · exact h e he (lexT_trans z c)
    · refine ⟨d, List.mem_cons_of_mem _ hd, fun e he z => ?_⟩
      rcases List.mem_cons.mp he with rfl | he
      · exact c z
      · exact h e he z
theorem Goes.has_head {f : Tie → Tie} {L : List Tie} (G : Goes f L) {x : Tie} (h : x ∈ L) : ∃ d ∈ L, headB f d = true ∧ x ∈ orb f d := by
  obtain ⟨d, hd, hl⟩ := lex_least (l := orb f x) (fun z => by have := G.own h; rw [z] at this; cases this)
  have dm := G.sub h hd
  refine ⟨d, dm, dB_t fun e he => hl e (G.trans h hd he), G.sym h hd⟩
theorem Goes.heads_apart {f : Tie → Tie} {L : List Tie} (G : Goes f L) {d e x : Tie} (hd : d ∈ L) (he : e ∈ L) (h1 : headB f d = true) (h2 : headB f e = true) (x1 : x ∈ orb f d) (x2 : x ∈ orb f e) : d = e := by
  have ed : e ∈ orb f d := G.trans hd x1 (G.sym he x2)
  have de : d ∈ orb f e := G.sym hd ed
  rcases lexT_tri d e with z | z | z
  · exact absurd z (dB_iff.mp h2 d de)
  · exact z
  · exact absurd z (dB_iff.mp h1 e ed)
/-! ### the step that the turns tell -/
def nxI (t : List Int) (u : Int) : Int := t.getD ((t.idxOf u + 1) % t.length) 0
def stepT (tss : List (List Int)) (d : Tie) : Tie := (d.2, nxI (tss.getD d.2.toNat []) d.1)
theorem idx_at : ∀ {t : List Int} {u : Int}, u ∈ t → t[t.idxOf u]? = some u
  | [], u, h => by cases h
  | x :: t, u, h => by
    rw [List.idxOf_cons]
    by_cases e : x = u
    · subst e
      simp
    · have hb : (x == u) = false := by simpa using e
      rw [hb]
      show (x :: t)[t.idxOf u + 1]? = some u
      rw [List.getElem?_cons_succ]
      refine idx_at ?_
      rcases List.mem_cons.mp h with z | z
      · exact absurd z.symm e
      · exact z
theorem nx_mem {t : List Int} {u : Int} (h : u ∈ t) : nxI t u ∈ t := by
  have l : 0 < t.length := List.length_pos_of_mem h
  have k : (t.idxOf u + 1) % t.length < t.length := Nat.mod_lt _ l
  unfold nxI
  rw [List.getD_eq_getElem?_getD, List.getElem?_eq_getElem k]
  exact List.getElem_mem k
theorem nx_inj {t : List Int} (nd : t.Nodup) {u v : Int} (hu : u ∈ t) (hv : v ∈ t) (e : nxI t u = nxI t v) : u = v := by
  have l : 0 < t.length := List.length_pos_of_mem hu
  have ku : (t.idxOf u + 1) % t.length < t.length := Nat.mod_lt _ l
  have kv : (t.idxOf v + 1) % t.length < t.length := Nat.mod_lt _ l
  have iu : t.idxOf u < t.length := List.idxOf_lt_length_of_mem hu
  have iv : t.idxOf v < t.length := List.idxOf_lt_length_of_mem hv
  unfold nxI at e
  rw [List.getD_eq_getElem?_getD, List.getElem?_eq_getElem ku, List.getD_eq_getElem?_getD, List.getElem?_eq_getElem kv] at e
  have e2 : (t.idxOf u + 1) % t.length = (t.idxOf v + 1) % t.length := L2.nd_ix nd (List.getElem?_eq_getElem ku) (by rw [List.getElem?_eq_getElem kv]; exact congrArg some e.symm)
  have e3 : t.idxOf u = t.idxOf v := by
    by_cases c1 : t.idxOf u + 1 = t.length
    · by_cases c2 : t.idxOf v + 1 = t.length
      · omega
      · rw [c1, Nat.mod_self, Nat.mod_eq_of_lt (by omega)] at e2
        omega
    · by_cases c2 : t.idxOf v + 1 = t.length
      · rw [c2, Nat.mod_self, Nat.mod_eq_of_lt (by omega)] at e2
        omega
      · rw [Nat.mod_eq_of_lt (by omega), Nat.mod_eq_of_lt (by omega)] at e2
        omega
  have gu : t[t.idxOf u]? = some u := idx_at hu
  have gv : t[t.idxOf v]? = some v := idx_at hv
  rw [e3, gv] at gu
  exact (Option.some.inj gu).symm
theorem turn_at {m : Nat} {ts : List Tie} {tss : List (List Int)} (tu : TurnsOf m ts tss) {v : Int} (h : 0 ≤ v ∧ v < m) : (tss.getD v.toNat []).Perm (rowOf m ts v) := by
  have hk : v.toNat < m := by omega
  have hk2 : v.toNat < tss.length := by rw [tu.len]; exact hk
  have e : tss[v.toNat]? = some tss[v.toNat] := List.getElem?_eq_getElem hk2
  rw [List.getD_eq_getElem?_getD, e]
  have q := tu.row _ _ e
  rw [Int.toNat_of_nonneg h.1] at q
  exact q
theorem goes_of {m : Nat} {ts : List Tie} {tss : List (List Int)} (g : Good m ts) (tu : TurnsOf m ts tss) : Goes (stepT tss) (dartsL m ts) := by
  refine ⟨fun d hd => ?_, fun d hd e he h => ?_, fun d _ => rfl⟩
  · have a := (mem_darts g).mp hd
    have p := turn_at tu (a.inside g).2
    refine (mem_darts g).mpr ((mem_rowOf g).mp (p.mem_iff.mp (nx_mem (p.mem_iff.mpr ?_))))
    exact (mem_rowOf g).mpr a.symm
  · have a := (mem_darts g).mp hd
    have b := (mem_darts g).mp he
    have h1 : d.2 = e.2 := congrArg Prod.fst h
    have h2 : nxI (tss.getD d.2.toNat []) d.1 = nxI (tss.getD e.2.toNat []) e.1 := congrArg Prod.snd h
    have p := turn_at tu (a.inside g).2
    rw [← h1] at h2
    have nd : (tss.getD d.2.toNat []).Nodup := p.nodup_iff.mpr (rowOf_nodup m ts d.2)
    refine Prod.ext (nx_inj nd (p.mem_iff.mpr ((mem_rowOf g).mpr a.symm)) (p.mem_iff.mpr ((mem_rowOf g).mpr ?_)) h2) h1
    rw [h1]
    exact b.symm
noncomputable def headsL (m : Nat) (ts : List Tie) (tss : List (List Int)) : List Tie := (dartsL m ts).filter (headB (stepT tss))
noncomputable def walksL (m : Nat) (ts : List Tie) (tss : List (List Int)) : List (List Int) := (headsL m ts tss).map (walkP (stepT tss))
end Fd
namespace Fd
open PySem PySem.Spec PyProof.Rows L2
theorem pairs_over {H : Hp} {D : Addr} {xs ys ws : List V} {ts : List Tie} (d : H D = some (.lst xs)) (p : PairsAt H ws ts) : PairsAt (upd H D (.lst ys)) ws ts := Paired.mono (fun _ _ ⟨a, e, k⟩ => ⟨a, e, by rw [upd_ne (ne_of k d (by intro z; cases z))]; exact k⟩) p
theorem pair_over {H : Hp} {D : Addr} {xs ys : List V} {x : V} {t : Tie} (d : H D = some (.lst xs)) (p : PairAt H x t) : PairAt (upd H D (.lst ys)) x t := by
  obtain ⟨a, e, k⟩ := p
  exact ⟨a, e, by rw [upd_ne (ne_of k d (by intro z; cases z))]; exact k⟩
structure KTxt (K : PySem.W.Frag) (mg : Str → Option Value) : Prop where
  set : mg "set" = none
  zip : mg "zip" = none
  fBehind : Fn K mg "_behind" sBehind ["turns", "step"]
  fWalk : Fn K mg "_walk" sWalk ["turns", "first"]
  fCheckT : Fn K mg "_check_turns" sCheckTurns ["web", "turns"]
  fWalks : Fn K mg "walks" sWalks ["web", "turns"]
def spBehind : Sp := fun vs H Q _ => ∃ (H0 : Hp) (R : Addr) (as : List Addr) (m : Nat) (ts : List Tie) (tss : List (List Int)) (x : V) (d : Tie), vs = [.ref R, x] ∧ RowsAt H0 H R as tss ∧ TurnsOf m ts tss ∧ Good m ts ∧ m ≤ 16 ∧ PairAt H x d ∧ d ∈ dartsL m ts ∧
  ∀ t, H t = none → Q (.ref t) (upd H t (.tup [.int (stepT tss d).1, .int (stepT tss d).2]))
def spWalk : Sp := fun vs H Q _ => ∃ (H0 : Hp) (R : Addr) (as : List Addr) (m : Nat) (ts : List Tie) (tss : List (List Int)) (x : V) (d : Tie), vs = [.ref R, x] ∧ RowsAt H0 H R as tss ∧ TurnsOf m ts tss ∧ Good m ts ∧ m ≤ 16 ∧ PairAt H x d ∧ d ∈ dartsL m ts ∧
  ∀ (H' : Hp) (D : Addr), Same H H' → H D = none → H' D = some (.lst (iL (walkP (stepT tss) d))) → Q (.ref D) H'
section
variable {P : Program} {w : World} {K : PySem.W.Frag} {mg : Str → Option Value} {base : Heap} {C : Addr}
theorem scBehind : FnScope ["turns", "step", "one", "other", "turn"] ["turns", "step"] (defScope sBehind) := ⟨rfl, rfl, rfl, by decide +kernel, rfl, by decide +kernel, by decide +kernel⟩
theorem c_behind (T : WTxt K mg C) (U : KTxt K mg) : C8.Cal P w K mg base 1 "_behind" spBehind [] := by
  refine cal_of U.fBehind scBehind (fun vs H Q E h => ?_) (fun f cdv A outer s H vs Q E hr h => ?_)
  · obtain ⟨H0, R, as, m, ts, tss, x, d, rfl, _⟩ := h
    rfl
  · obtain ⟨H0, R, as, m, ts, tss, x, d, rfl, hR, tu, g, m16, ⟨b, rfl, hb⟩, hd, k⟩ := h
    refine ⟨_, pss_cons (ps_asg (pv 1) (pg_tup (by rfl) (pgs_cons (pg_name (i := 2) scBehind.nd rfl (.inl rfl)) (pgs_cons (pg_name (i := 3) scBehind.nd rfl (.inl rfl)) pgs_nil))))
      (pss_cons (ps_set (i := 4) scBehind.nd rfl (Or.inl rfl) (pe_ix ix_list (pv 0) (pv 3) (fun _ _ => rfl)))
      (pss_one (ps_ret (pe_tup (pa_cons (pv 3) (pa_cons (pe_ix ix_list (pv 4) (pe_op op_mod (pe_op op_add (pe_bm PySem.F.plainAttrs_list PySem.F.slot_list_index PySem.F.type_list_index mt_index (pv 4) (pa_cons (pv 2) pa_nil)) pe_int)
        (pe_callB call_len_seq (by rfl) T.len PySem.boot_len (pa_cons (pv 4) pa_nil))) (fun _ _ => rfl)) pa_nil)))))), ?_⟩
    obtain ⟨d1, d2⟩ := d
    have adj := (mem_darts g).mp hd
    obtain ⟨_, i2, i3⟩ := adj.inside g
    obtain ⟨v, rfl⟩ : ∃ v : Nat, d2 = v := ⟨d2.toNat, by have : 0 ≤ d2 := i2; omega⟩
    have hv : v < m := by have : (v : Int) < m := i3; omega
    obtain ⟨t, et, tp⟩ := tu.get hv
    obtain ⟨c, ec, ecr, _, hc⟩ := hR.get et
    have mem : d1 ∈ t := tp.mem_iff.mpr ((mem_rowOf g).mpr adj.symm)
    have nd : t.Nodup := tp.nodup_iff.mpr (rowOf_nodup m ts v)
    have tl : t.length ≤ 16 := by
      rw [tp.length_eq]
      have := rowOf_len m ts (v : Int)
      omega
    have t0 : 0 < t.length := List.length_pos_of_mem mem
    have ix := idx_at mem
    have il : t.idxOf d1 < t.length := (List.getElem?_eq_some_iff.mp ix).1
    have step2 : (stepT tss (d1, (v : Int))).2 = nxI t d1 := by
      show nxI (tss.getD ((v : Int)).toNat []) d1 = nxI t d1
      rw [Int.toNat_natCast, List.getD_eq_getElem?_getD, et]
      rfl
    have kl : (t.idxOf d1 + 1) % t.length < t.length := Nat.mod_lt _ t0
    have at2 : (iL t)[(t.idxOf d1 + 1) % t.length]? = some (.int (nxI t d1)) := by
      refine iL_get ?_
      unfold nxI
      rw [List.getD_eq_getElem?_getD, List.getElem?_eq_getElem kl]
      rfl
    refine ⟨_, rfl, b, [.int d1, .int v], rfl, SqT.of hb, rfl, .int d1, [.int v], rfl, .int v, [], rfl, rfl, ?_⟩
    refine ⟨_, rfl, _, rfl, R, as.map V.ref, (v : Int), .ref c, rfl, rfl, SqL.of hR.top, atI_nat ecr, ?_⟩
    refine ⟨_, rfl, _, rfl, _, rfl, .inl ⟨rfl, _, SqL.of hc⟩, _, rfl, c, iL t, .int d1, t.idxOf d1, .int d1, rfl, rfl, SqL.of hc, rfl, flat_ints t, iL_get ix, beq_self_eq_true d1, fun i z hi hz => ?_, ?_⟩
    · obtain ⟨y, hy, rfl⟩ := iL_at hz
      refine beq_eq_false_iff_ne.mpr fun e => ?_
      rw [e] at hy
      have := nd_ix nd hy ix
      omega
    · have el : ((iL t).length : Int) = (t.length : Int) := by rw [List.length_map]
      refine ⟨_, _, rfl, rfl, _, rfl, c, iL t, rfl, .inl (SqL.of hc), _, _, rfl, rfl, by rw [el]; omega, c, iL t, _, .int (nxI t d1), rfl, rfl, SqL.of hc, ?_, by show 2 ≤ sizeLine; decide, fun q hq => ?_⟩
      · rw [el, show ((t.idxOf d1 : Nat) : Int) + 1 = ((t.idxOf d1 + 1 : Nat) : Int) by omega, ← Int.natCast_emod]
        exact atI_nat at2
      · have z := k q hq
        rw [step2] at z
        exact z
theorem scWalk : FnScope ["turns", "first", "walk", "one", "other"] ["turns", "first"] (defScope sWalk) := ⟨rfl, rfl, rfl, by decide +kernel, rfl, by decide +kernel, by decide +kernel⟩
theorem c_walk (T : WTxt K mg C) (U : KTxt K mg) : C8.Cal P w K mg base 2 "_walk" spWalk [] := by
  refine cal_of U.fWalk scWalk (fun vs H Q E h => ?_) (fun f cdv A outer s H vs Q E hr h => ?_)
  · obtain ⟨H0, R, as, m, ts, tss, x, d, rfl, _⟩ := h
    rfl
  · obtain ⟨H0, R, as, m, ts, tss, x, d, rfl, hR, tu, g, m16, hx, hd, k⟩ := h
    have hun : (A.deeper (envOfC "_walk" (defScope sWalk) s.heap.objs.size f cdv)).units + 64 < cLine := by
      have := hr.un
      omega
    have G := goes_of g tu
    refine ⟨_, pss_cons (ps_set (i := 2) scWalk.nd rfl (Or.inl rfl) (pe_lst (pa_cons (pe_ix ix_tup (pv 1) pe_int (fun _ _ => rfl)) pa_nil)))
      (pss_cons (ps_asg (C8.pe_c (c_behind T U) hr (by decide) (by rfl) (pa_cons (pv 0) (pa_cons (pv 1) pa_nil))) (pg_tup (by rfl) (pgs_cons (pg_name (i := 3) scWalk.nd rfl (.inl rfl)) (pgs_cons (pg_name (i := 4) scWalk.nd rfl (.inl rfl)) pgs_nil))))
      (pss_cons (ps_while PassesOwn.never (pt_cmpR (op_neD hun) (pe_tup (pa_cons (pv 3) (pa_cons (pv 4) pa_nil))) (pv 1) (nomark _))
        (pss_cons (ps_expr (pe_bm PySem.F.plainAttrs_list PySem.F.slot_list_append PySem.F.type_list_append mt_append (pv 2) (pa_cons (pv 3) pa_nil)))
        (pss_one (ps_asg (C8.pe_c (c_behind T U) hr (by decide) (by rfl) (pa_cons (pv 0) (pa_cons (pe_tup (pa_cons (pv 3) (pa_cons (pv 4) pa_nil))) pa_nil))) (pg_tup (by rfl) (pgs_cons (pg_name (i := 3) scWalk.nd rfl (.inl rfl)) (pgs_cons (pg_name (i := 4) scWalk.nd rfl (.inl rfl)) pgs_nil)))))))
      (pss_one (ps_ret (pv 2))))), ?_⟩
    obtain ⟨b, ex, hb⟩ := id hx
    obtain ⟨p0, p1, p2⟩ := G.per hd
    have pl := G.per_le hd
    have dl := darts_len m16 ts
    -- walk = [first[0]]
    refine ⟨_, rfl, b, [.int d.1, .int d.2], 0, .int d.1, ex, rfl, SqT.of hb, rfl, by show 1 ≤ sizeLine; decide, fun D hD => ?_⟩
    have s1 := Same.put (o := .lst [.int d.1]) hD
    -- one, other = _behind(turns, first)
    refine ⟨_, rfl, _, rfl, H0, R, as, m, ts, tss, x, d, rfl, hR.same s1, tu, g, m16, PairAt.same s1 hx, hd, fun t ht => ?_⟩
    have s2 := Same.put (o := .tup [.int (stepT tss d).1, .int (stepT tss d).2]) ht
    refine ⟨t, _, rfl, SqT.of upd_same, rfl, .int (stepT tss d).1, [.int (stepT tss d).2], rfl, .int (stepT tss d).2, [], rfl, rfl, ?_⟩
    have wk : ∀ i, i < per (stepT tss) d → iL ((walkP (stepT tss) d).take i) ++ [V.int (itr (stepT tss) i d).1] = iL ((walkP (stepT tss) d).take (i + 1)) := fun i hi => by
      rw [take_next (walkP_at hi)]
      unfold iL
      rw [List.map_append]
      rfl
    refine while_by (fun σ H1 => ∃ i, 0 < i ∧ i ≤ per (stepT tss) d ∧ σ = [some (.ref R), some x, some (.ref D), some (.int (itr (stepT tss) i d).1), some (.int (itr (stepT tss) i d).2)] ∧ Same H H1 ∧ H1 D = some (.lst (iL ((walkP (stepT tss) d).take i)))) (fun σ H1 => 300 - muL 2 σ H1)
      ⟨1, Nat.one_pos, p0, rfl, s1.trans s2, ?_⟩ ?_ ?_
    · refine s2 _ _ ?_
      rw [upd_same]
      exact congrArg (fun z => some (HO.lst z)) (wk 0 p0)
    · rintro σ H1 ⟨i, i0, ip, rfl, s3, d3⟩
      refine ⟨_, rfl, _, rfl, by show 2 ≤ sizeLine; decide, fun q hq => ?_⟩
      have s4 := Same.put (o := .tup [.int (itr (stepT tss) i d).1, .int (itr (stepT tss) i d).2]) hq
      have s34 := s3.trans s4
      refine ⟨_, rfl, prd (itr (stepT tss) i d), prd d, dp_pair ⟨q, rfl, upd_same⟩, dp_pair (PairAt.same s34 hx), prd_shaped _, prd_shaped _, _, rfl, ?_⟩
      rw [prd_eqv]
      by_cases c : itr (stepT tss) i d = d
      · refine no_ (by rw [decide_eq_true c]; rfl) ?_
        have ei : i = per (stepT tss) d := by
          rcases Nat.lt_or_ge i (per (stepT tss) d) with z | z
          · exact absurd c (p2 i i0 z)
          · omega
        subst ei
        have tk : (walkP (stepT tss) d).take (per (stepT tss) d) = walkP (stepT tss) d := List.take_of_length_le (by rw [walkP_len]; exact Nat.le_refl _)
        rw [tk] at d3
        exact ⟨_, rfl, k _ D s34 hD (s4 _ _ d3)⟩
      · refine yep_ (by rw [decide_eq_false c]; rfl) ?_
        have il : i < per (stepT tss) d := by
          rcases Nat.lt_or_ge i (per (stepT tss) d) with z | z
          · exact z
          · have e : i = per (stepT tss) d := by omega
            rw [e] at c
            exact absurd p1 c
        have len : ((walkP (stepT tss) d).take i).length = i := by
          rw [List.length_take, walkP_len]
          omega
        refine ⟨_, rfl, .inl ⟨rfl, _, SqL.of (s4 _ _ d3)⟩, _, rfl, D, _, _, rfl, rfl, s4 _ _ d3, by rw [List.length_map, len]; exact small (by omega), ?_⟩
        rw [wk i il]
        have s5 : Same H (upd (upd H1 q (.tup [.int (itr (stepT tss) i d).1, .int (itr (stepT tss) i d).2])) D (.lst (iL ((walkP (stepT tss) d).take (i + 1))))) := Same.write s34 hD
        have d5 : (upd (upd H1 q (.tup [.int (itr (stepT tss) i d).1, .int (itr (stepT tss) i d).2])) D (.lst (iL ((walkP (stepT tss) d).take (i + 1))))) D = some (.lst (iL ((walkP (stepT tss) d).take (i + 1)))) := upd_same
        generalize upd (upd H1 q (.tup [.int (itr (stepT tss) i d).1, .int (itr (stepT tss) i d).2])) D (.lst (iL ((walkP (stepT tss) d).take (i + 1)))) = H5 at s5 d5 ⊢
        refine ⟨_, rfl, _, rfl, _, rfl, by show 2 ≤ sizeLine; decide, fun r hr' => ?_⟩
        have s6 := Same.put (o := .tup [.int (itr (stepT tss) i d).1, .int (itr (stepT tss) i d).2]) hr'
        refine ⟨H0, R, as, m, ts, tss, .ref r, itr (stepT tss) i d, rfl, hR.same (s5.trans s6), tu, g, m16, ⟨r, rfl, upd_same⟩, G.it hd i, fun t' ht' => ?_⟩
        have s7 := Same.put (o := .tup [.int (stepT tss (itr (stepT tss) i d)).1, .int (stepT tss (itr (stepT tss) i d)).2]) ht'
        refine ⟨t', _, rfl, SqT.of upd_same, rfl, .int (stepT tss (itr (stepT tss) i d)).1, [.int (stepT tss (itr (stepT tss) i d)).2], rfl, .int (stepT tss (itr (stepT tss) i d)).2, [], rfl, rfl, ?_⟩
        have d7 := s7 _ _ (s6 _ _ d5)
        refine ⟨⟨i + 1, Nat.succ_pos i, il, rfl, (s5.trans s6).trans s7, d7⟩, ?_⟩
        have len2 : ((walkP (stepT tss) d).take (i + 1)).length = i + 1 := by
          rw [List.length_take, walkP_len]
          omega
        have e1 : muL 2 [some (V.ref R), some x, some (.ref D), some (.int (itr (stepT tss) i d).1), some (.int (itr (stepT tss) i d).2)] H1 = i := by
          show (match H1 D with | some (.lst xs) => xs.length | _ => 0) = i
          rw [d3]
          show (iL ((walkP (stepT tss) d).take i)).length = i
          rw [List.length_map, len]
        have e2 : ∀ (H9 : Hp) (v3 v4 : Option V), H9 D = some (.lst (iL ((walkP (stepT tss) d).take (i + 1)))) → muL 2 [some (V.ref R), some x, some (.ref D), v3, v4] H9 = i + 1 := fun H9 v3 v4 h9 => by
          show (match H9 D with | some (.lst xs) => xs.length | _ => 0) = i + 1
          rw [h9]
          show (iL ((walkP (stepT tss) d).take (i + 1))).length = i + 1
          rw [List.length_map, len2]
        show 300 - muL 2 _ _ < 300 - muL 2 _ _
        rw [e1]
        have e3 := e2 _ (some (.int (stepT tss (itr (stepT tss) i d)).1)) (some (.int (stepT tss (itr (stepT tss) i d)).2)) d7
        exact Nat.lt_of_le_of_lt (Nat.le_of_eq (congrArg (fun z => 300 - z) e3)) (by omega)
    · rintro σ H1 Q1 Q2 hq ⟨v, e1, v2, e2, l0, h⟩
      refine ⟨v, e1, v2, e2, l0, fun p hp => ?_⟩
      obtain ⟨v3, e3, d, e, h1, h2, h3, h4, c, e6, q⟩ := h p hp
      exact ⟨v3, e3, d, e, h1, h2, h3, h4, c, e6, hq _ _ q⟩
end
end Fd
namespace Fd
open PySem PySem.Spec PyProof.Rows L2
theorem cut_take (xs : List V) (k : Nat) (h : k ≤ xs.length) : cutV xs none (some (k : Int)) = xs.take k := by
  unfold cutV
  have e2 : HT.sIx xs.length xs.length (some (k : Int)) = min k xs.length := HT.sIx_nat _ _ k
  have e1 : HT.sIx xs.length 0 none = 0 := rfl
  rw [e1, e2, Nat.min_eq_left h, List.drop_zero, Nat.sub_zero]
theorem cut_drop (xs : List V) (k : Nat) (h : k ≤ xs.length) : cutV xs (some (k : Int)) none = xs.drop k := by
  unfold cutV
  have e2 : HT.sIx xs.length 0 (some (k : Int)) = min k xs.length := HT.sIx_nat _ _ k
  have e1 : HT.sIx xs.length xs.length none = xs.length := rfl
  rw [e1, e2, Nat.min_eq_left h]
  exact List.take_of_length_le (by rw [List.length_drop]; omega)
theorem darts_le {m : Nat} {ts : List Tie} (g : Good m ts) : (dartsL m ts).length ≤ 2 * ts.length := by
  have le := (darts_nodup m ts).length_le_of_subset (l₂ := ts ++ ts.map fun t => (t.2, t.1)) fun d hd => by
    rcases (mem_darts g).mp hd with z | z
    · exact List.mem_append_left _ z
    · exact List.mem_append_right _ (List.mem_map.mpr ⟨_, z, rfl⟩)
  rw [List.length_append, List.length_map] at le
  omega
theorem walk_rot {f : Tie → Tie} {L : List Tie} (G : Goes f L) {d : Tie} (hd : d ∈ L) {q : Nat} (hq : q < per f d) : (iL ((walkP f d).drop 1 ++ (walkP f d).take 1))[q]? = some (.int (itr f q d).2) := by
  refine iL_get ?_
  have p0 := (G.per hd).1
  rw [← G.next hd hq]
  have dl : ((walkP f d).drop 1).length = per f d - 1 := by rw [List.length_drop, walkP_len]
  by_cases c : q + 1 = per f d
  · rw [c, Nat.mod_self, List.getElem?_append_right (by omega), dl, show q - (per f d - 1) = 0 by omega, List.getElem?_take_of_lt (by omega)]
    exact walkP_at p0
  · rw [Nat.mod_eq_of_lt (by omega), List.getElem?_append_left (by omega), List.getElem?_drop, Nat.add_comm 1 q]
    exact walkP_at (by omega)
def spCheckT (C : Addr) (K : PySem.W.Frag) : Sp := fun vs H Q _ => ∃ (H0 : Hp) (p : Addr) (m : Nat) (ts : List Tie) (x : V) (o : Option (List It)), vs = [.ref p, x] ∧ WebAt C H0 H p m ts ∧ m ≤ 16 ∧ ThAt K H x o ∧ okTh (rowsOf m ts) o ∧ ∀ H', Same H H' → Q .non H'
def spWalks (C : Addr) : Sp := fun vs H Q _ => ∃ (H0 : Hp) (p R : Addr) (as : List Addr) (m : Nat) (ts : List Tie) (tss : List (List Int)), vs = [.ref p, .ref R] ∧ WebAt C H0 H p m ts ∧ RowsAt H0 H R as tss ∧ TurnsOf m ts tss ∧ Good m ts ∧ m ≤ 16 ∧ ts.length ≤ 40 ∧
  ∀ (H' : Hp) (D : Addr) (bs : List Addr), Same H H' → RowsAt H H' D bs (walksL m ts tss) → Q (.ref D) H'
theorem heads_len {m : Nat} {ts : List Tie} (g : Good m ts) (tss : List (List Int)) (tl : ts.length ≤ 40) (n : Nat) : ((((dartsL m ts).take n).filter (headB (stepT tss))).map (walkP (stepT tss))).length ≤ 80 := by
  have h1 := List.length_filter_le (headB (stepT tss)) ((dartsL m ts).take n)
  have h2 := darts_le g
  rw [List.length_take] at h1
  rw [List.length_map]
  omega
section
variable {P : Program} {w : World} {K : PySem.W.Frag} {mg : Str → Option Value} {base : Heap} {C : Addr}
theorem scCheckT : FnScope ["web", "turns"] ["web", "turns"] (defScope sCheckTurns) := ⟨rfl, rfl, rfl, by decide +kernel, rfl, by decide +kernel, by decide +kernel⟩
theorem c_checkT (T : WTxt K mg C) (U : TTxt K mg C) (F : Fn K mg "_check_turns" sCheckTurns ["web", "turns"]) : C8.Cal P w K mg base 6 "_check_turns" (spCheckT C K) [] := by
  refine cal_of F scCheckT (fun vs H Q E h => ?_) (fun f cdv A outer s H vs Q E hr h => ?_)
  · obtain ⟨H0, p, m, ts, x, o, rfl, _⟩ := h
    rfl
  · obtain ⟨H0, p, m, ts, x, o, rfl, W, m16, hx, ok, k⟩ := h
    refine ⟨_, pss_one (ps_if (pt_not (pt_val (C8.pe_c (c_are T U) hr (by decide) (by rfl) (pa_cons (pv 0) (pa_cons (pv 1) pa_nil))))) (pss_one ps_never) pss_nil), ?_⟩
    refine ⟨_, rfl, _, rfl, H0, p, m, ts, x, o, rfl, W, m16, hx, fun H1 s1 => ⟨_, rfl, ?_⟩⟩
    rw [dB_t ok]
    exact iteF (k H1 s1)
abbrev nWalks : List Str := ["web", "turns", "found", "gone", "step", "walk", "each", "one", "other"]
theorem scWalks : FnScope ["web", "turns", "found", "gone", "step", "walk", "each", "one", "other"] ["web", "turns"] (defScope sWalks) := ⟨rfl, rfl, rfl, by decide +kernel, rfl, by decide +kernel, by decide +kernel⟩
theorem c_walks (T : WTxt K mg C) (U : TTxt K mg C) (N : KTxt K mg) : C8.Cal P w K mg base 7 "walks" (spWalks C) [] := by
  refine cal_of N.fWalks scWalks (fun vs H Q E h => ?_) (fun f cdv A outer s H vs Q E hr h => ?_)
  · obtain ⟨H0, p, R, as, m, ts, tss, rfl, _⟩ := h
    rfl
  · obtain ⟨H0, p, R, ar, m, ts, tss, rfl, W, hR, tu, g, m16, tl, k⟩ := h
    obtain ⟨p0, dx, Rw, aw, hp, _⟩ := id W
    have G := goes_of g tu
    have short := tu.short m16
    refine ⟨_, pss_cons (ps_expr (C8.pe_c (c_checkT T U N.fCheckT) hr (by decide) (by rfl) (pa_cons (pv 0) (pa_cons (pv 1) pa_nil))))
      (pss_cons (ps_set (i := 2) scWalks.nd rfl (Or.inl rfl) (pe_lst pa_nil))
      (pss_cons (ps_set (i := 3) scWalks.nd rfl (Or.inl rfl) (pe_callTy0 cr_newW (by rfl) N.set (by decide +kernel)))
      (pss_cons (ps_for PassesOwn.never rfl (pi_list (pe_lc2 (own := [("one", 7), ("other", 8)]) (vs1 := [8]) (g := gName 7) (g1 := gName 8) (tt := tYes) (tt1 := tYes) (te := tTup (tCons (tVar 7) (tCons (tVar 8) tNil))) (wi1 := iList K (tMeth C "beside" (spBeside C) [] C8.E0 (tVar 0) (tCons (tVar 7) tNil))) (by rfl) scWalks.nd
            (pi_range1 (by rfl) T.range (pa_cons (pe_fld (pv 0) rfl) pa_nil))
            (blkOk_by (own := [("one", 7), ("other", 8)]) (N := nWalks) (sc := defScope sWalks) (by decide +kernel)) (by simp)
            (fun _ _ _ _ _ => pg_name (i := 7) scWalks.nd rfl (Or.inl rfl)) (fun _ _ _ _ _ => pts_nil)
            (fun _ _ _ _ _ => pi_list (C8.pe_mt (c_beside T U.fC U.fB) hr (by decide) (pv 0) (pa_cons (pv 7) pa_nil)))
            (fun _ _ _ _ _ => pg_name (i := 8) scWalks.nd rfl (Or.inl rfl)) (fun _ _ _ _ _ => pts_nil)
            (fun _ _ _ _ _ => pe_tup (pa_cons (pv 7) (pa_cons (pv 8) pa_nil))))) (pg_name (i := 4) scWalks.nd rfl (Or.inl rfl))
        (pss_one (ps_if (pt_cmpR (op_notInW (hu65 hr)) (pv 4) (pv 3) (by rfl))
          (pss_cons (ps_set (i := 5) scWalks.nd rfl (Or.inl rfl) (C8.pe_c (c_walk T N) hr (by decide) (by rfl) (pa_cons (pv 1) (pa_cons (pv 4) pa_nil))))
          (pss_cons (ps_expr (pe_bm PySem.F.plainAttrs_list PySem.F.slot_list_append PySem.F.type_list_append mt_append (pv 2) (pa_cons (pv 5) pa_nil)))
          (pss_one (ps_for PassesOwn.never rfl (pi_zipN (by rfl) N.zip (pa_cons (pv 5) (pa_cons (pe_op op_cat (pe_slice sl_list (pv 5) (po_some pe_int) po_none) (pe_slice sl_list (pv 5) po_none (po_some pe_int))) pa_nil))) (pg_name (i := 6) scWalks.nd rfl (Or.inl rfl))
            (pss_one (ps_expr (pe_addW (hu65 hr) (pv 3) (pa_cons (pv 6) pa_nil)))))))) pss_nil)))
      (pss_one (ps_ret (pv 2)))))), ?_⟩
    -- _check_turns(web, turns)
    refine ⟨_, rfl, _, rfl, H0, p, m, ts, .ref R, _, rfl, W, m16, .lst (SqL.of hR.top) (rows_its hR fun t ht => by have := short t ht; omega) (by rw [List.length_map, hR.len, tu.len]; omega), tu.ok, fun H1 s1 => ?_⟩
    -- found = []; gone = set()
    refine ⟨Nat.zero_le _, fun Fa hFa => ?_⟩
    have s2 := Same.put (o := .lst []) hFa
    have f2 : (upd H1 Fa (.lst [])) Fa = some (.lst []) := upd_same
    generalize upd H1 Fa (.lst []) = H2 at s2 f2 ⊢
    refine ⟨rfl, fun S hS => ?_⟩
    have nFS : Fa ≠ S := ne_of_none f2 hS
    have S1 : H1 S = none := s2.free hS
    have s3 : Same H2 (upd H2 S (SetWO P w S [])) := Same.put hS
    have pl : GoneAt P w (upd H2 S (SetWO P w S [])) S [] [] := ⟨upd_same, fun p hp => (by cases hp), List.Perm.refl _, List.nodup_nil⟩
    have f3 := s3 _ _ f2
    have s13 := s2.trans s3
    -- the steps, rising
    refine ⟨_, rfl, p, C, dx, _, _, rfl, s13 _ _ (s1 _ _ hp), T.cl, T.nMany, wF_many _ _, (m : Int), rfl, by omega, by omega, fun D4 hD4 => ?_⟩
    refine ⟨fun i n H4 => n = m - i ∧ i ≤ m ∧ Same (upd H2 S (SetWO P w S [])) H4 ∧ ∃ ws, H4 D4 = some (.lst ws) ∧ PairsAt H4 ws ((pts i).flatMap fun p => (rowOf m ts p).map fun q => (p, q)), ⟨_, rfl, Nat.zero_le _, Same.put hD4, [], upd_same, .nil⟩, ?_⟩
    rintro i n H4 ⟨rfl, him, s4, ws4, dw, hw⟩
    by_cases hi : i < m
    · refine .inr ⟨by show i < (m : Int).toNat; omega, fun H5 => i + 1 ≤ m ∧ Same (upd H2 S (SetWO P w S [])) H5 ∧ ∃ ws, H5 D4 = some (.lst ws) ∧ PairsAt H5 ws ((pts (i + 1)).flatMap fun p => (rowOf m ts p).map fun q => (p, q)), fun H5 q => ⟨m - (i + 1), by omega, rfl, q⟩, ?_⟩
      rintro x H5 ⟨rfl, rfl⟩
      refine ⟨rfl, ?_⟩
      refine yes_ ?_
      refine iteT ?_
      have s05 := s1.trans (s13.trans s4)
      -- for other in web.beside(one)
      refine ⟨_, rfl, p, dx, _, rfl, s05 _ _ hp, wF_no _ _ (by decide +kernel) (by decide +kernel), _, rfl, H0, p, m, ts, i, by rw [Int.zero_add]; rfl, W.same s05, hi, fun B hB => ⟨B, rfl, ⟨_, SqL.of upd_same⟩, ?_⟩⟩
      have sB := Same.put (o := .lst (iL (rowOf m ts i))) hB
      have hb : (upd H5 B (.lst (iL (rowOf m ts i)))) B = some (.lst (iL (rowOf m ts i))) := upd_same
      have d5 := sB _ _ dw
      have s5 := s4.trans sB
      have hw5 := PairsAt.same sB hw
      have pre : ((pts i).flatMap fun p => (rowOf m ts p).map fun q => (p, q)).length ≤ 256 := darts_len (by omega : i ≤ 16) ts |> fun _ => by
        have h : ∀ l : List Int, (l.flatMap fun p => (rowOf m ts p).map fun q => (p, q)).length ≤ 16 * l.length := fun l => by
          induction l with
          | nil => simp
          | cons a l ih =>
            have h1 := rowOf_len m ts a
            rw [List.flatMap_cons, List.length_append, List.length_cons, List.length_map]
            omega
        have h2 := h (pts i)
        rw [pts_len] at h2
        omega
      generalize upd H5 B (.lst (iL (rowOf m ts i))) = Hb at hb d5 s5 hw5 ⊢
      refine ⟨fun j n H6 => n = (rowOf m ts i).length - j ∧ j ≤ (rowOf m ts i).length ∧ Same (upd H2 S (SetWO P w S [])) H6 ∧ H6 B = some (.lst (iL (rowOf m ts i))) ∧ ∃ ws, H6 D4 = some (.lst ws) ∧ PairsAt H6 ws (((pts i).flatMap fun p => (rowOf m ts p).map fun q => (p, q)) ++ ((rowOf m ts i).take j).map fun y => ((i : Int), y)),
        ⟨_, rfl, Nat.zero_le _, s5, hb, ws4, d5, by rw [List.take_zero, List.map_nil, List.append_nil]; exact hw5⟩, ?_⟩
      rintro j n H6 ⟨rfl, hjl, s6, b6, us, hDu, hu⟩
      have BD : B ≠ D4 := fun e => by
        rw [e] at b6
        have := hB
        rw [e, dw] at this
        cases this
      by_cases hj : j < (rowOf m ts i).length
      · have ej : (rowOf m ts i)[j]? = some (rowOf m ts i)[j] := List.getElem?_eq_getElem hj
        refine .inr ⟨⟨_, _, SqL.of b6, iL_get ej⟩, fun H7 => j + 1 ≤ (rowOf m ts i).length ∧ Same (upd H2 S (SetWO P w S [])) H7 ∧ H7 B = some (.lst (iL (rowOf m ts i))) ∧ ∃ ws, H7 D4 = some (.lst ws) ∧ PairsAt H7 ws (((pts i).flatMap fun p => (rowOf m ts p).map fun q => (p, q)) ++ ((rowOf m ts i).take (j + 1)).map fun y => ((i : Int), y)), fun H7 q => ⟨_, by show (rowOf m ts i).length - (j + 1) < _; omega, rfl, q⟩, ?_⟩
        rintro x H7 ⟨rfl, hx⟩
        obtain rfl : x = .int (rowOf m ts i)[j] := Option.some.inj ((hx _ (SqL.of b6)).symm.trans (iL_get ej))
        generalize hy : (rowOf m ts i)[j] = y at ej ⊢
        refine ⟨rfl, ?_⟩
        refine yes_ ?_
        refine iteT ?_
        refine ⟨_, rfl, _, rfl, by show 2 ≤ sizeLine; decide, fun q hq => ?_⟩
        have qD : D4 ≠ q := ne_of_none hDu hq
        have qB : B ≠ q := ne_of_none b6 hq
        have rl := rowOf_len m ts (i : Int)
        have l1 : us.length < sizeLine := by
          rw [hu.length, List.length_append, List.length_map, List.length_take]
          exact small (by omega)
        refine ⟨us, by rw [upd_ne qD]; exact hDu, l1, by omega, Same.write (Same.step s6 hq) hD4, by rw [upd_ne BD, upd_ne qB]; exact b6, _, upd_same, ?_⟩
        rw [take_next ej, List.map_append, ← List.append_assoc, Int.zero_add]
        refine Paired.snoc ?_ ⟨q, rfl, by rw [upd_ne qD.symm, upd_same]⟩
        refine Paired.mono (fun v t ⟨a, e, h⟩ => ⟨a, e, ?_⟩) hu
        have a1 : a ≠ q := ne_of_none h hq
        have a2 : a ≠ D4 := ne_of h hDu (by intro z; cases z)
        rw [upd_ne a2, upd_ne a1]
        exact h
      · have e : j = (rowOf m ts i).length := by omega
        subst e
        refine .inl ⟨⟨_, SqL.of b6, by rw [List.length_map]; exact Nat.le_refl _⟩, by omega, s6, us, hDu, ?_⟩
        rw [List.take_length] at hu
        rw [pts_succ, List.flatMap_append, List.flatMap_singleton]
        exact hu
    · have e : i = m := by omega
      subst e
      refine .inl ⟨by show (i : Int).toNat ≤ i; omega, ?_⟩
      have p4 : PairsAt H4 ws4 (dartsL i ts) := hw
      have nDF : D4 ≠ Fa := fun e => by
        have z := hD4
        rw [e] at z
        exact absurd (f3.symm.trans z) (fun q => by cases q)
      have pl4 := pl.same s4
      have l4 := p4.length
      refine ⟨D4, rfl, ⟨_, SqL.of dw⟩, for_list (K := K) (a := D4) (xs := ws4)
        (fun n σ H5 => ∃ (as : List Addr) (L : List (Addr × List Int)) (V0 : List Tie) (v4 v5 v6 : Option V), σ = [some (.ref p), some (.ref R), some (.ref Fa), some (.ref S), v4, v5, v6, none, none] ∧ Same H1 H5 ∧ H5 D4 = some (.lst ws4) ∧ PairsAt H5 ws4 (dartsL i ts) ∧
          RowsAt H H5 Fa as ((((dartsL i ts).take n).filter (headB (stepT tss))).map (walkP (stepT tss))) ∧ GoneAt P w H5 S L V0 ∧ ∀ u, u ∈ V0 ↔ ∃ (j : Nat) (v : Tie), j < n ∧ (dartsL i ts)[j]? = some v ∧ u ∈ orb (stepT tss) v)
        ⟨[], [], [], none, none, none, rfl, s13.trans s4, dw, p4, ⟨s4 _ _ f3, s1.free hFa, rfl, List.nodup_nil, by simp, fun i a r e _ => by simp at e⟩, pl4, fun u => ⟨fun z => (by cases z), fun ⟨j, _, z, _⟩ => absurd z (Nat.not_lt_zero _)⟩⟩ (fun n σ H5 _ ⟨_, _, _, _, _, _, _, _, d, _⟩ => SqL.of d) ?_ ?_⟩
      · rintro n x σ H5 hn ⟨as, L, V0, v4, v5, v6, rfl, s5, e5, n5, f5, pl5, hU⟩
        obtain ⟨t, et, hxt⟩ := paired_get n5 hn
        obtain ⟨b, rfl, hb⟩ := id hxt
        have ht := List.mem_of_getElem? et
        refine ⟨_, rfl, _, rfl, b, S, kOf t, L, rfl, rfl, SqT.of hb, pl5.at_, pl5.tupsAt, _, rfl, ?_⟩
        have hd := G.head_iff (darts_strict i ts) et
        rw [take_next et]
        by_cases c : t ∈ V0
        · refine no_ (by rw [decide_eq_true (pl5.mem.mpr c)]; rfl) ?_
          obtain ⟨j, v, j1, j2, j3⟩ := (hU t).mp c
          have hf : headB (stepT tss) t = false := Bool.eq_false_iff.mpr fun z => hd.mp z j v j1 j2 j3
          refine ⟨as, L, V0, _, _, _, rfl, s5, e5, n5, ?_, pl5, fun u => ?_⟩
          · rw [List.filter_append, show ([t].filter (headB (stepT tss))) = [] by simp [hf], List.append_nil]
            exact f5
          · rw [hU u]
            constructor
            · rintro ⟨q, y, i1, i2, i3⟩
              exact ⟨q, y, by omega, i2, i3⟩
            · rintro ⟨q, y, i1, i2, i3⟩
              rcases Nat.lt_or_ge q n with z | z
              · exact ⟨q, y, z, i2, i3⟩
              · have ei : q = n := by omega
                subst ei
                cases Option.some.inj (i2.symm.trans et)
                exact ⟨j, v, j1, j2, G.trans (List.mem_of_getElem? j2) j3 i3⟩
        · refine yep_ (by rw [decide_eq_false (fun z => c (pl5.mem.mp z))]; rfl) ?_
          have hf : headB (stepT tss) t = true := hd.mpr fun j v j1 j2 j3 => c ((hU t).mpr ⟨j, v, j1, j2, j3⟩)
          have pr := G.per ht
          have pl8 := G.per_le ht
          have dle := darts_le g
          -- walk = _walk(turns, step)
          refine ⟨_, rfl, _, rfl, H0, R, ar, i, ts, tss, .ref b, t, rfl, hR.same (s1.trans s5), tu, g, m16, hxt, ht, fun H6 D6 s56 hD6 d6 => ?_⟩
          have f6 := f5.same s56
          have pl6 := pl5.same s56
          have e6 := s56 _ _ e5
          have n6 := PairsAt.same s56 n5
          have n6F : D6 ≠ Fa := fun e => by
            rw [e, f5.top] at hD6
            cases hD6
          have s6 := s5.trans s56
          have al := f6.len
          have al2 := heads_len g tss tl n
          -- found.append(walk)
          refine ⟨_, rfl, .inl ⟨rfl, _, SqL.of f6.top⟩, _, rfl, Fa, _, _, rfl, rfl, f6.top, by rw [List.length_map]; exact small (by omega), ?_⟩
          have f7 := f5.put (s1.trans s5) s56 hD6 d6
          have pl7 := pl6.over (ys := as.map V.ref ++ [.ref D6]) f6.top
          have d7 : (upd H6 Fa (.lst (as.map V.ref ++ [.ref D6]))) D6 = some (.lst (iL (walkP (stepT tss) t))) := by rw [upd_ne n6F]; exact d6
          have e7 : (upd H6 Fa (.lst (as.map V.ref ++ [.ref D6]))) D4 = some (.lst ws4) := by rw [upd_ne nDF]; exact e6
          have n7 := pairs_over (ys := as.map V.ref ++ [.ref D6]) f6.top n6
          have s7 : Same H1 (upd H6 Fa (.lst (as.map V.ref ++ [.ref D6]))) := Same.write s6 hFa
          generalize upd H6 Fa (.lst (as.map V.ref ++ [.ref D6])) = H7 at f7 pl7 d7 e7 n7 s7 ⊢
          have wl : (walkP (stepT tss) t).length = per (stepT tss) t := walkP_len _ _
          have wl1 : 1 ≤ (iL (walkP (stepT tss) t)).length := by rw [List.length_map, wl]; exact pr.1
          -- zip(walk, walk[1:] + walk[:1])
          refine ⟨_, rfl, _, rfl, 1, rfl, D6, iL (walkP (stepT tss) t), rfl, SqL.of d7, fun q1 hq1 => ?_⟩
          have t1 := Same.put (o := .lst (cutV (iL (walkP (stepT tss) t)) (some 1) none)) hq1
          refine ⟨_, rfl, 1, rfl, D6, iL (walkP (stepT tss) t), rfl, SqL.of (t1 _ _ d7), fun q2 hq2 => ?_⟩
          have t2 := Same.put (o := .lst (cutV (iL (walkP (stepT tss) t)) none (some 1))) hq2
          have ec1 : cutV (iL (walkP (stepT tss) t)) (some 1) none = iL ((walkP (stepT tss) t).drop 1) := (cut_drop _ 1 wl1).trans (List.map_drop ..).symm
          have ec2 : cutV (iL (walkP (stepT tss) t)) none (some 1) = iL ((walkP (stepT tss) t).take 1) := (cut_take _ 1 wl1).trans (List.map_take ..).symm
          have ecat : cutV (iL (walkP (stepT tss) t)) (some 1) none ++ cutV (iL (walkP (stepT tss) t)) none (some 1) = iL ((walkP (stepT tss) t).drop 1 ++ (walkP (stepT tss) t).take 1) := by
            rw [ec1, ec2]
            exact (List.map_append ..).symm
          refine ⟨q1, q2, _, _, rfl, rfl, t2 _ _ upd_same, upd_same, ?_, fun q3 hq3 => ?_⟩
          · rw [ec1, ec2, List.length_map, List.length_map, List.length_drop, List.length_take]
            exact smalle (by omega)
          have t3 := Same.put (o := .lst (cutV (iL (walkP (stepT tss) t)) (some 1) none ++ cutV (iL (walkP (stepT tss) t)) none (some 1))) hq3
          have d3 : (upd (upd (upd H7 q1 (.lst (cutV (iL (walkP (stepT tss) t)) (some 1) none))) q2 (.lst (cutV (iL (walkP (stepT tss) t)) none (some 1)))) q3 (.lst (cutV (iL (walkP (stepT tss) t)) (some 1) none ++ cutV (iL (walkP (stepT tss) t)) none (some 1)))) q3 = some (.lst (iL ((walkP (stepT tss) t).drop 1 ++ (walkP (stepT tss) t).take 1))) := by rw [upd_same, ecat]
          have t13 := (t1.trans t2).trans t3
          generalize upd (upd (upd H7 q1 (.lst (cutV (iL (walkP (stepT tss) t)) (some 1) none))) q2 (.lst (cutV (iL (walkP (stepT tss) t)) none (some 1)))) q3 (.lst (cutV (iL (walkP (stepT tss) t)) (some 1) none ++ cutV (iL (walkP (stepT tss) t)) none (some 1))) = H8 at t3 d3 t13 ⊢
          have f8 := f7.same t13
          have pl8' := pl7.same t13
          have n8 := PairsAt.same t13 n7
          have rl : (iL (walkP (stepT tss) t)).length = (iL ((walkP (stepT tss) t).drop 1 ++ (walkP (stepT tss) t).take 1)).length := by
            rw [List.length_map, List.length_map, List.length_append, List.length_drop, List.length_take]
            omega
          refine ⟨D6, q3, _, _, rfl, SqL.of (t13 _ _ d7), SqL.of d3, RZ.for_zipL (K := K) (xs := iL (walkP (stepT tss) t)) (ys := iL ((walkP (stepT tss) t).drop 1 ++ (walkP (stepT tss) t).take 1)) rl
            (fun q σ H9 => ∃ (L2 : List (Addr × List Int)) (U2 : List Tie) (v6 : Option V), σ = [some (.ref p), some (.ref R), some (.ref Fa), some (.ref S), some (.ref b), some (.ref D6), v6, none, none] ∧ Same H1 H9 ∧ H9 D4 = some (.lst ws4) ∧ PairsAt H9 ws4 (dartsL i ts) ∧
              RowsAt H H9 Fa (as ++ [D6]) ((((dartsL i ts).take n).filter (headB (stepT tss))).map (walkP (stepT tss)) ++ [walkP (stepT tss) t]) ∧ GoneAt P w H9 S L2 U2 ∧ H9 D6 = some (.lst (iL (walkP (stepT tss) t))) ∧ H9 q3 = some (.lst (iL ((walkP (stepT tss) t).drop 1 ++ (walkP (stepT tss) t).take 1))) ∧ ∀ u, u ∈ U2 ↔ u ∈ V0 ∨ u ∈ (orb (stepT tss) t).take q)
            ⟨L, V0, _, rfl, s7.trans t13, t13 _ _ e7, n8, f8, pl8', t13 _ _ d7, d3, fun u => ⟨.inl, fun z => z.elim id fun z => (by simp at z)⟩⟩ (fun q σ H9 ⟨_, _, _, _, _, _, _, _, _, d, d', _⟩ => ⟨SqL.of d, SqL.of d'⟩) ?_ ?_⟩
          · rintro q x y T0 σ H9 hx hy ⟨L2, U2, v6, rfl, s9, e9, n9, f9, pl9, d9, r9, hU2⟩ hT
            have hql : q < per (stepT tss) t := by
              have := (List.getElem?_eq_some_iff.mp hx).1
              rw [List.length_map, wl] at this
              exact this
            obtain rfl : x = .int (itr (stepT tss) q t).1 := Option.some.inj (hx.symm.trans (iL_get (walkP_at hql)))
            obtain rfl : y = .int (itr (stepT tss) q t).2 := Option.some.inj (hy.symm.trans (walk_rot G ht hql))
            have eu : (orb (stepT tss) t)[q]? = some (itr (stepT tss) q t) := orb_at hql
            generalize itr (stepT tss) q t = u at eu hT ⊢
            have sT := Same.put (o := .tup [.int u.1, .int u.2]) hT
            have hc2 : (upd H9 T0 (.tup [.int u.1, .int u.2])) T0 = some (.tup [.int u.1, .int u.2]) := upd_same
            have pl10 := pl9.same sT
            have sub : ∀ v ∈ U2, v ∈ dartsL i ts := fun v hv => by
              rcases (hU2 v).mp hv with z | z
              · obtain ⟨j, y, _, j2, j3⟩ := (hU v).mp z
                exact G.sub (List.mem_of_getElem? j2) j3
              · exact G.sub ht (List.mem_of_mem_take z)
            have ll := pl10.nd.length_le_of_subset sub
            have l2 := pl10.len
            refine ⟨_, rfl, ⟨S, L2, rfl, pl10.at_⟩, _, rfl, S, T0, kOf u, L2, rfl, rfl, SqT.of hc2, pl10.at_, pl10.tupsAt, by omega, fun L' k1 k2 => ?_⟩
            obtain ⟨U', pl11, hU'⟩ := pl10.add hc2 k1 k2
            refine ⟨L', U', _, rfl, Same.write (s9.trans sT) S1, pl10.lst (sT _ _ e9), pl10.pairs (PairsAt.same sT n9), pl10.rows (f9.same sT), pl11, pl10.lst (sT _ _ d9), pl10.lst (sT _ _ r9), fun v => ?_⟩
            rw [hU' v, hU2 v, take_next eu, List.mem_append, List.mem_singleton, or_assoc]
          · rintro σ H9 ⟨L2, U2, v6, rfl, s9, e9, n9, f9, pl9, d9, r9, hU2⟩
            rw [List.take_of_length_le (by rw [orb_len, List.length_map, wl]; exact Nat.le_refl _)] at hU2
            refine ⟨as ++ [D6], L2, U2, _, _, _, rfl, s9, e9, n9, ?_, pl9, fun u => ?_⟩
            · rw [List.filter_append, show ([t].filter (headB (stepT tss))) = [t] by simp [hf], List.map_append]
              exact f9
            · rw [hU2 u, hU u]
              constructor
              · rintro (⟨q, y, i1, i2, i3⟩ | z)
                · exact ⟨q, y, by omega, i2, i3⟩
                · exact ⟨n, t, by omega, et, z⟩
              · rintro ⟨q, y, i1, i2, i3⟩
                rcases Nat.lt_or_ge q n with z | z
                · exact .inl ⟨q, y, z, i2, i3⟩
                · have ei : q = n := by omega
                  subst ei
                  cases Option.some.inj (i2.symm.trans et)
                  exact .inr i3
      · rintro σ H5 ⟨as, L, V0, v4, v5, v6, rfl, s5, e5, n5, f5, pl5, hU⟩
        rw [List.take_of_length_le (by omega)] at f5
        exact ⟨_, rfl, k H5 Fa as (s1.trans s5) f5⟩
end
end Fd
namespace Fd
open PySem PySem.Spec PyProof.Rows L2
/-! ### pairs sorted -/
def keyOf (H : Hp) : V → Tie
  | .ref a => match H a with
    | some (.tup [.int i, .int j]) => (i, j)
    | _ => (0, 0)
  | _ => (0, 0)
theorem keyOf_at {H : Hp} {v : V} {t : Tie} (h : PairAt H v t) : keyOf H v = t := by
  obtain ⟨a, rfl, k⟩ := h
  simp only [keyOf, k]
theorem keys_of {H : Hp} : ∀ {vs : List V} {ts : List Tie}, PairsAt H vs ts → vs.map (keyOf H) = ts
  | _, _, .nil => rfl
  | _, _, .cons r t => by rw [List.map_cons, keyOf_at r, keys_of t]
theorem at_key {H : Hp} {vs : List V} {ts : List Tie} (h : PairsAt H vs ts) : ∀ v ∈ vs, PairAt H v (keyOf H v) := fun v hv => by
  obtain ⟨i, hi⟩ := List.mem_iff_getElem?.mp hv
  obtain ⟨t, _, k⟩ := paired_get h hi
  rw [keyOf_at k]
  exact k
theorem all_keys {H : Hp} : ∀ {vs : List V}, (∀ v ∈ vs, PairAt H v (keyOf H v)) → PairsAt H vs (vs.map (keyOf H))
  | [], _ => .nil
  | v :: vs, h => .cons (h v List.mem_cons_self) (all_keys fun u hu => h u (List.mem_cons_of_mem _ hu))
theorem sorted_told {H : Hp} {m : Nat} {ts : List Tie} {us ys : List V} (g : Good m ts) (h : PairsAt H us (ts.map norm)) (h1 : SrtO.Srtd (ltP (keyOf H)) ys) (h2 : SrtO.Stb (ltP (keyOf H)) ys us) : PairsAt H ys (toldT m ts) := by
  have hp : (ys.map (keyOf H)).Perm (ts.map norm) := by
    have q := h2.perm.map (keyOf H)
    rw [keys_of h] at q
    exact q
  have hs : (ys.map (keyOf H)).Pairwise fun a b => ¬ lexT b a := by
    rw [List.pairwise_map]
    exact List.Pairwise.imp (fun {x y} e => SrtO.lexB_no.mp e) h1
  rw [← told_sorted g hp hs]
  exact all_keys fun v hv => at_key h v (h2.perm.mem_iff.mp hv)
end Fd
namespace Fd
open PySem PySem.Spec PyProof.Rows L2
theorem cut_len39 (xs : List V) {e : Int} (h0 : 0 ≤ e) (h1 : e ≤ 43) : (cutV xs (some 4) (some e)).length ≤ 39 := by
  unfold cutV
  rw [List.length_take]
  obtain ⟨k, rfl⟩ : ∃ k : Nat, e = k := ⟨e.toNat, by omega⟩
  have e1 : HT.sIx xs.length 0 (some 4) = min 4 xs.length := HT.sIx_nat _ _ 4
  have e2 : HT.sIx xs.length xs.length (some (k : Int)) = min k xs.length := HT.sIx_nat _ _ k
  rw [e1, e2]
  omega
section
variable {P : Program} {w : World} {K : PySem.W.Frag} {mg : Str → Option Value} {base : Heap} {C : Addr}
theorem scLTies : FnScope ["_law_script", "_law_many_here", "_law_made", "_law_most", "_law_cell", "_law_one", "_law_other"] ["_law_script", "_law_many_here"] (defScope sLawTies) := ⟨rfl, rfl, rfl, by decide +kernel, rfl, by decide +kernel, by decide +kernel⟩
theorem c_lties (T : WTxt K mg C) (L : LTxt K mg) (FT : Fn K mg "_law_ties" sLawTies ["_law_script", "_law_many_here"]) : C8.Cal P w K mg base 2 "_law_ties" (spLTies K) [] := by
  refine cal_of FT scLTies (fun vs H Q E h => ?_) (fun f cdv A outer s H vs Q E hr h => ?_)
  · obtain ⟨a, ns, m, rfl, _⟩ := h
    rfl
  · obtain ⟨a, ns, m, rfl, hS, m1, m16, k⟩ := h
    refine ⟨_, pss_cons (ps_set (i := 2) scLTies.nd rfl (Or.inl rfl) (pe_lst pa_nil))
      (pss_cons (ps_set (i := 3) scLTies.nd rfl (Or.inl rfl) (pe_op op_add (pe_op op_mod (C8.pe_c (c_cell T L) hr (by decide) (by rfl) (pa_cons (pv 0) (pa_cons pe_int pa_nil))) pe_int)
          (pe_op op_mul pe_int (pe_callTy call_int1 (by rfl) T.int (by decide +kernel) (pa_cons (pe_cmpR op_eq (pe_op op_mod (pe_op op_fdiv (C8.pe_c (c_cell T L) hr (by decide) (by rfl) (pa_cons (pv 0) (pa_cons pe_int pa_nil))) pe_int) pe_int) pe_int (nomark _)) pa_nil)))))
      (pss_cons (ps_for PassesOwn.never rfl (pi_list (pe_slice sl_list (pv 0) (po_some pe_int) (po_some (pe_op op_add pe_int (pv 3))))) (pg_name (i := 4) scLTies.nd rfl (Or.inl rfl))
        (pss_cons (ps_set (i := 5) scLTies.nd rfl (Or.inl rfl) (pe_op op_mod (pv 4) (pv 1)))
        (pss_cons (ps_set (i := 6) scLTies.nd rfl (Or.inl rfl) (pe_op op_mod (pe_op op_add (pe_op op_add (pv 5) pe_int)
            (pe_op op_mod (pe_op op_fdiv (pv 4) (pv 1)) (pe_callB (call_max2 rfl) (by rfl) L.max (by decide +kernel) (pa_cons pe_int (pa_cons (pe_op op_sub (pv 1) pe_int) pa_nil))))) (pv 1)))
        (pss_one (ps_if (PW.pt (pw_and (pt_cmpR op_ne (pv 5) (pv 6) (nomark _)) (pw_and (pt_cmpR (op_notInD (hu65 hr)) (pe_tup (pa_cons (pv 5) (pa_cons (pv 6) pa_nil))) (pv 2) (by rfl))
            (pw_and1 (pt_cmpR (op_notInD (hu65 hr)) (pe_tup (pa_cons (pv 6) (pa_cons (pv 5) pa_nil))) (pv 2) (by rfl))))))
          (pss_one (ps_expr (pe_bm PySem.F.plainAttrs_list PySem.F.slot_list_append PySem.F.type_list_append mt_append (pv 2) (pa_cons (pe_tup (pa_cons (pv 5) (pa_cons (pv 6) pa_nil))) pa_nil)))) pss_nil)))))
      (pss_one (ps_ret (pv 2))))), ?_⟩
    refine ⟨Nat.zero_le _, fun D hD => ?_⟩
    have s0 : Same H (upd H D (.lst [])) := Same.put hD
    have c0 := Int.emod_nonneg (cellAt ns 1) (show (17 : Int) ≠ 0 by decide)
    have c1 := Int.emod_lt_of_pos (cellAt ns 1) (show (0 : Int) < 17 by decide)
    have c23 : ∀ j : Int, CMul 23 j := fun j => .inl ⟨by decide, by decide⟩
    refine ⟨_, rfl, a, ns, 1, rfl, s0.seq hS, _, _, rfl, rfl, by show (0 : Int) < 17; decide, _, rfl, a, ns, 1, rfl, s0.seq hS, _, _, rfl, rfl, ⟨by decide, by decide⟩, _, _, rfl, rfl, by show (0 : Int) < 8; decide, rfl, .inr ⟨_, rfl, ?_⟩⟩
    generalize hbo : decide (V.int (cellAt ns 1 / 17 % 8) = V.int 7) = bo
    have b0 : (0 : Int) ≤ (if bo = true then 1 else 0) ∧ (if bo = true then (1 : Int) else 0) ≤ 1 := by cases bo <;> decide
    refine ⟨_, _, rfl, rfl, c23 _, _, _, rfl, rfl, ?_⟩
    try dsimp only
    obtain ⟨most, em0, mo0, mo39⟩ : ∃ most : Int, cellAt ns 1 % 17 + 23 * (if bo = true then 1 else 0) = most ∧ 0 ≤ most ∧ most ≤ 39 := ⟨_, rfl, by omega, by omega⟩
    obtain ⟨ms, em, _⟩ := cut_iL ns (some 4) (some (4 + most))
    have m40 : ms.length ≤ 39 := by
      have := cut_len39 (iL ns) (show 0 ≤ 4 + most by omega) (show 4 + most ≤ 43 by omega)
      rw [em, List.length_map] at this
      exact this
    rw [em0]
    refine ⟨_, rfl, 4, rfl, _, rfl, _, _, rfl, rfl, _, rfl, a, iL ns, rfl, s0.seq hS, fun p hp => ?_⟩
    rw [em]
    have pD : D ≠ p := ne_of_none upd_same hp
    refine ⟨p, rfl, ⟨_, SqL.of upd_same⟩, for_list (K := K) (a := p) (xs := iL ms) (fun i σ H2 => ∃ (v1 v2 v3 : Option V) (ws : List V) (ts : List Tie), σ = [some (.ref a), some (.int m), some (.ref D), some (.int most), v1, v2, v3] ∧
        H2 p = some (.lst (iL ms)) ∧ Same H H2 ∧ H2 D = some (.lst ws) ∧ PairsAt H2 ws ts ∧ Good m ts ∧ ts.length ≤ i)
      ⟨none, none, none, [], [], rfl, upd_same, Same.step s0 hp, by rw [upd_ne pD, upd_same], .nil, Good.nil m, Nat.le_refl _⟩ (fun i σ H2 _ ⟨_, _, _, _, _, _, h, _⟩ => SqL.of h) ?_ ?_⟩
    · rintro i x σ H2 hi ⟨v1, v2, v3, ws, ts, rfl, hp2, s2, hD2, hw, g, hl⟩
      obtain ⟨z, hz, rfl⟩ := iL_at hi
      have hi40 : i < 40 := by
        have := (List.getElem?_eq_some_iff.mp hz).1
        omega
      have m0 : (0 : Int) < (m : Int) := by omega
      have x0 : (0 : Int) < (if ((m : Int) - 1) > 1 then ((m : Int) - 1) else 1) := by
        split <;> omega
      -- one = cell % many; other = ..
      refine ⟨_, rfl, _, rfl, _, _, rfl, rfl, m0, ?_⟩
      refine ⟨_, rfl, _, _, rfl, rfl, _, rfl, _, rfl, _, _, rfl, rfl, ⟨m0, by omega⟩, _, rfl, _, _, rfl, rfl, _, _, rfl, _, _, rfl, rfl, x0, _, _, rfl, rfl, _, rfl, _, _, rfl, rfl, m0, ?_⟩
      dsimp only
      generalize ho : z % (m : Int) = o
      generalize hq : (o + 1 + z / (m : Int) % (if ((m : Int) - 1) > 1 then ((m : Int) - 1) else 1)) % (m : Int) = q
      have o0 : 0 ≤ o := by rw [← ho]; exact Int.emod_nonneg _ (by omega)
      have o1 : o < m := by rw [← ho]; exact Int.emod_lt_of_pos _ m0
      have q0 : 0 ≤ q := by rw [← hq]; exact Int.emod_nonneg _ (by omega)
      have q1 : q < m := by rw [← hq]; exact Int.emod_lt_of_pos _ m0
      -- if one != other and (one, other) not in made and (other, one) not in made
      refine ⟨_, rfl, _, rfl, rfl, _, rfl, ?_⟩
      have stay : ∀ H3, Same H2 H3 → ∃ (v1 v2 v3 : Option V) (ws : List V) (ts : List Tie), [some (V.ref a), some (.int m), some (.ref D), some (.int most), some (.int z), some (.int o), some (.int q)] = [some (V.ref a), some (.int m), some (.ref D), some (.int most), v1, v2, v3] ∧
          H3 p = some (.lst (iL ms)) ∧ Same H H3 ∧ H3 D = some (.lst ws) ∧ PairsAt H3 ws ts ∧ Good m ts ∧ ts.length ≤ i + 1 := fun H3 s3 =>
        ⟨_, _, _, ws, ts, rfl, s3 _ _ hp2, s2.trans s3, s3 _ _ hD2, hw.same s3, g, by omega⟩
      by_cases c1 : o = q
      · refine no_ (by rw [decide_eq_true (by rw [c1])]; rfl) ?_
        refine iteF ?_
        exact stay H2 (Same.refl _)
      · refine yep_ (by rw [decide_eq_false (fun e => c1 (V.int.inj e))]; rfl) ?_
        refine ⟨_, rfl, _, rfl, by show 2 ≤ sizeLine; decide, fun t ht => ?_⟩
        have s3 : Same H2 (upd H2 t (.tup [.int o, .int q])) := Same.put ht
        refine ⟨_, rfl, prd (o, q), ts.map prd, dp_pair ⟨t, rfl, upd_same⟩, dp_pairs (SqL.of (s3 _ _ hD2)) (hw.same s3), prd_shaped _, prds_shaped _, _, rfl, ?_⟩
        rw [prds_any]
        by_cases c2 : (o, q) ∈ ts
        · refine no_ (by rw [decide_eq_true c2]; rfl) ?_
          refine iteF ?_
          exact stay _ s3
        · refine yep_ (by rw [decide_eq_false c2]; rfl) ?_
          refine ⟨_, rfl, _, rfl, by show 2 ≤ sizeLine; decide, fun t' ht' => ?_⟩
          have s4 : Same H2 (upd (upd H2 t (.tup [.int o, .int q])) t' (.tup [.int q, .int o])) := Same.step s3 ht'
          refine ⟨_, rfl, prd (q, o), ts.map prd, dp_pair ⟨t', rfl, upd_same⟩, dp_pairs (SqL.of (s4 _ _ hD2)) (hw.same s4), prd_shaped _, prds_shaped _, _, rfl, ?_⟩
          rw [prds_any]
          by_cases c3 : (q, o) ∈ ts
          · refine no_ (by rw [decide_eq_true c3]; rfl) ?_
            exact stay _ s4
          · refine yep_ (by rw [decide_eq_false c3]; rfl) ?_
            -- made.append((one, other))
            refine ⟨_, rfl, .inl ⟨rfl, _, SqL.of (s4 _ _ hD2)⟩, _, rfl, _, rfl, by show 2 ≤ sizeLine; decide, fun u hu => ?_⟩
            have s5 := Same.put (o := .tup [.int o, .int q]) hu
            have hD5 := s5 _ _ (s4 _ _ hD2)
            refine ⟨D, _, _, rfl, rfl, hD5, by rw [hw.length]; exact small (by omega), ?_⟩
            have q5 := PairsAt.more (o := o) (q := q) (s4 _ _ hD2) (hw.same s4) hu
            refine ⟨_, _, _, _, ts ++ [(o, q)], rfl, ?_, Same.write (s2.trans (s4.trans s5)) hD, upd_same, q5, Good.snoc g ⟨o0, o1, q0, q1, c1⟩ c2 c3, by rw [List.length_append, List.length_singleton]; omega⟩
            rw [upd_ne pD.symm]
            exact s5 _ _ (s4 _ _ hp2)
    · rintro σ H2 ⟨v1, v2, v3, ws, ts, rfl, hp2, s2, hD2, hw, g, hl⟩
      rw [List.length_map] at hl
      exact ⟨_, rfl, k H2 D ws ts s2 hD hD2 hw g (by omega)⟩
end
end Fd
namespace Fd
open PySem PySem.Spec PyProof.Rows L2
/-! ### lists of lists of ints as data -/
def rowD (r : List Int) : PyData := .list (r.map PyData.int)
def lstD (rss : List (List Int)) : PyData := .list (rss.map rowD)
theorem rows_lay : ∀ rss : List (List Int), PyData.canLayAll0 (rss.map rowD) = true
  | [] => by simp [PyData.canLayAll0]
  | r :: rss => by
    have h : (rowD r).canLay0 = true := by simp only [rowD, PyData.canLay0]; exact inl_lay r
    simp [PyData.canLayAll0, h, rows_lay rss]
theorem rows_depth : ∀ rss : List (List Int), PyData.depthAll (rss.map rowD) ≤ 1
  | [] => by simp [PyData.depthAll]
  | r :: rss => by
    have h1 := rows_depth rss
    have h2 : (rowD r).depth = 1 := by simp only [rowD, PyData.depth, inl_depth]
    simp only [List.map_cons, PyData.depthAll]
    omega
theorem lstD_shaped (rss : List (List Int)) : SeqAt.shaped (lstD rss) = true := by
  have h := rows_depth rss
  refine shaped_by (by simp only [lstD, PyData.canLay0]; exact rows_lay rss) ?_
  simp only [lstD, PyData.depth]
  omega
theorem lstD_refl (rss : List (List Int)) : PyData.eqv (lstD rss) (lstD rss) = true := SeqAt.eqv_refl _ (SeqAt.canLay_of_shaped (lstD_shaped rss))
def RowIs (H : Hp) (a : Addr) (r : List Int) : Prop := H a = some (.lst (iL r))
structure ListsAt (H : Hp) (D : Addr) (rss : List (List Int)) : Prop where
  ex : ∃ as : List Addr, H D = some (.lst (as.map V.ref)) ∧ Paired (RowIs H) as rss
theorem ListsAt.same {H H' : Hp} {D : Addr} {rss : List (List Int)} (h : ListsAt H D rss) (s : Same H H') : ListsAt H' D rss := by
  obtain ⟨as, h1, h2⟩ := h.ex
  exact ⟨as, s _ _ h1, Paired.mono (fun a r e => s _ _ e) h2⟩
theorem paired_of {α β : Type} {F : α → β → Prop} : ∀ {xs : List α} {ys : List β}, xs.length = ys.length → (∀ (i : Nat) (a : α) (b : β), xs[i]? = some a → ys[i]? = some b → F a b) → Paired F xs ys
  | [], [], _, _ => .nil
  | [], _ :: _, h, _ => by simp at h
  | _ :: _, [], h, _ => by simp at h
  | a :: xs, b :: ys, h, k => .cons (k 0 a b rfl rfl) (paired_of (by simpa using h) fun i x y e1 e2 => k (i + 1) x y (by simpa using e1) (by simpa using e2))
theorem RowsAt.lists {H0 H : Hp} {R : Addr} {as : List Addr} {rss : List (List Int)} (h : RowsAt H0 H R as rss) : ListsAt H R rss := ⟨as, h.top, paired_of h.len fun i a r e1 e2 => (h.row i a r e1 e2).2⟩
theorem dp_row {K : PySem.W.Frag} {H : Hp} {a : Addr} {r : List Int} (h : RowIs H a r) : Dp K H (.ref a) (rowD r) := dp_ints (SqL.of h)
theorem dp_rows {K : PySem.W.Frag} {H : Hp} : ∀ {as : List Addr} {rss : List (List Int)}, Paired (RowIs H) as rss → DpAll K H (as.map V.ref) (rss.map rowD)
  | _, _, .nil => .nil
  | _, _, .cons r t => .cons (dp_row r) (dp_rows t)
theorem dp_lists {K : PySem.W.Frag} {H : Hp} {D : Addr} {rss : List (List Int)} (h : ListsAt H D rss) : Dp K H (.ref D) (lstD rss) := by
  obtain ⟨as, h1, h2⟩ := h.ex
  exact .lst (SqL.of h1) (dp_rows h2)
/-- a new row is put behind the others -/
theorem rows_more {H : Hp} {D q : Addr} {as : List Addr} {rss : List (List Int)} {r : List Int} (d : H D = some (.lst (as.map V.ref))) (h : Paired (RowIs H) as rss) (hq : RowIs H q r) (n : ∀ a ∈ q :: as, a ≠ D) :
    ListsAt (upd H D (.lst (as.map V.ref ++ [.ref q]))) D (rss ++ [r]) := by
  refine ⟨as ++ [q], by rw [upd_same, List.map_append]; rfl, Paired.snoc ?_ ?_⟩
  · refine paired_of h.length fun i a r' e1 e2 => ?_
    obtain ⟨r'', e3, k⟩ := paired_get h e1
    cases Option.some.inj (e2.symm.trans e3)
    show upd H D _ a = _
    rw [upd_ne (n a (List.mem_cons_of_mem _ (List.mem_of_getElem? e1)))]
    exact k
  · show upd H D _ q = _
    rw [upd_ne (n q List.mem_cons_self)]
    exact hq
theorem RowsAt.more' {H0 H H' : Hp} {R q : Addr} {as : List Addr} {rss : List (List Int)} {r : List Int} (h : RowsAt H0 H R as rss) (s : Same H0 H) (s' : Same H H') (hq : H q = none) (d : H' q = some (.lst (iL r))) :
    RowsAt H0 (upd H' R (.lst (as.map V.ref ++ [.ref q]))) R (as ++ [q]) (rss ++ [r]) := by
  have Rq : R ≠ q := ne_of_none h.top hq
  have h2 := h.same s'
  have qas : q ∉ as := fun hm => by
    obtain ⟨j, hj⟩ := List.mem_iff_getElem?.mp hm
    have hj2 : j < rss.length := by
      rw [← h.len]
      exact (List.getElem?_eq_some_iff.mp hj).1
    have z := (h.row j q _ hj (List.getElem?_eq_getElem hj2)).2
    rw [hq] at z
    cases z
  refine ⟨by rw [upd_same, List.map_append]; rfl, h.new, by simp [h.len], List.nodup_append.mpr ⟨h.nd, by simp, fun x hx y hy e => ?_⟩, fun hm => ?_, fun j a z e1 e2 => ?_⟩
  · rw [List.mem_singleton.mp hy] at e
    exact qas (e ▸ hx)
  · rcases List.mem_append.mp hm with c | c
    · exact h.out c
    · exact Rq (List.mem_singleton.mp c)
  · by_cases hj : j < as.length
    · rw [List.getElem?_append_left hj] at e1
      rw [List.getElem?_append_left (by rw [← h.len]; exact hj)] at e2
      obtain ⟨k1, k2⟩ := h2.row j a z e1 e2
      have aR : a ≠ R := fun e => h.out (e ▸ List.mem_of_getElem? e1)
      exact ⟨k1, by rw [upd_ne aR]; exact k2⟩
    · have hj' : as.length ≤ j := Nat.le_of_not_lt hj
      rw [List.getElem?_append_right hj'] at e1
      rw [List.getElem?_append_right (by rw [← h.len]; exact hj')] at e2
      obtain ⟨_, e1b⟩ := List.getElem?_eq_some_iff.mp e1
      obtain ⟨_, e2b⟩ := List.getElem?_eq_some_iff.mp e2
      simp only [List.getElem_singleton] at e1b e2b
      subst e1b
      subst e2b
      exact ⟨s.free hq, by rw [upd_ne Rq.symm]; exact d⟩
theorem row_empty (r : List Int) : PyData.eqv (rowD r) (.list []) = decide (r = []) := by
  cases r with
  | nil => rfl
  | cons x r =>
    simp only [rowD, List.map_cons, PyData.eqv, PyData.eqvAll]
    rfl
end Fd
namespace Fd
open PySem PySem.Spec PyProof.Rows L2
def spStays (C : Addr) : Sp := fun vs H Q _ => ∃ (H0 : Hp) (p a : Addr) (m : Nat) (ws : List V) (ts : List Tie), vs = [.ref p, .ref a, .int m] ∧ WebAt C H0 H p m ts ∧ H a = some (.lst ws) ∧ PairsAt H ws ts ∧ Good m ts ∧ m ≤ 16 ∧ ts.length ≤ 40 ∧
  ∀ H', Same H H' → Q (.bl true) H'
section
variable {P : Program} {w : World} {K : PySem.W.Frag} {mg : Str → Option Value} {base : Heap} {C : Addr}
abbrev nStays : List Str := ["_law_web", "_law_ties_here", "_law_many_here", "_law_point", "_law_tie"]
theorem scStays : FnScope nStays ["_law_web", "_law_ties_here", "_law_many_here"] (defScope sLawStays) := ⟨rfl, rfl, rfl, by decide +kernel, rfl, by decide +kernel, by decide +kernel⟩
theorem c_stays (T : WTxt K mg C) (U : TTxt K mg C) (L : LTxt K mg) (FT : FnM K C "ties" "Web.ties" sWebTies ["self"]) (FS : Fn K mg "_law_stays" sLawStays ["_law_web", "_law_ties_here", "_law_many_here"]) : C8.Cal P w K mg base 5 "_law_stays" (spStays C) [] := by
  refine cal_of FS scStays (fun vs H Q E h => ?_) (fun f cdv A outer s H vs Q E hr h => ?_)
  · obtain ⟨H0, p, a, m, ws, ts, rfl, _⟩ := h
    rfl
  · obtain ⟨H0, p, a, m, ws, ts, rfl, W, ha, hw, g, m16, tl, k⟩ := h
    have hun : (A.deeper (envOfC "_law_stays" (defScope sLawStays) s.heap.objs.size f cdv)).units + 64 < cLine := by
      have := hr.un
      omega
    refine ⟨_, pss_cons (ps_if (pt_cmpR (op_neD hun) (C8.pe_mt0 (c_ties T FT) hr (by decide) (pv 0)) (pe_callB (id := "sorted") (r := rSortedPO K) cr_sortedPO (by rfl) T.sorted (by decide +kernel) (pa_cons
        (pe_lc (own := [("_law_tie", 4)]) (g := gName 4) (tt := tYes) (te := tTup (tCons (tCB (rPr min K) (tCons (tVar 4) tNil)) (tCons (tCB (rPr max K) (tCons (tVar 4) tNil)) tNil))) (by rfl) scStays.nd (pi_list (pv 1))
          (blkOk_by (own := [("_law_tie", 4)]) (N := nStays) (sc := defScope sLawStays) (by decide +kernel)) (fun _ _ _ _ _ => pg_name (i := 4) scStays.nd rfl (Or.inl rfl)) (fun _ _ _ _ _ => pts_nil)
          (fun _ _ _ _ _ => pe_tup (pa_cons (pe_callB (id := "min") (r := rPr min K) (cr_minPr rfl hun) (by rfl) L.min (by decide +kernel) (pa_cons (pv 4) pa_nil)) (pa_cons (pe_callB (id := "max") (r := rPr max K) (cr_maxPr rfl hun) (by rfl) L.max (by decide +kernel) (pa_cons (pv 4) pa_nil)) pa_nil)))) pa_nil)) (nomark _)) (pss_one (ps_ret pe_bl)) pss_nil)
      (pss_cons (ps_for PassesOwn.never rfl (pi_range1 (by rfl) T.range (pa_cons (pv 2) pa_nil)) (pg_name (i := 3) scStays.nd rfl (Or.inr rfl))
        (pss_one (ps_if (pt_cmpR (op_neD hun) (C8.pe_mt (c_beside T U.fC U.fB) hr (by decide) (pv 0) (pa_cons (pv 3) pa_nil)) (pe_callB (id := "sorted") (r := rSortedI K) cr_sortedI (by rfl) T.sorted (by decide +kernel) (pa_cons
          (pe_lc (own := [("_law_tie", 4)]) (g := gName 4) (tt := tTest (tOp (rIn K false) (tVar 3) (tVar 4))) (te := tOp (rI0 fun i j => .int (i - j)) (tOp (rI0 fun i j => .int (i + j)) (tOp (rIxT K) (tVar 4) (tC (.int 0))) (tOp (rIxT K) (tVar 4) (tC (.int 1)))) (tVar 3)) (by rfl) scStays.nd (pi_list (pv 1))
            (blkOk_by (own := [("_law_tie", 4)]) (N := nStays) (sc := defScope sLawStays) (by decide +kernel)) (fun _ _ _ _ _ => pg_name (i := 4) scStays.nd rfl (Or.inl rfl)) (fun _ _ _ _ _ => pts_one (pt_cmpR op_in_seq (pv 3) (pv 4) (by rfl)))
            (fun _ _ _ _ _ => pe_op op_sub (pe_op op_add (pe_ix ix_tup (pv 4) pe_int (fun _ _ => rfl)) (pe_ix ix_tup (pv 4) pe_int (fun _ _ => rfl))) (pv 3))) pa_nil)) (nomark _)) (pss_one (ps_ret pe_bl)) pss_nil)))
      (pss_one (ps_ret pe_bl))), ?_⟩
    obtain ⟨p0, dx, R, as, hp, r⟩ := id W
    have nTies : (wF m R).lookup ("ties" : Str) = none := wF_no _ _ (by decide +kernel) (by decide +kernel)
    have nBes : (wF m R).lookup ("beside" : Str) = none := wF_no _ _ (by decide +kernel) (by decide +kernel)
    refine ⟨_, rfl, p, dx, _, rfl, hp, nTies, H0, p, m, ts, rfl, W, g, m16, fun H3 D3 w3 s3 d3 e3 p3 => ?_⟩
    refine ⟨_, rfl, a, rfl, ⟨_, SqL.of (s3 _ _ ha)⟩, fun D hD => ?_⟩
    refine lc_list (K := K) (a := a) (xs := ws) (fun i H1 => Same H3 H1 ∧ ∃ us, H1 D = some (.lst us) ∧ PairsAt H1 us ((ts.take i).map norm)) ⟨Same.put hD, [], upd_same, .nil⟩ (fun i H1 _ ⟨s1, _⟩ => SqL.of (s1 _ _ (s3 _ _ ha))) (fun i x H1 hi ⟨s1, us, hd, hu⟩ => ?_) (fun H1 ⟨s1, us, hd, hu⟩ => ?_)
    · obtain ⟨t, et, pt⟩ := paired_get hw hi
      obtain ⟨c, rfl, hc⟩ := PairAt.same (s3.trans s1) pt
      have hil : i < ts.length := (List.getElem?_eq_some_iff.mp et).1
      refine ⟨rfl, ?_⟩
      refine yes_ ?_
      refine iteT ?_
      refine ⟨_, rfl, c, t.1, t.2, rfl, SqT.of hc, _, rfl, c, t.1, t.2, rfl, SqT.of hc, by show 2 ≤ sizeLine; decide, fun q hq => ?_⟩
      have qD : D ≠ q := ne_of_none hd hq
      refine ⟨us, by rw [upd_ne qD]; exact hd, ?_, Same.write (Same.step s1 hq) hD, _, upd_same, ?_⟩
      · rw [hu.length, List.length_map, List.length_take]
        exact small (by omega)
      · rw [take_next et, List.map_append]
        exact PairsAt.more (o := min t.1 t.2) (q := max t.1 t.2) hd hu hq
    · have el : ts.take ws.length = ts := by
        rw [hw.length]
        exact List.take_length
      rw [el] at hu
      refine ⟨D, us, keyOf H1, rfl, SqL.of hd, fun x hx => ?_, fun ys q hs1 hs2 hq => ?_⟩
      · obtain ⟨b, e, hb⟩ := at_key hu x hx
        exact ⟨b, e, hb⟩
      · have hy := sorted_told g hu hs1 hs2
        have s4 : Same H3 (upd H1 q (.lst ys)) := Same.step s1 hq
        have hyq := hy.same (Same.put (o := .lst ys) hq)
        refine ⟨.list ((toldT m ts).map prd), .list ((toldT m ts).map prd), dp_pairs (SqL.of (s4 _ _ e3)) (p3.same s4), dp_pairs (SqL.of upd_same) hyq, prds_shaped _, prds_shaped _, _, rfl, ?_⟩
        refine no_ (by rw [prds_refl]; rfl) ?_
        have s2 : Same H (upd H1 q (.lst ys)) := s3.trans s4
        generalize upd H1 q (.lst ys) = H2 at s2 ⊢
        clear hyq hy hs1 hs2
        refine ⟨_, rfl, (m : Int), rfl, by omega, by omega, for_range (lo := 0) (n := (m : Int).toNat) (fun i σ H4 => Same H H4 ∧ ∃ v3 : Option V, σ = [some (.ref p), some (.ref a), some (.int m), v3, none])
          ⟨s2, none, rfl⟩ ?_ ?_⟩
        · rintro i σ H4 hi ⟨s4, v3, rfl⟩
          rw [Int.toNat_natCast] at hi
          rw [Int.zero_add]
          dsimp only [tNext, gName, tSeq, tAsg]
          refine ⟨_, rfl, p, dx, _, rfl, s4 _ _ hp, nBes, _, rfl, H0, p, m, ts, i, rfl, W.same s4, hi, fun D6 hD6 => ?_⟩
          have s6 := s4.trans (Same.put (o := .lst (iL (rowOf m ts i))) hD6)
          have d6 : (upd H4 D6 (.lst (iL (rowOf m ts i)))) D6 = some (.lst (iL (rowOf m ts i))) := upd_same
          generalize upd H4 D6 (.lst (iL (rowOf m ts i))) = H6 at s6 d6 ⊢
          refine ⟨_, rfl, a, rfl, ⟨_, SqL.of (s6 _ _ ha)⟩, fun D7 hD7 => ?_⟩
          refine lc_list (K := K) (a := a) (xs := ws) (fun j H2 => Same H6 H2 ∧ H2 D7 = some (.lst (iL (nb (ts.take j) (i : Int))))) ⟨Same.put hD7, by rw [upd_same, List.take_zero]; rfl⟩ (fun j H2 _ ⟨s2, _⟩ => SqL.of (s2 _ _ (s6 _ _ ha))) (fun j x H2 hj ⟨s2, d2⟩ => ?_) (fun H2 ⟨s2, d2⟩ => ?_)
          · obtain ⟨t, ht, b, rfl, hb⟩ := paired_get (hw.same (s6.trans s2)) hj
            have ne := (g.rng t (List.mem_of_getElem? ht)).2.2.2.2
            refine ⟨rfl, ?_⟩
            refine ⟨_, rfl, _, rfl, b, iL [t.1, t.2], rfl, .inr (SqT.of hb), rfl, flat_ints _, _, rfl, ?_⟩
            have ein := inV_ints [t.1, t.2] (i : Int)
            rw [ein, nb_next _ ht ne]
            have nl := nb_len (ts.take j) (i : Int)
            rw [List.length_take] at nl
            by_cases c : (i : Int) = t.1 ∨ (i : Int) = t.2
            · refine yep_ (decide_eq_true (by simpa using c)) ?_
              rw [if_pos c]
              refine ⟨_, rfl, b, _, 0, .int t.1, rfl, rfl, SqT.of hb, rfl, _, rfl, b, _, 1, .int t.2, rfl, rfl, SqT.of hb, rfl, _, _, rfl, rfl, _, rfl, _, _, rfl, rfl, ?_⟩
              refine ⟨_, d2, by rw [List.length_map]; exact small (by omega), Same.write s2 hD7, ?_⟩
              rw [upd_same]
              unfold iL
              rw [List.map_append]
              rfl
            · refine no_ (decide_eq_false (by simpa using c)) ?_
              rw [if_neg c, List.append_nil]
              exact ⟨s2, d2⟩
          · have et : ts.take ws.length = ts := by rw [hw.length]; exact List.take_length
            rw [et] at d2
            refine ⟨D7, nb ts (i : Int), rfl, SqL.of d2, fun js q hp1 ho hq => ?_⟩
            obtain rfl := row_sorted g hp1 ho
            have s7 := s2.trans (Same.put (o := .lst ((rowOf m ts i).map V.int)) hq)
            refine ⟨.list ((rowOf m ts i).map PyData.int), .list ((rowOf m ts i).map PyData.int), dp_ints (SqL.of (s7 _ _ d6)), dp_ints (SqL.of upd_same), inl_shaped _, inl_shaped _, _, rfl, ?_⟩
            refine no_ (by rw [ints_eqv, decide_eq_true rfl]; rfl) ?_
            exact ⟨s6.trans s7, _, rfl⟩
        · rintro σ H4 ⟨s4, v3, rfl⟩
          exact k H4 s4
end
end Fd
namespace Fd
open PySem PySem.Spec PyProof.Rows L2 LamX
/-! ### min(xs, key=f), f a def that keeps all objects and tells a whole number -/
def Kp (h h' : Heap) : Prop := ∀ b o, h.get? b = some o → h'.get? b = some o
theorem Kp.trans {h h1 h2 : Heap} (a : Kp h h1) (b : Kp h1 h2) : Kp h h2 := fun c o e => b c o (a c o e)
theorem Kp.but {h h1 h2 : Heap} {x : Addr} (a : Kp h h1) (n : h.get? x = none) (b : ∀ c o, c ∉ [x] → h1.get? c = some o → h2.get? c = some o) : Kp h h2 := fun c o e =>
  b c o (fun z => by rw [List.mem_singleton.mp z, n] at e; cases e) (a c o e)
theorem Kp.same {h h1 h2 : Heap} {x : Addr} (a : Kp h h1) (n : h.get? x = none) (b : Heap.SameBut x h1 h2) : Kp h h2 := fun c o e => by
  have ne : c ≠ x := fun z => by rw [z, n] at e; cases e
  rw [b.2 c ne]
  exact a c o e
section
variable {P : Program} {w : World} {A : Around} {E : Value → Shared → Prop} {s : Shared} {l q I S : Addr} {vs : List Value} {R : Result → Shared → Prop}
abbrev KeyEnd (s : Shared) (h : Heap) (k : Int) : Value → Shared → Prop := fun x s2 => ∃ (h2 : Heap) (tk2 : Nat) (t2 : Tok), x = .int k t2 ∧ s2 = { s with heap := h2, toks := tk2 } ∧ Kp h h2
abbrev Least (kf : Nat → Int) (n i : Nat) : Prop := ∀ j, j < n → kf i ≤ kf j ∧ (j < i → kf i < kf j)
theorem mk_nm : (toString "min" ++ toString ".loop" : String) = "min.loop" := by decide
theorem mk_in {a : Args} (h : wpAny (model P w) A.in1 (Builtin.«min.loop» a) (fun fin s2 => match fin with
      | Fin.done f => R (.ok f) s2
      | Fin.again c2 => c2.quiet = true ∧ codeAny (model P w) A c2 R s2) (fun e s2 => R (.error e) s2) s) : codeAny (model P w) A (.builtin "min.loop" a) R s := codeAny_builtin PySem.F.entry_min_loop (by rw [Around.under_plainId PySem.F.plain_min_loop _]; exact h)
theorem mk_turns (kf : Nat → Int) (hh : A.handled = none) (hl : ∀ h, Kp s.heap h → h.IsList l vs.toArray) (nI : s.heap.get? I = none) (nS : s.heap.get? S = none) (hSI : S ≠ I) (hlI : l ≠ I)
    (turn : ∀ (i : Nat) (v : Value), vs[i]? = some v → ∀ (h : Heap) (tk : Nat), Kp s.heap h → wpAny (model P w) A.in1 (call (.ref q) [v]) (KeyEnd s h (kf i)) (fun _ _ => False) { s with heap := h, toks := tk })
    (hR : ∀ i v h' tk', vs[i]? = some v → Least kf vs.length i → Kp s.heap h' → R (.ok (.ret v)) { s with heap := h', toks := tk' }) :
    ∀ (r j i : Nat) (h : Heap) (tk : Nat) (vb : Value) (tb : Tok) (c : Nat), vs.length - (j + 1) = r → j + 1 ≤ vs.length → Kp s.heap h → h.get? S = some (seqObj "list" #[vb, .int (kf i) tb] c) → h.IsListIter I l (j + 1) → vs[i]? = some vb → i ≤ j →
      Least kf (j + 1) i → codeAny (model P w) A (.builtin "min.loop" ⟨[.ref I, .ref q, .ref S], []⟩) R { s with heap := h, toks := tk } := by
  have W := Walks.list (prog := P) (w := w) (A := A.in1) hh I l hlI vs.toArray
  have hsz : vs.toArray.size = vs.length := by simp
  intro r
  induction r with
  | zero =>
    intro j i h tk vb tb c hr hj F gS hit hvb hij best
    have hin : j + 1 = vs.length := by omega
    refine mk_in ?_
    show wpAny _ A.in1 (seqItems? (.ref S) >>= _) _ _ _; refine wpAny_bind (wpAny_seqItems gS rfl ?_)
    show wpAny _ A.in1 (tryCatch (pyNext (.ref I)) _ >>= _) _ _ _; refine wpAny_bind (wpAny_tryCatch (W.done _ _ _ ⟨by rw [hsz, ← hin]; exact hit, hl h F⟩ fun h' tk' hk' => ?_))
    have F1 := F.but nI hk'
    have gS' := hk' S _ (by simpa using hSI) gS
    show wpAny _ A.in1 (updateSeq S (fun _ => #[]) >>= _) _ _ _; refine wpAny_bind (wpAny_updateSeq gS' rfl (wpAny_bind (wpAny_letGo (wpAny_pure ?_))))
    exact hR i vb _ _ hvb (fun j' hj' => best j' (by omega)) (F1.same nS (Heap.SameBut.update h' S _))
  | succ r ih =>
    intro j i h tk vb tb c hr hj F gS hit hvb hij best
    have hlt : j + 1 < vs.length := by omega
    refine mk_in ?_
    show wpAny _ A.in1 (seqItems? (.ref S) >>= _) _ _ _; refine wpAny_bind (wpAny_seqItems gS rfl ?_)
    show wpAny _ A.in1 (tryCatch (pyNext (.ref I)) _ >>= _) _ _ _; refine wpAny_bind (wpAny_tryCatch (W.item (j + 1) _ _ _ (by rw [hsz]; exact hlt) ⟨hit, hl h F⟩ fun v h' tk' hP hst' hk' => ?_))
    have hv : vs[j + 1]? = some v := by simpa using hP
    obtain ⟨oI, hoI, hoc, hod⟩ := id hst'.1
    have F1 := F.but nI hk'
    have gS1 := hk' S _ (by simpa using hSI) gS
    show wpAny _ A.in1 (tryCatch (holding [v] (call (.ref q) [v])) _ >>= _) _ _ _; refine wpAny_bind (wpAny_tryCatch (wpAny_holding (wpAny_mono (turn (j + 1) v hv h' tk' F1) (fun x s2 he => ?_) fun _ _ z => z.elim)))
    obtain ⟨h2, tk2, t2, rfl, rfl, K2⟩ := he
    have F2 := F1.trans K2
    have gS2 := K2 _ _ gS1
    have gI2 := K2 _ _ hoI
    show wpAny _ A.in1 (tryCatch (holding [v, .int (kf (j + 1)) t2] (richCompare .Lt (.int (kf (j + 1)) t2) (.int (kf i) tb) >>= _)) _ >>= _) _ _ _
    refine wpAny_bind (wpAny_tryCatch (wpAny_holding (wpAny_bind (CmpOf.ints_lt (prog := P) (w := w) (A := A.in1) (P := fun i v => ∃ t, v = .int (kf i) t) kf (fun i v h => h) (j + 1) i _ _ _ _ _ ⟨t2, rfl⟩ ⟨tb, rfl⟩ ?_)))); refine wpAny_bind (wpAny_holding (wpAny_truthy_bool ?_))
    refine wpAny_bind (wpAny_letGo (wpAny_pure ?_)); by_cases lt : kf (j + 1) < kf i
    · have s1 := Heap.SameBut.update h2 S (Obj.mapSeq fun _ => #[v, .int (kf (j + 1)) t2])
      obtain ⟨c2, hc2⟩ : ∃ c2, (h2.update S (Obj.mapSeq fun _ => #[v, .int (kf (j + 1)) t2])).get? S = some (seqObj "list" #[v, .int (kf (j + 1)) t2] c2) := ⟨_, get?_update_seq gS2 fun _ => #[v, .int (kf (j + 1)) t2]⟩
      simp only [lt, decide_true, if_true]; refine wpAny_bind (wpAny_updateSeq gS2 rfl (wpAny_bind (wpAny_letGo ?_)))
      rw [mk_nm]
      exact wpAny_pure ⟨plainId_quiet PySem.F.plain_min_loop _, ih (j + 1) (j + 1) _ _ v t2 c2 (by omega) hlt (F2.same nS s1) hc2 ⟨oI, (s1.2 I hSI.symm).trans gI2, hoc, hod⟩ hv (Nat.le_refl _) fun j' hj' => by
        by_cases e : j' = j + 1
        · subst e
          exact ⟨Int.le_refl _, fun z => absurd z (Nat.lt_irrefl _)⟩
        · have b1 := (best j' (by omega)).1
          exact ⟨by omega, fun _ => by omega⟩⟩
    · simp only [lt, decide_false, Bool.false_eq_true, if_false]; refine wpAny_bind (wpAny_letGo ?_)
      rw [mk_nm]
      exact wpAny_pure ⟨plainId_quiet PySem.F.plain_min_loop _, ih (j + 1) i _ _ vb tb c (by omega) hlt F2 gS2 ⟨oI, gI2, hoc, hod⟩ hvb (by omega) fun j' hj' => by
        by_cases e : j' = j + 1
        · subst e
          exact ⟨by omega, fun z => by omega⟩
        · exact best j' (by omega)⟩
theorem mk_min {Q : Value → Shared → Prop} (kf : Nat → Int) (hh : A.handled = none) (hl : ∀ h, Kp s.heap h → h.IsList l vs.toArray) (hne : 0 < vs.length)
    (turn : ∀ (i : Nat) (v : Value), vs[i]? = some v → ∀ (h : Heap) (tk : Nat), Kp s.heap h → wpAny (model P w) A.in1 (call (.ref q) [v]) (KeyEnd s h (kf i)) (fun _ _ => False) { s with heap := h, toks := tk })
    (hQ : ∀ i v h' tk', vs[i]? = some v → Least kf vs.length i → Kp s.heap h' → Q v { s with heap := h', toks := tk' }) : wpAny (model P w) A (call (.builtin "min") [.ref l] [(Str.ofString "key", .ref q)]) Q E s := by
  have hls := hl _ fun _ _ e => e
  obtain ⟨ol, hol, _⟩ := id hls
  have hll : l < s.heap.objs.size := Heap.lt_size hol
  refine kmk_tree PySem.F.kind_min PySem.F.plain_min PySem.F.entry_min (kmk_min_key _ _) ?_
  show wpAny _ A.in1 (Builtin.Builtins.bindParams "min" ["key", "default"] 0 ⟨[], [(Str.ofString "key", .ref q)]⟩ >>= _) _ _ s
  refine wpAny_bind (wpAny_of_eq (show Builtin.Builtins.bindParams "min" ["key", "default"] 0 ⟨[], [(Str.ofString "key", .ref q)]⟩ = pure [some (.ref q), none] from rfl) (wpAny_bind (wpAny_pure (wpAny_bind (wpAny_pyIter_list hls (wpAny_bind (wpAny_newList ?_ (Nat.zero_le _))))))))
  rw [mk_nm]
  generalize hH1 : s.heap.push { cls := .type "list_iterator", data := .fields #[.ref l, .int 0 0] } = h1
  have z1 : h1.objs.size = s.heap.objs.size + 1 := by rw [← hH1]; exact size_push' ..
  have k1 : Kp s.heap h1 := fun b o e => by rw [← hH1]; exact Heap.get?_push_of_some _ e
  have i1 : h1.get? s.heap.objs.size = some { cls := .type "list_iterator", data := .fields #[.ref l, .int 0 0] } := by rw [← hH1]; exact Heap.get?_push_size _ rfl
  have nI : s.heap.get? s.heap.objs.size = none := Heap.get?_none_of_le (Nat.le_refl _)
  have nS : s.heap.get? h1.objs.size = none := Heap.get?_none_of_le (by omega)
  have hSI : h1.objs.size ≠ s.heap.objs.size := by omega
  have hlI : l ≠ s.heap.objs.size := Nat.ne_of_lt hll
  have k2 : Kp s.heap (h1.push (seqObj "list" #[] 0)) := k1.trans fun b o e => Heap.get?_push_of_some _ e
  have gI : (h1.push (seqObj "list" #[] 0)).get? s.heap.objs.size = some { cls := .type "list_iterator", data := .fields #[.ref l, .int 0 0] } := Heap.get?_push_of_some _ i1
  have gS : (h1.push (seqObj "list" #[] 0)).get? h1.objs.size = some (seqObj "list" #[] 0) := Heap.get?_push_size _ rfl
  have W := Walks.list (prog := P) (w := w) (A := A.in1) hh s.heap.objs.size l hlI vs.toArray
  have hsz : vs.toArray.size = vs.length := by simp
  refine wpAny_pure ⟨plainId_quiet PySem.F.plain_min_loop _, mk_in ?_⟩
  show wpAny _ A.in1 (seqItems? (.ref _) >>= _) _ _ _; refine wpAny_bind (wpAny_seqItems gS rfl ?_)
  show wpAny _ A.in1 (tryCatch (pyNext (.ref s.heap.objs.size)) _ >>= _) _ _ _; refine wpAny_bind (wpAny_tryCatch (W.item 0 _ _ _ (by rw [hsz]; exact hne) ⟨⟨_, gI, rfl, rfl⟩, hl _ k2⟩ fun v h' tk' hP hst' hk' => ?_))
  have hv : vs[0]? = some v := by simpa using hP
  obtain ⟨oI, hoI, hoc, hod⟩ := id hst'.1
  have F1 := k2.but nI hk'
  have gS1 := hk' _ _ (by simpa using hSI) gS
  show wpAny _ A.in1 (tryCatch (holding [v] (call (.ref q) [v])) _ >>= _) _ _ _; refine wpAny_bind (wpAny_tryCatch (wpAny_holding (wpAny_mono (turn 0 v hv h' tk' F1) (fun x s2 he => ?_) fun _ _ z => z.elim)))
  obtain ⟨h2, tk2, t2, rfl, rfl, K2⟩ := he
  have F2 := F1.trans K2
  have gS2 := K2 _ _ gS1
  have gI2 := K2 _ _ hoI
  have s1 := Heap.SameBut.update h2 h1.objs.size (Obj.mapSeq fun _ => #[v, .int (kf 0) t2])
  obtain ⟨c2, hc2⟩ : ∃ c2, (h2.update h1.objs.size (Obj.mapSeq fun _ => #[v, .int (kf 0) t2])).get? h1.objs.size = some (seqObj "list" #[v, .int (kf 0) t2] c2) := ⟨_, get?_update_seq gS2 fun _ => #[v, .int (kf 0) t2]⟩
  show wpAny _ A.in1 (updateSeq h1.objs.size (fun _ => #[v, .int (kf 0) t2]) >>= _) _ _ _; refine wpAny_bind (wpAny_updateSeq gS2 rfl ?_)
  rw [mk_nm]
  exact wpAny_pure ⟨plainId_quiet PySem.F.plain_min_loop _, mk_turns kf hh hl nI nS hSI hlI turn hQ _ 0 0 _ _ v t2 c2 rfl hne (F2.same nS s1) hc2 ⟨oI, (s1.2 _ hSI.symm).trans gI2, hoc, hod⟩ hv (Nat.le_refl _) fun j' hj' => by
    have e : j' = 0 := by omega
    subst e
    exact ⟨Int.le_refl _, fun z => absurd z (Nat.lt_irrefl _)⟩⟩
end
end Fd
namespace Fd
open PySem PySem.Spec PyProof.Rows L2 LamX
section
variable {X : Cx} {pins : List (Addr × Obj)} {σ : L2.St} {H : Hp} {s : Shared} {f c t l : Addr} {u : V} {ys : List V} {q : Str} {params : Arguments} {scope : Scope} {pm ctv : Value} {p1 p2 p3 p4 p5 : Pos}
/-- lambda x: len(x[1]) -/
abbrev lamB (p1 p2 p3 p4 p5 : Pos) : Expr := .Call (.Name "len" p1) [.Subscript (.Name "choice" p2) (.Constant (.int 1) 0 p3) p4] [] p5
theorem lam_turn (I : Inv X pins σ H s) (hf : s.heap.get? f = some (PySem.W.kla_obj "<lambda>" q params (lamB p1 p2 p3 p4 p5) scope [] pm c ctv)) (hc : H c = some (CodeO c q)) (S : FnScope ["choice"] ["choice"] scope) (hgl : scope.names.lookup ("len" : Str) = some NameKind.globalImplicit) (hloc : scope.names.lookup ("choice" : Str) = some NameKind.local)
    (hbind : ∀ u : Value, bindArgs (PySem.W.kla_fn "<lambda>" q params (lamB p1 p2 p3 p4 p5) scope [] pm (.ref c) ctv) ⟨[u], []⟩ = pure [(("choice" : Str), u)]) (hm : X.mg "len" = none) (hr : Room 3 X.A) (ht : SqT X.K H t [u, .ref l]) (hl : SqL X.K H l ys) :
    wpAny (model X.prog X.w) X.A.in1 (call (.ref f) [.ref t]) (KeyEnd s s.heap (ys.length : Int)) (fun _ _ => False) s := by
  have e0 := I.env0
  have e1 : Env0 X.prog X.w X.K X.mg X.base X.A.in1 X.stack s H := ⟨e0.frames, e0.mod, e0.bs, e0.bsz, e0.funs, e0.frf, e0.hok, e0.bare⟩
  have hr1 := hr.in1
  have lim : s.heap.NoLimit := e0.mod.nolimit.keeps fun b o e => (e0.bs b o e).1
  obtain ⟨⟨oc, cvs, tt, hoc, hdc, hvc⟩, _, _⟩ := I.hok c _ hc
  have hkind : ∀ y ∈ [(("choice" : Str), Value.ref t)], scope.names.lookup y.1 = some .local ∨ (scope.names.lookup y.1 = some .cell ∧ ((cellsFrom (s.heap.objs.size + 1) scope.names []).lookup y.1).isSome = true) := fun y hy => by
    rw [List.mem_singleton.mp hy]
    exact .inl hloc
  refine wpAny_call (PySem.W.kla_callFunE hr1.depth hf rfl S.co S.gen rfl ⟨c, oc, cvs, tt, rfl, hoc, hdc, hvc⟩ ?_)
  rw [hbind]
  refine wpAny_pure (wpAny_newFunctionEnv_cells S.kind hkind fun env he s1 x => ?_)
  subst he
  obtain ⟨h1, tk, rfl, hk⟩ := id x.done
  refine ⟨lim.keeps x.toInCall.keep, PySem.W.kla_codeExpr ?_⟩
  have J : Inv (cxOf C8.CX0 X.prog X.w X.K X.mg X.base ["choice"] q scope f (.ref c) X.A.in1 X.stack s H C8.E0) [] (L2.start ["choice"] [V.ref t]) H _ := inv_start (us := [.ref t]) S hr1.hd e1 rfl (.cons rfl .nil) x
  have gl : Gl (cxOf C8.CX0 X.prog X.w X.K X.mg X.base ["choice"] q scope f (.ref c) X.A.in1 X.stack s H C8.E0) "len" := hgl
  obtain ⟨mm, hn, hl0⟩ := J.loc
  obtain ⟨u0, r0, l0⟩ := hl0 0 "choice" (.ref t) rfl rfl (.inl hloc)
  cases r0
  have hm0 : mm "choice" = some (.ref t) := by
    rcases l0 with ⟨_, z⟩ | ⟨z, _⟩
    · exact z
    · rcases z with z | z
      · have z : scope.names.lookup ("choice" : Str) = some NameKind.cell := z
        rw [hloc] at z
        cases z
      · have z : scope.names.lookup ("choice" : Str) = some NameKind.free := z
        rw [hloc] at z
        cases z
  obtain ⟨its, rt, pt, _⟩ := J.tuple (show SqT X.K H t [u, .ref l] from ht)
  obtain ⟨jts, rl, plt, hz⟩ := J.list (show SqL X.K H l ys from hl)
  obtain ⟨w1, ew, rw1⟩ := rt.get (i := 1) (x := .ref l) rfl
  cases rw1
  have lent := rt.length
  have lenl := rl.length
  have hn63 := line63
  refine Call_ (ld_blt J gl hm PySem.boot_len ?_)
  refine PyProof.Rows.callWith_builtin1 (PyProof.Rows.args_cons ?_ rfl) rfl rfl
  refine Subscript_ (wpAny_Name (wpAny_loadName_local J.ok.kind hloc hn hm0 ?_) (by decide))
  refine wpAny_Constant_int ?_
  have l2 : its.length = 2 := lent.symm
  refine subscriptTail_builtinR (x := .ref l) pt.typeIs slot_tuple_getitem.lookup (getItem_tuple (j := 1) pt (by decide) (by decide) (by rw [List.size_toArray, l2]; rfl) (by simpa using ew) ⟨rfl, ?_⟩)
  refine PyProof.Rows.args_nil (Calls.call_len_list plt.isList (by simp only [List.size_toArray]; omega) ?_)
  exact ⟨h1, _, _, by rw [List.size_toArray, lenl], rfl, hk⟩
end
end Fd
namespace Fd
open PySem PySem.Spec PyProof.Rows L2 LamX
/-- what stands in the list: a tuple whose second is a list of so many -/
def LenAt (K : PySem.W.Frag) (H : Hp) (x : V) (n : Nat) : Prop := ∃ (t l : Addr) (u : V) (ys : List V), x = .ref t ∧ SqT K H t [u, .ref l] ∧ SqL K H l ys ∧ ys.length = n
def tMinLen (K : PySem.W.Frag) (T : List (Addr × Str)) (ta : TE) : TE := fun σ H Q => ta σ H fun x H1 => Tabs T H1 ∧ ∀ H2, ExtN H1 H2 → Tabs T H2 → ∃ (a : Addr) (xs : List V) (ns : List Nat), x = .ref a ∧ SqL K H2 a xs ∧ 0 < xs.length ∧ Paired (LenAt K H2) xs ns ∧
  ∀ (i : Nat) (z : V) (n : Nat), xs[i]? = some z → ns[i]? = some n → (∀ (j k : Nat), ns[j]? = some k → n ≤ k ∧ (j < i → n < k)) → Q z H2
section
variable {X : Cx} {T : List (Addr × Str)} {c P : Addr} {params : Arguments} {scope : Scope} {xs : Expr} {ta : TE} {p lpos kpos pos p1 p2 p3 p4 p5 : Pos}
theorem pe_minLen (hg : Gl X "min") (hm : X.mg "min" = none) (hml : X.mg "len" = none) (ha : PE X xs ta) (TB : TabB X.base X.mg c P) (hcode : X.env.code = .ref c) (hmT : (P, X.env.qual ++ "<lambda>") ∈ T) (hu : ∀ q ∈ T, q.1 = P → q.2 = X.env.qual ++ "<lambda>") (hr : Room 4 X.A)
    (hdef : defaultsOf params X.env = ([], [])) (hfree : ∀ y ∈ scope.names, y.2 ≠ .free) (hclo : cloFrom X.env.cells scope.names [] = []) (S : FnScope ["choice"] ["choice"] scope) (hgl : scope.names.lookup ("len" : Str) = some NameKind.globalImplicit) (hloc : scope.names.lookup ("choice" : Str) = some NameKind.local)
    (hbind : ∀ (q : Str) (pm cv ctv u : Value), bindArgs (PySem.W.kla_fn "<lambda>" q params (lamB p1 p2 p3 p4 p5) scope [] pm cv ctv) ⟨[u], []⟩ = pure [(("choice" : Str), u)])
    (he : backTo pos (starEach [xs] X.env) = (false, eval xs X.env) :: backTo pos (starEach [] X.env) := by rfl) (hna : starEach [xs] X.env = (false, eval xs X.env) :: starEach [] X.env := by rfl) (hpl : (backTo pos (starEach [xs] X.env)).any (·.1) = false := by rfl) :
    PE X (.Call (.Name "min" p) [xs] [⟨some "key", .Lambda params (lamB p1 p2 p3 p4 p5) scope lpos, kpos⟩] pos) (tMinLen X.K T ta) := by
  refine ⟨fun pins s σ H Q I h => ?_⟩
  refine wpAny_Call_Name_kw (ld_blt I hg hm (by decide +kernel : bootBuiltins "min" = some (.builtin "min")) ?_)
  refine PyProof.Rows.callWith_kw (PyProof.Rows.args_cons (thn (ha.run pins s σ H _ I h) fun v s1 ⟨x, H1, I1, r1, q1⟩ => PyProof.Rows.args_nil ?_) hna) he hpl (by rfl) (by rfl)
  obtain ⟨T1, q1⟩ := q1
  show wpAny _ _ (evalAll ((do let v ← eval (.Lambda params (lamB p1 p2 p3 p4 p5) scope lpos) X.env; standAt pos; pure v) :: [])) _ _ s1
  refine wpAny_evalAll_cons (wpAny_bind (lam_make2 I1 TB hcode hmT hu T1 hdef (fun y hy e => absurd e (hfree y hy)) fun f c2 pm ctv H2 s2 I2 eN T2 hf hfn hfr hco => wpAny_bind (wpAny_standAt (wpAny_pure (wpAny_evalAll_nil ?_)))))
  obtain ⟨a, xs, ns, rfl, hq, hpos, hp, q⟩ := q1 H2 eN T2
  cases r1
  rw [hclo] at hf
  obtain ⟨its, rv, pl, hz⟩ := I2.list hq
  have rl := rv.length
  show wpAny _ _ (call (.builtin "min") [.ref a] [(Str.ofString "key", .ref f)]) _ _ _
  have at_ : ∀ {i : Nat} {u : Value}, its[i]? = some u → ∃ z n, xs[i]? = some z ∧ L2.RelV z u ∧ ns[i]? = some n ∧ LenAt X.K H2 z n := fun {i u} e => by
    have hi : i < xs.length := by
      rw [rl]
      exact (List.getElem?_eq_some_iff.mp e).1
    obtain ⟨u2, e2, r2⟩ := rv.get (List.getElem?_eq_getElem hi)
    rw [e] at e2
    cases Option.some.inj e2
    obtain ⟨n, en, hn⟩ := paired_get hp (List.getElem?_eq_getElem hi)
    exact ⟨_, n, List.getElem?_eq_getElem hi, r2, en, hn⟩
  refine mk_min (fun i => ((ns.getD i 0 : Nat) : Int)) hr.hd (fun h kh => ?_) (by rw [← rl]; exact hpos) (fun i u hi h tk kh => ?_) (fun i u h2 tk2 hi least kh => ?_)
  · have I3 : Inv X pins σ H2 { s2 with heap := h, toks := s2.toks } := I2.kept kh
    obtain ⟨o, e1, e2⟩ := id pl.isList
    exact ⟨o, kh _ _ e1, e2⟩
  · have I3 : Inv X pins σ H2 { s2 with heap := h, toks := tk } := I2.kept kh
    obtain ⟨z, n, e1, e2, e3, t, l, u2, ys, rfl, h1, h3, h4⟩ := at_ hi
    cases e2
    have en : ((ns.getD i 0 : Nat) : Int) = (ys.length : Int) := by rw [List.getD_eq_getElem?_getD, e3, h4]; rfl
    rw [en]
    exact lam_turn I3 (kh _ _ hf) hco S hgl hloc (fun u => hbind _ _ _ _ u) hml (hr.mono (by decide)) h1 h3
  · obtain ⟨z, n, e1, e2, e3, e4⟩ := at_ hi
    refine ⟨z, H2, I2.kept kh, e2, q i z n e1 e3 fun j k hk => ?_⟩
    have hj : j < its.length := by
      rw [← rl, hp.length]
      exact (List.getElem?_eq_some_iff.mp hk).1
    obtain ⟨l1, l2⟩ : ((ns.getD i 0 : Nat) : Int) ≤ ((ns.getD j 0 : Nat) : Int) ∧ (j < i → ((ns.getD i 0 : Nat) : Int) < ((ns.getD j 0 : Nat) : Int)) := least j hj
    rw [List.getD_eq_getElem?_getD, List.getD_eq_getElem?_getD, e3, hk] at l1 l2
    have l1 : (n : Int) ≤ (k : Int) := l1
    refine ⟨by omega, fun z => ?_⟩
    have l2 : (n : Int) < (k : Int) := l2 z
    omega
end
end Fd
namespace Fd
open PySem PySem.Spec PyProof.Rows L2
/-! ### set comprehensions: a kind of set, by its new one and by its add -/
abbrev newSetObj (w : World) : Obj := { cls := .type "set", dict := none, data := .set #[] 0 (.fresh 0 0 (!w.params.followText "set-order")) }
structure SetKind (X : Cx) where
  O : Addr → HO
  add : V → List V → Hp → VK → Prop
  new : ∀ (H : Hp) (h : Heap) (a : Addr), h.get? a = some (newSetObj X.w) → ObjOk X.prog X.w H h a (O a)
  run : ∀ Y : Cx, Y.prog = X.prog → Y.w = X.w → Y.K = X.K → Y.A = X.A → MtM Y "set.add" add
section
variable {prog : Program} {w : World} {A : Around} {R : Result → Shared → Prop} {s : Shared} {env : Env} {elt t0 i0 t1 i1 : Expr} {ifs0 ifs1 : List Expr} {scope : Scope} {pos : Pos} {it acc : Value}
abbrev NB (P : Program) (w : World) (A : Around) (env : Env) (R : Result → Shared → Prop) : Value → Shared → Prop := notedBy (model P w) A env fun e z => R (.error e) z
/-- what stands behind an item of the last clause -/
abbrev LastT (P : Program) (w : World) (A : Around) (env : Env) (R : Result → Shared → Prop) (elt t : Expr) (ifs : List Expr) (it acc v : Value) (N : Shared → Prop) : Shared → Prop := fun z1 =>
  wpAny (model P w) A (letOwnedTupleGo t it v) (fun _ z2 => wpAny (model P w) A (assign t env v) (fun _ z3 =>
    wpAny (model P w) A (forIn ifs true fun c r => if r = true then do let ok ← isTrue c env (eval c env); pure (ForInStep.yield ok) else pure (ForInStep.yield r)) (fun ok z4 =>
      if ok = true then wpAny (model P w) A (eval elt env) (fun x z5 => wpAny (model P w) A (call (.builtin "set.add") [acc, x]) (fun _ z6 => N z6) (NB P w A env R) z5) (NB P w A env R) z4 else N z4) (NB P w A env R) z3) (NB P w A env R) z2) (NB P w A env R) z1
theorem scTurn_in (scope : Scope) (pos : Pos) (it acc : Value) (env : Env) : compTurn (.SetComp elt [⟨t0, i0, ifs0, 0⟩, ⟨t1, i1, ifs1, 0⟩] scope pos) 1 it acc env = (do
      standAt i1.pos
      match ← pyNext it with
      | none => pure (.done .next)
      | some v =>
        letOwnedTupleGo t1 it v
        assign t1 env v
        let mut ok := true
        for c in ifs1 do
          if ok then ok ← isTrue c env (eval c env)
        if ok then
          (do let v ← eval elt env; standAt elt.pos; let _ ← call (.builtin "set.add") [acc, v])
        again (.compLoop (.SetComp elt [⟨t0, i0, ifs0, 0⟩, ⟨t1, i1, ifs1, 0⟩] scope pos) 1 it acc env)) := by rfl
theorem scTurn_out (scope : Scope) (pos : Pos) (it acc : Value) (env : Env) : compTurn (.SetComp elt [⟨t0, i0, ifs0, 0⟩, ⟨t1, i1, ifs1, 0⟩] scope pos) 0 it acc env = (do
      standAt i0.pos
      match ← pyNext it with
      | none => pure (.done .next)
      | some v =>
        letOwnedTupleGo t0 it v
        assign t0 env v
        let mut ok := true
        for c in ifs0 do
          if ok then ok ← isTrue c env (eval c env)
        if ok then
          let x ← eval i1 env
          standAt i1.pos
          let x ← foldedSetIterable i1 env x
          let _ ← runOwn (.compStart (.SetComp elt [⟨t0, i0, ifs0, 0⟩, ⟨t1, i1, ifs1, 0⟩] scope pos) 1 (← holding [x] (pyIter x)) acc env) env
        again (.compLoop (.SetComp elt [⟨t0, i0, ifs0, 0⟩, ⟨t1, i1, ifs1, 0⟩] scope pos) 0 it acc env)) := by rfl
/-- the last clause's loop, of one for -/
theorem scLoop1 (Z : Nat → Shared → Prop) (turn : ∀ n z, Z n z → wpAny (model prog w) A (pyNext it) (fun r z1 => match r with
      | none => R (.ok .next) z1
      | some v => LastT prog w A env R elt t0 ifs0 it acc v (fun z9 => ∃ m, m < n ∧ Z m z9) z1) (NB prog w A env R) z) (n : Nat) (h : Z n s) : codeAny (model prog w) A (.compLoop (.SetComp elt [⟨t0, i0, ifs0, 0⟩] scope pos) 0 it acc env) R s := by
  refine PpSet.compLoopS_any Z (fun n z hz => wpAny_mono (turn n z hz) (fun r z1 h1 => ?_) fun _ _ q => q) n h
  cases r with
  | none => exact h1
  | some v => exact h1
theorem scLoop_in (Z : Nat → Shared → Prop) (turn : ∀ n z, Z n z → wpAny (model prog w) A (pyNext it) (fun r z1 => match r with
      | none => R (.ok .next) z1
      | some v => LastT prog w A env R elt t1 ifs1 it acc v (fun z9 => ∃ m, m < n ∧ Z m z9) z1) (NB prog w A env R) z) (n : Nat) (h : Z n s) : codeAny (model prog w) A (.compLoop (.SetComp elt [⟨t0, i0, ifs0, 0⟩, ⟨t1, i1, ifs1, 0⟩] scope pos) 1 it acc env) R s := by
  refine codeAny_loop rfl Z (fun n z hz => ?_) n h
  show wpAny _ A ((compTurn (.SetComp elt [⟨t0, i0, ifs0, 0⟩, ⟨t1, i1, ifs1, 0⟩] scope pos) 1 it acc env).onRaise (fun x => do noteFrame x env; theTreesLotGoes x)) _ _ z
  refine wpAny_noted (by rw [scTurn_in]; refine wpAny_bind (wpAny_standAt (wpAny_bind (wpAny_mono (turn n z hz) (fun r z1 h1 => ?_) fun _ _ q => q))); exact (match r, h1 with | none, h1 => wpAny_pure h1 | some v, h1 => wpAny_bind (wpAny_mono h1 (fun _ z2 h2 => wpAny_bind (wpAny_mono h2 (fun _ z3 h3 => wpAny_bind (wpAny_mono h3 (fun ok z4 h4 => (match ok, h4 with | false, h4 => wpAny_pure ⟨rfl, h4⟩ | true, h4 => wpAny_bind (wpAny_bind (wpAny_mono h4 (fun x z5 h5 => wpAny_bind (wpAny_standAt (wpAny_bind (wpAny_mono h5 (fun _ z6 h6 => wpAny_pure (wpAny_pure ⟨rfl, h6⟩)) fun _ _ q => q)))) fun _ _ q => q)))) fun _ _ q => q)) fun _ _ q => q)) fun _ _ q => q)))
/-- the first clause's loop, of two fors -/
theorem scLoop_out (hs : ∀ x, foldedSetIterable i1 env x = pure x) (Z : Nat → Shared → Prop) (turn : ∀ n z, Z n z → wpAny (model prog w) A (pyNext it) (fun r z1 => match r with
      | none => R (.ok .next) z1
      | some v => wpAny (model prog w) A (letOwnedTupleGo t0 it v) (fun _ z2 => wpAny (model prog w) A (assign t0 env v) (fun _ z3 =>
          wpAny (model prog w) A (forIn ifs0 true fun c r => if r = true then do let ok ← isTrue c env (eval c env); pure (ForInStep.yield ok) else pure (ForInStep.yield r)) (fun ok z4 =>
            if ok = true then wpAny (model prog w) A (eval i1 env) (fun x z5 => wpAny (model prog w) A (pyIter x) (fun it1 z6 =>
              codeAny (model prog w) A (.compStart (.SetComp elt [⟨t0, i0, ifs0, 0⟩, ⟨t1, i1, ifs1, 0⟩] scope pos) 1 it1 acc env) (fun r z7 => match r with
                | .ok _ => ∃ m, m < n ∧ Z m z7
                | .error _ => False) z6) (NB prog w A env R) z5) (NB prog w A env R) z4
            else ∃ m, m < n ∧ Z m z4) (NB prog w A env R) z3) (NB prog w A env R) z2) (NB prog w A env R) z1) (NB prog w A env R) z)
    (n : Nat) (h : Z n s) : codeAny (model prog w) A (.compLoop (.SetComp elt [⟨t0, i0, ifs0, 0⟩, ⟨t1, i1, ifs1, 0⟩] scope pos) 0 it acc env) R s := by
  refine codeAny_loop rfl Z (fun n z hz => ?_) n h
  show wpAny _ A ((compTurn (.SetComp elt [⟨t0, i0, ifs0, 0⟩, ⟨t1, i1, ifs1, 0⟩] scope pos) 0 it acc env).onRaise (fun x => do noteFrame x env; theTreesLotGoes x)) _ _ z
  refine wpAny_noted (by
    rw [scTurn_out]; refine wpAny_bind (wpAny_standAt (wpAny_bind (wpAny_mono (turn n z hz) (fun r z1 h1 => ?_) fun _ _ q => q)))
    match r, h1 with
    | none, h1 => exact wpAny_pure h1
    | some v, h1 =>
      refine wpAny_bind (wpAny_mono h1 (fun _ z2 h2 => wpAny_bind (wpAny_mono h2 (fun _ z3 h3 => wpAny_bind (wpAny_mono h3 (fun ok z4 h4 => ?_) fun _ _ q => q)) fun _ _ q => q)) fun _ _ q => q)
      match ok, h4 with
      | false, h4 => exact wpAny_pure ⟨rfl, h4⟩
      | true, h4 =>
        refine wpAny_bind (wpAny_mono h4 (fun x z5 h5 => wpAny_bind (wpAny_standAt (wpAny_bind (wpAny_of_eq (hs x) (wpAny_bind (wpAny_holding (wpAny_mono h5 (fun it1 z6 h6 => ?_) fun _ _ q => q))))))) fun _ _ q => q)
        refine wpAny_bind (wpAny_runOwn ?_)
        rw [Around.mark_none]
        exact codeAny_mono h6 fun r z7 hr => (match r, hr with | .ok f, hr => wpAny_pure ⟨rfl, hr⟩ | .error e, hr => hr.elim))
theorem scStart1 (h0 : codeAny (model prog w) A (.compLoop (.SetComp elt [⟨t0, i0, ifs0, 0⟩, ⟨t1, i1, ifs1, 0⟩] scope pos) 1 it acc env) R s) (h : wpAny (model prog w) A (pyIter it) (fun it2 z => codeAny (model prog w) A (.compLoop (.SetComp elt [⟨t0, i0, ifs0, 0⟩, ⟨t1, i1, ifs1, 0⟩] scope pos) 1 it2 acc env) R z) (NB prog w A env R) s) :
    codeAny (model prog w) A (.compStart (.SetComp elt [⟨t0, i0, ifs0, 0⟩, ⟨t1, i1, ifs1, 0⟩] scope pos) 1 it acc env) R s := by
  refine codeAny_of_tree (by
    show wpAny _ _ ((compStart (.SetComp elt [⟨t0, i0, ifs0, 0⟩, ⟨t1, i1, ifs1, 0⟩] scope pos) 1 it acc env).onRaise (fun x => do noteFrame x env; standAt theWindowsPlace)) _ _ s; refine wpAny_notedAt ?_
    unfold compStart; show wpAny _ _ (ask >>= _) _ _ s; refine wpAny_bind (wpAny_askSetting (wpAny_ite ?_)); split
    · first | exact wpAny_bind (wpAny_pure (wpAny_pure ⟨rfl, h0⟩)) | exact wpAny_pure ⟨rfl, h0⟩
    · first
        | exact wpAny_bind (wpAny_rule (wpAny_bind (wpAny_standAt (wpAny_bind (wpAny_mono h (fun it2 z h2 => wpAny_pure ⟨rfl, h2⟩) fun _ _ q => q)))))
        | (refine wpAny_bind (wpAny_rule ?_); show wpAny _ _ (standAt i1.pos >>= _) _ _ s; exact wpAny_bind (wpAny_standAt (wpAny_bind (wpAny_mono h (fun it2 z h2 => wpAny_pure ⟨rfl, h2⟩) fun _ _ q => q)))))
end
end Fd
namespace Fd
open PySem PySem.Spec PyProof.Rows L2
/-- {elt for tg in iter if ..} -/
def tSc1 (O : Addr → HO) (add : V → List V → Hp → VK → Prop) (wi : TI) (g : TG) (tt : TT) (te : TE) (vs : List Nat) : TE := fun σ H Q => wi σ H fun J H1 => ∀ D, H1 D = none → ∃ W : Nat → Nat → Hp → Prop, (∃ m, W 0 m (upd H1 D (O D))) ∧ ∀ i m H, W i m H →
  (J.stop i H ∧ Q (.ref D) H) ∨ (J.go i H ∧ ∃ Nx : Hp → Prop, (∀ H', Nx H' → ∃ m', m' < m ∧ W (i + 1) m' H') ∧ ∀ x H', J.yld i H x H' → g x (wipe σ vs) H' fun σ2 H2 => wipe σ2 vs = wipe σ vs ∧ tt σ2 H2 fun b H3 =>
    if b = true then te σ2 H3 fun y H4 => add (.ref D) [y] H4 fun _ H5 => Nx H5 else Nx H3)
/-- {elt for tg in iter if .. for tg1 in iter1 if ..} -/
def tSc2 (O : Addr → HO) (add : V → List V → Hp → VK → Prop) (wi : TI) (g : TG) (tt : TT) (wi1 : TI) (g1 : TG) (tt1 : TT) (te : TE) (vs vs1 : List Nat) : TE := fun σ H Q => wi σ H fun J H1 => ∀ D, H1 D = none → ∃ W : Nat → Nat → Hp → Prop, (∃ m, W 0 m (upd H1 D (O D))) ∧ ∀ i m H, W i m H →
  (J.stop i H ∧ Q (.ref D) H) ∨ (J.go i H ∧ ∃ Nx : Hp → Prop, (∀ H', Nx H' → ∃ m', m' < m ∧ W (i + 1) m' H') ∧ ∀ x H', J.yld i H x H' → g x (wipe σ vs) H' fun σ2 H2 => wipe σ2 vs = wipe σ vs ∧ tt σ2 H2 fun b H3 =>
    if b = true then wi1 σ2 H3 fun J1 H4 => ∃ W1 : Nat → Nat → Hp → Prop, (∃ m, W1 0 m H4) ∧ ∀ j k H, W1 j k H →
      (J1.stop j H ∧ Nx H) ∨ (J1.go j H ∧ ∃ Nx1 : Hp → Prop, (∀ H', Nx1 H' → ∃ k', k' < k ∧ W1 (j + 1) k' H') ∧ ∀ x H', J1.yld j H x H' → g1 x (wipe σ2 vs1) H' fun σ3 H5 => wipe σ3 vs1 = wipe σ2 vs1 ∧ tt1 σ3 H5 fun b H6 =>
        if b = true then te σ3 H6 fun y H7 => add (.ref D) [y] H7 fun _ H8 => Nx1 H8 else Nx1 H6)
    else Nx H3)
section
variable {X : Cx} {pins : List (Addr × Obj)} {s : Shared} {σ : L2.St} {H : Hp} {Q : VK} {elt tg iter tg1 iter1 : Expr} {ifs ifs1 : List Expr} {scope : Scope} {own : List (Str × Nat)} {vs1 : List Nat} {pos pos' : Pos} {wi wi1 : TI} {g g1 : TG} {tt tt1 : TT} {te : TE} {use : Option (Value → Sem Unit)} {Qf : Value → Shared → Prop}
abbrev Within (X : Cx) (scope : Scope) (F : Cx → Prop) : Prop := ∀ (s : Shared) (H : Hp) (C : Addr) (cl : List (Str × Addr)) (fp : List Addr), F (X.blk s H scope (compEnvC scope cl C X.env) fp)
abbrev blkOf (X : Cx) (scope : Scope) (u3 : Shared) : Env := compEnvC scope (cellsFrom (u3.heap.objs.size + 1) scope.names (cloFrom X.env.cells scope.names [])) u3.heap.objs.size X.env
/-- the iterator's objects stay as the block goes on -/
theorem blk_stat {u3 : Shared} {H3 : Hp} {ce : Env} {fp : List Addr} {τ : L2.St} {G : Hp} {z : Shared} (I1 : Inv (X.blk u3 H3 scope ce fp) [] τ G z) (hn : ∀ b ∈ fp, G b = none) : ∀ b ∈ fp, FpOk (X.blk u3 H3 scope ce fp) [] G b := fun b hb =>
  ⟨hn b hb, (I1.ok.exf b hb).1, I1.ok.exfs b hb, .inl hb, fun x c e => (I1.ok.exf b hb).2 x c e, fun p hp => absurd (show p ∈ ([] : List (Addr × Obj)) ++ [] from hp) (by simp)⟩
/-- behind the last clause's store: its tests, its element, the add -/
theorem last_part (K : SetKind X) {Y : Cx} (y1 : Y.prog = X.prog) (y2 : Y.w = X.w) (y3 : Y.K = X.K) (y4 : Y.A = X.A) {P2 : List (Addr × Obj)} {τ : L2.St} {G : Hp} {z : Shared} {x : V} {u : Value} {D : Addr} {N : Shared → Prop} {Nx : Hp → Prop} {tgt : Expr} {gt : TG} {conds : List Expr} {tcond : TT} {el : Expr} {tel : TE} {env : Env} (he : env = Y.env) {E : Value → Shared → Prop} {vs : List Nat} {ρ : L2.St}
    (pg : PG Y tgt gt) (pt : PTs Y conds tcond) (pe : PE Y el tel) (hxe : Y.xe = fun _ _ => False) (I1 : Inv Y P2 τ G z) (r : L2.RelV x u)
    (st : gt x τ G fun τ2 G2 => wipe τ2 vs = ρ ∧ tcond τ2 G2 fun b G3 => if b = true then tel τ2 G3 fun y G4 => K.add (.ref D) [y] G4 fun _ G5 => Nx G5 else Nx G3)
    (fin : ∀ {τ2 : L2.St} {z2 : Shared} {G2 : Hp}, Inv Y P2 τ2 G2 z2 → wipe τ2 vs = ρ → Nx G2 → N z2) :
    wpAny (model X.prog X.w) X.A (assign tgt env u) (fun _ z3 => wpAny (model X.prog X.w) X.A (forIn conds true fun c r => if r = true then do let ok ← isTrue c env (eval c env); pure (ForInStep.yield ok) else pure (ForInStep.yield r)) (fun ok z4 =>
      if ok = true then wpAny (model X.prog X.w) X.A (eval el env) (fun x z5 => wpAny (model X.prog X.w) X.A (call (.builtin "set.add") [.ref D, x]) (fun _ z6 => N z6) E z5) E z4 else N z4) E z3) E z := by
  subst he
  have R0 := pg.run P2 z τ G x u _ I1 r st
  rw [y1, y2, y4, hxe] at R0
  refine thnF R0 fun _ z3 ⟨τ2, G2, I2, hw, q2⟩ => ?_
  have R1 := pt.run P2 z3 τ2 G2 _ I2 q2
  rw [y1, y2, y4, hxe] at R1
  refine thnF R1 fun b z4 ⟨G3, I3, q3⟩ => ?_
  cases b with
  | false =>
    rw [if_neg (by decide)] at q3 ⊢
    exact fin I3 hw q3
  | true =>
    rw [if_pos rfl] at q3 ⊢
    have R2 := pe.run P2 z4 τ2 G3 _ I3 q3
    rw [y1, y2, y4, hxe] at R2
    refine thnF R2 fun v z5 ⟨yv, G4, I4, r4, q4⟩ => ?_
    have R3 := K.run Y y1 y2 y3 y4 P2 z5 τ2 G4 (.ref D) [yv] (.ref D) [v] _ I4 rfl (.cons r4 .nil) q4
    rw [y1, y2, y4, hxe] at R3
    exact thnF R3 fun _ z6 ⟨_, G5, I5, _, q5⟩ => fin I5 hw q5
end
end Fd
namespace Fd
open PySem PySem.Spec PyProof.Rows L2
section
variable {X : Cx} {pins : List (Addr × Obj)} {s : Shared} {σ : L2.St} {H : Hp} {Q : VK} {elt tg iter tg1 iter1 : Expr} {ifs ifs1 : List Expr} {scope : Scope} {own : List (Str × Nat)} {vs1 : List Nat} {pos pos' : Pos} {wi wi1 : TI} {g g1 : TG} {tt tt1 : TT} {te : TE} {use : Option (Value → Sem Unit)} {Qf : Value → Shared → Prop}
abbrev Ends (X : Cx) (pins : List (Addr × Obj)) (σ : L2.St) (Q : VK) (use : Option (Value → Sem Unit)) (Qf : Value → Shared → Prop) : Prop := ∀ D C z m G, Inv X pins σ G z → Q (.ref D) G → z.heap.Ns C m → FpOk X pins G C → compPost (model X.prog X.w) X.A X.xe use Qf (.ref D) C (.ok .next) z
theorem sc1_core (K : SetKind X) (hc : X.calm = true) (hN : X.N.Nodup) (I : Inv X pins σ H s) (hi : PI X tg iter wi) (ok : BlkOk X.N X.env.scope scope own) (hg : Within X scope fun Y => PG Y tg g) (ht : Within X scope fun Y => PTs Y ifs tt) (he : Within X scope fun Y => PE Y elt te)
    (hs : ∀ x, foldedSetIterable iter X.env x = pure x) (h : tSc1 K.O K.add wi g tt te (own.map (·.2)) σ H Q) (hE : Ends X pins σ Q use Qf) : wpAny (model X.prog X.w) X.A (comprehension (.SetComp elt [⟨tg, iter, ifs, 0⟩] scope pos) scope X.env pos' (newSet (.type "set")) false (eval iter X.env) use) Qf X.xe s := by
  have caps : ∀ y ∈ scope.names, y.2 = .free → ∃ c, X.env.cells.lookup y.1 = some c := fun y hy e => (ok.free y hy e).elim (fun k => I.ok.has _ (.inl k)) fun k => I.ok.has _ (.inr k)
  refine wpAny_comprehension_free (use := use) rfl hs (closure_ok caps) ok.kind (fun y hy e => by rw [ok.uniq y hy, e]) (thn (hi.run pins s σ H _ I h) fun xv u1 hx => thn hx fun itv u2 h2 => ?_)
  obtain ⟨it, fp, tn, J, H2, e, I2, T, st2, f2, q⟩ := h2
  subst e
  refine PpSet.newSet_ok (newEnv_comp ?_); generalize hD : u2.heap.objs.size = D
  have nD : H2 D = none := I2.hok.fresh (Nat.le_of_eq hD)
  obtain ⟨W, ⟨m0, w0⟩, turn⟩ := q D nD
  generalize hu3 : ({ u2 with heap := u2.heap.push (newSetObj X.w) } : Shared) = u3
  have I3 : Inv X pins σ (upd H2 D (K.O D)) u3 := by
    rw [← hu3]
    refine I2.laid (t' := u2.toks) (fun b o e => Heap.get?_push_of_some _ e) (Nat.le_of_eq hD) (K.new _ _ _ ?_)
    rw [← hD]
    exact Heap.get?_push_size _ rfl
  have g3 : u3.heap = u2.heap.push (newSetObj X.w) := by rw [← hu3]
  have f3 : ∀ b ∈ fp, FpOk X pins (upd H2 D (K.O D)) b ∧ b < u3.heap.objs.size := fun b hb => by
    obtain ⟨o, eo, _⟩ := T.obj _ _ st2 b hb
    have lt := Heap.lt_size eo
    refine ⟨⟨?_, (f2 b hb).2⟩, by rw [g3, Heap.size_push]; exact Nat.lt_succ_of_lt lt⟩
    rw [upd_ne (by rw [← hD]; exact Nat.ne_of_lt lt)]
    exact (f2 b hb).1
  have st3 : tn 0 u3.heap := T.keep _ _ _ st2 fun b _ o e => by rw [g3]; exact Heap.get?_push_of_some _ e
  have I4 := block_start I3 ok hN f3
  have pg := hg u3 (upd H2 D (K.O D)) u3.heap.objs.size (cellsFrom (u3.heap.objs.size + 1) scope.names (cloFrom X.env.cells scope.names [])) fp
  have pt := ht u3 (upd H2 D (K.O D)) u3.heap.objs.size (cellsFrom (u3.heap.objs.size + 1) scope.names (cloFrom X.env.cells scope.names [])) fp
  have pe := he u3 (upd H2 D (K.O D)) u3.heap.objs.size (cellsFrom (u3.heap.objs.size + 1) scope.names (cloFrom X.env.cells scope.names [])) fp
  show codeAny _ _ (.compStart (.SetComp elt [⟨tg, iter, ifs, 0⟩] scope pos) 0 (.ref it) (.ref D) (compEnvC scope (cellsFrom (u3.heap.objs.size + 1) scope.names (cloFrom X.env.cells scope.names [])) u3.heap.objs.size X.env)) (compPost (model X.prog X.w) X.A X.xe use Qf (.ref D) u3.heap.objs.size) { u3 with heap := pushCells (u3.heap.push { cls := .type "dict", data := .dict #[] }) scope.names }
  have nfp : ∀ b ∈ fp, (upd H2 D (K.O D)) b = none := fun b hb => (f3 b hb).1.1
  generalize hce : compEnvC scope (cellsFrom (u3.heap.objs.size + 1) scope.names (cloFrom X.env.cells scope.names [])) u3.heap.objs.size X.env = ce at I4 pg pt pe ⊢
  have cL : ce.locals = u3.heap.objs.size := by subst hce; rfl
  generalize hH3 : upd H2 D (K.O D) = H3 at I3 I4 pg pt pe w0 nfp f3
  generalize hu4 : ({ u3 with heap := pushCells (u3.heap.push { cls := .type "dict", data := .dict #[] }) scope.names } : Shared) = u4 at I4 ⊢
  have st4 : tn 0 u4.heap := T.keep _ _ _ st3 fun b _ o e => by rw [← hu4]; exact pushCells_keeps _ _ _ _ (Heap.get?_push_of_some _ e)
  have loop : codeAny (model X.prog X.w) X.A (.compLoop (.SetComp elt [⟨tg, iter, ifs, 0⟩] scope pos) 0 (.ref it) (.ref D) ce) (compPost (model X.prog X.w) X.A X.xe use Qf (.ref D) u3.heap.objs.size) u4 := by
    refine scLoop1 (fun n z => ∃ i G, Inv (X.blk u3 H3 scope ce fp) [] (wipe σ (own.map (·.2))) G z ∧ tn i z.heap ∧ (∀ b ∈ fp, G b = none) ∧ W i n G) ?_ m0 ⟨0, H3, I4, st4, nfp, w0⟩
    rintro n u5 ⟨i, G5, I5, st5, n5, w5⟩
    rcases turn i n G5 w5 with ⟨stop, qq⟩ | ⟨go, Nx, hNx, step⟩
    · refine thnF (T.done (X.blk u3 H3 scope ce fp) rfl rfl rfl hc i [] u5 _ G5 (fun _ _ => False) I5 (blk_stat I5 n5) st5 stop) fun r u6 ⟨hr, I6⟩ => ?_
      subst hr
      have I7 : Inv X pins σ G5 u6 := I3.call' (ch := fp) I6.os I6.base I6.hok I6.bare fun b hb => ⟨(f3 b hb).1.2.2.2.1, (f3 b hb).1.2.1, (f3 b hb).1.2.2.2.2.1, (f3 b hb).1.2.2.2.2.2⟩
      have nC : G5 u3.heap.objs.size = none := by rw [← cL]; exact I6.free
      obtain ⟨m, hn, _⟩ := I6.loc
      have hn : u6.heap.Ns ce.locals m := hn
      exact hE D u3.heap.objs.size u6 m G5 I7 qq (by rw [← cL]; exact hn) (I3.fpOk (Nat.le_refl _) nC)
    · refine thnF (T.item (X.blk u3 H3 scope ce fp) rfl rfl rfl hc i [] u5 _ G5 (fun _ _ => False) I5 (blk_stat I5 n5) st5 go) fun r u6 ⟨u, hr, h6⟩ => ?_
      subst hr
      refine thnF h6 fun _ u7 ⟨x, G7, I7, r7, y7, st7, n7⟩ => ?_
      have I8 := I7.pinned (blk_stat I7 n7) (T.obj _ _ st7)
      refine last_part K (Y := X.blk u3 H3 scope ce fp) rfl rfl rfl rfl (vs := own.map (·.2)) rfl pg pt pe rfl I8 r7 (step x G7 y7) fun {τ2 z2 G2} I9 hw nx => ?_
      obtain ⟨m2, hm, w2⟩ := hNx G2 nx
      have pin : ∀ b ∈ fp, ∀ o, u7.heap.get? b = some o → z2.heap.get? b = some o ∧ G2 b = none := fun b hb o e =>
        let p := I9.pin (b, o) (List.mem_append_right _ (List.mem_append_right _ (mem_pinsAt hb e)))
        ⟨p.1, p.2.1⟩
      refine ⟨m2, hm, i + 1, G2, (I9.unpinned (pins := [])).weak (by rw [← hw, wipe_length]) (fun j v e => ?_), T.keep _ _ _ st7 fun b hb o e => (pin b hb o e).1, fun b hb => ?_, w2⟩
      · rw [← hw] at e
        exact (wipe_some e).1
      · obtain ⟨o, e, _⟩ := T.obj _ _ st7 b hb
        exact (pin b hb o e).2
  exact PpSet.codeAny_compStart_set loop (T.self X.A 0 _ _ _ st4 loop)
end
end Fd
namespace Fd
open PySem PySem.Spec PyProof.Rows L2
section
variable {X : Cx} {pins : List (Addr × Obj)} {s : Shared} {σ : L2.St} {H : Hp} {Q : VK} {elt tg iter tg1 iter1 : Expr} {ifs ifs1 : List Expr} {scope : Scope} {own : List (Str × Nat)} {vs1 : List Nat} {pos pos' : Pos} {wi wi1 : TI} {g g1 : TG} {tt tt1 : TT} {te : TE} {use : Option (Value → Sem Unit)} {Qf : Value → Shared → Prop}
theorem sc2_core (K : SetKind X) (hc : X.calm = true) (hN : X.N.Nodup) (I : Inv X pins σ H s) (hi : PI X tg iter wi) (ok : BlkOk X.N X.env.scope scope own) (hv : ∀ i ∈ vs1, i ∈ own.map (·.2)) (hg : Within X scope fun Y => PG Y tg g) (ht : Within X scope fun Y => PTs Y ifs tt)
    (hi1 : Within X scope fun Y => PI Y tg1 iter1 wi1) (hg1 : Within X scope fun Y => PG Y tg1 g1) (ht1 : Within X scope fun Y => PTs Y ifs1 tt1) (he : Within X scope fun Y => PE Y elt te) (hs : ∀ x, foldedSetIterable iter X.env x = pure x) (hs1 : ∀ env x, foldedSetIterable iter1 env x = pure x)
    (h : tSc2 K.O K.add wi g tt wi1 g1 tt1 te (own.map (·.2)) vs1 σ H Q) (hE : Ends X pins σ Q use Qf) : wpAny (model X.prog X.w) X.A (comprehension (.SetComp elt [⟨tg, iter, ifs, 0⟩, ⟨tg1, iter1, ifs1, 0⟩] scope pos) scope X.env pos' (newSet (.type "set")) false (eval iter X.env) use) Qf X.xe s := by
  have caps : ∀ y ∈ scope.names, y.2 = .free → ∃ c, X.env.cells.lookup y.1 = some c := fun y hy e => (ok.free y hy e).elim (fun k => I.ok.has _ (.inl k)) fun k => I.ok.has _ (.inr k)
  refine wpAny_comprehension_free (use := use) rfl hs (closure_ok caps) ok.kind (fun y hy e => by rw [ok.uniq y hy, e]) (thn (hi.run pins s σ H _ I h) fun xv u1 hx => thn hx fun itv u2 h2 => ?_)
  obtain ⟨it, fp, tn, J, H2, e, I2, T, st2, f2, q⟩ := h2
  subst e
  refine PpSet.newSet_ok (newEnv_comp ?_); generalize hD : u2.heap.objs.size = D
  have nD : H2 D = none := I2.hok.fresh (Nat.le_of_eq hD)
  obtain ⟨W, ⟨m0, w0⟩, turn⟩ := q D nD
  generalize hu3 : ({ u2 with heap := u2.heap.push (newSetObj X.w) } : Shared) = u3
  have I3 : Inv X pins σ (upd H2 D (K.O D)) u3 := by
    rw [← hu3]
    refine I2.laid (t' := u2.toks) (fun b o e => Heap.get?_push_of_some _ e) (Nat.le_of_eq hD) (K.new _ _ _ ?_)
    rw [← hD]
    exact Heap.get?_push_size _ rfl
  have g3 : u3.heap = u2.heap.push (newSetObj X.w) := by rw [← hu3]
  have f3 : ∀ b ∈ fp, FpOk X pins (upd H2 D (K.O D)) b ∧ b < u3.heap.objs.size := fun b hb => by
    obtain ⟨o, eo, _⟩ := T.obj _ _ st2 b hb
    have lt := Heap.lt_size eo
    refine ⟨⟨?_, (f2 b hb).2⟩, by rw [g3, Heap.size_push]; exact Nat.lt_succ_of_lt lt⟩
    rw [upd_ne (by rw [← hD]; exact Nat.ne_of_lt lt)]
    exact (f2 b hb).1
  have st3 : tn 0 u3.heap := T.keep _ _ _ st2 fun b _ o e => by rw [g3]; exact Heap.get?_push_of_some _ e
  have I4 := block_start I3 ok hN f3
  have pg := hg u3 (upd H2 D (K.O D)) u3.heap.objs.size (cellsFrom (u3.heap.objs.size + 1) scope.names (cloFrom X.env.cells scope.names [])) fp
  have pt := ht u3 (upd H2 D (K.O D)) u3.heap.objs.size (cellsFrom (u3.heap.objs.size + 1) scope.names (cloFrom X.env.cells scope.names [])) fp
  have pe := he u3 (upd H2 D (K.O D)) u3.heap.objs.size (cellsFrom (u3.heap.objs.size + 1) scope.names (cloFrom X.env.cells scope.names [])) fp
  have pi1 := hi1 u3 (upd H2 D (K.O D)) u3.heap.objs.size (cellsFrom (u3.heap.objs.size + 1) scope.names (cloFrom X.env.cells scope.names [])) fp
  have pg1 := hg1 u3 (upd H2 D (K.O D)) u3.heap.objs.size (cellsFrom (u3.heap.objs.size + 1) scope.names (cloFrom X.env.cells scope.names [])) fp
  have pt1 := ht1 u3 (upd H2 D (K.O D)) u3.heap.objs.size (cellsFrom (u3.heap.objs.size + 1) scope.names (cloFrom X.env.cells scope.names [])) fp
  show codeAny _ _ (.compStart (.SetComp elt [⟨tg, iter, ifs, 0⟩, ⟨tg1, iter1, ifs1, 0⟩] scope pos) 0 (.ref it) (.ref D) (compEnvC scope (cellsFrom (u3.heap.objs.size + 1) scope.names (cloFrom X.env.cells scope.names [])) u3.heap.objs.size X.env)) (compPost (model X.prog X.w) X.A X.xe use Qf (.ref D) u3.heap.objs.size) { u3 with heap := pushCells (u3.heap.push { cls := .type "dict", data := .dict #[] }) scope.names }
  have nfp : ∀ b ∈ fp, (upd H2 D (K.O D)) b = none := fun b hb => (f3 b hb).1.1
  generalize hce : compEnvC scope (cellsFrom (u3.heap.objs.size + 1) scope.names (cloFrom X.env.cells scope.names [])) u3.heap.objs.size X.env = ce at I4 pg pt pe pi1 pg1 pt1 ⊢
  have cL : ce.locals = u3.heap.objs.size := by subst hce; rfl
  generalize hH3 : upd H2 D (K.O D) = H3 at I3 I4 pg pt pe pi1 pg1 pt1 w0 nfp f3
  generalize hu4 : ({ u3 with heap := pushCells (u3.heap.push { cls := .type "dict", data := .dict #[] }) scope.names } : Shared) = u4 at I4 ⊢
  have st4 : tn 0 u4.heap := T.keep _ _ _ st3 fun b _ o e => by rw [← hu4]; exact pushCells_keeps _ _ _ _ (Heap.get?_push_of_some _ e)
  have loop : codeAny (model X.prog X.w) X.A (.compLoop (.SetComp elt [⟨tg, iter, ifs, 0⟩, ⟨tg1, iter1, ifs1, 0⟩] scope pos) 0 (.ref it) (.ref D) ce) (compPost (model X.prog X.w) X.A X.xe use Qf (.ref D) u3.heap.objs.size) u4 := by
    refine scLoop_out (hs1 ce) (fun n z => ∃ i G, Inv (X.blk u3 H3 scope ce fp) [] (wipe σ (own.map (·.2))) G z ∧ tn i z.heap ∧ (∀ b ∈ fp, G b = none) ∧ W i n G) ?_ m0 ⟨0, H3, I4, st4, nfp, w0⟩
    rintro n u5 ⟨i, G5, I5, st5, n5, w5⟩
    rcases turn i n G5 w5 with ⟨stop, qq⟩ | ⟨go, Nx, hNx, step⟩
    · refine thnF (T.done (X.blk u3 H3 scope ce fp) rfl rfl rfl hc i [] u5 _ G5 (fun _ _ => False) I5 (blk_stat I5 n5) st5 stop) fun r u6 ⟨hr, I6⟩ => ?_
      subst hr
      have I7 : Inv X pins σ G5 u6 := I3.call' (ch := fp) I6.os I6.base I6.hok I6.bare fun b hb => ⟨(f3 b hb).1.2.2.2.1, (f3 b hb).1.2.1, (f3 b hb).1.2.2.2.2.1, (f3 b hb).1.2.2.2.2.2⟩
      have nC : G5 u3.heap.objs.size = none := by rw [← cL]; exact I6.free
      obtain ⟨m, hn, _⟩ := I6.loc
      have hn : u6.heap.Ns ce.locals m := hn
      exact hE D u3.heap.objs.size u6 m G5 I7 qq (by rw [← cL]; exact hn) (I3.fpOk (Nat.le_refl _) nC)
    · refine thnF (T.item (X.blk u3 H3 scope ce fp) rfl rfl rfl hc i [] u5 _ G5 (fun _ _ => False) I5 (blk_stat I5 n5) st5 go) fun r u6 ⟨u, hr, h6⟩ => ?_
      subst hr
      refine thnF h6 fun _ u7 ⟨x, G7, I7, r7, y7, st7, n7⟩ => ?_
      have I7p := I7.pinned (blk_stat I7 n7) (T.obj _ _ st7)
      refine thnF (pg.run _ u7 _ G7 x u _ I7p r7 (step x G7 y7)) fun _ u8 ⟨τ8, G8, I8, hw8, q8⟩ => ?_
      refine thnF (pt.run _ u8 τ8 G8 _ I8 q8) fun b u9 ⟨G9, I9, q9⟩ => ?_
      have fin : ∀ {τ9 : L2.St} {z : Shared} {G : Hp}, Inv (X.blk u3 H3 scope ce fp) ([] ++ pinsAt fp u7.heap) τ9 G z → (wipe σ (own.map (·.2))).length = τ9.length → (∀ (j : Nat) v, (wipe σ (own.map (·.2)))[j]? = some (some v) → τ9[j]? = some (some v)) → Nx G →
          ∃ m, m < n ∧ ∃ i G, Inv (X.blk u3 H3 scope ce fp) [] (wipe σ (own.map (·.2))) G z ∧ tn i z.heap ∧ (∀ b ∈ fp, G b = none) ∧ W i m G := fun {τ9 z G} J9 hl hk nx => by
        obtain ⟨m2, hm, w2⟩ := hNx G nx
        have pin : ∀ b ∈ fp, ∀ o, u7.heap.get? b = some o → z.heap.get? b = some o ∧ G b = none := fun b hb o e =>
          let p := J9.pin (b, o) (List.mem_append_right _ (List.mem_append_right _ (mem_pinsAt hb e)))
          ⟨p.1, p.2.1⟩
        refine ⟨m2, hm, i + 1, G, (J9.unpinned (pins := [])).weak hl hk, T.keep _ _ _ st7 fun b hb o e => (pin b hb o e).1, fun b hb => ?_, w2⟩
        obtain ⟨o, e, _⟩ := T.obj _ _ st7 b hb
        exact (pin b hb o e).2
      have l8 : (wipe σ (own.map (·.2))).length = τ8.length := by rw [← hw8, wipe_length]
      have k8 : ∀ (j : Nat) v, (wipe σ (own.map (·.2)))[j]? = some (some v) → τ8[j]? = some (some v) := fun j v e => by
        rw [← hw8] at e
        exact (wipe_some e).1
      have k9 : ∀ (j : Nat) v, (wipe σ (own.map (·.2)))[j]? = some (some v) → (wipe τ8 vs1)[j]? = some (some v) := fun j v e => by
        rw [← hw8] at e
        obtain ⟨e1, e2⟩ := wipe_some e
        rw [wipe_out fun z => e2 (hv j z)]
        exact e1
      cases b with
      | false =>
        rw [if_neg (by decide)] at q9 ⊢
        exact fin I9 l8 k8 q9
      | true =>
        rw [if_pos rfl] at q9 ⊢
        refine thnF (pi1.run _ u9 τ8 G9 _ I9 q9) fun xv u10 hx => thnF hx fun itv u11 h11 => ?_
        obtain ⟨it1, fp1, tn1, J1, G11, e1, I11, T1, st11, f11, W1, ⟨m1, w1⟩, turn1⟩ := h11
        subst e1
        have stat1 : ∀ {G : Hp}, (∀ b ∈ fp1, G b = none) → ∀ b ∈ fp1, FpOk (X.blk u3 H3 scope ce fp) ([] ++ pinsAt fp u7.heap) G b := fun hn b hb => ⟨hn b hb, (f11 b hb).2⟩
        have loop1 : codeAny (model X.prog X.w) X.A (.compLoop (.SetComp elt [⟨tg, iter, ifs, 0⟩, ⟨tg1, iter1, ifs1, 0⟩] scope pos) 1 (.ref it1) (.ref D) ce) (fun r z => match r with
              | .ok _ => ∃ m, m < n ∧ ∃ i G, Inv (X.blk u3 H3 scope ce fp) [] (wipe σ (own.map (·.2))) G z ∧ tn i z.heap ∧ (∀ b ∈ fp, G b = none) ∧ W i m G
              | .error _ => False) u11 := by
          refine scLoop_in (fun k z => ∃ j G, Inv (X.blk u3 H3 scope ce fp) ([] ++ pinsAt fp u7.heap) (wipe τ8 vs1) G z ∧ tn1 j z.heap ∧ (∀ b ∈ fp1, G b = none) ∧ W1 j k G) ?_ m1 ⟨0, G11, I11.weak (wipe_length _ _) (fun j v e => (wipe_some e).1), st11, fun b hb => (f11 b hb).1, w1⟩
          rintro k u12 ⟨j, G12, I12, st12, n12, w12⟩
          rcases turn1 j k G12 w12 with ⟨stop1, nx1⟩ | ⟨go1, Nx1, hNx1, step1⟩
          · refine thnF (T1.done (X.blk u3 H3 scope ce fp) rfl rfl rfl hc j _ u12 (wipe τ8 vs1) G12 (fun _ _ => False) I12 (stat1 n12) st12 stop1) fun r u13 ⟨hr, I13⟩ => ?_
            subst hr
            exact fin I13 (l8.trans (wipe_length τ8 vs1).symm) k9 nx1
          · refine thnF (T1.item (X.blk u3 H3 scope ce fp) rfl rfl rfl hc j _ u12 (wipe τ8 vs1) G12 (fun _ _ => False) I12 (stat1 n12) st12 go1) fun r u13 ⟨v1, hr, h13⟩ => ?_
            subst hr
            refine thnF h13 fun _ u14 ⟨x1, G14, I14, r14, y14, st14, n14⟩ => ?_
            have I14p := I14.pinned (stat1 n14) (T1.obj _ _ st14)
            refine last_part K (Y := X.blk u3 H3 scope ce fp) rfl rfl rfl rfl (vs := vs1) rfl pg1 pt1 pe rfl I14p r14 (step1 x1 G14 y14) fun {τ2 z2 G2} I15 hw nx => ?_
            obtain ⟨m2, hm, w2⟩ := hNx1 G2 nx
            have pin : ∀ b ∈ fp1, ∀ o, u14.heap.get? b = some o → z2.heap.get? b = some o ∧ G2 b = none := fun b hb o e =>
              let p := I15.pin (b, o) (List.mem_append_right _ (List.mem_append_right _ (mem_pinsAt hb e)))
              ⟨p.1, p.2.1⟩
            refine ⟨m2, hm, j + 1, G2, I15.unpinned.weak (by rw [← hw, wipe_length]) (fun j v e => by rw [← hw] at e; exact (wipe_some e).1), T1.keep _ _ _ st14 fun b hb o e => (pin b hb o e).1, fun b hb => ?_, w2⟩
            obtain ⟨o, e, _⟩ := T1.obj _ _ st14 b hb
            exact (pin b hb o e).2
        exact scStart1 loop1 (T1.self X.A 0 _ _ _ st11 loop1)
  exact PpSet.codeAny_compStart_set loop (T.self X.A 0 _ _ _ st4 loop)
theorem pe_sc1 (K : SetKind X) (hc : X.calm = true) (hN : X.N.Nodup) (hi : PI X tg iter wi) (ok : BlkOk X.N X.env.scope scope own) (hg : Within X scope fun Y => PG Y tg g) (ht : Within X scope fun Y => PTs Y ifs tt) (he : Within X scope fun Y => PE Y elt te) (hs : ∀ x, foldedSetIterable iter X.env x = pure x := by intro _; rfl) :
    PE X (.SetComp elt [⟨tg, iter, ifs, 0⟩] scope pos) (tSc1 K.O K.add wi g tt te (own.map (·.2))) := by
  refine ⟨fun pins s σ H Q I h => ?_⟩
  rw [PpSet.eval_SetComp]; refine sc1_core K hc hN I hi ok hg ht he hs h fun D C z m G I2 q hn f => ⟨m, hn, fun h'' sb => ?_⟩
  obtain ⟨a0, a1, a2, a3, a4, a5⟩ := f
  exact ⟨.ref D, G, I2.turned (t' := z.toks) (fun b o hb e => (sb.2 b hb).trans e) a0 a1 a3 a4 a5, rfl, q⟩
theorem pe_sc2 (K : SetKind X) (hc : X.calm = true) (hN : X.N.Nodup) (hi : PI X tg iter wi) (ok : BlkOk X.N X.env.scope scope own) (hv : ∀ i ∈ vs1, i ∈ own.map (·.2)) (hg : Within X scope fun Y => PG Y tg g) (ht : Within X scope fun Y => PTs Y ifs tt) (hi1 : Within X scope fun Y => PI Y tg1 iter1 wi1)
    (hg1 : Within X scope fun Y => PG Y tg1 g1) (ht1 : Within X scope fun Y => PTs Y ifs1 tt1) (he : Within X scope fun Y => PE Y elt te) (hs : ∀ x, foldedSetIterable iter X.env x = pure x := by intro _; rfl) (hs1 : ∀ env x, foldedSetIterable iter1 env x = pure x := by intro _ _; rfl) :
    PE X (.SetComp elt [⟨tg, iter, ifs, 0⟩, ⟨tg1, iter1, ifs1, 0⟩] scope pos) (tSc2 K.O K.add wi g tt wi1 g1 tt1 te (own.map (·.2)) vs1) := by
  refine ⟨fun pins s σ H Q I h => ?_⟩
  rw [PpSet.eval_SetComp]; refine sc2_core K hc hN I hi ok hv hg ht hi1 hg1 ht1 he hs hs1 h fun D C z m G I2 q hn f => ⟨m, hn, fun h'' sb => ?_⟩
  obtain ⟨a0, a1, a2, a3, a4, a5⟩ := f
  exact ⟨.ref D, G, I2.turned (t' := z.toks) (fun b o hb e => (sb.2 b hb).trans e) a0 a1 a3 a4 a5, rfl, q⟩
end
end Fd
namespace Fd
open PySem PySem.Spec PyProof.Rows L2
/-! ### xs[-2:0:-1] -/
theorem fmap_congr {α β : Type} {f g : α → Option β} : ∀ {l : List α}, (∀ x ∈ l, f x = g x) → l.filterMap f = l.filterMap g
  | [], _ => rfl
  | a :: l, h => by
    rw [List.filterMap_cons, List.filterMap_cons, h a List.mem_cons_self, fmap_congr fun x hx => h x (List.mem_cons_of_mem _ hx)]
theorem back_pick (its : List Value) (h : 2 ≤ its.length) : slicePick its.toArray (some (-2)) (some 0) (some (-1)) = (((its.drop 1).take (its.length - 2)).reverse).toArray := by
  unfold slicePick
  have hb : sliceBounds (some (-2)) (some 0) (some (-1)) its.toArray.size = ((its.length : Int) - 2, 0, -1) := by
    unfold sliceBounds
    simp
    omega
  rw [hb]
  congr 1
  show (sliceRange ((its.length : Int) - 2) 0 (-1)).filterMap (its.toArray[·]?) = _
  have hr : sliceRange ((its.length : Int) - 2) 0 (-1) = (List.range (its.length - 2)).map fun k => its.length - 2 - k := by
    unfold sliceRange
    by_cases c : (its.length : Int) - 2 > 0
    · have e : ((its.length : Int) - 2 - 0 - -1 - 1) / (- -1) = ((its.length - 2 : Nat) : Int) := by
        rw [show (- -1 : Int) = 1 by decide, Int.ediv_one]
        omega
      simp only [show ¬ ((-1 : Int) > 0) by decide, if_false, c, if_true, e, Int.toNat_natCast]
      refine List.map_congr_left fun k hk => ?_
      have := List.mem_range.mp hk
      omega
    · have e : its.length - 2 = 0 := by omega
      simp only [show ¬ ((-1 : Int) > 0) by decide, if_false, c, e]
      rfl
  rw [hr]
  generalize hL : (its.drop 1).take (its.length - 2) = L
  have lL : L.length = its.length - 2 := by rw [← hL, List.length_take, List.length_drop]; omega
  have e1 : ((List.range (its.length - 2)).map fun k => its.length - 2 - k).filterMap (its.toArray[·]?) = ((List.range L.length).map fun k => L.length - 1 - k).filterMap (L.toArray[·]?) := by
    rw [List.filterMap_map, List.filterMap_map, lL]
    refine fmap_congr fun k hk => ?_
    have := List.mem_range.mp hk
    show its.toArray[its.length - 2 - k]? = L.toArray[its.length - 2 - 1 - k]?
    rw [List.getElem?_toArray, List.getElem?_toArray, ← hL, List.getElem?_take_of_lt (by omega), List.getElem?_drop]
    congr 1
    omega
  have e2 := PySem.W.krv_all L.toArray
  rw [List.size_toArray] at e2
  rw [e1, PySem.W.krv_range, List.filterMap_reverse, e2]
def tBack (K : PySem.W.Frag) (te : TE) : TE := fun σ H Q => te σ H fun x H1 => ∃ a xs, x = .ref a ∧ SqL K H1 a xs ∧ 2 ≤ xs.length ∧ ∀ p, H1 p = none → Q (.ref p) (upd H1 p (.lst ((xs.drop 1).take (xs.length - 2)).reverse))
section
variable {X : Cx}
theorem pe_back {e : Expr} {te : TE} {k1 k2 k3 : Nat} {p1 p2 p3 p4 p5 p6 pos : Pos} (he : PE X e te) : PE X (.Subscript e (.Slice (some (.UnaryOp .USub (.Constant (.int 2) k1 p1) p2)) (some (.Constant (.int 0) k2 p3)) (some (.UnaryOp .USub (.Constant (.int 1) k3 p4) p5)) p6) pos) (tBack X.K te) := by
  refine ⟨fun pins s σ H Q I h => ?_⟩
  refine Subscript_ (thn (he.run pins s σ H _ I h) fun v s1 ⟨x, H1, I1, r1, a, xs, ex, hx, l2, q⟩ => ?_)
  subst ex
  cases r1
  have o1 : PO X (some (.UnaryOp .USub (.Constant (.int 2) k1 p1) p2)) (tPart (tUn (rU fun i => .int (-i)) (tC (.int 2)))) := po_some (pe_un un_neg pe_int)
  have o2 : PO X (some (.Constant (.int 0) k2 p3)) (tPart (tC (.int 0))) := po_some pe_int
  have o3 : PO X (some (.UnaryOp .USub (.Constant (.int 1) k3 p4) p5)) (tPart (tUn (rU fun i => .int (-i)) (tC (.int 1)))) := po_some (pe_un un_neg pe_int)
  refine wpAny_Slice (thn (o1.run pins s1 σ H1 (fun o H2 => o = some (-2) ∧ H2 = H1) I1 ⟨2, rfl, -2, rfl, rfl, rfl⟩) fun vl s2 ⟨l, H2, I2, pl, el, e2⟩ => ?_)
  subst el e2
  refine thn (o2.run pins s2 σ H2 (fun o H3 => o = some 0 ∧ H3 = H2) I2 ⟨0, rfl, rfl, rfl⟩) fun vu s3 ⟨u, H3, I3, pu, eu, e3⟩ => ?_
  subst eu e3
  refine thn (o3.run pins s3 σ H3 (fun o H4 => o = some (-1) ∧ H4 = H3) I3 ⟨1, rfl, -1, rfl, rfl, rfl⟩) fun vs s4 ⟨o, H4, I4, ps, eo, e4⟩ => ?_
  subst eo e4
  have I5 : Inv X pins σ H4 { s4 with heap := s4.heap.push { cls := .type "slice", data := .fields #[vl, vu, vs] } } := I4.kept (t' := s4.toks) fun b ob z => Heap.get?_push_of_some _ z
  obtain ⟨its, r, ht, hz⟩ := I5.list hx
  have hlen := r.length
  refine tail_any (ops := [.ref a, .ref s4.heap.objs.size]) ht.isList.typeIs PySem.slot_list_getitem.lookup (wpAny_getItem_list_slice ht.isList (Heap.IsSliceOf.new _ vl vu vs) pl pu ps (by decide) ?_ (by rw [List.size_toArray]; omega)) (by with_unfolding_all rfl)
  rw [back_pick its (by omega)]
  refine ⟨.ref _, _, I5.laid (t' := s4.toks) (o := .lst ((xs.drop 1).take (xs.length - 2)).reverse) (fun b ob z => Heap.get?_push_of_some _ z) (Nat.le_refl _) ⟨?_, _, 0, ?_, Heap.get?_push_size _ rfl⟩, rfl, q _ (I5.hok.fresh (Nat.le_refl _))⟩
  · rw [List.length_reverse, List.length_take, List.length_drop]
    omega
  · rw [← hlen]
    exact (Vals.take (xs.length - 2) (Vals.drop 1 r)).reverse
end
end Fd
namespace Fd
/-! ### going along rows, some points barred -/
inductive RchS (row : Int → List Int) (bs : List Int) (s : Int) : Int → Prop
  | here : RchS row bs s s
  | step {p q : Int} : RchS row bs s p → q ∈ row p → q ∉ bs → RchS row bs s q
theorem RchS.trans {row : Int → List Int} {bs : List Int} {x y z : Int} (h1 : RchS row bs x y) (h2 : RchS row bs y z) : RchS row bs x z := by
  induction h2 with
  | here => exact h1
  | step _ a b ih => exact .step ih a b
theorem RchS.inside {row : Int → List Int} {bs ks : List Int} {s q : Int} (cl : ∀ k ∈ ks, ∀ j ∈ row k, j ∈ ks) (hs : s ∈ ks) (h : RchS row bs s q) : q ∈ ks := by
  induction h with
  | here => exact hs
  | step _ a _ ih => exact cl _ ih _ a
theorem RchS.free {row : Int → List Int} {bs : List Int} {s q : Int} (hs : s ∉ bs) (h : RchS row bs s q) : q ∉ bs := by
  cases h with
  | here => exact hs
  | step _ _ b => exact b
theorem RchS.symm {row : Int → List Int} {bs : List Int} {s q : Int} (sy : ∀ a b, b ∈ row a → a ∈ row b) (hs : s ∉ bs) (h : RchS row bs s q) : RchS row bs q s := by
  induction h with
  | here => exact .here
  | @step p q hp a b ih =>
    exact (RchS.step .here (sy _ _ a) (hp.free hs)).trans ih
/-- what is found so far: the first i of it have been looked at -/
structure FndS (row : Int → List Int) (bs : List Int) (s : Int) (F : List Int) (i : Nat) : Prop where
  nd : F.Nodup
  rch : ∀ x ∈ F, RchS row bs s x
  has : s ∈ F
  le : i ≤ F.length
  done : ∀ (j : Nat) (x q : Int), j < i → F[j]? = some x → q ∈ row x → q ∉ bs → q ∈ F
theorem FndS.start (row : Int → List Int) (bs : List Int) (s : Int) : FndS row bs s [s] 0 :=
  ⟨by simp, fun x hx => by rw [List.mem_singleton.mp hx]; exact .here, by simp, Nat.zero_le _, fun j x q h => by omega⟩
theorem FndS.len {row : Int → List Int} {bs ks : List Int} {s : Int} {F : List Int} {i : Nat} (h : FndS row bs s F i) (cl : ∀ k ∈ ks, ∀ j ∈ row k, j ∈ ks) (hs : s ∈ ks) : F.length ≤ ks.length :=
  h.nd.length_le_of_subset fun x hx => (h.rch x hx).inside cl hs
theorem FndS.all {row : Int → List Int} {bs : List Int} {s : Int} {F : List Int} (h : FndS row bs s F F.length) (q : Int) : q ∈ F ↔ RchS row bs s q := by
  refine ⟨h.rch q, fun hq => ?_⟩
  induction hq with
  | here => exact h.has
  | step _ a b ih =>
    obtain ⟨j, hj⟩ := List.mem_iff_getElem?.mp ih
    exact h.done j _ _ (List.getElem?_eq_some_iff.mp hj).1 hj a b
structure FndU (row : Int → List Int) (bs : List Int) (s : Int) (F : List Int) (x : Int) (G : List Int) (k : Nat) : Prop where
  nd : (F ++ G).Nodup
  rch : ∀ y ∈ F ++ G, RchS row bs s y
  took : ∀ q ∈ (row x).take k, q ∉ bs → q ∈ F ++ G
theorem FndU.start {row : Int → List Int} {bs : List Int} {s : Int} {F : List Int} {i : Nat} {x : Int} (h : FndS row bs s F i) : FndU row bs s F x [] 0 :=
  ⟨by rw [List.append_nil]; exact h.nd, by rw [List.append_nil]; exact h.rch, fun q hq => by simp at hq⟩
theorem FndU.skip {row : Int → List Int} {bs : List Int} {s : Int} {F G : List Int} {x y : Int} {k : Nat} (h : FndU row bs s F x G k) (e : (row x)[k]? = some y) (hy : y ∈ bs ∨ y ∈ F ++ G) : FndU row bs s F x G (k + 1) := by
  refine ⟨h.nd, h.rch, fun q hq hb => ?_⟩
  rw [take_next e] at hq
  rcases List.mem_append.mp hq with hq | hq
  · exact h.took q hq hb
  · rw [List.mem_singleton.mp hq] at hb ⊢
    exact hy.elim (fun z => absurd z hb) id
theorem FndU.more {row : Int → List Int} {bs : List Int} {s : Int} {F G : List Int} {x y : Int} {k : Nat} (h : FndU row bs s F x G k) (hx : x ∈ F) (e : (row x)[k]? = some y) (hb : y ∉ bs) (hy : y ∉ F ++ G) : FndU row bs s F x (G ++ [y]) (k + 1) := by
  have a := List.mem_of_getElem? e
  refine ⟨?_, fun z hz => ?_, fun q hq hb' => ?_⟩
  · rw [← List.append_assoc]
    refine List.nodup_append.mpr ⟨h.nd, by simp, fun u hu v hv z => ?_⟩
    rw [List.mem_singleton.mp hv] at z
    exact hy (z ▸ hu)
  · rw [← List.append_assoc] at hz
    rcases List.mem_append.mp hz with hz | hz
    · exact h.rch z hz
    · rw [List.mem_singleton.mp hz]
      exact .step (h.rch x (List.mem_append_left _ hx)) a hb
  · rw [← List.append_assoc]
    rw [take_next e] at hq
    rcases List.mem_append.mp hq with hq | hq
    · exact List.mem_append_left _ (h.took q hq hb')
    · exact List.mem_append_right _ hq
theorem FndU.next {row : Int → List Int} {bs : List Int} {s : Int} {F G : List Int} {i : Nat} {x : Int} (h0 : FndS row bs s F i) (ex : F[i]? = some x) (h : FndU row bs s F x G (row x).length) : FndS row bs s (F ++ G) (i + 1) := by
  have hi : i < F.length := (List.getElem?_eq_some_iff.mp ex).1
  refine ⟨h.nd, h.rch, List.mem_append_left _ h0.has, by rw [List.length_append]; omega, fun j y q hj ey a hb => ?_⟩
  have hjF : j < F.length := by omega
  rw [List.getElem?_append_left hjF] at ey
  by_cases e : j = i
  · subst e
    cases Option.some.inj (ey.symm.trans ex)
    refine h.took q ?_ hb
    rw [List.take_length]
    exact a
  · exact List.mem_append_left _ (h0.done j y q (by omega) ey a hb)
end Fd
namespace Fd
open PySem PySem.Spec PyProof.Rows L2
/-- rows as a dict tells them -/
structure DRows (H : Hp) (R : Addr) (ks : List Int) (row : Int → List Int) : Prop where
  ex : ∃ kvs : List (Key × V), Rd H R (.dK kvs) ∧ kvs.map (·.1) = ks.map Sum.inl ∧ ∀ k ∈ ks, ∃ b, valV kvs (Sum.inl k) = some (.ref b) ∧ H b = some (.lst (iL (row k)))
theorem DRows.same {H H' : Hp} {R : Addr} {ks : List Int} {row : Int → List Int} (h : DRows H R ks row) (s : Same H H') : DRows H' R ks row := by
  obtain ⟨kvs, h1, h2, h3⟩ := h.ex
  refine ⟨kvs, ?_, h2, fun k hk => ?_⟩
  · rcases h1 with h1 | ⟨o, h1⟩
    · exact .inl (s _ _ h1)
    · exact .inr ⟨o, s _ _ h1⟩
  · obtain ⟨b, e1, e2⟩ := h3 k hk
    exact ⟨b, e1, s _ _ e2⟩
theorem DRows.get {H : Hp} {R : Addr} {ks : List Int} {row : Int → List Int} (h : DRows H R ks row) {k : Int} (hk : k ∈ ks) : ∃ b, DGet H R (.int k) (some (.ref b)) ∧ H b = some (.lst (iL (row k))) := by
  obtain ⟨kvs, h1, h2, h3⟩ := h.ex
  obtain ⟨b, e1, e2⟩ := h3 k hk
  exact ⟨b, .inl ⟨kvs, Sum.inl k, h1, rfl, e1.symm⟩, e2⟩
def spReachedD (K : PySem.W.Frag) : Sp := fun vs H Q _ => ∃ (R B : Addr) (ks bs : List Int) (row : Int → List Int) (s : Int), vs = [.ref R, .int s, .ref B] ∧ H B = some (.lst (iL bs)) ∧ DRows H R ks row ∧ ks.length ≤ 100 ∧ (∀ k ∈ ks, ∀ j ∈ row k, j ∈ ks) ∧ s ∈ ks ∧
  ∀ (H' : Hp) (D : Addr) (out : List Int), Same H H' → H D = none → H' D = some (.lst (iL out)) → out.Pairwise (· < ·) → (∀ x, x ∈ out ↔ RchS row bs s x) → Q (.ref D) H'
def muU (n : Nat) (σ : L2.St) : Nat := match σ[4]? with
  | some (some (V.int z)) => ((n : Int) - z).toNat
  | _ => 0
section
variable {P : Program} {w : World} {K : PySem.W.Frag} {mg : Str → Option Value} {base : Heap} {C : Addr}
abbrev nReachedD : List Str := ["rows", "start", "barred", "found", "at", "here", "point"]
theorem scReachedD : FnScope nReachedD ["rows", "start", "barred"] (defScope sReached) := ⟨rfl, rfl, rfl, by decide +kernel, rfl, by decide +kernel, by decide +kernel⟩
structure FnR7 (K : PySem.W.Frag) (mg : Str → Option Value) : Prop where
  ex : ∃ (f B0 : Addr) (fd : FuncData), L2.FunD K "reached" "reached" (defArgs sReached) (defBody sReached) (defScope sReached) [.ref B0] [] f fd ∧ mg "reached" = some (.ref f) ∧
    (∃ ds, Vals [.ref B0] ds ∧ Binds K fd ["rows", "start", "barred"] ds) ∧ Binds K fd ["rows", "start", "barred"] [] ∧ ∀ H : Hp, SqT K H B0 []
theorem c_reachedD (T : WTxt K mg C) (F : FnR7 K mg) : C8.Cal P w K mg base 1 "reached" (spReachedD K) [] := by
  obtain ⟨f, B0, fd, F, hm, ⟨ds, hv, b1⟩, b2, hB⟩ := F.ex
  refine ⟨f, fd, _, [], F.ok scReachedD (fun vs H Q E h => ?_) (fun cdv A outer s H vs Q E hr h => ?_), hm, F.kp, b2, .nil⟩
  · obtain ⟨R, B, ks, bs, row, st, rfl, _⟩ := h
    rfl
  · obtain ⟨R, B, ks, bs, row, st, rfl, hB, hR, kl, cl, hst, k⟩ := h
    have hu1 : (A.deeper (envOfC "reached" (defScope sReached) s.heap.objs.size f cdv)).units + 1 < cLine := by
      have := hr.un
      omega
    refine ⟨_, (pss_cons (ps_set (i := 3) scReachedD.nd rfl (Or.inl rfl) (pe_lst (pa_cons (pv 1) pa_nil)))
      (pss_cons (ps_set (i := 4) scReachedD.nd rfl (Or.inl rfl) pe_int)
      (pss_cons (ps_while PassesOwn.never (pt_cmpR op_lt (pv 4) (pe_callB call_len_seq (by rfl) T.len PySem.boot_len (pa_cons (pv 3) pa_nil)) (nomark _))
        (pss_cons (ps_set (i := 5) scReachedD.nd rfl (Or.inl rfl) (pe_ix ix_list (pv 3) (pv 4) (fun _ _ => rfl)))
        (pss_cons (ps_for PassesOwn.never rfl (pi_list (pe_dget hu1 (pv 0) (pv 5) (fun _ _ => rfl))) (pg_name (i := 6) scReachedD.nd rfl (Or.inl rfl))
          (pss_one (ps_if (PW.pt (pw_and (pt_cmpR op_notIn_seq (pv 6) (pv 2) (by rfl)) (pw_and1 (pt_cmpR op_notIn_seq (pv 6) (pv 3) (by rfl)))))
            (pss_one (ps_expr (pe_bm PySem.F.plainAttrs_list PySem.F.slot_list_append PySem.F.type_list_append mt_append (pv 3) (pa_cons (pv 6) pa_nil)))) pss_nil)))
        (pss_one (ps_aug (i := 4) scReachedD.nd rfl (.inl rfl) pe_int ip_add)))))
      (pss_one (ps_ret (pe_callB (id := "sorted") (r := rSortedI K) cr_sortedI (by rfl) T.sorted (by decide +kernel) (pa_cons (pv 3) pa_nil))))))).nox, ?_⟩
    refine ⟨_, rfl, by show 1 ≤ sizeLine; decide, fun D hD => ?_⟩
    refine while_by (fun σ H1 => ∃ (i : Nat) (F : List Int) (v5 v6 : Option V), σ = [some (.ref R), some (.int st), some (.ref B), some (.ref D), some (.int i), v5, v6] ∧ Same H H1 ∧ H1 D = some (.lst (iL F)) ∧ FndS row bs st F i) (fun σ _ => muU ks.length σ)
      ⟨0, [st], none, none, rfl, Same.put hD, upd_same, FndS.start row bs st⟩ ?_ ?_
    · rintro σ H1 ⟨i, F, v5, v6, rfl, s1, d1, fn⟩
      refine ⟨_, rfl, _, rfl, D, iL F, rfl, .inl (SqL.of d1), (i : Int), _, rfl, rfl, _, rfl, ?_⟩
      rw [List.length_map]
      have hlen := fn.len cl hst
      by_cases hi : i < F.length
      · refine yep_ (decide_eq_true (by omega)) ?_
        have ex : F[i]? = some F[i] := List.getElem?_eq_getElem hi
        generalize F[i] = x at ex
        have xF : x ∈ F := List.mem_of_getElem? ex
        have hx := (fn.rch x xF).inside cl hst
        obtain ⟨b, eb, hb⟩ := (hR.same s1).get hx
        have hb0 : H b = some (.lst (iL (row x))) := by
          obtain ⟨b', eb', hb'⟩ := hR.get hx
          obtain ⟨kvs, h1, h2, h3⟩ := hR.ex
          have e2 : b' = b := by
            rcases eb' with ⟨kv1, k1, r1, y1, v1⟩ | ⟨_, _, _, _, z, _⟩
            · rcases eb with ⟨kv2, k2, r2, y2, v2⟩ | ⟨_, _, _, _, z, _⟩
              · have ek : k1 = k2 := kV_inj (y1.symm.trans y2)
                have ekv : kv1 = kv2 := by
                  rcases r1 with r1 | ⟨o1, r1⟩ <;> rcases r2 with r2 | ⟨o2, r2⟩ <;> have z := (s1 _ _ r1).symm.trans r2 <;> cases z <;> rfl
                rw [ek, ekv] at v1
                exact V.ref.inj (Option.some.inj (v1.trans v2.symm))
              · cases z
            · cases z
          rw [← e2]
          exact hb'
        -- here = found[at]; for point in rows[here]
        refine ⟨_, rfl, _, rfl, D, iL F, (i : Int), .int x, rfl, rfl, SqL.of d1, atI_nat (iL_get ex), ?_⟩
        refine ⟨_, rfl, _, rfl, R, .ref b, rfl, eb, b, rfl, ⟨_, SqL.of hb⟩, for_list (K := K) (a := b) (xs := iL (row x))
          (fun q σ H2 => ∃ (G : List Int) (v6 : Option V), σ = [some (.ref R), some (.int st), some (.ref B), some (.ref D), some (.int i), some (.int x), v6] ∧ Same H H2 ∧ H2 D = some (.lst (iL (F ++ G))) ∧ FndU row bs st F x G q)
          ⟨[], _, rfl, s1, by rw [List.append_nil]; exact d1, FndU.start fn⟩ (fun q σ H2 _ ⟨_, _, _, s2, _⟩ => SqL.of (s2 _ _ hb0)) ?_ ?_⟩
        · rintro q y σ H2 hq ⟨G, v6, rfl, s2, d2, ft⟩
          obtain ⟨z, ez, rfl⟩ := iL_at hq
          refine ⟨_, rfl, _, rfl, B, iL bs, rfl, .inl (SqL.of (s2 _ _ hB)), rfl, flat_ints _, _, rfl, ?_⟩
          have einb := inV_ints bs z
          by_cases c1 : z ∈ bs
          · refine no_ (show (!inV (.int z) (iL bs)) = false by rw [einb, decide_eq_true c1]; rfl) ?_
            refine iteF ?_
            exact ⟨G, _, rfl, s2, d2, ft.skip ez (.inl c1)⟩
          · refine yep_ (show (!inV (.int z) (iL bs)) = true by rw [einb, decide_eq_false c1]; rfl) ?_
            refine ⟨_, rfl, _, rfl, D, iL (F ++ G), rfl, .inl (SqL.of d2), rfl, flat_ints _, _, rfl, ?_⟩
            have ein := inV_ints (F ++ G) z
            by_cases c2 : z ∈ F ++ G
            · refine no_ (show (!inV (.int z) (iL (F ++ G))) = false by rw [ein, decide_eq_true c2]; rfl) ?_
              exact ⟨G, _, rfl, s2, d2, ft.skip ez (.inr c2)⟩
            · refine yep_ (show (!inV (.int z) (iL (F ++ G))) = true by rw [ein, decide_eq_false c2]; rfl) ?_
              have ft' := ft.more xF ez c1 c2
              have l : (F ++ G).length ≤ ks.length := ft.nd.length_le_of_subset fun x hx => (ft.rch x hx).inside cl hst
              refine ⟨_, rfl, .inl ⟨rfl, _, SqL.of d2⟩, _, rfl, D, _, _, rfl, rfl, d2, by rw [List.length_map]; exact small (by omega), ?_⟩
              refine ⟨G ++ [z], _, rfl, Same.write s2 hD, ?_, ft'⟩
              rw [upd_same, ← List.append_assoc]
              unfold iL
              rw [List.map_append (l₁ := F ++ G)]
              rfl
        · rintro σ H2 ⟨G, v6, rfl, s2, d2, ft⟩
          rw [List.length_map] at ft
          refine ⟨_, rfl, (i : Int), 1, rfl, rfl, ⟨i + 1, F ++ G, _, _, rfl, s2, d2, FndU.next fn ex ft⟩, ?_⟩
          show ((ks.length : Int) - ((i : Int) + 1)).toNat < ((ks.length : Int) - (i : Int)).toNat
          omega
      · refine no_ (decide_eq_false (by omega)) ?_
        have ei : i = F.length := by
          have := fn.le
          omega
        subst ei
        refine ⟨_, rfl, D, F, rfl, SqL.of d1, fun ns p hp ho hn => ?_⟩
        exact k _ p ns (Same.step s1 hn) (s1.free hn) upd_same (strict_of_le ho (hp.nodup_iff.mpr fn.nd)) fun x => by rw [hp.mem_iff]; exact fn.all x
    · rintro σ H1 Q1 Q2 hq ⟨v, e1, u, e2, p, ys, e3, h1, i, j, e4, e5, c, e6, q⟩
      exact ⟨v, e1, u, e2, p, ys, e3, h1, i, j, e4, e5, c, e6, hq _ _ q⟩
end
end Fd
namespace Fd
/-! ### a way through some points -/
def stp (xs : List Int) : List (Int × Int) := xs.zip xs.tail
theorem stp_cons (x y : Int) (r : List Int) : stp (x :: y :: r) = (x, y) :: stp (y :: r) := rfl
theorem stp_snoc : ∀ (l : List Int) (e y : Int), l.getLast? = some e → stp (l ++ [y]) = stp l ++ [(e, y)]
  | [], e, y, h => by simp at h
  | [a], e, y, h => by
    have : a = e := by simpa using h
    subst this
    rfl
  | a :: b :: l, e, y, h => by
    have ih := stp_snoc (b :: l) e y (by simpa using h)
    show (a, b) :: stp (b :: l ++ [y]) = (a, b) :: (stp (b :: l)) ++ [(e, y)]
    rw [ih]
    rfl
structure PathW (row : Int → List Int) (s : Int) (l : List Int) (e : Int) : Prop where
  hd : l.head? = some s
  lt : l.getLast? = some e
  nd : l.Nodup
  adj : ∀ p ∈ stp l, p.2 ∈ row p.1
theorem PathW.one (row : Int → List Int) (s : Int) : PathW row s [s] s := ⟨rfl, rfl, by simp, fun p hp => by cases hp⟩
theorem PathW.more {row : Int → List Int} {s e y : Int} {l : List Int} (h : PathW row s l e) (a : y ∈ row e) (n : y ∉ l) : PathW row s (l ++ [y]) y := by
  have l0 : l ≠ [] := fun e0 => by
    have := h.hd
    rw [e0] at this
    cases this
  refine ⟨?_, by simp, List.nodup_append.mpr ⟨h.nd, by simp, fun u hu v hv z => ?_⟩, fun p hp => ?_⟩
  · cases l with
    | nil => exact absurd rfl l0
    | cons a r => exact h.hd
  · rw [List.mem_singleton.mp hv] at z
    exact n (z ▸ hu)
  · rw [stp_snoc _ _ _ h.lt] at hp
    rcases List.mem_append.mp hp with z | z
    · exact h.adj p z
    · rw [List.mem_singleton.mp z]
      exact a
/-- going within some points -/
inductive RchI (row : Int → List Int) (th : List Int) (s : Int) : Int → Prop
  | here : RchI row th s s
  | step {p q : Int} : RchI row th s p → q ∈ row p → q ∈ th → RchI row th s q
/-- what is met so far, each with a way to it; behind the first i of them has been looked -/
structure MetI (row : Int → List Int) (th : List Int) (s goal : Int) (M : List Int) (W : List (List Int)) (i : Nat) : Prop where
  nd : M.Nodup
  inn : ∀ x ∈ M, x ∈ th
  has : s ∈ M
  le : i ≤ M.length
  len : W.length = M.length
  way : ∀ (j : Nat) (x : Int) (l : List Int), M[j]? = some x → W[j]? = some l → PathW row s l x ∧ ∀ y ∈ l, y ∈ M
  done : ∀ (j : Nat) (x : Int), j < i → M[j]? = some x → goal ∉ row x ∧ ∀ q ∈ row x, q ∈ th → q ∈ M
theorem MetI.start {row : Int → List Int} {th : List Int} {s : Int} (goal : Int) (hs : s ∈ th) : MetI row th s goal [s] [[s]] 0 := by
  refine ⟨by simp, fun x hx => by rw [List.mem_singleton.mp hx]; exact hs, by simp, Nat.zero_le _, rfl, fun j x l h1 h2 => ?_, fun j x h => by omega⟩
  cases j with
  | zero =>
    cases Option.some.inj h1
    cases Option.some.inj h2
    exact ⟨PathW.one row s, fun y hy => hy⟩
  | succ j => simp at h1
theorem MetI.go {row : Int → List Int} {th : List Int} {s goal : Int} {M : List Int} {W : List (List Int)} {i : Nat} (h : MetI row th s goal M W i) (ex : ∃ p, RchI row th s p ∧ goal ∈ row p) : i < M.length := by
  rcases Nat.lt_or_ge i M.length with c | c
  · exact c
  · exfalso
    obtain ⟨p, hp, hg⟩ := ex
    have all : ∀ q, RchI row th s q → q ∈ M := fun q hq => by
      induction hq with
      | here => exact h.has
      | step _ a b ih =>
        obtain ⟨j, hj⟩ := List.mem_iff_getElem?.mp ih
        have := (List.getElem?_eq_some_iff.mp hj).1
        exact (h.done j _ (by omega) hj).2 _ a b
    obtain ⟨j, hj⟩ := List.mem_iff_getElem?.mp (all p hp)
    have := (List.getElem?_eq_some_iff.mp hj).1
    exact (h.done j p (by omega) hj).1 hg
/-- within a turn at x, the i-th -/
structure MetU (row : Int → List Int) (th : List Int) (s goal : Int) (i : Nat) (x : Int) (l : List Int) (M : List Int) (W : List (List Int)) (k : Nat) : Prop where
  nd : M.Nodup
  inn : ∀ x ∈ M, x ∈ th
  has : s ∈ M
  lt : i < M.length
  len : W.length = M.length
  way : ∀ (j : Nat) (x : Int) (l : List Int), M[j]? = some x → W[j]? = some l → PathW row s l x ∧ ∀ y ∈ l, y ∈ M
  done : ∀ (j : Nat) (x : Int), j < i → M[j]? = some x → goal ∉ row x ∧ ∀ q ∈ row x, q ∈ th → q ∈ M
  atM : M[i]? = some x
  atW : W[i]? = some l
  took : ∀ q ∈ (row x).take k, q ∈ th → q ∈ M
theorem MetU.start {row : Int → List Int} {th : List Int} {s goal : Int} {M : List Int} {W : List (List Int)} {i : Nat} {x : Int} {l : List Int} (h : MetI row th s goal M W i) (e1 : M[i]? = some x) (e2 : W[i]? = some l) : MetU row th s goal i x l M W 0 :=
  ⟨h.nd, h.inn, h.has, (List.getElem?_eq_some_iff.mp e1).1, h.len, h.way, h.done, e1, e2, fun q hq => by simp at hq⟩
theorem MetU.skip {row : Int → List Int} {th : List Int} {s goal : Int} {M : List Int} {W : List (List Int)} {i : Nat} {x y : Int} {l : List Int} {k : Nat} (h : MetU row th s goal i x l M W k) (e : (row x)[k]? = some y) (hy : y ∉ th ∨ y ∈ M) : MetU row th s goal i x l M W (k + 1) := by
  refine ⟨h.nd, h.inn, h.has, h.lt, h.len, h.way, h.done, h.atM, h.atW, fun q hq ht => ?_⟩
  rw [take_next e] at hq
  rcases List.mem_append.mp hq with hq | hq
  · exact h.took q hq ht
  · rw [List.mem_singleton.mp hq] at ht ⊢
    exact hy.elim (fun z => absurd ht z) id
theorem MetU.more {row : Int → List Int} {th : List Int} {s goal : Int} {M : List Int} {W : List (List Int)} {i : Nat} {x y : Int} {l : List Int} {k : Nat} (h : MetU row th s goal i x l M W k) (e : (row x)[k]? = some y) (ht : y ∈ th) (hy : y ∉ M) : MetU row th s goal i x l (M ++ [y]) (W ++ [l ++ [y]]) (k + 1) := by
  obtain ⟨w1, w2⟩ := h.way i x l h.atM h.atW
  have up : ∀ z ∈ M, z ∈ M ++ [y] := fun z hz => List.mem_append_left _ hz
  refine ⟨?_, fun z hz => ?_, up _ h.has, by rw [List.length_append]; have := h.lt; omega, by simp [h.len], fun j z r e1 e2 => ?_, fun j z hj e1 => ?_, by rw [List.getElem?_append_left h.lt]; exact h.atM, by rw [List.getElem?_append_left (by rw [h.len]; exact h.lt)]; exact h.atW, fun q hq hq2 => ?_⟩
  · refine List.nodup_append.mpr ⟨h.nd, by simp, fun u hu v hv z => ?_⟩
    rw [List.mem_singleton.mp hv] at z
    exact hy (z ▸ hu)
  · rcases List.mem_append.mp hz with z1 | z1
    · exact h.inn z z1
    · rw [List.mem_singleton.mp z1]; exact ht
  · by_cases c : j < M.length
    · rw [List.getElem?_append_left c] at e1
      rw [List.getElem?_append_left (by rw [h.len]; exact c)] at e2
      obtain ⟨a, b⟩ := h.way j z r e1 e2
      exact ⟨a, fun v hv => up _ (b v hv)⟩
    · have c' : M.length ≤ j := by omega
      rw [List.getElem?_append_right c'] at e1
      rw [List.getElem?_append_right (by rw [h.len]; exact c')] at e2
      obtain ⟨_, e1⟩ := List.getElem?_eq_some_iff.mp e1
      obtain ⟨_, e2⟩ := List.getElem?_eq_some_iff.mp e2
      simp only [List.getElem_singleton] at e1 e2
      subst e1
      subst e2
      refine ⟨w1.more (List.mem_of_getElem? e) fun z => hy (w2 _ z), fun v hv => ?_⟩
      rcases List.mem_append.mp hv with q | q
      · exact up _ (w2 v q)
      · exact List.mem_append_right _ q
  · rw [List.getElem?_append_left (by have := h.lt; omega)] at e1
    obtain ⟨a, b⟩ := h.done j z hj e1
    exact ⟨a, fun q hq hq2 => up _ (b q hq hq2)⟩
  · rw [take_next e] at hq
    rcases List.mem_append.mp hq with z | z
    · exact up _ (h.took q z hq2)
    · exact List.mem_append_right _ z
theorem MetU.next {row : Int → List Int} {th : List Int} {s goal : Int} {M : List Int} {W : List (List Int)} {i : Nat} {x : Int} {l : List Int} (h : MetU row th s goal i x l M W (row x).length) (ng : goal ∉ row x) : MetI row th s goal M W (i + 1) := by
  refine ⟨h.nd, h.inn, h.has, h.lt, h.len, h.way, fun j z hj e1 => ?_⟩
  by_cases c : j = i
  · subst c
    cases Option.some.inj (e1.symm.trans h.atM)
    refine ⟨ng, fun q hq hq2 => h.took q ?_ hq2⟩
    rw [List.take_length]
    exact hq
  · exact h.done j z (by omega) e1
end Fd
namespace Fd
open PySem PySem.Spec PyProof.Rows L2
def muW (n : Nat) (σ : L2.St) : Nat := match σ[6]? with
  | some (some (V.int z)) => ((n : Int) - z).toNat
  | _ => 0
theorem RowsAt.off {H0 H : Hp} {R D : Addr} {as : List Addr} {rss : List (List Int)} {o : HO} (h : RowsAt H0 H R as rss) (d1 : R ≠ D) (d2 : D ∉ as) : RowsAt H0 (upd H D o) R as rss :=
  ⟨by rw [upd_ne d1]; exact h.top, h.new, h.len, h.nd, h.out, fun i a r e1 e2 => ⟨(h.row i a r e1 e2).1, by
    rw [upd_ne (show a ≠ D from fun z => d2 (z ▸ List.mem_of_getElem? e1))]
    exact (h.row i a r e1 e2).2⟩⟩
theorem DRows.got {H H1 : Hp} {R : Addr} {ks : List Int} {row : Int → List Int} (h : DRows H R ks row) (s1 : Same H H1) {x : Int} (hx : x ∈ ks) : ∃ b, DGet H1 R (.int x) (some (.ref b)) ∧ H b = some (.lst (iL (row x))) := by
  obtain ⟨kvs, h1, h2, h3⟩ := h.ex
  obtain ⟨b, e1, e2⟩ := h3 x hx
  refine ⟨b, .inl ⟨kvs, Sum.inl x, ?_, rfl, e1.symm⟩, e2⟩
  rcases h1 with h1 | ⟨o, h1⟩
  · exact .inl (s1 _ _ h1)
  · exact .inr ⟨o, s1 _ _ h1⟩
def spWay (K : PySem.W.Frag) : Sp := fun vs H Q _ => ∃ (R B : Addr) (ks th : List Int) (row : Int → List Int) (s goal : Int), vs = [.ref R, .int s, .int goal, .ref B] ∧ H B = some (.lst (iL th)) ∧ DRows H R ks row ∧ ks.length ≤ 100 ∧ (∀ k ∈ ks, ∀ j ∈ row k, j ∈ ks) ∧ (∀ k ∈ th, k ∈ ks) ∧ s ∈ th ∧ (∃ p, RchI row th s p ∧ goal ∈ row p) ∧ th.Nodup ∧
  ∀ (H' : Hp) (D : Addr) (l : List Int) (e : Int), Same H H' → H D = none → H' D = some (.lst (iL (l ++ [goal]))) → PathW row s l e → goal ∈ row e → (∀ x ∈ l, x ∈ th) → Q (.ref D) H'
section
variable {P : Program} {w : World} {K : PySem.W.Frag} {mg : Str → Option Value} {base : Heap} {C : Addr}
abbrev nWay : List Str := ["rows", "start", "goal", "through", "ways", "met", "at", "here", "point"]
theorem scWay : FnScope nWay ["rows", "start", "goal", "through"] (defScope sWay) := ⟨rfl, rfl, rfl, by decide +kernel, rfl, by decide +kernel, by decide +kernel⟩
theorem c_way (T : WTxt K mg C) (FW : Fn K mg "way" sWay ["rows", "start", "goal", "through"]) : C8.Cal P w K mg base 1 "way" (spWay K) [] := by
  refine cal_of FW scWay (fun vs H Q E h => ?_) (fun f cdv A outer s H vs Q E hr h => ?_)
  · obtain ⟨R, B, ks, th, row, st, goal, rfl, _⟩ := h
    rfl
  · obtain ⟨R, B, ks, th, row, st, goal, rfl, hB, hR, kl, cl, tk, hst, hex, tnd, k⟩ := h
    have hu1 : (A.deeper (envOfC "way" (defScope sWay) s.heap.objs.size f cdv)).units + 1 < cLine := by
      have := hr.un
      omega
    refine ⟨_, pss_cons (ps_set (i := 4) scWay.nd rfl (Or.inl rfl) (pe_lst (pa_cons (pe_lst (pa_cons (pv 1) pa_nil)) pa_nil)))
      (pss_cons (ps_set (i := 5) scWay.nd rfl (Or.inl rfl) (pe_lst (pa_cons (pv 1) pa_nil)))
      (pss_cons (ps_set (i := 6) scWay.nd rfl (Or.inl rfl) pe_int)
      (pss_cons (ps_while PassesOwn.never (pt_cmpR op_notIn_seq (pv 2) (pe_dget hu1 (pv 0) (pe_ix ix_list (pv 5) (pv 6) (fun _ _ => rfl)) (fun _ _ => rfl)) (by rfl))
        (pss_cons (ps_set (i := 7) scWay.nd rfl (Or.inl rfl) (pe_ix ix_list (pv 5) (pv 6) (fun _ _ => rfl)))
        (pss_cons (ps_for PassesOwn.never rfl (pi_list (pe_dget hu1 (pv 0) (pv 7) (fun _ _ => rfl))) (pg_name (i := 8) scWay.nd rfl (Or.inl rfl))
          (pss_one (ps_if (PW.pt (pw_and (pt_cmpR op_in_seq (pv 8) (pv 3) (by rfl)) (pw_and1 (pt_cmpR op_notIn_seq (pv 8) (pv 5) (by rfl)))))
            (pss_cons (ps_expr (pe_bm PySem.F.plainAttrs_list PySem.F.slot_list_append PySem.F.type_list_append mt_append (pv 5) (pa_cons (pv 8) pa_nil)))
            (pss_one (ps_expr (pe_bm PySem.F.plainAttrs_list PySem.F.slot_list_append PySem.F.type_list_append mt_append (pv 4) (pa_cons (pe_op op_cat (pe_ix ix_list (pv 4) (pv 6) (fun _ _ => rfl)) (pe_lst (pa_cons (pv 8) pa_nil))) pa_nil))))) pss_nil)))
        (pss_one (ps_aug (i := 6) scWay.nd rfl (.inl rfl) pe_int ip_add)))))
      (pss_one (ps_ret (pe_op op_cat (pe_ix ix_list (pv 4) (pv 6) (fun _ _ => rfl)) (pe_lst (pa_cons (pv 2) pa_nil)))))))), ?_⟩
    refine ⟨_, rfl, by show 1 ≤ sizeLine; decide, fun p0 hp0 => ⟨by show 1 ≤ sizeLine; decide, fun W hW => ?_⟩⟩
    have W0 : W ≠ p0 := (ne_of_none upd_same hW).symm
    have HW : H W = none := by
      rw [upd_ne W0] at hW
      exact hW
    refine ⟨_, rfl, by show 1 ≤ sizeLine; decide, fun D hD => ?_⟩
    have DW : W ≠ D := ne_of_none upd_same hD
    have D0 : p0 ≠ D := ne_of_none (by rw [upd_ne W0.symm]; exact upd_same) hD
    have HD : H D = none := by
      rw [upd_ne DW.symm, upd_ne D0.symm] at hD
      exact hD
    have tl : th.length ≤ 100 := Nat.le_trans (tnd.length_le_of_subset fun x hx => tk x hx) kl
    refine while_by (fun σ H1 => ∃ (i : Nat) (M : List Int) (Ws : List (List Int)) (as : List Addr) (v7 v8 : Option V), σ = [some (.ref R), some (.int st), some (.int goal), some (.ref B), some (.ref W), some (.ref D), some (.int i), v7, v8] ∧ Same H H1 ∧ H1 D = some (.lst (iL M)) ∧ RowsAt H H1 W as Ws ∧ D ∉ as ∧ MetI row th st goal M Ws i) (fun σ _ => muW th.length σ)
      ⟨0, [st], [[st]], [p0], none, none, rfl, Same.step (Same.step (Same.put hp0) hW) hD, upd_same, ⟨by rw [upd_ne DW, upd_same]; rfl, HW, rfl, by simp, by simpa using W0, fun j a r e1 e2 => ?_⟩, by simpa using D0.symm, MetI.start goal hst⟩ ?_ ?_
    · cases j with
      | zero =>
        cases Option.some.inj e1
        cases Option.some.inj e2
        exact ⟨hp0, by rw [upd_ne D0, upd_ne W0.symm]; exact upd_same⟩
      | succ j => simp at e1
    · rintro σ H1 ⟨i, M, Ws, as, v7, v8, rfl, s1, d1, rw1, das, me⟩
      have hi := me.go hex
      have Ml : M.length ≤ th.length := me.nd.length_le_of_subset fun x hx => me.inn x hx
      obtain ⟨x, ex⟩ : ∃ x, M[i]? = some x := ⟨_, List.getElem?_eq_getElem hi⟩
      obtain ⟨l, el⟩ : ∃ l, Ws[i]? = some l := ⟨_, List.getElem?_eq_getElem (by rw [me.len]; exact hi)⟩
      have xM : x ∈ M := List.mem_of_getElem? ex
      have xk : x ∈ ks := tk x (me.inn x xM)
      obtain ⟨b, eb, hb⟩ := hR.got s1 xk
      obtain ⟨w1, w2⟩ := me.way i x l ex el
      have ll : l.length ≤ 100 := Nat.le_trans (w1.nd.length_le_of_subset fun y hy => w2 y hy) (by omega)
      have eing := inV_ints (row x) goal
      refine ⟨_, rfl, _, rfl, _, rfl, _, rfl, D, iL M, (i : Int), .int x, rfl, rfl, SqL.of d1, atI_nat (iL_get ex), R, .ref b, rfl, eb, b, iL (row x), rfl, .inl (SqL.of (s1 _ _ hb)), rfl, flat_ints _, _, rfl, ?_⟩
      by_cases cg : goal ∈ row x
      · refine no_ (show (!inV (.int goal) (iL (row x))) = false by rw [eing, decide_eq_true cg]; rfl) ?_
        obtain ⟨a, ea, ea2, ha0, ha⟩ := rw1.get el
        refine ⟨_, rfl, _, rfl, W, as.map V.ref, (i : Int), .ref a, rfl, rfl, SqL.of rw1.top, atI_nat ea2, ?_⟩
        refine ⟨_, rfl, by show 1 ≤ sizeLine; decide, fun q hq => ⟨a, q, iL l, [.int goal], rfl, rfl, (Same.put hq) _ _ ha, upd_same, by rw [List.length_map]; exact smalle (by show _ + 1 ≤ 1000; omega), fun p hp => ?_⟩⟩
        have s2 := s1.trans (Same.put (o := .lst [.int goal]) hq)
        have eq : iL l ++ [V.int goal] = iL (l ++ [goal]) := by
          unfold iL
          rw [List.map_append]
          rfl
        rw [eq]
        exact k _ p l x (Same.step s2 hp) (s2.free hp) upd_same w1 cg fun y hy => me.inn y (w2 y hy)
      · refine yep_ (show (!inV (.int goal) (iL (row x))) = true by rw [eing, decide_eq_false cg]; rfl) ?_
        refine ⟨_, rfl, _, rfl, D, iL M, (i : Int), .int x, rfl, rfl, SqL.of d1, atI_nat (iL_get ex), ?_⟩
        refine ⟨_, rfl, _, rfl, R, .ref b, rfl, eb, b, rfl, ⟨_, SqL.of (s1 _ _ hb)⟩, for_list (K := K) (a := b) (xs := iL (row x))
          (fun q σ H2 => ∃ (M2 : List Int) (Ws2 : List (List Int)) (as2 : List Addr) (v8 : Option V), σ = [some (.ref R), some (.int st), some (.int goal), some (.ref B), some (.ref W), some (.ref D), some (.int i), some (.int x), v8] ∧ Same H H2 ∧ H2 D = some (.lst (iL M2)) ∧ RowsAt H H2 W as2 Ws2 ∧ D ∉ as2 ∧ MetU row th st goal i x l M2 Ws2 q)
          ⟨M, Ws, as, _, rfl, s1, d1, rw1, das, MetU.start me ex el⟩ (fun q σ H2 _ ⟨_, _, _, _, _, s2, _⟩ => SqL.of (s2 _ _ hb)) ?_ ?_⟩
        · rintro q y σ H2 hq ⟨M2, Ws2, as2, v8, rfl, s2, d2, rw2, das2, ft⟩
          obtain ⟨z, ez, rfl⟩ := iL_at hq
          have M2l : M2.length ≤ th.length := ft.nd.length_le_of_subset fun x hx => ft.inn x hx
          refine ⟨_, rfl, _, rfl, B, iL th, rfl, .inl (SqL.of (s2 _ _ hB)), rfl, flat_ints _, _, rfl, ?_⟩
          have einb := inV_ints th z
          by_cases c1 : z ∈ th
          · refine yep_ (show inV (.int z) (iL th) = true by rw [einb, decide_eq_true c1]) ?_
            refine ⟨_, rfl, _, rfl, D, iL M2, rfl, .inl (SqL.of d2), rfl, flat_ints _, _, rfl, ?_⟩
            have ein := inV_ints M2 z
            by_cases c2 : z ∈ M2
            · refine no_ (show (!inV (.int z) (iL M2)) = false by rw [ein, decide_eq_true c2]; rfl) ?_
              exact ⟨M2, Ws2, as2, _, rfl, s2, d2, rw2, das2, ft.skip ez (.inr c2)⟩
            · refine yep_ (show (!inV (.int z) (iL M2)) = true by rw [ein, decide_eq_false c2]; rfl) ?_
              have ft' := ft.more ez c1 c2
              refine ⟨_, rfl, .inl ⟨rfl, _, SqL.of d2⟩, _, rfl, D, _, _, rfl, rfl, d2, by rw [List.length_map]; exact small (by omega), ?_⟩
              obtain ⟨a, ea, ea2, ha0, ha⟩ := rw2.get ft.atW
              have HD2 : RowsAt H (upd H2 D (.lst (iL M2 ++ [V.int z]))) W as2 Ws2 := rw2.off DW das2
              have s3 : Same H (upd H2 D (.lst (iL M2 ++ [V.int z]))) := Same.write s2 HD
              have aD : a ≠ D := fun e => das2 (e ▸ List.mem_of_getElem? ea)
              have eM : iL M2 ++ [V.int z] = iL (M2 ++ [z]) := by
                unfold iL
                rw [List.map_append]
                rfl
              have eq : iL l ++ [V.int z] = iL (l ++ [z]) := by
                unfold iL
                rw [List.map_append]
                rfl
              refine ⟨_, rfl, .inl ⟨rfl, _, SqL.of HD2.top⟩, _, rfl, _, rfl, W, as2.map V.ref, (i : Int), .ref a, rfl, rfl, SqL.of HD2.top, atI_nat ea2, ?_⟩
              have ha3 : (upd H2 D (.lst (iL M2 ++ [V.int z]))) a = some (.lst (iL l)) := by rw [upd_ne aD]; exact ha
              refine ⟨_, rfl, by show 1 ≤ sizeLine; decide, fun q hq => ⟨a, q, iL l, [.int z], rfl, rfl, (Same.put hq) _ _ ha3, upd_same, by rw [List.length_map]; exact smalle (by show _ + 1 ≤ 1000; omega), fun p hp => ?_⟩⟩
              have s4 := Same.put (o := .lst [.int z]) hq
              have HD4 := HD2.same s4
              have s34 := s3.trans s4
              have d4 := s4 _ _ (show (upd H2 D (.lst (iL M2 ++ [V.int z]))) D = _ from upd_same)
              rw [eq]
              generalize upd (upd H2 D (.lst (iL M2 ++ [V.int z]))) q (.lst [.int z]) = H4 at *
              have Wl : (as2.map V.ref).length ≤ 100 := by
                rw [List.length_map, rw2.len, ft.len]
                omega
              have sp := Same.put (o := .lst (iL (l ++ [z]))) hp
              refine ⟨W, as2.map V.ref, _, rfl, rfl, sp _ _ HD4.top, small (by omega), ?_⟩
              have dp : D ≠ p := ne_of_none d4 hp
              have Wp : W ≠ p := ne_of_none HD4.top hp
              refine ⟨M2 ++ [z], Ws2 ++ [l ++ [z]], as2 ++ [p], _, rfl, Same.write (s34.trans sp) HW, ?_, HD4.more s34 hp, ?_, ft'⟩
              · rw [upd_ne DW.symm, upd_ne dp, d4, eM]
              · intro hm
                rcases List.mem_append.mp hm with hm | hm
                · exact das2 hm
                · exact dp (List.mem_singleton.mp hm)
          · refine no_ (show inV (.int z) (iL th) = false by rw [einb, decide_eq_false c1]) ?_
            exact ⟨M2, Ws2, as2, _, rfl, s2, d2, rw2, das2, ft.skip ez (.inl c1)⟩
        · rintro σ H2 ⟨M2, Ws2, as2, v8, rfl, s2, d2, rw2, das2, ft⟩
          rw [List.length_map] at ft
          refine ⟨_, rfl, (i : Int), 1, rfl, rfl, ⟨i + 1, M2, Ws2, as2, _, _, rfl, s2, d2, rw2, das2, MetU.next ft cg⟩, ?_⟩
          show ((th.length : Int) - ((i : Int) + 1)).toNat < ((th.length : Int) - (i : Int)).toNat
          omega
    · rintro σ H1 Q1 Q2 hq h
      obtain ⟨v, e1, v2, e2, v3, e3, v4, e4, p, ys, j, w, h1, h2, h3, h4, q, w2, e5, h5, c, ws, e6, h6, h7, h8, b, e7, qq⟩ := h
      exact ⟨v, e1, v2, e2, v3, e3, v4, e4, p, ys, j, w, h1, h2, h3, h4, q, w2, e5, h5, c, ws, e6, h6, h7, h8, b, e7, hq _ _ qq⟩
end
end Fd
namespace Fd
open PySem PySem.Spec PyProof.Rows L2
/-! ### `_points`: the points that stand in some ties or fields, rising -/
def skInt (X : Cx) : SetKind X where
  O D := SetO X.w D (fun _ => false) 0
  add := rSAdd X.w
  new := fun H h a ho => setO_new (by
    have := setR_new_at (ns := []) ho
    simpa using this)
  run := fun Y e1 e2 e3 e4 => by
    rw [← e2]
    exact mt_sadd (X := Y)
theorem skInt_add (X : Cx) : (skInt X).add = rSAdd X.w := rfl
def iEi (w1 w2 : TI) : TI := fun σ H R => w1 σ H R ∨ w2 σ H R
theorem pi_or {X : Cx} {tg e : Expr} {w1 w2 : TI} (h1 : PI X tg e w1) (h2 : PI X tg e w2) : PI X tg e (iEi w1 w2) :=
  ⟨fun pins s σ H R I h => h.elim (h1.run pins s σ H R I) (h2.run pins s σ H R I)⟩
theorem iEi_of {K : PySem.W.Frag} {i : Nat} {σ : L2.St} {H0 H : Hp} {a : Addr} {xs : List V} {R : L2.It → Hp → Prop} (e : σ[i]? = some (some (.ref a))) (h : SqL K H0 a xs ∨ SqT K H0 a xs) (s : Same H0 H)
    (q : ∀ (J : L2.It) (Gd : Hp → Prop), Walk J xs.length Gd (YAt xs) → (∀ H', Same H0 H' → Gd H') → R J H) : iEi (iList K (tVar i)) (iTup K (tVar i)) σ H R := by
  rcases h with h | h
  · exact .inl ⟨_, e, a, rfl, ⟨xs, s.seq h⟩, q _ _ walk_list fun H' s => s.seq h⟩
  · exact .inr ⟨_, e, a, rfl, ⟨xs, SqT.same s h⟩, q _ _ walk_tup fun H' s => SqT.same s h⟩
/-- a tie or a field -/
def GrpAt (K : PySem.W.Frag) (H : Hp) (v : V) (xs : List Int) : Prop := ∃ a, v = .ref a ∧ (SqL K H a (iL xs) ∨ SqT K H a (iL xs))
/-- a walk, whatever is done in a turn -/
theorem it_W {J : L2.It} {n : Nat} {G : Hp → Prop} {Y : Nat → Hp → V → Hp → Prop} (wk : Walk J n G Y) {Body : (Hp → Prop) → V → Hp → Prop} {H0 : Hp} {Qd : Hp → Prop} (Pv : Nat → Hp → Prop) (h0 : Pv 0 H0) (hG : ∀ i H, i ≤ n → Pv i H → G H)
    (hs : ∀ i x H H', i < n → Pv i H → Y i H x H' → Body (Pv (i + 1)) x H') (hd : ∀ H, Pv n H → Qd H) :
    ∃ W : Nat → Nat → Hp → Prop, (∃ m, W 0 m H0) ∧ ∀ i m H, W i m H → (J.stop i H ∧ Qd H) ∨ (J.go i H ∧ ∃ Nx : Hp → Prop, (∀ H', Nx H' → ∃ m', m' < m ∧ W (i + 1) m' H') ∧ ∀ x H', J.yld i H x H' → Body Nx x H') := by
  refine ⟨fun i m H => m = n - i ∧ i ≤ n ∧ Pv i H, ⟨n, by simp, Nat.zero_le _, h0⟩, ?_⟩
  rintro i m H ⟨rfl, hi, p⟩
  have q := hG i H hi p
  by_cases hlt : i < n
  · exact .inr ⟨wk.goes i H hlt q, Pv (i + 1), fun H' p' => ⟨n - (i + 1), by omega, rfl, hlt, p'⟩, fun x H' y => hs i x H H' hlt p (wk.yields i H x H' hlt q y)⟩
  · have e : i = n := by omega
    subst e
    exact .inl ⟨wk.stops H q, hd H p⟩
/-- a set of ints at D -/
def SetI (w : World) (H : Hp) (D : Addr) (L : List Int) : Prop := ∃ S, H D = some (SetO w D S L.length) ∧ (∀ x, S x = true ↔ x ∈ L) ∧ L.Nodup
theorem SetI.start {w : World} {H : Hp} {D : Addr} : SetI w (upd H D (SetO w D (fun _ => false) 0)) D [] := ⟨_, upd_same, fun x => by simp, .nil⟩
theorem SetI.add {w : World} {H : Hp} {D : Addr} {L : List Int} (h : SetI w H D L) {x : Int} {Q : VK} (l : L.length ≤ 1000)
    (q : ∀ (o : HO) (L' : List Int), (∀ y, y ∈ L' ↔ y ∈ L ∨ y = x) → SetI w (upd H D o) D L' → Q .non (upd H D o)) : rSAdd w (.ref D) [.int x] H Q := by
  obtain ⟨S, h1, h2, h3⟩ := h
  refine ⟨D, x, S, L.length, rfl, rfl, h1, Nat.lt_of_le_of_lt (Nat.succ_le_succ l) (by decide +kernel), ?_⟩
  by_cases c : x ∈ L
  · refine q _ L (fun y => ⟨.inl, fun z => z.elim id fun z => z ▸ c⟩) ⟨_, by rw [upd_same, if_pos ((h2 x).mpr c)], fun y => ?_, h3⟩
    rw [Bool.or_eq_true, decide_eq_true_iff, h2]
    exact ⟨fun z => z.elim id fun z => z ▸ c, .inl⟩
  · refine q _ (L ++ [x]) (fun y => by simp) ⟨_, by rw [upd_same, if_neg (fun z => c ((h2 x).mp z)), List.length_append]; rfl, fun y => ?_, ?_⟩
    · rw [Bool.or_eq_true, decide_eq_true_iff, h2]
      simp
    · refine List.nodup_append.mpr ⟨h3, by simp, fun a ha b hb e => ?_⟩
      rw [List.mem_singleton.mp hb] at e
      exact c (e ▸ ha)
theorem SetI.sorted {w : World} {H : Hp} {D : Addr} {L : List Int} (h : SetI w H D L) (l : L.length < 64) {Q : VK}
    (q : ∀ (ns : List Int) (p : Addr), ns.Pairwise (· < ·) → (∀ x, x ∈ ns ↔ x ∈ L) → H p = none → Q (.ref p) (upd H p (.lst (iL ns)))) : rSortedSet w [.ref D] H Q := by
  obtain ⟨S, h1, h2, h3⟩ := h
  exact ⟨D, S, L.length, rfl, h1, l, fun ns p a b c d => q ns p a (fun x => (b x).trans (h2 x)) d⟩
def spPoints (K : PySem.W.Frag) : Sp := fun vs H Q _ => ∃ (G : Addr) (ws : List V) (gs : List (List Int)) (ks : List Int), vs = [.ref G] ∧ SqL K H G ws ∧ Paired (GrpAt K H) ws gs ∧ ks.length ≤ 16 ∧ (∀ g ∈ gs, ∀ x ∈ g, x ∈ ks) ∧
  ∀ (H' : Hp) (D : Addr) (out : List Int), Same H H' → H D = none → H' D = some (.lst (iL out)) → out.Pairwise (· < ·) → (∀ x, x ∈ out ↔ ∃ g ∈ gs, x ∈ g) → Q (.ref D) H'
section
variable {P : Program} {w : World} {K : PySem.W.Frag} {mg : Str → Option Value} {base : Heap} {C : Addr}
abbrev nPoints : List Str := ["groups", "group", "point"]
theorem scPoints : FnScope nPoints ["groups"] (defScope sPoints) := ⟨rfl, rfl, rfl, by decide +kernel, rfl, by decide +kernel, by decide +kernel⟩
theorem c_points (T : WTxt K mg C) (F : Fn K mg "_points" sPoints ["groups"]) : C8.Cal P w K mg base 1 "_points" (spPoints K) [] := by
  refine cal_of F scPoints (fun vs H Q E h => ?_) (fun f cdv A outer s H vs Q E hr h => ?_)
  · obtain ⟨G, ws, gs, ks, rfl, _⟩ := h
    rfl
  · obtain ⟨G, ws, gs, ks, rfl, hG, pg, kl, inn, k⟩ := h
    refine ⟨_, pss_one (ps_ret (pe_callB (id := "sorted") (r := rSortedSet w) (cr_sortedSet rfl) (by rfl) T.sorted (by decide +kernel) (pa_cons (pe_sc2 (skInt _) rfl scPoints.nd (pi_list (pv 0))
      (own := [("group", 1), ("point", 2)]) (vs1 := [2]) (blkOk_by (own := [("group", 1), ("point", 2)]) (N := nPoints) (sc := defScope sPoints) (by decide +kernel)) (by decide) (fun _ _ _ _ _ => pg_name (i := 1) scPoints.nd rfl (Or.inl rfl)) (fun _ _ _ _ _ => pts_nil)
      (wi1 := iEi (iList K (tVar 1)) (iTup K (tVar 1))) (fun _ _ _ _ _ => pi_or (pi_list (pv 1)) (pi_tup (pv 1))) (fun _ _ _ _ _ => pg_name (i := 2) scPoints.nd rfl (Or.inl rfl)) (fun _ _ _ _ _ => pts_nil) (te := tVar 2) (fun _ _ _ _ _ => pv 2)) pa_nil))), ?_⟩
    refine ⟨_, rfl, _, rfl, ⟨_, hG⟩, fun D hD => ?_⟩
    have small2 : ∀ L : List Int, L.Nodup → (∀ x ∈ L, ∃ g ∈ gs, x ∈ g) → L.length ≤ 16 := fun L nd h => Nat.le_trans (nd.length_le_of_subset fun x hx => by
      obtain ⟨g, hg, hx⟩ := h x hx
      exact inn g hg x hx) kl
    refine it_W (walk_list (K := K) (a := G) (xs := ws)) (fun i H1 => Same H H1 ∧ ∃ L, SetI w H1 D L ∧ ∀ x, x ∈ L ↔ ∃ g ∈ gs.take i, x ∈ g) ⟨Same.put hD, [], SetI.start, fun x => by simp⟩ (fun i H1 _ ⟨s1, _⟩ => s1.seq hG) ?_ ?_
    · rintro i x H1 H2 hi ⟨s1, L, d1, in1⟩ ⟨rfl, ex⟩
      obtain ⟨g, eg, a, rfl, ha⟩ := paired_get pg ex
      refine ⟨rfl, ?_⟩
      refine yes_ ?_
      refine iteT ?_
      refine iEi_of (a := a) (xs := iL g) rfl ha s1 fun J1 Gd wk hGd => ?_
      refine it_W wk (fun q H2 => Same H H2 ∧ ∃ L, SetI w H2 D L ∧ ∀ x, x ∈ L ↔ (∃ g ∈ gs.take i, x ∈ g) ∨ x ∈ g.take q) ⟨s1, L, d1, fun x => by simp [in1]⟩ (fun q H2 _ ⟨s2, _⟩ => hGd H2 s2) ?_ ?_
      · rintro q x H2 H3 hq ⟨s2, L2, d2, in2⟩ ⟨rfl, ex2⟩
        obtain ⟨z, ez, rfl⟩ := iL_at ex2
        refine ⟨rfl, ?_⟩
        refine yes_ ?_
        refine iteT ?_
        have hg : g ∈ gs := List.mem_of_getElem? eg
        have L2l : L2.length ≤ 16 := by
          obtain ⟨_, _, _, nd⟩ := id d2
          refine small2 L2 nd fun x hx => ?_
          rcases (in2 x).mp hx with ⟨g', h1, h2⟩ | h1
          · exact ⟨g', List.mem_of_mem_take h1, h2⟩
          · exact ⟨g, hg, List.mem_of_mem_take h1⟩
        refine ⟨_, rfl, ?_⟩
        dsimp only [skInt_add]
        refine d2.add (by omega) fun o L' h1 h2 => ⟨Same.write s2 hD, L', h2, fun x => ?_⟩
        rw [h1, in2, take_next ez, List.mem_append, List.mem_singleton, or_assoc]
      · rintro H2 ⟨s2, L2, d2, in2⟩
        rw [List.length_map, List.take_length] at in2
        refine ⟨s2, L2, d2, fun x => ?_⟩
        rw [in2, take_next eg]
        simp only [List.mem_append, List.mem_singleton]
        constructor
        · rintro (⟨g', h1, h2⟩ | h1)
          · exact ⟨g', .inl h1, h2⟩
          · exact ⟨g, .inr rfl, h1⟩
        · rintro ⟨g', h1 | rfl, h2⟩
          · exact .inl ⟨g', h1, h2⟩
          · exact .inr h2
    · rintro H1 ⟨s1, L, d1, in1⟩
      have pl : ws.length = gs.length := pg.length
      rw [pl, List.take_length] at in1
      have Ll : L.length ≤ 16 := by
        obtain ⟨_, _, _, nd⟩ := id d1
        exact small2 L nd fun x hx => (in1 x).mp hx
      refine d1.sorted (by omega) fun ns p h1 h2 h3 => ?_
      exact k _ p ns (Same.step s1 h3) (s1.free h3) upd_same h1 fun x => (h2 x).trans (in1 x)
end
end Fd
namespace Fd
open PySem PySem.Spec PyProof.Rows L2
/-! ### a set or a dict by a comprehension, given a name on the same line -/
section
variable {X : Cx} {kx vx elt tg iter : Expr} {ifs : List Expr} {scope : Scope} {own : List (Str × Nat)} {pos spos py : Pos} {y : Str} {i : Nat} {wi : TI} {g : TG} {tt : TT} {te tk tv : TE}
theorem sw_dc {env : Env} {gs : List Comprehension} {l : Nat} (h1 : env.scope.kind = .function) (h2 : env.scope.names.lookup y = some .local) (h3 : (py.line == pos.line) = true)
    (h4 : (scope.names.any fun (n, k) => n == y && (k == .local || k == .cell)) = false) : swapsWith (.DictComp kx vx gs scope pos) (some (.Name y py)) l env = pure true := by
  have k2 : env.blockKind = .function := (by unfold Env.blockKind; rw [h1]; rfl); have k1 : env.kindOf y = some .local := h2
  unfold swapsWith; simp only [k2, k1, h4, Expr.pos, h3]; rfl
theorem sw_sc {env : Env} {gs : List Comprehension} {l : Nat} (h1 : env.scope.kind = .function) (h2 : env.scope.names.lookup y = some .local) (h3 : (py.line == pos.line) = true)
    (h4 : (scope.names.any fun (n, k) => n == y && (k == .local || k == .cell)) = false) : swapsWith (.SetComp elt gs scope pos) (some (.Name y py)) l env = pure true := by
  have k2 : env.blockKind = .function := (by unfold Env.blockKind; rw [h1]; rfl); have k1 : env.kindOf y = some .local := h2
  unfold swapsWith; simp only [k2, k1, h4, Expr.pos, h3]; rfl
theorem ps_setDc (hc : X.calm = true) (hN : X.N.Nodup) (hy : X.N[i]? = some y) (hyl : X.env.scope.names.lookup y = some .local) (hsw : swapsWith (.DictComp kx vx [⟨tg, iter, ifs, 0⟩] scope pos) (some (.Name y py)) spos.line X.env = pure true)
    (hi : PI X tg iter wi) (ok : BlkOk X.N X.env.scope scope own) (hg : Within X scope fun Y => PG Y tg g) (ht : Within X scope fun Y => PTs Y ifs tt) (hk : Within X scope fun Y => PE Y kx tk) (he : Within X scope fun Y => PE Y vx tv) (hs : ∀ x, foldedSetIterable iter X.env x = pure x := by intro _; rfl) :
    PS X (.Assign [.Name y py] (.DictComp kx vx [⟨tg, iter, ifs, 0⟩] scope pos) spos) (tAsg (tDc wi g tt tk tv (own.map (·.2))) (gName i)) := by
  refine ⟨fun pins s σ H D I h0 => ?_⟩; rw [exec_Assign_Name_used _ _ _ _ hsw]
  have h : tDc wi g tt tk tv (own.map (·.2)) σ H (fun x H1 => gName i x σ H1 D.nx) := h0; refine wpAny_bind (wpAny_standAt (wpAny_bind ?_))
  show wpAny _ X.A (do let _ ← comprehension (.DictComp kx vx [⟨tg, iter, ifs, 0⟩] scope pos) scope X.env (firstIterPos [⟨tg, iter, ifs, 0⟩] pos) newDict false (eval iter X.env) (some (assign (.Name y py) X.env))) _ _ s
  refine wpAny_bind (thn (dc_core (Qf := fun _ u => SP X pins D .next u) hc hN I hi ok hg ht hk he hs h fun L B u m G J q hn f => ?_) fun _ u hq => wpAny_pure (wpAny_pure hq))
  show wpAny _ _ (assign (.Name y py) X.env (.ref L)) _ _ _; obtain ⟨a0, a1, a2, a3, a4, a5⟩ := f
  refine wpAny_assign_Name (store_ok2 (v := V.ref L) J hN hy (.inl hyl) rfl (fun u2 J2 ⟨a, sb, ha⟩ => ?_) (.inr hyl))
  refine ⟨m, hn.sameBut sb (ha.elim (fun z => (by rw [z]; exact a1)) fun z e => a4 y a z e.symm), fun u3 sb3 => ⟨_, G, J2.turned (t' := u2.toks) (fun b o hb e => (sb3.2 b hb).trans e) a0 a1 a3 a4 a5, q⟩⟩
theorem ps_setSc (K : SetKind X) (hc : X.calm = true) (hN : X.N.Nodup) (hy : X.N[i]? = some y) (hyl : X.env.scope.names.lookup y = some .local) (hsw : swapsWith (.SetComp elt [⟨tg, iter, ifs, 0⟩] scope pos) (some (.Name y py)) spos.line X.env = pure true)
    (hi : PI X tg iter wi) (ok : BlkOk X.N X.env.scope scope own) (hg : Within X scope fun Y => PG Y tg g) (ht : Within X scope fun Y => PTs Y ifs tt) (he : Within X scope fun Y => PE Y elt te) (hs : ∀ x, foldedSetIterable iter X.env x = pure x := by intro _; rfl) :
    PS X (.Assign [.Name y py] (.SetComp elt [⟨tg, iter, ifs, 0⟩] scope pos) spos) (tAsg (tSc1 K.O K.add wi g tt te (own.map (·.2))) (gName i)) := by
  refine ⟨fun pins s σ H D I h0 => ?_⟩; rw [exec_Assign_Name_used _ _ _ _ hsw]
  have h : tSc1 K.O K.add wi g tt te (own.map (·.2)) σ H (fun x H1 => gName i x σ H1 D.nx) := h0; refine wpAny_bind (wpAny_standAt (wpAny_bind ?_))
  show wpAny _ X.A (do let _ ← comprehension (.SetComp elt [⟨tg, iter, ifs, 0⟩] scope pos) scope X.env (firstIterPos [⟨tg, iter, ifs, 0⟩] pos) (newSet (.type "set")) false (eval iter X.env) (some (assign (.Name y py) X.env))) _ _ s
  refine wpAny_bind (thn (sc1_core (Qf := fun _ u => SP X pins D .next u) K hc hN I hi ok hg ht he hs h fun L B u m G J q hn f => ?_) fun _ u hq => wpAny_pure (wpAny_pure hq))
  show wpAny _ _ (assign (.Name y py) X.env (.ref L)) _ _ _; obtain ⟨a0, a1, a2, a3, a4, a5⟩ := f
  refine wpAny_assign_Name (store_ok2 (v := V.ref L) J hN hy (.inl hyl) rfl (fun u2 J2 ⟨a, sb, ha⟩ => ?_) (.inr hyl))
  refine ⟨m, hn.sameBut sb (ha.elim (fun z => (by rw [z]; exact a1)) fun z e => a4 y a z e.symm), fun u3 sb3 => ⟨_, G, J2.turned (t' := u2.toks) (fun b o hb e => (sb3.2 b hb).trans e) a0 a1 a3 a4 a5, q⟩⟩
end
end Fd
namespace Fd
open PySem PySem.Spec PyProof.Rows L2
/-! ### `_rows`: for each point of some ties the points beside it -/
theorem valV_adr {adr : Int → Addr} : ∀ {ks : List Int} {k : Int}, k ∈ ks → valV (ks.map fun k => ((Sum.inl k : Key), V.ref (adr k))) (Sum.inl k) = some (.ref (adr k))
  | [], k, h => by cases h
  | a :: r, k, h => by
    show valV (((Sum.inl a : Key), V.ref (adr a)) :: r.map _) _ = _
    by_cases c : a = k
    · subst c
      exact valV_pos (p := ((Sum.inl a : Key), V.ref (adr a))) rfl
    · rw [valV_neg (p := ((Sum.inl a : Key), V.ref (adr a))) (fun z => c (Sum.inl.inj z))]
      rcases List.mem_cons.mp h with z | z
      · exact absurd z.symm c
      · exact valV_adr z
theorem valV_adrN {adr : Int → Addr} : ∀ {ks : List Int} {k : Int}, k ∉ ks → valV (ks.map fun k => ((Sum.inl k : Key), V.ref (adr k))) (Sum.inl k) = none
  | [], k, h => rfl
  | a :: r, k, h => by
    show valV (((Sum.inl a : Key), V.ref (adr a)) :: r.map _) _ = _
    rw [valV_neg (p := ((Sum.inl a : Key), V.ref (adr a))) (fun z => h (by rw [Sum.inl.inj z]; simp))]
    exact valV_adrN fun z => h (List.mem_cons_of_mem _ z)
/-- a new dict of new rows -/
structure RD (H0 H : Hp) (D : Addr) (ks : List Int) (adr : Int → Addr) (row : Int → List Int) : Prop where
  top : H D = some (.dK (ks.map fun k => ((Sum.inl k : Key), V.ref (adr k))))
  new : H0 D = none
  nd : ks.Nodup
  inj : ∀ i ∈ ks, ∀ j ∈ ks, adr i = adr j → i = j
  off : ∀ k ∈ ks, adr k ≠ D
  fresh : ∀ k ∈ ks, H0 (adr k) = none
  row : ∀ k ∈ ks, H (adr k) = some (.lst (iL (row k)))
theorem RD.rows {H0 H : Hp} {D : Addr} {ks : List Int} {adr : Int → Addr} {row : Int → List Int} (h : RD H0 H D ks adr row) : DRows H D ks row :=
  ⟨_, .inl h.top, by rw [List.map_map]; rfl, fun k hk => ⟨adr k, valV_adr hk, h.row k hk⟩⟩
theorem RD.get {H0 H : Hp} {D : Addr} {ks : List Int} {adr : Int → Addr} {row : Int → List Int} (h : RD H0 H D ks adr row) {k : Int} (hk : k ∈ ks) : DGet H D (.int k) (some (.ref (adr k))) :=
  .inl ⟨_, Sum.inl k, .inl h.top, rfl, (valV_adr hk).symm⟩
theorem RD.same {H0 H H' : Hp} {D : Addr} {ks : List Int} {adr : Int → Addr} {row : Int → List Int} (h : RD H0 H D ks adr row) (s : Same H H') : RD H0 H' D ks adr row :=
  ⟨s _ _ h.top, h.new, h.nd, h.inj, h.off, h.fresh, fun k hk => s _ _ (h.row k hk)⟩
theorem RD.more {H0 H : Hp} {D p : Addr} {ks : List Int} {adr : Int → Addr} {row : Int → List Int} (h : RD H0 H D ks adr row) (s : Same H0 H) {k : Int} (hk : k ∉ ks) (hr : row k = []) (hp : H p = none) :
    RD H0 (upd (upd H p (.lst [])) D (.dK (putK (ks.map fun k => ((Sum.inl k : Key), V.ref (adr k))) (Sum.inl k) (.ref p)))) D (ks ++ [k]) (fun j => if j = k then p else adr j) row := by
  have pD : D ≠ p := ne_of_none h.top hp
  have ap : ∀ j ∈ ks, adr j ≠ p := fun j hj => ne_of_none (h.row j hj) hp
  have nk : ∀ j ∈ ks, ¬ j = k := fun j hj e => hk (e ▸ hj)
  refine ⟨?_, h.new, List.nodup_append.mpr ⟨h.nd, by simp, fun a ha b hb e => ?_⟩, fun i hi j hj e => ?_, fun j hj => ?_, fun j hj => ?_, fun j hj => ?_⟩
  · rw [upd_same, putK_new _ (valV_adrN hk), List.map_append]
    show some _ = some _
    congr 2
    refine congr (congrArg _ (List.map_congr_left fun j hj => ?_)) ?_
    · show _ = ((Sum.inl j : Key), V.ref (if j = k then p else adr j))
      rw [if_neg (nk j hj)]
    · show _ = [((Sum.inl k : Key), V.ref (if k = k then p else adr k))]
      rw [if_pos rfl]
  · rw [List.mem_singleton.mp hb] at e
    exact hk (e ▸ ha)
  · have e' : (if i = k then p else adr i) = (if j = k then p else adr j) := e
    rcases List.mem_append.mp hi with a | a <;> rcases List.mem_append.mp hj with b | b
    · rw [if_neg (nk i a), if_neg (nk j b)] at e'
      exact h.inj i a j b e'
    · rw [if_neg (nk i a), if_pos (List.mem_singleton.mp b)] at e'
      exact absurd e' (ap i a)
    · rw [if_neg (nk j b), if_pos (List.mem_singleton.mp a)] at e'
      exact absurd e'.symm (ap j b)
    · rw [List.mem_singleton.mp a, List.mem_singleton.mp b]
  · show (if j = k then p else adr j) ≠ D
    rcases List.mem_append.mp hj with a | a
    · rw [if_neg (nk j a)]
      exact h.off j a
    · rw [if_pos (List.mem_singleton.mp a)]
      exact pD.symm
  · show H0 (if j = k then p else adr j) = none
    rcases List.mem_append.mp hj with a | a
    · rw [if_neg (nk j a)]
      exact h.fresh j a
    · rw [if_pos (List.mem_singleton.mp a)]
      exact s.free hp
  · show upd _ _ _ (if j = k then p else adr j) = _
    rcases List.mem_append.mp hj with a | a
    · rw [if_neg (nk j a), upd_ne (h.off j a), upd_ne (ap j a)]
      exact h.row j a
    · rw [if_pos (List.mem_singleton.mp a), upd_ne pD.symm, upd_same, List.mem_singleton.mp a, hr]
      rfl
theorem RD.write {H0 H : Hp} {D : Addr} {ks : List Int} {adr : Int → Addr} {row row' : Int → List Int} {k : Int} (h : RD H0 H D ks adr row) (hk : k ∈ ks) (e : ∀ j, row' j = if j = k then row' k else row j) : RD H0 (upd H (adr k) (.lst (iL (row' k)))) D ks adr row' := by
  refine ⟨by rw [upd_ne (h.off k hk).symm]; exact h.top, h.new, h.nd, h.inj, h.off, h.fresh, fun j hj => ?_⟩
  by_cases c : j = k
  · subst c
    exact upd_same
  · rw [upd_ne (fun z => c (h.inj j hj k hk z)), e j, if_neg c]
    exact h.row j hj
/-- the points beside k, tie by tie -/
def rowZ (ts : List Tie) (k : Int) : List Int := ts.flatMap fun t => (if t.1 = k then [t.2] else []) ++ (if t.2 = k then [t.1] else [])
theorem rowZ_snoc (ts : List Tie) (t : Tie) (k : Int) : rowZ (ts ++ [t]) k = rowZ ts k ++ ((if t.1 = k then [t.2] else []) ++ (if t.2 = k then [t.1] else [])) := by
  unfold rowZ
  rw [List.flatMap_append]
  simp
theorem rowZ_len : ∀ (ts : List Tie) (k : Int), (rowZ ts k).length ≤ 2 * ts.length
  | [], k => Nat.le_refl _
  | t :: r, k => by
    have ih := rowZ_len r k
    show (((if t.1 = k then [t.2] else []) ++ (if t.2 = k then [t.1] else [])) ++ rowZ r k).length ≤ _
    rw [List.length_append, List.length_append, List.length_cons]
    have h1 : (if t.1 = k then [t.2] else []).length ≤ 1 := by split <;> simp
    have h2 : (if t.2 = k then [t.1] else []).length ≤ 1 := by split <;> simp
    omega
theorem mem_rowZ {ts : List Tie} {k y : Int} : y ∈ rowZ ts k ↔ Adj ts k y := by
  unfold rowZ Adj
  rw [List.mem_flatMap]
  constructor
  · rintro ⟨t, ht, h⟩
    rcases List.mem_append.mp h with h | h
    · by_cases c : t.1 = k
      · rw [if_pos c] at h
        rw [List.mem_singleton.mp h, ← c]
        exact .inl ht
      · rw [if_neg c] at h
        cases h
    · by_cases c : t.2 = k
      · rw [if_pos c] at h
        rw [List.mem_singleton.mp h, ← c]
        exact .inr ht
      · rw [if_neg c] at h
        cases h
  · rintro (h | h)
    · exact ⟨_, h, List.mem_append_left _ (by simp)⟩
    · exact ⟨_, h, List.mem_append_right _ (by simp)⟩
theorem grp_ties {K : PySem.W.Frag} {H : Hp} : ∀ {ws : List V} {ts : List Tie}, PairsAt H ws ts → Paired (GrpAt K H) ws (ts.map fun t => [t.1, t.2])
  | _, _, .nil => .nil
  | _, _, .cons h r => .cons (by
    obtain ⟨c, rfl, hc⟩ := h
    exact ⟨c, rfl, .inr (SqT.of hc)⟩) (grp_ties r)
theorem nd_not {ks : List Int} (h : ks.Nodup) {i : Nat} {z : Int} (e : ks[i]? = some z) : z ∉ ks.take i := fun hm => by
  obtain ⟨j, hj⟩ := List.mem_iff_getElem?.mp hm
  rw [List.getElem?_take] at hj
  by_cases c : j < i
  · rw [if_pos c] at hj
    exact absurd (nd_ix h hj e) (by omega)
  · rw [if_neg c] at hj
    cases hj
def spRows (K : PySem.W.Frag) : Sp := fun vs H Q _ => ∃ (T : Addr) (ws : List V) (ts : List Tie) (ks : List Int), vs = [.ref T] ∧ SqL K H T ws ∧ PairsAt H ws ts ∧ ks.length ≤ 16 ∧ ts.length ≤ 100 ∧ (∀ t ∈ ts, t.1 ∈ ks ∧ t.2 ∈ ks) ∧
  ∀ (H' : Hp) (D : Addr) (out : List Int) (adr : Int → Addr), Same H H' → RD H H' D out adr (rowZ ts) → out.Pairwise (· < ·) → (∀ x, x ∈ out ↔ ∃ t ∈ ts, x = t.1 ∨ x = t.2) → Q (.ref D) H'
section
variable {P : Program} {w : World} {K : PySem.W.Frag} {mg : Str → Option Value} {base : Heap} {C : Addr}
abbrev nRows : List Str := ["ties", "rows", "one", "other", "point"]
theorem scRows : FnScope nRows ["ties"] (defScope sRows) := ⟨rfl, rfl, rfl, by decide +kernel, rfl, by decide +kernel, by decide +kernel⟩
theorem c_rows (T : WTxt K mg C) (FP : Fn K mg "_points" sPoints ["groups"]) (F : Fn K mg "_rows" sRows ["ties"]) : C8.Cal P w K mg base 2 "_rows" (spRows K) [] := by
  refine cal_of F scRows (fun vs H Q E h => ?_) (fun f cdv A outer s H vs Q E hr h => ?_)
  · obtain ⟨T0, ws, ts, ks, rfl, _⟩ := h
    rfl
  · obtain ⟨T0, ws, ts, ks, rfl, hT, pt, kl, tl, inn, k⟩ := h
    have hu1 : (A.deeper (envOfC "_rows" (defScope sRows) s.heap.objs.size f cdv)).units + 1 < cLine := by
      have := hr.un
      omega
    refine ⟨_, pss_cons (ps_setDc (i := 1) (own := [("point", 4)]) (g := gName 4) (tt := tYes) rfl scRows.nd rfl rfl (sw_dc rfl rfl rfl (by decide +kernel)) (pi_list (C8.pe_c (c_points T FP) hr (by decide) (by rfl) (pa_cons (pv 0) pa_nil)))
        (blkOk_by (own := [("point", 4)]) (N := nRows) (sc := defScope sRows) (by decide +kernel)) (fun _ _ _ _ _ => pg_name (i := 4) scRows.nd rfl (Or.inl rfl)) (fun _ _ _ _ _ => pts_nil) (tk := tVar 4) (fun _ _ _ _ _ => pv 4) (fun _ _ _ _ _ => pe_lst pa_nil))
      (pss_cons (ps_for PassesOwn.never rfl (pi_list (pv 0)) (pg_tup (by rfl) (pgs_cons (pg_name (i := 2) scRows.nd rfl (Or.inl rfl)) (pgs_cons (pg_name (i := 3) scRows.nd rfl (Or.inl rfl)) pgs_nil)))
        (pss_cons (ps_expr (pe_bm PySem.F.plainAttrs_list PySem.F.slot_list_append PySem.F.type_list_append mt_append (pe_dget hu1 (pv 1) (pv 2) (fun _ _ => rfl)) (pa_cons (pv 3) pa_nil)))
        (pss_one (ps_expr (pe_bm PySem.F.plainAttrs_list PySem.F.slot_list_append PySem.F.type_list_append mt_append (pe_dget hu1 (pv 1) (pv 3) (fun _ _ => rfl)) (pa_cons (pv 2) pa_nil))))))
      (pss_one (ps_ret (pv 1)))), ?_⟩
    refine ⟨_, rfl, T0, ws, ts.map (fun t : Tie => [t.1, t.2]), ks, rfl, hT, grp_ties pt, kl, fun g hg x hx => ?_, fun H1 D1 out s1 n1 d1 srt mem => ?_⟩
    · obtain ⟨t, ht, rfl⟩ := List.mem_map.mp hg
      rcases List.mem_cons.mp hx with rfl | hx
      · exact (inn t ht).1
      · rw [List.mem_singleton.mp hx]
        exact (inn t ht).2
    have mem2 : ∀ x, x ∈ out ↔ ∃ t ∈ ts, x = t.1 ∨ x = t.2 := fun x => by
      rw [mem]
      constructor
      · rintro ⟨g, hg, hx⟩
        obtain ⟨t, ht, rfl⟩ := List.mem_map.mp hg
        exact ⟨t, ht, by simpa using hx⟩
      · rintro ⟨t, ht, hx⟩
        exact ⟨_, List.mem_map.mpr ⟨t, ht, rfl⟩, by simpa using hx⟩
    have ond : out.Nodup := srt.imp fun h e => by omega
    have ol : out.length ≤ 16 := Nat.le_trans (ond.length_le_of_subset fun x hx => by
      obtain ⟨t, ht, e⟩ := (mem2 x).mp hx
      rcases e with rfl | rfl
      · exact (inn t ht).1
      · exact (inn t ht).2) kl
    refine ⟨D1, rfl, ⟨_, SqL.of d1⟩, fun D hD => ?_⟩
    have HD : H D = none := s1.free hD
    refine it_W (walk_list (K := K) (a := D1) (xs := iL out)) (fun i H2 => Same H1 H2 ∧ ∃ adr, RD H H2 D (out.take i) adr (rowZ [])) ⟨Same.put hD, fun _ => 0, ⟨by rw [upd_same]; rfl, HD, by simp, fun i h => by simp at h, fun i h => by simp at h, fun i h => by simp at h, fun i h => by simp at h⟩⟩ (fun i H2 _ ⟨s2, _⟩ => s2.seq (SqL.of d1)) ?_ ?_
    · rintro i x H2 H3 hi ⟨s2, adr, r2⟩ ⟨rfl, ex⟩
      obtain ⟨z, ez, rfl⟩ := iL_at ex
      refine ⟨rfl, ?_⟩
      refine yes_ ?_
      refine iteT ?_
      have nz : z ∉ out.take i := nd_not ond ez
      refine ⟨_, rfl, Nat.zero_le _, fun p hp => ?_⟩
      have pD : D ≠ p := ne_of_none r2.top hp
      refine ⟨_, Sum.inl z, rfl, by rw [upd_ne pD]; exact r2.top, by rw [List.length_map, List.length_take]; exact small (by omega), Same.write (Same.step s2 hp) hD, fun j => if j = z then p else adr j, ?_⟩
      rw [take_next ez]
      exact r2.more (s1.trans s2) nz rfl hp
    · rintro H2 ⟨s2, adr, r2⟩
      rw [List.length_map, List.take_length] at r2
      have s02 : Same H H2 := s1.trans s2
      have pl : ws.length = ts.length := pt.length
      refine ⟨_, rfl, T0, rfl, ⟨_, s02.seq hT⟩, for_list (K := K) (a := T0) (xs := ws) (fun i σ H3 => ∃ v2 v3 : Option V, σ = [some (.ref T0), some (.ref D), v2, v3, none] ∧ Same H H3 ∧ RD H H3 D out adr (rowZ (ts.take i)))
        ⟨none, none, rfl, s02, r2⟩ (fun i σ H3 _ ⟨_, _, _, s3, _⟩ => s3.seq hT) ?_ ?_⟩
      · rintro i x σ H3 hi ⟨v2, v3, rfl, s3, r3⟩
        obtain ⟨t, et, hpair⟩ := paired_get pt hi
        obtain ⟨b, rfl, hb⟩ := PairAt.same s3 hpair
        have ht := List.mem_of_getElem? et
        have il : i < ts.length := (List.getElem?_eq_some_iff.mp et).1
        obtain ⟨p, q⟩ := t
        have hp : p ∈ out := (mem2 p).mpr ⟨_, ht, .inl rfl⟩
        have hq : q ∈ out := (mem2 q).mpr ⟨_, ht, .inr rfl⟩
        refine ⟨b, [.int p, .int q], rfl, SqT.of hb, rfl, _, _, rfl, _, _, rfl, rfl, ?_⟩
        have len : ∀ k, (rowZ (ts.take i) k).length ≤ 2 * i := fun k => by
          refine Nat.le_trans (rowZ_len _ k) ?_
          rw [List.length_take]
          omega
        let row1 : Int → List Int := fun j => rowZ (ts.take i) j ++ (if p = j then [q] else [])
        have e1 : ∀ j, row1 j = if j = p then row1 p else rowZ (ts.take i) j := fun j => by
          show rowZ (ts.take i) j ++ (if p = j then [q] else []) = _
          by_cases c : j = p
          · rw [if_pos c, c]
          · rw [if_neg c, if_neg (fun z => c z.symm), List.append_nil]
        refine ⟨_, rfl, _, rfl, D, .ref (adr p), rfl, r3.get hp, .inl ⟨rfl, _, SqL.of (r3.row p hp)⟩, _, rfl, adr p, _, _, rfl, rfl, r3.row p hp, by rw [List.length_map]; exact small (by have := len p; omega), ?_⟩
        have eM : iL (rowZ (ts.take i) p) ++ [V.int q] = iL (row1 p) := by
          show _ = iL (rowZ (ts.take i) p ++ (if p = p then [q] else []))
          rw [if_pos rfl]
          unfold iL
          rw [List.map_append]
          rfl
        rw [eM]
        have r4 := r3.write hp e1
        have s4 : Same H (upd H3 (adr p) (.lst (iL (row1 p)))) := Same.write s3 (r3.fresh p hp)
        generalize upd H3 (adr p) (.lst (iL (row1 p))) = H4 at r4 s4 ⊢
        have e2 : ∀ j, rowZ (ts.take (i + 1)) j = if j = q then rowZ (ts.take (i + 1)) q else row1 j := fun j => by
          rw [take_next et, rowZ_snoc, rowZ_snoc]
          show rowZ (ts.take i) j ++ ((if p = j then [q] else []) ++ (if q = j then [p] else [])) = if j = q then _ else rowZ (ts.take i) j ++ (if p = j then [q] else [])
          by_cases c : j = q
          · rw [if_pos c, c]
          · rw [if_neg c, if_neg (c := q = j) (fun z => c z.symm), List.append_nil]
        refine ⟨_, rfl, _, rfl, D, .ref (adr q), rfl, r4.get hq, .inl ⟨rfl, _, SqL.of (r4.row q hq)⟩, _, rfl, adr q, _, _, rfl, rfl, r4.row q hq, ?_, ?_⟩
        · rw [List.length_map]
          refine small ?_
          have := len q
          show (rowZ (ts.take i) q ++ (if p = q then [q] else [])).length ≤ _
          rw [List.length_append]
          have : (if p = q then [q] else []).length ≤ 1 := by split <;> simp
          omega
        have eN : iL (row1 q) ++ [V.int p] = iL (rowZ (ts.take (i + 1)) q) := by
          rw [take_next et, rowZ_snoc]
          show iL (rowZ (ts.take i) q ++ (if p = q then [q] else [])) ++ [V.int p] = iL (rowZ (ts.take i) q ++ ((if p = q then [q] else []) ++ (if q = q then [p] else [])))
          rw [if_pos rfl, ← List.append_assoc]
          unfold iL
          rw [List.map_append (l₂ := [p])]
          rfl
        rw [eN]
        exact ⟨_, _, rfl, Same.write s4 (r4.fresh q hq), r4.write hq e2⟩
      · rintro σ H3 ⟨v2, v3, rfl, s3, r3⟩
        rw [pl, List.take_length] at r3
        exact ⟨_, rfl, k _ D out adr s3 r3 srt mem2⟩
end
end Fd
namespace Fd
open PySem PySem.Spec PyProof.Rows L2
/-! ### `_bridges`: what is yet to be drawn -/
/-- a bridge: its inner points, its feet -/
abbrev Brg := List Int × List Int
def BrgAt (H : Hp) (v : V) (b : Brg) : Prop := ∃ p i f, v = .ref p ∧ H p = some (.tup [.ref i, .ref f]) ∧ H i = some (.lst (iL b.1)) ∧ H f = some (.lst (iL b.2))
theorem BrgAt.same {H H' : Hp} (s : Same H H') {v : V} {b : Brg} (h : BrgAt H v b) : BrgAt H' v b := by
  obtain ⟨p, i, f, e, h1, h2, h3⟩ := h
  exact ⟨p, i, f, e, s _ _ h1, s _ _ h2, s _ _ h3⟩
/-- the feet of some inner points -/
def feetL (row : Int → List Int) (shown inner : List Int) : List Int := shown.filter fun f => (row f).any fun n => decide (n ∈ inner)
theorem feet_yes {row : Int → List Int} {shown inner : List Int} {j : Nat} {z : Int} (e : shown[j]? = some z) (c : ((row z).any fun n => decide (n ∈ inner)) = true) : feetL row (shown.take (j + 1)) inner = feetL row (shown.take j) inner ++ [z] := by
  unfold feetL
  rw [take_next e, List.filter_append, List.filter_cons_of_pos (p := fun f => (row f).any fun n => decide (n ∈ inner)) c]
  rfl
theorem feet_no {row : Int → List Int} {shown inner : List Int} {j : Nat} {z : Int} (e : shown[j]? = some z) (c : ¬ ((row z).any fun n => decide (n ∈ inner)) = true) : feetL row (shown.take (j + 1)) inner = feetL row (shown.take j) inner := by
  unfold feetL
  rw [take_next e, List.filter_append, List.filter_cons_of_neg (p := fun f => (row f).any fun n => decide (n ∈ inner)) c]
  simp
structure BrgsOk (row : Int → List Int) (ks shown : List Int) (left : List Tie) (bs : List Brg) : Prop where
  each : ∀ b ∈ bs, (b.1 = [] ∧ ∃ t ∈ left, t.1 ∈ shown ∧ t.2 ∈ shown ∧ b.2 = [t.1, t.2]) ∨ ∃ p ∈ ks, p ∉ shown ∧ b.1.Pairwise (· < ·) ∧ (∀ x, x ∈ b.1 ↔ RchS row shown p x) ∧ b.2 = feetL row shown b.1
  ties : ∀ t ∈ left, t.1 ∈ shown → t.2 ∈ shown → ([], [t.1, t.2]) ∈ bs
  pts : ∀ p ∈ ks, p ∉ shown → ∃ b ∈ bs, p ∈ b.1
/-- at some addresses nothing of it stands -/
def BrgN (N : List Addr) (H : Hp) (v : V) (b : Brg) : Prop := ∃ p i f, v = .ref p ∧ H p = some (.tup [.ref i, .ref f]) ∧ H i = some (.lst (iL b.1)) ∧ H f = some (.lst (iL b.2)) ∧ p ∉ N ∧ i ∉ N ∧ f ∉ N
theorem BrgN.at {N : List Addr} {H : Hp} {v : V} {b : Brg} (h : BrgN N H v b) : BrgAt H v b := by
  obtain ⟨p, i, f, e, h1, h2, h3, _⟩ := h
  exact ⟨p, i, f, e, h1, h2, h3⟩
theorem BrgN.same {N : List Addr} {H H' : Hp} (s : Same H H') {v : V} {b : Brg} (h : BrgN N H v b) : BrgN N H' v b := by
  obtain ⟨p, i, f, e, h1, h2, h3, r⟩ := h
  exact ⟨p, i, f, e, s _ _ h1, s _ _ h2, s _ _ h3, r⟩
theorem BrgN.put {N : List Addr} {H : Hp} {a : Addr} {o : HO} (ha : a ∈ N) {v : V} {b : Brg} (h : BrgN N H v b) : BrgN N (upd H a o) v b := by
  obtain ⟨p, i, f, e, h1, h2, h3, r1, r2, r3⟩ := h
  exact ⟨p, i, f, e, by rw [upd_ne (show p ≠ a from fun z => r1 (z ▸ ha))]; exact h1, by rw [upd_ne (show i ≠ a from fun z => r2 (z ▸ ha))]; exact h2, by rw [upd_ne (show f ≠ a from fun z => r3 (z ▸ ha))]; exact h3, r1, r2, r3⟩
theorem BrgN.also {N : List Addr} {H : Hp} {a : Addr} (ha : H a = none) {v : V} {b : Brg} (h : BrgN N H v b) : BrgN (a :: N) H v b := by
  obtain ⟨p, i, f, e, h1, h2, h3, r1, r2, r3⟩ := h
  have ne : ∀ {c o}, H c = some o → c ∉ N → c ∉ a :: N := fun {c o} q r z => by
    rcases List.mem_cons.mp z with z | z
    · rw [z, ha] at q
      cases q
    · exact r z
  exact ⟨p, i, f, e, h1, h2, h3, ne h1 r1, ne h2 r2, ne h3 r3⟩
theorem BrgN.off {N : List Addr} {H : Hp} {R : Addr} {o o' : HO} (e : H R = some o) (n1 : ∀ xs, o ≠ .tup xs) (n2 : ∀ xs, o ≠ .lst xs) {v : V} {b : Brg} (h : BrgN N H v b) : BrgN N (upd H R o') v b := by
  obtain ⟨p, i, f, e0, h1, h2, h3, r⟩ := h
  have ne1 : ∀ {a xs}, H a = some (.tup xs) → a ≠ R := fun {a xs} q z => by
    rw [z, e] at q
    exact n1 xs (Option.some.inj q)
  have ne2 : ∀ {a xs}, H a = some (.lst xs) → a ≠ R := fun {a xs} q z => by
    rw [z, e] at q
    exact n2 xs (Option.some.inj q)
  exact ⟨p, i, f, e0, by rw [upd_ne (ne1 h1)]; exact h1, by rw [upd_ne (ne2 h2)]; exact h2, by rw [upd_ne (ne2 h3)]; exact h3, r⟩
theorem paired_snoc {α β : Type} {F : α → β → Prop} : ∀ {xs : List α} {ys : List β} {x : α} {y : β}, Paired F xs ys → F x y → Paired F (xs ++ [x]) (ys ++ [y])
  | _, _, _, _, .nil, h => .cons h .nil
  | _, _, _, _, .cons a r, h => .cons a (paired_snoc r h)
theorem DRows.frz {H : Hp} {R : Addr} {ks : List Int} {row : Int → List Int} {kvs : List (Key × V)} {od : Obj} (h : DRows H R ks row) (e : H R = some (.dK kvs)) : DRows (upd H R (.frz od (.dK kvs))) R ks row := by
  obtain ⟨kv2, h1, h2, h3⟩ := h.ex
  have : kv2 = kvs := by
    rcases h1 with h1 | ⟨o, h1⟩
    · rw [e] at h1
      cases h1
      rfl
    · rw [e] at h1
      cases h1
  subst this
  refine ⟨_, .inr ⟨od, upd_same⟩, h2, fun k hk => ?_⟩
  obtain ⟨b, b1, b2⟩ := h3 k hk
  refine ⟨b, b1, ?_⟩
  rw [upd_ne (fun z => by rw [z, e] at b2; cases b2)]
  exact b2
/-- the loop over the points -/
structure BrgI (row : Int → List Int) (ks shown : List Int) (left : List Tie) (i : Nat) (placed : List Int) (bs : List Brg) : Prop where
  each : ∀ b ∈ bs, (b.1 = [] ∧ ∃ t ∈ left, t.1 ∈ shown ∧ t.2 ∈ shown ∧ b.2 = [t.1, t.2]) ∨ ∃ p ∈ ks, p ∉ shown ∧ b.1.Pairwise (· < ·) ∧ (∀ x, x ∈ b.1 ↔ RchS row shown p x) ∧ b.2 = feetL row shown b.1
  ties : ∀ t ∈ left, t.1 ∈ shown → t.2 ∈ shown → ([], [t.1, t.2]) ∈ bs
  put : ∀ x ∈ placed, ∃ b ∈ bs, x ∈ b.1
  done : ∀ (j : Nat) (p : Int), j < i → ks[j]? = some p → p ∉ shown → p ∈ placed
  lenB : bs.length ≤ left.length + i
  lenP : placed.length ≤ ks.length * i
theorem BrgI.skip {row : Int → List Int} {ks shown : List Int} {left : List Tie} {i : Nat} {placed : List Int} {bs : List Brg} (h : BrgI row ks shown left i placed bs) {p : Int} (e : ks[i]? = some p) (c : p ∈ shown ∨ p ∈ placed) : BrgI row ks shown left (i + 1) placed bs := by
  refine ⟨h.each, h.ties, h.put, fun j q hj eq hq => ?_, by have := h.lenB; omega, Nat.le_trans h.lenP (Nat.mul_le_mul_left _ (Nat.le_succ i))⟩
  by_cases cj : j = i
  · subst cj
    cases Option.some.inj (e.symm.trans eq)
    exact c.elim (fun z => absurd z hq) id
  · exact h.done j q (by omega) eq hq
theorem BrgI.more {row : Int → List Int} {ks shown : List Int} {left : List Tie} {i : Nat} {placed : List Int} {bs : List Brg} (h : BrgI row ks shown left i placed bs) {p : Int} (e : ks[i]? = some p) (c : p ∉ shown) {inner : List Int} (srt : inner.Pairwise (· < ·)) (mem : ∀ x, x ∈ inner ↔ RchS row shown p x) (sub : ∀ x ∈ inner, x ∈ ks) :
    BrgI row ks shown left (i + 1) (placed ++ inner) (bs ++ [(inner, feetL row shown inner)]) := by
  refine ⟨fun b hb => ?_, fun t ht h1 h2 => List.mem_append_left _ (h.ties t ht h1 h2), fun x hx => ?_, fun j q hj eq hq => ?_, by rw [List.length_append]; have := h.lenB; show _ + 1 ≤ _; omega, ?_⟩
  · rcases List.mem_append.mp hb with z | z
    · exact h.each b z
    · rw [List.mem_singleton.mp z]
      exact .inr ⟨p, List.mem_of_getElem? e, c, srt, mem, rfl⟩
  · rcases List.mem_append.mp hx with z | z
    · obtain ⟨b, hb, hx⟩ := h.put x z
      exact ⟨b, List.mem_append_left _ hb, hx⟩
    · exact ⟨_, List.mem_append_right _ (List.mem_singleton.mpr rfl), z⟩
  · by_cases cj : j = i
    · subst cj
      cases Option.some.inj (e.symm.trans eq)
      exact List.mem_append_right _ ((mem p).mpr .here)
    · exact List.mem_append_left _ (h.done j q (by omega) eq hq)
  · have nd : inner.Nodup := srt.imp fun h e => by omega
    have l := nd.length_le_of_subset fun x hx => sub x hx
    rw [List.length_append, Nat.mul_succ]
    have := h.lenP
    omega
theorem BrgI.tie_no {row : Int → List Int} {ks shown : List Int} {left : List Tie} {i : Nat} {bs : List Brg} (h : BrgI row ks shown (left.take i) 0 [] bs) {t : Tie} (e : left[i]? = some t) (c : t.1 ∉ shown ∨ t.2 ∉ shown) : BrgI row ks shown (left.take (i + 1)) 0 [] bs := by
  rw [take_next e]
  refine ⟨fun b hb => ?_, fun u hu h1 h2 => ?_, h.put, h.done, by have := h.lenB; rw [List.length_append]; omega, h.lenP⟩
  · rcases h.each b hb with ⟨z, u, hu, r⟩ | z
    · exact .inl ⟨z, u, List.mem_append_left _ hu, r⟩
    · exact .inr z
  · rcases List.mem_append.mp hu with z | z
    · exact h.ties u z h1 h2
    · rw [List.mem_singleton.mp z] at h1 h2
      exact c.elim (fun q => absurd h1 q) fun q => absurd h2 q
theorem BrgI.tie_yes {row : Int → List Int} {ks shown : List Int} {left : List Tie} {i : Nat} {bs : List Brg} (h : BrgI row ks shown (left.take i) 0 [] bs) {t : Tie} (e : left[i]? = some t) (c1 : t.1 ∈ shown) (c2 : t.2 ∈ shown) : BrgI row ks shown (left.take (i + 1)) 0 [] (bs ++ [([], [t.1, t.2])]) := by
  rw [take_next e]
  refine ⟨fun b hb => ?_, fun u hu h1 h2 => ?_, (fun x hx => nomatch hx), h.done, by have := h.lenB; rw [List.length_append, List.length_append]; show _ + 1 ≤ (_ + 1) + 0; omega, h.lenP⟩
  · rcases List.mem_append.mp hb with hb | hb
    · rcases h.each b hb with ⟨z, u, hu, r⟩ | z
      · exact .inl ⟨z, u, List.mem_append_left _ hu, r⟩
      · exact .inr z
    · rw [List.mem_singleton.mp hb]
      exact .inl ⟨rfl, t, by simp, c1, c2, rfl⟩
  · rcases List.mem_append.mp hu with z | z
    · exact List.mem_append_left _ (h.ties u z h1 h2)
    · rw [List.mem_singleton.mp z]
      simp
theorem BrgI.all {row : Int → List Int} {ks shown : List Int} {left : List Tie} {placed : List Int} {bs : List Brg} (h : BrgI row ks shown left ks.length placed bs) : BrgsOk row ks shown left bs :=
  ⟨h.each, h.ties, fun p hp c => by
    obtain ⟨j, hj⟩ := List.mem_iff_getElem?.mp hp
    exact h.put p (h.done j p (List.getElem?_eq_some_iff.mp hj).1 hj c)⟩
def spBridges (K : PySem.W.Frag) : Sp := fun vs H Q _ => ∃ (R S L : Addr) (kvs : List (Key × V)) (ks shown : List Int) (row : Int → List Int) (lws : List V) (left : List Tie), vs = [.ref R, .ref S, .ref L] ∧ H R = some (.dK kvs) ∧ kvs.map (·.1) = ks.map Sum.inl ∧ DRows H R ks row ∧
  H S = some (.lst (iL shown)) ∧ H L = some (.lst lws) ∧ PairsAt H lws left ∧ ks.length ≤ 16 ∧ left.length ≤ 100 ∧ ks.Nodup ∧ shown.Nodup ∧ (∀ k ∈ shown, k ∈ ks) ∧ (∀ k ∈ ks, ∀ j ∈ row k, j ∈ ks) ∧ (∀ k ∈ ks, (row k).length ≤ 300) ∧
  ∀ (H' : Hp) (D : Addr) (ws : List V) (bs : List Brg), Same H H' → H' D = some (.lst ws) → Paired (BrgAt H') ws bs → bs.length ≤ 120 → BrgsOk row ks shown left bs → Q (.ref D) H'
section
variable {P : Program} {w : World} {K : PySem.W.Frag} {mg : Str → Option Value} {base : Heap} {C : Addr}
abbrev nBridges : List Str := ["rows", "shown", "left", "bridges", "placed", "point", "inner", "one", "other", "foot", "near"]
abbrev scpFoot : Scope := { kind := .function, names := [(".0", .local), ("foot", .local), ("any", .globalImplicit), ("inner", .free), ("rows", .free)], isGenerator := false, isCoroutine := false }
theorem scBridges : FnScope nBridges ["rows", "shown", "left"] (defScope sBridges) := ⟨rfl, rfl, rfl, by decide +kernel, rfl, by decide +kernel, by decide +kernel⟩
theorem c_bridges (T : WTxt K mg C) (FR : FnR7 K mg) (any : mg "any" = none) (F : Fn K mg "_bridges" sBridges ["rows", "shown", "left"]) : C8.Cal P w K mg base 2 "_bridges" (spBridges K) [] := by
  refine cal_of F scBridges (fun vs H Q E h => ?_) (fun f cdv A outer s H vs Q E hr h => ?_)
  · obtain ⟨R, S, L, kvs, ks, shown, row, lws, left, rfl, _⟩ := h
    rfl
  · obtain ⟨R, S, L, kvs, ks, shown, row, lws, left, rfl, hR0, ek, hR, hS, hL, pL, kl, ll, knd, snd, sk, cl, rl, k⟩ := h
    have hu1 : (A.deeper (envOfC "_bridges" (defScope sBridges) s.heap.objs.size f cdv)).units + 1 < cLine := by
      have := hr.un
      omega
    refine ⟨_, pss_cons (ps_setLc (i := 3) (own := [("one", 7), ("other", 8)]) (g := gTup K 2 (gCons (gName 7) (gCons (gName 8) gNil))) (by rfl) scBridges.nd rfl rfl (sw_true rfl rfl rfl (by decide +kernel)) (pi_list (pv 2))
        (blkOk_by (own := [("one", 7), ("other", 8)]) (N := nBridges) (sc := defScope sBridges) (by decide +kernel)) (fun _ _ _ _ _ => pg_tup (by rfl) (pgs_cons (pg_name (i := 7) scBridges.nd rfl (Or.inl rfl)) (pgs_cons (pg_name (i := 8) scBridges.nd rfl (Or.inl rfl)) pgs_nil)))
        (fun _ _ _ _ _ => pts_one (PW.pt (pw_and (pt_cmpR (r := rIn K false) op_in_seq (pv 7) (pv 1) (by rfl)) (pw_and1 (pt_cmpR (r := rIn K false) op_in_seq (pv 8) (pv 1) (by rfl)))))) (fun _ _ _ _ _ => pe_tup (pa_cons (pe_lst pa_nil) (pa_cons (pe_lst (pa_cons (pv 7) (pa_cons (pv 8) pa_nil))) pa_nil))))
      (pss_cons (ps_set (i := 4) scBridges.nd rfl (Or.inl rfl) (pe_lst pa_nil))
      (pss_cons (ps_lock (ps_for PassesOwn.never rfl (pi_keys (pv 0)) (pg_name (i := 5) scBridges.nd rfl (Or.inl rfl))
        (pss_one (ps_if (PW.pt (pw_and (pt_cmpR op_notIn_seq (pv 5) (pv 1) (by rfl)) (pw_and1 (pt_cmpR op_notIn_seq (pv 5) (pv 4) (by rfl)))))
          (pss_cons (ps_set (i := 6) scBridges.nd rfl (Or.inr rfl) (C8.pe_c (c_reachedD T FR) hr (by decide) (by rfl) (pa_cons (pv 0) (pa_cons (pv 5) (pa_cons (pv 1) pa_nil)))))
          (pss_cons (ps_expr (pe_bm PySem.F.plainAttrs_list PySem.F.slot_list_extend PySem.F.type_list_extend mt_extend (pv 4) (pa_cons (pv 6) pa_nil)))
          (pss_one (ps_expr (pe_bm PySem.F.plainAttrs_list PySem.F.slot_list_append PySem.F.type_list_append mt_append (pv 3) (pa_cons (pe_tup (pa_cons (pv 6) (pa_cons
            (pe_lc (own := [("foot", 9)]) (g := gName 9) (te := tVar 9) (by rfl) scBridges.nd (pi_list (pv 1)) (blkOk_by (own := [("foot", 9)]) (N := nBridges) (sc := defScope sBridges) (by decide +kernel)) (fun _ _ _ _ _ => pg_name (i := 9) scBridges.nd rfl (Or.inl rfl))
              (fun _ _ _ _ _ => pts_one (pt_val (pe_callB (id := "any") (r := rAny K) (cr_any rfl) (by rfl) any (by decide +kernel) (pa_cons
                (pe_lc (own := [("near", 10)]) (g := gName 10) (tt := tYes) (wi := iList K (tDGet (tVar 0) (tVar 9))) (te := tOp (rIn K false) (tVar 10) (tVar 6)) (by rfl) scBridges.nd (pi_list (pe_dget hu1 (pv 0) (pv 9) (fun _ _ => rfl))) (blkOk_by (own := [("near", 10)]) (N := nBridges) (sc := relS scpFoot (defScope sBridges)) (by decide +kernel)) (fun _ _ _ _ _ => pg_name (i := 10) scBridges.nd rfl (Or.inl rfl)) (fun _ _ _ _ _ => pts_nil)
                  (fun _ _ _ _ _ => pe_cmpR op_in_seq (pv 10) (pv 6) (by rfl)))
                pa_nil))))
              (fun _ _ _ _ _ => pv 9)) pa_nil))) pa_nil)))))) pss_nil))))
      (pss_one (ps_ret (pv 3))))), ?_⟩
    refine ⟨_, rfl, L, rfl, ⟨_, SqL.of hL⟩, fun D hD => ?_⟩
    refine it_W (walk_list (K := K) (a := L) (xs := lws)) (fun i H1 => Same H H1 ∧ ∃ ws bs, H1 D = some (.lst ws) ∧ Paired (BrgN [D] H1) ws bs ∧ BrgI row ks shown (left.take i) 0 [] bs) ⟨Same.put hD, [], [], upd_same, .nil, ?_⟩ (fun i H1 _ ⟨s1, _⟩ => SqL.of (s1 _ _ hL)) ?_ ?_
    · exact ⟨(fun b hb => nomatch hb), (fun t ht => nomatch (show t ∈ ([] : List Tie) from ht)), (fun x hx => nomatch hx), (fun j p hj => absurd hj (Nat.not_lt_zero _)), Nat.zero_le _, Nat.zero_le _⟩
    · rintro i x H1 H2 hi ⟨s1, ws, bs, d1, pb, bi⟩ ⟨rfl, ex⟩
      obtain ⟨t, et, hpair⟩ := paired_get pL ex
      obtain ⟨c, rfl, hc⟩ := PairAt.same s1 hpair
      obtain ⟨p, q⟩ := t
      refine ⟨c, [.int p, .int q], rfl, SqT.of hc, rfl, _, _, rfl, _, _, rfl, rfl, ?_⟩
      have ht : (p, q) ∈ left := List.mem_of_getElem? et
      have s1S := SqL.of (K := K) (s1 _ _ hS)
      have einp := inV_ints shown p
      have einq := inV_ints shown q
      refine ⟨rfl, _, rfl, _, rfl, S, iL shown, rfl, .inl s1S, rfl, flat_ints _, _, rfl, ?_⟩
      by_cases c1 : p ∈ shown
      · refine yep_ (show inV (.int p) (iL shown) = true by rw [einp, decide_eq_true c1]) ?_
        refine ⟨_, rfl, _, rfl, S, iL shown, rfl, .inl s1S, rfl, flat_ints _, _, rfl, ?_⟩
        by_cases c2 : q ∈ shown
        · refine yep_ (show inV (.int q) (iL shown) = true by rw [einq, decide_eq_true c2]) ?_
          have hl : ws.length ≤ 200 := by
            rw [pb.length]
            have := bi.lenB
            rw [List.length_take] at this
            omega
          refine ⟨Nat.zero_le _, fun a1 ha1 => ⟨_, rfl, _, rfl, smalle (by show 2 ≤ 1000; omega), fun a2 ha2 => ⟨smalle (by show 2 ≤ 1000; omega), fun a3 ha3 => ?_⟩⟩⟩
          have t1 := Same.put (o := .lst []) ha1
          have t2 := Same.put (o := .lst [.int p, .int q]) ha2
          have t3 := Same.put (o := .tup [.ref a1, .ref a2]) ha3
          have t23 := t1.trans (t2.trans t3)
          have d3 := t23 _ _ d1
          have e1 := (t2.trans t3) _ _ (show (upd H2 a1 (.lst [])) a1 = _ from upd_same)
          have e2 := t3 _ _ (show (upd (upd H2 a1 (.lst [])) a2 (.lst [.int p, .int q])) a2 = _ from upd_same)
          have e3 : (upd (upd (upd H2 a1 (.lst [])) a2 (.lst [.int p, .int q])) a3 (.tup [.ref a1, .ref a2])) a3 = _ := upd_same
          refine ⟨ws, d3, small (by omega), ?_⟩
          generalize upd (upd (upd H2 a1 (.lst [])) a2 (.lst [.int p, .int q])) a3 (.tup [.ref a1, .ref a2]) = H3 at *
          have ne : ∀ {a o}, H2 a = none → H3 a = some o → a ∉ [D] := fun {a o} q _ z => by
            rw [List.mem_singleton.mp z, d1] at q
            cases q
          have W3 : Paired (BrgN [D] H3) (ws ++ [.ref a3]) (bs ++ [([], [p, q])]) := paired_snoc (Paired.mono (fun _ _ => BrgN.same t23) pb) ⟨a3, a1, a2, rfl, e3, e1, e2, ne (t1.free (t2.free ha3)) e3, ne ha1 e1, ne (t1.free ha2) e2⟩
          exact ⟨Same.write (s1.trans t23) hD, ws ++ [.ref a3], _, upd_same, Paired.mono (fun v b hb => hb.put (by simp)) W3, bi.tie_yes et c1 c2⟩
        · refine no_ (show inV (.int q) (iL shown) = false by rw [einq, decide_eq_false c2]) ?_
          exact ⟨s1, ws, bs, d1, pb, bi.tie_no et (.inr c2)⟩
      · refine no_ (show inV (.int p) (iL shown) = false by rw [einp, decide_eq_false c1]) ?_
        exact ⟨s1, ws, bs, d1, pb, bi.tie_no et (.inl c1)⟩
    · rintro H1 ⟨s1, ws, bs, d1, pb, bi⟩
      have pl : lws.length = left.length := pL.length
      rw [pl, List.take_length] at bi
      -- placed = []
      refine ⟨Nat.zero_le _, fun Pl hPl => ?_⟩
      have PD : Pl ≠ D := fun z => by rw [z, d1] at hPl; cases hPl
      have HPl : H Pl = none := s1.free hPl
      have t1 := Same.put (o := .lst []) hPl
      have s2 := s1.trans t1
      have d2 := t1 _ _ d1
      have l2 : (upd H1 Pl (.lst [])) Pl = some (.lst (iL [])) := upd_same
      have pb2 : Paired (BrgN [Pl, D] (upd H1 Pl (.lst []))) ws bs := Paired.mono (fun v b hb => (hb.also hPl).same t1) pb
      generalize upd H1 Pl (.lst []) = H2 at *
      have hRD : R ≠ D := fun z => by rw [z, hD] at hR0; cases hR0
      have hRP : R ≠ Pl := fun z => by rw [z, HPl] at hR0; cases hR0
      -- for point in rows
      refine ⟨R, .dK kvs, s2 _ _ hR0, trivial, fun od => ?_⟩
      refine ⟨_, rfl, R, od, rfl, .inl ⟨kvs, upd_same, ?_⟩⟩
      have hf0 : Same (upd H R (.frz od (.dK kvs))) (upd H2 R (.frz od (.dK kvs))) := fun b o e => by
        by_cases c : b = R
        · rw [c, upd_same] at e ⊢
          exact e
        · rw [upd_ne c] at e ⊢
          exact s2 _ _ e
      have fR := hR.frz (od := od) hR0
      have fS : (upd H R (.frz od (.dK kvs))) S = some (.lst (iL shown)) := by
        rw [upd_ne (fun z => by rw [z, hR0] at hS; cases hS)]
        exact hS
      have fD : (upd H R (.frz od (.dK kvs))) D = none := by
        rw [upd_ne hRD.symm]
        exact hD
      have fP : (upd H R (.frz od (.dK kvs))) Pl = none := by
        rw [upd_ne hRP.symm]
        exact HPl
      have fRR : (upd H R (.frz od (.dK kvs))) R = some (.frz od (.dK kvs)) := upd_same
      have kvl : kvs.length = ks.length := by
        have := congrArg List.length ek
        rwa [List.length_map, List.length_map] at this
      refine for_it (walk_keys (d := R) (o := od) (kvs := kvs)) (fun i σ H3 => ∃ (v5 v6 : Option V) (ws : List V) (bs : List Brg) (placed : List Int), σ = [some (.ref R), some (.ref S), some (.ref L), some (.ref D), some (.ref Pl), v5, v6, none, none, none, none] ∧ Same (upd H R (.frz od (.dK kvs))) H3 ∧ H3 D = some (.lst ws) ∧ H3 Pl = some (.lst (iL placed)) ∧ Paired (BrgN [Pl, D] H3) ws bs ∧ BrgI row ks shown left i placed bs)
        ⟨none, none, ws, bs, [], rfl, hf0, by rw [upd_ne hRD.symm]; exact d2, by rw [upd_ne hRP.symm]; exact l2, ?_, ?_⟩ (fun i σ H3 _ ⟨_, _, _, _, _, _, s3, _⟩ => s3 _ _ fRR) ?_ ?_
      · exact Paired.mono (fun v b hb => hb.off (s2 _ _ hR0) (fun _ z => nomatch z) (fun _ z => nomatch z)) pb2
      · exact ⟨bi.each, bi.ties, bi.put, (fun j p hj => absurd hj (Nat.not_lt_zero _)), by have := bi.lenB; omega, Nat.zero_le _⟩
      · rintro i x σ H3 H4 hi ⟨v5, v6, ws, bs, placed, rfl, s3, d3, l3, pb3, bi3⟩ ⟨rfl, kk, vv, ekv, rfl⟩
        have ek2 : ∃ p, kk = Sum.inl p ∧ ks[i]? = some p := by
          have q : (kvs.map (·.1))[i]? = some kk := by rw [List.getElem?_map, ekv]; rfl
          rw [ek, List.getElem?_map] at q
          cases c : ks[i]? with
          | none => rw [c] at q; cases q
          | some p => rw [c] at q; exact ⟨p, (Option.some.inj q).symm, rfl⟩
        obtain ⟨p, rfl, ep⟩ := ek2
        have pk : p ∈ ks := List.mem_of_getElem? ep
        have il : i < ks.length := (List.getElem?_eq_some_iff.mp ep).1
        have bl : bs.length ≤ 120 := by
          have := bi3.lenB
          omega
        have pll : placed.length ≤ 256 := Nat.le_trans bi3.lenP (by
          have h1 : ks.length * i ≤ 16 * i := Nat.mul_le_mul_right i kl
          omega)
        have einp := inV_ints shown p
        have einl := inV_ints placed p
        refine ⟨_, rfl, _, rfl, S, iL shown, rfl, .inl (SqL.of (s3 _ _ fS)), rfl, flat_ints _, _, rfl, ?_⟩
        by_cases c1 : p ∈ shown
        · refine no_ (show (!inV (.int p) (iL shown)) = false by rw [einp, decide_eq_true c1]; rfl) ?_
          exact ⟨_, _, ws, bs, placed, rfl, s3, d3, l3, pb3, bi3.skip ep (.inl c1)⟩
        · refine yep_ (show (!inV (.int p) (iL shown)) = true by rw [einp, decide_eq_false c1]; rfl) ?_
          refine ⟨_, rfl, _, rfl, Pl, iL placed, rfl, .inl (SqL.of l3), rfl, flat_ints _, _, rfl, ?_⟩
          by_cases c2 : p ∈ placed
          · refine no_ (show (!inV (.int p) (iL placed)) = false by rw [einl, decide_eq_true c2]; rfl) ?_
            exact ⟨_, _, ws, bs, placed, rfl, s3, d3, l3, pb3, bi3.skip ep (.inr c2)⟩
          · refine yep_ (show (!inV (.int p) (iL placed)) = true by rw [einl, decide_eq_false c2]; rfl) ?_
            refine ⟨_, rfl, _, rfl, _, rfl, R, S, ks, shown, row, p, rfl, s3 _ _ fS, fR.same s3, by omega, cl, pk, fun H4 I out s4 n4 d4 srt mem => ?_⟩
            have sub : ∀ x ∈ out, x ∈ ks := fun x hx => ((mem x).mp hx).inside cl pk
            have ond : out.Nodup := srt.imp fun h e => by omega
            have ol : out.length ≤ 16 := Nat.le_trans (ond.length_le_of_subset fun x hx => sub x hx) kl
            have l4 := s4 _ _ l3
            have IP : I ≠ Pl := fun z => by rw [z, l3] at n4; cases n4
            refine ⟨_, rfl, .inl ⟨rfl, _, SqL.of l4⟩, _, rfl, Pl, I, _, _, rfl, rfl, l4, d4, by rw [List.length_map, List.length_map]; exact smalle (by omega), ?_⟩
            have eP : iL placed ++ iL out = iL (placed ++ out) := by
              unfold iL
              rw [List.map_append]
            rw [eP]
            have s5 : Same (upd H R (.frz od (.dK kvs))) (upd H4 Pl (.lst (iL (placed ++ out)))) := Same.write (s3.trans s4) fP
            have l5 : (upd H4 Pl (.lst (iL (placed ++ out)))) Pl = some (.lst (iL (placed ++ out))) := upd_same
            have d5 : (upd H4 Pl (.lst (iL (placed ++ out)))) D = some (.lst ws) := by
              rw [upd_ne PD.symm]
              exact s4 _ _ d3
            have i5 : (upd H4 Pl (.lst (iL (placed ++ out)))) I = some (.lst (iL out)) := by
              rw [upd_ne IP]
              exact d4
            have pb5 : Paired (BrgN [Pl, D] (upd H4 Pl (.lst (iL (placed ++ out))))) ws bs := Paired.mono (fun v b hb => (hb.same s4).put (by simp)) pb3
            have IN : I ∉ [Pl, D] := fun z => by
              rcases List.mem_cons.mp z with z | z
              · exact IP z
              · rw [List.mem_singleton.mp z, d3] at n4
                cases n4
            generalize upd H4 Pl (.lst (iL (placed ++ out))) = H5 at *
            refine ⟨_, rfl, .inl ⟨rfl, _, SqL.of d5⟩, _, rfl, _, rfl, S, rfl, ⟨_, SqL.of (s5 _ _ fS)⟩, fun Ft hFt => ?_⟩
            have HFt : (upd H R (.frz od (.dK kvs))) Ft = none := s5.free hFt
            refine it_W (walk_list (K := K) (a := S) (xs := iL shown)) (fun j H6 => Same H5 H6 ∧ H6 Ft = some (.lst (iL (feetL row (shown.take j) out)))) ⟨Same.put hFt, upd_same⟩ (fun j H6 _ ⟨s6, _⟩ => SqL.of (s6 _ _ (s5 _ _ fS))) ?_ ?_
            · rintro j x H60 H6 hj ⟨s6, f6⟩ ⟨rfl, ex⟩
              obtain ⟨z, ez, rfl⟩ := iL_at ex
              have zs : z ∈ shown := List.mem_of_getElem? ez
              obtain ⟨b, eb, hb⟩ := fR.got (s5.trans s6) (sk z zs)
              have hb6 := (s5.trans s6) _ _ hb
              have i6 := s6 _ _ i5
              refine ⟨rfl, ?_⟩
              refine ⟨_, rfl, _, rfl, R, .ref b, rfl, eb, b, rfl, ⟨_, SqL.of hb6⟩, fun Bl hBl => ?_⟩
              refine it_W (walk_list (K := K) (a := b) (xs := iL (row z))) (fun n H7 => Same H6 H7 ∧ H7 Bl = some (.lst ((((row z).take n).map fun y => decide (y ∈ out)).map V.bl))) ⟨Same.put hBl, upd_same⟩ (fun n H7 _ ⟨s7, _⟩ => SqL.of (s7 _ _ hb6)) ?_ ?_
              · rintro n x H8 H9 hn ⟨s8, b8⟩ ⟨rfl, ex2⟩
                obtain ⟨y, ey, rfl⟩ := iL_at ex2
                have nl : n < (row z).length := (List.getElem?_eq_some_iff.mp ey).1
                have rz := rl z (sk z zs)
                refine ⟨rfl, ?_⟩
                refine yes_ ?_
                refine iteT ?_
                refine ⟨_, rfl, _, rfl, I, iL out, rfl, .inl (SqL.of (s8 _ _ i6)), rfl, flat_ints _, _, b8, by rw [List.length_map, List.length_map, List.length_take]; exact small (by omega), Same.write s8 hBl, ?_⟩
                rw [upd_same, take_next ey, List.map_append, List.map_append]
                show some (HO.lst (_ ++ [V.bl (inV (.int y) (iL out))])) = some (HO.lst (_ ++ [V.bl (decide (y ∈ out))]))
                rw [inV_ints]
              · rintro H8 ⟨s8, b8⟩
                rw [List.length_map, List.take_length] at b8
                refine ⟨Bl, _, rfl, SqL.of b8, ?_⟩
                have ea : ((row z).map fun y => decide (y ∈ out)).any id = (row z).any fun y => decide (y ∈ out) := by
                  rw [List.any_map]
                  rfl
                rw [ea]
                have f8 := s8 _ _ f6
                by_cases c : ((row z).any fun y => decide (y ∈ out)) = true
                · rw [c]
                  refine ⟨true, rfl, ?_⟩
                  refine iteT ?_
                  have jl : j < shown.length := (List.getElem?_eq_some_iff.mp ez).1
                  have sl : shown.length ≤ 16 := Nat.le_trans (snd.length_le_of_subset fun x hx => sk x hx) kl
                  have fl : (feetL row (shown.take j) out).length ≤ 16 := by
                    have := List.length_filter_le (fun f => (row f).any fun n => decide (n ∈ out)) (shown.take j)
                    rw [List.length_take] at this
                    exact Nat.le_trans this (by omega)
                  refine ⟨_, rfl, _, f8, by rw [List.length_map]; exact small (by omega), Same.write (s6.trans s8) hFt, ?_⟩
                  rw [upd_same, feet_yes ez c]
                  unfold iL
                  rw [List.map_append]
                  rfl
                · rw [Bool.eq_false_iff.mpr c]
                  refine ⟨false, rfl, ?_⟩
                  refine iteF ⟨s6.trans s8, ?_⟩
                  rw [f8, feet_no ez c]
            · rintro H6 ⟨s6, f6⟩
              rw [List.length_map, List.take_length] at f6
              refine ⟨smalle (by show 2 ≤ 1000; omega), fun Tp hTp => ?_⟩
              have t7 := Same.put (o := .tup [.ref I, .ref Ft]) hTp
              have d7 := (s6.trans t7) _ _ d5
              have i7 := (s6.trans t7) _ _ i5
              have f7 := t7 _ _ f6
              have p7 : (upd H6 Tp (.tup [.ref I, .ref Ft])) Tp = some (.tup [.ref I, .ref Ft]) := upd_same
              have s57 := s6.trans t7
              have pb7 : Paired (BrgN [Pl, D] (upd H6 Tp (.tup [.ref I, .ref Ft]))) (ws ++ [.ref Tp]) (bs ++ [(out, feetL row shown out)]) := paired_snoc (Paired.mono (fun _ _ hb => hb.same s57) pb5) ⟨Tp, I, Ft, rfl, p7, i7, f7, fun z => ?_, IN, fun z => ?_⟩
              · have l7 := s57 _ _ l5
                generalize upd H6 Tp (.tup [.ref I, .ref Ft]) = H7 at *
                refine ⟨D, ws, _, rfl, rfl, d7, small (by rw [pb3.length]; omega), ?_⟩
                refine ⟨_, _, ws ++ [.ref Tp], bs ++ [(out, feetL row shown out)], placed ++ out, rfl, Same.write (s5.trans s57) fD, upd_same, ?_, Paired.mono (fun _ _ hb => hb.put (by simp)) pb7, bi3.more ep c1 srt mem sub⟩
                rw [upd_ne PD]
                exact l7
              · have q6 := s6 _ _ d5
                have q7 := s6 _ _ l5
                rcases List.mem_cons.mp z with z | z
                · rw [z, q7] at hTp
                  cases hTp
                · rw [List.mem_singleton.mp z, q6] at hTp
                  cases hTp
              · rcases List.mem_cons.mp z with z | z
                · rw [z, l5] at hFt
                  cases hFt
                · rw [List.mem_singleton.mp z, d5] at hFt
                  cases hFt
      · rintro σ H3 ⟨v5, v6, ws, bs, placed, rfl, s3, d3, l3, pb3, bi3⟩
        rw [kvl] at bi3
        refine ⟨s3 _ _ fRR, _, rfl, k (upd H3 R (.dK kvs)) D ws bs (fun b o e => ?_) (by rw [upd_ne hRD.symm]; exact d3) (Paired.mono (fun v b hb => (hb.off (s3 _ _ fRR) (fun _ z => nomatch z) (fun _ z => nomatch z)).at) pb3) (by have := bi3.lenB; omega) bi3.all⟩
        by_cases c : b = R
        · rw [c, hR0] at e
          rw [c, upd_same]
          exact e
        · rw [upd_ne c]
          refine s3 _ _ ?_
          rw [upd_ne c]
          exact e
end
end Fd
namespace Fd
open PySem PySem.Spec PyProof.Rows L2
/-! ### `_homes`: the places of the fields into which a bridge fits -/
def FldAt (H : Hp) (v : V) (f : List Int) : Prop := ∃ a, v = .ref a ∧ H a = some (.lst (iL f))
theorem FldAt.same {H H' : Hp} (s : Same H H') {v : V} {f : List Int} (h : FldAt H v f) : FldAt H' v f := by
  obtain ⟨a, e, h1⟩ := h
  exact ⟨a, e, s _ _ h1⟩
def homesN (feet : List Int) (fs : List (List Int)) (n : Nat) : List Int := ((List.range n).filter fun i : Nat => feet.all fun x => decide (x ∈ fs.getD i [])).map fun i : Nat => (i : Int)
theorem homes_yes {feet : List Int} {fs : List (List Int)} {i : Nat} (c : (feet.all fun x => decide (x ∈ fs.getD i [])) = true) : homesN feet fs (i + 1) = homesN feet fs i ++ [(i : Int)] := by
  unfold homesN
  rw [List.range_succ, List.filter_append, List.map_append, List.filter_cons_of_pos (p := fun i : Nat => feet.all fun x => decide (x ∈ fs.getD i [])) c]
  rfl
theorem homes_no {feet : List Int} {fs : List (List Int)} {i : Nat} (c : ¬ (feet.all fun x => decide (x ∈ fs.getD i [])) = true) : homesN feet fs (i + 1) = homesN feet fs i := by
  unfold homesN
  rw [List.range_succ, List.filter_append, List.filter_cons_of_neg (p := fun i : Nat => feet.all fun x => decide (x ∈ fs.getD i [])) c]
  simp
theorem homes_len (feet : List Int) (fs : List (List Int)) (n : Nat) : (homesN feet fs n).length ≤ n := by
  unfold homesN
  rw [List.length_map]
  refine Nat.le_trans (List.length_filter_le _ _) ?_
  rw [List.length_range]
  exact Nat.le_refl _
theorem mem_homes {feet : List Int} {fs : List (List Int)} {z : Int} : z ∈ homesN feet fs fs.length ↔ ∃ (i : Nat) (f : List Int), z = i ∧ fs[i]? = some f ∧ ∀ x ∈ feet, x ∈ f := by
  unfold homesN
  rw [List.mem_map]
  constructor
  · rintro ⟨i, hi, rfl⟩
    obtain ⟨h1, h2⟩ := List.mem_filter.mp hi
    have hl := List.mem_range.mp h1
    refine ⟨i, fs[i], rfl, List.getElem?_eq_getElem hl, fun x hx => ?_⟩
    have := List.all_eq_true.mp h2 x hx
    rw [List.getD_eq_getElem?_getD, List.getElem?_eq_getElem hl] at this
    exact of_decide_eq_true this
  · rintro ⟨i, f, rfl, e, h⟩
    obtain ⟨hl, _⟩ := List.getElem?_eq_some_iff.mp e
    refine ⟨i, List.mem_filter.mpr ⟨List.mem_range.mpr hl, (List.all_eq_true (p := fun x => decide (x ∈ fs.getD i []))).mpr fun x hx => ?_⟩, rfl⟩
    rw [List.getD_eq_getElem?_getD, e]
    exact decide_eq_true (h x hx)
def spHomes (K : PySem.W.Frag) : Sp := fun vs H Q _ => ∃ (v : V) (b : Brg) (F : Addr) (ws : List V) (fs : List (List Int)), vs = [v, .ref F] ∧ BrgAt H v b ∧ H F = some (.lst ws) ∧ Paired (FldAt H) ws fs ∧ fs.length ≤ 100 ∧ b.2.length ≤ 100 ∧
  ∀ (H' : Hp) (D : Addr), Same H H' → H D = none → H' D = some (.lst (iL (homesN b.2 fs fs.length))) → Q (.ref D) H'
section
variable {P : Program} {w : World} {K : PySem.W.Frag} {mg : Str → Option Value} {base : Heap} {C : Addr}
abbrev nHomes : List Str := ["bridge", "fields", "_", "feet", "at", "field", "foot"]
abbrev scpAt : Scope := { kind := .function, names := [(".0", .local), ("at", .local), ("field", .cell), ("all", .globalImplicit), ("feet", .free)], isGenerator := false, isCoroutine := false }
theorem scHomes : FnScope nHomes ["bridge", "fields"] (defScope sHomes) := ⟨rfl, rfl, rfl, by decide +kernel, rfl, by decide +kernel, by decide +kernel⟩
theorem c_homes (T : WTxt K mg C) (all : mg "all" = none) (enum : mg "enumerate" = none) (F : Fn K mg "_homes" sHomes ["bridge", "fields"]) : C8.Cal P w K mg base 1 "_homes" (spHomes K) [] := by
  refine cal_of F scHomes (fun vs H Q E h => ?_) (fun f cdv A outer s H vs Q E hr h => ?_)
  · obtain ⟨v, b, F, ws, fs, rfl, _⟩ := h
    rfl
  · obtain ⟨v, b, F, ws, fs, rfl, hB, hF, pf, fl, bl, k⟩ := h
    refine ⟨_, pss_cons (ps_asg (pv 0) (pg_tup (by rfl) (pgs_cons (pg_name (i := 2) scHomes.nd rfl (.inl rfl)) (pgs_cons (pg_name (i := 3) scHomes.nd rfl (.inr rfl)) pgs_nil))))
      (pss_one (ps_ret (pe_lc (own := [("at", 4), ("field", 5)]) (g := gTup K 2 (gCons (gName 4) (gCons (gName 5) gNil))) (te := tVar 4) (by rfl) scHomes.nd (pi_enum (by rfl) enum (pa_cons (pv 1) pa_nil))
        (blkOk_by (own := [("at", 4), ("field", 5)]) (N := nHomes) (sc := defScope sHomes) (by decide +kernel)) (fun _ _ _ _ _ => pg_tup (by rfl) (pgs_cons (pg_name (i := 4) scHomes.nd rfl (Or.inl rfl)) (pgs_cons (pg_name (i := 5) scHomes.nd rfl (Or.inr rfl)) pgs_nil)))
        (fun _ _ _ _ _ => pts_one (pt_val (pe_callB (id := "all") (r := rAll K) (cr_all rfl) (by rfl) all (by decide +kernel) (pa_cons
          (pe_lc (own := [("foot", 6)]) (g := gName 6) (tt := tYes) (wi := iList K (tVar 3)) (te := tOp (rIn K false) (tVar 6) (tVar 5)) (by rfl) scHomes.nd (pi_list (pv 3)) (blkOk_by (own := [("foot", 6)]) (N := nHomes) (sc := relS scpAt (defScope sHomes)) (by decide +kernel)) (fun _ _ _ _ _ => pg_name (i := 6) scHomes.nd rfl (Or.inl rfl)) (fun _ _ _ _ _ => pts_nil)
            (fun _ _ _ _ _ => pe_cmpR op_in_seq (pv 6) (pv 5) (by rfl)))
          pa_nil))))
        (fun _ _ _ _ _ => pv 4)))), ?_⟩
    obtain ⟨p, i, fe, rfl, h1, h2, h3⟩ := hB
    refine ⟨_, rfl, p, [.ref i, .ref fe], rfl, SqT.of h1, rfl, _, _, rfl, _, _, rfl, rfl, ?_⟩
    refine ⟨_, rfl, F, ws, rfl, SqL.of hF, fun D hD => ?_⟩
    refine it_W (walk_enum (K := K) (a := F) (xs := ws)) (fun n H1 => Same H H1 ∧ H1 D = some (.lst (iL (homesN b.2 fs n)))) ⟨Same.put hD, upd_same⟩ (fun n H1 _ ⟨s1, _⟩ => SqL.of (s1 _ _ hF)) ?_ ?_
    · rintro n x H1 H2 hn ⟨s1, d1⟩ ⟨Tp, y1, y2, rfl, hTp, rfl, e1, e2⟩
      cases Option.some.inj e1
      obtain ⟨f, ef, a, rfl, ha⟩ := paired_get pf e2
      have t2 := Same.put (o := .tup [.int (n : Int), .ref a]) hTp
      have s2 := s1.trans t2
      have d2 := t2 _ _ d1
      have e3 : (upd H1 Tp (.tup [.int (n : Int), .ref a])) Tp = some (.tup [.int (n : Int), .ref a]) := upd_same
      generalize upd H1 Tp (.tup [.int (n : Int), .ref a]) = H2 at *
      refine ⟨Tp, [.int (n : Int), .ref a], rfl, SqT.of e3, rfl, _, _, rfl, _, _, rfl, rfl, ?_⟩
      refine ⟨rfl, ?_⟩
      refine ⟨_, rfl, fe, rfl, ⟨_, SqL.of (s2 _ _ h3)⟩, fun Bl hBl => ?_⟩
      have ha2 := s2 _ _ ha
      have hfe := s2 _ _ h3
      have efd : fs.getD n [] = f := by rw [List.getD_eq_getElem?_getD, ef]; rfl
      refine it_W (walk_list (K := K) (a := fe) (xs := iL b.2)) (fun q H3 => Same H2 H3 ∧ H3 Bl = some (.lst (((b.2.take q).map fun y => decide (y ∈ f)).map V.bl))) ⟨Same.put hBl, upd_same⟩ (fun q H3 _ ⟨s3, _⟩ => SqL.of (s3 _ _ hfe)) ?_ ?_
      · rintro q x H30 H3 hq ⟨s3, b3⟩ ⟨rfl, ex⟩
        obtain ⟨y, ey, rfl⟩ := iL_at ex
        have ql : q < b.2.length := (List.getElem?_eq_some_iff.mp ey).1
        refine ⟨rfl, ?_⟩
        refine yes_ ?_
        refine iteT ?_
        refine ⟨_, rfl, _, rfl, a, iL f, rfl, .inl (SqL.of (s3 _ _ ha2)), rfl, flat_ints _, _, b3, by rw [List.length_map, List.length_map, List.length_take]; exact small (by omega), Same.write s3 hBl, ?_⟩
        rw [upd_same, take_next ey, List.map_append, List.map_append]
        show some (HO.lst (_ ++ [V.bl (inV (.int y) (iL f))])) = some (HO.lst (_ ++ [V.bl (decide (y ∈ f))]))
        rw [inV_ints]
      · rintro H3 ⟨s3, b3⟩
        rw [List.length_map, List.take_length] at b3
        refine ⟨Bl, _, rfl, SqL.of b3, ?_⟩
        have ea : (b.2.map fun y => decide (y ∈ f)).all id = b.2.all fun y => decide (y ∈ f) := by
          rw [List.all_map]
          rfl
        rw [ea]
        have d3 := s3 _ _ d2
        have hl := homes_len b.2 fs n
        have nl : n < ws.length := hn
        have pl := pf.length
        by_cases c : (b.2.all fun y => decide (y ∈ f)) = true
        · rw [c]
          refine ⟨true, rfl, ?_⟩
          refine iteT ?_
          refine ⟨_, rfl, _, d3, by rw [List.length_map]; exact small (by omega), Same.write (s2.trans s3) hD, ?_⟩
          rw [upd_same, homes_yes (by rw [efd]; exact c)]
          unfold iL
          rw [List.map_append]
          rfl
        · rw [Bool.eq_false_iff.mpr c]
          refine ⟨false, rfl, ?_⟩
          refine iteF ⟨s2.trans s3, ?_⟩
          rw [d3, homes_no (by rw [efd]; exact c)]
    · rintro H1 ⟨s1, d1⟩
      rw [pf.length] at d1
      exact k H1 D s1 hD d1
end
end Fd
namespace Fd
open PySem PySem.Spec PyProof.Rows L2
/-! ### sorted(t), t a tuple of ints -/
section
variable {prog : Program} {w : World} {A : Around} {E : Value → Shared → Prop} {s : Shared}
theorem collect_tup {b : Addr} {us : List Value} {R : List Value → Shared → Prop} (hb : s.heap.IsTuple b us.toArray) (sz : us.length ≤ sizeLine)
    (q : R us { s with heap := (s.heap.push (seqObj "list" #[] 0)).update s.heap.objs.size (Obj.mapSeq (· ++ us.toArray)) }) : wpAny (model prog w) A (collect (.ref b)) R E s := by
  obtain ⟨ob, hob, hcl, nn, hdt⟩ := id hb
  have old : (s.heap.push (seqObj "list" #[] 0)).get? b = some ob := Heap.get?_push_of_some _ hob
  have new : (s.heap.push (seqObj "list" #[] 0)).get? s.heap.objs.size = some (seqObj "list" #[] 0) := Heap.get?_push_size _ rfl
  have fits : ((#[] : Array Value) ++ us.toArray).size ≤ sizeLine + 1 := by (simp only [Array.size_append, List.size_toArray, List.length_nil]); exact Nat.le_trans (by simp) (Nat.le_succ_of_le sz)
  unfold collect; refine wpAny_bind (wpAny_runValue (codeAny_builtin entry_proto_collect' ?_))
  show wpAny _ _ (do again (.builtin "list.__iadd__" ⟨[← newList [], .ref b], []⟩)) _ _ s; refine wpAny_bind (wpAny_newList (wpAny_pure ⟨Code.quiet_builtin _ (by decide +kernel), codeAny_builtin entry_list_iadd' ?_⟩))
  show wpAny _ _ (Builtin.List.listExtendWith (.ref s.heap.objs.size) (.ref b) (.ref s.heap.objs.size)) _ _ { s with heap := s.heap.push (seqObj "list" #[] 0) }
  unfold Builtin.List.listExtendWith; refine wpAny_bind (wpAny_typeOf (T := "tuple") ⟨ob, old, hcl⟩ ?_)
  rw [if_pos (by have e : (Value.type "tuple" == Value.type "tuple") = true := (by rfl); rw [e]; simp)]; refine wpAny_bind (listItems_at old hdt ?_)
  refine wpAny_bind (listItems_at (xs := #[]) (n := 0) new rfl ?_); rw [if_neg (by simp)]
  refine wpAny_bind (listUpdate_at (xs := #[]) (n := 0) new rfl ?_ (Nat.zero_le _) fits); refine wpAny_pure ?_
  show wpAny (model prog w) A (do let ob ← load s.heap.objs.size; match ob.data with | .seq xs _ => pure xs.toList | _ => unsupported "internal:collect") R E { s with heap := (s.heap.push (seqObj "list" #[] 0)).update s.heap.objs.size (Obj.mapSeq (· ++ us.toArray)) }
  refine wpAny_bind (wpAny_load (get?_update_seq new _) ?_); show wpAny _ _ (pure ((#[] : Array Value) ++ us.toArray).toList) R E _
  rw [show ((#[] : Array Value) ++ us.toArray).toList = us by simp]; exact wpAny_pure q
theorem sorted_tup {b : Addr} {us : List Value} {ns : List Int} {R : Value → Shared → Prop} (hb : s.heap.IsTuple b us.toArray) (hI : IntsAre us ns) (l : us.length < 64)
    (q : ∀ (out : Array Value) (ns' : List Int), IntsAre out.toList ns' → ns'.Perm ns → ns'.Pairwise (· ≤ ·) → R (.ref (s.heap.objs.size + 1)) { s with heap := sortedAll s.heap us out }) :
    wpAny (model prog w) A (call (.builtin "sorted") [.ref b]) R E s := by
  have sz : us.length ≤ sizeLine := Nat.le_of_lt (Nat.lt_trans l (by decide))
  refine Calls.call_function_entry kind_sorted plain_sorted entry_sorted (args_sorted1 _) ?_; unfold Builtin.«sorted»
  refine wpAny_bind (m := checkCount "sorted" 1 1 _) (wpAny_pure (wpAny_bind (collect_tup hb sz (wpAny_bind (wpAny_newList ?_ sz)))))
  have e1 : ((s.heap.push (seqObj "list" #[] 0)).update s.heap.objs.size (Obj.mapSeq (· ++ us.toArray))).objs.size = s.heap.objs.size + 1 := (by rw [Heap.size_update, size_push'])
  have e2 : (((s.heap.push (seqObj "list" #[] 0)).update s.heap.objs.size (Obj.mapSeq (· ++ us.toArray))).push (seqObj "list" us.toArray 0)).get? (s.heap.objs.size + 1) = some (seqObj "list" us.toArray 0) := (by rw [← e1]; exact Heap.get?_push_size _ rfl)
  show wpAny _ _ _ _ _ { s with heap := ((s.heap.push (seqObj "list" #[] 0)).update s.heap.objs.size (Obj.mapSeq (· ++ us.toArray))).push (seqObj "list" us.toArray 0) }; rw [e1]
  exact wpAny_bind (wpAny_holding (wpAny_call_entry slot_list_sort ⟨_, e2, rfl⟩ entry_list_sort (list_sort_tree e2 hI l fun out ns' a1 a2 a3 => ⟨_, rfl, wpAny_pure ⟨_, rfl, q out ns' a1 a2 a3⟩⟩) (args_list_sort _)))
end
def rSortedTu (K : PySem.W.Frag) : List V → Hp → VK → Prop := fun vs H Q => ∃ (a : Addr) (ns : List Int), vs = [V.ref a] ∧ SqT K H a (iL ns) ∧ ns.length < 64 ∧
  ∀ (ns' : List Int) (p : Addr), ns'.Perm ns → ns'.Pairwise (· ≤ ·) → H p = none → Q (.ref p) (upd H p (.lst (iL ns')))
theorem cr_sortedTu {X : Cx} : CallR X (.builtin "sorted") (rSortedTu X.K) := by
  intro pins s σ H vs us Q I r h
  obtain ⟨a, ns, rfl, hs, l, q⟩ := h; obtain ⟨its, rv, hl, _⟩ := I.tuple hs; rw [Vals.ref1 r]
  have hi := rv.ints
  refine sorted_tup (show s.heap.IsTuple a its.toArray from hl) hi (by rw [hi.length]; exact l) fun out ns' h1 h2 h3 => ?_
  obtain ⟨ep, he⟩ := sortedAll_at s.heap its out
  have sz : (iL ns').length ≤ sizeLine := by (rw [List.length_map, h2.length_eq]); exact small64 l
  exact ⟨.ref _, upd H (s.heap.objs.size + 1) (.lst (iL ns')), I.laid (t' := s.toks) (fun _ _ => sortedAll_old) (Nat.le_succ _) ⟨sz, out.toList, ep, vals_of_ints h1, he⟩, rfl, q ns' _ h2 h3 (I.hok.fresh (Nat.le_succ _))⟩
end Fd
namespace Fd
open PySem PySem.Spec PyProof.Rows L2
/-! ### `_untied`: the ties that are left behind a path -/
def skTie (X : Cx) (hu : X.A.units + 65 < cLine) : SetKind X where
  O D := SetWO X.prog X.w D []
  add := rAddW X.K X.prog X.w
  new := fun H h a ho => setWO_new ((freshW ho).pack (.inl (.inl rfl)))
  run := fun Y e1 e2 e3 e4 => by
    rw [← e1, ← e2, ← e3]
    exact mt_addW (X := Y) (by rw [e4]; exact hu)
theorem skTie_add (X : Cx) (hu : X.A.units + 65 < cLine) : (skTie X hu).add = rAddW X.K X.prog X.w := rfl
theorem skTie_O (X : Cx) (hu : X.A.units + 65 < cLine) (D : Addr) : (skTie X hu).O D = SetWO X.prog X.w D [] := rfl
abbrev rTupOf (K : PySem.W.Frag) : List V → Hp → VK → Prop := fun xs H Q => ∃ p ys, xs = [V.ref p] ∧ ((SqL K H p ys ∧ ∀ l, H l = none → Q (.ref l) (upd H l (.tup ys))) ∨ (SqT K H p ys ∧ Q (.ref p) H))
def srt2 (p : Int × Int) : Tie := (min p.1 p.2, max p.1 p.2)
def untiedL (left : List Tie) (path : List Int) : List Tie := left.filter fun t => !decide (t ∈ (stp path).map srt2)
theorem sorted2 {a b : Int} {ns : List Int} (h : ns.Perm [a, b]) (s : ns.Pairwise (· ≤ ·)) : ns = [min a b, max a b] := by
  have hl := h.length_eq
  match ns, hl with
  | [x, y], _ =>
    have hxy : x ≤ y := by
      have := List.pairwise_cons.mp s
      exact this.1 y (by simp)
    have hx := h.mem_iff (a := x)
    simp only [List.mem_cons, List.not_mem_nil, or_false, true_or, true_iff] at hx
    rcases hx with rfl | rfl
    · have e : y = b := by
        have q := h.cons_inv
        simpa using q
      subst e
      rw [show min x y = x by omega, show max x y = y by omega]
    · have e : y = a := by
        have q := (h.trans (List.Perm.swap x a [])).cons_inv
        simpa using q
      subst e
      rw [show min y x = x by omega, show max y x = y by omega]
def spUntied (K : PySem.W.Frag) : Sp := fun vs H Q _ => ∃ (L Pt : Addr) (lws : List V) (left : List Tie) (path : List Int), vs = [.ref L, .ref Pt] ∧ H L = some (.lst lws) ∧ PairsAt H lws left ∧ H Pt = some (.lst (iL path)) ∧ 1 ≤ path.length ∧ path.length ≤ 60 ∧ left.length ≤ 100 ∧
  ∀ (H' : Hp) (D : Addr) (ws : List V), Same H H' → H D = none → H' D = some (.lst ws) → PairsAt H' ws (untiedL left path) → Q (.ref D) H'
section
variable {P : Program} {w : World} {K : PySem.W.Frag} {mg : Str → Option Value} {base : Heap} {C : Addr}
abbrev nUntied : List Str := ["left", "path", "gone", "step", "tie"]
theorem scUntied : FnScope nUntied ["left", "path"] (defScope sUntied) := ⟨rfl, rfl, rfl, by decide +kernel, rfl, by decide +kernel, by decide +kernel⟩
theorem c_untied (T : WTxt K mg C) (zip : mg "zip" = none) (F : Fn K mg "_untied" sUntied ["left", "path"]) : C8.Cal P w K mg base 1 "_untied" (spUntied K) [] := by
  refine cal_of F scUntied (fun vs H Q E h => ?_) (fun f cdv A outer s H vs Q E hr h => ?_)
  · obtain ⟨L, Pt, lws, left, path, rfl, _⟩ := h
    rfl
  · obtain ⟨L, Pt, lws, left, path, rfl, hL, pL, hP, p1, pl, ll, k⟩ := h
    have hu : (cxOf CX0 P w K mg base nUntied "_untied" (defScope sUntied) f cdv A outer s H E).nox.A.units + 65 < cLine := hu65 hr
    refine ⟨_, pss_cons (ps_set (i := 2) scUntied.nd rfl (Or.inr rfl) (pe_sc1 (own := [("step", 3)]) (g := gName 3) (tt := tYes) (te := tCB (rTupOf K) (tCons (tCB (rSortedTu K) (tCons (tVar 3) tNil)) tNil)) (skTie _ hu) rfl scUntied.nd
        (pi_zipN (by rfl) zip (pa_cons (pv 1) (pa_cons (pe_slice sl_list (pv 1) (po_some pe_int) po_none) pa_nil))) (blkOk_by (own := [("step", 3)]) (N := nUntied) (sc := defScope sUntied) (by decide +kernel)) (fun _ _ _ _ _ => pg_name (i := 3) scUntied.nd rfl (Or.inl rfl)) (fun _ _ _ _ _ => pts_nil)
        (fun _ _ _ _ _ => pe_callTy call_tuple_of (by rfl) T.tuple (by decide +kernel) (pa_cons (pe_callB (id := "sorted") (r := rSortedTu K) cr_sortedTu (by rfl) T.sorted (by decide +kernel) (pa_cons (pv 3) pa_nil)) pa_nil))))
      (pss_one (ps_ret (pe_lc (own := [("tie", 4)]) (g := gName 4) (te := tVar 4) (by rfl) scUntied.nd (pi_list (pv 0)) (blkOk_by (own := [("tie", 4)]) (N := nUntied) (sc := defScope sUntied) (by decide +kernel)) (fun _ _ _ _ _ => pg_name (i := 4) scUntied.nd rfl (Or.inl rfl))
        (fun _ _ _ _ _ => pts_one (pt_cmpR (r := rNotInW K P w) (op_notInW hu) (pv 4) (pv 2) (by rfl))) (fun _ _ _ _ _ => pv 4)))), ?_⟩
    refine ⟨_, rfl, _, rfl, 1, rfl, Pt, iL path, rfl, SqL.of hP, fun q1 hq1 => ?_⟩
    have ec : cutV (iL path) (some 1) none = iL (path.drop 1) := (cut_drop _ 1 (by rw [List.length_map]; exact p1)).trans (List.map_drop ..).symm
    rw [ec]
    have t1 := Same.put (o := .lst (iL (path.drop 1))) hq1
    have d1 : (upd H q1 (.lst (iL (path.drop 1)))) q1 = some (.lst (iL (path.drop 1))) := upd_same
    generalize upd H q1 (.lst (iL (path.drop 1))) = H1 at t1 d1 ⊢
    have hP1 := t1 _ _ hP
    refine ⟨Pt, q1, iL path, iL (path.drop 1), rfl, SqL.of hP1, SqL.of d1, fun S hS => ?_⟩
    have HS : H S = none := t1.free hS
    have sl : (stp path).length = path.length - 1 := by
      unfold stp
      rw [List.length_zip, List.length_tail]
      omega
    have e0 : GoneAt P w (upd H1 S (SetWO P w S [])) S [] [] := ⟨upd_same, (fun p hp => nomatch hp), .nil, .nil⟩
    refine it_W (walk_zip (K := K) (a := Pt) (b := q1) (xs := iL path) (ys := iL (path.drop 1)) (n := (stp path).length) (by rw [sl, List.length_map, List.length_map, List.length_drop]; omega))
      (fun i H2 => Same H1 H2 ∧ ∃ L2 U, GoneAt P w H2 S L2 U ∧ (∀ u, u ∈ U ↔ u ∈ ((stp path).take i).map srt2) ∧ U.length ≤ i) ⟨Same.put hS, [], [], e0, fun u => by simp, Nat.le_refl _⟩ (fun i H2 _ ⟨s2, _⟩ => ⟨SqL.of (s2 _ _ hP1), SqL.of (s2 _ _ d1)⟩) ?_ ?_
    · rintro i x H2 H3 hi ⟨s2, L2, U, g2, mU, lU⟩ ⟨Tp, x, y, rfl, hTp, rfl, e1, e2⟩
      obtain ⟨a, ea, rfl⟩ := iL_at e1
      obtain ⟨b, eb, rfl⟩ := iL_at e2
      have es : (stp path)[i]? = some (a, b) := by
        unfold stp
        rw [List.getElem?_zip_eq_some]
        refine ⟨ea, ?_⟩
        rw [← List.drop_one]
        exact eb
      have t3 := Same.put (o := .tup [.int a, .int b]) hTp
      have g3 := g2.same t3
      have s3 := s2.trans t3
      have d3 : (upd H2 Tp (.tup [.int a, .int b])) Tp = some (.tup [.int a, .int b]) := upd_same
      generalize upd H2 Tp (.tup [.int a, .int b]) = H3 at *
      refine ⟨rfl, ?_⟩
      refine yes_ ?_
      refine iteT ?_
      refine ⟨_, rfl, Tp, [a, b], rfl, SqT.of d3, by show 2 < 64; omega, fun ns q2 pm so hq2 => ?_⟩
      rw [sorted2 pm so]
      have t4 := Same.put (o := .lst (iL [min a b, max a b])) hq2
      have d4 : (upd H3 q2 (.lst (iL [min a b, max a b]))) q2 = some (.lst (iL [min a b, max a b])) := upd_same
      have g4 := g3.same t4
      have s4 := s3.trans t4
      generalize upd H3 q2 (.lst (iL [min a b, max a b])) = H4 at *
      refine ⟨q2, _, rfl, .inl ⟨SqL.of d4, fun q3 hq3 => ?_⟩⟩
      have t5 := Same.put (o := .tup (iL [min a b, max a b])) hq3
      have d5 : (upd H4 q3 (.tup (iL [min a b, max a b]))) q3 = some (.tup (iL [min a b, max a b])) := upd_same
      have g5 := g4.same t5
      have s5 := s4.trans t5
      generalize upd H4 q3 (.tup (iL [min a b, max a b])) = H5 at *
      dsimp only [skTie_add]
      have L2l := g5.len
      refine ⟨S, q3, [min a b, max a b], L2, rfl, rfl, SqT.of d5, g5.at_, g5.tupsAt, by omega, fun L' c1 c2 => ?_⟩
      obtain ⟨U', g6, mU'⟩ := g5.add (u := srt2 (a, b)) d5 c1 c2
      refine ⟨Same.write s5 hS, L', U', g6, fun u => ?_, ?_⟩
      · rw [mU', mU, take_next es, List.map_append, List.mem_append]
        simp
      · have : U'.length ≤ (srt2 (a, b) :: U).length := g6.nd.length_le_of_subset fun v hv => by
          rcases (mU' v).mp hv with z | z
          · exact List.mem_cons_of_mem _ z
          · rw [z]
            exact List.mem_cons_self
        rw [List.length_cons] at this
        omega
    · rintro H2 ⟨s2, L2, U, g2, mU, lU⟩
      rw [List.take_length] at mU
      have s02 : Same H H2 := t1.trans s2
      refine ⟨_, rfl, L, rfl, ⟨_, SqL.of (s02 _ _ hL)⟩, fun D hD => ?_⟩
      have HD : H D = none := s02.free hD
      refine it_W (walk_list (K := K) (a := L) (xs := lws)) (fun i H3 => Same H2 H3 ∧ ∃ ws, H3 D = some (.lst ws) ∧ PairsAt H3 ws (untiedL (left.take i) path)) ⟨Same.put hD, [], upd_same, .nil⟩ (fun i H3 _ ⟨s3, _⟩ => SqL.of ((s02.trans s3) _ _ hL)) ?_ ?_
      · rintro i x H30 H3 hi ⟨s3, ws, d3, p3⟩ ⟨rfl, ex⟩
        obtain ⟨t, et, hpair⟩ := paired_get pL ex
        obtain ⟨c, rfl, hc⟩ := PairAt.same (s02.trans s3) hpair
        have g3 := g2.same s3
        have il : i < left.length := (List.getElem?_eq_some_iff.mp et).1
        have ul : (untiedL (left.take i) path).length ≤ 100 := by
          refine Nat.le_trans (List.length_filter_le _ _) ?_
          rw [List.length_take]
          omega
        refine ⟨rfl, ?_⟩
        refine ⟨_, rfl, _, rfl, c, S, kOf t, L2, rfl, rfl, SqT.of hc, g3.at_, g3.tupsAt, ?_⟩
        have em : decide (kOf t ∈ L2.map (·.2)) = decide (t ∈ (stp path).map srt2) := decide_eq_decide.mpr (g3.mem.trans (mU t))
        rw [em]
        by_cases m : t ∈ (stp path).map srt2
        · rw [decide_eq_true m]
          refine ⟨false, rfl, ?_⟩
          refine iteF ⟨s3, ws, d3, ?_⟩
          rw [take_next et]
          unfold untiedL at p3 ⊢
          rw [List.filter_append, List.filter_cons_of_neg (by rw [decide_eq_true m]; decide)]
          simpa using p3
        · rw [decide_eq_false m]
          refine ⟨true, rfl, ?_⟩
          refine iteT ?_
          refine ⟨_, rfl, ws, d3, small (by rw [p3.length]; omega), Same.write s3 hD, ws ++ [.ref c], upd_same, ?_⟩
          rw [take_next et]
          unfold untiedL at p3 ⊢
          rw [List.filter_append, List.filter_cons_of_pos (by rw [decide_eq_false m]; rfl)]
          have p4 := paired_snoc p3 (⟨c, rfl, hc⟩ : PairAt H3 (.ref c) t)
          exact pairs_over d3 p4
      · rintro H3 ⟨s3, ws, d3, p3⟩
        rw [pL.length, List.take_length] at p3
        exact k H3 D ws (s02.trans s3) HD d3 p3
end
end Fd
namespace Fd
open PySem PySem.Spec PyProof.Rows L2
/-! ### `_split`: the two fields that a path makes of a field -/
def lastI (r : List Int) : Int := r.getD (r.length - 1) 0
def mid (r : List Int) : List Int := (r.drop 1).take (r.length - 2)
theorem atI_first {r : List Int} (h : 1 ≤ r.length) : atI (iL r) 0 = some (.int (r.getD 0 0)) :=
  atI_nat (j := 0) (iL_get (z := r.getD 0 0) (by rw [List.getD_eq_getElem?_getD, List.getElem?_eq_getElem (by omega)]; rfl))
theorem atI_last {r : List Int} (h : 1 ≤ r.length) : atI (iL r) (-1) = some (.int (lastI r)) := by
  have e : (iL r)[r.length - 1]? = some (.int (lastI r)) := iL_get (by unfold lastI; rw [List.getD_eq_getElem?_getD, List.getElem?_eq_getElem (by omega)]; rfl)
  have e2 : ixN r.length (-1) = some (r.length - 1) := by
    unfold ixN
    rw [if_neg (by decide), if_pos (by omega)]
    congr 1
    omega
  unfold atI
  rw [List.length_map, e2]
  exact e
theorem cut_last (r : List Int) : cutV (iL r) none (some (-1)) = iL r.dropLast := by
  unfold cutV
  have e1 : HT.sIx (iL r).length 0 none = 0 := rfl
  have e2 : HT.sIx (iL r).length (iL r).length (some (-1)) = r.length - 1 := by
    show (if (-1 : Int) < 0 then ((-1 : Int) + ((iL r).length : Int)).toNat else min (-1 : Int).toNat (iL r).length) = _
    rw [if_pos (by decide), List.length_map]
    omega
  rw [e1, e2]
  unfold iL
  rw [List.drop_zero, ← List.map_take, List.dropLast_eq_take, Nat.sub_zero]
theorem idx_first : ∀ {t : List Int} {u z : Int} {i : Nat}, i < t.idxOf u → t[i]? = some z → z ≠ u
  | [], u, z, i, h, e => by simp at e
  | x :: t, u, z, i, h, e => by
    rw [List.idxOf_cons] at h
    by_cases c : x = u
    · subst c
      simp at h
    · rw [show (x == u) = false by simpa using c] at h
      cases i with
      | zero =>
        have : x = z := by simpa using e
        rw [← this]
        exact c
      | succ i => exact idx_first (t := t) (by simpa using h) (by simpa using e)
theorem idx_no {t : List Int} {u : Int} (i : Nat) (z : V) (hi : i < t.idxOf u) (hz : (iL t)[i]? = some z) : eqV z (.int u) = false := by
  obtain ⟨y, hy, rfl⟩ := iL_at hz
  exact beq_eq_false_iff_ne.mpr fun e => idx_first hi hy e
def rotL (f : List Int) (s : Nat) : List Int := f.drop s ++ f.take s
theorem mem_rotL {f : List Int} {s : Nat} {x : Int} : x ∈ rotL f s ↔ x ∈ f := by
  unfold rotL
  rw [List.mem_append, or_comm, ← List.mem_append, List.take_append_drop]
def aroundL (f path : List Int) : List Int := rotL f (f.idxOf (path.getD 0 0))
def split1 (f path : List Int) : List Int := (aroundL f path).take ((aroundL f path).idxOf (lastI path) + 1) ++ (mid path).reverse
def split2 (f path : List Int) : List Int := (aroundL f path).drop ((aroundL f path).idxOf (lastI path)) ++ path.dropLast
def spSplit (K : PySem.W.Frag) : Sp := fun vs H Q _ => ∃ (F Pt : Addr) (f path : List Int), vs = [.ref F, .ref Pt] ∧ H F = some (.lst (iL f)) ∧ H Pt = some (.lst (iL path)) ∧ f.length ≤ 200 ∧ path.length ≤ 60 ∧ 2 ≤ path.length ∧ path.getD 0 0 ∈ f ∧ lastI path ∈ f ∧
  ∀ (H' : Hp) (D a b : Addr), Same H H' → H D = none → H a = none → H b = none → D ≠ a → D ≠ b → a ≠ b → H' D = some (.lst [.ref a, .ref b]) → H' a = some (.lst (iL (split1 f path))) → H' b = some (.lst (iL (split2 f path))) → Q (.ref D) H'
section
variable {P : Program} {w : World} {K : PySem.W.Frag} {mg : Str → Option Value} {base : Heap} {C : Addr}
abbrev nSplit : List Str := ["field", "path", "start", "around", "end"]
theorem scSplit : FnScope nSplit ["field", "path"] (defScope sSplit) := ⟨rfl, rfl, rfl, by decide +kernel, rfl, by decide +kernel, by decide +kernel⟩
theorem c_split (T : WTxt K mg C) (F : Fn K mg "_split" sSplit ["field", "path"]) : C8.Cal P w K mg base 1 "_split" (spSplit K) [] := by
  refine cal_of F scSplit (fun vs H Q E h => ?_) (fun f cdv A outer s H vs Q E hr h => ?_)
  · obtain ⟨F, Pt, f, path, rfl, _⟩ := h
    rfl
  · obtain ⟨F, Pt, fl, path, rfl, hF, hP, fl2, pl, p2, m1, m2, k⟩ := h
    refine ⟨_, pss_cons (ps_set (i := 2) scSplit.nd rfl (Or.inl rfl) (pe_bm PySem.F.plainAttrs_list PySem.F.slot_list_index PySem.F.type_list_index mt_index (pv 0) (pa_cons (pe_ix ix_list (pv 1) pe_int (fun _ _ => rfl)) pa_nil)))
      (pss_cons (ps_set (i := 3) scSplit.nd rfl (Or.inl rfl) (pe_op op_cat (pe_slice sl_list (pv 0) (po_some (pv 2)) po_none) (pe_slice sl_list (pv 0) po_none (po_some (pv 2)))))
      (pss_cons (ps_set (i := 4) scSplit.nd rfl (Or.inl rfl) (pe_bm PySem.F.plainAttrs_list PySem.F.slot_list_index PySem.F.type_list_index mt_index (pv 3) (pa_cons (pe_ix ix_list (pv 1) (pe_un un_neg pe_int) (fun _ _ => rfl)) pa_nil)))
      (pss_one (ps_ret (pe_lst (pa_cons (pe_op op_cat (pe_slice sl_list (pv 3) po_none (po_some (pe_op op_add (pv 4) pe_int))) (pe_back (pv 1)))
        (pa_cons (pe_op op_cat (pe_slice sl_list (pv 3) (po_some (pv 4)) po_none) (pe_slice sl_list (pv 1) po_none (po_some (pe_un un_neg pe_int)))) pa_nil))))))), ?_⟩
    refine ⟨_, rfl, .inl ⟨rfl, _, SqL.of hF⟩, _, rfl, Pt, iL path, 0, _, rfl, rfl, SqL.of hP, atI_first (by omega), ?_⟩
    refine ⟨F, iL fl, .int (path.getD 0 0), fl.idxOf (path.getD 0 0), .int (path.getD 0 0), rfl, rfl, SqL.of hF, rfl, flat_ints fl, iL_get (idx_at m1), beq_self_eq_true (path.getD 0 0), idx_no, ?_⟩
    have hi : fl.idxOf (path.getD 0 0) < fl.length := (List.getElem?_eq_some_iff.mp (idx_at m1)).1
    have es : rotL fl (fl.idxOf (path.getD 0 0)) = aroundL fl path := rfl
    generalize fl.idxOf (path.getD 0 0) = s0 at hi es ⊢
    -- around = field[start:] + field[:start]
    refine ⟨_, rfl, _, rfl, (s0 : Int), rfl, F, iL fl, rfl, SqL.of hF, fun q1 hq1 => ?_⟩
    have ec1 : cutV (iL fl) (some (s0 : Int)) none = iL (fl.drop s0) := (cut_drop _ s0 (by rw [List.length_map]; omega)).trans (List.map_drop ..).symm
    rw [ec1]
    have t1 := Same.put (o := .lst (iL (fl.drop s0))) hq1
    have d1 : (upd H q1 (.lst (iL (fl.drop s0)))) q1 = _ := upd_same
    generalize upd H q1 (.lst (iL (fl.drop s0))) = H1 at *
    refine ⟨_, rfl, _, rfl, (s0 : Int), rfl, F, iL fl, rfl, SqL.of (t1 _ _ hF), fun q2 hq2 => ?_⟩
    have ec2 : cutV (iL fl) none (some (s0 : Int)) = iL (fl.take s0) := (cut_take _ s0 (by rw [List.length_map]; omega)).trans (List.map_take ..).symm
    rw [ec2]
    have t2 := Same.put (o := .lst (iL (fl.take s0))) hq2
    have d2 : (upd H1 q2 (.lst (iL (fl.take s0)))) q2 = _ := upd_same
    have d12 := t2 _ _ d1
    generalize upd H1 q2 (.lst (iL (fl.take s0))) = H2 at *
    refine ⟨q1, q2, iL (fl.drop s0), iL (fl.take s0), rfl, rfl, d12, d2, smalle (by rw [List.length_map, List.length_map, List.length_drop, List.length_take]; omega), fun Ar hAr => ?_⟩
    have ec3 : iL (fl.drop s0) ++ iL (fl.take s0) = iL (aroundL fl path) := by
      rw [← es]
      unfold rotL iL
      rw [List.map_append]
    rw [ec3]
    have t3 := Same.put (o := .lst (iL (aroundL fl path))) hAr
    have d3 : (upd H2 Ar (.lst (iL (aroundL fl path)))) Ar = _ := upd_same
    have s3 := (t1.trans t2).trans t3
    generalize upd H2 Ar (.lst (iL (aroundL fl path))) = H3 at *
    have al : (aroundL fl path).length = fl.length := by
      rw [← es]
      unfold rotL
      rw [List.length_append, List.length_drop, List.length_take]
      omega
    have m3 : lastI path ∈ aroundL fl path := mem_rotL.mpr m2
    have hj : (aroundL fl path).idxOf (lastI path) < (aroundL fl path).length := (List.getElem?_eq_some_iff.mp (idx_at m3)).1
    -- end = around.index(path[-1])
    refine ⟨_, rfl, .inl ⟨rfl, _, SqL.of d3⟩, _, rfl, 1, rfl, Pt, iL path, -1, _, rfl, rfl, SqL.of (s3 _ _ hP), atI_last (by omega), ?_⟩
    refine ⟨Ar, iL (aroundL fl path), .int (lastI path), (aroundL fl path).idxOf (lastI path), .int (lastI path), rfl, rfl, SqL.of d3, rfl, flat_ints _, iL_get (idx_at m3), beq_self_eq_true (lastI path), idx_no, ?_⟩
    have e1 : split1 fl path = (aroundL fl path).take ((aroundL fl path).idxOf (lastI path) + 1) ++ (mid path).reverse := rfl
    have e2 : split2 fl path = (aroundL fl path).drop ((aroundL fl path).idxOf (lastI path)) ++ path.dropLast := rfl
    generalize (aroundL fl path).idxOf (lastI path) = j0 at hj e1 e2 ⊢
    refine ⟨_, rfl, _, rfl, _, _, rfl, rfl, (j0 : Int) + 1, rfl, Ar, iL (aroundL fl path), rfl, SqL.of d3, fun q4 hq4 => ?_⟩
    have ec4 : cutV (iL (aroundL fl path)) none (some ((j0 : Int) + 1)) = iL ((aroundL fl path).take (j0 + 1)) := (cut_take _ (j0 + 1) (by rw [List.length_map]; omega)).trans (List.map_take ..).symm
    rw [ec4]
    have t4 := Same.put (o := .lst (iL ((aroundL fl path).take (j0 + 1)))) hq4
    have d4 : (upd H3 q4 (.lst (iL ((aroundL fl path).take (j0 + 1))))) q4 = _ := upd_same
    have d34 := t4 _ _ d3
    have s4 := s3.trans t4
    generalize upd H3 q4 (.lst (iL ((aroundL fl path).take (j0 + 1)))) = H4 at *
    refine ⟨_, rfl, Pt, iL path, rfl, SqL.of (s4 _ _ hP), by rw [List.length_map]; omega, fun q5 hq5 => ?_⟩
    have ec5 : (((iL path).drop 1).take ((iL path).length - 2)).reverse = iL (mid path).reverse := by
      unfold mid iL
      rw [List.length_map, ← List.map_drop, ← List.map_take, List.map_reverse]
    rw [ec5]
    have t5 := Same.put (o := .lst (iL (mid path).reverse)) hq5
    have d5 : (upd H4 q5 (.lst (iL (mid path).reverse))) q5 = _ := upd_same
    have d45 := t5 _ _ d4
    have d35 := t5 _ _ d34
    have s5 := s4.trans t5
    generalize upd H4 q5 (.lst (iL (mid path).reverse)) = H5 at *
    have ml : (mid path).length ≤ 60 := by
      unfold mid
      rw [List.length_take]
      omega
    refine ⟨q4, q5, _, _, rfl, rfl, d45, d5, smalle (by rw [List.length_map, List.length_map, List.length_take, List.length_reverse]; omega), fun a ha => ?_⟩
    have ec6 : iL ((aroundL fl path).take (j0 + 1)) ++ iL (mid path).reverse = iL (split1 fl path) := by
      rw [e1]
      unfold iL
      rw [List.map_append]
    rw [ec6]
    have t6 := Same.put (o := .lst (iL (split1 fl path))) ha
    have d6 : (upd H5 a (.lst (iL (split1 fl path)))) a = _ := upd_same
    have d36 := t6 _ _ d35
    have s6 := s5.trans t6
    have Ha := s5.free ha
    generalize upd H5 a (.lst (iL (split1 fl path))) = H6 at *
    refine ⟨_, rfl, _, rfl, (j0 : Int), rfl, Ar, iL (aroundL fl path), rfl, SqL.of d36, fun q7 hq7 => ?_⟩
    have ec7 : cutV (iL (aroundL fl path)) (some (j0 : Int)) none = iL ((aroundL fl path).drop j0) := (cut_drop _ j0 (by rw [List.length_map]; omega)).trans (List.map_drop ..).symm
    rw [ec7]
    have t7 := Same.put (o := .lst (iL ((aroundL fl path).drop j0))) hq7
    have d7 : (upd H6 q7 (.lst (iL ((aroundL fl path).drop j0)))) q7 = _ := upd_same
    have d67 := t7 _ _ d6
    have s7 := s6.trans t7
    generalize upd H6 q7 (.lst (iL ((aroundL fl path).drop j0))) = H7 at *
    refine ⟨_, rfl, 1, rfl, -1, rfl, Pt, iL path, rfl, SqL.of (s7 _ _ hP), fun q8 hq8 => ?_⟩
    rw [cut_last]
    have t8 := Same.put (o := .lst (iL path.dropLast)) hq8
    have d8 : (upd H7 q8 (.lst (iL path.dropLast))) q8 = _ := upd_same
    have d78 := t8 _ _ d7
    have d68 := t8 _ _ d67
    have s8 := s7.trans t8
    generalize upd H7 q8 (.lst (iL path.dropLast)) = H8 at *
    refine ⟨q7, q8, _, _, rfl, rfl, d78, d8, smalle (by rw [List.length_map, List.length_map, List.length_drop, List.length_dropLast]; omega), fun b hb => ?_⟩
    have ec9 : iL ((aroundL fl path).drop j0) ++ iL path.dropLast = iL (split2 fl path) := by
      rw [e2]
      unfold iL
      rw [List.map_append]
    rw [ec9]
    have t9 := Same.put (o := .lst (iL (split2 fl path))) hb
    have d9 : (upd H8 b (.lst (iL (split2 fl path)))) b = _ := upd_same
    have d69 := t9 _ _ d68
    have s9 := s8.trans t9
    have Hb := s8.free hb
    have ab : a ≠ b := ne_of_none d68 hb
    generalize upd H8 b (.lst (iL (split2 fl path))) = H9 at *
    refine ⟨by show 2 ≤ sizeLine; decide, fun D hD => ?_⟩
    have t10 := Same.put (o := .lst [.ref a, .ref b]) hD
    exact k _ D a b (s9.trans t10) (s9.free hD) Ha Hb (ne_of_none d69 hD).symm (ne_of_none d9 hD).symm ab upd_same (t10 _ _ d69) (t10 _ _ d9)
end
end Fd
namespace Fd
open PySem PySem.Spec PyProof.Rows L2
/-! ### `_path`: a path through a bridge -/
def PathOk (row : Int → List Int) (b : Brg) (path : List Int) : Prop := (b.1 = [] ∧ path = b.2) ∨ (b.1 ≠ [] ∧ ∃ x y r l first e, b.2 = x :: y :: r ∧ path = x :: (l ++ [y]) ∧ first ∈ row x ∧ PathW row first l e ∧ y ∈ row e ∧ ∀ z ∈ l, z ∈ b.1)
def spPath (K : PySem.W.Frag) : Sp := fun vs H Q _ => ∃ (R : Addr) (v : V) (ks : List Int) (row : Int → List Int) (b : Brg), vs = [.ref R, v] ∧ DRows H R ks row ∧ BrgAt H v b ∧ ks.length ≤ 16 ∧ (∀ k ∈ ks, ∀ j ∈ row k, j ∈ ks) ∧ (∀ k ∈ ks, (row k).length ≤ 300) ∧ b.1.Nodup ∧ (∀ z ∈ b.1, z ∈ ks) ∧
  (b.1 ≠ [] → ∃ x y r, b.2 = x :: y :: r ∧ x ∈ ks ∧ (∃ z ∈ row x, z ∈ b.1) ∧ ∀ z ∈ b.1, ∃ p, RchI row b.1 z p ∧ y ∈ row p) ∧ b.2.length ≤ 100 ∧
  ∀ (H' : Hp) (D : Addr) (path : List Int), Same H H' → H' D = some (.lst (iL path)) → PathOk row b path → Q (.ref D) H'
section
variable {P : Program} {w : World} {K : PySem.W.Frag} {mg : Str → Option Value} {base : Heap} {C : Addr}
abbrev nPath : List Str := ["rows", "bridge", "inner", "feet", "first", "point"]
theorem scPath : FnScope nPath ["rows", "bridge"] (defScope sPath) := ⟨rfl, rfl, rfl, by decide +kernel, rfl, by decide +kernel, by decide +kernel⟩
theorem c_path (T : WTxt K mg C) (FW : Fn K mg "way" sWay ["rows", "start", "goal", "through"]) (F : Fn K mg "_path" sPath ["rows", "bridge"]) : C8.Cal P w K mg base 2 "_path" (spPath K) [] := by
  refine cal_of F scPath (fun vs H Q E h => ?_) (fun f cdv A outer s H vs Q E hr h => ?_)
  · obtain ⟨R, v, ks, row, b, rfl, _⟩ := h
    rfl
  · obtain ⟨R, v, ks, row, b, rfl, hR, hB, kl, cl, rl, bnd, bk, hx, fl, k⟩ := h
    have hu1 : (A.deeper (envOfC "_path" (defScope sPath) s.heap.objs.size f cdv)).units + 1 < cLine := by
      have := hr.un
      omega
    refine ⟨_, pss_cons (ps_asg (pv 1) (pg_tup (by rfl) (pgs_cons (pg_name (i := 2) scPath.nd rfl (.inr rfl)) (pgs_cons (pg_name (i := 3) scPath.nd rfl (.inl rfl)) pgs_nil))))
      (pss_cons (ps_if (pt_not (pt_truth (pv 2) (fun _ => rfl))) (pss_one (ps_ret (pv 3))) pss_nil)
      (pss_cons (ps_set (i := 4) scPath.nd rfl (Or.inl rfl) (pe_ix ix_list (pe_lc (own := [("point", 5)]) (g := gName 5) (te := tVar 5) (by rfl) scPath.nd (pi_list (pe_dget hu1 (pv 0) (pe_ix ix_list (pv 3) pe_int (fun _ _ => rfl)) (fun _ _ => rfl)))
          (blkOk_by (own := [("point", 5)]) (N := nPath) (sc := defScope sPath) (by decide +kernel)) (fun _ _ _ _ _ => pg_name (i := 5) scPath.nd rfl (Or.inl rfl)) (fun _ _ _ _ _ => pts_one (pt_cmpR (r := rIn K false) op_in_seq (pv 5) (pv 2) (by rfl))) (fun _ _ _ _ _ => pv 5)) pe_int (fun _ _ => rfl)))
      (pss_one (ps_ret (pe_op op_cat (pe_slice sl_list (pv 3) po_none (po_some pe_int)) (C8.pe_c (c_way T FW) hr (by decide) (by rfl) (pa_cons (pv 0) (pa_cons (pv 4) (pa_cons (pe_ix ix_list (pv 3) pe_int (fun _ _ => rfl)) (pa_cons (pv 2) pa_nil)))))))))), ?_⟩
    obtain ⟨p, i, fe, rfl, h1, h2, h3⟩ := hB
    refine ⟨_, rfl, p, [.ref i, .ref fe], rfl, SqT.of h1, rfl, _, _, rfl, _, _, rfl, rfl, ?_⟩
    obtain ⟨inner, feet⟩ := b
    dsimp only at *
    have il : inner.length ≤ 16 := Nat.le_trans (bnd.length_le_of_subset fun x hx => bk x hx) kl
    by_cases ce : inner = []
    · subst ce
      refine ⟨_, rfl, false, ?_, ?_⟩
      · exact .inl ⟨_, SqL.of h2, rfl⟩
      · refine iteT ?_
        exact ⟨_, rfl, k H fe feet (fun _ _ z => z) h3 (.inl ⟨rfl, rfl⟩)⟩
    · obtain ⟨x, y, r, rfl, xk, ⟨z0, z1, z2⟩, conn⟩ := hx ce
      refine ⟨_, rfl, true, ?_, ?_⟩
      · refine .inl ⟨_, SqL.of h2, ?_⟩
        cases inner with
        | nil => exact absurd rfl ce
        | cons a b => rfl
      · refine iteF ?_
        obtain ⟨bx, eb, hb⟩ := hR.got (fun _ _ z => z) xk
        have at0 : atI (iL (x :: y :: r)) 0 = some (.int x) := atI_first (r := x :: y :: r) (by simp)
        have at1 : atI (iL (x :: y :: r)) 1 = some (.int y) := atI_nat (j := 1) rfl
        -- first = [point for point in rows[feet[0]] if point in inner][0]
        refine ⟨_, rfl, _, rfl, fe, iL (x :: y :: r), 0, .int x, rfl, rfl, SqL.of h3, at0, R, .ref bx, rfl, eb, bx, rfl, ⟨_, SqL.of hb⟩, fun D hD => ?_⟩
        refine it_W (walk_list (K := K) (a := bx) (xs := iL (row x))) (fun n H1 => Same H H1 ∧ H1 D = some (.lst (iL (((row x).take n).filter fun z => decide (z ∈ inner))))) ⟨Same.put hD, upd_same⟩ (fun n H1 _ ⟨s1, _⟩ => SqL.of (s1 _ _ hb)) ?_ ?_
        · rintro n u H10 H1 hn ⟨s1, d1⟩ ⟨rfl, ex⟩
          obtain ⟨z, ez, rfl⟩ := iL_at ex
          have nl : n < (row x).length := (List.getElem?_eq_some_iff.mp ez).1
          have rx := rl x xk
          refine ⟨rfl, ?_⟩
          have ein := inV_ints inner z
          refine ⟨_, rfl, _, rfl, i, iL inner, rfl, .inl (SqL.of (s1 _ _ h2)), rfl, flat_ints _, _, rfl, ?_⟩
          by_cases c : z ∈ inner
          · refine yep_ (show inV (.int z) (iL inner) = true by rw [ein, decide_eq_true c]) ?_
            have l1 : (((row x).take n).filter fun z => decide (z ∈ inner)).length ≤ 300 := by
              refine Nat.le_trans (List.length_filter_le _ _) ?_
              rw [List.length_take]
              omega
            refine ⟨_, rfl, _, d1, by rw [List.length_map]; exact small (by omega), Same.write s1 hD, ?_⟩
            rw [upd_same, take_next ez, List.filter_append, List.filter_cons_of_pos (p := fun z => decide (z ∈ inner)) (decide_eq_true c)]
            unfold iL
            rw [List.map_append]
            rfl
          · refine no_ (show inV (.int z) (iL inner) = false by rw [ein, decide_eq_false c]) ?_
            refine ⟨s1, ?_⟩
            rw [d1, take_next ez, List.filter_append, List.filter_cons_of_neg (p := fun z => decide (z ∈ inner)) (by rw [decide_eq_false c]; decide)]
            simp
        · rintro H1 ⟨s1, d1⟩
          rw [List.length_map, List.take_length] at d1
          obtain ⟨fs, ff, ef⟩ : ∃ fs ff, ((row x).filter fun z => decide (z ∈ inner)) = fs :: ff := by
            have m : z0 ∈ ((row x).filter fun z => decide (z ∈ inner)) := List.mem_filter.mpr ⟨z1, decide_eq_true z2⟩
            cases e : ((row x).filter fun z => decide (z ∈ inner)) with
            | nil => rw [e] at m; cases m
            | cons a b => exact ⟨a, b, rfl⟩
          rw [ef] at d1
          have fm : fs ∈ ((row x).filter fun z => decide (z ∈ inner)) := by
            rw [ef]
            exact List.mem_cons_self
          obtain ⟨f1, f2⟩ := List.mem_filter.mp fm
          have f2 : fs ∈ inner := of_decide_eq_true f2
          refine ⟨D, iL (fs :: ff), 0, .int fs, rfl, rfl, SqL.of d1, atI_first (r := fs :: ff) (by simp), ?_⟩
          -- feet[:1] + way(rows, first, feet[1], inner)
          refine ⟨_, rfl, 1, rfl, fe, iL (x :: y :: r), rfl, SqL.of (s1 _ _ h3), fun q1 hq1 => ?_⟩
          have ec : cutV (iL (x :: y :: r)) none (some 1) = iL [x] := (cut_take _ 1 (by simp)).trans rfl
          rw [ec]
          have t2 := Same.put (o := .lst (iL [x])) hq1
          have d2 : (upd H1 q1 (.lst (iL [x]))) q1 = some (.lst (iL [x])) := upd_same
          have s2 := s1.trans t2
          generalize upd H1 q1 (.lst (iL [x])) = H2 at *
          refine ⟨_, rfl, _, rfl, _, rfl, fe, iL (x :: y :: r), 1, .int y, rfl, rfl, SqL.of (s2 _ _ h3), at1, _, rfl, R, i, ks, inner, row, fs, y, rfl, s2 _ _ h2, hR.same s2, by omega, cl, bk, f2, conn fs f2, bnd, fun H3 W l e s3 nW dW pw ge li => ?_⟩
          have d3 := s3 _ _ d2
          have s23 := s2.trans s3
          have ll : l.length ≤ 16 := Nat.le_trans (pw.nd.length_le_of_subset fun z hz => li z hz) il
          refine ⟨q1, W, iL [x], iL (l ++ [y]), rfl, rfl, d3, dW, smalle (by rw [List.length_map, List.length_map, List.length_append]; show 1 + (_ + 1) ≤ 1000; omega), fun q4 hq4 => ?_⟩
          exact k _ q4 (x :: (l ++ [y])) (Same.step s23 hq4) upd_same (.inr ⟨ce, x, y, r, l, fs, e, rfl, rfl, f1, pw, ge, li⟩)
end
end Fd
namespace Fd
open PySem PySem.Spec PyProof.Rows L2
/-! ### `_turn`: the turn of a point by the borders of the fields -/
theorem rot_len (f : List Int) (k : Nat) : (rotL f k).length = f.length := by
  unfold rotL
  rw [List.length_append, List.length_drop, List.length_take]
  omega
theorem rot_perm (f : List Int) (k : Nat) : (rotL f k).Perm f := by
  unfold rotL
  refine List.perm_append_comm.trans ?_
  rw [List.take_append_drop]
theorem rot_at {f : List Int} {k i : Nat} (hk : k < f.length) (hi : i < f.length) : (rotL f k)[i]? = f[(k + i) % f.length]? := by
  unfold rotL
  by_cases c : i < f.length - k
  · rw [List.getElem?_append_left (by rw [List.length_drop]; exact c), List.getElem?_drop, Nat.mod_eq_of_lt (by omega)]
  · rw [List.getElem?_append_right (by rw [List.length_drop]; omega), List.length_drop, List.getElem?_take, if_pos (by omega)]
    congr 1
    have e : (k + i) = (k + i - f.length) + f.length := by omega
    rw [e, Nat.add_mod_right, Nat.mod_eq_of_lt (by omega)]
    omega
theorem nx_at {t : List Int} (nd : t.Nodup) {i : Nat} {u : Int} (e : t[i]? = some u) : nxI t u = t.getD ((i + 1) % t.length) 0 := by
  have h := idx_at (List.mem_of_getElem? e)
  have : t.idxOf u = i := nd_ix nd h e
  unfold nxI
  rw [this]
theorem rot_nx {t : List Int} (nd : t.Nodup) {k i : Nat} {u : Int} (hk : k < t.length) (hi : i < t.length) (e : (rotL t k)[i]? = some u) : nxI t u = (rotL t k).getD ((i + 1) % t.length) 0 := by
  have hn : 0 < t.length := by omega
  rw [rot_at hk hi] at e
  rw [nx_at nd e, List.getD_eq_getElem?_getD, List.getD_eq_getElem?_getD, rot_at hk (Nat.mod_lt _ hn)]
  congr 2
  rw [Nat.mod_add_mod, Nat.add_mod_mod]
  congr 1
/-- what stands ahead of p in a field -/
def pvI (f : List Int) (p : Int) : Int := f.getD ((f.idxOf p + f.length - 1) % f.length) 0
structure TurnAsk (fs : List (List Int)) (p : Int) (ns : List Int) : Prop where
  ne : ns ≠ []
  nd : ns.Nodup
  two : ∀ f ∈ fs, p ∈ f → 2 ≤ f.length
  go : ∀ f ∈ fs, p ∈ f → pvI f p ∈ ns ∧ nxI f p = nxI ns (pvI f p)
  all : ∀ a ∈ ns, ∃ f ∈ fs, p ∈ f ∧ pvI f p = a
/-- the dict behind some fields -/
structure BehI (fs : List (List Int)) (p : Int) (ns : List Int) (n : Nat) (kvs : List (Key × V)) : Prop where
  keys : ∀ k ∈ kvs.map (·.1), ∃ a ∈ ns, k = Sum.inl a
  val : ∀ a v, valV kvs (Sum.inl a) = some v → v = .int (nxI ns a)
  has : ∀ f ∈ fs.take n, p ∈ f → (valV kvs (Sum.inl (pvI f p))).isSome = true
  len : kvs.length ≤ n
theorem BehI.skip {fs : List (List Int)} {p : Int} {ns : List Int} {n : Nat} {kvs : List (Key × V)} (h : BehI fs p ns n kvs) {f : List Int} (e : fs[n]? = some f) (c : p ∉ f) : BehI fs p ns (n + 1) kvs :=
  ⟨h.keys, h.val, fun g hg hp => by
    rw [take_next e] at hg
    rcases List.mem_append.mp hg with z | z
    · exact h.has g z hp
    · exact absurd (List.mem_singleton.mp z ▸ hp) c, by have := h.len; omega⟩
theorem keys_put {kvs : List (Key × V)} {k : Key} {v : V} {j : Key} (h : j ∈ (putK kvs k v).map (·.1)) : j = k ∨ j ∈ kvs.map (·.1) := by
  unfold putK at h
  split at h
  · rw [List.map_map] at h
    obtain ⟨q, hq, e⟩ := List.mem_map.mp h
    right
    refine List.mem_map.mpr ⟨q, hq, ?_⟩
    rw [← e]
    show q.1 = (if q.1 = k then (q.1, v) else q).1
    split <;> rfl
  · rw [List.map_append] at h
    rcases List.mem_append.mp h with z | z
    · exact .inr z
    · exact .inl (List.mem_singleton.mp z)
theorem BehI.more {fs : List (List Int)} {p : Int} {ns : List Int} {n : Nat} {kvs : List (Key × V)} (h : BehI fs p ns n kvs) (A : TurnAsk fs p ns) {f : List Int} (e : fs[n]? = some f) (c : p ∈ f) : BehI fs p ns (n + 1) (putK kvs (Sum.inl (pvI f p)) (.int (nxI f p))) := by
  obtain ⟨g1, g2⟩ := A.go f (List.mem_of_getElem? e) c
  refine ⟨fun k hk => ?_, fun a v hv => ?_, fun g hg hp => ?_, ?_⟩
  · rcases keys_put hk with z | z
    · exact ⟨_, g1, z⟩
    · exact h.keys k z
  · rw [valV_put] at hv
    split at hv
    · rename_i q
      rw [Sum.inl.inj q, ← g2]
      exact (Option.some.inj hv).symm
    · exact h.val a v hv
  · rw [valV_put]
    split
    · rfl
    · rename_i q
      rw [take_next e] at hg
      rcases List.mem_append.mp hg with z | z
      · exact h.has g z hp
      · rw [List.mem_singleton.mp z] at q
        exact absurd rfl q
  · have := h.len
    have := length_putK kvs (Sum.inl (pvI f p)) (.int (nxI f p))
    omega
theorem BehI.at {fs : List (List Int)} {p : Int} {ns : List Int} {kvs : List (Key × V)} (h : BehI fs p ns fs.length kvs) (A : TurnAsk fs p ns) {a : Int} (ha : a ∈ ns) : valV kvs (Sum.inl a) = some (.int (nxI ns a)) := by
  obtain ⟨f, hf, hp, rfl⟩ := A.all a ha
  have z := h.has f (by rw [List.take_length]; exact hf) hp
  cases e : valV kvs (Sum.inl (pvI f p)) with
  | none => rw [e] at z; cases z
  | some v => rw [h.val _ v e]
theorem BehI.int {fs : List (List Int)} {p : Int} {ns : List Int} {n : Nat} {kvs : List (Key × V)} (h : BehI fs p ns n kvs) : ∃ js : List Int, (kvs.map fun kv => kV kv.1) = iL js ∧ ∀ j, j ∈ js → j ∈ ns := by
  have hk := h.keys
  clear h
  induction kvs with
  | nil => exact ⟨[], rfl, fun j hj => nomatch hj⟩
  | cons q r ih =>
    obtain ⟨js, e, hj⟩ := ih fun k hk2 => hk k (List.mem_cons_of_mem _ hk2)
    obtain ⟨a, ha, ea⟩ := hk q.1 (by simp)
    refine ⟨a :: js, ?_, fun j hj2 => ?_⟩
    · rw [List.map_cons, e, ea]
      rfl
    · rcases List.mem_cons.mp hj2 with z | z
      · rw [z]
        exact ha
      · exact hj j z
end Fd
namespace Fd
open PySem PySem.Spec PyProof.Rows L2
theorem atI_pv {f : List Int} {i : Nat} (hi : i < f.length) : atI (iL f) ((i : Int) - 1) = some (.int (f.getD ((i + f.length - 1) % f.length) 0)) := by
  by_cases c : i = 0
  · subst c
    have := atI_last (r := f) (by omega)
    unfold lastI at this
    rw [show ((0 : Nat) : Int) - 1 = -1 by omega, this, Nat.zero_add, Nat.mod_eq_of_lt (by omega)]
  · have e : (i + f.length - 1) % f.length = i - 1 := by
      rw [show i + f.length - 1 = (i - 1) + f.length by omega, Nat.add_mod_right, Nat.mod_eq_of_lt (by omega)]
    rw [e, show (i : Int) - 1 = ((i - 1 : Nat) : Int) by omega]
    refine atI_nat (iL_get ?_)
    rw [List.getD_eq_getElem?_getD, List.getElem?_eq_getElem (by omega)]
    rfl
theorem atI_nx {f : List Int} {p : Int} (hp : p ∈ f) : atI (iL f) (((f.idxOf p : Nat) : Int) + 1 - ((((f.idxOf p : Nat) : Int) + 1) / (f.length : Int)) * (f.length : Int)) = some (.int (nxI f p)) := by
  have l : 0 < f.length := List.length_pos_of_mem hp
  have e : ((f.idxOf p : Nat) : Int) + 1 - ((((f.idxOf p : Nat) : Int) + 1) / (f.length : Int)) * (f.length : Int) = (((f.idxOf p + 1) % f.length : Nat) : Int) := by
    rw [Int.natCast_emod, Int.emod_def, Int.mul_comm]
    rfl
  rw [e]
  refine atI_nat (iL_get ?_)
  unfold nxI
  rw [List.getD_eq_getElem?_getD, List.getElem?_eq_getElem (Nat.mod_lt _ l)]
  rfl
def spTurn (K : PySem.W.Frag) : Sp := fun vs H Q _ => ∃ (F : Addr) (p : Int) (ws : List V) (fs : List (List Int)) (ns : List Int), vs = [.ref F, .int p] ∧ H F = some (.lst ws) ∧ Paired (FldAt H) ws fs ∧ fs.length ≤ 100 ∧ (∀ f ∈ fs, f.length ≤ 200) ∧ ns.length ≤ 100 ∧ TurnAsk fs p ns ∧
  ∀ (H' : Hp) (D : Addr) (k : Nat), Same H H' → H D = none → k < ns.length → H' D = some (.lst (iL (rotL ns k))) → Q (.ref D) H'
def muT5 (n : Nat) (σ : L2.St) (H : Hp) : Nat := match σ[5]? with
  | some (some (V.ref a)) => (match H a with | some (.lst xs) => n - xs.length | _ => 0)
  | _ => 0
section
variable {P : Program} {w : World} {K : PySem.W.Frag} {mg : Str → Option Value} {base : Heap} {C : Addr}
abbrev nTurn : List Str := ["fields", "point", "behind", "field", "at", "turn"]
theorem scTurn : FnScope nTurn ["fields", "point"] (defScope sTurn) := ⟨rfl, rfl, rfl, by decide +kernel, rfl, by decide +kernel, by decide +kernel⟩
theorem c_turn (T : WTxt K mg C) (min_ : mg "min" = none) (F : Fn K mg "_turn" sTurn ["fields", "point"]) : C8.Cal P w K mg base 1 "_turn" (spTurn K) [] := by
  refine cal_of F scTurn (fun vs H Q E h => ?_) (fun f cdv A outer s H vs Q E hr h => ?_)
  · obtain ⟨F, p, ws, fs, ns, rfl, _⟩ := h
    rfl
  · obtain ⟨F, p, ws, fs, ns, rfl, hF, pf, fl, fl2, nl, ask, k⟩ := h
    have hu1 : (A.deeper (envOfC "_turn" (defScope sTurn) s.heap.objs.size f cdv)).units + 1 < cLine := by
      have := hr.un
      omega
    refine ⟨_, pss_cons (ps_set (i := 2) scTurn.nd rfl (Or.inl rfl) pe_dnewK)
      (pss_cons (ps_for PassesOwn.never rfl (pi_list (pv 0)) (pg_name (i := 3) scTurn.nd rfl (Or.inl rfl))
        (pss_one (ps_if (pt_cmpR op_in_seq (pv 1) (pv 3) (by rfl))
          (pss_cons (ps_set (i := 4) scTurn.nd rfl (Or.inl rfl) (pe_bm PySem.F.plainAttrs_list PySem.F.slot_list_index PySem.F.type_list_index mt_index (pv 3) (pa_cons (pv 1) pa_nil)))
          (pss_one (ps_dput hu1 (pv 2) (pe_ix ix_list (pv 3) (pe_op op_sub (pv 4) pe_int) (fun _ _ => rfl)) (pe_ix ix_list (pv 3) (pe_op op_mod (pe_op op_add (pv 4) pe_int) (pe_callB call_len_seq (by rfl) T.len PySem.boot_len (pa_cons (pv 3) pa_nil))) (fun _ _ => rfl)) rfl))) pss_nil)))
      (pss_cons (ps_set (i := 5) scTurn.nd rfl (Or.inl rfl) (pe_lst (pa_cons (pe_callB (id := "min") (r := rMin K) (cr_min rfl) (by rfl) min_ (by decide +kernel) (pa_cons (pe_callTy (call_listD rfl) (by rfl) T.list (by decide +kernel) (pa_cons (pv 2) pa_nil)) pa_nil)) pa_nil)))
      (pss_cons (ps_while PassesOwn.never (pt_cmpR op_ne (pe_dget hu1 (pv 2) (pe_ix ix_list (pv 5) (pe_un un_neg pe_int) (fun _ _ => rfl)) (fun _ _ => rfl)) (pe_ix ix_list (pv 5) pe_int (fun _ _ => rfl)) (nomark _))
        (pss_one (ps_expr (pe_bm PySem.F.plainAttrs_list PySem.F.slot_list_append PySem.F.type_list_append mt_append (pv 5) (pa_cons (pe_dget hu1 (pv 2) (pe_ix ix_list (pv 5) (pe_un un_neg pe_int) (fun _ _ => rfl)) (fun _ _ => rfl)) pa_nil)))))
      (pss_one (ps_ret (pv 5)))))), ?_⟩
    have n0 : 0 < ns.length := List.length_pos_iff.mpr ask.ne
    intro B hB
    refine ⟨_, rfl, F, rfl, ⟨_, SqL.of ((Same.put (o := .dK []) hB) _ _ hF)⟩, for_list (K := K) (a := F) (xs := ws)
      (fun n σ H1 => ∃ (v3 v4 : Option V) (kvs : List (Key × V)), σ = [some (.ref F), some (.int p), some (.ref B), v3, v4, none] ∧ Same H H1 ∧ H1 B = some (.dK kvs) ∧ BehI fs p ns n kvs)
      ⟨none, none, [], rfl, Same.put hB, upd_same, ⟨(fun k hk => nomatch hk), (fun a v e => nomatch e), fun f hf => absurd hf (by simp), Nat.le_refl _⟩⟩ (fun n σ H1 _ ⟨_, _, _, _, s1, _⟩ => SqL.of (s1 _ _ hF)) ?_ ?_⟩
    · rintro n x σ H1 hn ⟨v3, v4, kvs, rfl, s1, b1, bi⟩
      obtain ⟨g, eg, a, rfl, ha⟩ := paired_get pf hn
      have gm := List.mem_of_getElem? eg
      have ha1 := s1 _ _ ha
      have einp := inV_ints g p
      refine ⟨_, rfl, _, rfl, a, iL g, rfl, .inl (SqL.of ha1), rfl, flat_ints _, _, rfl, ?_⟩
      by_cases c : p ∈ g
      · refine yep_ (show inV (.int p) (iL g) = true by rw [einp, decide_eq_true c]) ?_
        refine ⟨_, rfl, .inl ⟨rfl, _, SqL.of ha1⟩, _, rfl, ?_⟩
        refine ⟨a, iL g, .int p, g.idxOf p, .int p, rfl, rfl, SqL.of ha1, rfl, flat_ints _, iL_get (idx_at c), beq_self_eq_true p, idx_no, ?_⟩
        have gi : g.idxOf p < g.length := (List.getElem?_eq_some_iff.mp (idx_at c)).1
        have el : ((iL g).length : Int) = (g.length : Int) := by rw [List.length_map]
        have nx := atI_nx c
        have pv := atI_pv gi
        refine ⟨_, rfl, _, rfl, _, _, rfl, rfl, _, rfl, a, iL g, rfl, .inl (SqL.of ha1), _, _, rfl, rfl, by rw [el]; omega, a, iL g, _, .int (nxI g p), rfl, rfl, SqL.of ha1, ?_, ?_⟩
        · rw [el, Int.emod_def, Int.mul_comm]
          exact nx
        · refine ⟨_, rfl, _, rfl, _, rfl, _, _, rfl, rfl, a, iL g, _, .int (pvI g p), rfl, rfl, SqL.of ha1, pv, B, _, rfl, .inl ⟨kvs, Sum.inl (pvI g p), b1, rfl, small (by have := bi.len; have := (List.getElem?_eq_some_iff.mp eg).1; omega), rfl⟩, ?_⟩
          exact ⟨_, _, _, rfl, Same.write s1 hB, upd_same, bi.more ask eg c⟩
      · refine no_ (show inV (.int p) (iL g) = false by rw [einp, decide_eq_false c]) ?_
        exact ⟨_, _, kvs, rfl, s1, b1, bi.skip eg c⟩
    · rintro σ H1 ⟨v3, v4, kvs, rfl, s1, b1, bi⟩
      rw [pf.length] at bi
      obtain ⟨js, ej, jn⟩ := bi.int
      have jpos : 0 < js.length := by
        obtain ⟨a0, ha0⟩ := List.exists_mem_of_ne_nil _ ask.ne
        have e0 := bi.at ask ha0
        have l1 : kvs.length = js.length := by
          have := congrArg List.length ej
          rwa [List.length_map, List.length_map] at this
        rw [← l1]
        cases kvs with
        | nil => cases e0
        | cons q r => exact Nat.succ_pos _
      refine ⟨_, rfl, B, kvs, rfl, .inl b1, fun q1 hq1 => ?_⟩
      rw [ej]
      have t1 := Same.put (o := .lst (iL js)) hq1
      have d1 : (upd H1 q1 (.lst (iL js))) q1 = some (.lst (iL js)) := upd_same
      have b2 := t1 _ _ b1
      have s2 := s1.trans t1
      generalize upd H1 q1 (.lst (iL js)) = H2 at *
      refine ⟨q1, js, rfl, SqL.of d1, jpos, fun m0 hm0 _ => ?_⟩
      refine ⟨by show 1 ≤ sizeLine; decide, fun Tn hTn => ?_⟩
      have TB : B ≠ Tn := ne_of_none b2 hTn
      have HT : H Tn = none := s2.free hTn
      have m0n := jn m0 hm0
      have hk : ns.idxOf m0 < ns.length := (List.getElem?_eq_some_iff.mp (idx_at m0n)).1
      have r0 : (rotL ns (ns.idxOf m0))[0]? = some m0 := by
        rw [rot_at hk n0, Nat.add_zero, Nat.mod_eq_of_lt hk]
        exact idx_at m0n
      generalize ns.idxOf m0 = k0 at hk r0
      have rl := rot_len ns k0
      have rnd : (rotL ns k0).Nodup := (rot_perm ns k0).nodup_iff.mpr ask.nd
      have rmem : ∀ x ∈ rotL ns k0, x ∈ ns := fun x hx => (rot_perm ns k0).mem_iff.mp hx
      have rnx : ∀ (i : Nat) (u : Int), i < ns.length → (rotL ns k0)[i]? = some u → nxI ns u = (rotL ns k0).getD ((i + 1) % ns.length) 0 := fun i u hi e => rot_nx ask.nd hk hi e
      have fin := fun (H' : Hp) (D : Addr) (s : Same H H') (h0 : H D = none) (e : H' D = some (.lst (iL (rotL ns k0)))) => k H' D k0 s h0 hk e
      generalize rotL ns k0 = r at *
      refine while_by (fun σ H3 => ∃ (j : Nat) (v3 v4 : Option V), σ = [some (.ref F), some (.int p), some (.ref B), v3, v4, some (.ref Tn)] ∧ Same H H3 ∧ H3 B = some (.dK kvs) ∧ H3 Tn = some (.lst (iL (r.take j))) ∧ 1 ≤ j ∧ j ≤ ns.length) (muT5 ns.length)
        ⟨1, v3, v4, rfl, Same.step s2 hTn, by rw [upd_ne TB]; exact b2, ?_, Nat.le_refl _, n0⟩ ?_ ?_
      · rw [upd_same]
        cases r with
        | nil => cases r0
        | cons a b =>
          cases Option.some.inj r0
          rfl
      · rintro σ H3 ⟨j, v3, v4, rfl, s3, b3, d3, j1, jn2⟩
        have tl : (r.take j).length = j := by rw [List.length_take]; omega
        obtain ⟨u, eu⟩ : ∃ u, r[j - 1]? = some u := ⟨_, List.getElem?_eq_getElem (by omega)⟩
        have lu : lastI (r.take j) = u := by
          unfold lastI
          rw [tl, List.getD_eq_getElem?_getD, List.getElem?_take, if_pos (by omega), eu]
          rfl
        have fu : (r.take j).getD 0 0 = m0 := by
          rw [List.getD_eq_getElem?_getD, List.getElem?_take, if_pos (by omega), r0]
          rfl
        have un : u ∈ ns := rmem u (List.mem_of_getElem? eu)
        have at1 : atI (iL (r.take j)) (-1) = some (.int u) := by
          rw [← lu]
          exact atI_last (by omega)
        have at0 : atI (iL (r.take j)) 0 = some (.int m0) := by
          rw [← fu]
          exact atI_first (by omega)
        have nu := rnx (j - 1) u (by omega) eu
        rw [show j - 1 + 1 = j by omega] at nu
        have dg : DGet H3 B (.int u) (some (.int (nxI ns u))) := .inl ⟨kvs, Sum.inl u, .inl b3, rfl, (bi.at ask un).symm⟩
        refine ⟨_, rfl, _, rfl, 1, rfl, Tn, iL (r.take j), -1, .int u, rfl, rfl, SqL.of d3, at1, B, .int (nxI ns u), rfl, dg, _, rfl, Tn, iL (r.take j), 0, .int m0, rfl, rfl, SqL.of d3, at0, rfl, _, rfl, ?_⟩
        by_cases c : j < ns.length
        · obtain ⟨z, ez⟩ : ∃ z, r[j]? = some z := ⟨_, List.getElem?_eq_getElem (by omega)⟩
          have nz : nxI ns u = z := by
            rw [nu, Nat.mod_eq_of_lt c, List.getD_eq_getElem?_getD, ez]
            rfl
          have zm : z ≠ m0 := fun e => by
            have := nd_ix rnd ez (e ▸ r0)
            omega
          rw [nz] at dg ⊢
          refine yep_ (show (!decide (V.int z = V.int m0)) = true by rw [decide_eq_false (fun e => zm (V.int.inj e))]; rfl) ?_
          refine ⟨_, rfl, .inl ⟨rfl, _, SqL.of d3⟩, _, rfl, _, rfl, 1, rfl, Tn, iL (r.take j), -1, .int u, rfl, rfl, SqL.of d3, at1, B, .int z, rfl, dg, Tn, _, _, rfl, rfl, d3, by rw [List.length_map, tl]; exact small (by omega), ?_⟩
          refine ⟨⟨j + 1, _, _, rfl, Same.write s3 HT, by rw [upd_ne TB]; exact b3, ?_, by omega, c⟩, ?_⟩
          · rw [upd_same, take_next ez]
            unfold iL
            rw [List.map_append]
            rfl
          · show (match (upd H3 Tn (.lst (iL (r.take j) ++ [V.int z]))) Tn with | some (.lst xs) => ns.length - xs.length | _ => 0) < (match H3 Tn with | some (.lst xs) => ns.length - xs.length | _ => 0)
            rw [upd_same, d3]
            show ns.length - (iL (r.take j) ++ [V.int z]).length < ns.length - (iL (r.take j)).length
            rw [List.length_append, List.length_map, tl]
            show ns.length - (j + 1) < ns.length - j
            omega
        · have ej2 : j = ns.length := by omega
          have nz : nxI ns u = m0 := by
            rw [nu, ej2, Nat.mod_self, List.getD_eq_getElem?_getD, r0]
            rfl
          rw [nz]
          refine no_ (show (!decide (V.int m0 = V.int m0)) = false by rw [decide_eq_true rfl]; rfl) ?_
          refine ⟨_, rfl, fin H3 Tn s3 HT ?_⟩
          rw [d3, List.take_of_length_le (by omega)]
      · rintro σ H3 Q1 Q2 hq ⟨v1, e1, v2, e2, i1, e3, a, xs, i, y, e4, e5, h1, h2, b, r, e6, g, v3, e7, a2, xs2, i2, y2, e8, e9, h3, h4, sc, c, e10, q⟩
        exact ⟨v1, e1, v2, e2, i1, e3, a, xs, i, y, e4, e5, h1, h2, b, r, e6, g, v3, e7, a2, xs2, i2, y2, e8, e9, h3, h4, sc, c, e10, hq _ _ q⟩
end
end Fd
namespace Fd
open PySem PySem.Spec PyProof.Rows L2 LamX
/-! ### a def whose code object's address is known; what stays but for the tables of code objects -/
structure FunK (K : PySem.W.Frag) (x qual : Str) (st : Stmt) (f : Addr) (fd : FuncData) (c : Addr) : Prop where
  is : ∃ (oc : Value) (od an : Option Addr) (kV doc pm ct : Value) (osl : Array (Option Value)), (K.lookup f = some ⟨oc, od, .func fd, osl⟩ ∧ PySem.W.codeIn K (.ref c) qual = true) ∧ fd = PySem.W.fnOf x qual (defArgs st) (defBody st) (defScope st) .none kV doc pm an (.ref c) ct
  kpt : PySem.W.keepIn K (.ref f) = true
structure FnC (K : PySem.W.Frag) (mg : Str → Option Value) (x : Str) (st : Stmt) (ps : List Str) (c : Addr) : Prop where
  ex : ∃ (f : Addr) (fd : FuncData), FunK K x x st f fd c ∧ mg x = some (.ref f) ∧ Binds K fd ps []
section
variable {P : Program} {w : World} {K : PySem.W.Frag} {mg : Str → Option Value} {base : Heap}
theorem calC_of {x : Str} {st : Stmt} {N ps : List Str} {k : Nat} {sp : Sp} {c : Addr} (F : FnC K mg x st ps c) (S : FnScope N ps (defScope st)) (len : ∀ vs H Q E, sp vs H Q E → vs.length = ps.length)
    (hb : ∀ (f : Addr) (A : Around) (outer : List Env) (s : Shared) (H : Hp) (vs : List V) (Q : VK) (E : XK), Room k (A.deeper (envOfC x (defScope st) s.heap.objs.size f (.ref c))) → sp vs H Q E →
      ∃ t, PSs (cxOf L2.CX0 P w K mg base N x (defScope st) f (.ref c) A outer s H E).nox (defBody st) t ∧ t { nx := fun _ H' => Q .non H', rt := Q } (start N vs) H) : C8.Cal P w K mg base (k + 1) x sp [] := by
  obtain ⟨f, fd, ⟨⟨oc, od, an, kV, doc, pm, ct, osl, ⟨lk, hcd⟩, e⟩, kpt⟩, hm, b⟩ := F.ex; subst e
  refine ⟨f, _, ps, [], fn_of lk hcd S len fun A outer s H vs Q E hr hsp => ?_, hm, kpt, b, .nil⟩
  obtain ⟨t, h, q⟩ := hb f A outer s H vs Q E hr hsp; exact ⟨t, h.nox, q⟩
end
theorem extL {H H' : Hp} (e : ExtN H H') {a : Addr} {xs : List V} (h : H a = some (.lst xs)) : H' a = some (.lst xs) := e _ _ h fun _ z => nomatch z
theorem extT {H H' : Hp} (e : ExtN H H') {a : Addr} {xs : List V} (h : H a = some (.tup xs)) : H' a = some (.tup xs) := e _ _ h fun _ z => nomatch z
theorem BrgAt.ext {H H' : Hp} (e : ExtN H H') {v : V} {b : Brg} (h : BrgAt H v b) : BrgAt H' v b := by
  obtain ⟨p, i, f, e0, h1, h2, h3⟩ := h
  exact ⟨p, i, f, e0, extT e h1, extL e h2, extL e h3⟩
theorem FldAt.ext {H H' : Hp} (e : ExtN H H') {v : V} {f : List Int} (h : FldAt H v f) : FldAt H' v f := by
  obtain ⟨a, e0, h1⟩ := h
  exact ⟨a, e0, extL e h1⟩
/-! ### `_tightest`: a bridge that fits into the fewest fields -/
/-- a choice: a bridge, its homes -/
def ChoAt (H : Hp) (v : V) (c : Brg × List Int) : Prop := ∃ t u h, v = .ref t ∧ H t = some (.tup [u, .ref h]) ∧ BrgAt H u c.1 ∧ H h = some (.lst (iL c.2))
theorem ChoAt.same {H H' : Hp} (s : Same H H') {v : V} {c : Brg × List Int} (h : ChoAt H v c) : ChoAt H' v c := by
  obtain ⟨t, u, q, e, h1, h2, h3⟩ := h
  exact ⟨t, u, q, e, s _ _ h1, h2.same s, s _ _ h3⟩
theorem ChoAt.ext {H H' : Hp} (s : ExtN H H') {v : V} {c : Brg × List Int} (h : ChoAt H v c) : ChoAt H' v c := by
  obtain ⟨t, u, q, e, h1, h2, h3⟩ := h
  exact ⟨t, u, q, e, extT s h1, h2.ext s, extL s h3⟩
theorem BrgAt.toN {H : Hp} {D : Addr} (hD : H D = none) {v : V} {b : Brg} (h : BrgAt H v b) : BrgN [D] H v b := by
  obtain ⟨p, i, f, e, h1, h2, h3⟩ := h
  have ne : ∀ {a o}, H a = some o → a ∉ [D] := fun {a o} q z => by
    rw [List.mem_singleton.mp z, hD] at q
    cases q
  exact ⟨p, i, f, e, h1, h2, h3, ne h1, ne h2, ne h3⟩
/-- .. at D nothing of it stands -/
def ChoN (D : Addr) (H : Hp) (v : V) (c : Brg × List Int) : Prop := ∃ t u h, v = .ref t ∧ H t = some (.tup [u, .ref h]) ∧ BrgN [D] H u c.1 ∧ H h = some (.lst (iL c.2)) ∧ t ≠ D ∧ h ≠ D
theorem ChoN.same {D : Addr} {H H' : Hp} (s : Same H H') {v : V} {c : Brg × List Int} (h : ChoN D H v c) : ChoN D H' v c := by
  obtain ⟨t, u, q, e, h1, h2, h3, r⟩ := h
  exact ⟨t, u, q, e, s _ _ h1, h2.same s, s _ _ h3, r⟩
theorem ChoN.put {D : Addr} {H : Hp} {o : HO} {v : V} {c : Brg × List Int} (h : ChoN D H v c) : ChoN D (upd H D o) v c := by
  obtain ⟨t, u, q, e, h1, h2, h3, r1, r2⟩ := h
  exact ⟨t, u, q, e, by rw [upd_ne r1]; exact h1, h2.put (by simp), by rw [upd_ne r2]; exact h3, r1, r2⟩
theorem ChoN.at {D : Addr} {H : Hp} {v : V} {c : Brg × List Int} (h : ChoN D H v c) : ChoAt H v c := by
  obtain ⟨t, u, q, e, h1, h2, h3, _⟩ := h
  exact ⟨t, u, q, e, h1, h2.at, h3⟩
theorem cho_len {K : PySem.W.Frag} {H : Hp} : ∀ {cws : List V} {cs : List (Brg × List Int)}, Paired (ChoAt H) cws cs → Paired (LenAt K H) cws (cs.map fun c => c.2.length)
  | _, _, .nil => .nil
  | _, _, .cons q r => .cons (by
    obtain ⟨t, u, h, rfl, h1, h2, h3⟩ := q
    exact ⟨t, h, u, _, rfl, SqT.of h1, SqL.of h3, by rw [List.length_map]⟩) (cho_len r)
abbrev qLam : Str := "_tightest.<locals>.<lambda>"
def spTightest (K : PySem.W.Frag) (Pt : Addr) : Sp := fun vs H Q _ => ∃ (Bs F : Addr) (bws ws : List V) (bs : List Brg) (fs : List (List Int)), vs = [.ref Bs, .ref F] ∧ H Bs = some (.lst bws) ∧ Paired (BrgAt H) bws bs ∧ H F = some (.lst ws) ∧ Paired (FldAt H) ws fs ∧ fs.length ≤ 100 ∧ bs.length ≤ 200 ∧ bs ≠ [] ∧ (∀ b ∈ bs, b.2.length ≤ 100) ∧ Tabs [(Pt, qLam)] H ∧
  ∀ (H' : Hp) (z : V) (b : Brg), ExtN H H' → Tabs [(Pt, qLam)] H' → b ∈ bs → ChoAt H' z (b, homesN b.2 fs fs.length) → (∀ b' ∈ bs, (homesN b.2 fs fs.length).length ≤ (homesN b'.2 fs fs.length).length) → Q z H'
section
variable {P : Program} {w : World} {K : PySem.W.Frag} {mg : Str → Option Value} {base : Heap} {C c Pt : Addr}
abbrev nTightest : List Str := ["bridges", "fields", "choices", "bridge"]
theorem scTightest : FnScope nTightest ["bridges", "fields"] (defScope sTightest) := ⟨rfl, rfl, rfl, by decide +kernel, rfl, by decide +kernel, by decide +kernel⟩
theorem c_tightest (T : WTxt K mg C) (all : mg "all" = none) (enum : mg "enumerate" = none) (min_ : mg "min" = none) (FH : Fn K mg "_homes" sHomes ["bridge", "fields"]) (F : FnC K mg "_tightest" sTightest ["bridges", "fields"] c) (TB : TabB base mg c Pt) : C8.Cal P w K mg base 6 "_tightest" (spTightest K Pt) [] := by
  refine calC_of F scTightest (fun vs H Q E h => ?_) (fun f A outer s H vs Q E hr h => ?_)
  · obtain ⟨Bs, F, bws, ws, bs, fs, rfl, _⟩ := h
    rfl
  · obtain ⟨Bs, F, bws, ws, bs, fs, rfl, hBs, pb, hF, pf, fl, bl, bne, ftl, tabs, k⟩ := h
    have eq : (cxOf L2.CX0 P w K mg base nTightest "_tightest" (defScope sTightest) f (Value.ref c) A outer s H E).nox.env.qual ++ "<lambda>" = qLam := (show ("_tightest" : Str) ++ ".<locals>." ++ "<lambda>" = qLam by decide +kernel)
    refine ⟨_, pss_cons (ps_setLc (i := 2) (own := [("bridge", 3)]) (g := gName 3) (tt := tYes) (te := tTup (tCons (tVar 3) (tCons (tCall (spHomes K) [] C8.E0 (tCons (tVar 3) (tCons (tVar 1) tNil))) tNil))) (by rfl) scTightest.nd rfl rfl (sw_true rfl rfl rfl (by decide +kernel)) (pi_list (pv 0))
        (blkOk_by (own := [("bridge", 3)]) (N := nTightest) (sc := defScope sTightest) (by decide +kernel)) (fun _ _ _ _ _ => pg_name (i := 3) scTightest.nd rfl (Or.inl rfl)) (fun _ _ _ _ _ => pts_nil)
        (fun _ _ _ _ _ => pe_tup (pa_cons (pv 3) (pa_cons (C8.pe_c (c_homes T all enum FH) hr (by decide) (by rfl) (pa_cons (pv 3) (pa_cons (pv 1) pa_nil))) pa_nil))))
      (pss_one (ps_ret (pe_minLen (T := [(Pt, qLam)]) (c := c) (P := Pt) (by rfl) min_ T.len (pv 2) TB rfl (by rw [eq]; exact List.mem_singleton.mpr rfl) (fun q hq _ => by rw [eq, List.mem_singleton.mp hq]) (hr.mono (by decide)) rfl (by decide +kernel) rfl ⟨rfl, rfl, rfl, by decide +kernel, rfl, by decide +kernel, by decide +kernel⟩ rfl rfl (fun _ _ _ _ _ => rfl)))), ?_⟩
    refine ⟨_, rfl, Bs, rfl, ⟨_, SqL.of hBs⟩, fun D hD => ?_⟩
    refine it_W (walk_list (K := K) (a := Bs) (xs := bws)) (fun n H1 => Same H H1 ∧ ∃ cws, H1 D = some (.lst cws) ∧ Paired (ChoN D H1) cws ((bs.take n).map fun b => (b, homesN b.2 fs fs.length))) ⟨Same.put hD, [], upd_same, .nil⟩ (fun n H1 _ ⟨s1, _⟩ => SqL.of (s1 _ _ hBs)) ?_ ?_
    · rintro n x H10 H1 hn ⟨s1, cws, d1, p1⟩ ⟨rfl, ex⟩
      obtain ⟨b, eb, hb⟩ := paired_get pb ex
      have bm := List.mem_of_getElem? eb
      have nl : n < bs.length := (List.getElem?_eq_some_iff.mp eb).1
      refine ⟨rfl, ?_⟩
      refine yes_ ?_
      refine iteT ?_
      refine ⟨_, rfl, _, rfl, _, rfl, x, b, F, ws, fs, rfl, hb.same s1, s1 _ _ hF, Paired.mono (fun _ _ q => FldAt.same s1 q) pf, fl, ftl b bm, fun H2 Hm s2 nH dH => ⟨by show 2 ≤ sizeLine; decide, fun Tp hTp => ?_⟩⟩
      have t3 := Same.put (o := .tup [x, .ref Hm]) hTp
      have d3 : (upd H2 Tp (.tup [x, .ref Hm])) Tp = some (.tup [x, .ref Hm]) := upd_same
      have s13 := s2.trans t3
      have d13 := s13 _ _ d1
      have dH3 := t3 _ _ dH
      have HmD : Hm ≠ D := fun z => by rw [z, d1] at nH; cases nH
      have TpD : Tp ≠ D := fun z => by rw [z, s2 _ _ d1] at hTp; cases hTp
      generalize upd H2 Tp (.tup [x, .ref Hm]) = H3 at *
      have p3 : Paired (ChoN D H3) (cws ++ [.ref Tp]) (((bs.take (n + 1)).map fun b => (b, homesN b.2 fs fs.length))) := by
        rw [take_next eb, List.map_append]
        exact paired_snoc (Paired.mono (fun _ _ q => q.same s13) p1) ⟨Tp, x, Hm, rfl, d3, (hb.toN hD).same (s1.trans s13), dH3, TpD, HmD⟩
      refine ⟨cws, d13, small (by rw [p1.length, List.length_map, List.length_take]; omega), Same.write (s1.trans s13) hD, cws ++ [.ref Tp], upd_same, Paired.mono (fun _ _ q => q.put) p3⟩
    · rintro H1 ⟨s1, cws, d1, p1⟩
      rw [pb.length, List.take_length] at p1
      refine ⟨_, rfl, tabs.ext s1, fun H2 eN T2 => ?_⟩
      have p2 : Paired (ChoAt H2) cws (bs.map fun b => (b, homesN b.2 fs fs.length)) := Paired.mono (fun _ _ q => q.at.ext eN) p1
      have cl : cws.length = bs.length := by
        have := p1.length
        rwa [List.length_map] at this
      have pL : Paired (LenAt K H2) cws ((bs.map fun b => (homesN b.2 fs fs.length).length)) := by
        have e : (bs.map fun b => (homesN b.2 fs fs.length).length) = (bs.map fun b => (b, homesN b.2 fs fs.length)).map fun c => c.2.length := by
          rw [List.map_map]
          rfl
        rw [e]
        exact cho_len p2
      refine ⟨D, cws, _, rfl, SqL.of (extL eN d1), by rw [cl]; exact List.length_pos_iff.mpr bne, pL, fun i z n e1 e2 least => ?_⟩
      obtain ⟨cc, ec, hc⟩ := paired_get p2 e1
      rw [List.getElem?_map] at ec
      cases eb : bs[i]? with
      | none => rw [eb] at ec; cases ec
      | some b =>
        rw [eb] at ec
        cases Option.some.inj ec
        rw [List.getElem?_map, eb] at e2
        cases Option.some.inj e2
        refine k H2 z b ((ExtN.of s1).trans eN) T2 (List.mem_of_getElem? eb) hc fun b' hb' => ?_
        obtain ⟨j, ej⟩ := List.mem_iff_getElem?.mp hb'
        exact (least j _ (by rw [List.getElem?_map, ej]; rfl)).1
end
end Fd
namespace Fd
open PySem PySem.Spec PyProof.Rows L2
section
variable {P : Program} {w : World} {A : Around} {E : Value → Shared → Prop} {s : Shared} {a x : Addr} {L : List (Addr × List Int)} {es : Array (Int × Value)} {ep : Nat} {t : SetTable} {k : List Int}
/-- where a search for the hash h stands behind c steps -/
abbrev pAt (t : SetTable) (h : Int) (c : Nat) : SetTable.Probe := nth t.mask (runAt t.mask (SetTable.bits h % (t.mask + 1)) (SetTable.bits h)) c
theorem pAt_add (t : SetTable) (h : Int) (c q : Nat) : nth t.mask (pAt t h c) q = pAt t h (c + q) := (nth_add t.mask c _ q).symm
theorem pAt_dm (t : SetTable) (h : Int) (c : Nat) : (pAt t h c).dummy = none := by
  have go : ∀ (n : Nat) (p : SetTable.Probe), p.dummy = none → (nth t.mask p n).dummy = none := fun n => by
    induction n with
    | zero => exact fun p z => z
    | succ n ih =>
      refine fun p z => ih (adv t.mask p) ?_
      unfold adv
      split
      · exact z
      · exact z
  exact go c _ rfl
/-- the entry that stands at the c-th step is that of an item -/
theorem item_at (R : SetTR P w s.heap a L es ep t) {i j : Nat} (h : t.place.toList[i]? = some j) : ∃ p, L[i]? = some p := by
  have h1 := (List.getElem?_eq_some_iff.mp h).1
  have h2 := R.tab.sz
  rw [List.length_map] at h2
  rw [Array.length_toList] at h1
  exact ⟨_, List.getElem?_eq_getElem (by omega : i < L.length)⟩
/-- x in a: the search that adds nothing -/
theorem find_from (R : SetTR P w s.heap a L es ep t) (hx : IsT P w s.heap k x) (hu : A.units < cLine) {K : Nat} (hF : K < 10 * SetTable.turns t.mask)
    (free : (pAt t (thash P w k) K).j ∉ t.place.toList) (full : ∀ c, c < K → (pAt t (thash P w k) c).j ∈ t.place.toList) {Q : SetFound → Shared → Prop}
    (yes : k ∈ L.map (·.2) → ∀ i, Q (.there (some i)) s) (no : k ∉ L.map (·.2) → ∀ j, Q (.free j false) s) :
    ∀ (f c : Nat) (st : Option SetTable.Probe), st.getD (t.probeStart (thash P w k)) = pAt t (thash P w k) c → c ≤ K → K - c < f →
      (∀ (i : Nat) p, L[i]? = some p → p.2 = k → ∃ d, c ≤ d ∧ d < K ∧ t.place.toList[i]? = some (pAt t (thash P w k) d).j) →
      wpAny (model P w) A (setSearchFrom a (.ref x) (thash P w k) false f st) Q E s := by
  obtain ⟨o, ho, hex, hd⟩ := R.ob
  intro f
  induction f with
  | zero => exact fun c st _ _ z _ => absurd z (Nat.not_lt_zero _)
  | succ f ih =>
    intro c st est hc hf left
    have hashes : ∀ (i : Nat) p, L[i]? = some p → (es[i]?.map (·.1)).getD 0 = thash P w p.2 := fun i p hp => by
      rw [R.entry hp]
      rfl
    -- nothing that was passed is what is looked for
    have passed : ∀ {d q : Nat}, c ≤ d → (∀ (q' i' : Nat), q' < q → t.place.toList[i']? = some (nth t.mask (pAt t (thash P w k) c) q').j → (es[i']?.map (·.1)).getD 0 ≠ thash P w k) → ∀ (i : Nat) p, L[i]? = some p → p.2 = k →
        t.place.toList[i]? = some (pAt t (thash P w k) d).j → c + q ≤ d := fun {d q} cd pass i p hp hk ht => by
      rcases Nat.lt_or_ge d (c + q) with z | z
      · refine absurd ((hashes i p hp).trans (congrArg (thash P w) hk)) (pass (d - c) i (by omega) ?_)
        rw [pAt_add, show c + (d - c) = d by omega]
        exact ht
      · exact z
    rw [setSearchFrom_succ]
    refine wpAny_bind (wpAny_setState_of ho hd R.fits ?_)
    dsimp only
    refine wp_if_neg R.gw ?_
    try refine wpAny_bind (wpAny_pure ?_)
    rcases go_spec t R.tab.ris R.tab.dm (fun i => (es[i]?.map (·.1)).getD 0) (thash P w k) (10 * SetTable.turns t.mask) (K - c) (pAt t (thash P w k) c) (pAt_dm t _ c) (by omega)
        (fun q hq => by rw [pAt_add]; exact full _ (by omega)) (by rw [pAt_add, show c + (K - c) = K by omega]; exact free) with ⟨q, i, hq, hi, hh, pass, pr⟩ | ⟨pass, pr⟩
    · rw [pAt_add] at hi
      rw [pAt_add, pAt_add] at pr
      have pr2 : t.probe (fun i => (es[i]?.map (·.1)).getD 0) (thash P w k) (st.getD (t.probeStart (thash P w k))) = some (.candidate (pAt t (thash P w k) (c + q)).j i (pAt t (thash P w k) (c + (q + 1)))) := by
        rw [est]
        exact pr
      rw [pr2]
      dsimp only
      obtain ⟨p, hp⟩ := item_at R hi
      have pm := List.mem_of_getElem? hp
      have sl := slot_live R.tab.ris hi
      have rest : wpAny (model P w) A (searchRest a (.ref x) (thash P w k) false f es t (pAt t (thash P w k) (c + q)).j i (pAt t (thash P w k) (c + (q + 1)))) Q E s := by
        unfold searchRest
        rw [R.entry hp]
        dsimp only
        refine wpAny_bind (wpAny_holding (wpAny_eqBool_tuple hu (R.tup p pm) hx ?_))
        refine wpAny_bind (wpAny_setState_of ho hd R.fits ?_)
        dsimp only
        refine wp_if_neg (by rw [Bool.false_and]; decide) ?_
        try refine wpAny_bind (wpAny_pure ?_)
        rw [sameMem]
        dsimp only
        simp only [if_true, sl, R.entry hp]
        refine wpAny_bind (wpAny_isSame_ref_self (wpAny_bind (wpAny_pure ?_)))
        simp only [if_true]
        by_cases e : p.2 = k
        · refine wp_if_pos (by simp [e]) ?_
          exact wpAny_pure (yes (List.mem_map.mpr ⟨p, pm, e⟩) i)
        · refine wp_if_neg (by simp [e]) ?_
          refine ih (c + (q + 1)) _ rfl (by omega) (by omega) fun i1 p1 h1 k1 => ?_
          obtain ⟨d, d1, d2, d3⟩ := left i1 p1 h1 k1
          have d4 := passed d1 pass i1 p1 h1 k1 d3
          refine ⟨d, ?_, d2, d3⟩
          rcases Nat.lt_or_ge (c + q) d with z | z
          · omega
          · have ed : d = c + q := by omega
            subst ed
            have sl1 := slot_live R.tab.ris d3
            rw [sl] at sl1
            cases sl1
            cases Option.some.inj (hp.symm.trans h1)
            exact absurd k1 e
      by_cases led : t.led = true
      · refine wp_if_neg (by simp [led]) ?_
        try refine wpAny_bind (wpAny_pure ?_)
        exact rest
      · refine wp_if_pos (by simp [led]) ?_
        have tups : ∀ y ∈ (es.filter (·.1 == thash P w k)).toList.map (·.2), ∃ k' c, y = Value.ref c ∧ IsT P w s.heap k' c := fun y hy => by
          obtain ⟨e, he, ee⟩ := List.mem_map.mp hy
          have h1 : e ∈ es ∧ e.1 = thash P w k := by simpa using he
          have h2 : e ∈ es.toList := by simpa using h1.1
          rw [R.rows] at h2
          obtain ⟨u, hu1, hu2⟩ := List.mem_map.mp h2
          exact ⟨u.2, u.1, by rw [← ee, ← hu2], R.tup u hu1⟩
        refine wpAny_bind (seen_tup hx tups ?_)
        refine wp_if_neg (by decide) ?_
        try refine wpAny_bind (wpAny_pure ?_)
        exact rest
    · have pr2 : t.probe (fun i => (es[i]?.map (·.1)).getD 0) (thash P w k) (st.getD (t.probeStart (thash P w k))) = some (.empty (pAt t (thash P w k) K).j none) := by
        rw [est]
        rw [pAt_add, show c + (K - c) = K by omega] at pr
        exact pr
      rw [pr2]
      dsimp only
      refine wpAny_pure (no (fun hm => ?_) _)
      obtain ⟨p, hp, hk⟩ := List.mem_map.mp hm
      obtain ⟨i, hi⟩ := List.mem_iff_getElem?.mp hp
      obtain ⟨d, d1, d2, d3⟩ := left i p hi hk
      have := passed d1 pass i p hi hk d3
      omega
end
end Fd
namespace Fd
open PySem PySem.Spec PyProof.Rows L2
section
variable {P : Program} {w : World} {A : Around} {E : Value → Shared → Prop} {s : Shared} {a x : Addr} {L : List (Addr × List Int)} {es : Array (Int × Value)} {ep : Nat} {t : SetTable} {k : List Int}
/-- x in a, asked of the set itself -/
theorem has_tup (R : SetTR P w s.heap a L es ep t) (hx : IsT P w s.heap k x) (hu : A.units < cLine) {Q : Bool → Shared → Prop} (h : ∀ tk, Q (decide (k ∈ L.map (·.2))) { s with toks := tk }) : wpAny (model P w) A (setContains a (.ref x)) Q E s := by
  obtain ⟨o, ho, hex, hd⟩ := R.ob
  unfold setContains
  refine wpAny_holding (wpAny_bind (wpAny_pyHash_tuple hu hx ?_))
  obtain ⟨tk, etk⟩ : ∃ tk, tk = s.toks + (k.length + 1) := ⟨_, rfl⟩
  rw [← etk]
  refine wpAny_bind ?_
  unfold setFind
  rw [show (100000 : Nat) = 99999 + 1 from rfl, setFindIn.eq_2]
  refine wpAny_bind (wpAny_setState_of (s := { s with toks := tk }) ho hd R.fits ?_)
  dsimp only
  refine wp_if_neg (by simp [byScan, Value.scannable]) ?_
  try refine wpAny_bind (wpAny_pure ?_)
  have room := R.room
  obtain ⟨K, hF, free, full⟩ := R.tab.first (by rw [List.length_map]; omega) (thash P w k)
  have few : K < 100000 := by
    have : 10 * SetTable.turns t.mask ≤ 1420 := by
      unfold SetTable.turns
      rcases R.tab.mok with e | e | e
      · omega
      · omega
      · omega
    omega
  refine wpAny_bind ?_
  unfold setSearch
  refine find_from (s := { s with toks := tk }) (K := K) (f := 100000) (c := 0) (st := none) R hx hu hF free full (fun hm i => ?_) (fun hm j => ?_) rfl (Nat.zero_le _) (by omega) fun i p hp hk => ?_
  · refine wpAny_pure (wpAny_pure ?_)
    have q := h tk
    rw [decide_eq_true hm] at q
    exact q
  · refine wpAny_pure (wpAny_pure ?_)
    have q := h tk
    rw [decide_eq_false hm] at q
    exact q
  · have h1 : (L.map fun p => thash P w p.2)[i]? = some (thash P w k) := by
      rw [List.getElem?_map, hp, ← hk]
      rfl
    have h2 : i < t.place.toList.length := by
      have h3 := (List.getElem?_eq_some_iff.mp hp).1
      have h4 := R.tab.sz
      rw [List.length_map] at h4
      rw [Array.length_toList]
      omega
    obtain ⟨d, d1, d2⟩ := R.tab.before free h1 (List.getElem?_eq_getElem h2)
    exact ⟨d, Nat.zero_le _, d1, by rw [List.getElem?_eq_getElem h2]; exact congrArg some d2.symm⟩
end
/-! ### by values -/
def TupsTo (K : PySem.W.Frag) (H : Hp) (L : List (Addr × List Int)) : Prop := ∀ p ∈ L, SqT K H p.1 (p.2.map V.int)
theorem setTR_of {X : Cx} {pins : List (Addr × Obj)} {σ : L2.St} {H : Hp} {s : Shared} {a : Addr} {L : List (Addr × List Int)} (I : Inv X pins σ H s) (h : H a = some (SetTO X.prog X.w a L)) (ht : TupsTo X.K H L) : ∃ es ep t, SetTR X.prog X.w s.heap a L es ep t :=
  SetT0.full (I.hok a _ h).1 fun p hp => I.isT (ht p hp)
/-- set() -/
def rNewT (P : Program) (w : World) : List V → Hp → VK → Prop := fun xs H Q => xs = [] ∧ ∀ p, H p = none → Q (.ref p) (upd H p (SetTO P w p []))
/-- t not in a -/
def rNotInT (K : PySem.W.Frag) (P : Program) (w : World) : V → V → Hp → VK → Prop := fun x y H Q => ∃ (b a : Addr) (k : List Int) (L : List (Addr × List Int)), x = .ref b ∧ y = .ref a ∧ SqT K H b (k.map V.int) ∧ H a = some (SetTO P w a L) ∧ TupsTo K H L ∧ Q (.bl (!decide (k ∈ L.map (·.2)))) H
/-- a.add(t) -/
def rAddT (K : PySem.W.Frag) (P : Program) (w : World) : V → List V → Hp → VK → Prop := fun x xs H Q => ∃ (a b : Addr) (k : List Int) (L : List (Addr × List Int)), x = .ref a ∧ xs = [.ref b] ∧ SqT K H b (k.map V.int) ∧ H a = some (SetTO P w a L) ∧ TupsTo K H L ∧ L.length + 1 < 64 ∧
  ∀ L' : List (Addr × List Int), (k ∈ L.map (·.2) → L' = L) → (k ∉ L.map (·.2) → L'.Perm ((b, k) :: L)) → Q .non (upd H a (SetTO P w a L'))
section
variable {X : Cx}
theorem cr_newT : CallR X (.type "set") (rNewT X.prog X.w) := by
  intro pins s σ H xs us Q I r h
  obtain ⟨rfl, q⟩ := h
  cases r
  refine setR_new fun _ => ?_
  have got := setTR_fresh (P := X.prog) (w := X.w) (a := s.heap.objs.size) (h := s.heap.push { cls := .type "set", dict := none, data := .set #[] 0 (.fresh 0 0 (!X.w.params.followText "set-order")) }) (Heap.get?_push_size _ rfl)
  exact ⟨.ref _, _, I.laid (t' := s.toks) (o := SetTO X.prog X.w s.heap.objs.size []) (fun b u e => Heap.get?_push_of_some _ e) (Nat.le_refl _) (setTO_new got.t0), rfl, q _ (I.hok.fresh (Nat.le_refl _))⟩
theorem op_notInT (hu : X.A.units + 65 < cLine) : OpR X (compareOp .NotIn) (rNotInT X.K X.prog X.w) := by
  intro pins s σ H x y v u Q I rx ry h
  obtain ⟨b, a, k, L, rfl, rfl, hb, ha, hL, q⟩ := h
  cases rx
  cases ry
  obtain ⟨es, ep, t, R⟩ := setTR_of I ha hL
  have kb := I.isT hb
  obtain ⟨o, ho, hex, hd⟩ := id R.ob
  have ty : s.TypeIs (.ref a) "set" := ⟨o, ho, hex.1⟩
  show wpAny _ _ (do return Value.bool (!(← PySem.contains (.ref a) (.ref b))) : Sem Value) _ _ s
  refine wpAny_bind ?_
  unfold PySem.contains
  try with_reducible refine wpAny_holding ?_
  refine wpAny_bind (wpAny_specialOf ty F.slot_set_contains.lookup ?_)
  show wpAny _ _ (if (some (Value.builtin "set.__contains__") == some Value.none) = true then _ else _) _ _ s
  refine wp_if_neg (by rw [beq_builtin_none]; exact Bool.false_ne_true) ?_
  refine wpAny_bind (wpAny_callSpecialUnlessNone?_slot (name := Str.ofString "__contains__") ty F.slot_set_contains (wpAny_call_entry F.slot_set_contains ty entry_set_contains ?_ (F.args_set_contains_2 _ _)))
  unfold Builtin.«frozenset.__contains__» Builtin.Frozenset.oneOther
  simp only [List.isEmpty_nil, bind_assoc]
  unfold Builtin.Frozenset.addrOf Builtin.Frozenset.withSetAsKey
  refine wpAny_bind (wpAny_pure ?_)
  try dsimp only
  refine wpAny_bind (wpAny_pure ?_)
  try dsimp only
  refine wpAny_bind (wpAny_tryCatch (has_tup R kb ?_ fun tk => ?_))
  · rw [PyProof.Rows.units_in1]
    omega
  · exact wpAny_pure ⟨_, rfl, wpAny_truthy_bool (wpAny_pure ⟨V.bl (!decide (k ∈ List.map (fun x : Addr × List Int => x.snd) L)), H, I.tok _, rfl, q⟩)⟩
theorem mt_addT (hu : X.A.units + 65 < cLine) : MtM X "set.add" (rAddT X.K X.prog X.w) := by
  intro pins s σ H x xs v us Q I rx rxs h
  obtain ⟨a, b, k, L, rfl, rfl, hb, ha, hL, few, q⟩ := h
  cases rx
  rw [Vals.ref1 rxs]
  obtain ⟨es, ep, t, R⟩ := setTR_of I ha hL
  have kb := I.isT hb
  obtain ⟨o, ho, hex, hd⟩ := id R.ob
  have ty : s.TypeIs (.ref a) "set" := ⟨o, ho, hex.1⟩
  refine wpAny_call_entry F.slot_set_add ty F.entry_set_add ?_ (F.args_set_add_2 _ _)
  unfold Builtin.«set.add» Builtin.Frozenset.oneOther
  simp only [List.isEmpty_nil, bind_assoc]
  unfold Builtin.Frozenset.addrOf setAdd
  refine wpAny_bind (wpAny_pure ?_)
  try dsimp only
  refine wpAny_bind (wpAny_pure ?_)
  try dsimp only
  have u1 : X.A.in1.units < cLine := by
    rw [PyProof.Rows.units_in1]
    omega
  refine wpAny_bind (wpAny_holding (wpAny_bind (wpAny_pyHash_tuple u1 kb ?_)))
  obtain ⟨tk, etk⟩ : ∃ tk, tk = s.toks + (k.length + 1) := ⟨_, rfl⟩
  rw [← etk]
  refine add_at (s := { s with toks := tk }) R kb u1 few fun bb h' L' es' ep' t' sb R' c1 c2 => ?_
  show wpAny _ _ (ret Value.none) _ _ _
  have he : ∃ u, h'.get? a = some u := by
    obtain ⟨o', ho', _⟩ := R'.ob
    exact ⟨o', ho'⟩
  exact wpAny_pure ⟨_, rfl, .non, _, I.write (e := a) (t' := tk) (o := SetTO X.prog X.w a L') (by rw [ha]; trivial) (.inl rfl) (fun b' u hb' hu' => (sb.2 b' hb').trans hu') he (setTO_new R'.t0), rfl, q L' c1 c2⟩
def tAddT (K : PySem.W.Frag) (P : Program) (w : World) (to : TE) (t : TA) : TE := fun σ H Q => to σ H fun x H1 => (∃ a L, x = V.ref a ∧ H1 a = some (SetTO P w a L)) ∧ t σ H1 fun xs H2 => rAddT K P w x xs H2 Q
variable {o e : Expr} {es : List Expr} {to : TE} {ta : TA} {apos cpos : Pos}
theorem pe_addT (hu : X.A.units + 65 < cLine) (ho : PE X o to) (ha : PA X (e :: es) ta) (h1 : attributeBase o "add" X.env (eval o X.env) = eval o X.env := by rfl)
    (h2 : ((backTo cpos (starEach (e :: es) X.env)).all (fun x => !x.1) && (backToKw cpos (keywordEach [] X.env)).all (fun x => x.1.isSome) && decide ((e :: es).length + ([] : List Keyword).length + (if ([] : List Keyword).isEmpty then 0 else 1) < 30)) = true := by rfl)
    (h3 : (apos.endLine == cpos.line) = true := by rfl) (h4 : starEach (e :: es) X.env = (false, eval e X.env) :: starEach es X.env := by rfl) (h5 : (backTo cpos (starEach es X.env)).any (·.1) = false := by rfl) :
    PE X (.Call (.Attribute o "add" apos) (e :: es) [] cpos) (tAddT X.K X.prog X.w to ta) := by
  refine ⟨fun pins s σ H Q I h => ?_⟩
  refine wpAny_Call_method_late h1 h2 h3 rfl (thn (ho.run pins s σ H _ I h) fun v s1 ⟨x, H1, I1, r1, ty, q1⟩ => ?_)
  obtain ⟨a, L, rfl, hka⟩ := ty
  obtain ⟨_, _, _, ⟨o1, ho1, hex1, _⟩, _⟩ := (I1.hok a _ hka).1
  cases r1
  refine ⟨"set", "set.add", F.plainAttrs_set, F.slot_set_add, F.type_set_add, ⟨o1, ho1, hex1.1⟩, fun b e => ?_, ?_⟩
  · cases e
    exact ⟨o1, ho1, hex1.2.1⟩
  · have hA := ha.run cpos pins s1 σ H1 _ I1 q1
    rw [h4] at hA ⊢
    refine Calls.callWith_builtin (by show (false || (backTo cpos (starEach es X.env)).any (·.1)) = false; rw [h5]; rfl) (Calls.evalArgs_plain ?_)
    exact thn hA fun us s2 ⟨vs, H2, I2, r2, q2⟩ => mt_addT hu pins s2 σ H2 (.ref a) vs (.ref a) us Q I2 rfl r2 q2
end
end Fd
namespace Fd
/-! ### what one comes to along ties -/
inductive Rch (ts : List Tie) (bar : Option Int) (s : Int) : Int → Prop
  | here : Rch ts bar s s
  | step {p q : Int} : Rch ts bar s p → Adj ts p q → some q ≠ bar → Rch ts bar s q
theorem Rch.inside {m : Nat} {ts : List Tie} {bar : Option Int} {s q : Int} (g : Good m ts) (hs : 0 ≤ s ∧ s < m) (h : Rch ts bar s q) : 0 ≤ q ∧ q < m := by
  induction h with
  | here => exact hs
  | step _ a _ _ =>
    rcases a with a | a
    · have := g.rng _ a
      exact ⟨this.2.2.1, this.2.2.2.1⟩
    · have := g.rng _ a
      exact ⟨this.1, this.2.1⟩
noncomputable def reachL (m : Nat) (ts : List Tie) (bar : Option Int) (s : Int) : List Int := (pts m).filter fun q => @decide (Rch ts bar s q) (Classical.propDecidable _)
theorem mem_reachL {m : Nat} {ts : List Tie} {bar : Option Int} {s q : Int} (g : Good m ts) (hs : 0 ≤ s ∧ s < m) : q ∈ reachL m ts bar s ↔ Rch ts bar s q := by
  unfold reachL
  rw [List.mem_filter, @decide_eq_true_iff _ (Classical.propDecidable _), mem_pts]
  exact ⟨fun h => h.2, fun h => ⟨h.inside g hs, h⟩⟩
theorem reachL_strict (m : Nat) (ts : List Tie) (bar : Option Int) (s : Int) : (reachL m ts bar s).Pairwise (· < ·) := (pts_strict m).filter _
theorem reachL_len (m : Nat) (ts : List Tie) (bar : Option Int) (s : Int) : (reachL m ts bar s).length ≤ m := by
  have h := List.length_filter_le (fun q => @decide (Rch ts bar s q) (Classical.propDecidable _)) (pts m)
  rw [pts_len] at h
  exact h
/-- what is found so far: the first i of it have been looked at -/
structure Fnd (m : Nat) (ts : List Tie) (bar : Option Int) (s : Int) (F : List Int) (i : Nat) : Prop where
  nd : F.Nodup
  rch : ∀ x ∈ F, Rch ts bar s x
  has : s ∈ F
  le : i ≤ F.length
  done : ∀ (j : Nat) (x q : Int), j < i → F[j]? = some x → Adj ts x q → some q ≠ bar → q ∈ F
theorem Fnd.start (m : Nat) (ts : List Tie) (bar : Option Int) (s : Int) : Fnd m ts bar s [s] 0 :=
  ⟨by simp, fun x hx => by rw [List.mem_singleton.mp hx]; exact .here, by simp, Nat.zero_le _, fun j x q h => by omega⟩
theorem Fnd.len {m : Nat} {ts : List Tie} {bar : Option Int} {s : Int} {F : List Int} {i : Nat} (h : Fnd m ts bar s F i) (g : Good m ts) (hs : 0 ≤ s ∧ s < m) : F.length ≤ m := by
  have hp := h.nd.length_le_of_subset (l₂ := pts m) fun x hx => mem_pts.mpr ((h.rch x hx).inside g hs)
  rw [pts_len] at hp
  exact hp
theorem Fnd.sorted {m : Nat} {ts : List Tie} {bar : Option Int} {s : Int} {F ns : List Int} (h : Fnd m ts bar s F F.length) (g : Good m ts) (hs : 0 ≤ s ∧ s < m) (hp : ns.Perm F) (ho : ns.Pairwise (· ≤ ·)) : ns = reachL m ts bar s := by
  have all : ∀ q, Rch ts bar s q → q ∈ F := fun q hq => by
    induction hq with
    | here => exact h.has
    | step _ a b ih =>
      obtain ⟨j, hj⟩ := List.mem_iff_getElem?.mp ih
      exact h.done j _ _ (List.getElem?_eq_some_iff.mp hj).1 hj a b
  refine strict_uniq (lt := fun a b : Int => a < b) (fun a b h => by omega) (strict_of_le ho (hp.nodup_iff.mpr h.nd)) (reachL_strict m ts bar s) fun x => ?_
  rw [hp.mem_iff, mem_reachL g hs]
  exact ⟨h.rch x, all x⟩
/-- within a turn: G is what has come behind F; of the points beside x the first k have been looked at -/
structure FndT (m : Nat) (ts : List Tie) (bar : Option Int) (s : Int) (F : List Int) (x : Int) (G : List Int) (k : Nat) : Prop where
  nd : (F ++ G).Nodup
  rch : ∀ y ∈ F ++ G, Rch ts bar s y
  took : ∀ q ∈ (rowOf m ts x).take k, some q ≠ bar → q ∈ F ++ G
theorem FndT.start {m : Nat} {ts : List Tie} {bar : Option Int} {s : Int} {F : List Int} {i : Nat} {x : Int} (h : Fnd m ts bar s F i) : FndT m ts bar s F x [] 0 :=
  ⟨by rw [List.append_nil]; exact h.nd, by rw [List.append_nil]; exact h.rch, fun q hq => by simp at hq⟩
theorem FndT.skip {m : Nat} {ts : List Tie} {bar : Option Int} {s : Int} {F G : List Int} {x y : Int} {k : Nat} (h : FndT m ts bar s F x G k) (e : (rowOf m ts x)[k]? = some y) (hy : some y = bar ∨ y ∈ F ++ G) : FndT m ts bar s F x G (k + 1) := by
  refine ⟨h.nd, h.rch, fun q hq hb => ?_⟩
  rw [take_next e] at hq
  rcases List.mem_append.mp hq with hq | hq
  · exact h.took q hq hb
  · rw [List.mem_singleton.mp hq] at hb ⊢
    exact hy.elim (fun z => absurd z hb) id
theorem FndT.more {m : Nat} {ts : List Tie} {bar : Option Int} {s : Int} {F G : List Int} {x y : Int} {k : Nat} (g : Good m ts) (h : FndT m ts bar s F x G k) (hx : x ∈ F) (e : (rowOf m ts x)[k]? = some y) (hb : some y ≠ bar) (hy : y ∉ F ++ G) : FndT m ts bar s F x (G ++ [y]) (k + 1) := by
  have a : Adj ts x y := (mem_rowOf g).mp (List.mem_of_getElem? e)
  refine ⟨?_, fun z hz => ?_, fun q hq hb' => ?_⟩
  · rw [← List.append_assoc]
    refine List.nodup_append.mpr ⟨h.nd, by simp, fun u hu v hv z => ?_⟩
    rw [List.mem_singleton.mp hv] at z
    exact hy (z ▸ hu)
  · rw [← List.append_assoc] at hz
    rcases List.mem_append.mp hz with hz | hz
    · exact h.rch z hz
    · rw [List.mem_singleton.mp hz]
      exact .step (h.rch x (List.mem_append_left _ hx)) a hb
  · rw [← List.append_assoc]
    rw [take_next e] at hq
    rcases List.mem_append.mp hq with hq | hq
    · exact List.mem_append_left _ (h.took q hq hb')
    · exact List.mem_append_right _ hq
theorem FndT.next {m : Nat} {ts : List Tie} {bar : Option Int} {s : Int} {F G : List Int} {i : Nat} {x : Int} (g : Good m ts) (h0 : Fnd m ts bar s F i) (ex : F[i]? = some x) (h : FndT m ts bar s F x G (rowOf m ts x).length) : Fnd m ts bar s (F ++ G) (i + 1) := by
  have hi : i < F.length := (List.getElem?_eq_some_iff.mp ex).1
  refine ⟨h.nd, h.rch, List.mem_append_left _ h0.has, by rw [List.length_append]; omega, fun j y q hj ey a hb => ?_⟩
  have hjF : j < F.length := by omega
  rw [List.getElem?_append_left hjF] at ey
  by_cases e : j = i
  · subst e
    cases Option.some.inj (ey.symm.trans ex)
    refine h.took q ?_ hb
    rw [List.take_length]
    exact (mem_rowOf g).mpr a
  · exact List.mem_append_left _ (h0.done j y q (by omega) ey a hb)
end Fd
namespace Fd
open PySem PySem.Spec PyProof.Rows L2
/-! ### rows as they are read -/
structure RdRows (H : Hp) (R : Addr) (as : List Addr) (rss : List (List Int)) : Prop where
  top : H R = some (.lst (as.map V.ref))
  len : as.length = rss.length
  row : ∀ (i : Nat) (a : Addr) (r : List Int), as[i]? = some a → rss[i]? = some r → H a = some (.lst (iL r))
theorem RowsAt.rd {H0 H : Hp} {R : Addr} {as : List Addr} {rss : List (List Int)} (h : RowsAt H0 H R as rss) : RdRows H R as rss := ⟨h.top, h.len, fun i a r e1 e2 => (h.row i a r e1 e2).2⟩
theorem RdRows.same {H H' : Hp} {R : Addr} {as : List Addr} {rss : List (List Int)} (h : RdRows H R as rss) (s : Same H H') : RdRows H' R as rss := ⟨s _ _ h.top, h.len, fun i a r e1 e2 => s _ _ (h.row i a r e1 e2)⟩
theorem RdRows.get {H : Hp} {R : Addr} {as : List Addr} {rss : List (List Int)} (h : RdRows H R as rss) {i : Nat} {r : List Int} (e : rss[i]? = some r) : ∃ a, as[i]? = some a ∧ (as.map V.ref)[i]? = some (.ref a) ∧ H a = some (.lst (iL r)) := by
  have hi : i < as.length := by
    rw [h.len]
    exact (List.getElem?_eq_some_iff.mp e).1
  have ea : as[i]? = some as[i] := List.getElem?_eq_getElem hi
  exact ⟨as[i], ea, by rw [List.getElem?_map, ea]; rfl, h.row i _ r ea e⟩
def barL : Option Int → List Int
  | none => []
  | some b => [b]
/-- what is barred, as it is handed in: a list, or the empty tuple that stands in the def -/
def BarS (K : PySem.W.Frag) (H : Hp) (B : Addr) (bs : List Int) : Prop := H B = some (.lst (iL bs)) ∨ (bs = [] ∧ ∀ H' : Hp, SqT K H' B [])
theorem BarS.seq {K : PySem.W.Frag} {H : Hp} {B : Addr} {bs : List Int} (h : BarS K H B bs) : SqL K H B (iL bs) ∨ SqT K H B (iL bs) := by
  rcases h with h | ⟨rfl, h⟩
  · exact .inl (SqL.of h)
  · exact .inr (h H)
theorem BarS.same {K : PySem.W.Frag} {H H' : Hp} {B : Addr} {bs : List Int} (h : BarS K H B bs) (s : Same H H') : BarS K H' B bs := by
  rcases h with h | h
  · exact .inl (s _ _ h)
  · exact .inr h
def spReached (K : PySem.W.Frag) : Sp := fun vs H Q _ => ∃ (R : Addr) (as : List Addr) (m : Nat) (ts : List Tie) (s : Nat) (bar : Option Int) (B : Addr), vs = [.ref R, .int s, .ref B] ∧ BarS K H B (barL bar) ∧ RdRows H R as (rowsOf m ts) ∧ Good m ts ∧ m ≤ 16 ∧ s < m ∧
  ∀ (H' : Hp) (D : Addr), Same H H' → H D = none → H' D = some (.lst (iL (reachL m ts bar s))) → Q (.ref D) H'
structure FnR (K : PySem.W.Frag) (mg : Str → Option Value) : Prop where
  ex : ∃ (f B0 : Addr) (fd : FuncData), L2.FunD K "reached" "reached" (defArgs sReached) (defBody sReached) (defScope sReached) [.ref B0] [] f fd ∧ mg "reached" = some (.ref f) ∧
    (∃ ds, Vals [.ref B0] ds ∧ Binds K fd ["rows", "start", "barred"] ds) ∧ Binds K fd ["rows", "start", "barred"] [] ∧ ∀ H : Hp, SqT K H B0 []
def muR (m : Nat) (σ : L2.St) : Nat := match σ[4]? with
  | some (some (V.int z)) => ((m : Int) - z).toNat
  | _ => 0
theorem in_bar {y : Int} {bar : Option Int} : y ∈ barL bar ↔ some y = bar := by
  cases bar with
  | none => simp [barL]
  | some b => simp [barL]
section
variable {P : Program} {w : World} {K : PySem.W.Frag} {mg : Str → Option Value} {base : Heap} {C : Addr}
theorem calR_of {N : List Str} {k : Nat} {sp : Sp} (F : FnR K mg) (S : FnScope N ["rows", "start", "barred"] (defScope sReached)) (len : ∀ vs H Q E, sp vs H Q E → vs.length = 3) (hb : Body P w K mg base k "reached" sReached N sp) :
    ∃ B0 : Addr, (∀ H : Hp, SqT K H B0 []) ∧ C8.Cal P w K mg base (k + 1) "reached" sp [.ref B0] ∧ C8.Cal P w K mg base (k + 1) "reached" sp [] := by
  obtain ⟨f, B0, fd, F, hm, ⟨ds, hv, b1⟩, b2, hB⟩ := F.ex
  have G : FnOk P w K mg base C8.CX0 (k + 1) f fd ["rows", "start", "barred"] sp := F.ok S len fun cdv A outer s H vs Q E hr h => by
    obtain ⟨t, h1, h2⟩ := hb f cdv A outer s H vs Q E hr h
    exact ⟨t, h1.nox, h2⟩
  exact ⟨B0, hB, ⟨f, fd, _, ds, G, hm, F.kp, b1, hv⟩, ⟨f, fd, _, [], G, hm, F.kp, b2, .nil⟩⟩
theorem scReached : FnScope ["rows", "start", "barred", "found", "at", "here", "point"] ["rows", "start", "barred"] (defScope sReached) := ⟨rfl, rfl, rfl, by decide +kernel, rfl, by decide +kernel, by decide +kernel⟩
theorem c_reached (T : WTxt K mg C) (F : FnR K mg) : ∃ B0 : Addr, (∀ H : Hp, SqT K H B0 []) ∧ C8.Cal P w K mg base 1 "reached" (spReached K) [.ref B0] ∧ C8.Cal P w K mg base 1 "reached" (spReached K) [] := by
  refine calR_of F scReached (fun vs H Q E h => ?_) (fun f cdv A outer s H vs Q E hr h => ?_)
  · obtain ⟨R, as, m, ts, st, bar, B, rfl, _⟩ := h
    rfl
  · obtain ⟨R, as, m, ts, st, bar, B, rfl, hB, hR, g, m16, hst, k⟩ := h
    refine ⟨_, pss_cons (ps_set (i := 3) scReached.nd rfl (Or.inl rfl) (pe_lst (pa_cons (pv 1) pa_nil)))
      (pss_cons (ps_set (i := 4) scReached.nd rfl (Or.inl rfl) pe_int)
      (pss_cons (ps_while PassesOwn.never (pt_cmpR op_lt (pv 4) (pe_callB call_len_seq (by rfl) T.len PySem.boot_len (pa_cons (pv 3) pa_nil)) (nomark _))
        (pss_cons (ps_set (i := 5) scReached.nd rfl (Or.inl rfl) (pe_ix ix_list (pv 3) (pv 4) (fun _ _ => rfl)))
        (pss_cons (ps_for PassesOwn.never rfl (pi_list (pe_ix ix_list (pv 0) (pv 5) (fun _ _ => rfl))) (pg_name (i := 6) scReached.nd rfl (Or.inl rfl))
          (pss_one (ps_if (PW.pt (pw_and (pt_cmpR op_notIn_seq (pv 6) (pv 2) (by rfl)) (pw_and1 (pt_cmpR op_notIn_seq (pv 6) (pv 3) (by rfl)))))
            (pss_one (ps_expr (pe_bm PySem.F.plainAttrs_list PySem.F.slot_list_append PySem.F.type_list_append mt_append (pv 3) (pa_cons (pv 6) pa_nil)))) pss_nil)))
        (pss_one (ps_aug (i := 4) scReached.nd rfl (.inl rfl) pe_int ip_add)))))
      (pss_one (ps_ret (pe_callB (id := "sorted") (r := rSortedI K) cr_sortedI (by rfl) T.sorted (by decide +kernel) (pa_cons (pv 3) pa_nil)))))), ?_⟩
    have hs : 0 ≤ (st : Int) ∧ (st : Int) < m := by omega
    -- found = [start]; at = 0
    refine ⟨_, rfl, by show 1 ≤ sizeLine; decide, fun D hD => ?_⟩
    refine while_by (fun σ H1 => ∃ (i : Nat) (F : List Int) (v5 v6 : Option V), σ = [some (.ref R), some (.int st), some (.ref B), some (.ref D), some (.int i), v5, v6] ∧ Same H H1 ∧ H1 D = some (.lst (iL F)) ∧ Fnd m ts bar st F i) (fun σ _ => muR m σ)
      ⟨0, [(st : Int)], none, none, rfl, Same.put hD, upd_same, Fnd.start m ts bar st⟩ ?_ ?_
    · rintro σ H1 ⟨i, F, v5, v6, rfl, s1, d1, fn⟩
      refine ⟨_, rfl, _, rfl, D, iL F, rfl, .inl (SqL.of d1), (i : Int), _, rfl, rfl, _, rfl, ?_⟩
      rw [List.length_map]
      have hlen := fn.len g hs
      by_cases hi : i < F.length
      · refine yep_ (decide_eq_true (by omega)) ?_
        have ex : F[i]? = some F[i] := List.getElem?_eq_getElem hi
        generalize F[i] = x at ex
        have xF : x ∈ F := List.mem_of_getElem? ex
        have hx := (fn.rch x xF).inside g hs
        obtain ⟨n, rfl⟩ : ∃ n : Nat, x = n := ⟨x.toNat, by omega⟩
        have hn : n < m := by omega
        have R1 := hR.same s1
        obtain ⟨b, eb, ebr, hb⟩ := R1.get (rowsOf_at (ts := ts) hn)
        have hb0 : H b = some (.lst (iL (rowOf m ts n))) := by
          obtain ⟨b', eb', _, hb'⟩ := hR.get (rowsOf_at (ts := ts) hn)
          cases Option.some.inj (eb.symm.trans eb')
          exact hb'
        -- here = found[at]; for point in rows[here]
        refine ⟨_, rfl, _, rfl, D, iL F, (i : Int), .int n, rfl, rfl, SqL.of d1, atI_nat (iL_get ex), ?_⟩
        refine ⟨_, rfl, _, rfl, R, as.map V.ref, (n : Int), .ref b, rfl, rfl, SqL.of R1.top, atI_nat ebr, b, rfl, ⟨_, SqL.of hb⟩, for_list (K := K) (a := b) (xs := iL (rowOf m ts n))
          (fun q σ H2 => ∃ (G : List Int) (v6 : Option V), σ = [some (.ref R), some (.int st), some (.ref B), some (.ref D), some (.int i), some (.int n), v6] ∧ Same H H2 ∧ H2 D = some (.lst (iL (F ++ G))) ∧ FndT m ts bar st F n G q)
          ⟨[], _, rfl, s1, by rw [List.append_nil]; exact d1, FndT.start fn⟩ (fun q σ H2 _ ⟨_, _, _, s2, _⟩ => SqL.of (s2 _ _ hb0)) ?_ ?_⟩
        · rintro q y σ H2 hq ⟨G, v6, rfl, s2, d2, ft⟩
          obtain ⟨z, ez, rfl⟩ := iL_at hq
          -- if point not in barred and point not in found
          refine ⟨_, rfl, _, rfl, B, iL (barL bar), rfl, (hB.same s2).seq, rfl, flat_ints _, _, rfl, ?_⟩
          have einb := inV_ints (barL bar) z
          by_cases c1 : some z = bar
          · refine no_ (show (!inV (.int z) (iL (barL bar))) = false by rw [einb, decide_eq_true (in_bar.mpr c1)]; rfl) ?_
            refine iteF ?_
            exact ⟨G, _, rfl, s2, d2, ft.skip ez (.inl c1)⟩
          · refine yep_ (show (!inV (.int z) (iL (barL bar))) = true by rw [einb, decide_eq_false (fun h => c1 (in_bar.mp h))]; rfl) ?_
            refine ⟨_, rfl, _, rfl, D, iL (F ++ G), rfl, .inl (SqL.of d2), rfl, flat_ints _, _, rfl, ?_⟩
            have ein := inV_ints (F ++ G) z
            by_cases c2 : z ∈ F ++ G
            · refine no_ (show (!inV (.int z) (iL (F ++ G))) = false by rw [ein, decide_eq_true c2]; rfl) ?_
              exact ⟨G, _, rfl, s2, d2, ft.skip ez (.inr c2)⟩
            · refine yep_ (show (!inV (.int z) (iL (F ++ G))) = true by rw [ein, decide_eq_false c2]; rfl) ?_
              have ft' := ft.more g xF ez c1 c2
              have l : (F ++ G).length ≤ m := by
                have hp := ft.nd.length_le_of_subset (l₂ := pts m) fun x hx => mem_pts.mpr ((ft.rch x hx).inside g hs)
                rw [pts_len] at hp
                exact hp
              refine ⟨_, rfl, .inl ⟨rfl, _, SqL.of d2⟩, _, rfl, D, _, _, rfl, rfl, d2, by rw [List.length_map]; exact small (by omega), ?_⟩
              refine ⟨G ++ [z], _, rfl, Same.write s2 hD, ?_, ft'⟩
              rw [upd_same, ← List.append_assoc]
              unfold iL
              rw [List.map_append (l₁ := F ++ G)]
              rfl
        · rintro σ H2 ⟨G, v6, rfl, s2, d2, ft⟩
          rw [List.length_map] at ft
          refine ⟨_, rfl, (i : Int), 1, rfl, rfl, ⟨i + 1, F ++ G, _, _, rfl, s2, d2, FndT.next g fn ex ft⟩, ?_⟩
          show ((m : Int) - ((i : Int) + 1)).toNat < ((m : Int) - (i : Int)).toNat
          omega
      · refine no_ (decide_eq_false (by omega)) ?_
        have ei : i = F.length := by
          have := fn.le
          omega
        subst ei
        refine ⟨_, rfl, D, F, rfl, SqL.of d1, fun ns p hp ho hn => ?_⟩
        have e := fn.sorted g hs hp ho
        subst e
        exact k _ p (Same.step s1 hn) (s1.free hn) upd_same
    · rintro σ H1 Q1 Q2 hq ⟨v, e1, u, e2, p, ys, e3, h1, i, j, e4, e5, c, e6, q⟩
      exact ⟨v, e1, u, e2, p, ys, e3, h1, i, j, e4, e5, c, e6, hq _ _ q⟩
end
end Fd
namespace Fd
/-! ### labels -/
theorem Rch.mono {ts us : List Tie} {bar : Option Int} {x y : Int} (h : Rch ts bar x y) (hs : ∀ t ∈ ts, t ∈ us) : Rch us bar x y := by
  induction h with
  | here => exact .here
  | step _ a b ih => exact .step ih (a.elim (fun z => .inl (hs _ z)) fun z => .inr (hs _ z)) b
theorem Rch.trans {ts : List Tie} {bar : Option Int} {x y z : Int} (h1 : Rch ts bar x y) (h2 : Rch ts bar y z) : Rch ts bar x z := by
  induction h2 with
  | here => exact h1
  | step _ a b ih => exact .step ih a b
theorem Rch.symm0 {ts : List Tie} {x y : Int} (h : Rch ts none x y) : Rch ts none y x := by
  induction h with
  | here => exact .here
  | step _ a _ ih => exact (Rch.step .here a.symm (by simp)).trans ih
theorem rch_snoc {ts : List Tie} {a b x y : Int} : Rch (ts ++ [(a, b)]) none x y ↔ Rch ts none x y ∨ (Rch ts none x a ∧ Rch ts none b y) ∨ (Rch ts none x b ∧ Rch ts none a y) := by
  constructor
  · intro h
    induction h with
    | here => exact .inl .here
    | @step p q _ c _ ih =>
      have hc : Adj ts p q ∨ (p = a ∧ q = b) ∨ (p = b ∧ q = a) := by
        rcases c with c | c
        · rcases List.mem_append.mp c with c | c
          · exact .inl (.inl c)
          · have := List.mem_singleton.mp c
            exact .inr (.inl ⟨congrArg Prod.fst this, congrArg Prod.snd this⟩)
        · rcases List.mem_append.mp c with c | c
          · exact .inl (.inr c)
          · have := List.mem_singleton.mp c
            exact .inr (.inr ⟨congrArg Prod.snd this, congrArg Prod.fst this⟩)
      rcases hc with hc | ⟨rfl, rfl⟩ | ⟨rfl, rfl⟩
      · have e : Rch ts none p q := .step .here hc (by simp)
        rcases ih with i | ⟨i, j⟩ | ⟨i, j⟩
        · exact .inl (i.trans e)
        · exact .inr (.inl ⟨i, j.trans e⟩)
        · exact .inr (.inr ⟨i, j.trans e⟩)
      · rcases ih with i | ⟨i, j⟩ | ⟨i, j⟩
        · exact .inr (.inl ⟨i, .here⟩)
        · exact .inr (.inl ⟨i, .here⟩)
        · exact .inl i
      · rcases ih with i | ⟨i, j⟩ | ⟨i, j⟩
        · exact .inr (.inr ⟨i, .here⟩)
        · exact .inl i
        · exact .inr (.inr ⟨i, .here⟩)
  · have up : ∀ {u v : Int}, Rch ts none u v → Rch (ts ++ [(a, b)]) none u v := fun h => h.mono fun t ht => List.mem_append_left _ ht
    have ab : Rch (ts ++ [(a, b)]) none a b := .step .here (.inl (by simp)) (by simp)
    rintro (h | ⟨h1, h2⟩ | ⟨h1, h2⟩)
    · exact up h
    · exact (up h1).trans (ab.trans (up h2))
    · exact (up h1).trans (ab.symm0.trans (up h2))
def labStep (f : Int → Int) (t : Tie) (x : Int) : Int := if f x = max (f t.1) (f t.2) then min (f t.1) (f t.2) else f x
def labF (ts : List Tie) : Int → Int := ts.foldl labStep id
theorem labF_snoc (ts : List Tie) (t : Tie) : labF (ts ++ [t]) = labStep (labF ts) t := by
  unfold labF
  rw [List.foldl_append]
  rfl
structure LabOk (m : Nat) (ts : List Tie) (f : Int → Int) : Prop where
  same : ∀ x y : Int, 0 ≤ x → x < m → 0 ≤ y → y < m → (f x = f y ↔ Rch ts none x y)
  own : ∀ x : Int, 0 ≤ x → x < m → Rch ts none x (f x)
  low : ∀ x : Int, f x ≤ x
theorem lab_okE {m : Nat} : ∀ (n : Nat) {ts : List Tie}, ts.length = n → (∀ t ∈ ts, 0 ≤ t.1 ∧ t.1 < m ∧ 0 ≤ t.2 ∧ t.2 < m) → LabOk m ts (labF ts)
  | 0, ts, hn, _ => by
    have e : ts = [] := List.length_eq_zero_iff.mp hn
    subst e
    have only : ∀ x y : Int, Rch [] none x y → x = y := fun x y h => by
      induction h with
      | here => rfl
      | step _ a _ _ => rcases a with a | a <;> cases a
    exact ⟨fun x y _ _ _ _ => ⟨fun h => by have h : x = y := h; rw [h]; exact .here, only x y⟩, fun x _ _ => .here, fun x => Int.le_refl _⟩
  | n + 1, ts, hn, g => by
    obtain ⟨us, t, rfl⟩ : ∃ us t, ts = us ++ [t] := ⟨ts.dropLast, ts.getLast (by intro e; rw [e] at hn; cases hn), (List.dropLast_concat_getLast _).symm⟩
    have hl : us.length = n := by
      rw [List.length_append, List.length_singleton] at hn
      omega
    have gu : ∀ t ∈ us, 0 ≤ t.1 ∧ t.1 < m ∧ 0 ≤ t.2 ∧ t.2 < m := fun u h => g u (List.mem_append_left _ h)
    have ih := lab_okE n hl gu
    rw [labF_snoc]
    obtain ⟨a, b⟩ := t
    obtain ⟨a0, a1, b0, b1⟩ := g (a, b) (by simp)
    have a0 : 0 ≤ a := a0
    have a1 : a < m := a1
    have b0 : 0 ≤ b := b0
    have b1 : b < m := b1
    generalize labF us = f at ih
    have key : ∀ x, labStep f (a, b) x = if f x = max (f a) (f b) then min (f a) (f b) else f x := fun _ => rfl
    have la := ih.low a
    have lb := ih.low b
    refine ⟨fun x y x0 x1 y0 y1 => ?_, fun x x0 x1 => ?_, fun x => ?_⟩
    · rw [rch_snoc, ← ih.same x y x0 x1 y0 y1, ← ih.same x a x0 x1 a0 a1, ← ih.same b y b0 b1 y0 y1, ← ih.same x b x0 x1 b0 b1, ← ih.same a y a0 a1 y0 y1, key, key]
      split <;> split <;> omega
    · rw [rch_snoc, key]
      have ox := ih.own x x0 x1
      have oa := ih.own a a0 a1
      have ob := ih.own b b0 b1
      split
      · rename_i c
        rcases Int.le_total (f a) (f b) with h | h
        · rw [Int.max_eq_right h] at c
          rw [Int.min_eq_left h]
          exact .inr (.inr ⟨(ih.same x b x0 x1 b0 b1).mp c, oa⟩)
        · rw [Int.max_eq_left h] at c
          rw [Int.min_eq_right h]
          exact .inr (.inl ⟨(ih.same x a x0 x1 a0 a1).mp c, ob⟩)
      · exact .inl ox
    · rw [key]
      have lx := ih.low x
      split <;> omega
end Fd
namespace Fd
/-! ### blocks -/
theorem Rch.symmB {ts : List Tie} {b x y : Int} (h : Rch ts (some b) x y) (hx : x ≠ b) : Rch ts (some b) y x ∧ y ≠ b := by
  induction h with
  | here => exact ⟨.here, hx⟩
  | @step p q _ a c ih =>
    refine ⟨?_, fun z => c (by rw [z])⟩
    have one : Rch ts (some b) q p := .step .here a.symm fun z => ih.2 (Option.some.inj z)
    exact one.trans ih.1
noncomputable def ringL (m : Nat) (ts : List Tie) (hub fin : Int) : List Tie := ((rowOf m ts hub).filter fun q => decide (q ∈ reachL m ts (some hub) fin)).map fun q => norm (hub, q)
theorem mem_ringL {m : Nat} {ts : List Tie} (g : Good m ts) {hub fin : Int} (hf : 0 ≤ fin ∧ fin < m) {u : Tie} : u ∈ ringL m ts hub fin ↔ ∃ q, Adj ts hub q ∧ Rch ts (some hub) fin q ∧ u = norm (hub, q) := by
  unfold ringL
  rw [List.mem_map]
  constructor
  · rintro ⟨q, hq, e⟩
    rw [List.mem_filter, decide_eq_true_iff, mem_rowOf g, mem_reachL g hf] at hq
    exact ⟨q, hq.1, hq.2, e.symm⟩
  · rintro ⟨q, h1, h2, e⟩
    refine ⟨q, ?_, e.symm⟩
    rw [List.mem_filter, decide_eq_true_iff, mem_rowOf g, mem_reachL g hf]
    exact ⟨h1, h2⟩
theorem ringL_len (m : Nat) (ts : List Tie) (hub fin : Int) : (ringL m ts hub fin).length ≤ m := by
  unfold ringL
  rw [List.length_map]
  have h1 := List.length_filter_le (fun q => decide (q ∈ reachL m ts (some hub) fin)) (rowOf m ts hub)
  have h2 := rowOf_len m ts hub
  omega
/-- the ties that some ring goes along with t -/
noncomputable def nbT (m : Nat) (ts : List Tie) (t : Tie) : List Tie := ringL m ts t.1 t.2 ++ ringL m ts t.2 t.1
theorem norm_told {m : Nat} {ts : List Tie} (g : Good m ts) {p q : Int} (a : Adj ts p q) : norm (p, q) ∈ toldT m ts := by
  have ne : p ≠ q := by
    rcases a with a | a
    · exact (g.rng _ a).2.2.2.2
    · exact fun e => (g.rng _ a).2.2.2.2 e.symm
  rw [mem_toldT g]
  unfold norm
  rcases Int.lt_or_gt_of_ne ne with h | h
  · rw [Int.min_eq_left (Int.le_of_lt h), Int.max_eq_right (Int.le_of_lt h)]
    exact ⟨h, a⟩
  · rw [Int.min_eq_right (Int.le_of_lt h), Int.max_eq_left (Int.le_of_lt h)]
    exact ⟨h, a.symm⟩
theorem told_rng {m : Nat} {ts : List Tie} (g : Good m ts) {t : Tie} (h : t ∈ toldT m ts) : 0 ≤ t.1 ∧ t.1 < t.2 ∧ t.2 < m ∧ Adj ts t.1 t.2 := by
  obtain ⟨h1, h2⟩ := (mem_toldT g).mp h
  rcases id h2 with a | a
  · have := g.rng _ a
    exact ⟨this.1, h1, this.2.2.2.1, h2⟩
  · have := g.rng _ a
    exact ⟨this.2.2.1, h1, this.2.1, h2⟩
/-- p is an end of t -/
def hasP (t : Tie) (p : Int) : Prop := t.1 = p ∨ t.2 = p
/-- the other end of t -/
def oth (t : Tie) (p : Int) : Int := t.1 + t.2 - p
theorem oth_cases {t : Tie} {p : Int} (h : hasP t p) : (t.1 = p ∧ oth t p = t.2) ∨ (t.2 = p ∧ oth t p = t.1) := by
  unfold oth
  rcases h with h | h
  · left
    omega
  · right
    omega
/-- what nbT says, by a common point -/
theorem mem_nbT {m : Nat} {ts : List Tie} (g : Good m ts) {t u : Tie} (ht : t ∈ toldT m ts) : u ∈ nbT m ts t ↔ u ∈ toldT m ts ∧ ∃ p, hasP t p ∧ hasP u p ∧ Rch ts (some p) (oth t p) (oth u p) := by
  obtain ⟨t0, tlt, tm, ta⟩ := told_rng g ht
  have one : ∀ p f : Int, (0 ≤ f ∧ f < m) → (u ∈ ringL m ts p f ↔ u ∈ toldT m ts ∧ hasP u p ∧ Rch ts (some p) f (oth u p)) := fun p f hf => by
    rw [mem_ringL g hf]
    constructor
    · rintro ⟨q, a, r, rfl⟩
      refine ⟨norm_told g a, ?_⟩
      rcases norm_cases (p, q) with e | e
      · rw [e]
        exact ⟨.inl rfl, by show Rch ts (some p) f (p + q - p); rw [show p + q - p = q by omega]; exact r⟩
      · rw [e]
        exact ⟨.inr rfl, by show Rch ts (some p) f (q + p - p); rw [show q + p - p = q by omega]; exact r⟩
    · rintro ⟨hu, hp, r⟩
      obtain ⟨u0, ult, um, ua⟩ := told_rng g hu
      have nu : norm u = u := by
        unfold norm
        rw [Int.min_eq_left (Int.le_of_lt ult), Int.max_eq_right (Int.le_of_lt ult)]
      rcases oth_cases hp with ⟨e1, e2⟩ | ⟨e1, e2⟩
      · refine ⟨u.2, by rw [← e1]; exact ua, by rw [← e2]; exact r, ?_⟩
        rw [← e1]
        exact nu.symm
      · refine ⟨u.1, by rw [← e1]; exact ua.symm, by rw [← e2]; exact r, ?_⟩
        rw [← e1, ← nu]
        unfold norm
        rw [Int.min_comm, Int.max_comm]
        simp only [Int.min_eq_left (Int.le_of_lt ult), Int.max_eq_right (Int.le_of_lt ult), Int.min_eq_right (Int.le_of_lt ult), Int.max_eq_left (Int.le_of_lt ult)]
  unfold nbT
  rw [List.mem_append, one t.1 t.2 (by omega), one t.2 t.1 (by omega)]
  constructor
  · rintro (⟨h1, h2, h3⟩ | ⟨h1, h2, h3⟩)
    · exact ⟨h1, t.1, .inl rfl, h2, by rw [show oth t t.1 = t.2 by unfold oth; omega]; exact h3⟩
    · exact ⟨h1, t.2, .inr rfl, h2, by rw [show oth t t.2 = t.1 by unfold oth; omega]; exact h3⟩
  · rintro ⟨h1, p, h2, h3, h4⟩
    rcases oth_cases h2 with ⟨e1, e2⟩ | ⟨e1, e2⟩
    · left
      rw [e2] at h4
      rw [e1]
      exact ⟨h1, h3, h4⟩
    · right
      rw [e2] at h4
      rw [e1]
      exact ⟨h1, h3, h4⟩
theorem nbT_symm {m : Nat} {ts : List Tie} (g : Good m ts) {t u : Tie} (ht : t ∈ toldT m ts) (h : u ∈ nbT m ts t) : t ∈ nbT m ts u := by
  obtain ⟨hu, p, h1, h2, h3⟩ := (mem_nbT g ht).mp h
  refine (mem_nbT g hu).mpr ⟨ht, p, h2, h1, (h3.symmB ?_).1⟩
  obtain ⟨_, l, _, _⟩ := told_rng g ht
  rcases oth_cases h1 with ⟨e1, e2⟩ | ⟨e1, e2⟩ <;> omega
/-- in a block with t -/
inductive Blk (m : Nat) (ts : List Tie) (t : Tie) : Tie → Prop
  | here : Blk m ts t t
  | step {u v : Tie} : Blk m ts t u → v ∈ nbT m ts u → Blk m ts t v
theorem Blk.told {m : Nat} {ts : List Tie} (g : Good m ts) {t u : Tie} (ht : t ∈ toldT m ts) (h : Blk m ts t u) : u ∈ toldT m ts := by
  induction h with
  | here => exact ht
  | step _ a ih => exact ((mem_nbT g ih).mp a).1
theorem Blk.trans {m : Nat} {ts : List Tie} {t u v : Tie} (h1 : Blk m ts t u) (h2 : Blk m ts u v) : Blk m ts t v := by
  induction h2 with
  | here => exact h1
  | step _ a ih => exact .step ih a
theorem Blk.symm {m : Nat} {ts : List Tie} (g : Good m ts) {t u : Tie} (ht : t ∈ toldT m ts) (h : Blk m ts t u) : Blk m ts u t := by
  induction h with
  | here => exact .here
  | step k a ih => exact (Blk.step .here (nbT_symm g (k.told g ht) a)).trans ih
noncomputable def blkL (m : Nat) (ts : List Tie) (t : Tie) : List Tie := (toldT m ts).filter fun u => @decide (Blk m ts t u) (Classical.propDecidable _)
theorem mem_blkL {m : Nat} {ts : List Tie} (g : Good m ts) {t u : Tie} (ht : t ∈ toldT m ts) : u ∈ blkL m ts t ↔ Blk m ts t u := by
  unfold blkL
  rw [List.mem_filter, @decide_eq_true_iff _ (Classical.propDecidable _)]
  exact ⟨fun h => h.2, fun h => ⟨h.told g ht, h⟩⟩
theorem blkL_strict {m : Nat} {ts : List Tie} (g : Good m ts) (t : Tie) : (blkL m ts t).Pairwise lexT := (toldT_strict g).filter _
theorem blkL_len {m : Nat} {ts : List Tie} (g : Good m ts) (t : Tie) : (blkL m ts t).length ≤ ts.length := by
  have h := List.length_filter_le (fun u => @decide (Blk m ts t u) (Classical.propDecidable _)) (toldT m ts)
  rw [toldT_len g] at h
  exact h
/-- the first of its block -/
noncomputable def headT (m : Nat) (ts : List Tie) (t : Tie) : Bool := decide ((blkL m ts t)[0]? = some t)
noncomputable def blocksL (m : Nat) (ts : List Tie) : List (List Tie) := ((toldT m ts).filter (headT m ts)).map (blkL m ts)
end Fd
namespace Fd
theorem lex_asym {a b : Tie} (h : lexT a b) : ¬ lexT b a := by
  unfold lexT at h ⊢
  omega
theorem told_lex {m : Nat} {ts : List Tie} (g : Good m ts) {i j : Nat} {t u : Tie} (h : i < j) (hi : (toldT m ts)[i]? = some t) (hj : (toldT m ts)[j]? = some u) : lexT t u := by
  obtain ⟨a1, a2⟩ := List.getElem?_eq_some_iff.mp hi
  obtain ⟨b1, b2⟩ := List.getElem?_eq_some_iff.mp hj
  rw [← a2, ← b2]
  exact (List.pairwise_iff_getElem.mp (toldT_strict g)) i j a1 b1 h
theorem told_inj {m : Nat} {ts : List Tie} (g : Good m ts) {i j : Nat} {t : Tie} (hi : (toldT m ts)[i]? = some t) (hj : (toldT m ts)[j]? = some t) : i = j := by
  rcases Nat.lt_trichotomy i j with h | h | h
  · have := told_lex g h hi hj
    exact absurd this (lex_asym this)
  · exact h
  · have := told_lex g h hj hi
    exact absurd this (lex_asym this)
/-- the first of a block -/
theorem blk_first {m : Nat} {ts : List Tie} (g : Good m ts) {t : Tie} (ht : t ∈ toldT m ts) : ∃ c, (blkL m ts t)[0]? = some c ∧ Blk m ts t c ∧ ∀ u, Blk m ts t u → u = c ∨ lexT c u := by
  have hm := (mem_blkL g ht).mpr .here
  have hs := blkL_strict g t
  have mem := fun u => mem_blkL g (u := u) ht
  cases e : blkL m ts t with
  | nil =>
    rw [e] at hm
    cases hm
  | cons c r =>
    rw [e] at hs mem
    refine ⟨c, rfl, (mem c).mp List.mem_cons_self, fun u hu => ?_⟩
    rcases List.mem_cons.mp ((mem u).mpr hu) with q | q
    · exact .inl q
    · exact .inr ((List.pairwise_cons.mp hs).1 u q)
theorem head_iff {m : Nat} {ts : List Tie} (g : Good m ts) {i : Nat} {t : Tie} (hi : (toldT m ts)[i]? = some t) : headT m ts t = true ↔ ∀ (j : Nat) (u : Tie), j < i → (toldT m ts)[j]? = some u → ¬ Blk m ts u t := by
  have ht := List.mem_of_getElem? hi
  obtain ⟨c, e, hc, hl⟩ := blk_first g ht
  unfold headT
  rw [decide_eq_true_iff, e]
  constructor
  · intro z j u hj hu b
    have ec : c = t := Option.some.inj z
    subst ec
    have lt := told_lex g hj hu hi
    rcases hl u (b.symm g (List.mem_of_getElem? hu)) with q | q
    · rw [q] at lt
      exact lex_asym lt lt
    · exact lex_asym lt q
  · intro z
    rcases hl t .here with q | q
    · rw [q]
    · obtain ⟨j, hj⟩ := List.mem_iff_getElem?.mp (hc.told g ht)
      rcases Nat.lt_trichotomy j i with h | h | h
      · exact absurd (hc.symm g ht) (z j c h hj)
      · subst h
        rw [Option.some.inj (hj.symm.trans hi)]
      · exact absurd (told_lex g h hi hj) (lex_asym q)
/-! ### by labels -/
def tk (m : Nat) (ts : List Tie) (k : Int) : Tie := (toldT m ts).getD k.toNat (0, 0)
theorem tk_at {m : Nat} {ts : List Tie} {k : Nat} (h : k < (toldT m ts).length) : (toldT m ts)[k]? = some (tk m ts k) := by
  unfold tk
  rw [Int.toNat_natCast, List.getD_eq_getElem?_getD, List.getElem?_eq_getElem h]
  rfl
theorem tk_map (m : Nat) (ts : List Tie) : (pts (toldT m ts).length).map (tk m ts) = toldT m ts := by
  refine List.ext_getElem? fun i => ?_
  by_cases h : i < (toldT m ts).length
  · rw [List.getElem?_map, pts_at h, tk_at h]
    rfl
  · rw [List.getElem?_eq_none (by rw [List.length_map, pts_len]; omega), List.getElem?_eq_none (by omega)]
/-- what is merged: of each two ties with a common point whether a going without the point leads from the one to the other -/
structure Edges (m : Nat) (ts : List Tie) (E : List Tie) : Prop where
  rng : ∀ e ∈ E, 0 ≤ e.1 ∧ e.1 < (toldT m ts).length ∧ 0 ≤ e.2 ∧ e.2 < (toldT m ts).length
  iff : ∀ k j : Nat, k < (toldT m ts).length → j < (toldT m ts).length → (((k : Int), (j : Int)) ∈ E ↔ tk m ts j ∈ nbT m ts (tk m ts k))
theorem edge_conn {m : Nat} {ts E : List Tie} (g : Good m ts) (h : Edges m ts E) {k : Nat} (hk : k < (toldT m ts).length) : (∀ j : Int, Rch E none k j → ∃ jn : Nat, j = jn ∧ jn < (toldT m ts).length ∧ Blk m ts (tk m ts k) (tk m ts jn)) ∧
    (∀ u, Blk m ts (tk m ts k) u → ∀ j : Nat, (toldT m ts)[j]? = some u → Rch E none k j) := by
  constructor
  · intro j r
    induction r with
    | here => exact ⟨k, rfl, hk, .here⟩
    | @step p q _ a _ ih =>
      obtain ⟨pn, rfl, hp, b⟩ := ih
      have hpm := List.mem_of_getElem? (tk_at hp)
      rcases a with a | a
      · obtain ⟨_, _, q0, q1⟩ := h.rng _ a
        obtain ⟨qn, rfl⟩ : ∃ qn : Nat, q = qn := ⟨q.toNat, by have : 0 ≤ q := q0; omega⟩
        have hq : qn < (toldT m ts).length := by have : ((qn : Int) < (toldT m ts).length) := q1; omega
        exact ⟨qn, rfl, hq, .step b ((h.iff pn qn hp hq).mp a)⟩
      · obtain ⟨q0, q1, _, _⟩ := h.rng _ a
        obtain ⟨qn, rfl⟩ : ∃ qn : Nat, q = qn := ⟨q.toNat, by have : 0 ≤ q := q0; omega⟩
        have hq : qn < (toldT m ts).length := by have : ((qn : Int) < (toldT m ts).length) := q1; omega
        exact ⟨qn, rfl, hq, .step b (nbT_symm g (List.mem_of_getElem? (tk_at hq)) ((h.iff qn pn hq hp).mp a))⟩
  · intro u b
    induction b with
    | here =>
      intro j hj
      rw [told_inj g hj (tk_at hk)]
      exact .here
    | @step u v b a ih =>
      intro j hj
      have hu := b.told g (List.mem_of_getElem? (tk_at hk))
      obtain ⟨i, hi⟩ := List.mem_iff_getElem?.mp hu
      have hi2 := (List.getElem?_eq_some_iff.mp hi).1
      have hj2 := (List.getElem?_eq_some_iff.mp hj).1
      refine .step (ih i hi) (.inl ((h.iff i j hi2 hj2).mpr ?_)) (by simp)
      rw [← Option.some.inj (hi.symm.trans (tk_at hi2)), ← Option.some.inj (hj.symm.trans (tk_at hj2))]
      exact a
theorem edge_blk {m : Nat} {ts E : List Tie} (g : Good m ts) (h : Edges m ts E) {k j : Nat} (hk : k < (toldT m ts).length) (hj : j < (toldT m ts).length) : labF E k = labF E j ↔ Blk m ts (tk m ts k) (tk m ts j) := by
  have L := lab_okE E.length rfl h.rng
  rw [L.same k j (by omega) (by omega) (by omega) (by omega)]
  obtain ⟨c1, c2⟩ := edge_conn g h hk
  constructor
  · intro r
    obtain ⟨jn, e, _, b⟩ := c1 _ r
    have : j = jn := by omega
    subst this
    exact b
  · exact fun b => c2 _ b j (tk_at hj)
theorem edge_head {m : Nat} {ts E : List Tie} (g : Good m ts) (h : Edges m ts E) {k : Nat} (hk : k < (toldT m ts).length) : headT m ts (tk m ts k) = true ↔ labF E k = k := by
  have L := lab_okE E.length rfl h.rng
  rw [head_iff g (tk_at hk)]
  constructor
  · intro z
    have lo := L.low k
    obtain ⟨jn, e, hj, b⟩ := (edge_conn g h hk).1 _ (L.own k (by omega) (by omega))
    rw [e] at lo ⊢
    rcases Nat.lt_or_ge jn k with c | c
    · exact absurd (b.symm g (List.mem_of_getElem? (tk_at hk))) (z jn _ c (tk_at hj))
    · omega
  · intro z j u hj hu b
    have hj2 := (List.getElem?_eq_some_iff.mp hu).1
    rw [Option.some.inj (hu.symm.trans (tk_at hj2))] at b
    have e := (edge_blk g h hj2 hk).mpr b
    have lo := L.low j
    omega
noncomputable def rowT (m : Nat) (ts E : List Tie) (l : Int) : List Tie := ((pts (toldT m ts).length).filter fun k => decide (labF E k = l)).map (tk m ts)
theorem rowT_eq {m : Nat} {ts E : List Tie} (g : Good m ts) (h : Edges m ts E) {l : Nat} (hl : l < (toldT m ts).length) : (rowT m ts E l ≠ [] ↔ headT m ts (tk m ts l) = true) ∧ (headT m ts (tk m ts l) = true → rowT m ts E l = blkL m ts (tk m ts l)) := by
  have L := lab_okE E.length rfl h.rng
  constructor
  · rw [edge_head g h hl]
    constructor
    · intro z
      obtain ⟨u, hu⟩ := List.exists_mem_of_ne_nil _ z
      obtain ⟨k, hk, _⟩ := List.mem_map.mp hu
      rw [List.mem_filter, decide_eq_true_iff, mem_pts] at hk
      obtain ⟨⟨k0, k1⟩, e⟩ := hk
      have r := L.own k k0 k1
      rw [e] at r
      have q := (L.same k l k0 k1 (by omega) (by omega)).mpr r
      omega
    · intro e z
      have : tk m ts l ∈ rowT m ts E l := List.mem_map.mpr ⟨l, by rw [List.mem_filter, decide_eq_true_iff, mem_pts]; exact ⟨by omega, e⟩, rfl⟩
      rw [z] at this
      cases this
  · intro z
    have e := (edge_head g h hl).mp z
    have q : blkL m ts (tk m ts l) = ((pts (toldT m ts).length).map (tk m ts)).filter fun u => @decide (Blk m ts (tk m ts l) u) (Classical.propDecidable _) := by
      rw [tk_map]
      rfl
    rw [q, List.filter_map]
    unfold rowT
    refine congrArg _ (List.filter_congr fun k hk => ?_)
    obtain ⟨k0, k1⟩ := mem_pts.mp hk
    obtain ⟨kn, rfl⟩ : ∃ kn : Nat, k = kn := ⟨k.toNat, by omega⟩
    rw [Bool.eq_iff_iff, decide_eq_true_iff]
    show _ ↔ @decide _ (Classical.propDecidable _) = true
    rw [@decide_eq_true_iff _ (Classical.propDecidable _), ← edge_blk g h hl (by omega), e]
    exact ⟨fun z => z.symm, fun z => z.symm⟩
theorem due_blocks {m : Nat} {ts E : List Tie} (g : Good m ts) (h : Edges m ts E) : ((pts (toldT m ts).length).map (rowT m ts E)).filter (fun r => decide (r ≠ [])) = blocksL m ts := by
  have go : ∀ l : List Int, (∀ x ∈ l, 0 ≤ x ∧ x < (toldT m ts).length) → (l.map (rowT m ts E)).filter (fun r => decide (r ≠ [])) = ((l.map (tk m ts)).filter (headT m ts)).map (blkL m ts) := fun l hl => by
    induction l with
    | nil => rfl
    | cons x l ih =>
      obtain ⟨x0, x1⟩ := hl x List.mem_cons_self
      have ih := ih fun y hy => hl y (List.mem_cons_of_mem _ hy)
      obtain ⟨xn, rfl⟩ : ∃ xn : Nat, x = xn := ⟨x.toNat, by omega⟩
      obtain ⟨d1, d2⟩ := rowT_eq g h (l := xn) (by omega)
      rw [List.map_cons, List.map_cons]
      by_cases c : headT m ts (tk m ts xn) = true
      · rw [List.filter_cons, List.filter_cons, if_pos (show decide (rowT m ts E xn ≠ []) = true from decide_eq_true (d1.mpr c)), if_pos c, List.map_cons, ih, d2 c]
      · rw [List.filter_cons, List.filter_cons, if_neg (show ¬ decide (rowT m ts E xn ≠ []) = true from fun z => c (d1.mp (of_decide_eq_true z))), if_neg c, ih]
  rw [go _ fun x hx => mem_pts.mp hx, tk_map]
  rfl
end Fd
namespace Fd
open PySem PySem.Spec PyProof.Rows L2
/-! ### going on from what is found -/
structure Gr {α : Type} (R : α → α → Prop) (ok : α → Prop) (s : α) (F : List α) (i : Nat) : Prop where
  nd : F.Nodup
  rch : ∀ x ∈ F, ok x
  has : s ∈ F
  le : i ≤ F.length
  done : ∀ (j : Nat) (x y : α), j < i → F[j]? = some x → R x y → y ∈ F
structure GrT {α : Type} (ok : α → Prop) (F G M : List α) : Prop where
  nd : (F ++ G).Nodup
  rch : ∀ y ∈ F ++ G, ok y
  took : ∀ y ∈ M, y ∈ F ++ G
section
variable {α : Type} {R : α → α → Prop} {ok : α → Prop} {s x y : α} {F G M : List α} {i : Nat}
theorem Gr.start (h : ok s) : Gr R ok s [s] 0 := ⟨by simp, fun x hx => by rw [List.mem_singleton.mp hx]; exact h, by simp, Nat.zero_le _, fun j x y h => by omega⟩
theorem Gr.turn (h : Gr R ok s F i) : GrT ok F [] [] := ⟨by rw [List.append_nil]; exact h.nd, by rw [List.append_nil]; exact h.rch, fun q hq => by cases hq⟩
theorem GrT.skip (h : GrT ok F G M) (hy : y ∈ F ++ G) : GrT ok F G (M ++ [y]) := ⟨h.nd, h.rch, fun q hq => (List.mem_append.mp hq).elim (h.took q) fun z => by rw [List.mem_singleton.mp z]; exact hy⟩
theorem GrT.more (h : GrT ok F G M) (hy : y ∉ F ++ G) (r : ok y) : GrT ok F (G ++ [y]) (M ++ [y]) := by
  refine ⟨?_, fun q hq => ?_, fun q hq => ?_⟩
  · rw [← List.append_assoc]
    refine List.nodup_append.mpr ⟨h.nd, by simp, fun u hu v hv z => ?_⟩
    rw [List.mem_singleton.mp hv] at z
    exact hy (z ▸ hu)
  · rw [← List.append_assoc] at hq
    rcases List.mem_append.mp hq with hq | hq
    · exact h.rch q hq
    · rw [List.mem_singleton.mp hq]
      exact r
  · rw [← List.append_assoc]
    rcases List.mem_append.mp hq with hq | hq
    · exact List.mem_append_left _ (h.took q hq)
    · exact List.mem_append_right _ hq
theorem Gr.next (h0 : Gr R ok s F i) (ex : F[i]? = some x) (h : GrT ok F G M) (all : ∀ y, R x y → y ∈ M) : Gr R ok s (F ++ G) (i + 1) := by
  have hi : i < F.length := (List.getElem?_eq_some_iff.mp ex).1
  refine ⟨h.nd, h.rch, List.mem_append_left _ h0.has, by rw [List.length_append]; omega, fun j u q hj eu a => ?_⟩
  have hjF : j < F.length := by omega
  rw [List.getElem?_append_left hjF] at eu
  by_cases e : j = i
  · subst e
    cases Option.some.inj (eu.symm.trans ex)
    exact h.took q (all q a)
  · exact List.mem_append_left _ (h0.done j u q (by omega) eu a)
theorem Gr.closed (h : Gr R ok s F F.length) {u v : α} (hu : u ∈ F) (r : R u v) : v ∈ F := by
  obtain ⟨j, hj⟩ := List.mem_iff_getElem?.mp hu
  exact h.done j u v (List.getElem?_eq_some_iff.mp hj).1 hj r
end
theorem paired_perm {α β : Type} {F : α → β → Prop} {ys xs : List α} (h : ys.Perm xs) : ∀ {us : List β}, Paired F xs us → ∃ vs, Paired F ys vs ∧ vs.Perm us := by
  induction h with
  | nil => exact fun p => ⟨_, p, List.Perm.refl _⟩
  | cons x _ ih =>
    intro us p
    cases p with
    | cons r t =>
      obtain ⟨vs, p1, p2⟩ := ih t
      exact ⟨_, .cons r p1, p2.cons _⟩
  | swap x y l =>
    intro us p
    cases p with
    | cons r t =>
      cases t with
      | cons r2 t2 => exact ⟨_, .cons r2 (.cons r t2), List.Perm.swap _ _ _⟩
  | trans _ _ ih1 ih2 =>
    intro us p
    obtain ⟨vs, p1, p2⟩ := ih2 p
    obtain ⟨zs, p3, p4⟩ := ih1 p1
    exact ⟨zs, p3, p4.trans p2⟩
theorem tupI_pair {K : PySem.W.Frag} {H : Hp} {x : V} {t : Tie} (h : PairAt H x t) : TupI K H x [t.1, t.2] := by
  obtain ⟨a, e, k⟩ := h
  exact ⟨a, e, SqT.of k⟩
theorem paired_pw {α β : Type} {F : α → β → Prop} {A : α → α → Prop} {B : β → β → Prop} (ab : ∀ x y u v, F x u → F y v → A x y → B u v) : ∀ {xs : List α} {us : List β}, Paired F xs us → xs.Pairwise A → us.Pairwise B
  | _, _, .nil, _ => .nil
  | _, _, .cons r t, h => by
    obtain ⟨h1, h2⟩ := List.pairwise_cons.mp h
    refine List.pairwise_cons.mpr ⟨fun v hv => ?_, paired_pw ab t h2⟩
    obtain ⟨j, hj⟩ := List.mem_iff_getElem?.mp hv
    obtain ⟨y, hy, ry⟩ := paired_get' t hj
    exact ab _ _ _ _ r ry (h1 y (List.mem_of_getElem? hy))
/-- sorted pairs -/
theorem sort_pairs {K : PySem.W.Frag} {H : Hp} {xs ys : List V} {us : List Tie} (p : PairsAt H xs us) (perm : ys.Perm xs) (srt : ys.Pairwise (fun x y => ∀ n m, TupI K H x n → TupI K H y m → TS.code 64 n ≤ TS.code 64 m)) (nd : us.Nodup) (b : ∀ t ∈ us, 0 ≤ t.1 ∧ t.1 < 64 ∧ 0 ≤ t.2 ∧ t.2 < 64) :
    ∃ vs, PairsAt H ys vs ∧ vs.Perm us ∧ vs.Pairwise lexT := by
  obtain ⟨vs, p1, p2⟩ := paired_perm perm p
  refine ⟨vs, p1, p2, ?_⟩
  have h1 : vs.Pairwise fun t u => TS.code 64 [t.1, t.2] ≤ TS.code 64 [u.1, u.2] := paired_pw (fun x y u v hx hy h => h _ _ (tupI_pair hx) (tupI_pair hy)) p1 srt
  have h2 : vs.Nodup := p2.nodup_iff.mpr nd
  refine List.Pairwise.imp_of_mem (fun {t u} ht hu h => ?_) (h1.and h2)
  obtain ⟨a1, a2, a3, a4⟩ := b t (p2.mem_iff.mp ht)
  obtain ⟨b1, b2, b3, b4⟩ := b u (p2.mem_iff.mp hu)
  refine pair_lt h.1 (fun e => h.2 ?_) ⟨a1, a2⟩ ⟨a3, a4⟩ ⟨b1, b2⟩ ⟨b3, b4⟩
  injection e with e1 e2
  injection e2 with e2 _
  exact Prod.ext e1 e2
end Fd
namespace Fd
open PySem PySem.Spec PyProof.Rows L2
def rMin2 : List V → Hp → VK → Prop := fun xs H Q => ∃ i j, xs = [.int i, .int j] ∧ Q (.int (if j < i then j else i)) H
def rMax2 : List V → Hp → VK → Prop := fun xs H Q => ∃ i j, xs = [.int i, .int j] ∧ Q (.int (if j > i then j else i)) H
theorem min_eq (i j : Int) : (if j < i then j else i) = min i j := by split <;> omega
theorem max_eq (i j : Int) : (if j > i then j else i) = max i j := by split <;> omega
structure BTxt (K : PySem.W.Frag) (mg : Str → Option Value) (C : Addr) : Prop where
  min : mg "min" = none
  max : mg "max" = none
  set : mg "set" = none
  fR : FnR K mg
  fRinged : Fn K mg "_ringed" sRinged ["rows", "hub", "end"]
  fBlock : Fn K mg "_block" sBlock ["rows", "first"]
  fBlocks : Fn K mg "blocks" sBlocks ["web"]
def spRinged (K : PySem.W.Frag) : Sp := fun vs H Q _ => ∃ (R : Addr) (as : List Addr) (m : Nat) (ts : List Tie) (hub fin : Nat), vs = [.ref R, .int hub, .int fin] ∧ RdRows H R as (rowsOf m ts) ∧ Good m ts ∧ m ≤ 16 ∧ hub < m ∧ fin < m ∧
  ∀ (H' : Hp) (D : Addr) (ws : List V), Same H H' → H D = none → H' D = some (.lst ws) → PairsAt H' ws (ringL m ts hub fin) → Q (.ref D) H'
section
variable {P : Program} {w : World} {K : PySem.W.Frag} {mg : Str → Option Value} {base : Heap} {C : Addr}
abbrev nRinged : List Str := ["rows", "hub", "end", "near", "point"]
theorem scRinged : FnScope ["rows", "hub", "end", "near", "point"] ["rows", "hub", "end"] (defScope sRinged) := ⟨rfl, rfl, rfl, by decide +kernel, rfl, by decide +kernel, by decide +kernel⟩
theorem c_ringed (T : WTxt K mg C) (B : BTxt K mg C) : C8.Cal P w K mg base 2 "_ringed" (spRinged K) [] := by
  refine cal_of B.fRinged scRinged (fun vs H Q E h => ?_) (fun f cdv A outer s H vs Q E hr h => ?_)
  · obtain ⟨R, as, m, ts, hub, fin, rfl, _⟩ := h
    rfl
  · obtain ⟨R, as, m, ts, hub, fin, rfl, hR, g, m16, hh, hf, k⟩ := h
    obtain ⟨B0, hB0, _, cR⟩ := c_reached (P := P) (w := w) (base := base) T B.fR
    refine ⟨_, pss_cons (ps_set (i := 3) scRinged.nd rfl (Or.inr rfl) (C8.pe_c cR hr (by decide) (by rfl) (pa_cons (pv 0) (pa_cons (pv 2) (pa_cons (pe_lst (pa_cons (pv 1) pa_nil)) pa_nil)))))
      (pss_one (ps_ret (pe_lc (own := [("point", 4)]) (g := gName 4) (tt := tTest (tOp (rIn K false) (tVar 4) (tVar 3))) (te := tTup (tCons (tCB rMin2 (tCons (tVar 1) (tCons (tVar 4) tNil))) (tCons (tCB rMax2 (tCons (tVar 1) (tCons (tVar 4) tNil))) tNil)))
        (by rfl) scRinged.nd (pi_list (pe_ix ix_list (pv 0) (pv 1) (fun _ _ => rfl)))
        (blkOk_by (own := [("point", 4)]) (N := nRinged) (sc := defScope sRinged) (by decide +kernel)) (fun _ _ _ _ _ => pg_name (i := 4) scRinged.nd rfl (Or.inl rfl))
        (fun _ _ _ _ _ => pts_one (pt_cmpR op_in_seq (pv 4) (pv 3) (by rfl)))
        (fun _ _ _ _ _ => pe_tup (pa_cons (pe_callB (id := "min") (r := rMin2) (call_min2 rfl) (by rfl) B.min (by decide +kernel) (pa_cons (pv 1) (pa_cons (pv 4) pa_nil))) (pa_cons (pe_callB (id := "max") (r := rMax2) (call_max2 rfl) (by rfl) B.max (by decide +kernel) (pa_cons (pv 1) (pa_cons (pv 4) pa_nil))) pa_nil)))))), ?_⟩
    refine ⟨_, rfl, _, rfl, _, rfl, by show 1 ≤ sizeLine; decide, fun B1 hB1 => ?_⟩
    refine ⟨R, as, m, ts, fin, some (hub : Int), B1, rfl, .inl upd_same, hR.same (Same.put hB1), g, m16, hf, fun H1 D1 s1 hD1 d1 => ?_⟩
    replace s1 := (Same.put hB1).trans s1
    have R1 := hR.same s1
    obtain ⟨b, eb, ebr, hb⟩ := R1.get (rowsOf_at (ts := ts) hh)
    refine ⟨_, rfl, _, rfl, R, as.map V.ref, (hub : Int), .ref b, rfl, rfl, SqL.of R1.top, atI_nat ebr, b, rfl, ⟨_, SqL.of hb⟩, fun D hD => ?_⟩
    have tak : ∀ (i : Nat) (q : Int), (rowOf m ts hub)[i]? = some q → ((rowOf m ts hub).take (i + 1)).filter (fun q => decide (q ∈ reachL m ts (some (hub : Int)) fin)) = ((rowOf m ts hub).take i).filter (fun q => decide (q ∈ reachL m ts (some (hub : Int)) fin)) ++ (if q ∈ reachL m ts (some (hub : Int)) fin then [q] else []) := fun i q e => by
      rw [take_next e, List.filter_append]
      by_cases c : q ∈ reachL m ts (some (hub : Int)) fin
      · rw [if_pos c]
        simp [c]
      · rw [if_neg c]
        simp [c]
    refine lc_list (K := K) (a := b) (xs := iL (rowOf m ts hub)) (fun i H2 => Same H1 H2 ∧ ∃ ws, H2 D = some (.lst ws) ∧ PairsAt H2 ws ((((rowOf m ts hub).take i).filter fun q => decide (q ∈ reachL m ts (some (hub : Int)) fin)).map fun q => norm ((hub : Int), q)))
      ⟨Same.put hD, [], upd_same, .nil⟩ (fun i H2 _ ⟨s2, _⟩ => SqL.of (s2 _ _ hb)) (fun i x H2 hi ⟨s2, ws, d2, p2⟩ => ?_) (fun H2 ⟨s2, ws, d2, p2⟩ => ?_)
    · obtain ⟨z, ez, rfl⟩ := iL_at hi
      refine ⟨rfl, ?_⟩
      refine ⟨_, rfl, _, rfl, D1, iL (reachL m ts (some (hub : Int)) fin), rfl, .inl (SqL.of (s2 _ _ d1)), rfl, flat_ints _, _, rfl, ?_⟩
      have ein := inV_ints (reachL m ts (some (hub : Int)) fin) z
      rw [tak i z ez]
      by_cases c : z ∈ reachL m ts (some (hub : Int)) fin
      · refine yep_ (show inV (.int z) (iL (reachL m ts (some (hub : Int)) fin)) = true by rw [ein, decide_eq_true c]) ?_
        refine ⟨_, rfl, _, rfl, _, _, rfl, _, rfl, _, rfl, _, _, rfl, by show 2 ≤ sizeLine; decide, fun t ht => ?_⟩
        rw [min_eq, max_eq, if_pos c]
        have l2 := p2.length
        have lr := rowOf_len m ts hub
        have lf := List.length_filter_le (fun q => decide (q ∈ reachL m ts (some (hub : Int)) fin)) ((rowOf m ts hub).take i)
        rw [List.length_map] at l2
        rw [List.length_take] at lf
        refine ⟨ws, (Same.put ht) _ _ d2, small (by omega), Same.write (Same.step s2 ht) hD, ws ++ [.ref t], upd_same, ?_⟩
        rw [List.map_append]
        exact PairsAt.more d2 p2 ht
      · refine no_ (show inV (.int z) (iL (reachL m ts (some (hub : Int)) fin)) = false by rw [ein, decide_eq_false c]) ?_
        rw [if_neg c, List.append_nil]
        exact ⟨s2, ws, d2, p2⟩
    · have e : (rowOf m ts hub).take (iL (rowOf m ts hub)).length = rowOf m ts hub := by
        rw [List.length_map]
        exact List.take_length
      rw [e] at p2
      exact k H2 D ws (s1.trans s2) (s1.free hD) d2 p2
end
end Fd
namespace Fd
open PySem PySem.Spec PyProof.Rows L2
theorem PairsAt.over {H : Hp} {D : Addr} {xs ys ws : List V} {ts : List Tie} (hD : H D = some (.lst xs)) (h : PairsAt H ws ts) : PairsAt (upd H D (.lst ys)) ws ts :=
  Paired.mono (fun v u ⟨a, e, k⟩ => ⟨a, e, by rw [upd_ne (ne_of k hD (by intro z; cases z))]; exact k⟩) h
theorem paired_app {α β : Type} {F : α → β → Prop} {ys : List α} {vs : List β} : ∀ {xs : List α} {us : List β}, Paired F xs us → Paired F ys vs → Paired F (xs ++ ys) (us ++ vs)
  | _, _, .nil, h => h
  | _, _, .cons a b, h => .cons a (paired_app b h)
def muT (n : Nat) (σ : L2.St) : Nat := match σ[3]? with
  | some (some (V.int z)) => ((n : Int) - z).toNat
  | _ => 0
abbrev stepB (m : Nat) (ts : List Tie) : Tie → Tie → Prop := fun x y => y ∈ nbT m ts x
theorem gr_len {m : Nat} {ts : List Tie} {t : Tie} {F : List Tie} (g : Good m ts) (ht : t ∈ toldT m ts) (nd : F.Nodup) (rch : ∀ x ∈ F, Blk m ts t x) : F.length ≤ ts.length := by
  have h := nd.length_le_of_subset (l₂ := toldT m ts) fun x hx => (rch x hx).told g ht
  rw [toldT_len g] at h
  exact h
def spBlock (K : PySem.W.Frag) : Sp := fun vs H Q _ => ∃ (R : Addr) (as : List Addr) (m : Nat) (ts : List Tie) (x : V) (t : Tie), vs = [.ref R, x] ∧ RdRows H R as (rowsOf m ts) ∧ Good m ts ∧ m ≤ 16 ∧ ts.length ≤ 40 ∧ PairAt H x t ∧ t ∈ toldT m ts ∧
  ∀ (H' : Hp) (D : Addr) (ws : List V), Same H H' → H D = none → H' D = some (.lst ws) → PairsAt H' ws (blkL m ts t) → Q (.ref D) H'
section
variable {P : Program} {w : World} {K : PySem.W.Frag} {mg : Str → Option Value} {base : Heap} {C : Addr}
theorem scBlock : FnScope ["rows", "first", "block", "at", "low", "high", "tie"] ["rows", "first"] (defScope sBlock) := ⟨rfl, rfl, rfl, by decide +kernel, rfl, by decide +kernel, by decide +kernel⟩
theorem c_block (T : WTxt K mg C) (B : BTxt K mg C) : C8.Cal P w K mg base 3 "_block" (spBlock K) [] := by
  refine cal_of B.fBlock scBlock (fun vs H Q E h => ?_) (fun f cdv A outer s H vs Q E hr h => ?_)
  · obtain ⟨R, as, m, ts, x, t, rfl, _⟩ := h
    rfl
  · obtain ⟨R, as, m, ts, x0, t, rfl, hR, g, m16, tl, hx0, ht, k⟩ := h
    refine ⟨_, pss_cons (ps_set (i := 2) scBlock.nd rfl (Or.inl rfl) (pe_lst (pa_cons (pv 1) pa_nil)))
      (pss_cons (ps_set (i := 3) scBlock.nd rfl (Or.inl rfl) pe_int)
      (pss_cons (ps_while PassesOwn.never (pt_cmpR op_lt (pv 3) (pe_callB call_len_seq (by rfl) T.len PySem.boot_len (pa_cons (pv 2) pa_nil)) (nomark _))
        (pss_cons (ps_asg (pe_ix ix_list (pv 2) (pv 3) (fun _ _ => rfl)) (pg_tup (by rfl) (pgs_cons (pg_name (i := 4) scBlock.nd rfl (.inl rfl)) (pgs_cons (pg_name (i := 5) scBlock.nd rfl (.inl rfl)) pgs_nil))))
        (pss_cons (ps_for PassesOwn.never rfl (pi_list (pe_op op_cat (C8.pe_c (c_ringed T B) hr (by decide) (by rfl) (pa_cons (pv 0) (pa_cons (pv 4) (pa_cons (pv 5) pa_nil)))) (C8.pe_c (c_ringed T B) hr (by decide) (by rfl) (pa_cons (pv 0) (pa_cons (pv 5) (pa_cons (pv 4) pa_nil)))))) (pg_name (i := 6) scBlock.nd rfl (Or.inl rfl))
          (pss_one (ps_if (pt_cmpR (op_notInD (hu65 hr)) (pv 6) (pv 2) (by rfl))
            (pss_one (ps_expr (pe_bm PySem.F.plainAttrs_list PySem.F.slot_list_append PySem.F.type_list_append mt_append (pv 2) (pa_cons (pv 6) pa_nil)))) pss_nil)))
        (pss_one (ps_aug (i := 3) scBlock.nd rfl (.inl rfl) pe_int ip_add)))))
      (pss_one (ps_ret (pe_callB (id := "sorted") (r := rSortU K 2 64) (cr_sortT (by decide)) (by rfl) T.sorted (by decide +kernel) (pa_cons (pv 2) pa_nil)))))), ?_⟩
    refine ⟨_, rfl, by show 1 ≤ sizeLine; decide, fun D hD => ?_⟩
    refine while_by (fun σ H1 => ∃ (i : Nat) (F : List Tie) (ws : List V) (v4 v5 v6 : Option V), σ = [some (.ref R), some x0, some (.ref D), some (.int i), v4, v5, v6] ∧ Same H H1 ∧ H1 D = some (.lst ws) ∧ PairsAt H1 ws F ∧ Gr (stepB m ts) (Blk m ts t) t F i) (fun σ _ => muT ts.length σ)
      ⟨0, [t], [x0], none, none, none, rfl, Same.put hD, upd_same, .cons (PairAt.same (Same.put hD) hx0) .nil, Gr.start .here⟩ ?_ ?_
    · rintro σ H1 ⟨i, F, ws, v4, v5, v6, rfl, s1, d1, p1, fn⟩
      refine ⟨_, rfl, _, rfl, D, ws, rfl, .inl (SqL.of d1), (i : Int), _, rfl, rfl, _, rfl, ?_⟩
      have hlen := gr_len g ht fn.nd fn.rch
      have wl := p1.length
      by_cases hi : i < F.length
      · refine yep_ (decide_eq_true (by omega)) ?_
        have ex : F[i]? = some F[i] := List.getElem?_eq_getElem hi
        generalize F[i] = u at ex
        obtain ⟨v, ev, ⟨b, rfl, hb⟩⟩ := paired_get' p1 ex
        have uF : u ∈ F := List.mem_of_getElem? ex
        have hu := (fn.rch u uF).told g ht
        have ru := told_rng g hu
        obtain ⟨p, q⟩ := u
        obtain ⟨r1, r2, r3, _⟩ := ru
        obtain ⟨p, rfl⟩ : ∃ n : Nat, p = n := ⟨p.toNat, by have : 0 ≤ p := r1; omega⟩
        obtain ⟨q, rfl⟩ : ∃ n : Nat, q = n := ⟨q.toNat, by have : 0 ≤ (p : Int) := r1; have : (p : Int) < q := r2; omega⟩
        have hq : q < m := by have : (q : Int) < m := r3; omega
        have hp : p < m := by have : (p : Int) < q := r2; omega
        have R1 := hR.same s1
        refine ⟨_, rfl, _, rfl, D, ws, (i : Int), .ref b, rfl, rfl, SqL.of d1, atI_nat ev, b, [.int p, .int q], rfl, SqT.of hb, rfl, _, _, rfl, _, _, rfl, rfl, ?_⟩
        refine ⟨_, rfl, _, rfl, _, rfl, R, as, m, ts, p, q, rfl, R1, g, m16, hp, hq, fun H2 D2 ws2 s2 hD2 d2 p2 => ?_⟩
        refine ⟨_, rfl, _, rfl, _, rfl, R, as, m, ts, q, p, rfl, R1.same s2, g, m16, hq, hp, fun H3 D3 ws3 s3 hD3 d3 p3 => ?_⟩
        have l2 := p2.length
        have l3 := p3.length
        have b2 := ringL_len m ts p q
        have b3 := ringL_len m ts q p
        refine ⟨D2, D3, ws2, ws3, rfl, rfl, s3 _ _ d2, d3, smalle (by omega), fun D4 hD4 => ?_⟩
        have s34 : Same H3 (upd H3 D4 (.lst (ws2 ++ ws3))) := Same.put hD4
        have d4 : (upd H3 D4 (.lst (ws2 ++ ws3))) D4 = some (.lst (ws2 ++ ws3)) := upd_same
        have s14 := s2.trans (s3.trans s34)
        have p4 : PairsAt (upd H3 D4 (.lst (ws2 ++ ws3))) (ws2 ++ ws3) (nbT m ts ((p : Int), (q : Int))) := paired_app (PairsAt.same (s3.trans s34) p2) (PairsAt.same s34 p3)
        have nD : D4 ≠ D := fun e => by
          have := s2.trans s3 _ _ d1
          rw [← e, hD4] at this
          cases this
        generalize upd H3 D4 (.lst (ws2 ++ ws3)) = H4 at s14 d4 p4 ⊢
        generalize ws2 ++ ws3 = ws4 at d4 p4 ⊢
        refine ⟨D4, rfl, ⟨_, SqL.of d4⟩, for_list (K := K) (a := D4) (xs := ws4)
          (fun n σ H5 => ∃ (G : List Tie) (zs : List V) (v6 : Option V), σ = [some (.ref R), some x0, some (.ref D), some (.int i), some (.int p), some (.int q), v6] ∧ Same H H5 ∧ H5 D = some (.lst zs) ∧ PairsAt H5 zs (F ++ G) ∧ H5 D4 = some (.lst ws4) ∧ PairsAt H5 ws4 (nbT m ts ((p : Int), (q : Int))) ∧
            GrT (Blk m ts t) F G ((nbT m ts ((p : Int), (q : Int))).take n))
          ⟨[], ws, v6, rfl, s1.trans s14, s14 _ _ d1, by rw [List.append_nil]; exact p1.same s14, d4, p4, fn.turn⟩ (fun n σ H5 _ ⟨_, _, _, _, _, _, _, d, _⟩ => SqL.of d) ?_ ?_⟩
        · rintro n y σ H5 hn ⟨G, zs, v6, rfl, s5, d5, p5, e5, n5, ft⟩
          obtain ⟨z, ez, pz⟩ := paired_get n5 hn
          refine ⟨_, rfl, _, rfl, prd z, (F ++ G).map prd, dp_pair pz, dp_pairs (SqL.of d5) p5, prd_shaped _, prds_shaped _, _, rfl, ?_⟩
          rw [prds_any]
          by_cases c2 : z ∈ F ++ G
          · refine no_ (by rw [decide_eq_true c2]; rfl) ?_
            refine ⟨G, zs, _, rfl, s5, d5, p5, e5, n5, ?_⟩
            rw [take_next ez]
            exact ft.skip c2
          · refine yep_ (by rw [decide_eq_false c2]; rfl) ?_
            have okz : Blk m ts t z := .step (fn.rch _ uF) (List.mem_of_getElem? ez)
            have ll := gr_len g ht ft.nd ft.rch
            have l5 := p5.length
            refine ⟨_, rfl, .inl ⟨rfl, _, SqL.of d5⟩, _, rfl, D, _, _, rfl, rfl, d5, small (by omega), ?_⟩
            refine ⟨G ++ [z], zs ++ [y], _, rfl, Same.write s5 hD, upd_same, ?_, by rw [upd_ne nD]; exact e5, PairsAt.over d5 n5, ?_⟩
            · rw [← List.append_assoc]
              exact Paired.snoc (PairsAt.over d5 p5) (by
                obtain ⟨c, ec, hc⟩ := pz
                exact ⟨c, ec, by rw [upd_ne (ne_of hc d5 (by intro z; cases z))]; exact hc⟩)
            · rw [take_next ez]
              exact ft.more c2 okz
        · rintro σ H5 ⟨G, zs, v6, rfl, s5, d5, p5, e5, n5, ft⟩
          have l4 := p4.length
          rw [List.take_of_length_le (by omega)] at ft
          refine ⟨_, rfl, (i : Int), 1, rfl, rfl, ⟨i + 1, F ++ G, zs, _, _, _, rfl, s5, d5, p5, fn.next ex ft fun y hy => hy⟩, ?_⟩
          show ((ts.length : Int) - ((i : Int) + 1)).toNat < ((ts.length : Int) - (i : Int)).toNat
          omega
      · refine no_ (decide_eq_false (by omega)) ?_
        have ei : i = F.length := by
          have := fn.le
          omega
        subst ei
        have rg : ∀ u ∈ F, 0 ≤ u.1 ∧ u.1 < 64 ∧ 0 ≤ u.2 ∧ u.2 < 64 := fun u hu => by
          obtain ⟨r1, r2, r3, _⟩ := told_rng g ((fn.rch u hu).told g ht)
          omega
        refine ⟨_, rfl, D, ws, rfl, SqL.of d1, by omega, fun x hx => ?_, fun ys p perm srt hp => ?_⟩
        · obtain ⟨j, hj⟩ := List.mem_iff_getElem?.mp hx
          obtain ⟨u, eu, pu⟩ := paired_get p1 hj
          obtain ⟨r1, r2, r3, r4⟩ := rg u (List.mem_of_getElem? eu)
          refine ⟨_, tupI_pair pu, rfl, fun n hn => ?_⟩
          rcases List.mem_cons.mp hn with rfl | hn
          · exact ⟨r1, r2⟩
          · rw [List.mem_singleton.mp hn]
            exact ⟨r3, r4⟩
        · obtain ⟨vs, pv, pm, ps⟩ := sort_pairs p1 perm srt fn.nd rg
          have all : ∀ u, Blk m ts t u → u ∈ F := fun u hu => by
            induction hu with
            | here => exact fn.has
            | step _ a ih => exact fn.closed ih a
          have e : vs = blkL m ts t := strict_uniq (lt := lexT) (fun a b => lex_asym) ps (blkL_strict g t) fun u => by
            rw [pm.mem_iff, mem_blkL g ht]
            exact ⟨fn.rch u, all u⟩
          subst e
          exact k _ p ys (Same.step s1 hp) (s1.free hp) upd_same (PairsAt.same (Same.put hp) pv)
    · rintro σ H1 Q1 Q2 hq ⟨v, e1, u, e2, p, ys, e3, h1, i, j, e4, e5, c, e6, q⟩
      exact ⟨v, e1, u, e2, p, ys, e3, h1, i, j, e4, e5, c, e6, hq _ _ q⟩
end
end Fd
namespace Fd
open PySem PySem.Spec PyProof.Rows L2
def kOfB (t : Tie) : List Int := [t.1, t.2]
theorem kOfB_inj {t u : Tie} (h : kOfB t = kOfB u) : t = u := by
  injection h with e1 e2
  injection e2 with e2 _
  exact Prod.ext e1 e2
/-- a list of lists of ties, all the lists new behind H0 -/
structure FoundAt (H0 H : Hp) (D : Addr) (as : List Addr) (bss : List (List Tie)) : Prop where
  top : H D = some (.lst (as.map V.ref))
  new : H0 D = none
  out : D ∉ as
  row : Paired (fun a bs => H0 a = none ∧ ∃ ws, H a = some (.lst ws) ∧ PairsAt H ws bs) as bss
/-- an object that is no list and no tuple is written -/
def NoSeqAt (H : Hp) (S : Addr) : Prop := ∃ o, H S = some o ∧ (∀ xs, o ≠ .lst xs) ∧ ∀ xs, o ≠ .tup xs
theorem NoSeqAt.lst {H : Hp} {S D : Addr} {xs : List V} {o : HO} (h : NoSeqAt H S) (d : H D = some (.lst xs)) : (upd H S o) D = some (.lst xs) := by
  obtain ⟨q, h1, h2, _⟩ := h
  rw [upd_ne (fun e => by subst e; exact h2 xs (Option.some.inj (h1.symm.trans d)))]
  exact d
theorem NoSeqAt.tup {H : Hp} {S D : Addr} {xs : List V} {o : HO} (h : NoSeqAt H S) (d : H D = some (.tup xs)) : (upd H S o) D = some (.tup xs) := by
  obtain ⟨q, h1, _, h2⟩ := h
  rw [upd_ne (fun e => by subst e; exact h2 xs (Option.some.inj (h1.symm.trans d)))]
  exact d
theorem NoSeqAt.pairs {H : Hp} {S : Addr} {o : HO} {ws : List V} {ts : List Tie} (h : NoSeqAt H S) (p : PairsAt H ws ts) : PairsAt (upd H S o) ws ts := Paired.mono (fun _ _ ⟨a, e, k⟩ => ⟨a, e, h.tup k⟩) p
theorem NoSeqAt.found {H0 H : Hp} {S D : Addr} {o : HO} {as : List Addr} {bss : List (List Tie)} (h : NoSeqAt H S) (f : FoundAt H0 H D as bss) : FoundAt H0 (upd H S o) D as bss :=
  ⟨h.lst f.top, f.new, f.out, Paired.mono (fun _ _ ⟨n, ws, d, p⟩ => ⟨n, ws, h.lst d, h.pairs p⟩) f.row⟩
theorem noSeq_set {P : Program} {w : World} {H : Hp} {S : Addr} {L : List (Addr × List Int)} (h : H S = some (SetTO P w S L)) : NoSeqAt H S := ⟨_, h, fun xs z => HO.noConfusion (show HO.ext _ = HO.lst xs from z), fun xs z => HO.noConfusion (show HO.ext _ = HO.tup xs from z)⟩
theorem FoundAt.same {H0 H H' : Hp} {D : Addr} {as : List Addr} {bss : List (List Tie)} (f : FoundAt H0 H D as bss) (s : Same H H') : FoundAt H0 H' D as bss :=
  ⟨s _ _ f.top, f.new, f.out, Paired.mono (fun _ _ ⟨n, ws, d, p⟩ => ⟨n, ws, s _ _ d, PairsAt.same s p⟩) f.row⟩
theorem FoundAt.more {H0 H : Hp} {D q : Addr} {as : List Addr} {bss : List (List Tie)} {ws : List V} {bs : List Tie} (f : FoundAt H0 H D as bss) (ne : q ≠ D) (hq : H0 q = none) (d : H q = some (.lst ws)) (p : PairsAt H ws bs) : FoundAt H0 (upd H D (.lst (as.map V.ref ++ [.ref q]))) D (as ++ [q]) (bss ++ [bs]) := by
  have row : ∀ {a : Addr} {cs : List Tie}, a ≠ D → (H0 a = none ∧ ∃ ws, H a = some (.lst ws) ∧ PairsAt H ws cs) → H0 a = none ∧ ∃ ws, (upd H D (.lst (as.map V.ref ++ [.ref q]))) a = some (.lst ws) ∧ PairsAt (upd H D (.lst (as.map V.ref ++ [.ref q]))) ws cs := fun n ⟨h, ws, d, p⟩ =>
    ⟨h, ws, by rw [upd_ne n]; exact d, PairsAt.over f.top p⟩
  refine ⟨by rw [upd_same, List.map_append]; rfl, f.new, fun hm => ?_, Paired.snoc ?_ (row ne ⟨hq, ws, d, p⟩)⟩
  · rcases List.mem_append.mp hm with z | z
    · exact f.out z
    · exact ne (List.mem_singleton.mp z).symm
  · have go : ∀ {xs : List Addr} {ys : List (List Tie)}, Paired (fun a bs => H0 a = none ∧ ∃ ws, H a = some (.lst ws) ∧ PairsAt H ws bs) xs ys → D ∉ xs → Paired (fun a bs => H0 a = none ∧ ∃ ws, (upd H D (.lst (as.map V.ref ++ [.ref q]))) a = some (.lst ws) ∧ PairsAt (upd H D (.lst (as.map V.ref ++ [.ref q]))) ws bs) xs ys := fun h => by
      induction h with
      | nil => exact fun _ => .nil
      | cons r t ih => exact fun n => .cons (row (fun e => n (e ▸ List.mem_cons_self)) r) (ih fun z => n (List.mem_cons_of_mem _ z))
    exact go f.row f.out
/-- a set of ties, by its items -/
structure PlacedAt (P : Program) (w : World) (H : Hp) (S : Addr) (L : List (Addr × List Int)) (U : List Tie) : Prop where
  at_ : H S = some (SetTO P w S L)
  tups : ∀ p ∈ L, H p.1 = some (.tup (p.2.map V.int))
  perm : (L.map (·.2)).Perm (U.map kOfB)
  nd : U.Nodup
theorem PlacedAt.mem {P : Program} {w : World} {H : Hp} {S : Addr} {L : List (Addr × List Int)} {U : List Tie} (h : PlacedAt P w H S L U) {t : Tie} : kOfB t ∈ L.map (·.2) ↔ t ∈ U := by
  rw [h.perm.mem_iff]
  constructor
  · intro z
    obtain ⟨u, hu, e⟩ := List.mem_map.mp z
    exact kOfB_inj e ▸ hu
  · exact fun z => List.mem_map.mpr ⟨t, z, rfl⟩
theorem PlacedAt.len {P : Program} {w : World} {H : Hp} {S : Addr} {L : List (Addr × List Int)} {U : List Tie} (h : PlacedAt P w H S L U) : L.length = U.length := by
  have := h.perm.length_eq
  rw [List.length_map, List.length_map] at this
  exact this
theorem PlacedAt.same {P : Program} {w : World} {H H' : Hp} {S : Addr} {L : List (Addr × List Int)} {U : List Tie} (h : PlacedAt P w H S L U) (s : Same H H') : PlacedAt P w H' S L U := ⟨s _ _ h.at_, fun p hp => s _ _ (h.tups p hp), h.perm, h.nd⟩
theorem PlacedAt.over {P : Program} {w : World} {H : Hp} {S D : Addr} {L : List (Addr × List Int)} {U : List Tie} {xs ys : List V} (h : PlacedAt P w H S L U) (d : H D = some (.lst xs)) : PlacedAt P w (upd H D (.lst ys)) S L U := by
  refine ⟨?_, fun p hp => ?_, h.perm, h.nd⟩
  · rw [upd_ne (fun e => by subst e; exact HO.noConfusion (show HO.ext _ = HO.lst xs from Option.some.inj (h.at_.symm.trans d)))]
    exact h.at_
  · rw [upd_ne (ne_of (h.tups p hp) d (by intro z; cases z))]
    exact h.tups p hp
theorem PlacedAt.add {P : Program} {w : World} {H : Hp} {S c : Addr} {L L' : List (Addr × List Int)} {U : List Tie} {u : Tie} (h : PlacedAt P w H S L U) (hc : H c = some (.tup [.int u.1, .int u.2])) (c1 : kOfB u ∈ L.map (·.2) → L' = L) (c2 : kOfB u ∉ L.map (·.2) → L'.Perm ((c, kOfB u) :: L)) :
    ∃ U', PlacedAt P w (upd H S (SetTO P w S L')) S L' U' ∧ ∀ v, v ∈ U' ↔ v ∈ U ∨ v = u := by
  have ns := noSeq_set h.at_
  by_cases m : kOfB u ∈ L.map (·.2)
  · rw [c1 m]
    exact ⟨U, ⟨upd_same, fun p hp => ns.tup (h.tups p hp), h.perm, h.nd⟩, fun v => ⟨.inl, fun z => z.elim id fun e => e ▸ h.mem.mp m⟩⟩
  · have pm := c2 m
    refine ⟨u :: U, ⟨upd_same, fun p hp => ?_, (pm.map _).trans (h.perm.cons _), List.nodup_cons.mpr ⟨fun z => m (h.mem.mpr z), h.nd⟩⟩, fun v => ?_⟩
    · rcases List.mem_cons.mp (pm.mem_iff.mp hp) with e | z
      · rw [e]
        exact ns.tup hc
      · exact ns.tup (h.tups p z)
    · rw [List.mem_cons]
      exact ⟨fun z => z.elim .inr .inl, fun z => z.elim .inr .inl⟩
theorem PlacedAt.tupsAt {P : Program} {w : World} {K : PySem.W.Frag} {H : Hp} {S : Addr} {L : List (Addr × List Int)} {U : List Tie} (h : PlacedAt P w H S L U) : TupsTo K H L := fun p hp => SqT.of (h.tups p hp)
end Fd
namespace Fd
open PySem PySem.Spec PyProof.Rows L2
def spBlocks (C : Addr) : Sp := fun vs H Q _ => ∃ (H0 : Hp) (p : Addr) (m : Nat) (ts : List Tie), vs = [.ref p] ∧ WebAt C H0 H p m ts ∧ Good m ts ∧ m ≤ 16 ∧ ts.length ≤ 40 ∧
  ∀ (H' : Hp) (D : Addr) (as : List Addr), Same H H' → FoundAt H H' D as (blocksL m ts) → Q (.ref D) H'
theorem seen_len {m : Nat} {ts U : List Tie} (g : Good m ts) (nd : U.Nodup) (h : ∀ u ∈ U, u ∈ toldT m ts) : U.length ≤ ts.length := by
  have := nd.length_le_of_subset (l₂ := toldT m ts) h
  rw [toldT_len g] at this
  exact this
structure Web4 (K : PySem.W.Frag) (C : Addr) : Prop where
  fC : FnM K C "_check_point" "Web._check_point" sWebCheckPoint ["self", "thing"]
  fB : FnM K C "beside" "Web.beside" sWebBeside ["self", "point"]
  fT : FnM K C "ties" "Web.ties" sWebTies ["self"]
section
variable {P : Program} {w : World} {K : PySem.W.Frag} {mg : Str → Option Value} {base : Heap} {C : Addr}
abbrev nBlocks : List Str := ["web", "rows", "found", "placed", "tie", "block", "each", "point"]
theorem scBlocks : FnScope ["web", "rows", "found", "placed", "tie", "block", "each", "point"] ["web"] (defScope sBlocks) := ⟨rfl, rfl, rfl, by decide +kernel, rfl, by decide +kernel, by decide +kernel⟩
theorem c_blocks (T : WTxt K mg C) (B : BTxt K mg C) (W4 : Web4 K C) : C8.Cal P w K mg base 5 "blocks" (spBlocks C) [] := by
  refine cal_of B.fBlocks scBlocks (fun vs H Q E h => ?_) (fun f cdv A outer s H vs Q E hr h => ?_)
  · obtain ⟨H0, p, m, ts, rfl, _⟩ := h
    rfl
  · obtain ⟨H0, p, m, ts, rfl, W, g, m16, tl, k⟩ := h
    obtain ⟨p0, dx, Rw, aw, hp, _⟩ := id W
    refine ⟨_, pss_cons (ps_setLc (i := 1) (own := [("point", 7)]) (g := gName 7) (tt := tYes) (te := tMeth C "beside" (spBeside C) [] C8.E0 (tVar 0) (tCons (tVar 7) tNil))
        (by rfl) scBlocks.nd rfl rfl (sw_true rfl rfl rfl (by decide +kernel)) (pi_range1 (by rfl) T.range (pa_cons (pe_fld (pv 0) rfl) pa_nil))
        (blkOk_by (own := [("point", 7)]) (N := nBlocks) (sc := defScope sBlocks) (by decide +kernel)) (fun _ _ _ _ _ => pg_name (i := 7) scBlocks.nd rfl (Or.inl rfl)) (fun _ _ _ _ _ => pts_nil)
        (fun _ _ _ _ _ => C8.pe_mt (c_beside T W4.fC W4.fB) hr (by decide) (pv 0) (pa_cons (pv 7) pa_nil)))
      (pss_cons (ps_set (i := 2) scBlocks.nd rfl (Or.inl rfl) (pe_lst pa_nil))
      (pss_cons (ps_set (i := 3) scBlocks.nd rfl (Or.inl rfl) (pe_callTy0 cr_newT (by rfl) B.set (by decide +kernel)))
      (pss_cons (ps_for PassesOwn.never rfl (pi_list (C8.pe_mt0 (c_ties T W4.fT) hr (by decide) (pv 0))) (pg_name (i := 4) scBlocks.nd rfl (Or.inl rfl))
        (pss_one (ps_if (pt_cmpR (op_notInT (hu65 hr)) (pv 4) (pv 3) (by rfl))
          (pss_cons (ps_set (i := 5) scBlocks.nd rfl (Or.inl rfl) (C8.pe_c (c_block T B) hr (by decide) (by rfl) (pa_cons (pv 1) (pa_cons (pv 4) pa_nil))))
          (pss_cons (ps_expr (pe_bm PySem.F.plainAttrs_list PySem.F.slot_list_append PySem.F.type_list_append mt_append (pv 2) (pa_cons (pv 5) pa_nil)))
          (pss_one (ps_for PassesOwn.never rfl (pi_list (pv 5)) (pg_name (i := 6) scBlocks.nd rfl (Or.inl rfl))
            (pss_one (ps_expr (pe_addT (hu65 hr) (pv 3) (pa_cons (pv 6) pa_nil)))))))) pss_nil)))
      (pss_one (ps_ret (pv 2)))))), ?_⟩
    -- rows = [web.beside(point) for point in range(web.many)]
    refine ⟨_, rfl, p, C, dx, _, _, rfl, hp, T.cl, T.nMany, wF_many _ _, (m : Int), rfl, by omega, by omega, fun R hR => ?_⟩
    refine lc_range (lo := 0) (n := (m : Int).toNat) (fun i H1 => Same H H1 ∧ ∃ bs, RowsAt H H1 R bs ((pts i).map (rowOf m ts))) ⟨Same.put hR, [], RowsAt.start hR⟩ (fun i H1 hi ⟨s1, bs, r1⟩ => ?_) (fun H1 ⟨s1, bs, r1⟩ => ?_)
    · rw [Int.toNat_natCast] at hi
      rw [Int.zero_add]
      refine ⟨rfl, ?_⟩
      refine yes_ ?_
      refine iteT ?_
      refine ⟨_, rfl, p, dx, _, rfl, s1 _ _ hp, wF_no _ _ (by decide +kernel) (by decide +kernel), _, rfl, H0, p, m, ts, i, rfl, W.same s1, hi, fun D hD => ?_⟩
      have RD : R ≠ D := ne_of_none r1.top hD
      refine ⟨bs.map V.ref, by rw [upd_ne RD]; exact r1.top, ?_, ?_⟩
      · rw [List.length_map, r1.len, List.length_map, pts_len]
        exact small (by omega)
      · refine ⟨Same.write (Same.step s1 hD) hR, bs ++ [D], ?_⟩
        rw [pts_succ, List.map_append]
        exact r1.more s1 hD
    · rw [Int.toNat_natCast] at r1
      have r1 : RowsAt H H1 R bs (rowsOf m ts) := r1
      -- found = []; placed = set()
      refine ⟨Nat.zero_le _, fun Fa hFa => ?_⟩
      have s2 := Same.put (o := .lst []) hFa
      have f2 : (upd H1 Fa (.lst [])) Fa = some (.lst []) := upd_same
      generalize upd H1 Fa (.lst []) = H2 at s2 f2 ⊢
      refine ⟨rfl, fun S hS => ?_⟩
      have nFS : Fa ≠ S := ne_of_none f2 hS
      have S1 : H1 S = none := s2.free hS
      have s3 : Same H2 (upd H2 S (SetTO P w S [])) := Same.put hS
      have pl : PlacedAt P w (upd H2 S (SetTO P w S [])) S [] [] := ⟨upd_same, fun p hp => (by cases hp), List.Perm.refl _, List.nodup_nil⟩
      have f3 := s3 _ _ f2
      have s13 := s2.trans s3
      -- for tie in web.ties()
      refine ⟨_, rfl, p, dx, _, rfl, s13 _ _ (s1 _ _ hp), wF_no _ _ (by decide +kernel) (by decide +kernel), H0, p, m, ts, rfl, W.same (s1.trans s13), g, m16, fun H4 D4 ws4 s34 hD4 d4 p4 => ?_⟩
      have nDF : D4 ≠ Fa := fun e => by
        have z := hD4
        rw [e] at z
        exact absurd (f3.symm.trans z) (fun q => by cases q)
      refine ⟨D4, rfl, ⟨_, SqL.of d4⟩, for_list (K := K) (a := D4) (xs := ws4)
        (fun n σ H5 => ∃ (as : List Addr) (L : List (Addr × List Int)) (U : List Tie) (v4 v5 v6 : Option V), σ = [some (.ref p), some (.ref R), some (.ref Fa), some (.ref S), v4, v5, v6, none] ∧ Same H1 H5 ∧ H5 D4 = some (.lst ws4) ∧ PairsAt H5 ws4 (toldT m ts) ∧
          FoundAt H H5 Fa as ((((toldT m ts).take n).filter (headT m ts)).map (blkL m ts)) ∧ PlacedAt P w H5 S L U ∧ ∀ u, u ∈ U ↔ ∃ (j : Nat) (v : Tie), j < n ∧ (toldT m ts)[j]? = some v ∧ Blk m ts v u)
        ⟨[], [], [], none, none, none, rfl, s13.trans s34, d4, p4, ⟨s34 _ _ f3, s1.free hFa, by simp, .nil⟩, pl.same s34, fun u => ⟨fun z => (by cases z), fun ⟨j, _, z, _⟩ => absurd z (Nat.not_lt_zero _)⟩⟩ (fun n σ H5 _ ⟨_, _, _, _, _, _, _, _, d, _⟩ => SqL.of d) ?_ ?_⟩
      · rintro n x σ H5 hn ⟨as, L, U, v4, v5, v6, rfl, s5, e5, n5, f5, pl5, hU⟩
        obtain ⟨t, et, ⟨b, rfl, hb⟩⟩ := paired_get n5 hn
        have ht := List.mem_of_getElem? et
        refine ⟨_, rfl, _, rfl, b, S, kOfB t, L, rfl, rfl, SqT.of hb, pl5.at_, pl5.tupsAt, _, rfl, ?_⟩
        have hd := head_iff g et
        rw [take_next et]
        by_cases c : t ∈ U
        · refine no_ (by rw [decide_eq_true (pl5.mem.mpr c)]; rfl) ?_
          obtain ⟨j, v, j1, j2, j3⟩ := (hU t).mp c
          have hf : headT m ts t = false := Bool.eq_false_iff.mpr fun z => hd.mp z j v j1 j2 j3
          refine ⟨as, L, U, _, _, _, rfl, s5, e5, n5, ?_, pl5, fun u => ?_⟩
          · rw [List.filter_append, show ([t].filter (headT m ts)) = [] by simp [hf], List.append_nil]
            exact f5
          · rw [hU u]
            constructor
            · rintro ⟨i, y, i1, i2, i3⟩
              exact ⟨i, y, by omega, i2, i3⟩
            · rintro ⟨i, y, i1, i2, i3⟩
              rcases Nat.lt_or_ge i n with z | z
              · exact ⟨i, y, z, i2, i3⟩
              · have ei : i = n := by omega
                subst ei
                cases Option.some.inj (i2.symm.trans et)
                exact ⟨j, v, j1, j2, j3.trans i3⟩
        · refine yep_ (by rw [decide_eq_false (fun z => c (pl5.mem.mp z))]; rfl) ?_
          have hf : headT m ts t = true := hd.mpr fun j v j1 j2 j3 => c ((hU t).mpr ⟨j, v, j1, j2, j3⟩)
          -- block = _block(rows, tie)
          refine ⟨_, rfl, _, rfl, R, bs, m, ts, .ref b, t, rfl, r1.rd.same s5, g, m16, tl, ⟨b, rfl, hb⟩, ht, fun H6 D6 ws6 s56 hD6 d6 p6 => ?_⟩
          have f6 := f5.same s56
          have pl6 := pl5.same s56
          have e6 := s56 _ _ e5
          have n6 := PairsAt.same s56 n5
          have n6F : D6 ≠ Fa := fun e => by
            rw [e, f5.top] at hD6
            cases hD6
          have H6n : H D6 = none := (s1.trans s5).free hD6
          have s6 := s5.trans s56
          have al := f6.row.length
          have al2 : ((((toldT m ts).take n).filter (headT m ts)).map (blkL m ts)).length ≤ 40 := by
            rw [List.length_map]
            have h1 := List.length_filter_le (headT m ts) ((toldT m ts).take n)
            rw [List.length_take] at h1
            have h2 := toldT_len g
            omega
          -- found.append(block)
          refine ⟨_, rfl, .inl ⟨rfl, _, SqL.of f6.top⟩, _, rfl, Fa, _, _, rfl, rfl, f6.top, by rw [List.length_map]; exact small (by omega), ?_⟩
          have f7 := f6.more n6F H6n d6 p6
          have pl7 := pl6.over (ys := as.map V.ref ++ [.ref D6]) f6.top
          have d7 : (upd H6 Fa (.lst (as.map V.ref ++ [.ref D6]))) D6 = some (.lst ws6) := by rw [upd_ne n6F]; exact d6
          have p7 := PairsAt.over (ys := as.map V.ref ++ [.ref D6]) f6.top p6
          have e7 : (upd H6 Fa (.lst (as.map V.ref ++ [.ref D6]))) D4 = some (.lst ws4) := by rw [upd_ne nDF]; exact e6
          have n7 := PairsAt.over (ys := as.map V.ref ++ [.ref D6]) f6.top n6
          have s7 : Same H1 (upd H6 Fa (.lst (as.map V.ref ++ [.ref D6]))) := Same.write s6 hFa
          generalize upd H6 Fa (.lst (as.map V.ref ++ [.ref D6])) = H7 at f7 pl7 d7 p7 e7 n7 s7 ⊢
          -- for each in block: placed.add(each)
          refine ⟨_, rfl, D6, rfl, ⟨_, SqL.of d7⟩, for_list (K := K) (a := D6) (xs := ws6)
            (fun q σ H8 => ∃ (L2 : List (Addr × List Int)) (U2 : List Tie) (v6 : Option V), σ = [some (.ref p), some (.ref R), some (.ref Fa), some (.ref S), some (.ref b), some (.ref D6), v6, none] ∧ Same H1 H8 ∧ H8 D4 = some (.lst ws4) ∧ PairsAt H8 ws4 (toldT m ts) ∧
              FoundAt H H8 Fa (as ++ [D6]) ((((toldT m ts).take n).filter (headT m ts)).map (blkL m ts) ++ [blkL m ts t]) ∧ PlacedAt P w H8 S L2 U2 ∧ H8 D6 = some (.lst ws6) ∧ PairsAt H8 ws6 (blkL m ts t) ∧ ∀ u, u ∈ U2 ↔ u ∈ U ∨ u ∈ (blkL m ts t).take q)
            ⟨L, U, _, rfl, s7, e7, n7, f7, pl7, d7, p7, fun u => ⟨.inl, fun z => z.elim id fun z => (by simp at z)⟩⟩ (fun q σ H8 _ ⟨_, _, _, _, _, _, _, _, _, d, _⟩ => SqL.of d) ?_ ?_⟩
          · rintro q y σ H8 hq ⟨L2, U2, v6, rfl, s8, e8, n8, f8, pl8, d8, p8, hU2⟩
            obtain ⟨u, eu, ⟨c2, rfl, hc2⟩⟩ := paired_get p8 hq
            have um := List.mem_of_getElem? eu
            have sub : ∀ v ∈ U2, v ∈ toldT m ts := fun v hv => by
              rcases (hU2 v).mp hv with z | z
              · obtain ⟨j, y, _, j2, j3⟩ := (hU v).mp z
                exact j3.told g (List.mem_of_getElem? j2)
              · exact ((mem_blkL g ht).mp (List.mem_of_mem_take z)).told g ht
            have ll := seen_len g pl8.nd sub
            have l2 := pl8.len
            refine ⟨_, rfl, ⟨S, L2, rfl, pl8.at_⟩, _, rfl, S, c2, kOfB u, L2, rfl, rfl, SqT.of hc2, pl8.at_, pl8.tupsAt, by omega, fun L' k1 k2 => ?_⟩
            obtain ⟨U', pl9, hU'⟩ := pl8.add hc2 k1 k2
            have ns := noSeq_set pl8.at_
            refine ⟨L', U', _, rfl, Same.write s8 S1, ns.lst e8, ns.pairs n8, ns.found f8, pl9, ns.lst d8, ns.pairs p8, fun v => ?_⟩
            rw [hU' v, hU2 v, take_next eu, List.mem_append, List.mem_singleton, or_assoc]
          · rintro σ H8 ⟨L2, U2, v6, rfl, s8, e8, n8, f8, pl8, d8, p8, hU2⟩
            have l6 := p8.length
            rw [List.take_of_length_le (by omega)] at hU2
            refine ⟨as ++ [D6], L2, U2, _, _, _, rfl, s8, e8, n8, ?_, pl8, fun u => ?_⟩
            · rw [List.filter_append, show ([t].filter (headT m ts)) = [t] by simp [hf], List.map_append]
              exact f8
            · rw [hU2 u, hU u, mem_blkL g ht]
              constructor
              · rintro (⟨i, y, i1, i2, i3⟩ | z)
                · exact ⟨i, y, by omega, i2, i3⟩
                · exact ⟨n, t, by omega, et, z⟩
              · rintro ⟨i, y, i1, i2, i3⟩
                rcases Nat.lt_or_ge i n with z | z
                · exact .inl ⟨i, y, z, i2, i3⟩
                · have ei : i = n := by omega
                  subst ei
                  cases Option.some.inj (i2.symm.trans et)
                  exact .inr i3
      · rintro σ H5 ⟨as, L, U, v4, v5, v6, rfl, s5, e5, n5, f5, pl5, hU⟩
        have l4 := p4.length
        rw [List.take_of_length_le (by omega)] at f5
        exact ⟨_, rfl, k H5 Fa as (s1.trans s5) f5⟩
end
end Fd
namespace Fd
/-! ### in a block: going avoiding a point stays within the block -/
inductive SPth (ts : List Tie) (b q : Int) : Int → List Int → Prop
  | one : q ≠ b → SPth ts b q q [q]
  | more {y z : Int} {l : List Int} : SPth ts b q y l → Adj ts y z → z ≠ b → z ∉ l → SPth ts b q z (z :: l)
theorem SPth.has {ts : List Tie} {b q y : Int} {l : List Int} (h : SPth ts b q y l) : y ∈ l := by
  cases h <;> simp
theorem SPth.off {ts : List Tie} {b q y : Int} {l : List Int} (h : SPth ts b q y l) : b ∉ l := by
  induction h with
  | one h => exact fun z => h (List.mem_singleton.mp z).symm
  | more _ _ c _ ih => exact fun z => (List.mem_cons.mp z).elim (fun z => c z.symm) ih
theorem SPth.cut {ts : List Tie} {b q y : Int} {l : List Int} (h : SPth ts b q y l) {z : Int} (hz : z ∈ l) : ∃ l', SPth ts b q z l' := by
  induction h with
  | one h => exact ⟨[q], by rw [List.mem_singleton.mp hz]; exact .one h⟩
  | more k a c n ih =>
    rcases List.mem_cons.mp hz with rfl | w
    · exact ⟨_, .more k a c n⟩
    · exact ih w
theorem SPth.of {ts : List Tie} {b q x : Int} (hq : q ≠ b) (h : Rch ts (some b) q x) : ∃ l, SPth ts b q x l := by
  induction h with
  | here => exact ⟨_, .one hq⟩
  | @step y z _ a c ih =>
    obtain ⟨l, hl⟩ := ih
    by_cases m : z ∈ l
    · exact hl.cut m
    · exact ⟨_, .more hl a (fun e => c (by rw [e])) m⟩
theorem SPth.rch {ts : List Tie} {b q y : Int} {l : List Int} (h : SPth ts b q y l) {w : Int} (hw : w ∉ l) : Rch ts (some w) q y := by
  induction h with
  | one _ => exact .here
  | more k a _ _ ih => exact .step (ih fun z => hw (List.mem_cons_of_mem _ z)) a fun e => hw (by rw [← Option.some.inj e]; exact List.mem_cons_self)
theorem oth_norm {p q : Int} : oth (norm (p, q)) p = q ∧ oth (norm (p, q)) q = p ∧ hasP (norm (p, q)) p ∧ hasP (norm (p, q)) q := by
  unfold oth hasP
  rcases norm_cases (p, q) with e | e <;> rw [e] <;> simp <;> omega
theorem blk_adj {m : Nat} {ts : List Tie} (g : Good m ts) {t : Tie} (ht : t ∈ toldT m ts) {y z : Int} (h : Blk m ts t (norm (y, z))) : Adj (blkL m ts t) y z := by
  have := (mem_blkL g ht).mpr h
  rcases norm_cases (y, z) with e | e <;> rw [e] at this
  · exact .inl this
  · exact .inr this
theorem adj_ne {m : Nat} {ts : List Tie} (g : Good m ts) {p q : Int} (a : Adj ts p q) : p ≠ q := by
  rcases a with a | a
  · exact (g.rng _ a).2.2.2.2
  · exact fun e => (g.rng _ a).2.2.2.2 e.symm
theorem norm_comm (p q : Int) : norm (p, q) = norm (q, p) := by
  unfold norm
  exact Prod.ext (Int.min_comm _ _) (Int.max_comm _ _)
theorem norm_of {a b : Int} (h : a < b) : norm (a, b) = (a, b) := by
  unfold norm
  exact Prod.ext (Int.min_eq_left (Int.le_of_lt h)) (Int.max_eq_right (Int.le_of_lt h))
theorem ring_in {m : Nat} {ts : List Tie} (g : Good m ts) {t : Tie} (ht : t ∈ toldT m ts) {p q : Int} (apq : Adj ts p q) (hb : Blk m ts t (norm (p, q))) : ∀ {y : Int} {l : List Int}, SPth ts p q y l → (∀ w ∈ l, w ≠ y → Rch ts (some w) y p) →
    Rch (blkL m ts t) (some p) q y ∧ ∃ u, Blk m ts t u ∧ hasP u y ∧ Rch ts (some y) (oth u y) p := by
  intro y l h
  have pq : p ≠ q := adj_ne g apq
  induction h with
  | one _ =>
    intro _
    refine ⟨.here, norm (p, q), hb, oth_norm.2.2.2, ?_⟩
    rw [oth_norm.2.1]
    exact .here
  | @more y z l k a c n ih =>
    intro ret
    have yl := k.has
    have yz : y ≠ z := fun e => n (e ▸ yl)
    obtain ⟨r1, u, hu, up, ur⟩ := ih fun w hw wy => by
      have wz : z ≠ w := fun e => n (e ▸ hw)
      have r := ret w (List.mem_cons_of_mem _ hw) fun e => wz e.symm
      exact (Rch.step .here a fun e => wz (Option.some.inj e)).trans r
    have rz := ret y (List.mem_cons_of_mem _ yl) yz
    have pz := (rz.symmB fun e => yz e.symm).1
    have step : Blk m ts t (norm (y, z)) := .step hu ((mem_nbT g (hu.told g ht)).mpr ⟨norm_told g a, y, up, oth_norm.2.2.1, by rw [oth_norm.1]; exact ur.trans pz⟩)
    refine ⟨.step r1 (blk_adj g ht step) fun e => c (Option.some.inj e), norm (y, z), step, oth_norm.2.2.2, ?_⟩
    rw [oth_norm.2.1]
    have qy := k.rch n
    have qz : q ≠ z := fun e => by
      obtain ⟨l', hl'⟩ := SPth.of (b := p) (fun e => pq e.symm) (Rch.here (ts := ts) (s := q))
      have : ∀ {y : Int} {l : List Int}, SPth ts p q y l → q ∈ l := fun {y l} h => by
        induction h with
        | one _ => simp
        | more _ _ _ _ ih => exact List.mem_cons_of_mem _ ih
      exact n (e ▸ this k)
    refine (qy.symmB qz).1.trans (.step .here apq.symm fun e => c (Option.some.inj e).symm)
theorem ring_stay {m : Nat} {ts : List Tie} (g : Good m ts) {t : Tie} (ht : t ∈ toldT m ts) {p q x : Int} (apq : Adj ts p q) (hb : Blk m ts t (norm (p, q))) (apx : Adj ts p x) (h : Rch ts (some p) q x) : Rch (blkL m ts t) (some p) q x := by
  obtain ⟨l, hl⟩ := SPth.of (fun e => adj_ne g apq e.symm) h
  exact (ring_in g ht apq hb hl fun w hw wx => .step .here apx.symm fun e => hl.off (Option.some.inj e ▸ hw)).1
/-- a part of a block that is cut off by one point is all of it or nothing -/
theorem cut_one {m : Nat} {ts : List Tie} (g : Good m ts) {t : Tie} (ht : t ∈ toldT m ts) {Cc : Int → Prop} {f : Int} (cl : ∀ c, Cc c → ∀ y, Adj (blkL m ts t) c y → Cc y ∨ y = f) (nf : ¬ Cc f) {u v : Tie} (hu : Blk m ts t u) (hv : Blk m ts t v) (cu : Cc u.1 ∨ Cc u.2) : Cc v.1 ∨ Cc v.2 := by
  have key : ∀ v, Blk m ts u v → Cc v.1 ∨ Cc v.2 := fun v h => by
    induction h with
    | here => exact cu
    | @step a b hab hn ih =>
      have ba : Blk m ts t a := hu.trans hab
      have ta := ba.told g ht
      obtain ⟨tb, p, h1, h2, h3⟩ := (mem_nbT g ta).mp hn
      by_cases cp : Cc p
      · rcases h2 with e | e
        · exact .inl (e ▸ cp)
        · exact .inr (e ▸ cp)
      · have aa := told_rng g ta
        have ab := told_rng g tb
        have na : norm (p, oth a p) = a ∧ Adj ts p (oth a p) ∧ Cc (oth a p) := by
          rcases oth_cases h1 with ⟨e1, e2⟩ | ⟨e1, e2⟩
          · refine ⟨?_, by rw [e2, ← e1]; exact aa.2.2.2, by rw [e2]; exact ih.resolve_left fun z => cp (e1 ▸ z)⟩
            rw [e2, ← e1]
            exact norm_of aa.2.1
          · refine ⟨?_, by rw [e2, ← e1]; exact aa.2.2.2.symm, by rw [e2]; exact ih.resolve_right fun z => cp (e1 ▸ z)⟩
            rw [e2, ← e1, norm_comm]
            exact norm_of aa.2.1
        have nb : Adj ts p (oth b p) := by
          rcases oth_cases h2 with ⟨e1, e2⟩ | ⟨e1, e2⟩
          · rw [e2, ← e1]
            exact ab.2.2.2
          · rw [e2, ← e1]
            exact ab.2.2.2.symm
        have r := ring_stay g ht na.2.1 (by rw [na.1]; exact ba) nb h3
        have pf : p = f := (cl _ na.2.2 p (blk_adj g ht (by rw [show norm (oth a p, p) = norm (p, oth a p) from norm_comm _ _, na.1]; exact ba))).resolve_left cp
        have all : ∀ x, Rch (blkL m ts t) (some p) (oth a p) x → Cc x := fun x hx => by
          induction hx with
          | here => exact na.2.2
          | step _ a2 c2 ih2 => exact (cl _ ih2 _ a2).resolve_right fun e => c2 (by rw [e, pf])
        have cx := all _ r
        rcases oth_cases h2 with ⟨e1, e2⟩ | ⟨e1, e2⟩
        · rw [e2] at cx
          exact .inr cx
        · rw [e2] at cx
          exact .inl cx
  exact key v ((hu.symm g ht).trans hv)
end Fd
namespace Fd
/-! ### a bridge has two feet or more -/
theorem feet_two {m : Nat} {ts : List Tie} (g : Good m ts) {t : Tie} (ht : t ∈ toldT m ts) {shown : List Int} {p0 : Int} (np : p0 ∉ shown) {u e : Tie} (hu : u ∈ blkL m ts t) (up : hasP u p0) (he : e ∈ blkL m ts t) (e1 : e.1 ∈ shown) (e2 : e.2 ∈ shown) (f : Int) :
    ∃ y, y ≠ f ∧ y ∈ shown ∧ ∃ c, RchS (rowZ (blkL m ts t)) shown p0 c ∧ Adj (blkL m ts t) c y := by
  refine Classical.byContradiction fun no => ?_
  have hu' := (mem_blkL g ht).mp hu
  have he' := (mem_blkL g ht).mp he
  have no2 : ∀ c, RchS (rowZ (blkL m ts t)) shown p0 c → ∀ y, Adj (blkL m ts t) c y → RchS (rowZ (blkL m ts t)) shown p0 y ∨ (y ∈ shown ∧ y = f) := fun c hc y a => by
    by_cases ys : y ∈ shown
    · by_cases yf : y = f
      · exact .inr ⟨ys, yf⟩
      · exact absurd ⟨y, yf, ys, c, hc, a⟩ no
    · exact .inl (.step hc (mem_rowZ.mpr a) ys)
  have free : ∀ {c}, RchS (rowZ (blkL m ts t)) shown p0 c → c ∉ shown := fun h => h.free np
  have cu : RchS (rowZ (blkL m ts t)) shown p0 u.1 ∨ RchS (rowZ (blkL m ts t)) shown p0 u.2 := by
    rcases up with z | z
    · exact .inl (z ▸ .here)
    · exact .inr (z ▸ .here)
  have fin : RchS (rowZ (blkL m ts t)) shown p0 e.1 ∨ RchS (rowZ (blkL m ts t)) shown p0 e.2 := by
    by_cases fs : f ∈ shown
    · exact cut_one g ht (f := f) (fun c hc y a => (no2 c hc y a).imp id (·.2)) (fun z => free z fs) hu' he' cu
    · exact cut_one g ht (f := e.1) (fun c hc y a => (no2 c hc y a).imp id fun z => absurd (z.2 ▸ z.1) fs) (fun z => free z e1) hu' he' cu
  rcases fin with z | z
  · exact free z e1
  · exact free z e2
/-! ### the steps around a list -/
def cds (l : List Int) : List (Int × Int) := stp (l ++ l.take 1)
theorem stp_app : ∀ (l1 l2 : List Int) (x : Int), stp (l1 ++ x :: l2) = stp (l1 ++ [x]) ++ stp (x :: l2)
  | [], l2, x => rfl
  | [a], l2, x => rfl
  | a :: b :: l, l2, x => by
    have ih := stp_app (b :: l) l2 x
    show (a, b) :: stp (b :: l ++ x :: l2) = ((a, b) :: stp (b :: l ++ [x])) ++ stp (x :: l2)
    rw [ih]
    rfl
theorem stp_mem : ∀ {l : List Int} {a b : Int}, (a, b) ∈ stp l → a ∈ l ∧ b ∈ l
  | [], a, b, h => by cases h
  | [x], a, b, h => by cases h
  | x :: y :: r, a, b, h => by
    rcases List.mem_cons.mp (show (a, b) ∈ (x, y) :: stp (y :: r) from h) with z | z
    · cases z
      simp
    · obtain ⟨h1, h2⟩ := stp_mem z
      exact ⟨List.mem_cons_of_mem _ h1, List.mem_cons_of_mem _ h2⟩
theorem stp_rev : ∀ {l : List Int} {a b : Int}, (a, b) ∈ stp l.reverse ↔ (b, a) ∈ stp l
  | [], a, b => by simp [stp]
  | [x], a, b => by simp [stp]
  | x :: y :: r, a, b => by
    have e : (x :: y :: r).reverse = r.reverse ++ y :: [x] := by simp
    rw [e, stp_app, List.mem_append]
    have e2 : r.reverse ++ [y] = (y :: r).reverse := by simp
    rw [e2, stp_rev (l := y :: r)]
    show _ ∨ (a, b) ∈ [(y, x)] ↔ (b, a) ∈ (x, y) :: stp (y :: r)
    rw [List.mem_singleton, List.mem_cons, or_comm]
    constructor
    · rintro (z | z)
      · cases z
        exact .inl rfl
      · exact .inr z
    · rintro (z | z)
      · cases z
        exact .inl rfl
      · exact .inr z
theorem cds_cons (x : Int) (r : List Int) : cds (x :: r) = stp (x :: r ++ [x]) := rfl
/-- around, cut at y -/
theorem cds_at (x y : Int) (A B : List Int) : cds (x :: (A ++ y :: B)) = stp (x :: A ++ [y]) ++ stp (y :: B ++ [x]) := by
  rw [cds_cons]
  have e : x :: (A ++ y :: B) ++ [x] = (x :: A) ++ y :: (B ++ [x]) := by simp
  rw [e, stp_app]
  rfl
theorem cds_rot (x y : Int) (A B : List Int) (d : Int × Int) : d ∈ cds (x :: (A ++ y :: B)) ↔ d ∈ cds (y :: (B ++ x :: A)) := by
  rw [cds_at, cds_at, List.mem_append, List.mem_append, or_comm]
theorem rot_cds (l : List Int) (k : Nat) (d : Int × Int) : d ∈ cds (rotL l k) ↔ d ∈ cds l := by
  unfold rotL
  by_cases c : k < l.length
  · cases k with
    | zero => simp
    | succ k =>
      have e : l = l.take (k + 1) ++ l.drop (k + 1) := (List.take_append_drop _ _).symm
      cases h1 : l.drop (k + 1) with
      | nil =>
        have := congrArg List.length h1
        rw [List.length_drop, List.length_nil] at this
        omega
      | cons y B =>
        cases h2 : l.take (k + 1) with
        | nil =>
          have := congrArg List.length h2
          rw [List.length_take, List.length_nil] at this
          omega
        | cons x A =>
          rw [h1, h2] at e
          rw [e]
          exact (cds_rot x y A B d).symm
  · rw [List.drop_of_length_le (by omega), List.take_of_length_le (by omega), List.nil_append]
end Fd
namespace Fd
open PySem PySem.Spec PyProof.Rows L2
theorem cds_mem {l : List Int} {a b : Int} : (a, b) ∈ cds l ↔ ∃ i, i < l.length ∧ l[i]? = some a ∧ l[(i + 1) % l.length]? = some b := by
  unfold cds stp
  rw [List.mem_iff_getElem?]
  have key : ∀ i, ((l ++ l.take 1).zip (l ++ l.take 1).tail)[i]? = some (a, b) ↔ i < l.length ∧ l[i]? = some a ∧ l[(i + 1) % l.length]? = some b := fun i => by
    rw [List.getElem?_zip_eq_some, ← List.drop_one, List.getElem?_drop, Nat.add_comm 1 i]
    constructor
    · rintro ⟨h1, h2⟩
      have hl : i + 1 < (l ++ l.take 1).length := (List.getElem?_eq_some_iff.mp h2).1
      rw [List.length_append, List.length_take] at hl
      have hi : i < l.length := by omega
      refine ⟨hi, by rw [List.getElem?_append_left hi] at h1; exact h1, ?_⟩
      by_cases c : i + 1 < l.length
      · rw [List.getElem?_append_left c] at h2
        rw [Nat.mod_eq_of_lt c]
        exact h2
      · have e : i + 1 = l.length := by omega
        rw [List.getElem?_append_right (by omega), e, Nat.sub_self, List.getElem?_take, if_pos (by omega)] at h2
        rw [e, Nat.mod_self]
        exact h2
    · rintro ⟨hi, h1, h2⟩
      refine ⟨by rw [List.getElem?_append_left hi]; exact h1, ?_⟩
      by_cases c : i + 1 < l.length
      · rw [List.getElem?_append_left c]
        rw [Nat.mod_eq_of_lt c] at h2
        exact h2
      · have e : i + 1 = l.length := by omega
        rw [List.getElem?_append_right (by omega), e, Nat.sub_self, List.getElem?_take, if_pos (by omega)]
        rw [e, Nat.mod_self] at h2
        exact h2
  exact ⟨fun ⟨i, h⟩ => ⟨i, (key i).mp h⟩, fun ⟨i, h⟩ => ⟨i, (key i).mpr h⟩⟩
theorem cds_in {l : List Int} {a b : Int} (h : (a, b) ∈ cds l) : a ∈ l ∧ b ∈ l := by
  obtain ⟨i, _, h1, h2⟩ := cds_mem.mp h
  exact ⟨List.mem_of_getElem? h1, List.mem_of_getElem? h2⟩
theorem cds_nx {l : List Int} (nd : l.Nodup) {p b : Int} : (p, b) ∈ cds l ↔ p ∈ l ∧ b = nxI l p := by
  rw [cds_mem]
  constructor
  · rintro ⟨i, hi, h1, h2⟩
    refine ⟨List.mem_of_getElem? h1, ?_⟩
    rw [nx_at nd h1, List.getD_eq_getElem?_getD, h2]
    rfl
  · rintro ⟨hp, rfl⟩
    have e := idx_at hp
    have hi : l.idxOf p < l.length := (List.getElem?_eq_some_iff.mp e).1
    refine ⟨_, hi, e, ?_⟩
    rw [nx_at nd e, List.getD_eq_getElem?_getD, List.getElem?_eq_getElem (Nat.mod_lt _ (by omega))]
    rfl
theorem cds_pv {l : List Int} (nd : l.Nodup) {p a : Int} : (a, p) ∈ cds l ↔ p ∈ l ∧ a = pvI l p := by
  rw [cds_mem]
  constructor
  · rintro ⟨i, hi, h1, h2⟩
    refine ⟨List.mem_of_getElem? h2, ?_⟩
    have e := idx_at (List.mem_of_getElem? h2)
    have j : l.idxOf p = (i + 1) % l.length := nd_ix nd e h2
    have k : ((i + 1) % l.length + l.length - 1) % l.length = i := by
      by_cases c : i + 1 < l.length
      · rw [Nat.mod_eq_of_lt c, show i + 1 + l.length - 1 = i + l.length by omega, Nat.add_mod_right, Nat.mod_eq_of_lt hi]
      · have e : i + 1 = l.length := by omega
        rw [e, Nat.mod_self, Nat.zero_add, Nat.mod_eq_of_lt (by omega)]
        omega
    unfold pvI
    rw [j, k, List.getD_eq_getElem?_getD, h1]
    rfl
  · rintro ⟨hp, rfl⟩
    have e := idx_at hp
    have hi : l.idxOf p < l.length := (List.getElem?_eq_some_iff.mp e).1
    have hm : (l.idxOf p + l.length - 1) % l.length < l.length := Nat.mod_lt _ (by omega)
    refine ⟨_, hm, ?_, ?_⟩
    · unfold pvI
      rw [List.getD_eq_getElem?_getD, List.getElem?_eq_getElem hm]
      rfl
    · have k : ((l.idxOf p + l.length - 1) % l.length + 1) % l.length = l.idxOf p := by
        rw [Nat.mod_add_mod, show l.idxOf p + l.length - 1 + 1 = l.idxOf p + l.length by omega, Nat.add_mod_right, Nat.mod_eq_of_lt hi]
      rw [k]
      exact e
/-- what `_turn` asks, by steps -/
structure TurnBy (fs : List (List Int)) (p : Int) (ns : List Int) : Prop where
  ne : ns ≠ []
  nd : ns.Nodup
  go : ∀ f ∈ fs, ∀ a b, (a, p) ∈ cds f → (p, b) ∈ cds f → (a, b) ∈ cds ns
  all : ∀ a ∈ ns, ∃ f ∈ fs, (a, p) ∈ cds f
theorem TurnBy.ask {fs : List (List Int)} {p : Int} {ns : List Int} (h : TurnBy fs p ns) (nd : ∀ f ∈ fs, f.Nodup ∧ 2 ≤ f.length) : TurnAsk fs p ns := by
  refine ⟨h.ne, h.nd, fun f hf _ => (nd f hf).2, fun f hf hp => ?_, fun a ha => ?_⟩
  · have q := h.go f hf (pvI f p) (nxI f p) ((cds_pv (nd f hf).1).mpr ⟨hp, rfl⟩) ((cds_nx (nd f hf).1).mpr ⟨hp, rfl⟩)
    exact (cds_nx h.nd).mp q
  · obtain ⟨f, hf, k⟩ := h.all a ha
    obtain ⟨hp, e⟩ := (cds_pv (nd f hf).1).mp k
    exact ⟨f, hf, hp, e.symm⟩
theorem TurnBy.rot {fs : List (List Int)} {p : Int} {ns : List Int} (h : TurnBy fs p ns) (k : Nat) : TurnBy fs p (rotL ns k) :=
  ⟨fun e => h.ne (List.length_eq_zero_iff.mp (by rw [← rot_len ns k, e]; rfl)), (rot_perm ns k).nodup_iff.mpr h.nd, fun f hf a b h1 h2 => (rot_cds ns k _).mpr (h.go f hf a b h1 h2), fun a ha => h.all a ((rot_perm ns k).mem_iff.mp ha)⟩
/-- told from any of its own -/
theorem TurnBy.from {fs : List (List Int)} {p : Int} {ns : List Int} (h : TurnBy fs p ns) {a : Int} (ha : a ∈ ns) : ∃ N, TurnBy fs p (a :: N) ∧ (a :: N).Perm ns := by
  have e := idx_at ha
  have hi : ns.idxOf a < ns.length := (List.getElem?_eq_some_iff.mp e).1
  have r0 : (rotL ns (ns.idxOf a))[0]? = some a := by
    rw [rot_at hi (by omega), Nat.add_zero, Nat.mod_eq_of_lt hi]
    exact e
  have k := h.rot (ns.idxOf a)
  have pm := rot_perm ns (ns.idxOf a)
  cases c : rotL ns (ns.idxOf a) with
  | nil => rw [c] at r0; cases r0
  | cons x N =>
    rw [c] at r0 k pm
    cases Option.some.inj r0
    exact ⟨N, k, pm⟩
end Fd
namespace Fd
open PySem PySem.Spec PyProof.Rows L2
/-! ### the drawing so far -/
theorem stp_ix {l : List Int} {a b : Int} : (a, b) ∈ stp l ↔ ∃ i, l[i]? = some a ∧ l[i + 1]? = some b := by
  unfold stp
  rw [List.mem_iff_getElem?]
  have key : ∀ i, (l.zip l.tail)[i]? = some (a, b) ↔ l[i]? = some a ∧ l[i + 1]? = some b := fun i => by
    rw [List.getElem?_zip_eq_some, ← List.drop_one, List.getElem?_drop, Nat.add_comm 1 i]
  exact ⟨fun ⟨i, h⟩ => ⟨i, (key i).mp h⟩, fun ⟨i, h⟩ => ⟨i, (key i).mpr h⟩⟩
theorem stp_one {l : List Int} (nd : l.Nodup) {a b c : Int} : ((a, b) ∈ stp l → (a, c) ∈ stp l → b = c) ∧ ((b, a) ∈ stp l → (c, a) ∈ stp l → b = c) ∧ ¬ ((a, b) ∈ stp l ∧ (b, a) ∈ stp l) := by
  refine ⟨fun h1 h2 => ?_, fun h1 h2 => ?_, fun ⟨h1, h2⟩ => ?_⟩
  · obtain ⟨i, i1, i2⟩ := stp_ix.mp h1
    obtain ⟨j, j1, j2⟩ := stp_ix.mp h2
    have : i = j := nd_ix nd i1 j1
    subst this
    exact Option.some.inj (i2.symm.trans j2)
  · obtain ⟨i, i1, i2⟩ := stp_ix.mp h1
    obtain ⟨j, j1, j2⟩ := stp_ix.mp h2
    have : i + 1 = j + 1 := nd_ix nd i2 j2
    have : i = j := by omega
    subst this
    exact Option.some.inj (i1.symm.trans j1)
  · obtain ⟨i, i1, i2⟩ := stp_ix.mp h1
    obtain ⟨j, j1, j2⟩ := stp_ix.mp h2
    have e1 : i + 1 = j := nd_ix nd i2 j1
    have e2 : j + 1 = i := nd_ix nd j2 i1
    omega
/-- at an end of the path -/
theorem turn_x {fs G fs' : List (List Int)} {f f1 f2 : List Int} {x a b u : Int} {ns : List Int} (T : TurnBy fs x ns) (hf : f ∈ fs) (g1 : ∀ g ∈ fs, g ∈ G ∨ g = f) (g2 : ∀ g ∈ G, g ∈ fs) (un : ∀ g ∈ G, ∀ d ∈ cds f, d ∉ cds g) (n0 : f.Nodup) (n1 : f1.Nodup) (n2 : f2.Nodup)
    (a0 : (a, x) ∈ cds f) (b0 : (x, b) ∈ cds f) (u1 : (u, x) ∈ cds f1) (b1 : (x, b) ∈ cds f1) (a2 : (a, x) ∈ cds f2) (u2 : (x, u) ∈ cds f2) (nu : u ∉ ns) (mem : ∀ h, h ∈ fs' ↔ h ∈ G ∨ h = f1 ∨ h = f2) : ∃ ns', TurnBy fs' x ns' ∧ ∀ z, z ∈ ns' ↔ z = u ∨ z ∈ ns := by
  have ab := T.go f hf a b a0 b0
  obtain ⟨N, TN, pm⟩ := T.from (cds_in ab).1
  have nuN : u ∉ a :: N := fun z => nu (pm.mem_iff.mp z)
  have ua : u ≠ a := fun z => nuN (z ▸ List.mem_cons_self)
  have ndN := TN.nd
  have aN : a ∉ N := (List.nodup_cons.mp ndN).1
  have nd' : (a :: u :: N).Nodup := List.nodup_cons.mpr ⟨fun z => (List.mem_cons.mp z).elim (fun z => ua z.symm) aN, List.nodup_cons.mpr ⟨fun z => nuN (List.mem_cons_of_mem _ z), (List.nodup_cons.mp ndN).2⟩⟩
  have c1 : ∀ d, d ∈ cds (a :: u :: N) ↔ d = (a, u) ∨ d ∈ stp (u :: (N ++ [a])) := fun d => by
    show d ∈ (a, u) :: stp (u :: (N ++ [a])) ↔ _
    rw [List.mem_cons]
  -- the list with its first told again
  obtain ⟨h, r, er⟩ : ∃ h r, N ++ [a] = h :: r := by
    cases N with
    | nil => exact ⟨a, [], rfl⟩
    | cons y M => exact ⟨y, M ++ [a], rfl⟩
  have c0 : ∀ d, d ∈ cds (a :: N) ↔ d = (a, h) ∨ d ∈ stp (N ++ [a]) := fun d => by
    show d ∈ stp (a :: (N ++ [a])) ↔ _
    rw [er]
    show d ∈ (a, h) :: stp (h :: r) ↔ _
    rw [List.mem_cons]
  have c2 : ∀ d, d ∈ stp (u :: (N ++ [a])) ↔ d = (u, h) ∨ d ∈ stp (N ++ [a]) := fun d => by
    rw [er]
    show d ∈ (u, h) :: stp (h :: r) ↔ _
    rw [List.mem_cons]
  have abN := TN.go f hf a b a0 b0
  have hb : b = h := by
    have q : (a, h) ∈ cds (a :: N) := (c0 _).mpr (.inl rfl)
    rw [((cds_nx ndN).mp abN).2, ((cds_nx ndN).mp q).2]
  have old : ∀ a' b', (a', b') ∈ cds (a :: N) → a' ≠ a → (a', b') ∈ cds (a :: u :: N) := fun a' b' q ne => by
    rcases (c0 _).mp q with z | z
    · exact absurd (congrArg Prod.fst z) ne
    · exact (c1 _).mpr (.inr ((c2 _).mpr (.inr z)))
  refine ⟨a :: u :: N, ⟨by simp, nd', fun g hg a' b' h1 h2 => ?_, fun c hc => ?_⟩, fun z => ?_⟩
  · rcases (mem g).mp hg with z | rfl | rfl
    · refine old _ _ (TN.go g (g2 g z) a' b' h1 h2) fun e => un g z (a, x) a0 (e ▸ h1)
    · have e1 : a' = u := by rw [((cds_pv n1).mp h1).2, ((cds_pv n1).mp u1).2]
      have e2 : b' = b := by rw [((cds_nx n1).mp h2).2, ((cds_nx n1).mp b1).2]
      rw [e1, e2, hb]
      exact (c1 _).mpr (.inr ((c2 _).mpr (.inl rfl)))
    · have e1 : a' = a := by rw [((cds_pv n2).mp h1).2, ((cds_pv n2).mp a2).2]
      have e2 : b' = u := by rw [((cds_nx n2).mp h2).2, ((cds_nx n2).mp u2).2]
      rw [e1, e2]
      exact (c1 _).mpr (.inl rfl)
  · rcases List.mem_cons.mp hc with rfl | hc
    · exact ⟨f2, (mem _).mpr (.inr (.inr rfl)), a2⟩
    · rcases List.mem_cons.mp hc with rfl | hc
      · exact ⟨f1, (mem _).mpr (.inr (.inl rfl)), u1⟩
      · obtain ⟨g, hg, k⟩ := TN.all c (List.mem_cons_of_mem _ hc)
        rcases g1 g hg with z | rfl
        · exact ⟨g, (mem _).mpr (.inl z), k⟩
        · have : c = a := by rw [((cds_pv n0).mp k).2, ((cds_pv n0).mp a0).2]
          exact absurd (this ▸ hc) aN
  · rw [← pm.mem_iff, List.mem_cons, List.mem_cons, List.mem_cons]
    constructor
    · rintro (z | z | z)
      · exact .inr (.inl z)
      · exact .inl z
      · exact .inr (.inr z)
    · rintro (z | z | z)
      · exact .inr (.inl z)
      · exact .inl z
      · exact .inr (.inr z)
/-- at a new point -/
theorem turn_new {fs' : List (List Int)} {f1 f2 : List Int} {p c d : Int} (cd : c ≠ d) (n1 : f1.Nodup) (n2 : f2.Nodup) (d1 : (d, p) ∈ cds f1) (c1 : (p, c) ∈ cds f1) (c2 : (c, p) ∈ cds f2) (d2 : (p, d) ∈ cds f2) (m1 : f1 ∈ fs') (m2 : f2 ∈ fs') (no : ∀ g ∈ fs', p ∈ g → g = f1 ∨ g = f2) : TurnBy fs' p [c, d] := by
  refine ⟨by simp, by simpa using cd, fun g hg a b h1 h2 => ?_, fun a ha => ?_⟩
  · rcases no g hg (cds_in h1).2 with rfl | rfl
    · have e1 : a = d := by rw [((cds_pv n1).mp h1).2, ((cds_pv n1).mp d1).2]
      have e2 : b = c := by rw [((cds_nx n1).mp h2).2, ((cds_nx n1).mp c1).2]
      rw [e1, e2]
      show (d, c) ∈ [(c, d), (d, c)]
      simp
    · have e1 : a = c := by rw [((cds_pv n2).mp h1).2, ((cds_pv n2).mp c2).2]
      have e2 : b = d := by rw [((cds_nx n2).mp h2).2, ((cds_nx n2).mp d2).2]
      rw [e1, e2]
      show (c, d) ∈ [(c, d), (d, c)]
      simp
  · rcases List.mem_cons.mp ha with rfl | ha
    · exact ⟨f2, m2, c2⟩
    · rw [List.mem_singleton.mp ha]
      exact ⟨f1, m1, d1⟩
end Fd
namespace Fd
open PySem PySem.Spec PyProof.Rows L2
structure DSt (E : List Tie) (fs : List (List Int)) (left : List Tie) : Prop where
  lt : ∀ t ∈ E, t.1 < t.2
  sub : ∀ t ∈ left, t ∈ E
  fld : ∀ f ∈ fs, f.Nodup ∧ 2 ≤ f.length
  dts : ∀ f ∈ fs, ∀ a b, (a, b) ∈ cds f → Adj E a b ∧ ¬ Adj left a b
  uniq : fs.Pairwise fun f g => ∀ d ∈ cds f, d ∉ cds g
  turn : ∀ p, (∃ f ∈ fs, p ∈ f) → ∃ ns, TurnBy fs p ns ∧ ∀ y, y ∈ ns ↔ Adj E p y ∧ ¬ Adj left p y
  shown : ∀ a b, Adj E a b → ¬ Adj left a b → ∃ f ∈ fs, a ∈ f
theorem mem_erase {α : Type} {fs : List α} {i : Nat} {f : α} (e : fs[i]? = some f) : (∀ g ∈ fs, g ∈ fs.eraseIdx i ∨ g = f) ∧ ∀ g ∈ fs.eraseIdx i, g ∈ fs := by
  refine ⟨fun g hg => ?_, fun g hg => List.mem_of_mem_eraseIdx hg⟩
  obtain ⟨j, hj⟩ := List.mem_iff_getElem?.mp hg
  by_cases c : j = i
  · subst c
    exact .inr (Option.some.inj (hj.symm.trans e))
  · refine .inl (List.mem_iff_getElem?.mpr ?_)
    by_cases k : j < i
    · exact ⟨j, by rw [List.getElem?_eraseIdx, if_pos k]; exact hj⟩
    · refine ⟨j - 1, ?_⟩
      rw [List.getElem?_eraseIdx, if_neg (by omega), show j - 1 + 1 = j by omega]
      exact hj
theorem pw_erase {α : Type} {R : α → α → Prop} (sy : ∀ a b, R a b → R b a) : ∀ {fs : List α} {i : Nat} {f : α}, fs.Pairwise R → fs[i]? = some f → ∀ g ∈ fs.eraseIdx i, R f g
  | [], i, f, h, e, g, hg => by simp at e
  | x :: r, 0, f, h, e, g, hg => by
    cases Option.some.inj e
    exact (List.pairwise_cons.mp h).1 g hg
  | x :: r, i + 1, f, h, e, g, hg => by
    obtain ⟨h1, h2⟩ := List.pairwise_cons.mp h
    rcases List.mem_cons.mp hg with z | z
    · rw [z]
      exact sy _ _ (h1 f (List.mem_of_getElem? e))
    · exact pw_erase sy h2 e g z
theorem adj_lt {E : List Tie} (lt : ∀ t ∈ E, t.1 < t.2) {left : List Tie} (sub : ∀ t ∈ left, t ∈ E) {path : List Int} {a b : Int} : Adj (untiedL left path) a b ↔ Adj left a b ∧ ¬ ((a, b) ∈ stp path ∨ (b, a) ∈ stp path) := by
  have one : ∀ a b : Int, (a, b) ∈ left → ((a, b) ∈ (stp path).map srt2 ↔ (a, b) ∈ stp path ∨ (b, a) ∈ stp path) := fun a b h => by
    have l : a < b := lt _ (sub _ h)
    rw [List.mem_map]
    constructor
    · rintro ⟨⟨c, d⟩, hc, e⟩
      have e1 : min c d = a := congrArg Prod.fst e
      have e2 : max c d = b := congrArg Prod.snd e
      by_cases k : c ≤ d
      · rw [Int.min_eq_left k] at e1
        rw [Int.max_eq_right k] at e2
        subst e1
        subst e2
        exact .inl hc
      · rw [Int.min_eq_right (by omega)] at e1
        rw [Int.max_eq_left (by omega)] at e2
        subst e1
        subst e2
        exact .inr hc
    · rintro (z | z)
      · exact ⟨_, z, Prod.ext (Int.min_eq_left (by omega)) (Int.max_eq_right (by omega))⟩
      · exact ⟨_, z, Prod.ext (Int.min_eq_right (by omega)) (Int.max_eq_left (by omega))⟩
  have two : ∀ a b : Int, (a, b) ∈ untiedL left path ↔ (a, b) ∈ left ∧ ¬ ((a, b) ∈ stp path ∨ (b, a) ∈ stp path) := fun a b => by
    unfold untiedL
    rw [List.mem_filter]
    constructor
    · rintro ⟨h1, h2⟩
      refine ⟨h1, fun z => ?_⟩
      rw [decide_eq_true ((one a b h1).mpr z)] at h2
      cases h2
    · rintro ⟨h1, h2⟩
      refine ⟨h1, ?_⟩
      rw [decide_eq_false (fun z => h2 ((one a b h1).mp z))]
      rfl
  unfold Adj
  rw [two, two]
  constructor
  · rintro (⟨h1, h2⟩ | ⟨h1, h2⟩)
    · exact ⟨.inl h1, h2⟩
    · exact ⟨.inr h1, fun z => h2 z.symm⟩
  · rintro ⟨h1 | h1, h2⟩
    · exact .inl ⟨h1, h2⟩
    · exact .inr ⟨h1, fun z => h2 z.symm⟩
/-- a path is laid into a field: the parts of the field and of the path written out -/
structure Lay (E : List Tie) (fs : List (List Int)) (left : List Tie) (f : List Int) (x y : Int) (A B md : List Int) : Prop where
  rot : ∀ d, d ∈ cds (x :: (A ++ y :: B)) ↔ d ∈ cds f
  mem : ∀ z, z ∈ x :: (A ++ y :: B) ↔ z ∈ f
  nd : (x :: (A ++ y :: B)).Nodup
  mnd : md.Nodup
  new : ∀ z ∈ md, ∀ g ∈ fs, z ∉ g
  stp : ∀ a b, (a, b) ∈ stp (x :: (md ++ [y])) → Adj left a b
section
variable {E : List Tie} {fs : List (List Int)} {left : List Tie} {f : List Int} {i : Nat} {x y : Int} {A B md : List Int}
theorem Lay.facts (L : Lay E fs left f x y A B md) (hf : f ∈ fs) : x ≠ y ∧ (x :: (md ++ [y])).Nodup ∧ (x :: (A ++ y :: md.reverse)).Nodup ∧ (y :: (B ++ x :: md)).Nodup := by
  have nd := L.nd
  have dis : ∀ z ∈ md, z ∉ x :: (A ++ y :: B) := fun z hz q => L.new z hz f hf ((L.mem z).mp q)
  simp only [List.nodup_cons, List.nodup_append, List.mem_append, List.mem_cons, not_or] at nd
  obtain ⟨⟨xA, xy, xB⟩, nA, ⟨yB, nB⟩, AB⟩ := nd
  have dx : x ∉ md := fun z => dis x z List.mem_cons_self
  have dy : y ∉ md := fun z => dis y z (by simp)
  have dA : ∀ z ∈ A, z ∉ md := fun z h q => dis z q (by simp [h])
  have dB : ∀ z ∈ B, z ∉ md := fun z h q => dis z q (by simp [h])
  have m := L.mnd
  refine ⟨xy, ?_, ?_, ?_⟩
  · simp only [List.nodup_cons, List.nodup_append, List.mem_append, List.mem_cons, not_or, List.not_mem_nil]
    exact ⟨⟨dx, xy, fun h => h⟩, m, by simp, fun a ha b hb e => by
      rcases hb with rfl | hb
      · exact dy (e ▸ ha)
      · cases hb⟩
  · simp only [List.nodup_cons, List.nodup_append, List.mem_append, List.mem_cons, not_or, List.mem_reverse]
    refine ⟨⟨xA, xy, dx⟩, nA, ⟨dy, (List.reverse_perm md).nodup_iff.mpr m⟩, fun a ha b hb e => ?_⟩
    rcases hb with rfl | hb
    · exact AB a ha b (.inl rfl) e
    · exact dA a ha (e ▸ hb)
  · simp only [List.nodup_cons, List.nodup_append, List.mem_append, List.mem_cons, not_or]
    refine ⟨⟨yB, fun e => xy e.symm, dy⟩, nB, ⟨dx, m⟩, fun a ha b hb e => ?_⟩
    rcases hb with rfl | hb
    · exact xB (e ▸ ha)
    · exact dB a ha (e ▸ hb)
theorem Lay.c1 (x y : Int) (A md : List Int) (a b : Int) : (a, b) ∈ cds (x :: (A ++ y :: md.reverse)) ↔ (a, b) ∈ Fd.stp (x :: A ++ [y]) ∨ (b, a) ∈ Fd.stp (x :: (md ++ [y])) := by
  rw [cds_at, List.mem_append]
  have e : y :: md.reverse ++ [x] = (x :: (md ++ [y])).reverse := by simp
  rw [e, stp_rev]
theorem Lay.c2 (x y : Int) (B md : List Int) (a b : Int) : (a, b) ∈ cds (y :: (B ++ x :: md)) ↔ (a, b) ∈ Fd.stp (y :: B ++ [x]) ∨ (a, b) ∈ Fd.stp (x :: (md ++ [y])) := by
  rw [cds_at, List.mem_append]
  rfl
theorem Lay.c0 (L : Lay E fs left f x y A B md) (a b : Int) : (a, b) ∈ cds f ↔ (a, b) ∈ Fd.stp (x :: A ++ [y]) ∨ (a, b) ∈ Fd.stp (y :: B ++ [x]) := by
  rw [← L.rot, cds_at, List.mem_append]
end
end Fd
namespace Fd
open PySem PySem.Spec PyProof.Rows L2
theorem stp_fst : ∀ {l : List Int} {z a b : Int}, (a, b) ∈ stp (l ++ [z]) → a ∈ l := fun {l z a b} h => by
  obtain ⟨i, h1, h2⟩ := stp_ix.mp h
  have hl := (List.getElem?_eq_some_iff.mp h2).1
  rw [List.length_append, List.length_singleton] at hl
  rw [List.getElem?_append_left (by omega)] at h1
  exact List.mem_of_getElem? h1
theorem stp_snd {l : List Int} {z a b : Int} (h : (a, b) ∈ stp (z :: l)) : b ∈ l := by
  obtain ⟨i, h1, h2⟩ := stp_ix.mp h
  rw [List.getElem?_cons_succ] at h2
  exact List.mem_of_getElem? h2
section
variable {E : List Tie} {fs : List (List Int)} {left : List Tie} {f : List Int} {i : Nat} {x y : Int} {A B md : List Int}
theorem DSt.step (S : DSt E fs left) (e : fs[i]? = some f) (L : Lay E fs left f x y A B md) : DSt E (fs.eraseIdx i ++ [x :: (A ++ y :: md.reverse), y :: (B ++ x :: md)]) (untiedL left (x :: (md ++ [y]))) := by
  have hf := List.mem_of_getElem? e
  obtain ⟨xy, pnd, n1, n2⟩ := L.facts hf
  have n0 := (S.fld f hf).1
  obtain ⟨g1, g2⟩ := mem_erase e
  have adj := fun a b => adj_lt S.lt S.sub (path := x :: (md ++ [y])) (a := a) (b := b)
  have up : ∀ {a b}, Adj left a b → Adj E a b := fun h => h.imp (S.sub _) (S.sub _)
  have unG : ∀ g ∈ fs.eraseIdx i, ∀ d ∈ cds f, d ∉ cds g := pw_erase (fun a b h d hd q => h d q hd) S.uniq e
  have c1 := Lay.c1 x y A md
  have c2 := Lay.c2 x y B md
  have c0 := L.c0
  have mem : ∀ h, h ∈ fs.eraseIdx i ++ [x :: (A ++ y :: md.reverse), y :: (B ++ x :: md)] ↔ h ∈ fs.eraseIdx i ∨ h = x :: (A ++ y :: md.reverse) ∨ h = y :: (B ++ x :: md) := fun h => by simp
  -- darts of the new ones
  have old1 : ∀ a b, (a, b) ∈ stp (x :: A ++ [y]) → (a, b) ∈ cds f := fun a b h => (c0 a b).mpr (.inl h)
  have old2 : ∀ a b, (a, b) ∈ stp (y :: B ++ [x]) → (a, b) ∈ cds f := fun a b h => (c0 a b).mpr (.inr h)
  have free : ∀ a b, Adj E a b ∧ ¬ Adj left a b → Adj E a b ∧ ¬ Adj (untiedL left (x :: (md ++ [y]))) a b := fun a b h => ⟨h.1, fun z => h.2 ((adj a b).mp z).1⟩
  have now : ∀ a b, (a, b) ∈ stp (x :: (md ++ [y])) ∨ (b, a) ∈ stp (x :: (md ++ [y])) → Adj E a b ∧ ¬ Adj (untiedL left (x :: (md ++ [y]))) a b := fun a b h => by
    refine ⟨?_, fun z => ((adj a b).mp z).2 h⟩
    rcases h with h | h
    · exact up (L.stp _ _ h)
    · exact (up (L.stp _ _ h)).symm
  have xf : x ∈ f := (L.mem x).mp List.mem_cons_self
  have yf : y ∈ f := (L.mem y).mp (by simp)
  have nd := L.nd
  have xT : x ∉ A ++ y :: B := (List.nodup_cons.mp nd).1
  have xA : x ∉ A := fun z => xT (by simp [z])
  have xB : x ∉ B := fun z => xT (by simp [z])
  have yA : y ∉ A := fun z => by
    have := (List.nodup_append.mp (List.nodup_cons.mp nd).2).2.2 y z y List.mem_cons_self
    exact this rfl
  have yB : y ∉ B := (List.nodup_cons.mp (List.nodup_append.mp (List.nodup_cons.mp nd).2).2.1).1
  have AB : ∀ a ∈ A, a ∉ B := fun a ha hb => (List.nodup_append.mp (List.nodup_cons.mp nd).2).2.2 a ha a (List.mem_cons_of_mem _ hb) rfl
  have xmd : x ∉ md := fun z => L.new x z f hf xf
  have ymd : y ∉ md := fun z => L.new y z f hf yf
  refine ⟨S.lt, fun t ht => S.sub t (List.mem_filter.mp ht).1, fun g hg => ?_, fun g hg a b h => ?_, ?_, fun p hp => ?_, fun a b h1 h2 => ?_⟩
  · rcases (mem g).mp hg with z | rfl | rfl
    · exact S.fld g (g2 g z)
    · exact ⟨n1, by simp; omega⟩
    · exact ⟨n2, by simp; omega⟩
  · rcases (mem g).mp hg with z | rfl | rfl
    · exact free a b (S.dts g (g2 g z) a b h)
    · rcases (c1 a b).mp h with z | z
      · exact free a b (S.dts f hf a b (old1 a b z))
      · exact now a b (.inr z)
    · rcases (c2 a b).mp h with z | z
      · exact free a b (S.dts f hf a b (old2 a b z))
      · exact now a b (.inl z)
  · refine List.pairwise_append.mpr ⟨S.uniq.sublist (List.eraseIdx_sublist _ _), ?_, fun g hg h hh => ?_⟩
    · refine List.pairwise_cons.mpr ⟨fun h hh => ?_, List.pairwise_singleton _ _⟩
      rw [List.mem_singleton.mp hh]
      rintro ⟨a, b⟩ d1 d2
      rcases (c1 a b).mp d1 with z | z <;> rcases (c2 a b).mp d2 with w | w
      · have q1 := stp_fst z
        have q2 := stp_fst w
        rcases List.mem_cons.mp q1 with rfl | q1
        · rcases List.mem_cons.mp q2 with k | q2
          · exact xy k
          · exact xB q2
        · rcases List.mem_cons.mp q2 with rfl | q2
          · exact yA q1
          · exact AB a q1 q2
      · exact (S.dts f hf a b (old1 a b z)).2 (L.stp _ _ w)
      · exact (S.dts f hf a b (old2 a b w)).2 (L.stp _ _ z).symm
      · exact (stp_one pnd (a := b) (b := a) (c := a)).2.2 ⟨z, w⟩
    · rintro ⟨a, b⟩ d1 d2
      have q := S.dts g (g2 g hg) a b d1
      have hh2 : h = x :: (A ++ y :: md.reverse) ∨ h = y :: (B ++ x :: md) := by simpa using hh
      rcases hh2 with rfl | rfl
      · rcases (c1 a b).mp d2 with z | z
        · exact unG g hg _ (old1 a b z) d1
        · exact q.2 (L.stp _ _ z).symm
      · rcases (c2 a b).mp d2 with z | z
        · exact unG g hg _ (old2 a b z) d1
        · exact q.2 (L.stp _ _ z)
  · -- the turn at p
    have mem1 : ∀ z, z ∈ x :: (A ++ y :: md.reverse) ↔ z = x ∨ z ∈ A ∨ z = y ∨ z ∈ md := fun z => by simp
    have mem2 : ∀ z, z ∈ y :: (B ++ x :: md) ↔ z = y ∨ z ∈ B ∨ z = x ∨ z ∈ md := fun z => by simp
    have memf : ∀ z, z ∈ f ↔ z = x ∨ z ∈ A ∨ z = y ∨ z ∈ B := fun z => by rw [← L.mem]; simp
    have m1 : (x :: (A ++ y :: md.reverse)) ∈ fs.eraseIdx i ++ [x :: (A ++ y :: md.reverse), y :: (B ++ x :: md)] := (mem _).mpr (.inr (.inl rfl))
    have m2 : (y :: (B ++ x :: md)) ∈ fs.eraseIdx i ++ [x :: (A ++ y :: md.reverse), y :: (B ++ x :: md)] := (mem _).mpr (.inr (.inr rfl))
    have ge : ∀ z w, Adj E z w → ¬ Adj (untiedL left (x :: (md ++ [y]))) z w → (Adj E z w ∧ ¬ Adj left z w) ∨ (Adj left z w ∧ ((z, w) ∈ stp (x :: (md ++ [y])) ∨ (w, z) ∈ stp (x :: (md ++ [y])))) := fun z w h1 h2 => by
      by_cases c : Adj left z w
      · exact .inr ⟨c, Classical.byContradiction fun q => h2 ((adj z w).mpr ⟨c, q⟩)⟩
      · exact .inl ⟨h1, c⟩
    by_cases pm : p ∈ md
    · obtain ⟨k, hk⟩ := List.mem_iff_getElem?.mp pm
      have kl := (List.getElem?_eq_some_iff.mp hk).1
      have pk : (x :: (md ++ [y]))[k + 1]? = some p := by
        rw [List.getElem?_cons_succ, List.getElem?_append_left kl]
        exact hk
      obtain ⟨c, ec⟩ : ∃ c, (x :: (md ++ [y]))[k]? = some c := ⟨_, List.getElem?_eq_getElem (by simp; omega)⟩
      obtain ⟨d, ed⟩ : ∃ d, (x :: (md ++ [y]))[k + 2]? = some d := ⟨_, List.getElem?_eq_getElem (by simp; omega)⟩
      have sc : (c, p) ∈ stp (x :: (md ++ [y])) := stp_ix.mpr ⟨k, ec, pk⟩
      have sd : (p, d) ∈ stp (x :: (md ++ [y])) := stp_ix.mpr ⟨k + 1, pk, ed⟩
      have cd : c ≠ d := fun z => by
        have := nd_ix pnd ec (z ▸ ed)
        omega
      refine ⟨[c, d], turn_new cd n1 n2 ((c1 _ _).mpr (.inr sd)) ((c1 _ _).mpr (.inr sc)) ((c2 _ _).mpr (.inr sc)) ((c2 _ _).mpr (.inr sd)) m1 m2 (fun g hg hp => ?_), fun z => ?_⟩
      · rcases (mem g).mp hg with q | q
        · exact absurd hp (L.new p pm g (g2 g q))
        · exact q
      · constructor
        · intro hz
          rcases List.mem_cons.mp hz with rfl | hz
          · exact now _ _ (.inr sc)
          · rw [List.mem_singleton.mp hz]
            exact now _ _ (.inl sd)
        · rintro ⟨h1, h2⟩
          rcases ge p z h1 h2 with ⟨q1, q2⟩ | ⟨_, q | q⟩
          · obtain ⟨g, hg, hp⟩ := S.shown p z q1 q2
            exact absurd hp (L.new p pm g hg)
          · rw [(stp_one pnd).1 q sd]
            simp
          · rw [(stp_one pnd).2.1 q sc]
            simp
    · by_cases px : p = x
      · subst px
        obtain ⟨ns, T, hT⟩ := S.turn p ⟨f, hf, xf⟩
        obtain ⟨u, eu⟩ : ∃ u, (p :: (md ++ [y]))[1]? = some u := ⟨_, List.getElem?_eq_getElem (by simp)⟩
        have su : (p, u) ∈ stp (p :: (md ++ [y])) := stp_ix.mpr ⟨0, rfl, eu⟩
        have b0 : (p, nxI f p) ∈ cds f := (cds_nx n0).mpr ⟨xf, rfl⟩
        have a0 : (pvI f p, p) ∈ cds f := (cds_pv n0).mpr ⟨xf, rfl⟩
        have b1 : (p, nxI f p) ∈ stp (p :: A ++ [y]) := ((c0 _ _).mp b0).resolve_right fun z => by
          rcases List.mem_cons.mp (stp_fst z) with q | q
          · exact xy q
          · exact xB q
        have a2 : (pvI f p, p) ∈ stp (y :: B ++ [p]) := ((c0 _ _).mp a0).resolve_left fun z => by
          have q := stp_snd (l := A ++ [y]) z
          rcases List.mem_append.mp q with q | q
          · exact xA q
          · exact xy (List.mem_singleton.mp q)
        obtain ⟨ns', T', hT'⟩ := turn_x (u := u) T hf g1 g2 unG n0 n1 n2 a0 b0 ((c1 _ _).mpr (.inr su)) ((c1 _ _).mpr (.inl b1)) ((c2 _ _).mpr (.inl a2)) ((c2 _ _).mpr (.inr su)) (fun z => ((hT u).mp z).2 (L.stp _ _ su)) mem
        refine ⟨ns', T', fun z => ?_⟩
        rw [hT']
        constructor
        · rintro (rfl | q)
          · exact now _ _ (.inl su)
          · exact free _ _ ((hT z).mp q)
        · rintro ⟨h1, h2⟩
          rcases ge p z h1 h2 with q | ⟨_, q | q⟩
          · exact .inr ((hT z).mpr q)
          · exact .inl ((stp_one pnd).1 q su)
          · have r := stp_snd (l := md ++ [y]) q
            rcases List.mem_append.mp r with r | r
            · exact absurd r xmd
            · exact absurd (List.mem_singleton.mp r) xy
      · by_cases py : p = y
        · subst py
          obtain ⟨ns, T, hT⟩ := S.turn p ⟨f, hf, yf⟩
          obtain ⟨u, eu⟩ : ∃ u, (x :: (md ++ [p]))[md.length]? = some u := ⟨_, List.getElem?_eq_getElem (by simp; omega)⟩
          have ey : (x :: (md ++ [p]))[md.length + 1]? = some p := by
            rw [List.getElem?_cons_succ, List.getElem?_append_right (Nat.le_refl _), Nat.sub_self]
            rfl
          have su : (u, p) ∈ stp (x :: (md ++ [p])) := stp_ix.mpr ⟨md.length, eu, ey⟩
          have b0 : (p, nxI f p) ∈ cds f := (cds_nx n0).mpr ⟨yf, rfl⟩
          have a0 : (pvI f p, p) ∈ cds f := (cds_pv n0).mpr ⟨yf, rfl⟩
          have b1 : (p, nxI f p) ∈ stp (p :: B ++ [x]) := ((c0 _ _).mp b0).resolve_left fun z => by
            rcases List.mem_cons.mp (stp_fst z) with q | q
            · exact xy q.symm
            · exact yA q
          have a2 : (pvI f p, p) ∈ stp (x :: A ++ [p]) := ((c0 _ _).mp a0).resolve_right fun z => by
            have q := stp_snd (l := B ++ [x]) z
            rcases List.mem_append.mp q with q | q
            · exact yB q
            · exact xy (List.mem_singleton.mp q).symm
          obtain ⟨ns', T', hT'⟩ := turn_x (u := u) T hf g1 g2 unG n0 n2 n1 a0 b0 ((c2 _ _).mpr (.inr su)) ((c2 _ _).mpr (.inl b1)) ((c1 _ _).mpr (.inl a2)) ((c1 _ _).mpr (.inr su)) (fun z => ((hT u).mp z).2 (L.stp _ _ su).symm) (fun h => (mem h).trans (or_congr_right or_comm))
          refine ⟨ns', T', fun z => ?_⟩
          rw [hT']
          constructor
          · rintro (rfl | q)
            · exact now _ _ (.inr su)
            · exact free _ _ ((hT z).mp q)
          · rintro ⟨h1, h2⟩
            rcases ge p z h1 h2 with q | ⟨_, q | q⟩
            · exact .inr ((hT z).mpr q)
            · have r := stp_fst (l := x :: md) q
              rcases List.mem_cons.mp r with r | r
              · exact absurd r.symm xy
              · exact absurd r ymd
            · exact .inl ((stp_one pnd).2.1 q su)
        · -- not on the path
          have np : ∀ a, (p, a) ∉ stp (x :: (md ++ [y])) ∧ (a, p) ∉ stp (x :: (md ++ [y])) := fun a => by
            have off : p ∉ x :: (md ++ [y]) := fun z => by
              rcases List.mem_cons.mp z with z | z
              · exact px z
              · rcases List.mem_append.mp z with z | z
                · exact pm z
                · exact py (List.mem_singleton.mp z)
            exact ⟨fun z => off (stp_mem z).1, fun z => off (stp_mem z).2⟩
          have was : ∃ g ∈ fs, p ∈ g := by
            obtain ⟨g, hg, hp⟩ := hp
            rcases (mem g).mp hg with z | rfl | rfl
            · exact ⟨g, g2 g z, hp⟩
            · rcases (mem1 p).mp hp with z | z | z | z
              · exact absurd z px
              · exact ⟨f, hf, (memf p).mpr (.inr (.inl z))⟩
              · exact absurd z py
              · exact absurd z pm
            · rcases (mem2 p).mp hp with z | z | z | z
              · exact absurd z py
              · exact ⟨f, hf, (memf p).mpr (.inr (.inr (.inr z)))⟩
              · exact absurd z px
              · exact absurd z pm
          obtain ⟨ns, T, hT⟩ := S.turn p was
          refine ⟨ns, ⟨T.ne, T.nd, fun g hg a b h1 h2 => ?_, fun a ha => ?_⟩, fun z => ?_⟩
          · rcases (mem g).mp hg with z | rfl | rfl
            · exact T.go g (g2 g z) a b h1 h2
            · exact T.go f hf a b (old1 _ _ (((c1 _ _).mp h1).resolve_right (np a).1)) (old1 _ _ (((c1 _ _).mp h2).resolve_right (np b).2))
            · exact T.go f hf a b (old2 _ _ (((c2 _ _).mp h1).resolve_right (np a).2)) (old2 _ _ (((c2 _ _).mp h2).resolve_right (np b).1))
          · obtain ⟨g, hg, k⟩ := T.all a ha
            rcases g1 g hg with z | rfl
            · exact ⟨g, (mem g).mpr (.inl z), k⟩
            · rcases (c0 _ _).mp k with z | z
              · exact ⟨_, m1, (c1 _ _).mpr (.inl z)⟩
              · exact ⟨_, m2, (c2 _ _).mpr (.inl z)⟩
          · rw [hT]
            constructor
            · exact free p z
            · rintro ⟨h1, h2⟩
              rcases ge p z h1 h2 with q | ⟨_, q | q⟩
              · exact q
              · exact absurd q (np z).1
              · exact absurd q (np z).2
  · have in1 : ∀ a ∈ x :: (md ++ [y]), a ∈ x :: (A ++ y :: md.reverse) := fun a ha => by
      rcases List.mem_cons.mp ha with z | z
      · simp [z]
      · rcases List.mem_append.mp z with z | z
        · simp [z]
        · simp [List.mem_singleton.mp z]
    by_cases c : Adj left a b
    · have st : (a, b) ∈ stp (x :: (md ++ [y])) ∨ (b, a) ∈ stp (x :: (md ++ [y])) := Classical.byContradiction fun z => h2 ((adj a b).mpr ⟨c, z⟩)
      refine ⟨_, (mem _).mpr (.inr (.inl rfl)), in1 a ?_⟩
      rcases st with z | z
      · exact (stp_mem z).1
      · exact (stp_mem z).2
    · obtain ⟨g, hg, ha⟩ := S.shown a b h1 c
      rcases g1 g hg with z | rfl
      · exact ⟨g, (mem g).mpr (.inl z), ha⟩
      · rcases List.mem_cons.mp ((L.mem a).mpr ha) with z | z
        · exact ⟨_, (mem _).mpr (.inr (.inl rfl)), by simp [z]⟩
        · rcases List.mem_append.mp z with z | z
          · exact ⟨_, (mem _).mpr (.inr (.inl rfl)), by simp [z]⟩
          · rcases List.mem_cons.mp z with z | z
            · exact ⟨_, (mem _).mpr (.inr (.inl rfl)), by simp [z]⟩
            · exact ⟨_, (mem _).mpr (.inr (.inr rfl)), by simp [z]⟩
end
end Fd
namespace Fd
open PySem PySem.Spec PyProof.Rows L2
/-! ### the drawing: its start, its steps as the program makes them -/
theorem DSt.start {E : List Tie} {a b : Int} {left : List Tie} (lt : ∀ t ∈ E, t.1 < t.2) (e : E = (a, b) :: left) (nd : E.Nodup) : DSt E [[a, b]] left := by
  subst e
  have ab : a < b := lt (a, b) List.mem_cons_self
  have sub : ∀ t ∈ left, t ∈ (a, b) :: left := fun t ht => List.mem_cons_of_mem _ ht
  have nl : (a, b) ∉ left := (List.nodup_cons.mp nd).1
  have no : ¬ Adj left a b := fun z => by
    rcases z with z | z
    · exact nl z
    · have := lt _ (sub _ z)
      have : b < a := this
      omega
  have ad : Adj ((a, b) :: left) a b := .inl List.mem_cons_self
  have only : ∀ x y, Adj ((a, b) :: left) x y → ¬ Adj left x y → (x = a ∧ y = b) ∨ (x = b ∧ y = a) := fun x y h n => by
    rcases h with h | h
    · rcases List.mem_cons.mp h with z | z
      · exact .inl ⟨congrArg Prod.fst z, congrArg Prod.snd z⟩
      · exact absurd (.inl z) n
    · rcases List.mem_cons.mp h with z | z
      · exact .inr ⟨congrArg Prod.snd z, congrArg Prod.fst z⟩
      · exact absurd (.inr z) n
  have cd : ∀ x y, (x, y) ∈ cds [a, b] ↔ (x = a ∧ y = b) ∨ (x = b ∧ y = a) := fun x y => by
    show (x, y) ∈ [(a, b), (b, a)] ↔ _
    simp
  have ne : a ≠ b := by omega
  refine ⟨lt, sub, fun f hf => ?_, fun f hf x y h => ?_, List.pairwise_singleton _ _, fun p ⟨f, hf, hp⟩ => ?_, fun x y h n => ?_⟩
  · rw [List.mem_singleton.mp hf]
    exact ⟨by simpa using ne, Nat.le_refl _⟩
  · rw [List.mem_singleton.mp hf] at h
    rcases (cd x y).mp h with ⟨rfl, rfl⟩ | ⟨rfl, rfl⟩
    · exact ⟨ad, no⟩
    · exact ⟨ad.symm, fun z => no z.symm⟩
  · rw [List.mem_singleton.mp hf] at hp
    rcases List.mem_cons.mp hp with rfl | hp
    · refine ⟨[b], ⟨by simp, by simp, fun g hg x y h1 h2 => ?_, fun x hx => ⟨_, List.mem_cons_self, ?_⟩⟩, fun y => ?_⟩
      · rw [List.mem_singleton.mp hg] at h1 h2
        have e1 : x = b := by
          rcases (cd _ _).mp h1 with ⟨_, z⟩ | ⟨z, _⟩
          · exact absurd z ne
          · exact z
        have e2 : y = b := by
          rcases (cd _ _).mp h2 with ⟨_, z⟩ | ⟨z, _⟩
          · exact z
          · exact absurd z ne
        rw [e1, e2]
        show (b, b) ∈ [(b, b)]
        simp
      · rw [List.mem_singleton.mp hx]
        exact (cd _ _).mpr (.inr ⟨rfl, rfl⟩)
      · rw [List.mem_singleton]
        constructor
        · rintro rfl
          exact ⟨ad, no⟩
        · rintro ⟨h1, h2⟩
          rcases only _ _ h1 h2 with ⟨_, z⟩ | ⟨z, _⟩
          · exact z
          · exact absurd z ne
    · have hp := List.mem_singleton.mp hp
      subst hp
      refine ⟨[a], ⟨by simp, by simp, fun g hg x y h1 h2 => ?_, fun x hx => ⟨_, List.mem_cons_self, ?_⟩⟩, fun y => ?_⟩
      · rw [List.mem_singleton.mp hg] at h1 h2
        have e1 : x = a := by
          rcases (cd _ _).mp h1 with ⟨z, _⟩ | ⟨_, z⟩
          · exact z
          · exact absurd z.symm ne
        have e2 : y = a := by
          rcases (cd _ _).mp h2 with ⟨z, _⟩ | ⟨_, z⟩
          · exact absurd z.symm ne
          · exact z
        rw [e1, e2]
        show (a, a) ∈ [(a, a)]
        simp
      · rw [List.mem_singleton.mp hx]
        exact (cd _ _).mpr (.inl ⟨rfl, rfl⟩)
      · rw [List.mem_singleton]
        constructor
        · rintro rfl
          exact ⟨ad.symm, fun z => no z.symm⟩
        · rintro ⟨h1, h2⟩
          rcases only _ _ h1 h2 with ⟨z, _⟩ | ⟨_, z⟩
          · exact absurd z.symm ne
          · exact z
  · refine ⟨_, List.mem_cons_self, ?_⟩
    rcases only x y h n with ⟨rfl, _⟩ | ⟨rfl, _⟩ <;> simp
theorem idx_app {A B : List Int} {y : Int} (h : y ∉ A) : (A ++ y :: B).idxOf y = A.length := by
  induction A with
  | nil => simp
  | cons a A ih =>
    have ha : a ≠ y := fun z => h (z ▸ List.mem_cons_self)
    show (a :: (A ++ y :: B)).idxOf y = _
    rw [List.idxOf_cons, show (a == y) = false by simpa using ha]
    show (A ++ y :: B).idxOf y + 1 = A.length + 1
    rw [ih fun z => h (List.mem_cons_of_mem _ z)]
theorem lay_of {E : List Tie} {fs : List (List Int)} {left : List Tie} (S : DSt E fs left) {f : List Int} (hf : f ∈ fs) {x y : Int} {md : List Int} (hx : x ∈ f) (hy : y ∈ f) (xy : x ≠ y) (mnd : md.Nodup) (new : ∀ z ∈ md, ∀ g ∈ fs, z ∉ g) (st : ∀ a b, (a, b) ∈ stp (x :: (md ++ [y])) → Adj left a b) :
    ∃ A B, Lay E fs left f x y A B md ∧ split1 f (x :: (md ++ [y])) = x :: (A ++ y :: md.reverse) ∧ split2 f (x :: (md ++ [y])) = y :: (B ++ x :: md) := by
  have n0 := (S.fld f hf).1
  have e := idx_at hx
  have hi : f.idxOf x < f.length := (List.getElem?_eq_some_iff.mp e).1
  have r0 : (rotL f (f.idxOf x))[0]? = some x := by
    rw [rot_at hi (by omega), Nat.add_zero, Nat.mod_eq_of_lt hi]
    exact e
  have pm := rot_perm f (f.idxOf x)
  have rc := rot_cds f (f.idxOf x)
  have ea : aroundL f (x :: (md ++ [y])) = rotL f (f.idxOf x) := rfl
  generalize rotL f (f.idxOf x) = r at *
  cases r with
  | nil => cases r0
  | cons z r =>
    cases Option.some.inj r0
    have yr : y ∈ r := by
      rcases List.mem_cons.mp (pm.mem_iff.mpr hy) with z | z
      · exact absurd z.symm xy
      · exact z
    obtain ⟨A, B, rfl⟩ := List.append_of_mem yr
    have nd : (x :: (A ++ y :: B)).Nodup := pm.nodup_iff.mpr n0
    have yA : y ∉ A := fun z => (List.nodup_append.mp (List.nodup_cons.mp nd).2).2.2 y z y List.mem_cons_self rfl
    have lst : lastI (x :: (md ++ [y])) = y := by
      unfold lastI
      rw [List.getD_eq_getElem?_getD]
      simp
    have md' : mid (x :: (md ++ [y])) = md := by
      unfold mid
      simp
    have dl : (x :: (md ++ [y])).dropLast = x :: md := by
      have q : x :: (md ++ [y]) = (x :: md) ++ [y] := rfl
      rw [q, List.dropLast_concat]
    have ix : (x :: (A ++ y :: B)).idxOf y = A.length + 1 := idx_app (A := x :: A) fun z => (List.mem_cons.mp z).elim (fun z => xy z.symm) yA
    refine ⟨A, B, ⟨rc, fun z => pm.mem_iff, nd, mnd, new, st⟩, ?_, ?_⟩
    · unfold split1
      rw [ea, lst, md', ix]
      have q : x :: (A ++ y :: B) = (x :: A ++ [y]) ++ B := by simp
      rw [q, List.take_left' (by simp)]
      simp
    · unfold split2
      rw [ea, lst, dl, ix]
      have q : x :: (A ++ y :: B) = (x :: A) ++ y :: B := by simp
      rw [q, List.drop_left' (by simp)]
      rfl
end Fd
namespace Fd
open PySem PySem.Spec PyProof.Rows L2
/-! ### a bridge's path fits the drawing -/
theorem sub_two {l : List Int} {a b : Int} (ha : a ∈ l) (hb : b ∈ l) (ne : a ≠ b) : ∃ x y r, l = x :: y :: r := by
  match l, ha, hb with
  | [], h, _ => cases h
  | [x], ha, hb => exact absurd ((List.mem_singleton.mp ha).trans (List.mem_singleton.mp hb).symm) ne
  | x :: y :: r, _, _ => exact ⟨x, y, r, rfl⟩
theorem mem_feet {row : Int → List Int} {shown inner : List Int} {z : Int} : z ∈ feetL row shown inner ↔ z ∈ shown ∧ ∃ n ∈ row z, n ∈ inner := by
  unfold feetL
  rw [List.mem_filter, List.any_eq_true]
  exact and_congr_right fun _ => ⟨fun ⟨n, h1, h2⟩ => ⟨n, h1, of_decide_eq_true h2⟩, fun ⟨n, h1, h2⟩ => ⟨n, h1, decide_eq_true h2⟩⟩
theorem rchI_of {row : Int → List Int} {shown inner : List Int} {p0 z p : Int} (mem : ∀ x, x ∈ inner ↔ RchS row shown p0 x) (hz : z ∈ inner) (h : RchS row shown z p) : RchI row inner z p := by
  induction h with
  | here => exact .here
  | @step p q k a b ih => exact .step ih a ((mem q).mpr (.step (((mem z).mp hz).trans k) a b))
/-- what `_path` asks of a bridge within -/
theorem feet_ask {m : Nat} {ts : List Tie} (g : Good m ts) {t : Tie} (ht : t ∈ toldT m ts) {ks shown : List Int} {left : List Tie} {bs : List Brg} (B : BrgsOk (rowZ (blkL m ts t)) ks shown left bs) (kp : ∀ k ∈ ks, ∃ u ∈ blkL m ts t, hasP u k) (sk : ∀ z ∈ shown, z ∈ ks) {e : Tie} (he : e ∈ blkL m ts t) (e1 : e.1 ∈ shown) (e2 : e.2 ∈ shown) {b : Brg} (hb : b ∈ bs) (ne : b.1 ≠ []) :
    ∃ x y r, b.2 = x :: y :: r ∧ x ∈ ks ∧ (∃ z ∈ rowZ (blkL m ts t) x, z ∈ b.1) ∧ ∀ z ∈ b.1, ∃ p, RchI (rowZ (blkL m ts t)) b.1 z p ∧ y ∈ rowZ (blkL m ts t) p := by
  have sy : ∀ a c, c ∈ rowZ (blkL m ts t) a → a ∈ rowZ (blkL m ts t) c := fun a c h => mem_rowZ.mpr (mem_rowZ.mp h).symm
  rcases B.each b hb with ⟨z, _⟩ | ⟨p, pk, ps, srt, mem, ef⟩
  · exact absurd z ne
  · obtain ⟨u, hu, up⟩ := kp p pk
    have two := feet_two g ht ps hu up he e1 e2
    have foot : ∀ y, y ∈ shown → (∃ c, RchS (rowZ (blkL m ts t)) shown p c ∧ Adj (blkL m ts t) c y) → y ∈ b.2 := fun y ys ⟨c, hc, a⟩ => by
      rw [ef]
      exact mem_feet.mpr ⟨ys, c, mem_rowZ.mpr a.symm, (mem c).mpr hc⟩
    obtain ⟨y1, _, s1, c1⟩ := two 0
    obtain ⟨y2, n2, s2, c2⟩ := two y1
    obtain ⟨x, y, r, er⟩ := sub_two (foot y1 s1 c1) (foot y2 s2 c2) (fun z => n2 z.symm)
    have hx : x ∈ feetL (rowZ (blkL m ts t)) shown b.1 := by rw [← ef, er]; simp
    have hy : y ∈ feetL (rowZ (blkL m ts t)) shown b.1 := by rw [← ef, er]; simp
    obtain ⟨xs, n, nx, ni⟩ := mem_feet.mp hx
    obtain ⟨ys, n', ny, ni'⟩ := mem_feet.mp hy
    refine ⟨x, y, r, er, sk x xs, ⟨n, nx, ni⟩, fun z hz => ⟨n', ?_, sy _ _ ny⟩⟩
    exact rchI_of mem hz ((((mem z).mp hz).symm sy ps).trans ((mem n').mp ni'))
/-- the path that is found -/
theorem path_ok {E : List Tie} {fs : List (List Int)} {left : List Tie} (S : DSt E fs left) {ks shown : List Int} (sh : ∀ z, z ∈ shown ↔ ∃ g ∈ fs, z ∈ g) (snd : shown.Nodup) {bs : List Brg} (B : BrgsOk (rowZ E) ks shown left bs) {b : Brg} (hb : b ∈ bs) {path : List Int} (P : PathOk (rowZ E) b path) :
    ∃ x y md, path = x :: (md ++ [y]) ∧ x ∈ b.2 ∧ y ∈ b.2 ∧ x ≠ y ∧ md.Nodup ∧ (∀ z ∈ md, ∀ g ∈ fs, z ∉ g) ∧ ∀ a c, (a, c) ∈ stp (x :: (md ++ [y])) → Adj left a c := by
  rcases B.each b hb with ⟨z, t, ht, t1, t2, e⟩ | ⟨p, pk, ps, srt, mem, ef⟩
  · rcases P with ⟨_, q⟩ | ⟨n, _⟩
    · have lt := S.lt t (S.sub t ht)
      refine ⟨t.1, t.2, [], by rw [q, e]; rfl, by rw [e]; simp, by rw [e]; simp, by omega, .nil, (fun z hz => nomatch hz), fun a c h => ?_⟩
      have h : (a, c) ∈ [(t.1, t.2)] := h
      obtain ⟨ea, ec⟩ := Prod.mk.inj (List.mem_singleton.mp h)
      rw [ea, ec]
      exact .inl ht
    · exact absurd z n
  · rcases P with ⟨n, _⟩ | ⟨_, x, y, r, l, first, e, er, ep, f1, pw, ye, li⟩
    · exact absurd ((mem p).mpr .here) (by rw [n]; simp)
    · have fx : x ∈ feetL (rowZ E) shown b.1 := by rw [← ef, er]; simp
      have fnd : (feetL (rowZ E) shown b.1).Nodup := snd.filter _
      rw [← ef, er] at fnd
      have xy : x ≠ y := fun z => by
        have := (List.nodup_cons.mp fnd).1
        exact this (by rw [z]; simp)
      have off : ∀ z ∈ l, z ∉ shown := fun z hz => ((mem z).mp (li z hz)).free ps
      refine ⟨x, y, l, ep, by rw [er]; simp, by rw [er]; simp, xy, pw.nd, fun z hz g hg q => off z hz ((sh z).mpr ⟨g, hg, q⟩), fun a c h => ?_⟩
      have key : Adj E a c ∧ (a ∈ l ∨ c ∈ l) := by
        cases l with
        | nil => have := pw.hd; cases this
        | cons h0 l0 =>
          have hh : h0 = first := by simpa using pw.hd
          have h : (a, c) ∈ (x, h0) :: stp (h0 :: l0 ++ [y]) := h
          rcases List.mem_cons.mp h with z | z
          · obtain ⟨ea, ec⟩ := Prod.mk.inj z
            rw [ea, ec]
            exact ⟨by rw [hh]; exact mem_rowZ.mp f1, .inr List.mem_cons_self⟩
          · rw [stp_snoc _ _ _ pw.lt] at z
            rcases List.mem_append.mp z with z | z
            · exact ⟨mem_rowZ.mp (pw.adj _ z), .inl (stp_mem z).1⟩
            · obtain ⟨ea, ec⟩ := Prod.mk.inj (List.mem_singleton.mp z)
              rw [ea, ec]
              exact ⟨mem_rowZ.mp ye, .inl (List.mem_of_getLast? pw.lt)⟩
      refine Classical.byContradiction fun no => ?_
      rcases key.2 with q | q
      · exact off a q ((sh a).mpr (S.shown a c key.1 no))
      · exact off c q ((sh c).mpr (S.shown c a key.1.symm fun w => no w.symm))
/-- .. takes a tie at least -/
theorem untied_lt {E : List Tie} {left : List Tie} (lt : ∀ t ∈ E, t.1 < t.2) (sub : ∀ t ∈ left, t ∈ E) {x y : Int} {md : List Int} (st : ∀ a c, (a, c) ∈ stp (x :: (md ++ [y])) → Adj left a c) : (untiedL left (x :: (md ++ [y]))).length < left.length := by
  obtain ⟨u, eu⟩ : ∃ u, (x, u) ∈ stp (x :: (md ++ [y])) := by
    cases md with
    | nil => exact ⟨y, List.mem_cons_self⟩
    | cons a r => exact ⟨a, List.mem_cons_self⟩
  have no : ¬ Adj (untiedL left (x :: (md ++ [y]))) x u := fun z => ((adj_lt lt sub).mp z).2 (.inl eu)
  have has := st _ _ eu
  have ex : ∃ t ∈ left, t ∉ untiedL left (x :: (md ++ [y])) := by
    rcases has with z | z
    · exact ⟨_, z, fun q => no (.inl q)⟩
    · exact ⟨_, z, fun q => no (.inr q)⟩
  obtain ⟨t, h1, h2⟩ := ex
  refine Nat.lt_of_le_of_ne (List.length_filter_le _ _) fun e => h2 ?_
  unfold untiedL at e ⊢
  rw [List.length_filter_eq_length_iff] at e
  exact List.mem_filter.mpr ⟨h1, e t h1⟩
end Fd
namespace Fd
open PySem PySem.Spec PyProof.Rows L2 LamX
/-! ### `_fields` -/
/-- the program's run: a tightest bridge at each turn, its first home -/
inductive DRun (E : List Tie) (ks : List Int) : List (List Int) → List Tie → Prop
  | start {a b : Int} {left : List Tie} : E = (a, b) :: left → DRun E ks [[a, b]] left
  | step {fs : List (List Int)} {left : List Tie} {shown : List Int} {bs : List Brg} {b : Brg} {i : Nat} {f path : List Int} : DRun E ks fs left → (∀ z, z ∈ shown ↔ ∃ g ∈ fs, z ∈ g) → shown.Pairwise (· < ·) → BrgsOk (rowZ E) ks shown left bs → b ∈ bs →
      (∀ c ∈ bs, (homesN b.2 fs fs.length).length ≤ (homesN c.2 fs fs.length).length) → (homesN b.2 fs fs.length)[0]? = some (i : Int) → fs[i]? = some f → PathOk (rowZ E) b path → DRun E ks (fs.eraseIdx i ++ [split1 f path, split2 f path]) (untiedL left path)
theorem DRun.st {E : List Tie} {ks : List Int} (lt : ∀ t ∈ E, t.1 < t.2) (nd : E.Nodup) {fs : List (List Int)} {left : List Tie} (h : DRun E ks fs left) : DSt E fs left := by
  induction h with
  | start e => exact DSt.start lt e nd
  | @step fs left shown bs b i f path _ sh so B hb _ hm hf P S =>
    obtain ⟨x, y, md, rfl, xb, yb, xy, mnd, new, st⟩ := path_ok S sh (so.imp fun h e => by omega) B hb P
    obtain ⟨j, f', ej, ef, all⟩ := mem_homes.mp (List.mem_of_getElem? hm)
    have : i = j := by omega
    subst this
    cases Option.some.inj (hf.symm.trans ef)
    obtain ⟨A, B', L, e1, e2⟩ := lay_of S (List.mem_of_getElem? hf) (all x xb) (all y yb) xy mnd new st
    rw [e1, e2]
    exact S.step hf L
/-- one of the fields: at F it does not stand, nor where a list stood in H0 -/
def FldN (H0 : Hp) (F : Addr) (H : Hp) (v : V) (f : List Int) : Prop := ∃ a, v = .ref a ∧ H a = some (.lst (iL f)) ∧ a ≠ F ∧ ∀ xs, H0 a ≠ some (.lst xs)
def FldNew (H0 : Hp) (H : Hp) (v : V) (f : List Int) : Prop := ∃ a, v = .ref a ∧ H a = some (.lst (iL f)) ∧ ∀ xs, H0 a ≠ some (.lst xs)
theorem FldN.new {H0 : Hp} {F : Addr} {H : Hp} {v : V} {f : List Int} (h : FldN H0 F H v f) : FldNew H0 H v f := by
  obtain ⟨a, e, k, _, n⟩ := h
  exact ⟨a, e, k, n⟩
theorem FldNew.at {H0 : Hp} {H : Hp} {v : V} {f : List Int} (h : FldNew H0 H v f) : FldAt H v f := by
  obtain ⟨a, e, k, _⟩ := h
  exact ⟨a, e, k⟩
theorem FldN.at {H0 : Hp} {F : Addr} {H : Hp} {v : V} {f : List Int} (h : FldN H0 F H v f) : FldAt H v f := h.new.at
theorem FldN.ext {H0 : Hp} {F : Addr} {H H' : Hp} (s : ExtN H H') {v : V} {f : List Int} (h : FldN H0 F H v f) : FldN H0 F H' v f := by
  obtain ⟨a, e, k, n⟩ := h
  exact ⟨a, e, extL s k, n⟩
theorem FldN.put {H0 : Hp} {F : Addr} {H : Hp} {o : HO} {v : V} {f : List Int} (h : FldN H0 F H v f) : FldN H0 F (upd H F o) v f := by
  obtain ⟨a, e, k, n⟩ := h
  exact ⟨a, e, by rw [upd_ne n.1]; exact k, n⟩
theorem PairAt.ext {H H' : Hp} (s : ExtN H H') {v : V} {t : Tie} (h : PairAt H v t) : PairAt H' v t := by
  obtain ⟨a, e, k⟩ := h
  exact ⟨a, e, extT s k⟩
theorem DRows.ext {H H' : Hp} (s : ExtN H H') {R : Addr} {ks : List Int} {row : Int → List Int} {kvs : List (Key × V)} (e : H R = some (.dK kvs)) (h : DRows H R ks row) : DRows H' R ks row := by
  obtain ⟨kv2, h1, h2, h3⟩ := h.ex
  have : kv2 = kvs := by
    rcases h1 with h1 | ⟨o, h1⟩
    · rw [e] at h1
      cases h1
      rfl
    · rw [e] at h1
      cases h1
  subst this
  refine ⟨_, .inl (s _ _ e fun _ z => nomatch z), h2, fun k hk => ?_⟩
  obtain ⟨b, b1, b2⟩ := h3 k hk
  exact ⟨b, b1, extL s b2⟩
theorem drows_of {G : Hp} {R : Addr} {ks : List Int} {adr : Int → Addr} {row : Int → List Int} (h : G R = some (.dK (ks.map fun k => ((Sum.inl k : Key), V.ref (adr k))))) (r : ∀ k ∈ ks, G (adr k) = some (.lst (iL (row k)))) : DRows G R ks row :=
  ⟨_, .inl h, by rw [List.map_map]; rfl, fun k hk => ⟨adr k, valV_adr hk, r k hk⟩⟩
theorem ext_write {H H1 : Hp} {F : Addr} {o : HO} (s : ExtN H H1) (h : H F = none) : ExtN H (upd H1 F o) := fun b u e n => by
  rw [upd_ne (fun z => by rw [z, h] at e; cases e)]
  exact s b u e n
theorem tabs_write {T : List (Addr × Str)} {H1 : Hp} {F : Addr} {o : HO} {xs : List V} (t : Tabs T H1) (h : H1 F = some (.lst xs)) : Tabs T (upd H1 F o) := fun p hp => by
  obtain ⟨ps, h1, h2, h3⟩ := t p hp
  refine ⟨ps, by rw [upd_ne (fun z => by rw [z, h] at h1; cases h1)]; exact h1, h2, fun pos cv hc => ?_⟩
  obtain ⟨c, e1, e2⟩ := h3 pos cv hc
  refine ⟨c, e1, ?_⟩
  rw [upd_ne (fun z => by rw [z, h] at e2; exact HO.noConfusion (show HO.lst xs = HO.ext _ from Option.some.inj e2))]
  exact e2
def spFields (K : PySem.W.Frag) (Pt : Addr) : Sp := fun vs H Q _ => ∃ (T0 : Addr) (ws : List V) (m : Nat) (ts : List Tie) (t : Tie), vs = [.ref T0] ∧ H T0 = some (.lst ws) ∧ PairsAt H ws (blkL m ts t) ∧ Good m ts ∧ t ∈ toldT m ts ∧ m ≤ 16 ∧ ts.length ≤ 40 ∧ Tabs [(Pt, qLam)] H ∧
  (∀ (H' : Hp) (ks : List Int) (fs : List (List Int)) (left : List Tie) (shown : List Int) (bs : List Brg) (b : Brg), ExtN H H' → Tabs [(Pt, qLam)] H' → (∀ x, x ∈ ks ↔ ∃ u ∈ blkL m ts t, x = u.1 ∨ x = u.2) → DRun (blkL m ts t) ks fs left → (∀ z, z ∈ shown ↔ ∃ g ∈ fs, z ∈ g) → BrgsOk (rowZ (blkL m ts t)) ks shown left bs → b ∈ bs → homesN b.2 fs fs.length = [] → Q .non H') ∧
  ∀ (H' : Hp) (F : Addr) (ws' : List V) (ks : List Int) (fs : List (List Int)), ExtN H H' → Tabs [(Pt, qLam)] H' → H' F = some (.lst ws') → H F = none → Paired (FldNew H H') ws' fs → (∀ x, x ∈ ks ↔ ∃ u ∈ blkL m ts t, x = u.1 ∨ x = u.2) → DRun (blkL m ts t) ks fs [] → fs.length ≤ 100 → Q (.ref F) H'
def muF (σ : L2.St) (H : Hp) : Nat := match σ[3]? with
  | some (some (V.ref a)) => (match H a with | some (.lst xs) => xs.length | _ => 0)
  | _ => 0
theorem brg_in {E : List Tie} {ks shown : List Int} {left : List Tie} {bs : List Brg} (cl : ∀ k ∈ ks, ∀ j ∈ rowZ E k, j ∈ ks) (B : BrgsOk (rowZ E) ks shown left bs) {b : Brg} (hb : b ∈ bs) : b.1.Nodup ∧ (∀ z ∈ b.1, z ∈ ks) ∧ (b.2.length ≤ 2 ∨ b.2.length ≤ shown.length) := by
  rcases B.each b hb with ⟨z, t, _, _, _, e⟩ | ⟨p, pk, _, srt, mem, ef⟩
  · rw [z, e]
    exact ⟨.nil, (fun z hz => nomatch hz), .inl (Nat.le_refl _)⟩
  · refine ⟨srt.imp fun h e => by omega, fun z hz => ((mem z).mp hz).inside cl pk, .inr ?_⟩
    rw [ef]
    exact List.length_filter_le _ _
theorem path_len {row : Int → List Int} {b : Brg} {path : List Int} {n : Nat} (P : PathOk row b path) (h1 : b.1.length ≤ n) (h2 : b.2.length ≤ n) : path.length ≤ n + 2 := by
  rcases P with ⟨_, e⟩ | ⟨_, x, y, r, l, _, _, _, e, _, pw, _, li⟩
  · rw [e]
    omega
  · have := pw.nd.length_le_of_subset fun z hz => li z hz
    rw [e, List.length_cons, List.length_append, List.length_singleton]
    omega
theorem fld_grp {K : PySem.W.Frag} {H0 : Hp} {F : Addr} {H : Hp} : ∀ {ws : List V} {fs : List (List Int)}, Paired (FldN H0 F H) ws fs → Paired (GrpAt K H) ws fs
  | _, _, .nil => .nil
  | _, _, .cons h r => .cons (by
    obtain ⟨a, rfl, k, _⟩ := h
    exact ⟨a, rfl, .inl (SqL.of k)⟩) (fld_grp r)
theorem paired_del {α β : Type} {F : α → β → Prop} : ∀ {xs : List α} {ys : List β}, Paired F xs ys → ∀ i : Nat, Paired F (xs.eraseIdx i) (ys.eraseIdx i)
  | _, _, .nil, _ => .nil
  | _, _, .cons a r, 0 => r
  | _, _, .cons a r, i + 1 => .cons a (paired_del r i)
section
variable {P : Program} {w : World} {K : PySem.W.Frag} {mg : Str → Option Value} {base : Heap} {C c Pt : Addr}
/-- what the drawing's defs ask of the module -/
structure DrTxt (K : PySem.W.Frag) (mg : Str → Option Value) (base : Heap) (c Pt : Addr) : Prop where
  any : mg "any" = none
  all : mg "all" = none
  enum : mg "enumerate" = none
  zip : mg "zip" = none
  min_ : mg "min" = none
  fReached : FnR7 K mg
  fWay : Fn K mg "way" sWay ["rows", "start", "goal", "through"]
  fPoints : Fn K mg "_points" sPoints ["groups"]
  fRows : Fn K mg "_rows" sRows ["ties"]
  fBridges : Fn K mg "_bridges" sBridges ["rows", "shown", "left"]
  fHomes : Fn K mg "_homes" sHomes ["bridge", "fields"]
  fTightest : FnC K mg "_tightest" sTightest ["bridges", "fields"] c
  fPath : Fn K mg "_path" sPath ["rows", "bridge"]
  fUntied : Fn K mg "_untied" sUntied ["left", "path"]
  fSplit : Fn K mg "_split" sSplit ["field", "path"]
  fTurn : Fn K mg "_turn" sTurn ["fields", "point"]
  fFields : Fn K mg "_fields" sFields ["ties"]
  tab : TabB base mg c Pt
abbrev nFields : List Str := ["ties", "rows", "fields", "left", "bridge", "homes", "path", "field"]
theorem scFields : FnScope nFields ["ties"] (defScope sFields) := ⟨rfl, rfl, rfl, by decide +kernel, rfl, by decide +kernel, by decide +kernel⟩
theorem c_fields (T : WTxt K mg C) (D : DrTxt K mg base c Pt) : C8.Cal P w K mg base 7 "_fields" (spFields K Pt) [] := by
  refine cal_of D.fFields scFields (fun vs H Q E h => ?_) (fun f cdv A outer s H vs Q E hr h => ?_)
  · obtain ⟨T0, ws, m, ts, t, rfl, _⟩ := h
    rfl
  · obtain ⟨T0, ws, m, ts, t, rfl, hT, pT, g, ht, m16, tl, tabs, kN, kF⟩ := h
    refine ⟨_, pss_cons (ps_set (i := 1) scFields.nd rfl (Or.inl rfl) (C8.pe_c (c_rows T D.fPoints D.fRows) hr (by decide) (by rfl) (pa_cons (pv 0) pa_nil)))
      (pss_cons (ps_set (i := 2) scFields.nd rfl (Or.inl rfl) (pe_lst (pa_cons (pe_callTy call_list_of (by rfl) T.list (by decide +kernel) (pa_cons (pe_ix ix_list (pv 0) pe_int (fun _ _ => rfl)) pa_nil)) pa_nil)))
      (pss_cons (ps_set (i := 3) scFields.nd rfl (Or.inl rfl) (pe_slice sl_list (pv 0) (po_some pe_int) po_none))
      (pss_cons (ps_while PassesOwn.never (pt_truth (pv 3) (fun _ => rfl))
        (pss_cons (ps_asg (C8.pe_c (c_tightest T D.all D.enum D.min_ D.fHomes D.fTightest D.tab) hr (by decide) (by rfl) (pa_cons (C8.pe_c (c_bridges T D.fReached D.any D.fBridges) hr (by decide) (by rfl) (pa_cons (pv 1) (pa_cons (C8.pe_c (c_points T D.fPoints) hr (by decide) (by rfl) (pa_cons (pv 2) pa_nil)) (pa_cons (pv 3) pa_nil)))) (pa_cons (pv 2) pa_nil)))
          (pg_tup (by rfl) (pgs_cons (pg_name (i := 4) scFields.nd rfl (.inl rfl)) (pgs_cons (pg_name (i := 5) scFields.nd rfl (.inl rfl)) pgs_nil))))
        (pss_cons (ps_if (pt_not (pt_truth (pv 5) (fun _ => rfl))) (pss_one (ps_ret pe_non)) pss_nil)
        (pss_cons (ps_set (i := 6) scFields.nd rfl (Or.inl rfl) (C8.pe_c (c_path T D.fWay D.fPath) hr (by decide) (by rfl) (pa_cons (pv 1) (pa_cons (pv 4) pa_nil))))
        (pss_cons (ps_set (i := 3) scFields.nd rfl (Or.inl rfl) (C8.pe_c (c_untied T D.zip D.fUntied) hr (by decide) (by rfl) (pa_cons (pv 3) (pa_cons (pv 6) pa_nil))))
        (pss_cons (ps_set (i := 7) scFields.nd rfl (Or.inl rfl) (pe_bm PySem.F.plainAttrs_list PySem.F.slot_list_pop PySem.F.type_list_pop mt_popAt (pv 2) (pa_cons (pe_ix ix_list (pv 5) pe_int (fun _ _ => rfl)) pa_nil)))
        (pss_one (ps_expr (pe_bm PySem.F.plainAttrs_list PySem.F.slot_list_extend PySem.F.type_list_extend mt_extend (pv 2) (pa_cons (C8.pe_c (c_split T D.fSplit) hr (by decide) (by rfl) (pa_cons (pv 7) (pa_cons (pv 6) pa_nil))) pa_nil))))))))))
      (pss_one (ps_ret (pv 2)))))), ?_⟩
    have lt : ∀ u ∈ blkL m ts t, u.1 < u.2 := fun u hu => (told_rng g (((mem_blkL g ht).mp hu).told g ht)).2.1
    have rng : ∀ u ∈ blkL m ts t, 0 ≤ u.1 ∧ u.2 < m := fun u hu => by
      have := told_rng g (((mem_blkL g ht).mp hu).told g ht)
      exact ⟨this.1, this.2.2.1⟩
    have nd : (blkL m ts t).Nodup := (blkL_strict g t).imp fun {a b} (h : lexT a b) (e : a = b) => lexT_irr a (by rw [← e] at h; exact h)
    have El : (blkL m ts t).length ≤ 40 := Nat.le_trans (blkL_len g t) tl
    have tE : t ∈ blkL m ts t := (mem_blkL g ht).mpr .here
    generalize hE : blkL m ts t = E at *
    obtain ⟨ab, left0, eE⟩ : ∃ ab left0, E = ab :: left0 := by
      cases E with
      | nil => cases tE
      | cons a r => exact ⟨a, r, rfl⟩
    obtain ⟨a, b⟩ := ab
    refine ⟨_, rfl, T0, ws, E, pts m, rfl, SqL.of hT, pT, by rw [pts_len]; exact m16, by omega, fun u hu => ?_, fun H1 R ks adr s1 rd srt mem => ?_⟩
    · have r1 := rng u hu
      have r2 := lt u hu
      exact ⟨mem_pts.mpr ⟨r1.1, by omega⟩, mem_pts.mpr ⟨by omega, r1.2⟩⟩
    have knd : ks.Nodup := srt.imp fun h e => by omega
    have kl : ks.length ≤ 16 := by
      refine Nat.le_trans (knd.length_le_of_subset (l₂ := pts m) fun x hx => ?_) (by rw [pts_len]; exact m16)
      obtain ⟨u, hu, z | z⟩ := (mem x).mp hx
      · have r1 := rng u hu
        have r2 := lt u hu
        exact mem_pts.mpr ⟨by omega, by omega⟩
      · have r1 := rng u hu
        have r2 := lt u hu
        exact mem_pts.mpr ⟨by omega, by omega⟩
    -- fields = [list(ties[0])]
    have pT' := pT
    rw [eE] at pT'
    obtain ⟨v0, ws0, rfl⟩ : ∃ v0 ws0, ws = v0 :: ws0 := by
      cases pT' with
      | cons h r => exact ⟨_, _, rfl⟩
    obtain ⟨⟨b0, rfl, hb0⟩, pW0⟩ : PairAt H v0 (a, b) ∧ PairsAt H ws0 left0 := by
      cases pT' with
      | cons h r => exact ⟨h, r⟩
    refine ⟨_, rfl, T0, .ref b0 :: ws0, 0, .ref b0, rfl, rfl, SqL.of (s1 _ _ hT), atI_nat (j := 0) rfl, ?_⟩
    refine ⟨b0, iL [a, b], rfl, .inr (SqT.of (s1 _ _ hb0)), fun f0 hf0 => ⟨by show 1 ≤ sizeLine; decide, fun F hF => ?_⟩⟩
    have t1 := Same.put (o := .lst (iL [a, b])) hf0
    have d0 : (upd H1 f0 (.lst (iL [a, b]))) f0 = some (.lst (iL [a, b])) := upd_same
    have t2 := Same.put (o := .lst [.ref f0]) hF
    have fF : f0 ≠ F := ne_of_none d0 hF
    have d1 := t2 _ _ d0
    have d2 : (upd (upd H1 f0 (.lst (iL [a, b]))) F (.lst [.ref f0])) F = some (.lst [.ref f0]) := upd_same
    have s2 := (t1.trans t2)
    have HF : H F = none := s1.free (t1.free hF)
    have adrF : ∀ k ∈ ks, adr k ≠ F := fun k hk => ne_of_none (t1 _ _ (rd.row k hk)) hF
    generalize upd (upd H1 f0 (.lst (iL [a, b]))) F (.lst [.ref f0]) = H2 at *
    have s02 := s1.trans s2
    -- left = ties[1:]
    refine ⟨_, rfl, 1, rfl, T0, .ref b0 :: ws0, rfl, SqL.of (s02 _ _ hT), fun L hL => ?_⟩
    have ec : cutV (.ref b0 :: ws0) (some 1) none = ws0 := (cut_drop _ 1 (by simp)).trans rfl
    rw [ec]
    have t3 := Same.put (o := .lst ws0) hL
    have e3 : (upd H2 L (.lst ws0)) L = some (.lst ws0) := upd_same
    have s3 := s02.trans t3
    have rd3 := (rd.same s2).same t3
    have LF : L ≠ F := fun z => by rw [z, d2] at hL; cases hL
    have d13 := t3 _ _ d1
    have d23 := t3 _ _ d2
    generalize upd H2 L (.lst ws0) = H3 at *
    dsimp only [gName, tSeq]
    refine while_by (fun σ G => ∃ (L : Addr) (lws ws : List V) (fs : List (List Int)) (left : List Tie) (v4 v5 v6 v7 : Option V), σ = [some (.ref T0), some (.ref R), some (.ref F), some (.ref L), v4, v5, v6, v7] ∧ ExtN H G ∧ Tabs [(Pt, qLam)] G ∧ G R = some (.dK (ks.map fun k => ((Sum.inl k : Key), V.ref (adr k)))) ∧ (∀ k ∈ ks, G (adr k) = some (.lst (iL (rowZ E k)))) ∧ G F = some (.lst ws) ∧ Paired (FldN H F G) ws fs ∧ G L = some (.lst lws) ∧ PairsAt G lws left ∧ L ≠ F ∧ DRun E ks fs left ∧ fs.length + left.length ≤ E.length ∧ ∃ e ∈ E, ¬ Adj left e.1 e.2) muF
      ⟨L, ws0, [.ref f0], [[a, b]], left0, none, none, none, none, rfl, ExtN.of s3, tabs.ext s3, rd3.top, rd3.row, d23, .cons ⟨f0, rfl, d13, fF, fun xs q => by rw [s1.free hf0] at q; cases q⟩ .nil, e3, PairsAt.same s3 pW0, LF, .start eE, by rw [eE]; show 1 + _ ≤ _ + 1; omega, (a, b), by rw [eE]; exact List.mem_cons_self, ?_⟩ ?_ ?_
    · have S0 := DSt.start lt eE nd
      exact (S0.dts [a, b] List.mem_cons_self a b (show (a, b) ∈ [(a, b), (b, a)] by simp)).2
    · rintro σ G ⟨L, lws, ws, fs, left, v4, v5, v6, v7, rfl, s4, tb4, r4, rw4, f4, pf4, l4, pl4, LF, run, len, e, he, ne⟩
      have S := run.st lt nd
      have dr4 := drows_of r4 rw4
      have kmem : ∀ {x y}, Adj E x y → x ∈ ks := fun {x y} h => (mem x).mpr (h.elim (fun z => ⟨_, z, .inl rfl⟩) fun z => ⟨_, z, .inr rfl⟩)
      have fks : ∀ f ∈ fs, ∀ x ∈ f, x ∈ ks := fun f hf x hx => kmem (S.dts f hf x (nxI f x) ((cds_nx (S.fld f hf).1).mpr ⟨hx, rfl⟩)).1
      have cl : ∀ k ∈ ks, ∀ j ∈ rowZ E k, j ∈ ks := fun k _ j hj => kmem (mem_rowZ.mp hj).symm
      have rl : ∀ k ∈ ks, (rowZ E k).length ≤ 300 := fun k _ => Nat.le_trans (rowZ_len E k) (by omega)
      have fl : fs.length ≤ 100 := by omega
      have ll : left.length ≤ 100 := by omega
      have lw := pl4.length
      refine ⟨_, rfl, !lws.isEmpty, .inl ⟨lws, SqL.of l4, rfl⟩, ?_⟩
      by_cases c0 : lws = []
      · refine no_ (by rw [c0]; rfl) ?_
        have l0 : left = [] := List.length_eq_zero_iff.mp (by rw [← lw, c0]; rfl)
        subst l0
        exact ⟨_, rfl, kF G F ws ks fs s4 tb4 f4 HF (Paired.mono (fun _ _ q => q.new) pf4) mem run fl⟩
      · have l0 : left ≠ [] := fun z => c0 (List.length_eq_zero_iff.mp (by rw [lw, z]; rfl))
        refine yep_ (by cases lws with | nil => exact absurd rfl c0 | cons a r => rfl) ?_
        refine ⟨_, rfl, _, rfl, F, ws, fs, ks, rfl, SqL.of f4, fld_grp pf4, kl, fks, fun G5 Sh shown s5 nSh dSh srtS memS => ?_⟩
        have snd : shown.Nodup := srtS.imp fun h e => by omega
        have sk : ∀ k ∈ shown, k ∈ ks := fun k hk => by
          obtain ⟨q, hq, hk⟩ := (memS k).mp hk
          exact fks q hq k hk
        have sl : shown.length ≤ 16 := Nat.le_trans (snd.length_le_of_subset fun x hx => sk x hx) kl
        refine ⟨_, rfl, R, Sh, L, _, ks, shown, rowZ E, lws, left, rfl, s5 _ _ r4, by rw [List.map_map]; rfl, dr4.same s5, dSh, s5 _ _ l4, PairsAt.same s5 pl4, kl, ll, knd, snd, sk, cl, rl, fun G6 Bs bws bs s6 dB pB bl B => ?_⟩
        have s46 := s5.trans s6
        have e1 : e.1 ∈ shown := (memS _).mpr (S.shown e.1 e.2 (.inl he) ne)
        have e2 : e.2 ∈ shown := (memS _).mpr (S.shown e.2 e.1 (.inr he) fun z => ne z.symm)
        have bne : bs ≠ [] := fun z => by
          obtain ⟨u, hu⟩ := List.exists_mem_of_ne_nil _ l0
          have hE' : u ∈ E := S.sub u hu
          by_cases q1 : u.1 ∈ shown
          · by_cases q2 : u.2 ∈ shown
            · have := B.ties u hu q1 q2
              rw [z] at this
              cases this
            · obtain ⟨b, hb, _⟩ := B.pts u.2 ((mem _).mpr ⟨u, hE', .inr rfl⟩) q2
              rw [z] at hb
              cases hb
          · obtain ⟨b, hb, _⟩ := B.pts u.1 ((mem _).mpr ⟨u, hE', .inl rfl⟩) q1
            rw [z] at hb
            cases hb
        have ftl : ∀ b ∈ bs, b.2.length ≤ 16 := fun b hb => (brg_in cl B hb).2.2.elim (fun z => by omega) fun z => by omega
        refine ⟨_, rfl, Bs, F, bws, ws, bs, fs, rfl, dB, pB, s46 _ _ f4, Paired.mono (fun _ _ q => q.at.same s46) pf4, fl, by omega, bne, fun b hb => by have := ftl b hb; omega, tb4.ext s46, fun G7 z b eN tb7 hbm cho least => ?_⟩
        obtain ⟨tp, u, hm, rfl, htp, hbr, hh⟩ := cho
        have e47 : ExtN G G7 := (ExtN.of s46).trans eN
        refine ⟨tp, [u, .ref hm], rfl, SqT.of htp, rfl, _, _, rfl, _, _, rfl, rfl, ?_⟩
        refine ⟨_, rfl, !(iL (homesN b.2 fs fs.length)).isEmpty, .inl ⟨_, SqL.of hh, rfl⟩, ?_⟩
        cases ch : homesN b.2 fs fs.length with
        | nil =>
          refine iteT ?_
          exact kN G7 ks fs left shown bs b (s4.trans e47) tb7 mem run memS B hbm ch
        | cons i0 hr0 =>
          refine iteF ?_
          rw [ch] at hh
          have i0m : i0 ∈ homesN b.2 fs fs.length := by rw [ch]; exact List.mem_cons_self
          obtain ⟨i, f, rfl, ef, allf⟩ := mem_homes.mp i0m
          have hf := List.mem_of_getElem? ef
          have il : i < fs.length := (List.getElem?_eq_some_iff.mp ef).1
          obtain ⟨b1n, b1k, _⟩ := brg_in cl B hbm
          have b1l : b.1.length ≤ 16 := Nat.le_trans (b1n.length_le_of_subset fun x hx => b1k x hx) kl
          have b2l := ftl b hbm
          -- path = _path(rows, bridge)
          refine ⟨_, rfl, _, rfl, R, u, ks, rowZ E, b, rfl, dr4.ext e47 r4, hbr, kl, cl, rl, b1n, b1k, fun n1 => ?_, by omega, fun G8 Pa path s8 dP PO => ?_⟩
          · subst hE
            exact feet_ask g ht B (fun k hk => (mem k).mp hk |>.elim fun u hu => ⟨u, hu.1, hu.2.imp Eq.symm Eq.symm⟩) sk he e1 e2 hbm n1
          · obtain ⟨x, y, md, ep, xb, yb, xy, mnd, new, st⟩ := path_ok S memS snd B hbm PO
            have pl := path_len (n := 16) PO b1l b2l
            obtain ⟨A', B', LL, es1, es2⟩ := lay_of S hf (allf x xb) (allf y yb) xy mnd new st
            have step : DRun E ks (fs.eraseIdx i ++ [split1 f path, split2 f path]) (untiedL left path) := .step run memS srtS B hbm least (by rw [ch]; rfl) ef PO
            have less : (untiedL left path).length < left.length := by rw [ep]; exact untied_lt lt S.sub st
            have p2 : 2 ≤ path.length := by rw [ep]; simp
            have pf : path.getD 0 0 ∈ f := by rw [ep]; exact allf x xb
            have plast : lastI path ∈ f := by
              have : lastI path = y := by
                rw [ep]
                unfold lastI
                rw [List.getD_eq_getElem?_getD]
                simp
              rw [this]
              exact allf y yb
            have e48 := e47.trans (ExtN.of s8)
            have L4 : PairsAt G8 lws left := Paired.mono (fun _ _ q => PairAt.ext e48 q) pl4
            -- left = _untied(left, path)
            refine ⟨_, rfl, _, rfl, L, Pa, lws, left, path, rfl, extL e48 l4, L4, dP, by omega, by omega, ll, fun G9 L' lws' s9 nL' dL' pL' => ?_⟩
            have e49 := e48.trans (ExtN.of s9)
            have f9 := extL e49 f4
            have pf9 : Paired (FldN H F G9) ws fs := Paired.mono (fun _ _ q => q.ext e49) pf4
            have h9 := s9 _ _ (s8 _ _ hh)
            have P9 := s9 _ _ dP
            have LF' : L' ≠ F := fun z => by rw [z, extL e48 f4] at nL'; cases nL'
            obtain ⟨v, ev, fa, rfl, hfa, faF, _⟩ := paired_get' pf9 ef
            have wl := pf4.length
            have tb9 : Tabs [(Pt, qLam)] G9 := tb7.ext (s8.trans s9)
            -- field = fields.pop(homes[0])
            refine ⟨_, rfl, .inl ⟨rfl, _, SqL.of f9⟩, _, rfl, hm, iL ((i : Int) :: hr0), 0, .int (i : Int), rfl, rfl, SqL.of h9, atI_nat (j := 0) rfl, ?_⟩
            refine ⟨F, ws, (i : Int), i, .ref fa, rfl, rfl, f9, by omega, by omega, by rw [seqIndex_of (by omega) (by omega), Int.toNat_natCast], ev, ?_⟩
            have eG : ExtN H (upd G9 F (.lst (ws.eraseIdx i))) := ext_write (s4.trans e49) HF
            have tb10 : Tabs [(Pt, qLam)] (upd G9 F (.lst (ws.eraseIdx i))) := tabs_write tb9 f9
            have f10 : (upd G9 F (.lst (ws.eraseIdx i))) F = some (.lst (ws.eraseIdx i)) := upd_same
            have pf10 : Paired (FldN H F (upd G9 F (.lst (ws.eraseIdx i)))) (ws.eraseIdx i) (fs.eraseIdx i) := Paired.mono (fun _ _ q => q.put) (paired_del pf9 i)
            have keep : ∀ {a : Addr} {o : HO}, G9 a = some o → a ≠ F → (upd G9 F (.lst (ws.eraseIdx i))) a = some o := fun {a o} q n => by rw [upd_ne n]; exact q
            have fa10 := keep hfa faF
            have R9 : G9 R = some (.dK (ks.map fun k => ((Sum.inl k : Key), V.ref (adr k)))) := e49 _ _ r4 fun _ z => nomatch z
            have RF : R ≠ F := fun z => by rw [z, f9] at R9; cases R9
            have R10 := keep R9 RF
            have intF : ∀ {a : Addr} {xs : List Int}, G9 a = some (.lst (iL xs)) → a ≠ F := fun {a xs} q z => by
              rw [z, f9] at q
              have e := HO.lst.inj (Option.some.inj q)
              rw [e] at ev
              obtain ⟨y, _, k⟩ := iL_at ev
              cases k
            have P10 := keep P9 (intF P9)
            have L10 := keep dL' LF'
            have pL10 := pairs_over (ys := ws.eraseIdx i) f9 pL'
            have rw10 : ∀ k ∈ ks, (upd G9 F (.lst (ws.eraseIdx i))) (adr k) = some (.lst (iL (rowZ E k))) := fun k hk => keep (extL e49 (rw4 k hk)) (adrF k hk)
            generalize upd G9 F (.lst (ws.eraseIdx i)) = G10 at *
            refine ⟨_, rfl, .inl ⟨rfl, _, SqL.of f10⟩, _, rfl, _, rfl, fa, Pa, f, path, rfl, fa10, P10, by have := (S.fld f hf).1.length_le_of_subset (l₂ := ks) fun x hx => fks f hf x hx; omega, by omega, p2, pf, plast, fun G11 D2 a1 a2 s11 nD na nb _ _ _ dD da db => ?_⟩
            have a1F : a1 ≠ F := fun z => by rw [z, f10] at na; cases na
            have a2F : a2 ≠ F := fun z => by rw [z, f10] at nb; cases nb
            have f11 := s11 _ _ f10
            refine ⟨F, D2, ws.eraseIdx i, [.ref a1, .ref a2], rfl, rfl, f11, dD, smalle (by have := List.length_eraseIdx_le ws i; show _ + 2 ≤ 1000; omega), ?_⟩
            have L11 := s11 _ _ L10
            have pL11 := pairs_over (ys := ws.eraseIdx i ++ [.ref a1, .ref a2]) f11 (PairsAt.same s11 pL10)
            have put : ∀ {a : Addr} {o : HO}, G11 a = some o → a ≠ F → (upd G11 F (.lst (ws.eraseIdx i ++ [.ref a1, .ref a2]))) a = some o := fun {a o} q n => by rw [upd_ne n]; exact q
            have L12 := put L11 LF'
            refine ⟨⟨L', lws', ws.eraseIdx i ++ [.ref a1, .ref a2], fs.eraseIdx i ++ [split1 f path, split2 f path], untiedL left path, _, _, _, _, rfl, ext_write (eG.trans (ExtN.of s11)) HF, tabs_write (tb10.ext s11) f11, put (s11 _ _ R10) RF, fun k hk => put (s11 _ _ (rw10 k hk)) (adrF k hk), upd_same, ?_, L12, pL11, LF', step, ?_, e, he, fun z => ne (z.imp (fun q => (List.mem_filter.mp q).1) fun q => (List.mem_filter.mp q).1)⟩, ?_⟩
            · have q1 : Paired (FldN H F (upd G11 F (.lst (ws.eraseIdx i ++ [.ref a1, .ref a2])))) (ws.eraseIdx i) (fs.eraseIdx i) := Paired.mono (fun _ _ q => (q.ext (ExtN.of s11)).put) pf10
              have q2 := paired_snoc (paired_snoc q1 ⟨a1, rfl, put da a1F, a1F, fun xs q => by rw [extL eG q] at na; cases na⟩) ⟨a2, rfl, put db a2F, a2F, fun xs q => by rw [extL eG q] at nb; cases nb⟩
              rw [List.append_assoc, List.append_assoc] at q2
              exact q2
            · have := List.length_eraseIdx_of_lt il
              rw [List.length_append, this]
              show _ + 2 + _ ≤ _
              omega
            · show (match (upd G11 F (.lst (ws.eraseIdx i ++ [.ref a1, .ref a2]))) L' with | some (.lst xs) => xs.length | _ => 0) < (match G L with | some (.lst xs) => xs.length | _ => 0)
              rw [L12, l4]
              show lws'.length < lws.length
              rw [pL'.length, lw]
              exact less
    · rintro σ G Q1 Q2 hq ⟨v, e1, k, tv, q⟩
      exact ⟨v, e1, k, tv, hq _ _ q⟩
end
end Fd
namespace Fd
open PySem PySem.Spec PyProof.Rows L2 LamX
/-! ### `drawn` -/
/-- a block whose drawing stops: a tightest bridge has no home -/
def NoHome (E : List Tie) : Prop := ∃ (ks : List Int) (fs : List (List Int)) (left : List Tie) (shown : List Int) (bs : List Brg) (b : Brg), (∀ x, x ∈ ks ↔ ∃ u ∈ E, x = u.1 ∨ x = u.2) ∧ DRun E ks fs left ∧ (∀ z, z ∈ shown ↔ ∃ g ∈ fs, z ∈ g) ∧ BrgsOk (rowZ E) ks shown left bs ∧ b ∈ bs ∧ homesN b.2 fs fs.length = []
/-- the turns of some blocks, one behind another -/
inductive DrawnR : List (List Tie) → (Int → List Int) → Prop
  | nil : DrawnR [] fun _ => []
  | more {Bs : List (List Tie)} {row tn : Int → List Int} {E : List Tie} {ks : List Int} {fs : List (List Int)} : DrawnR Bs row → (∀ x, x ∈ ks ↔ ∃ u ∈ E, x = u.1 ∨ x = u.2) → DRun E ks fs [] → (∀ p ∈ ks, TurnBy fs p (tn p)) → (∀ p, p ∉ ks → tn p = []) → DrawnR (Bs ++ [E]) fun p => row p ++ tn p
theorem RowsAt.ext {H0 H H' : Hp} {R : Addr} {as : List Addr} {rss : List (List Int)} (h : RowsAt H0 H R as rss) (s : ExtN H H') : RowsAt H0 H' R as rss :=
  ⟨extL s h.top, h.new, h.len, h.nd, h.out, fun i a r e1 e2 => ⟨(h.row i a r e1 e2).1, extL s (h.row i a r e1 e2).2⟩⟩
theorem map_set {m : Nat} {F F' : Int → List Int} {p : Nat} (hp : p < m) (e : ∀ q : Int, q ≠ p → F' q = F q) : (pts m).map F' = ((pts m).map F).set p (F' p) := by
  refine List.ext_getElem? fun i => ?_
  rw [List.getElem?_set, List.getElem?_map, List.getElem?_map, List.length_map, pts_len]
  have pi : ∀ i, i < m → (pts m)[i]? = some (i : Int) := fun i hi => by
    unfold pts
    rw [List.getElem?_map, List.getElem?_range hi]
    rfl
  by_cases c : p = i
  · subst c
    rw [if_pos rfl, if_pos hp, pi p hp]
    rfl
  · rw [if_neg c]
    by_cases k : i < m
    · rw [pi i k]
      show some (F' i) = some (F i)
      rw [e i (by omega)]
    · have : (pts m)[i]? = none := by
        rw [List.getElem?_eq_none_iff, pts_len]
        omega
      rw [this]
      rfl
/-- all but the tables and these lists stay -/
def KeepN (as : List Addr) (H H' : Hp) : Prop := ∀ b o, H b = some o → (∀ ps, o ≠ .tbl ps) → b ∉ as → H' b = some o
theorem KeepN.of {as : List Addr} {H H' : Hp} (e : ExtN H H') : KeepN as H H' := fun b o h n _ => e b o h n
theorem KeepN.trans {as : List Addr} {H H1 H2 : Hp} (a : KeepN as H H1) (b : KeepN as H1 H2) : KeepN as H H2 := fun c o h n k => b c o (a c o h n k) n k
theorem KeepN.lst {as : List Addr} {H H' : Hp} (e : KeepN as H H') {a : Addr} {xs : List V} (h : H a = some (.lst xs)) (n : a ∉ as) : H' a = some (.lst xs) := e _ _ h (fun _ z => nomatch z) n
theorem KeepN.write {as : List Addr} {H H' : Hp} (e : KeepN as H H') {a : Addr} {o : HO} (ha : a ∈ as) : KeepN as H (upd H' a o) := fun b u h n k => by
  rw [upd_ne (show b ≠ a from fun z => k (z ▸ ha))]
  exact e b u h n k
theorem RowsAt.lstsN {H0 H : Hp} {R : Addr} {as : List Addr} {rss : List (List Int)} (h : RowsAt H0 H R as rss) : ∀ a ∈ as, ∃ xs, H a = some (.lst xs) := fun a ha => by
  obtain ⟨i, hi⟩ := List.mem_iff_getElem?.mp ha
  have l : i < rss.length := by
    rw [← h.len]
    exact (List.getElem?_eq_some_iff.mp hi).1
  exact ⟨_, (h.row i a _ hi (List.getElem?_eq_getElem l)).2⟩
theorem PairAt.keep {as : List Addr} {H H' : Hp} (e : KeepN as H H') (l : ∀ a ∈ as, ∃ xs, H a = some (.lst xs)) {v : V} {t : Tie} (h : PairAt H v t) : PairAt H' v t := by
  obtain ⟨a, e0, k⟩ := h
  refine ⟨a, e0, e _ _ k (fun _ z => nomatch z) fun z => ?_⟩
  obtain ⟨xs, q⟩ := l a z
  rw [k] at q
  cases q
def spDrawn (C Pt : Addr) : Sp := fun vs H Q _ => ∃ (H0 : Hp) (p : Addr) (m : Nat) (ts : List Tie), vs = [.ref p] ∧ WebAt C H0 H p m ts ∧ Good m ts ∧ m ≤ 16 ∧ ts.length ≤ 40 ∧ Tabs [(Pt, qLam)] H ∧
  (∀ H', ExtN H H' → Tabs [(Pt, qLam)] H' → (∃ E ∈ blocksL m ts, NoHome E) → Q .non H') ∧
  ∀ (H' : Hp) (R : Addr) (as : List Addr) (row : Int → List Int), ExtN H H' → Tabs [(Pt, qLam)] H' → RowsAt H H' R as ((pts m).map row) → DrawnR (blocksL m ts) row → Q (.ref R) H'
section
variable {P : Program} {w : World} {K : PySem.W.Frag} {mg : Str → Option Value} {base : Heap} {C c Pt : Addr}
abbrev nDrawn : List Str := ["web", "turns", "block", "fields", "point", "_"]
theorem scDrawn : FnScope nDrawn ["web"] (defScope sDrawn) := ⟨rfl, rfl, rfl, by decide +kernel, rfl, by decide +kernel, by decide +kernel⟩
theorem c_drawn (T : WTxt K mg C) (B : BTxt K mg C) (W4 : Web4 K C) (D : DrTxt K mg base c Pt) (F : Fn K mg "drawn" sDrawn ["web"]) : C8.Cal P w K mg base 8 "drawn" (spDrawn C Pt) [] := by
  refine cal_of F scDrawn (fun vs H Q E h => ?_) (fun f cdv A outer s H vs Q E hr h => ?_)
  · obtain ⟨H0, p, m, ts, rfl, _⟩ := h
    rfl
  · obtain ⟨H0, p, m, ts, rfl, W, g, m16, tl, tabs, kN, kR⟩ := h
    obtain ⟨p0, dx, Rw, aw, hp, _⟩ := id W
    refine ⟨_, pss_cons (ps_setLc (i := 1) (own := [("_", 5)]) (g := gName 5) (tt := tYes) (by rfl) scDrawn.nd rfl rfl (sw_true rfl rfl rfl (by decide +kernel)) (pi_range1 (by rfl) T.range (pa_cons (pe_fld (pv 0) rfl) pa_nil))
        (blkOk_by (own := [("_", 5)]) (N := nDrawn) (sc := defScope sDrawn) (by decide +kernel)) (fun _ _ _ _ _ => pg_name (i := 5) scDrawn.nd rfl (Or.inl rfl)) (fun _ _ _ _ _ => pts_nil) (fun _ _ _ _ _ => pe_lst pa_nil))
      (pss_cons (ps_for PassesOwn.never rfl (pi_list (C8.pe_c (c_blocks T B W4) hr (by decide) (by rfl) (pa_cons (pv 0) pa_nil))) (pg_name (i := 2) scDrawn.nd rfl (Or.inl rfl))
        (pss_cons (ps_set (i := 3) scDrawn.nd rfl (Or.inl rfl) (C8.pe_c (c_fields T D) hr (by decide) (by rfl) (pa_cons (pv 2) pa_nil)))
        (pss_cons (ps_if (pt_cmpR op_isN (pv 3) pe_non (nomark _)) (pss_one (ps_ret pe_non)) pss_nil)
        (pss_one (ps_for PassesOwn.never rfl (pi_list (C8.pe_c (c_points T D.fPoints) hr (by decide) (by rfl) (pa_cons (pv 2) pa_nil))) (pg_name (i := 4) scDrawn.nd rfl (Or.inl rfl))
          (pss_one (ps_expr (pe_bm PySem.F.plainAttrs_list PySem.F.slot_list_extend PySem.F.type_list_extend mt_extend (pe_ix ix_list (pv 1) (pv 4) (fun _ _ => rfl)) (pa_cons (C8.pe_c (c_turn T D.min_ D.fTurn) hr (by decide) (by rfl) (pa_cons (pv 3) (pa_cons (pv 4) pa_nil))) pa_nil)))))))))
      (pss_one (ps_ret (pv 1)))), ?_⟩
    refine ⟨_, rfl, p, C, dx, _, _, rfl, hp, T.cl, T.nMany, wF_many _ _, (m : Int), rfl, by omega, by omega, fun R hR => ?_⟩
    refine lc_range (lo := 0) (n := (m : Int).toNat) (fun i H1 => Same H H1 ∧ ∃ bs, RowsAt H H1 R bs (List.replicate i [])) ⟨Same.put hR, [], RowsAt.start hR⟩ (fun i H1 hi ⟨s1, bs, r1⟩ => ?_) (fun H1 ⟨s1, as, r1⟩ => ?_)
    · refine ⟨rfl, ?_⟩
      refine yes_ ?_
      refine iteT ?_
      refine ⟨Nat.zero_le _, fun q hq => ?_⟩
      have qR : R ≠ q := ne_of_none r1.top hq
      refine ⟨bs.map V.ref, by rw [upd_ne qR]; exact r1.top, ?_, Same.write (Same.step s1 hq) hR, bs ++ [q], ?_⟩
      · rw [List.length_map, r1.len, List.length_replicate]
        exact small (by omega)
      · rw [List.replicate_succ']
        have z := r1.more (r := []) s1 hq
        exact z
    · rw [Int.toNat_natCast] at r1
      have r0 : RowsAt H H1 R as ((pts m).map fun _ => []) := by
        have e : (pts m).map (fun _ => ([] : List Int)) = List.replicate m [] := by
          rw [List.map_const', pts_len]
        rw [e]
        exact r1
      -- for block in blocks(web)
      refine ⟨_, rfl, H0, p, m, ts, rfl, W.same s1, g, m16, tl, fun H2 Bl bas s2 fo => ?_⟩
      have s02 := s1.trans s2
      have blen : bas.length = (blocksL m ts).length := fo.row.length
      have told : ∀ E ∈ blocksL m ts, ∃ t ∈ toldT m ts, E = blkL m ts t := fun E hE => by
        obtain ⟨t, ht, e⟩ := List.mem_map.mp hE
        exact ⟨t, (List.mem_filter.mp ht).1, e.symm⟩
      have ls2 := (r0.same s2).lstsN
      have off : ∀ a, H1 a = none → a ∉ as := fun a n z => by
        obtain ⟨xs, q⟩ := r0.lstsN a z
        rw [n] at q
        cases q
      have nBl := off Bl fo.new
      refine ⟨Bl, rfl, ⟨_, SqL.of fo.top⟩, for_list (K := K) (a := Bl) (xs := bas.map V.ref) (fun n σ G => ∃ (v2 v3 v4 : Option V) (row : Int → List Int), σ = [some (.ref p), some (.ref R), v2, v3, v4, none] ∧ KeepN as H2 G ∧ ExtN H G ∧ Tabs [(Pt, qLam)] G ∧ RowsAt H G R as ((pts m).map row) ∧ DrawnR ((blocksL m ts).take n) row ∧ ∀ z, (row z).length ≤ 16 * n)
        ⟨none, none, none, _, rfl, KeepN.of (ExtN.refl _), ExtN.of s02, tabs.ext s02, r0.same s2, .nil, fun _ => Nat.le_refl _⟩ (fun n σ G _ ⟨_, _, _, _, _, e2, _⟩ => SqL.of (e2.lst fo.top nBl)) ?_ ?_⟩
      · rintro n x σ G hn ⟨v2, v3, v4, row, rfl, e2, e0, tb, rw2, dr, rbd⟩
        rw [List.getElem?_map] at hn
        cases eb : bas[n]? with
        | none => rw [eb] at hn; cases hn
        | some ba =>
          rw [eb] at hn
          cases Option.some.inj hn
          obtain ⟨E, eE, nba, bw, hba, pba⟩ := paired_get fo.row eb
          have nba := off ba nba
          have mE := List.mem_of_getElem? eE
          obtain ⟨t, ht, rfl⟩ := told E mE
          have hbaG := e2.lst hba nba
          have pbaG : PairsAt G bw (blkL m ts t) := Paired.mono (fun _ _ q => PairAt.keep e2 ls2 q) pba
          refine ⟨_, rfl, ba, bw, m, ts, t, rfl, hbaG, pbaG, g, ht, m16, tl, tb, fun G3 ks fs left shown bs b e3 tb3 mem run memS BO hb nh => ?_, fun G3 Fl fw ks fs e3 tb3 hFl nFl pFl mem run fl => ?_⟩
          · refine ⟨_, rfl, rfl, _, rfl, ?_⟩
            refine yep_ (show decide (V.non = V.non) = true from decide_eq_true rfl) ?_
            exact kN G3 (e0.trans e3) tb3 ⟨_, mE, ks, fs, left, shown, bs, b, mem, run, memS, BO, hb, nh⟩
          · refine ⟨_, rfl, rfl, _, rfl, ?_⟩
            refine no_ (show decide (V.ref Fl = V.non) = false from decide_eq_false fun z => nomatch z) ?_
            have lt : ∀ u ∈ blkL m ts t, u.1 < u.2 := fun u hu => (told_rng g (((mem_blkL g ht).mp hu).told g ht)).2.1
            have rng : ∀ u ∈ blkL m ts t, 0 ≤ u.1 ∧ u.2 < m := fun u hu => by
              have := told_rng g (((mem_blkL g ht).mp hu).told g ht)
              exact ⟨this.1, this.2.2.1⟩
            have nd : (blkL m ts t).Nodup := (blkL_strict g t).imp fun {a b} (h : lexT a b) (e : a = b) => lexT_irr a (by rw [← e] at h; exact h)
            have S := run.st lt nd
            have inn : ∀ u ∈ blkL m ts t, u.1 ∈ pts m ∧ u.2 ∈ pts m := fun u hu => by
              have r1 := rng u hu
              have r2 := lt u hu
              exact ⟨mem_pts.mpr ⟨r1.1, by omega⟩, mem_pts.mpr ⟨by omega, r1.2⟩⟩
            have e03 := e0.trans e3
            -- for point in _points(block)
            refine ⟨_, rfl, ba, bw, (blkL m ts t).map (fun u : Tie => [u.1, u.2]), pts m, rfl, SqL.of (extL e3 hbaG), grp_ties (Paired.mono (fun _ _ q => PairAt.ext e3 q) pbaG), by rw [pts_len]; exact m16, fun q hq x hx => ?_, fun G4 Po out s4 nPo dPo srt memO => ?_⟩
            · obtain ⟨u, hu, rfl⟩ := List.mem_map.mp hq
              rcases List.mem_cons.mp hx with rfl | hx
              · exact (inn u hu).1
              · rw [List.mem_singleton.mp hx]
                exact (inn u hu).2
            · have memK : ∀ x, x ∈ out ↔ x ∈ ks := fun x => by
                rw [memO, mem]
                constructor
                · rintro ⟨q, hq, hx⟩
                  obtain ⟨u, hu, rfl⟩ := List.mem_map.mp hq
                  exact ⟨u, hu, by simpa using hx⟩
                · rintro ⟨u, hu, hx⟩
                  exact ⟨_, List.mem_map.mpr ⟨u, hu, rfl⟩, by simpa using hx⟩
              have ond : out.Nodup := srt.imp fun h e => by omega
              have kpt : ∀ x ∈ ks, x ∈ pts m := fun x hx => by
                obtain ⟨u, hu, z | z⟩ := (mem x).mp hx
                · rw [z]; exact (inn u hu).1
                · rw [z]; exact (inn u hu).2
              have e04 := e03.trans (ExtN.of s4)
              have tb4 := tb3.ext s4
              have rw4 := (rw2.ext e3).same s4
              have Fl4 := s4 _ _ hFl
              have pFl4 : Paired (FldNew G G4) fw fs := Paired.mono (fun _ _ ⟨a, e, k, n⟩ => ⟨a, e, s4 _ _ k, n⟩) pFl
              have lsG := rw2.lstsN
              have offG : ∀ a, (∀ xs, G a ≠ some (.lst xs)) → a ∉ as := fun a n z => by
                obtain ⟨xs, q⟩ := lsG a z
                exact n xs q
              have nPo2 : Po ∉ as := offG Po fun xs q => by rw [extL e3 q] at nPo; cases nPo
              have nFl2 : Fl ∉ as := offG Fl fun xs q => by rw [nFl] at q; cases q
              have ksl : ks.length ≤ 16 ∨ True := .inr trivial
              have fks : ∀ f ∈ fs, ∀ x ∈ f, x ∈ ks := fun f hf x hx => (mem x).mpr (by
                have q := (S.dts f hf x (nxI f x) ((cds_nx (S.fld f hf).1).mpr ⟨hx, rfl⟩)).1
                exact q.elim (fun z => ⟨_, z, .inl rfl⟩) fun z => ⟨_, z, .inr rfl⟩)
              refine ⟨Po, rfl, ⟨_, SqL.of dPo⟩, for_list (K := K) (a := Po) (xs := iL out) (fun j σ G5 => ∃ (v4 : Option V) (tn : Int → List Int), σ = [some (.ref p), some (.ref R), some (.ref ba), some (.ref Fl), v4, none] ∧ KeepN as G4 G5 ∧ ExtN H G5 ∧ Tabs [(Pt, qLam)] G5 ∧ RowsAt H G5 R as ((pts m).map fun q => row q ++ tn q) ∧ (∀ q ∈ out.take j, TurnBy fs q (tn q)) ∧ (∀ q, q ∉ out.take j → tn q = []) ∧ ∀ q, (tn q).length ≤ 16)
                ⟨_, fun _ => [], rfl, KeepN.of (ExtN.refl _), e04, tb4, by simpa using rw4, fun q hq => absurd hq (by simp), fun _ _ => rfl, fun _ => Nat.zero_le _⟩ (fun j σ G5 _ ⟨_, _, _, k5, _⟩ => SqL.of (k5.lst dPo nPo2)) ?_ ?_⟩
              · rintro j x σ G5 hj ⟨v4, tn, rfl, k5, e5, tb5, rw5, T5, N5, B5⟩
                obtain ⟨z, ez, rfl⟩ := iL_at hj
                have zo : z ∈ out := List.mem_of_getElem? ez
                have zk := (memK z).mp zo
                obtain ⟨z0, zm⟩ := mem_pts.mp (kpt z zk)
                obtain ⟨q, rfl⟩ : ∃ q : Nat, z = q := ⟨z.toNat, by omega⟩
                have qm : q < m := by omega
                have rat : ((pts m).map fun q => row q ++ tn q)[q]? = some (row q ++ tn q) := by
                  rw [List.getElem?_map]
                  unfold pts
                  rw [List.getElem?_map, List.getElem?_range qm]
                  rfl
                obtain ⟨ra, era, era2, _, hra⟩ := rw5.get rat
                have ram := List.mem_of_getElem? era
                have t0 : tn q = [] := N5 _ (nd_not ond ez)
                have Fl5 := k5.lst Fl4 nFl2
                have pFl5 : Paired (FldAt G5) fw fs := Paired.mono (fun _ _ ⟨a, e, k, n⟩ => ⟨a, e, k5.lst k (offG a n)⟩) pFl4
                obtain ⟨ns, TB, hns⟩ := S.turn q (by
                  obtain ⟨u, hu, e | e⟩ := (mem _).mp zk
                  · rw [e]
                    exact S.shown u.1 u.2 (.inl hu) fun z => by rcases z with z | z <;> cases z
                  · rw [e]
                    exact S.shown u.2 u.1 (.inr hu) fun z => by rcases z with z | z <;> cases z)
                have nsk : ∀ y ∈ ns, y ∈ pts m := fun y hy => by
                  rcases ((hns y).mp hy).1 with z | z
                  · exact (inn _ z).2
                  · exact (inn _ z).1
                have nsl : ns.length ≤ 16 := by
                  have := TB.nd.length_le_of_subset (l₂ := pts m) nsk
                  rw [pts_len] at this
                  omega
                have fll : ∀ f ∈ fs, f.length ≤ 200 := fun f hf => by
                  have := (S.fld f hf).1.length_le_of_subset (l₂ := pts m) fun x hx => kpt x (fks f hf x hx)
                  rw [pts_len] at this
                  omega
                -- turns[point].extend(_turn(fields, point))
                have nlt : n < 40 := by
                  have h1 := (List.getElem?_eq_some_iff.mp eE).1
                  have h2 : (blocksL m ts).length ≤ (toldT m ts).length := by
                    unfold blocksL
                    rw [List.length_map]
                    exact List.length_filter_le _ _
                  rw [toldT_len g] at h2
                  omega
                have rb := rbd q
                refine ⟨_, rfl, _, rfl, R, as.map V.ref, (q : Int), .ref ra, rfl, rfl, SqL.of rw5.top, atI_nat era2, .inl ⟨rfl, _, SqL.of hra⟩, _, rfl, _, rfl, Fl, (q : Int), fw, fs, ns, rfl, Fl5, pFl5, fl, fll, by omega, TB.ask S.fld, fun G6 Tn k0 s6 nTn hk dTn => ?_⟩
                have hra6 := s6 _ _ hra
                have rl := rot_len ns k0
                refine ⟨ra, Tn, _, _, rfl, rfl, hra6, dTn, smalle (by rw [List.length_map, List.length_map, List.length_append, t0, rl, List.length_nil]; omega), ?_⟩
                have e6 : iL (row q ++ tn q) ++ iL (rotL ns k0) = iL (row q ++ rotL ns k0) := by
                  rw [t0, List.append_nil]
                  unfold iL
                  rw [List.map_append]
                rw [e6]
                have rw6 := (rw5.same s6).write (r := row q ++ rotL ns k0) era
                let tn' : Int → List Int := fun z => if z = (q : Int) then rotL ns k0 else tn z
                have tq : tn' q = rotL ns k0 := if_pos rfl
                have to : ∀ z : Int, z ≠ q → tn' z = tn z := fun z h => if_neg h
                have es : (pts m).map (fun z => row z ++ tn' z) = ((pts m).map fun z => row z ++ tn z).set q (row q ++ rotL ns k0) := by
                  have z := map_set (F := fun z => row z ++ tn z) (F' := fun z => row z ++ tn' z) qm fun z h => by
                    show row z ++ tn' z = row z ++ tn z
                    rw [to z h]
                  rw [z]
                  show List.set _ q (row q ++ tn' q) = _
                  rw [tq]
                rw [← es] at rw6
                have e56 := e5.trans (ExtN.of s6)
                have Hra : H ra = none := by
                  obtain ⟨_, _, _, h, _⟩ := rw5.get rat
                  exact (rw5.row q ra _ era rat).1
                refine ⟨_, tn', rfl, (k5.trans (KeepN.of (ExtN.of s6))).write ram, ext_write e56 Hra, tabs_write (tb5.ext s6) hra6, rw6, fun z hz => ?_, fun z hz => ?_, fun z => ?_⟩
                · rw [take_next ez] at hz
                  by_cases c : z = (q : Int)
                  · subst c
                    rw [tq]
                    exact TB.rot k0
                  · rw [to z c]
                    rcases List.mem_append.mp hz with h | h
                    · exact T5 z h
                    · exact absurd (List.mem_singleton.mp h) c
                · rw [take_next ez] at hz
                  have c : z ≠ (q : Int) := fun c => hz (List.mem_append_right _ (by rw [c]; exact List.mem_singleton.mpr rfl))
                  rw [to z c]
                  exact N5 z fun h => hz (List.mem_append_left _ h)
                · by_cases c : z = (q : Int)
                  · subst c
                    rw [tq, rl]
                    exact nsl
                  · rw [to z c]
                    exact B5 z
              · rintro σ G5 ⟨v4, tn, rfl, k5, e5, tb5, rw5, T5, N5, B5⟩
                rw [List.length_map, List.take_length] at T5 N5
                refine ⟨_, _, _, fun q => row q ++ tn q, rfl, (e2.trans (KeepN.of (e3.trans (ExtN.of s4)))).trans k5, e5, tb5, rw5, ?_, fun z => by have := rbd z; have := B5 z; rw [List.length_append]; omega⟩
                rw [take_next eE]
                exact .more dr mem run (fun q hq => T5 q ((memK q).mpr hq)) fun q hq => N5 q fun z => hq ((memK q).mp z)
      · rintro σ G ⟨v2, v3, v4, row, rfl, e2, e0, tb, rw2, dr, rbd⟩
        rw [List.length_map, blen, List.take_length] at dr
        exact ⟨_, rfl, kR G R as row e0 tb rw2 dr⟩
end
end Fd
namespace Fd
open PySem PySem.Spec PyProof.Rows L2
/-! ### the turns that are drawn are lists of the neighbours -/
theorem TurnBy.mem_iff {fs : List (List Int)} {p : Int} {ns : List Int} (h : TurnBy fs p ns) (nd : ∀ f ∈ fs, f.Nodup ∧ 2 ≤ f.length) {y : Int} : y ∈ ns ↔ ∃ f ∈ fs, (y, p) ∈ cds f := by
  refine ⟨h.all y, fun ⟨f, hf, k⟩ => ?_⟩
  have hp := (cds_in k).2
  exact (cds_in (h.go f hf y _ k ((cds_nx (nd f hf).1).mpr ⟨hp, rfl⟩))).1
theorem DRun.turn {E : List Tie} {ks : List Int} {fs : List (List Int)} (lt : ∀ t ∈ E, t.1 < t.2) (nd : E.Nodup) (mem : ∀ x, x ∈ ks ↔ ∃ u ∈ E, x = u.1 ∨ x = u.2) (run : DRun E ks fs []) {p : Int} {ns : List Int} (hp : p ∈ ks) (T : TurnBy fs p ns) : ∀ y, y ∈ ns ↔ Adj E p y := fun y => by
  have S := run.st lt nd
  have no : ∀ a b, ¬ Adj ([] : List Tie) a b := fun a b z => by rcases z with z | z <;> cases z
  obtain ⟨ns', T', h'⟩ := S.turn p (by
    obtain ⟨u, hu, e | e⟩ := (mem _).mp hp
    · rw [e]
      exact S.shown u.1 u.2 (.inl hu) (no _ _)
    · rw [e]
      exact S.shown u.2 u.1 (.inr hu) (no _ _))
  rw [T.mem_iff S.fld, ← T'.mem_iff S.fld, h']
  exact ⟨fun z => z.1, fun z => ⟨z, no _ _⟩⟩
theorem adj_in {E E' : List Tie} (l1 : ∀ t ∈ E, t.1 < t.2) (l2 : ∀ t ∈ E', t.1 < t.2) {p y : Int} (h1 : Adj E p y) (h2 : Adj E' p y) : ∃ u, u ∈ E ∧ u ∈ E' := by
  rcases h1 with a | a <;> rcases h2 with b | b
  · exact ⟨_, a, b⟩
  · have := l1 _ a
    have := l2 _ b
    simp only at *
    omega
  · have := l1 _ a
    have := l2 _ b
    simp only at *
    omega
  · exact ⟨_, a, b⟩
theorem DrawnR.rows {Bs : List (List Tie)} {row : Int → List Int} (h : DrawnR Bs row) (ok : ∀ E ∈ Bs, (∀ t ∈ E, t.1 < t.2) ∧ E.Nodup) (dis : Bs.Pairwise fun E E' => ∀ u ∈ E, u ∉ E') (p : Int) : (row p).Nodup ∧ ∀ y, y ∈ row p ↔ ∃ E ∈ Bs, Adj E p y := by
  induction h with
  | nil => exact ⟨.nil, fun y => by simp⟩
  | @more Bs row tn E ks fs _ mem run hT hN ih =>
    obtain ⟨d1, _, d3⟩ := List.pairwise_append.mp dis
    obtain ⟨n1, m1⟩ := ih (fun E' hE => ok E' (List.mem_append_left _ hE)) d1
    obtain ⟨lt, nd⟩ := ok E (by simp)
    have m2 : (tn p).Nodup ∧ ∀ y, y ∈ tn p ↔ Adj E p y := by
      by_cases hp : p ∈ ks
      · exact ⟨(hT p hp).nd, run.turn lt nd mem hp (hT p hp)⟩
      · rw [hN p hp]
        refine ⟨.nil, fun y => ⟨(fun z => nomatch z), fun z => absurd ((mem p).mpr ?_) hp⟩⟩
        exact z.elim (fun q => ⟨_, q, .inl rfl⟩) fun q => ⟨_, q, .inr rfl⟩
    refine ⟨List.nodup_append.mpr ⟨n1, m2.1, fun a ha b hb e => ?_⟩, fun y => ?_⟩
    · subst e
      obtain ⟨E', hE', q⟩ := (m1 a).mp ha
      obtain ⟨u, u1, u2⟩ := adj_in (ok E' (List.mem_append_left _ hE')).1 lt q ((m2.2 a).mp hb)
      exact d3 E' hE' E (by simp) u u1 u2
    · rw [List.mem_append, m1, m2.2]
      constructor
      · rintro (⟨E', h1, h2⟩ | h)
        · exact ⟨E', List.mem_append_left _ h1, h2⟩
        · exact ⟨E, by simp, h⟩
      · rintro ⟨E', h1, h2⟩
        rcases List.mem_append.mp h1 with z | z
        · exact .inl ⟨E', z, h2⟩
        · rw [List.mem_singleton.mp z] at h2
          exact .inr h2
theorem lexT_asm {a b : Tie} (h : lexT a b) : ¬ lexT b a := lexT_asymm h
theorem blocks_ok {m : Nat} {ts : List Tie} (g : Good m ts) : ∀ E ∈ blocksL m ts, (∀ t ∈ E, t.1 < t.2) ∧ E.Nodup := fun E hE => by
  obtain ⟨t, ht, rfl⟩ := List.mem_map.mp hE
  have ht := (List.mem_filter.mp ht).1
  exact ⟨fun u hu => (told_rng g (((mem_blkL g ht).mp hu).told g ht)).2.1, (blkL_strict g t).imp fun {a b} (h : lexT a b) (e : a = b) => lexT_irr a (by rw [← e] at h; exact h)⟩
theorem head_least {m : Nat} {ts : List Tie} (g : Good m ts) {t : Tie} (ht : t ∈ toldT m ts) (hh : headT m ts t = true) : ∀ u, Blk m ts t u → u = t ∨ lexT t u := fun u hu => by
  cases e : blkL m ts t with
  | nil =>
    unfold headT at hh
    rw [decide_eq_true_iff, e] at hh
    cases hh
  | cons c r =>
    have hs := blkL_strict g t
    unfold headT at hh
    rw [decide_eq_true_iff, e] at hh
    have ec : c = t := Option.some.inj hh
    subst ec
    rw [e] at hs
    have hm := (mem_blkL g ht).mpr hu
    rw [e] at hm
    rcases List.mem_cons.mp hm with q | q
    · exact .inl q
    · exact .inr ((List.pairwise_cons.mp hs).1 u q)
theorem blocks_dis {m : Nat} {ts : List Tie} (g : Good m ts) : (blocksL m ts).Pairwise fun E E' => ∀ u ∈ E, u ∉ E' := by
  unfold blocksL
  rw [List.pairwise_map]
  refine ((toldT_strict g).filter _).imp_of_mem fun {t t'} h1 h2 l u u1 u2 => ?_
  obtain ⟨a1, _⟩ := List.mem_filter.mp h1
  obtain ⟨a2, b2⟩ := List.mem_filter.mp h2
  have q1 := (mem_blkL g a1).mp u1
  have q2 := (mem_blkL g a2).mp u2
  rcases head_least g a2 b2 t (q2.trans (q1.symm g a1)) with e | e
  · rw [e] at l
    exact lexT_irr _ l
  · exact lexT_asm l e
theorem blocks_adj {m : Nat} {ts : List Tie} (g : Good m ts) {p y : Int} : Adj ts p y ↔ ∃ E ∈ blocksL m ts, Adj E p y := by
  constructor
  · intro a
    have hu := norm_told g a
    -- the least of its block
    have least : ∃ c, Blk m ts (norm (p, y)) c ∧ headT m ts c = true := by
      cases e : blkL m ts (norm (p, y)) with
      | nil =>
        have := (mem_blkL g hu).mpr .here
        rw [e] at this
        cases this
      | cons c r =>
        have hs := blkL_strict g (norm (p, y))
        rw [e] at hs
        have hc : Blk m ts (norm (p, y)) c := (mem_blkL g hu).mp (by rw [e]; exact List.mem_cons_self)
        have tc := hc.told g hu
        refine ⟨c, hc, ?_⟩
        unfold headT
        rw [decide_eq_true_iff]
        have hs2 := blkL_strict g c
        cases e2 : blkL m ts c with
        | nil =>
          have := (mem_blkL g tc).mpr .here
          rw [e2] at this
          cases this
        | cons d r2 =>
          rw [e2] at hs2
          have hd : Blk m ts c d := (mem_blkL g tc).mp (by rw [e2]; exact List.mem_cons_self)
          have m1 : d = c ∨ lexT c d := by
            have q := (mem_blkL g hu).mpr (hc.trans hd)
            rw [e] at q
            rcases List.mem_cons.mp q with z | z
            · exact .inl z
            · exact .inr ((List.pairwise_cons.mp hs).1 d z)
          have m2 : c = d ∨ lexT d c := by
            have q := (mem_blkL g tc).mpr (.here (t := c))
            rw [e2] at q
            rcases List.mem_cons.mp q with z | z
            · exact .inl z
            · exact .inr ((List.pairwise_cons.mp hs2).1 c z)
          rcases m1 with z | z
          · rw [z]
            rfl
          · rcases m2 with w | w
            · rw [w]
              rfl
            · exact absurd w (lexT_asm z)
    obtain ⟨c, hc, hh⟩ := least
    have tc := hc.told g hu
    exact ⟨blkL m ts c, List.mem_map.mpr ⟨c, List.mem_filter.mpr ⟨tc, hh⟩, rfl⟩, blk_adj g tc (hc.symm g hu)⟩
  · rintro ⟨E, hE, a⟩
    obtain ⟨t, ht, rfl⟩ := List.mem_map.mp hE
    have ht := (List.mem_filter.mp ht).1
    have one : ∀ u ∈ blkL m ts t, Adj ts u.1 u.2 := fun u hu => (told_rng g (((mem_blkL g ht).mp hu).told g ht)).2.2.2
    rcases a with a | a
    · exact one _ a
    · exact (one _ a).symm
/-- what is drawn at a point are its neighbours -/
theorem drawn_perm {m : Nat} {ts : List Tie} (g : Good m ts) {row : Int → List Int} (h : DrawnR (blocksL m ts) row) (p : Int) : (row p).Perm (rowOf m ts p) := by
  obtain ⟨n, mm⟩ := h.rows (blocks_ok g) (blocks_dis g) p
  refine (List.perm_ext_iff_of_nodup n (rowOf_nodup m ts p)).mpr fun y => ?_
  rw [mm, mem_rowOf g, blocks_adj g]
end Fd
namespace Fd
open PySem PySem.Spec PyProof.Rows L2
/-! ### pieces -/
noncomputable def isHead (m : Nat) (ts : List Tie) (p : Int) : Bool := decide ((reachL m ts none p)[0]? = some p)
noncomputable def piecesL (m : Nat) (ts : List Tie) : List (List Int) := ((pts m).filter (isHead m ts)).map (reachL m ts none)
theorem piecesL_len {m : Nat} {ts : List Tie} {r : List Int} (h : r ∈ piecesL m ts) : r.length ≤ m := by
  unfold piecesL at h
  obtain ⟨z, _, e⟩ := List.mem_map.mp h
  rw [← e]
  exact reachL_len m ts none z
theorem reachL_head {m : Nat} {ts : List Tie} {bar : Option Int} {s : Nat} (g : Good m ts) (hs : s < m) : ∃ h : Int, (reachL m ts bar s)[0]? = some h := by
  have hm : (s : Int) ∈ reachL m ts bar s := (mem_reachL g (by omega)).mpr .here
  cases e : reachL m ts bar s with
  | nil =>
    rw [e] at hm
    cases hm
  | cons a l => exact ⟨a, rfl⟩
def spPieces (C : Addr) : Sp := fun vs H Q _ => ∃ (H0 : Hp) (p : Addr) (m : Nat) (ts : List Tie), vs = [.ref p] ∧ WebAt C H0 H p m ts ∧ Good m ts ∧ m ≤ 16 ∧
  ∀ (H' : Hp) (D : Addr) (as : List Addr), Same H H' → RowsAt H H' D as (piecesL m ts) → Q (.ref D) H'
section
variable {P : Program} {w : World} {K : PySem.W.Frag} {mg : Str → Option Value} {base : Heap} {C : Addr}
abbrev nPieces : List Str := ["self", "around", "point", "piece"]
theorem scPieces : FnScope ["self", "around", "point", "piece"] ["self"] (defScope sWebPieces) := ⟨rfl, rfl, rfl, by decide +kernel, rfl, by decide +kernel, by decide +kernel⟩
theorem c_pieces (T : WTxt K mg C) (F : FnR K mg) (FP : FnM K C "pieces" "Web.pieces" sWebPieces ["self"]) (hen : mg "enumerate" = none) : C8.Met P w K mg base 2 C "pieces" (spPieces C) [] := by
  refine met_of T.cl FP scPieces (fun vs H Q E h => ?_) (fun f cdv A outer s H vs Q E hr h => ?_)
  · obtain ⟨H0, p, m, ts, rfl, _⟩ := h
    rfl
  · obtain ⟨H0, p, m, ts, rfl, W, g, m16, k⟩ := h
    obtain ⟨p0, dx, R, as, hp, r⟩ := id W
    obtain ⟨B0, hB0, cR, _⟩ := c_reached (P := P) (w := w) (base := base) T F
    refine ⟨_, pss_cons (ps_setLc (i := 1) (own := [("point", 2)]) (g := gName 2) (tt := tYes) (te := tCall (spReached K) [.ref B0] C8.E0 (tCons (tFld K (tVar 0) "_rows") (tCons (tVar 2) tNil)))
        (by rfl) scPieces.nd rfl rfl (sw_true rfl rfl rfl (by decide +kernel)) (pi_range1 (by rfl) T.range (pa_cons (pe_fld (pv 0) rfl) pa_nil))
        (blkOk_by (own := [("point", 2)]) (N := nPieces) (sc := defScope sWebPieces) (by decide +kernel)) (fun _ _ _ _ _ => pg_name (i := 2) scPieces.nd rfl (Or.inl rfl)) (fun _ _ _ _ _ => pts_nil)
        (fun _ _ _ _ _ => C8.pe_c cR hr (by decide) (by rfl) (pa_cons (pe_fld (pv 0) rfl) (pa_cons (pv 2) pa_nil))))
      (pss_one (ps_ret (pe_lc (own := [("point", 2), ("piece", 3)]) (g := gTup K 2 (gCons (gName 2) (gCons (gName 3) gNil))) (tt := tTest (tOp rEq (tOp (rIxL K) (tVar 3) (tC (.int 0))) (tVar 2))) (te := tVar 3)
        (by rfl) scPieces.nd (pi_enum (by rfl) hen (pa_cons (pv 1) pa_nil))
        (blkOk_by (own := [("point", 2), ("piece", 3)]) (N := nPieces) (sc := defScope sWebPieces) (by decide +kernel))
        (fun _ _ _ _ _ => pg_tup (by rfl) (pgs_cons (pg_name (i := 2) scPieces.nd rfl (Or.inl rfl)) (pgs_cons (pg_name (i := 3) scPieces.nd rfl (Or.inl rfl)) pgs_nil)))
        (fun _ _ _ _ _ => pts_one (pt_cmpR op_eq (pe_ix ix_list (pv 3) pe_int (fun _ _ => rfl)) (pv 2) (nomark _)))
        (fun _ _ _ _ _ => pv 3)))), ?_⟩
    -- around = [reached(self._rows, point) for point in range(self.many)]
    refine ⟨_, rfl, p, C, dx, _, _, rfl, hp, T.cl, T.nMany, wF_many _ _, (m : Int), rfl, by omega, by omega, fun A1 hA => ?_⟩
    refine lc_range (lo := 0) (n := (m : Int).toNat) (fun i H1 => Same H H1 ∧ ∃ bs, RowsAt H H1 A1 bs ((pts i).map (reachL m ts none))) ⟨Same.put hA, [], RowsAt.start hA⟩ (fun i H1 hi ⟨s1, bs, r1⟩ => ?_) (fun H1 ⟨s1, bs, r1⟩ => ?_)
    · rw [Int.toNat_natCast] at hi
      rw [Int.zero_add]
      refine ⟨rfl, ?_⟩
      refine yes_ ?_
      refine iteT ?_
      refine ⟨_, rfl, p, C, dx, _, _, rfl, s1 _ _ hp, T.cl, T.nRows, wF_rows _ _, _, rfl, R, as, m, ts, i, none, B0, rfl, .inr ⟨rfl, hB0⟩, r.rd.same s1, g, m16, hi, fun H2 D s2 hD d2 => ?_⟩
      -- the new row
      have AD : A1 ≠ D := ne_of_none r1.top hD
      have r2 := r1.same s2
      refine ⟨bs.map V.ref, s2 _ _ r1.top, ?_, Same.write (s1.trans s2) hA, bs ++ [D], ?_⟩
      · rw [List.length_map, r1.len, List.length_map, pts_len]
        exact small (by omega)
      · rw [pts_succ, List.map_append]
        have Das : D ∉ bs := fun hm => by
          obtain ⟨j, hj⟩ := List.mem_iff_getElem?.mp hm
          have hj2 : j < ((pts i).map (reachL m ts none)).length := by
            rw [← r1.len]
            exact (List.getElem?_eq_some_iff.mp hj).1
          have q := (r1.row j D _ hj (List.getElem?_eq_getElem hj2)).2
          rw [hD] at q
          cases q
        refine ⟨by rw [upd_same, List.map_append]; rfl, hA, by simp [r1.len], List.nodup_append.mpr ⟨r1.nd, by simp, fun x hx y hy e => ?_⟩, fun hm => ?_, fun j a q e1 e2 => ?_⟩
        · rw [List.mem_singleton.mp hy] at e
          exact Das (e ▸ hx)
        · rcases List.mem_append.mp hm with c | c
          · exact r1.out c
          · exact AD (List.mem_singleton.mp c)
        · by_cases hj : j < bs.length
          · rw [List.getElem?_append_left hj] at e1
            rw [List.getElem?_append_left (by rw [← r1.len]; exact hj)] at e2
            obtain ⟨k1, k2⟩ := r2.row j a q e1 e2
            have aA : a ≠ A1 := fun e => r1.out (e ▸ List.mem_of_getElem? e1)
            exact ⟨k1, by rw [upd_ne aA]; exact k2⟩
          · have hj' : bs.length ≤ j := Nat.le_of_not_lt hj
            rw [List.getElem?_append_right hj'] at e1
            rw [List.getElem?_append_right (by rw [← r1.len]; exact hj')] at e2
            obtain ⟨_, e1b⟩ := List.getElem?_eq_some_iff.mp e1
            obtain ⟨_, e2b⟩ := List.getElem?_eq_some_iff.mp e2
            simp only [List.getElem_singleton, List.map_cons, List.map_nil] at e1b e2b
            subst e1b
            subst e2b
            exact ⟨s1.free hD, by rw [upd_ne AD.symm]; exact d2⟩
    · rw [Int.toNat_natCast] at r1
      -- [piece for point, piece in enumerate(around) if piece[0] == point]
      have bl : bs.length = m := by rw [r1.len, List.length_map, pts_len]
      refine ⟨_, rfl, A1, bs.map V.ref, rfl, SqL.of r1.top, fun D hD => ?_⟩
      refine ⟨fun i n H2 => n = m - i ∧ i ≤ m ∧ Same H1 H2 ∧ ∃ cs : List Addr, cs.Sublist (bs.take i) ∧ H2 D = some (.lst (cs.map V.ref)) ∧ cs.length = (((pts i).filter (isHead m ts)).map (reachL m ts none)).length ∧
          (∀ (j : Nat) (a : Addr) (q : List Int), cs[j]? = some a → (((pts i).filter (isHead m ts)).map (reachL m ts none))[j]? = some q → H a = none ∧ H2 a = some (.lst (iL q))),
        ⟨m, rfl, Nat.zero_le _, Same.put hD, [], by simp, upd_same, rfl, fun j a q e _ => by simp at e⟩, ?_⟩
      rintro i n H2 ⟨rfl, him, s2, cs, hsub, hDc, hcl, hrow⟩
      by_cases hi : i < m
      · have er : ((pts m).map (reachL m ts none))[i]? = some (reachL m ts none i) := by
          rw [List.getElem?_map, pts_at hi]
          rfl
        obtain ⟨b, eb, ebr, b0, hb⟩ := r1.get er
        obtain ⟨h, eh⟩ := reachL_head (bar := none) g hi
        refine .inr ⟨⟨_, _, SqL.of (s2 _ _ r1.top), ebr⟩, fun H3 => i + 1 ≤ m ∧ Same H1 H3 ∧ ∃ cs : List Addr, cs.Sublist (bs.take (i + 1)) ∧ H3 D = some (.lst (cs.map V.ref)) ∧ cs.length = (((pts (i + 1)).filter (isHead m ts)).map (reachL m ts none)).length ∧
          (∀ (j : Nat) (a : Addr) (q : List Int), cs[j]? = some a → (((pts (i + 1)).filter (isHead m ts)).map (reachL m ts none))[j]? = some q → H a = none ∧ H3 a = some (.lst (iL q))), fun H3 q => ⟨m - (i + 1), by omega, rfl, q⟩, ?_⟩
        rintro x H3 ⟨T0, y, rfl, hT, rfl, hy⟩
        obtain rfl : y = .ref b := Option.some.inj ((hy _ (SqL.of (s2 _ _ r1.top))).symm.trans ebr)
        have s3 := Same.put (o := .tup [.int ((i : Nat) : Int), .ref b]) hT
        refine ⟨T0, _, rfl, SqT.of upd_same, rfl, _, _, rfl, _, _, rfl, rfl, ?_⟩
        refine ⟨rfl, ?_⟩
        refine ⟨_, rfl, b, iL (reachL m ts none i), 0, .int h, rfl, rfl, SqL.of (s3 _ _ (s2 _ _ hb)), atI_nat (iL_get eh), _, rfl, rfl, _, rfl, ?_⟩
        have hH : isHead m ts i = decide (V.int h = V.int ((i : Nat) : Int)) := by
          unfold isHead
          rw [eh, Bool.eq_iff_iff]
          simp
        rw [← hH]
        refine ite2 (fun c => ?_) (fun c => ?_)
        · refine ⟨_, rfl, cs.map V.ref, s3 _ _ hDc, ?_, by omega, Same.write (s2.trans s3) hD, cs ++ [b], ?_, by rw [upd_same, List.map_append]; rfl, ?_, ?_⟩
          · rw [List.length_map]
            have := hsub.length_le
            rw [List.length_take] at this
            exact small (by omega)
          · rw [take_next eb]
            exact hsub.append (List.Sublist.refl _)
          · rw [pts_succ, List.filter_append, List.map_append, List.length_append, List.length_append, hcl]
            simp [c]
          · intro j a q e1 e2
            have e3 : (([(i : Int)] : List Int).filter (isHead m ts)) = [(i : Int)] := by simp [c]
            rw [pts_succ, List.filter_append, List.map_append, e3] at e2
            have aD : ∀ a, H1 a = some (.lst (iL q)) → a ≠ D := fun a e => ne_of_none e hD
            by_cases hj : j < cs.length
            · rw [List.getElem?_append_left hj] at e1
              rw [List.getElem?_append_left (by rw [← hcl]; exact hj)] at e2
              obtain ⟨k1, k2⟩ := hrow j a q e1 e2
              have am : a ∈ bs := List.mem_of_mem_take (hsub.subset (List.mem_of_getElem? e1))
              obtain ⟨u, hu⟩ := List.mem_iff_getElem?.mp am
              have hu2 : u < ((pts m).map (reachL m ts none)).length := by
                rw [← r1.len]
                exact (List.getElem?_eq_some_iff.mp hu).1
              have q1 := (r1.row u a _ hu (List.getElem?_eq_getElem hu2)).2
              exact ⟨k1, by rw [upd_ne (ne_of_none q1 hD)]; exact s3 _ _ k2⟩
            · have hj' : cs.length ≤ j := Nat.le_of_not_lt hj
              rw [List.getElem?_append_right hj'] at e1
              rw [List.getElem?_append_right (by rw [← hcl]; exact hj')] at e2
              obtain ⟨_, e1b⟩ := List.getElem?_eq_some_iff.mp e1
              obtain ⟨_, e2b⟩ := List.getElem?_eq_some_iff.mp e2
              simp only [List.getElem_singleton, List.map_cons, List.map_nil] at e1b e2b
              subst e1b
              subst e2b
              exact ⟨b0, by rw [upd_ne (ne_of_none hb hD)]; exact s3 _ _ (s2 _ _ hb)⟩
        · have c' : isHead m ts i = false := Bool.eq_false_iff.mpr c
          have e3 : (([(i : Int)] : List Int).filter (isHead m ts)) = [] := by simp [c']
          refine ⟨by omega, s2.trans s3, cs, ?_, s3 _ _ hDc, ?_, ?_⟩
          · rw [take_next eb]
            exact hsub.trans (List.sublist_append_left _ _)
          · rw [pts_succ, List.filter_append, e3, List.append_nil]
            exact hcl
          · intro j a q e1 e2
            rw [pts_succ, List.filter_append, e3, List.append_nil] at e2
            obtain ⟨k1, k2⟩ := hrow j a q e1 e2
            exact ⟨k1, s3 _ _ k2⟩
      · have e : i = m := by omega
        subst e
        refine .inl ⟨⟨_, SqL.of (s2 _ _ r1.top), by rw [List.length_map, bl]; exact Nat.le_refl _⟩, ?_⟩
        have Dn : D ∉ cs := fun hm => by
          have am : D ∈ bs := List.mem_of_mem_take (hsub.subset hm)
          obtain ⟨u, hu⟩ := List.mem_iff_getElem?.mp am
          have hu2 : u < ((pts i).map (reachL i ts none)).length := by
            rw [← r1.len]
            exact (List.getElem?_eq_some_iff.mp hu).1
          have q1 := (r1.row u D _ hu (List.getElem?_eq_getElem hu2)).2
          rw [hD] at q1
          cases q1
        exact k H2 D cs (s1.trans s2) ⟨hDc, s1.free hD, hcl, (r1.nd.sublist (List.take_sublist i bs)).sublist hsub, Dn, hrow⟩
end
end Fd
namespace Fd
open PySem PySem.Spec PyProof.Rows L2
/-! ### `_is_flat` -/
def flatAt (m : Nat) (ts : List Tie) (wss : List (List Int)) (piece : List Int) : Bool :=
  decide (((wss.filter fun w => decide (w.getD 0 0 ∈ piece)).length : Int) = ((piece.map fun p => ((rowOf m ts p).length : Int)).sum / 2) - (piece.length : Int) + 2)
def spIsFlat (C : Addr) (K : PySem.W.Frag) : Sp := fun vs H Q _ => ∃ (H0 : Hp) (p Pc Fd : Addr) (m : Nat) (ts : List Tie) (piece : List Int) (ws : List V) (wss : List (List Int)), vs = [.ref p, .ref Pc, .ref Fd] ∧ WebAt C H0 H p m ts ∧ Good m ts ∧ m ≤ 16 ∧
  H Pc = some (.lst (iL piece)) ∧ (∀ x ∈ piece, 0 ≤ x ∧ x < m) ∧ piece.length ≤ 16 ∧ H Fd = some (.lst ws) ∧ Paired (FldAt H) ws wss ∧ (∀ w ∈ wss, w ≠ []) ∧ wss.length ≤ 100 ∧
  ∀ (H' : Hp), Same H H' → Q (.bl (flatAt m ts wss piece)) H'
section
variable {P : Program} {w : World} {K : PySem.W.Frag} {mg : Str → Option Value} {base : Heap} {C : Addr}
abbrev nIsFlat : List Str := ["web", "piece", "found", "ties", "own", "point", "walk"]
theorem scIsFlat : FnScope nIsFlat ["web", "piece", "found"] (defScope sIsFlat) := ⟨rfl, rfl, rfl, by decide +kernel, rfl, by decide +kernel, by decide +kernel⟩
theorem c_isflat (T : WTxt K mg C) (W4 : Web4 K C) (sum_ : mg "sum" = none) (F : Fn K mg "_is_flat" sIsFlat ["web", "piece", "found"]) : C8.Cal P w K mg base 5 "_is_flat" (spIsFlat C K) [] := by
  refine cal_of F scIsFlat (fun vs H Q E h => ?_) (fun f cdv A outer s H vs Q E hr h => ?_)
  · obtain ⟨H0, p, Pc, Fd, m, ts, piece, ws, wss, rfl, _⟩ := h
    rfl
  · obtain ⟨H0, p, Pc, Fd, m, ts, piece, ws, wss, rfl, W, g, m16, hPc, pin, pl, hFd, pw, wne, wl, k⟩ := h
    refine ⟨_, pss_cons (ps_set (i := 3) scIsFlat.nd rfl (Or.inl rfl) (pe_op op_fdiv (pe_callB (id := "sum") (r := rSum K) (cr_sum rfl) (by rfl) sum_ (by decide +kernel) (pa_cons (pe_lc (own := [("point", 5)]) (g := gName 5) (tt := tYes)
          (te := tCB (fun xs H Q => ∃ p ys, xs = [V.ref p] ∧ (SqL K H p ys ∨ SqT K H p ys) ∧ Q (.int ys.length) H) (tCons (tMeth C "beside" (spBeside C) [] C8.E0 (tVar 0) (tCons (tVar 5) tNil)) tNil)) (by rfl) scIsFlat.nd (pi_list (pv 1))
          (blkOk_by (own := [("point", 5)]) (N := nIsFlat) (sc := defScope sIsFlat) (by decide +kernel)) (fun _ _ _ _ _ => pg_name (i := 5) scIsFlat.nd rfl (Or.inl rfl)) (fun _ _ _ _ _ => pts_nil)
          (fun _ _ _ _ _ => pe_callB (id := "len") call_len_seq (by rfl) T.len PySem.boot_len (pa_cons (C8.pe_mt (c_beside T W4.fC W4.fB) hr (by decide) (pv 0) (pa_cons (pv 5) pa_nil)) pa_nil))) pa_nil)) pe_int))
      (pss_cons (ps_setLc (i := 4) (own := [("walk", 6)]) (g := gName 6) (te := tVar 6) (by rfl) scIsFlat.nd rfl rfl (sw_true rfl rfl rfl (by decide +kernel)) (pi_list (pv 2)) (blkOk_by (own := [("walk", 6)]) (N := nIsFlat) (sc := defScope sIsFlat) (by decide +kernel))
          (fun _ _ _ _ _ => pg_name (i := 6) scIsFlat.nd rfl (Or.inl rfl)) (fun _ _ _ _ _ => pts_one (pt_cmpR (r := rIn K false) (ta := tOp (rIxL K) (tVar 6) (tC (.int 0))) op_in_seq (pe_ix ix_list (pv 6) pe_int (fun _ _ => rfl)) (pv 1) (by rfl))) (fun _ _ _ _ _ => pv 6))
      (pss_one (ps_ret (pe_cmpR op_eq (pe_callB (id := "len") call_len_seq (by rfl) T.len PySem.boot_len (pa_cons (pv 4) pa_nil)) (pe_op op_add (pe_op op_sub (pv 3) (pe_callB (id := "len") call_len_seq (by rfl) T.len PySem.boot_len (pa_cons (pv 1) pa_nil))) pe_int) (nomark _))))), ?_⟩
    obtain ⟨p0, dx, Rw, aw, hp, _⟩ := id W
    refine ⟨_, rfl, Pc, rfl, ⟨_, SqL.of hPc⟩, fun D hD => ?_⟩
    refine it_W (walk_list (K := K) (a := Pc) (xs := iL piece)) (fun i H1 => Same H H1 ∧ H1 D = some (.lst (iL ((piece.take i).map fun p => ((rowOf m ts p).length : Int))))) ⟨Same.put hD, upd_same⟩ (fun i H1 _ ⟨s1, _⟩ => SqL.of (s1 _ _ hPc)) ?_ ?_
    · rintro i x H10 H1 hi ⟨s1, d1⟩ ⟨rfl, ex⟩
      obtain ⟨z, ez, rfl⟩ := iL_at ex
      obtain ⟨z0, zm⟩ := pin z (List.mem_of_getElem? ez)
      obtain ⟨q, rfl⟩ : ∃ q : Nat, z = q := ⟨z.toNat, by omega⟩
      have il : i < piece.length := (List.getElem?_eq_some_iff.mp ez).1
      refine ⟨rfl, ?_⟩
      refine yes_ ?_
      refine iteT ?_
      refine ⟨_, rfl, p, dx, _, rfl, s1 _ _ hp, wF_no _ _ (by decide +kernel) (by decide +kernel), _, rfl, H0, p, m, ts, q, rfl, W.same s1, by omega, fun D2 hD2 => ?_⟩
      have t2 := Same.put (o := .lst (iL (rowOf m ts q))) hD2
      have d2 := t2 _ _ d1
      have e2 : (upd H1 D2 (.lst (iL (rowOf m ts q)))) D2 = some (.lst (iL (rowOf m ts q))) := upd_same
      have s2 := s1.trans t2
      generalize upd H1 D2 (.lst (iL (rowOf m ts q))) = H2 at *
      refine ⟨D2, _, rfl, .inl (SqL.of e2), _, d2, by rw [List.length_map, List.length_map, List.length_take]; exact small (by omega), Same.write s2 hD, ?_⟩
      rw [upd_same, take_next ez]
      unfold iL
      rw [List.map_append, List.map_append, List.length_map]
      rfl
    · rintro H1 ⟨s1, d1⟩
      rw [List.length_map, List.take_length] at d1
      refine ⟨D, _, rfl, SqL.of d1, ?_⟩
      refine ⟨_, _, rfl, rfl, ⟨by omega, by omega⟩, ?_⟩
      -- own
      refine ⟨_, rfl, Fd, rfl, ⟨_, SqL.of (s1 _ _ hFd)⟩, fun O hO => ?_⟩
      refine it_W (walk_list (K := K) (a := Fd) (xs := ws)) (fun i H2 => Same H1 H2 ∧ ∃ os : List V, H2 O = some (.lst os) ∧ os.length = ((wss.take i).filter fun w => decide (w.getD 0 0 ∈ piece)).length) ⟨Same.put hO, [], upd_same, rfl⟩ (fun i H2 _ ⟨s2, _⟩ => SqL.of ((s1.trans s2) _ _ hFd)) ?_ ?_
      · rintro i x H20 H2 hi ⟨s2, os, o2, ol⟩ ⟨rfl, ex⟩
        obtain ⟨u, eu, a, rfl, ha⟩ := paired_get pw ex
        have un := wne u (List.mem_of_getElem? eu)
        have s02 := s1.trans s2
        have ein := inV_ints piece (u.getD 0 0)
        have il : i < wss.length := (List.getElem?_eq_some_iff.mp eu).1
        have fl := List.length_filter_le (fun w : List Int => decide (w.getD 0 0 ∈ piece)) (wss.take i)
        rw [List.length_take] at fl
        refine ⟨rfl, _, rfl, a, iL u, 0, .int (u.getD 0 0), rfl, rfl, SqL.of (s02 _ _ ha), atI_first (List.length_pos_iff.mpr un), _, rfl, Pc, iL piece, rfl, .inl (SqL.of (s02 _ _ hPc)), rfl, flat_ints _, _, rfl, ?_⟩
        by_cases c : u.getD 0 0 ∈ piece
        · refine yep_ (show inV (.int (u.getD 0 0)) (iL piece) = true by rw [ein, decide_eq_true c]) ?_
          refine ⟨_, rfl, os, o2, small (by omega), Same.write s2 hO, os ++ [.ref a], upd_same, ?_⟩
          rw [take_next eu, List.filter_append, List.length_append, List.length_append, ol, List.filter_cons_of_pos (p := fun w : List Int => decide (w.getD 0 0 ∈ piece)) (decide_eq_true c)]
          rfl
        · refine no_ (show inV (.int (u.getD 0 0)) (iL piece) = false by rw [ein, decide_eq_false c]) ?_
          refine ⟨s2, os, o2, ?_⟩
          rw [take_next eu, List.filter_append, List.length_append, ol, List.filter_cons_of_neg (p := fun w : List Int => decide (w.getD 0 0 ∈ piece)) (by rw [decide_eq_false c]; decide)]
          rfl
      · rintro H2 ⟨s2, os, o2, ol⟩
        rw [pw.length, List.take_length] at ol
        refine ⟨_, rfl, O, os, rfl, .inl (SqL.of o2), _, rfl, _, rfl, Pc, iL piece, rfl, .inl (SqL.of ((s1.trans s2) _ _ hPc)), _, _, rfl, rfl, _, _, rfl, rfl, rfl, ?_⟩
        have q := k H2 (s1.trans s2)
        unfold flatAt at q
        rw [← ol] at q
        have el : (iL piece).length = piece.length := List.length_map ..
        rw [el]
        simpa using q
end
end Fd
namespace Fd
open PySem PySem.Spec PyProof.Rows L2
/-! ### `flat` -/
theorem walksL_few {m : Nat} {ts : List Tie} (g : Good m ts) (tss : List (List Int)) (tl : ts.length ≤ 40) : (walksL m ts tss).length ≤ 80 := by
  have q := heads_len g tss tl (dartsL m ts).length
  rw [List.take_length] at q
  exact q
theorem walksL_ne {m : Nat} {ts : List Tie} {tss : List (List Int)} (g : Good m ts) (tu : TurnsOf m ts tss) : ∀ w ∈ walksL m ts tss, w ≠ [] := fun w hw e => by
  obtain ⟨d, hd, rfl⟩ := List.mem_map.mp hw
  have G := goes_of g tu
  have hd := (List.mem_filter.mp hd).1
  have l := walkP_len (stepT tss) d
  rw [e] at l
  have := (G.per hd).1
  rw [← l] at this
  cases this
noncomputable def flatL (m : Nat) (ts : List Tie) (tss : List (List Int)) : Bool := ((piecesL m ts).filter fun r => decide (1 < r.length)).all (flatAt m ts (walksL m ts tss))
def spFlat (C : Addr) : Sp := fun vs H Q _ => ∃ (H0 : Hp) (p R : Addr) (as : List Addr) (m : Nat) (ts : List Tie) (tss : List (List Int)), vs = [.ref p, .ref R] ∧ WebAt C H0 H p m ts ∧ RowsAt H0 H R as tss ∧ TurnsOf m ts tss ∧ Good m ts ∧ m ≤ 16 ∧ ts.length ≤ 40 ∧
  ∀ H', Same H H' → Q (.bl (flatL m ts tss)) H'
theorem rows_fld {H0 H : Hp} {R : Addr} {as : List Addr} {rss : List (List Int)} (h : RowsAt H0 H R as rss) : Paired (FldAt H) (as.map V.ref) rss := by
  refine paired_of (by rw [List.length_map, h.len]) fun i a b e1 e2 => ?_
  rw [List.getElem?_map] at e1
  cases c : as[i]? with
  | none => rw [c] at e1; cases e1
  | some x =>
    rw [c] at e1
    cases Option.some.inj e1
    exact ⟨x, rfl, (h.row i x b c e2).2⟩
section
variable {P : Program} {w : World} {K : PySem.W.Frag} {mg : Str → Option Value} {base : Heap} {C : Addr}
abbrev nFlat : List Str := ["web", "turns", "found", "piece"]
theorem scFlat : FnScope nFlat ["web", "turns"] (defScope sFlat) := ⟨rfl, rfl, rfl, by decide +kernel, rfl, by decide +kernel, by decide +kernel⟩
theorem c_flat (T : WTxt K mg C) (U : TTxt K mg C) (N : KTxt K mg) (W4 : Web4 K C) (sum_ : mg "sum" = none) (FR : FnR K mg) (FP : FnM K C "pieces" "Web.pieces" sWebPieces ["self"]) (FI : Fn K mg "_is_flat" sIsFlat ["web", "piece", "found"]) (F : Fn K mg "flat" sFlat ["web", "turns"]) : C8.Cal P w K mg base 8 "flat" (spFlat C) [] := by
  refine cal_of F scFlat (fun vs H Q E h => ?_) (fun f cdv A outer s H vs Q E hr h => ?_)
  · obtain ⟨H0, p, R, as, m, ts, tss, rfl, _⟩ := h
    rfl
  · obtain ⟨H0, p, R, as, m, ts, tss, rfl, W, hR, tu, g, m16, tl, k⟩ := h
    refine ⟨_, pss_cons (ps_set (i := 2) scFlat.nd rfl (Or.inr rfl) (C8.pe_c (c_walks T U N) hr (by decide) (by rfl) (pa_cons (pv 0) (pa_cons (pv 1) pa_nil))))
      (pss_one (ps_ret (pe_callB (id := "all") (r := rAll K) (cr_all rfl) (by rfl) U.all (by decide +kernel) (pa_cons (pe_lc (own := [("piece", 3)]) (g := gName 3) (te := tCall (spIsFlat C K) [] C8.E0 (tCons (tVar 0) (tCons (tVar 3) (tCons (tVar 2) tNil)))) (by rfl) scFlat.nd (pi_list (C8.pe_mt0 (c_pieces T FR FP U.enum) hr (by decide) (pv 0)))
          (blkOk_by (own := [("piece", 3)]) (N := nFlat) (sc := defScope sFlat) (by decide +kernel)) (fun _ _ _ _ _ => pg_name (i := 3) scFlat.nd rfl (Or.inl rfl))
          (fun _ _ _ _ _ => pts_one (pt_cmpR (r := rGt) (ta := tCB (fun xs H Q => ∃ p ys, xs = [V.ref p] ∧ (SqL K H p ys ∨ SqT K H p ys) ∧ Q (.int ys.length) H) (tCons (tVar 3) tNil)) op_gt (pe_callB (id := "len") call_len_seq (by rfl) T.len PySem.boot_len (pa_cons (pv 3) pa_nil)) pe_int (nomark _)))
          (fun _ _ _ _ _ => C8.pe_c (c_isflat T W4 sum_ FI) hr (by decide) (by rfl) (pa_cons (pv 0) (pa_cons (pv 3) (pa_cons (pv 2) pa_nil))))) pa_nil)))), ?_⟩
    obtain ⟨p0, dx, Rw, aw, hp, _⟩ := id W
    refine ⟨_, rfl, _, rfl, H0, p, R, as, m, ts, tss, rfl, W, hR, tu, g, m16, tl, fun H1 D bs s1 r1 => ?_⟩
    refine ⟨_, rfl, p, dx, _, rfl, s1 _ _ hp, wF_no _ _ (by decide +kernel) (by decide +kernel), H0, p, m, ts, rfl, W.same s1, g, m16, fun H2 Pc pas s2 r2 => ?_⟩
    refine ⟨Pc, rfl, ⟨_, SqL.of r2.top⟩, fun L hL => ?_⟩
    have s12 := s1.trans s2
    have plen : pas.length = (piecesL m ts).length := r2.len
    have pl16 : (piecesL m ts).length ≤ 16 := by
      unfold piecesL
      rw [List.length_map]
      refine Nat.le_trans (List.length_filter_le _ _) ?_
      rw [pts_len]
      exact m16
    refine it_W (walk_list (K := K) (a := Pc) (xs := pas.map V.ref)) (fun i H3 => Same H2 H3 ∧ H3 L = some (.lst (((((piecesL m ts).take i).filter fun r => decide (1 < r.length)).map fun r => flatAt m ts (walksL m ts tss) r).map V.bl))) ⟨Same.put hL, upd_same⟩ (fun i H3 _ ⟨s3, _⟩ => SqL.of (s3 _ _ r2.top)) ?_ ?_
    · rintro i x H30 H3 hi ⟨s3, d3⟩ ⟨rfl, ex⟩
      obtain ⟨r, er, a, rfl, ha⟩ := paired_get (rows_fld r2) ex
      have rm := List.mem_of_getElem? er
      have il : i < (piecesL m ts).length := (List.getElem?_eq_some_iff.mp er).1
      have fl := List.length_filter_le (fun r : List Int => decide (1 < r.length)) ((piecesL m ts).take i)
      rw [List.length_take] at fl
      have ha3 := s3 _ _ ha
      have s13 := s12.trans s3
      have rlen := piecesL_len rm
      refine ⟨rfl, ?_⟩
      refine ⟨_, rfl, a, iL r, rfl, .inl (SqL.of ha3), _, _, rfl, rfl, _, rfl, ?_⟩
      have el : (iL r).length = r.length := List.length_map ..
      by_cases c : 1 < r.length
      · refine yep_ (decide_eq_true (by rw [el]; omega)) ?_
        refine ⟨_, rfl, _, rfl, _, rfl, H0, p, a, D, m, ts, r, bs.map V.ref, walksL m ts tss, rfl, W.same s13, g, m16, ha3, fun x hx => ?_, by omega, (s2.trans s3) _ _ r1.top, Paired.mono (fun _ _ q => FldAt.same (s2.trans s3) q) (rows_fld r1), walksL_ne g tu, Nat.le_trans (walksL_few g tss tl) (by decide), fun H4 s4 => ?_⟩
        · obtain ⟨z, _, rfl⟩ := List.mem_map.mp rm
          exact mem_pts.mp (List.mem_filter.mp hx).1
        · refine ⟨_, s4 _ _ d3, by rw [List.length_map, List.length_map]; exact small (by omega), Same.write (s3.trans s4) hL, ?_⟩
          rw [upd_same, take_next er, List.filter_append, List.map_append, List.map_append, List.filter_cons_of_pos (p := fun r : List Int => decide (1 < r.length)) (decide_eq_true c)]
          rfl
      · refine no_ (decide_eq_false (by rw [el]; omega)) ?_
        refine ⟨s3, ?_⟩
        rw [d3, take_next er, List.filter_append, List.filter_cons_of_neg (p := fun r : List Int => decide (1 < r.length)) (by rw [decide_eq_false c]; decide)]
        simp
    · rintro H3 ⟨s3, d3⟩
      rw [List.length_map, plen, List.take_length] at d3
      refine ⟨L, _, rfl, SqL.of d3, ?_⟩
      have q := k H3 (s12.trans s3)
      unfold flatL at q
      rw [List.all_map]
      exact q
end
end Fd
namespace Fd
open PySem PySem.Spec PyProof.Rows L2
def spLabels (K : PySem.W.Frag) : Sp := fun vs H Q _ => ∃ (a : Addr) (m : Nat) (ws : List V) (ts : List Tie), vs = [.ref a, .int m] ∧ H a = some (.lst ws) ∧ PairsAt H ws ts ∧ Good m ts ∧ m ≤ 16 ∧
  ∀ (H' : Hp) (D : Addr), Same H H' → H D = none → H' D = some (.lst (iL ((pts m).map (labF ts)))) → Q (.ref D) H'
theorem rgV_pts (m : Nat) : rgV 0 (m : Int) = iL (pts m) := by
  simp [rgV, iL, pts]
theorem lab_at {m : Nat} {f : Int → Int} {p : Nat} (h : p < m) : ((pts m).map f)[p]? = some (f p) := by
  rw [List.getElem?_map, pts_at h]
  rfl
section
variable {P : Program} {w : World} {K : PySem.W.Frag} {mg : Str → Option Value} {base : Heap} {C : Addr}
abbrev nLabels : List Str := ["_law_ties_here", "_law_many_here", "_law_labels_here", "_law_tie", "_law_low", "_law_high", "_law_label"]
theorem scLabels : FnScope ["_law_ties_here", "_law_many_here", "_law_labels_here", "_law_tie", "_law_low", "_law_high", "_law_label"] ["_law_ties_here", "_law_many_here"] (defScope sLawLabels) := ⟨rfl, rfl, rfl, by decide +kernel, rfl, by decide +kernel, by decide +kernel⟩
theorem c_labels (T : WTxt K mg C) (L : LTxt K mg) (FL : Fn K mg "_law_labels" sLawLabels ["_law_ties_here", "_law_many_here"]) : C8.Cal P w K mg base 1 "_law_labels" (spLabels K) [] := by
  refine cal_of FL scLabels (fun vs H Q E h => ?_) (fun f cdv A outer s H vs Q E hr h => ?_)
  · obtain ⟨a, m, ws, ts, rfl, _⟩ := h
    rfl
  · obtain ⟨a, m, ws, ts, rfl, ha, hw, g, m16, k⟩ := h
    refine ⟨_, pss_cons (ps_set (i := 2) scLabels.nd rfl (Or.inl rfl) (pe_listRg rfl (by rfl) T.list (prg_1 (by rfl) T.range (pv 1))))
      (pss_cons (ps_for PassesOwn.never rfl (pi_list (pv 0)) (pg_name (i := 3) scLabels.nd rfl (Or.inl rfl))
        (pss_cons (ps_set (i := 4) scLabels.nd rfl (Or.inr rfl) (pe_callB (call_min2 rfl) (by rfl) L.min (by decide +kernel) (pa_cons (pe_ix ix_list (pv 2) (pe_ix ix_tup (pv 3) pe_int (fun _ _ => rfl)) (fun _ _ => rfl)) (pa_cons (pe_ix ix_list (pv 2) (pe_ix ix_tup (pv 3) pe_int (fun _ _ => rfl)) (fun _ _ => rfl)) pa_nil))))
        (pss_cons (ps_set (i := 5) scLabels.nd rfl (Or.inr rfl) (pe_callB (call_max2 rfl) (by rfl) L.max (by decide +kernel) (pa_cons (pe_ix ix_list (pv 2) (pe_ix ix_tup (pv 3) pe_int (fun _ _ => rfl)) (fun _ _ => rfl)) (pa_cons (pe_ix ix_list (pv 2) (pe_ix ix_tup (pv 3) pe_int (fun _ _ => rfl)) (fun _ _ => rfl)) pa_nil))))
        (pss_one (ps_setLc (i := 2) (own := [("_law_label", 6)]) (g := gName 6) (tt := tYes) (te := tIf (tTest (tOp rEq (tVar 6) (tVar 5))) (tVar 4) (tVar 6))
          (by rfl) scLabels.nd rfl rfl (sw_true rfl rfl rfl (by decide +kernel)) (pi_list (pv 2))
          (blkOk_by (own := [("_law_label", 6)]) (N := nLabels) (sc := defScope sLawLabels) (by decide +kernel)) (fun _ _ _ _ _ => pg_name (i := 6) scLabels.nd rfl (Or.inl rfl)) (fun _ _ _ _ _ => pts_nil)
          (fun _ _ _ _ _ => pe_ifExp (pt_cmpR op_eq (pv 6) (pv 5) (nomark _)) (pv 4) (pv 6)))))))
      (pss_one (ps_ret (pv 2)))), ?_⟩
    -- labels = list(range(many))
    refine ⟨_, rfl, (m : Int), rfl, by unfold RgOk; omega, fun D0 hD0 => ?_⟩
    rw [rgV_pts]
    refine ⟨_, rfl, a, rfl, ⟨_, SqL.of ((Same.put hD0) _ _ ha)⟩, for_list (K := K) (a := a) (xs := ws) (fun i σ H1 => ∃ (D : Addr) (v3 v4 v5 : Option V), σ = [some (.ref a), some (.int m), some (.ref D), v3, v4, v5, none] ∧ Same H H1 ∧ H D = none ∧ H1 D = some (.lst (iL ((pts m).map (labF (ts.take i))))))
      ⟨D0, none, none, none, rfl, Same.put hD0, hD0, by rw [upd_same, List.take_zero]; simp [labF]⟩ (fun i σ H1 _ ⟨_, _, _, _, _, s1, _⟩ => SqL.of (s1 _ _ ha)) ?_ ?_⟩
    · rintro i x σ H1 hi ⟨D, v3, v4, v5, rfl, s1, hD, d1⟩
      obtain ⟨t, et, pt⟩ := paired_get hw hi
      obtain ⟨c, rfl, hc⟩ := PairAt.same s1 pt
      have rg := g.rng t (List.mem_of_getElem? et)
      obtain ⟨t1, t2⟩ := t
      obtain ⟨h1, h2, h3, h4, _⟩ := rg
      obtain ⟨p, rfl⟩ : ∃ p : Nat, t1 = p := ⟨t1.toNat, by have : 0 ≤ t1 := h1; omega⟩
      obtain ⟨q, rfl⟩ : ∃ q : Nat, t2 = q := ⟨t2.toNat, by have : 0 ≤ t2 := h3; omega⟩
      have hp : p < m := by have : ((p : Int) < m) := h2; omega
      have hq : q < m := by have : ((q : Int) < m) := h4; omega
      generalize hf : labF (ts.take i) = f at d1
      have ep := iL_get (lab_at (f := f) hp)
      have eq := iL_get (lab_at (f := f) hq)
      refine ⟨_, rfl, _, rfl, c, _, 0, _, rfl, rfl, SqT.of hc, rfl, D, _, (p : Int), _, rfl, rfl, SqL.of d1, atI_nat ep, _, rfl, _, rfl, c, _, 1, _, rfl, rfl, SqT.of hc, rfl, D, _, (q : Int), _, rfl, rfl, SqL.of d1, atI_nat eq, _, _, rfl, ?_⟩
      refine ⟨_, rfl, _, rfl, c, _, 0, _, rfl, rfl, SqT.of hc, rfl, D, _, (p : Int), _, rfl, rfl, SqL.of d1, atI_nat ep, _, rfl, _, rfl, c, _, 1, _, rfl, rfl, SqT.of hc, rfl, D, _, (q : Int), _, rfl, rfl, SqL.of d1, atI_nat eq, _, _, rfl, ?_⟩
      have elo : (if f q < f p then f q else f p) = min (f p) (f q) := by split <;> omega
      have ehi : (if f q > f p then f q else f p) = max (f p) (f q) := by split <;> omega
      rw [elo, ehi]
      refine ⟨_, rfl, D, rfl, ⟨_, SqL.of d1⟩, fun E0 hE => ?_⟩
      refine lc_list (K := K) (a := D) (xs := iL ((pts m).map f)) (fun j H2 => Same H1 H2 ∧ H2 E0 = some (.lst (iL ((pts j).map (labStep f ((p : Int), (q : Int))))))) ⟨Same.put hE, upd_same⟩ (fun j H2 _ ⟨s2, _⟩ => SqL.of (s2 _ _ d1)) (fun j x H2 hj ⟨s2, e2⟩ => ?_) (fun H2 ⟨s2, e2⟩ => ?_)
      · have hjm : j < m := by
          have := (List.getElem?_eq_some_iff.mp hj).1
          rw [List.length_map, List.length_map, pts_len] at this
          exact this
        obtain rfl : x = .int (f j) := Option.some.inj (hj.symm.trans (iL_get (lab_at (f := f) hjm)))
        have fin : ∀ z : Int, z = labStep f ((p : Int), (q : Int)) j → ∃ acc, H2 E0 = some (.lst acc) ∧ acc.length < sizeLine ∧ Same H1 (upd H2 E0 (.lst (acc ++ [.int z]))) ∧
            (upd H2 E0 (.lst (acc ++ [.int z]))) E0 = some (.lst (iL ((pts (j + 1)).map (labStep f ((p : Int), (q : Int)))))) := fun z hz => by
          refine ⟨_, e2, ?_, Same.write s2 hE, ?_⟩
          · rw [List.length_map, List.length_map, pts_len]
            exact small (by omega)
          · rw [upd_same, pts_succ, List.map_append, hz]
            unfold iL
            rw [List.map_append]
            rfl
        refine ⟨rfl, ?_⟩
        refine yes_ ?_
        refine iteT ?_
        refine ⟨_, rfl, _, rfl, rfl, _, rfl, ?_⟩
        by_cases c1 : f j = max (f p) (f q)
        · refine yep_ (decide_eq_true (by rw [c1])) ?_
          refine ⟨_, rfl, fin _ ?_⟩
          unfold labStep
          rw [if_pos c1]
        · refine no_ (decide_eq_false fun z => c1 (V.int.inj z)) ?_
          refine ⟨_, rfl, fin _ ?_⟩
          unfold labStep
          rw [if_neg c1]
      · rw [List.length_map, List.length_map, pts_len] at e2
        refine ⟨E0, _, _, _, rfl, s1.trans s2, s1.free hE, ?_⟩
        rw [take_next et, labF_snoc, hf]
        exact e2
    · rintro σ H1 ⟨D, v3, v4, v5, rfl, s1, hD, d1⟩
      have el : ts.take ws.length = ts := by
        rw [hw.length]
        exact List.take_length
      rw [el] at d1
      exact ⟨_, rfl, k H1 D s1 hD d1⟩
end
end Fd
namespace Fd
open PySem PySem.Spec PyProof.Rows L2
/-! ### `_law_shaken`: of one turn two that stand side by side change places -/
theorem nd_set {as : List Addr} {q : Addr} (h : as.Nodup) (n : q ∉ as) (i : Nat) : (as.set i q).Nodup := by
  refine List.pairwise_iff_getElem.mpr fun a b ha hb hab e => ?_
  rw [List.length_set] at ha hb
  rw [List.getElem_set, List.getElem_set] at e
  by_cases c1 : i = a
  · rw [if_pos c1, if_neg (by omega)] at e
    exact n (e ▸ List.getElem_mem hb)
  · rw [if_neg c1] at e
    by_cases c2 : i = b
    · rw [if_pos c2] at e
      exact n (e ▸ List.getElem_mem ha)
    · rw [if_neg c2] at e
      have := nd_ix h (List.getElem?_eq_getElem ha) (by rw [e]; exact List.getElem?_eq_getElem hb)
      omega
theorem RowsAt.repl {H0 H : Hp} {R q : Addr} {as : List Addr} {rss : List (List Int)} {i : Nat} {r : List Int} (h : RowsAt H0 H R as rss) (hq : H q = some (.lst (iL r))) (q0 : H0 q = none) (qn : q ∉ as) (qR : q ≠ R) : RowsAt H0 (upd H R (.lst ((as.map V.ref).set i (.ref q)))) R (as.set i q) (rss.set i r) := by
  refine ⟨by rw [upd_same, List.map_set], h.new, by rw [List.length_set, List.length_set]; exact h.len, nd_set h.nd qn i, fun hm => ?_, fun j a r' e1 e2 => ?_⟩
  · rcases List.mem_or_eq_of_mem_set hm with z | z
    · exact h.out z
    · exact qR z.symm
  · rw [List.getElem?_set] at e1 e2
    by_cases c : i = j
    · subst c
      rw [if_pos rfl] at e1 e2
      have hi : i < as.length := Classical.byContradiction fun z => by rw [if_neg z] at e1; cases e1
      rw [if_pos hi] at e1
      rw [if_pos (by rw [← h.len]; exact hi)] at e2
      cases Option.some.inj e1
      cases Option.some.inj e2
      exact ⟨q0, by rw [upd_ne qR]; exact hq⟩
    · rw [if_neg c] at e1 e2
      obtain ⟨k1, k2⟩ := h.row j a r' e1 e2
      have aR : a ≠ R := fun z => h.out (z ▸ List.mem_of_getElem? e1)
      exact ⟨k1, by rw [upd_ne aR]; exact k2⟩
def swapL (r : List Int) (k : Nat) : List Int := r.take k ++ ([r.getD (k + 1) 0, r.getD k 0] ++ r.drop (k + 2))
theorem swap_perm {r : List Int} {k : Nat} (h : k + 1 < r.length) : (swapL r k).Perm r := by
  have e : r = r.take k ++ (r.getD k 0 :: r.getD (k + 1) 0 :: r.drop (k + 2)) := by
    rw [List.getD_eq_getElem?_getD, List.getD_eq_getElem?_getD, List.getElem?_eq_getElem (by omega), List.getElem?_eq_getElem h]
    show r = r.take k ++ (r[k] :: r[k + 1] :: r.drop (k + 2))
    rw [← List.drop_eq_getElem_cons, ← List.drop_eq_getElem_cons, List.take_append_drop]
  unfold swapL
  exact ((List.Perm.swap _ _ _).append_left _).trans (List.Perm.of_eq e.symm)
def spShaken (K : PySem.W.Frag) : Sp := fun vs H Q _ => ∃ (H0 : Hp) (R : Addr) (as : List Addr) (tss : List (List Int)) (cell : Int), vs = [.ref R, .int cell] ∧ RowsAt H0 H R as tss ∧ 1 ≤ tss.length ∧ tss.length ≤ 16 ∧ (∀ r ∈ tss, r.length ≤ 40) ∧
  ∀ (H' : Hp) (D : Addr) (bs : List Addr) (tss' : List (List Int)), Same H H' → RowsAt H H' D bs tss' → tss'.length = tss.length → (∀ (i : Nat) (r r' : List Int), tss[i]? = some r → tss'[i]? = some r' → r'.Perm r) → Q (.ref D) H'
section
variable {P : Program} {w : World} {K : PySem.W.Frag} {mg : Str → Option Value} {base : Heap} {C : Addr}
abbrev nShaken : List Str := ["_law_turns", "_law_cell", "_law_made", "_law_turn", "_law_at"]
theorem scShaken : FnScope nShaken ["_law_turns", "_law_cell"] (defScope sLawShaken) := ⟨rfl, rfl, rfl, by decide +kernel, rfl, by decide +kernel, by decide +kernel⟩
theorem c_shaken (T : WTxt K mg C) (F : Fn K mg "_law_shaken" sLawShaken ["_law_turns", "_law_cell"]) : C8.Cal P w K mg base 1 "_law_shaken" (spShaken K) [] := by
  refine cal_of F scShaken (fun vs H Q E h => ?_) (fun f cdv A outer s H vs Q E hr h => ?_)
  · obtain ⟨H0, R, as, tss, cell, rfl, _⟩ := h
    rfl
  · obtain ⟨H0, R, as, tss, cell, rfl, hR, l1, l16, rl, k⟩ := h
    refine ⟨_, pss_cons (ps_setLc (i := 2) (own := [("_law_turn", 3)]) (g := gName 3) (tt := tYes) (te := tCB (rListOf K) (tCons (tVar 3) tNil)) (by rfl) scShaken.nd rfl rfl (sw_true rfl rfl rfl (by decide +kernel)) (pi_list (pv 0))
        (blkOk_by (own := [("_law_turn", 3)]) (N := nShaken) (sc := defScope sLawShaken) (by decide +kernel)) (fun _ _ _ _ _ => pg_name (i := 3) scShaken.nd rfl (Or.inl rfl)) (fun _ _ _ _ _ => pts_nil) (fun _ _ _ _ _ => pe_callTy call_list_of (by rfl) T.list (by decide +kernel) (pa_cons (pv 3) pa_nil)))
      (pss_cons (ps_set (i := 3) scShaken.nd rfl (Or.inl rfl) (pe_ix ix_list (pv 2) (pe_op op_mod (pv 1) (pe_callB call_len_seq (by rfl) T.len PySem.boot_len (pa_cons (pv 2) pa_nil))) (fun _ _ => rfl)))
      (pss_cons (ps_if (pt_cmpR op_gt (pe_callB call_len_seq (by rfl) T.len PySem.boot_len (pa_cons (pv 3) pa_nil)) pe_int (nomark _))
        (pss_cons (ps_set (i := 4) scShaken.nd rfl (Or.inl rfl) (pe_op op_mod (pe_op op_fdiv (pv 1) pe_int) (pe_op op_sub (pe_callB call_len_seq (by rfl) T.len PySem.boot_len (pa_cons (pv 3) pa_nil)) pe_int)))
        (pss_one (ps_asg (pe_op op_cat (pe_op op_cat (pe_slice sl_list (pv 3) po_none (po_some (pv 4))) (pe_lst (pa_cons (pe_ix ix_list (pv 3) (pe_op op_add (pv 4) pe_int) (fun _ _ => rfl)) (pa_cons (pe_ix ix_list (pv 3) (pv 4) (fun _ _ => rfl)) pa_nil)))) (pe_slice sl_list (pv 3) (po_some (pe_op op_add (pv 4) pe_int)) po_none))
          (pg_sub (pv 2) (pe_op op_mod (pv 1) (pe_callB call_len_seq (by rfl) T.len PySem.boot_len (pa_cons (pv 2) pa_nil))) set_list)))) pss_nil)
      (pss_one (ps_ret (pv 2))))), ?_⟩
    dsimp only [tSeq, tAsg]
    refine lc_copy (K := K) (H0 := H0) rfl (Nat.lt_of_lt_of_eq (by decide : 3 < 5) rfl) hR l16 (fun H1 D bs s1 r1 => ?_)
    have n0 : (0 : Int) < (tss.length : Int) := by omega
    have bl : ((bs.map V.ref).length : Int) = (tss.length : Int) := by rw [List.length_map, r1.len]
    obtain ⟨i, ei, hi⟩ : ∃ i : Nat, cell % (tss.length : Int) = i ∧ i < tss.length := by
      have h0 := Int.emod_nonneg cell (show (tss.length : Int) ≠ 0 by omega)
      have h1 := Int.emod_lt_of_pos cell n0
      exact ⟨(cell % (tss.length : Int)).toNat, by omega, by omega⟩
    obtain ⟨r, er⟩ : ∃ r, tss[i]? = some r := ⟨_, List.getElem?_eq_getElem hi⟩
    obtain ⟨ra, era, era2, _, hra⟩ := r1.get er
    have rlen := rl r (List.mem_of_getElem? er)
    have at1 : atI (bs.map V.ref) (cell % ((bs.map V.ref).length : Int)) = some (.ref ra) := by
      rw [bl, ei]
      exact atI_nat era2
    refine ⟨_, rfl, _, rfl, _, rfl, D, bs.map V.ref, rfl, .inl (SqL.of r1.top), _, _, rfl, rfl, by rw [bl]; omega, D, bs.map V.ref, _, .ref ra, rfl, rfl, SqL.of r1.top, at1, ?_⟩
    have el : (iL r).length = r.length := List.length_map ..
    refine ⟨_, rfl, ra, iL r, rfl, .inl (SqL.of hra), _, _, rfl, rfl, _, rfl, ?_⟩
    by_cases c : 2 < r.length
    · refine yep_ (decide_eq_true (by rw [el]; omega)) ?_
      obtain ⟨j, ej, hj⟩ : ∃ j : Nat, cell / 16 % ((r.length : Int) - 1) = j ∧ j + 1 < r.length := by
        have h0 := Int.emod_nonneg (cell / 16) (show ((r.length : Int) - 1) ≠ 0 by omega)
        have h1 := Int.emod_lt_of_pos (cell / 16) (show (0 : Int) < (r.length : Int) - 1 by omega)
        exact ⟨(cell / 16 % ((r.length : Int) - 1)).toNat, by omega, by omega⟩
      refine ⟨_, rfl, _, _, rfl, rfl, ⟨by omega, by omega⟩, _, rfl, ra, iL r, rfl, .inl (SqL.of hra), _, _, rfl, rfl, _, _, rfl, rfl, by rw [el]; omega, ?_⟩
      dsimp only
      rw [el, ej]
      refine ⟨_, rfl, _, rfl, (j : Int), rfl, ra, iL r, rfl, SqL.of hra, fun q1 hq1 => ?_⟩
      have ec1 : cutV (iL r) none (some (j : Int)) = iL (r.take j) := (cut_take _ j (by rw [List.length_map]; omega)).trans (List.map_take ..).symm
      rw [ec1]
      have t1 := Same.put (o := .lst (iL (r.take j))) hq1
      have d1 : (upd H1 q1 (.lst (iL (r.take j)))) q1 = _ := upd_same
      have hra1 := t1 _ _ hra
      generalize upd H1 q1 (.lst (iL (r.take j))) = H2 at *
      have a1 : atI (iL r) ((j : Int) + 1) = some (.int (r.getD (j + 1) 0)) := atI_nat (j := j + 1) (iL_get (by rw [List.getD_eq_getElem?_getD, List.getElem?_eq_getElem hj]; rfl))
      have a0 : atI (iL r) (j : Int) = some (.int (r.getD j 0)) := atI_nat (j := j) (iL_get (by rw [List.getD_eq_getElem?_getD, List.getElem?_eq_getElem (by omega)]; rfl))
      refine ⟨_, rfl, _, rfl, _, _, rfl, rfl, ra, iL r, _, .int (r.getD (j + 1) 0), rfl, rfl, SqL.of hra1, a1, _, rfl, _, rfl, ra, iL r, _, .int (r.getD j 0), rfl, rfl, SqL.of hra1, a0, smalle (by show 2 ≤ 1000; omega), fun q2 hq2 => ?_⟩
      have t2 := Same.put (o := .lst [.int (r.getD (j + 1) 0), .int (r.getD j 0)]) hq2
      have d2 : (upd H2 q2 (.lst [.int (r.getD (j + 1) 0), .int (r.getD j 0)])) q2 = _ := upd_same
      have hra2 := t2 _ _ hra1
      have d12 := t2 _ _ d1
      generalize upd H2 q2 (.lst [.int (r.getD (j + 1) 0), .int (r.getD j 0)]) = H3 at *
      refine ⟨q1, q2, _, _, rfl, rfl, d12, d2, smalle (by rw [List.length_map, List.length_take]; show _ + 2 ≤ 1000; omega), fun q3 hq3 => ?_⟩
      have t3 := Same.put (o := .lst (iL (r.take j) ++ [.int (r.getD (j + 1) 0), .int (r.getD j 0)])) hq3
      have d3 : (upd H3 q3 (.lst (iL (r.take j) ++ [.int (r.getD (j + 1) 0), .int (r.getD j 0)]))) q3 = _ := upd_same
      have hra3 := t3 _ _ hra2
      generalize upd H3 q3 (.lst (iL (r.take j) ++ [.int (r.getD (j + 1) 0), .int (r.getD j 0)])) = H4 at *
      refine ⟨_, rfl, _, rfl, _, _, rfl, rfl, (j : Int) + 2, rfl, ra, iL r, rfl, SqL.of hra3, fun q4 hq4 => ?_⟩
      have ec4 : cutV (iL r) (some ((j : Int) + 2)) none = iL (r.drop (j + 2)) := (cut_drop _ (j + 2) (by rw [List.length_map]; omega)).trans (List.map_drop ..).symm
      rw [ec4]
      have t4 := Same.put (o := .lst (iL (r.drop (j + 2)))) hq4
      have d4 : (upd H4 q4 (.lst (iL (r.drop (j + 2))))) q4 = _ := upd_same
      have d34 := t4 _ _ d3
      generalize upd H4 q4 (.lst (iL (r.drop (j + 2)))) = H5 at *
      refine ⟨q3, q4, _, _, rfl, rfl, d34, d4, smalle (by rw [List.length_append, List.length_map, List.length_map, List.length_take, List.length_drop]; show _ + 2 + _ ≤ 1000; omega), fun q5 hq5 => ?_⟩
      have ec5 : iL (r.take j) ++ [.int (r.getD (j + 1) 0), .int (r.getD j 0)] ++ iL (r.drop (j + 2)) = iL (swapL r j) := by
        unfold swapL iL
        rw [List.map_append, List.map_append, List.append_assoc]
        rfl
      rw [ec5]
      have t5 := Same.put (o := .lst (iL (swapL r j))) hq5
      have d5 : (upd H5 q5 (.lst (iL (swapL r j)))) q5 = _ := upd_same
      have s15 := ((t1.trans t2).trans t3).trans (t4.trans t5)
      have H5q : H1 q5 = none := ((t1.trans t2).trans (t3.trans t4)).free hq5
      generalize upd H5 q5 (.lst (iL (swapL r j))) = H6 at *
      have r6 := r1.same s15
      have qD : q5 ≠ D := fun z => by rw [z, r1.top] at H5q; cases H5q
      have qn : q5 ∉ bs := fun z => by
        obtain ⟨xs, q⟩ := r1.lstsN q5 z
        rw [H5q] at q
        cases q
      have ix : ixN (bs.map V.ref).length (cell % ((bs.map V.ref).length : Int)) = some i := by
        rw [bl, ei]
        unfold ixN
        rw [List.length_map, r1.len, if_pos (by omega)]
        simp
        omega
      refine ⟨_, rfl, _, rfl, _, rfl, D, bs.map V.ref, rfl, .inl (SqL.of r6.top), _, _, rfl, rfl, by rw [bl]; omega, D, bs.map V.ref, _, i, rfl, rfl, r6.top, ix, ?_⟩
      have r7 := r6.repl (i := i) d5 (s1.free H5q) qn qD
      refine ⟨_, rfl, k _ D _ _ (Same.write (s1.trans s15) r1.new) r7 (by rw [List.length_set]) fun a u v e1 e2 => ?_⟩
      rw [List.getElem?_set] at e2
      by_cases c2 : i = a
      · subst c2
        rw [if_pos rfl, if_pos hi] at e2
        cases Option.some.inj e2
        cases Option.some.inj (e1.symm.trans er)
        exact swap_perm hj
      · rw [if_neg c2] at e2
        cases Option.some.inj (e1.symm.trans e2)
        exact List.Perm.refl _
    · refine no_ (decide_eq_false (by rw [el]; omega)) ?_
      exact ⟨_, rfl, k H1 D bs tss s1 r1 rfl fun i r r' e1 e2 => by cases Option.some.inj (e1.symm.trans e2); exact List.Perm.refl _⟩
end
end Fd
namespace Fd
open PySem PySem.Spec PyProof.Rows L2
/-! ### sorted(d) and d.pop(k), d a dict with pairs as keys -/
section
open PySem.Calls SrtO
variable {prog : Program} {w : World} {A : Around} {E : Value → Shared → Prop} {s : Shared}
theorem sorted_src {T : String} {r d : Addr} {n : Nat} {P : Nat → Value → Prop} {OK : Heap → Prop} {k : Value → Int × Int} {Q : Value → Shared → Prop} (K : PySem.W.KdlSrc prog w T r d n P OK) (hh : A.handled = none) (hok : OK s.heap) (hn : n ≤ sizeLine)
    (hp : ∀ j v, P j v → Srt.IsPair s.heap v (k v).1 (k v).2)
    (h : ∀ (h1 h' : Heap) (tk : Nat) (vs out : List Value), vs.length = n → (∀ (j : Nat) (v : Value), vs[j]? = some v → P j v) → Srtd (fun v u => lexB (k v) (k u)) out → Stb (fun v u => lexB (k v) (k u)) out vs →
      (∀ b o, s.heap.get? b = some o → h1.get? b = some o) → (∀ b o, s.heap.get? b = some o → h'.get? b = some o) → (∃ m, h'.get? h1.objs.size = some (seqObj "list" out.toArray m)) → Q (.ref h1.objs.size) { s with heap := h', toks := tk }) :
    wpAny (model prog w) A (call (.builtin "sorted") [.ref r]) Q E s := by
  refine call_function_entry kind_sorted plain_sorted entry_sorted (args_sorted1 _) ?_; unfold Builtin.«sorted»
  refine wpAny_bind (m := checkCount "sorted" 1 1 _) (wpAny_pure (wpAny_bind (PySem.W.kdu_collect (A := A.in1) K hh hok hn fun h1 tk acc hk hacc => ?_)))
  have hl : acc.toList.length = n := (Array.length_toList (xs := acc)).trans hacc.1
  have hz : acc.toList.length ≤ sizeLine := hl ▸ hn
  refine wpAny_bind (wpAny_newList ?_ hz)
  have at1 : (h1.push (seqObj "list" acc.toList.toArray 0)).get? h1.objs.size = some (seqObj "list" acc.toList.toArray 0) := Heap.get?_push_size _ rfl
  show wpAny _ _ _ _ _ { s with heap := h1.push (seqObj "list" acc.toList.toArray 0), toks := tk }
  refine wpAny_bind (wpAny_holding (wpAny_call_entry slot_list_sort ⟨_, at1, rfl⟩ entry_list_sort (list_sort_ord (swo_lex k) at1 hz (fun h2 => ?_) fun out hs hb => ⟨_, rfl, ?_⟩) (args_list_sort _)))
  · refine pairs_sortableO (s := { s with heap := h1.push (seqObj "list" acc.toList.toArray 0), toks := tk }) (Nat.lt_of_lt_of_le (by decide) h2) (fun v hm => ?_) fun o e => ?_
    · obtain ⟨j, hj⟩ := List.mem_iff_getElem?.mp hm
      exact (hp j v (hacc.2 j v (by rw [← Array.getElem?_toList]; exact hj))).keeps fun b o e _ => Heap.get?_push_of_some _ (hk b o e)
    · have e2 : some o = some (seqObj "list" acc.toList.toArray 0) := e.symm.trans at1
      cases e2
      exact fun c => absurd (Value.type.inj c) (by decide)
  · refine wpAny_pure ⟨_, rfl, h h1 _ tk acc.toList out hl (fun j v e => hacc.2 j v (by rw [← Array.getElem?_toList]; exact e)) hs hb hk (fun b o e => ?_) (sortedHeap_at at1)⟩
    have lt : b < h1.objs.size := Heap.lt_size (hk b o e)
    rw [sortedHeap_old (Nat.ne_of_lt lt) (by rw [Heap.size_push]; exact Nat.lt_succ_of_lt lt)]
    exact Heap.get?_push_of_some _ (hk b o e)
end
def keyP (d : Tie) : List L2.Key := [Sum.inl d.1, Sum.inl d.2]
theorem keyP_inj {d e : Tie} (h : keyP d = keyP e) : d = e := by
  unfold keyP at h
  injection h with h1 h2
  injection h2 with h2 _
  exact Prod.ext (Sum.inl.inj h1) (Sum.inl.inj h2)
abbrev kvP (ds : List Tie) : List (List L2.Key × V) := ds.map fun d => (keyP d, V.bl true)
theorem kvP_has {ds : List Tie} {d : Tie} (h : d ∈ ds) : valV (kvP ds) (keyP d) = some (.bl true) := by
  induction ds with
  | nil => cases h
  | cons a r ih =>
    show valV ((keyP a, V.bl true) :: kvP r) _ = _
    by_cases c : a = d
    · subst c
      exact valV_pos (p := (keyP a, V.bl true)) rfl
    · rw [valV_neg (p := (keyP a, V.bl true)) (fun z => c (keyP_inj z))]
      rcases List.mem_cons.mp h with z | z
      · exact absurd z.symm c
      · exact ih z
theorem kvP_no {ds : List Tie} {d : Tie} (h : d ∉ ds) : valV (kvP ds) (keyP d) = none := by
  induction ds with
  | nil => rfl
  | cons a r ih =>
    show valV ((keyP a, V.bl true) :: kvP r) _ = _
    rw [valV_neg (p := (keyP a, V.bl true)) (fun z => h (by rw [keyP_inj z]; simp))]
    exact ih fun z => h (List.mem_cons_of_mem _ z)
theorem kvP_put {ds : List Tie} {d : Tie} (h : d ∉ ds) : putK (kvP ds) (keyP d) (.bl true) = kvP (ds ++ [d]) := by
  rw [putK_new _ (kvP_no h)]
  unfold kvP
  rw [List.map_append]
  rfl
theorem kvP_drop (ds : List Tie) (d : Tie) : dropK (kvP ds) (keyP d) = kvP (ds.filter fun e => decide (e ≠ d)) := by
  unfold dropK kvP
  rw [List.filter_map]
  congr 1
  refine List.filter_congr fun e _ => ?_
  show decide (keyP e ≠ keyP d) = decide (e ≠ d)
  by_cases c : e = d
  · rw [c, decide_eq_false (by simp), decide_eq_false (by simp)]
  · rw [decide_eq_true (show keyP e ≠ keyP d from fun z => c (keyP_inj z)), decide_eq_true (show e ≠ d from c)]
section
variable {X : Cx}
def rPop1P : V → List V → Hp → VK → Prop := fun x xs H Q => ∃ (a b : Addr) (kvs : List (List L2.Key × V)) (k : List L2.Key) (v : V), x = .ref a ∧ xs = [.ref b] ∧ H a = some (.dT kvs) ∧ H b = some (.tup (k.map kV)) ∧
  valV kvs k = some v ∧ Q v (upd H a (.dT (dropK kvs k)))
theorem meetsPop1 {prog : Program} {w : World} {κ : Type} [DecidableEq κ] {knd : HeapKind prog w κ} {d b : Addr} {k : κ} :
    MeetsIn prog w (Builtin.«dict.pop» ⟨[.ref d, .ref b], []⟩) (fun A R s => ∃ xs p, knd.room A.in1 ∧ knd.is s.heap k b ∧ s.heap.DictOfH knd d xs ∧ xs.length ≤ sizeLine ∧
      atKey xs k = some p ∧ ∀ h' tk, h'.DictOfH knd d (DT.dropH xs k) → Heap.SameBut d s.heap h' → R (.ok (.ret p.2)) { s with heap := h', toks := tk }) :=
  .of_wp fun A R s ⟨zs, p, room, isk, dof, short, hat, go⟩ => by
    obtain ⟨ob, ent, n0, at0, exd, dat, el, kis, ndz⟩ := id dof
    have size0 : ent.size = zs.length := size_of_entries el
    have part0 : (keyPart (Value.ref b)).isSome = false := rfl
    unfold Builtin.«dict.pop»; refine wpAny_bind ?_
    unfold Builtin.Dict.keyAndDefault; refine wpAny_bind (wpAny_notOrdered_dict dof.typeIs ?_)
    show wpAny _ _ (pure (d, Value.ref b, none)) _ _ s; refine wpAny_pure ?_
    simp only [part0, Bool.false_eq_true, if_false]; refine wpAny_bind (wpAny_dictEntries at0 dat (wpAny_bind (wpAny_pure ?_)))
    cases em : ent.isEmpty with
    | true =>
      have z0 : ent.size = 0 := by simpa using em
      rw [List.length_eq_zero_iff.mp (size0.symm.trans z0)] at hat
      cases hat
    | false =>
      simp only [Bool.false_eq_true, if_false]
      refine wpAny_bind (DT.takeH room isk dof short (fun hno => by rw [hat] at hno; cases hno) fun p' e hp hev h' hm' hs' => ?_)
      obtain rfl : p = p' := Option.some.inj (hat.symm.trans hp)
      simp only [Option.isNone_some, Bool.false_eq_true, if_false]; exact wpAny_bind (wpAny_letGo (wpAny_pure ⟨e.val, rfl, by rw [hev]; exact go h' _ hm' hs'⟩))
theorem mt_pop1P (hu : X.A.units + 1 < cLine) : MtR X "dict.pop" rPop1P := by
  intro pins s σ H x xs v us Q I rx rxs h
  obtain ⟨a, b, kvs, k, v0, rfl, rfl, ha, hb, ev, q1⟩ := h
  cases rx
  obtain ⟨u1, rfl, r1⟩ := vals1 rxs
  cases r1
  obtain ⟨z, nsys, zs, rel, dd⟩ := dt_of I.hok ha
  have short : zs.length ≤ sizeLine := (Paired.length rel) ▸ z
  have r := rel.val k
  rw [ev] at r
  obtain ⟨p, hp, rv⟩ : ∃ p, atKey zs k = some p ∧ RelV v0 p.2 := by
    cases ep : atKey zs k with
    | none => rw [ep] at r; exact (show False from r).elim
    | some p => rw [ep] at r; exact ⟨p, rfl, r⟩
  refine call_meetsIn PySem.F.slot_dict_pop dd.typeIs PySem.F.entry_dict_pop (PySem.F.args_dict_pop_2 _ _) (meetsPop1 (knd := tupleKind (mixKind X.prog X.w)) (k := k)) ⟨zs, p, tupleKind_room_in1 hu, key_of I.hok hb, dd, short, hp, fun h' tk dd' hs => ?_⟩
  obtain ⟨ob, ent, n0, at0, exd, dat, el, _, ndz⟩ := dd'
  have J : Inv X pins σ (upd H a (.dT (dropK kvs k))) { s with heap := h', toks := tk } :=
    d_write I (by rw [ha]; exact True.intro) hs ⟨ob, at0⟩ ⟨Nat.le_trans (dropK_le kvs k) z, nsys, _, (DX.KT_drop k rel).keeps (fun c ys ec => (by rw [upd_ne (ne_of ec ha (fun z => nomatch z))]; exact ec)), ob, ent, n0, at0, exd, dat, el, ndz⟩
  show EP X pins σ Q p.2 _; exact ⟨v0, _, J, rv, q1⟩
/-- a new list of the keys, that stand as they stood, sorted -/
def rSortedKP : List V → Hp → VK → Prop := fun vs H Q => ∃ (a : Addr) (ds : List Tie), vs = [V.ref a] ∧ H a = some (.dT (kvP ds)) ∧
  ∀ (ys : List V) (p : Addr) (es : List Tie), es.Perm ds → es.Pairwise (fun x y => ¬ lexT y x) → PairsAt H ys es → H p = none → Q (.ref p) (upd H p (.lst ys))
def keyV (h : Heap) : Value → Tie
  | .ref a => match h.get? a with
    | some o => match o.data with
      | .seq xs _ => match xs.toList with
        | [.int i _, .int j _] => (i, j)
        | _ => (0, 0)
      | _ => (0, 0)
    | none => (0, 0)
  | _ => (0, 0)
theorem cr_sortedKP (hc : X.calm = true) : CallR X (.builtin "sorted") rSortedKP := by
  intro pins s σ H xs us Q I r h
  obtain ⟨d, ds, rfl, hd, q⟩ := h
  rw [Vals.ref1 r]
  obtain ⟨z, nsys, zs, rel, ob, ent, n0, at0, exd, dat, el, ndz⟩ := (show ObjOk X.prog X.w H s.heap d (.dT (kvP ds)) from I.hok d _ hd)
  have l1 : ent.size = zs.length := size_of_entries el
  have l2 : (kvP ds).length = zs.length := Paired.length rel
  -- the key at j: a tuple that is tracked
  have key : ∀ (j : Nat) (v : Value), (∃ en : DictEntry, ent[j]? = some en ∧ v = en.key) → ∃ (b : Addr) (t : Tie), v = .ref b ∧ ds[j]? = some t ∧ H b = some (.tup [.int t.1, .int t.2]) ∧ Srt.IsPair s.heap v t.1 t.2 := by
    rintro j v ⟨en, hen, rfl⟩
    have qe := entry_at el j
    rw [hen] at qe
    cases hb : zs[j]? with
    | none => rw [hb] at qe; exact nomatch (show some en = none from qe)
    | some b =>
      rw [hb] at qe
      have e2 : en = entryOfKey (tupleKind (mixKind X.prog X.w)) b := Option.some.inj qe
      obtain ⟨kv, ekv, f1, f2, _⟩ := paired_get' rel hb
      rw [List.getElem?_map] at ekv
      cases et : ds[j]? with
      | none => rw [et] at ekv; cases ekv
      | some t =>
        rw [et] at ekv
        cases Option.some.inj ekv
        have tr : H b.2.1 = some (.tup [.int t.1, .int t.2]) := f2
        obtain ⟨_, its, rv, o, ho, hcl, n, hdt⟩ := I.hok _ _ tr
        obtain ⟨u1, u2, rfl, ri, rj⟩ := vals2 rv
        obtain ⟨t1, rfl⟩ := ri
        obtain ⟨t2, rfl⟩ := rj
        exact ⟨b.2.1, t, by rw [e2]; rfl, rfl, tr, b.2.1, o, t1, t2, n, by rw [e2]; rfl, ho, hcl, hdt⟩
  have kv_of : ∀ (v : Value) (x y : Int), Srt.IsPair s.heap v x y → keyV s.heap v = (x, y) := by
    rintro v x y ⟨a, o, t, u, n, rfl, ho, _, hdt⟩
    simp only [keyV, ho, hdt]
  refine sorted_src (k := keyV s.heap) (kdl_raw nsys exd dat) (I.ok.hd hc) at0 (by omega) (fun j v hv => ?_) fun h1 h' tk vs out vl vat so sb k1 k2 ⟨m, hm⟩ => ?_
  · obtain ⟨b, t, _, _, _, ip⟩ := key j v hv
    rw [kv_of _ _ _ ip]
    exact ip
  · have memv : ∀ v ∈ out, ∃ (b : Addr), v = .ref b ∧ H b = some (.tup [.int (keyV s.heap v).1, .int (keyV s.heap v).2]) := fun v hv => by
      obtain ⟨j, hj⟩ := List.mem_iff_getElem?.mp (sb.perm.mem_iff.mp hv)
      obtain ⟨b, t, e, _, tr, ip⟩ := key j v (vat j v hj)
      rw [kv_of _ _ _ ip]
      exact ⟨b, e, tr⟩
    have vmap : vs.map (keyV s.heap) = ds := by
      refine List.ext_getElem? fun j => ?_
      rw [List.getElem?_map]
      cases hj : vs[j]? with
      | none =>
        have a1 := List.getElem?_eq_none_iff.mp hj
        have a2 : ds.length = zs.length := by rw [← l2, List.length_map]
        rw [List.getElem?_eq_none (by omega)]
        rfl
      | some v =>
        obtain ⟨b, t, e, et, tr, ip⟩ := key j v (vat j v hj)
        rw [et]
        exact congrArg some (kv_of _ _ _ ip)
    have out_vals : ∀ (l : List Value), (∀ v ∈ l, ∃ (b : Addr), v = .ref b ∧ H b = some (.tup [.int (keyV s.heap v).1, .int (keyV s.heap v).2])) → ∃ ys : List V, Vals ys l ∧ PairsAt H ys (l.map (keyV s.heap)) := fun l => by
      induction l with
      | nil => exact fun _ => ⟨[], .nil, .nil⟩
      | cons v l ih =>
        intro hl
        obtain ⟨ys, y1, y2⟩ := ih fun u hu => hl u (List.mem_cons_of_mem _ hu)
        obtain ⟨b, rfl, hb⟩ := hl v List.mem_cons_self
        exact ⟨.ref b :: ys, .cons rfl y1, .cons ⟨b, rfl, hb⟩ y2⟩
    obtain ⟨ys, y1, y2⟩ := out_vals out memv
    have nH : H h1.objs.size = none := (I.hok.kept k1).fresh (Nat.le_refl _)
    have ns : s.heap.get? h1.objs.size = none := by
      cases e : s.heap.get? h1.objs.size with
      | none => rfl
      | some o => exact absurd (Heap.lt_size (k1 _ _ e)) (Nat.lt_irrefl _)
    have yl : ys.length ≤ sizeLine := by rw [y1.length, sb.len, vl]; omega
    refine ⟨.ref h1.objs.size, upd H h1.objs.size (.lst ys), I.laidN (t' := tk) k2 ns nH ⟨yl, out, m, y1, hm⟩, rfl, q ys h1.objs.size _ ?_ ?_ y2 nH⟩
    · rw [← vmap]
      exact sb.perm.map _
    · rw [List.pairwise_map]
      exact List.Pairwise.imp (fun {x y} e => SrtO.lexB_no.mp e) so
end
end Fd
namespace Fd
open PySem PySem.Spec PyProof.Rows L2
/-! ### `_law_firsts`: the least step of each walk -/
theorem seq_if {c : TT} {ta tb u : TS} {D : L2.Ends} {σ : L2.St} {H : Hp} (Pv : L2.St → Hp → Prop) (h : (∀ σ' H', Pv σ' H' → u D σ' H') → tIfS c ta tb { D with nx := u D } σ H) (hn : ∀ σ' H', Pv σ' H' → u D σ' H') : tSeq (tIfS c ta tb) u D σ H := h hn
/-- both ways of each tie -/
def ddL (ts : List Tie) : List Tie := ts.flatMap fun t => [t, (t.2, t.1)]
theorem mem_ddL {ts : List Tie} {d : Tie} : d ∈ ddL ts ↔ Adj ts d.1 d.2 := by
  unfold ddL Adj
  rw [List.mem_flatMap]
  constructor
  · rintro ⟨t, ht, h⟩
    rcases List.mem_cons.mp h with e | e
    · exact .inl (e ▸ ht)
    · rw [List.mem_singleton.mp e]
      exact .inr ht
  · rintro (h | h)
    · exact ⟨d, h, by simp⟩
    · exact ⟨_, h, by simp⟩
theorem ddL_snoc (ts : List Tie) (t : Tie) : ddL (ts ++ [t]) = ddL ts ++ [t] ++ [(t.2, t.1)] := by
  unfold ddL
  rw [List.flatMap_append]
  simp
theorem ddL_nodup {m : Nat} : ∀ {ts : List Tie}, Good m ts → (ddL ts).Nodup
  | [], _ => by simp [ddL]
  | t :: ts, g => by
    have g' : Good m ts := ⟨fun u h => g.rng u (List.mem_cons_of_mem _ h), (List.pairwise_cons.mp g.ap).2⟩
    have q := (List.pairwise_cons.mp g.ap).1
    have ne := (g.rng t List.mem_cons_self).2.2.2.2
    have e : ddL (t :: ts) = [t, (t.2, t.1)] ++ ddL ts := by simp [ddL]
    rw [e]
    refine List.nodup_append.mpr ⟨?_, ddL_nodup g', fun a ha b hb z => ?_⟩
    · rw [List.nodup_cons]
      refine ⟨fun h => ne ?_, by simp⟩
      have := List.mem_singleton.mp h
      exact congrArg Prod.fst this
    · subst z
      have hb2 : Adj ts a.1 a.2 := mem_ddL.mp hb
      rcases List.mem_cons.mp ha with e | e
      · subst e
        rcases hb2 with k | k
        · exact (q _ k).1 rfl
        · exact (q _ k).2 rfl
      · rw [List.mem_singleton.mp e] at hb2
        rcases hb2 with k | k
        · exact (q _ k).2 rfl
        · exact (q _ k).1 rfl
theorem ddL_len (ts : List Tie) : (ddL ts).length = 2 * ts.length := by
  induction ts with
  | nil => rfl
  | cons t ts ih =>
    have e : ddL (t :: ts) = [t, (t.2, t.1)] ++ ddL ts := by simp [ddL]
    rw [e, List.length_append, ih]
    simp
    omega
theorem sorted_darts {m : Nat} {ts es : List Tie} (g : Good m ts) (hp : es.Perm (ddL ts)) (hs : es.Pairwise fun x y => ¬ lexT y x) : es = dartsL m ts := by
  have nd : es.Nodup := hp.nodup_iff.mpr (ddL_nodup g)
  refine strict_uniq (lt := lexT) (fun a b h k => lexT_asymm h k) ((List.Pairwise.and hs nd).imp fun {a b} h => ?_) (darts_strict m ts) fun x => ?_
  · rcases lexT_tri a b with z | z | z
    · exact z
    · exact absurd z h.2
    · exact absurd z h.1
  · rw [hp.mem_iff, mem_ddL, mem_darts g]
/-- what is left when the walks of the first i steps have been gone -/
noncomputable def remL (f : Tie → Tie) (L ds : List Tie) (i : Nat) : List Tie := ds.filter fun e => dB (∀ v ∈ L.take i, e ∉ orb f v)
theorem mem_remL {f : Tie → Tie} {L ds : List Tie} {i : Nat} {e : Tie} : e ∈ remL f L ds i ↔ e ∈ ds ∧ ∀ v ∈ L.take i, e ∉ orb f v := by
  unfold remL
  rw [List.mem_filter, dB_iff]
theorem remL_head {f : Tie → Tie} {L ds : List Tie} (G : Goes f L) (st : L.Pairwise lexT) (eq : ∀ e, e ∈ ds ↔ e ∈ L) {i : Nat} {d : Tie} (hd : L[i]? = some d) : headB f d = true ↔ d ∈ remL f L ds i := by
  rw [G.head_iff st hd, mem_remL]
  constructor
  · intro h
    refine ⟨(eq d).mpr (List.mem_of_getElem? hd), fun v hv => ?_⟩
    obtain ⟨j, hj, e⟩ := List.getElem_of_mem hv
    rw [List.length_take] at hj
    refine h j v (by omega) ?_
    rw [← e, List.getElem_take]
    exact List.getElem?_eq_getElem _
  · rintro ⟨_, h⟩ j v hj ev
    refine h v ?_
    have hl : j < (L.take i).length := by
      have := (List.getElem?_eq_some_iff.mp ev).1
      rw [List.length_take]
      omega
    have e2 : (L.take i)[j]? = some v := by rw [List.getElem?_take, if_pos hj]; exact ev
    exact List.mem_of_getElem? e2
theorem remL_orb {f : Tie → Tie} {L ds : List Tie} (G : Goes f L) (eq : ∀ e, e ∈ ds ↔ e ∈ L) {i : Nat} {d e : Tie} (hd : d ∈ remL f L ds i) (he : e ∈ orb f d) : e ∈ remL f L ds i := by
  obtain ⟨h1, h2⟩ := mem_remL.mp hd
  have dL := (eq d).mp h1
  refine mem_remL.mpr ⟨(eq e).mpr (G.sub dL he), fun v hv hev => h2 v hv ?_⟩
  have vL : v ∈ L := List.mem_of_mem_take hv
  exact G.trans vL hev (G.sym dL he)
theorem remL_next {f : Tie → Tie} {L ds : List Tie} {i : Nat} {d : Tie} (hd : L[i]? = some d) : remL f L ds (i + 1) = (remL f L ds i).filter fun e => dB (e ∉ orb f d) := by
  unfold remL
  rw [List.filter_filter, take_next hd]
  refine List.filter_congr fun e _ => ?_
  rw [Bool.eq_iff_iff, Bool.and_eq_true, dB_iff, dB_iff, dB_iff]
  constructor
  · intro h
    exact ⟨h d (by simp), fun v hv => h v (List.mem_append_left _ hv)⟩
  · rintro ⟨h1, h2⟩ v hv
    rcases List.mem_append.mp hv with z | z
    · exact h2 v z
    · rw [List.mem_singleton.mp z]
      exact h1
theorem remL_no {f : Tie → Tie} {L ds : List Tie} (G : Goes f L) (eq : ∀ e, e ∈ ds ↔ e ∈ L) {i : Nat} {d : Tie} (hd : L[i]? = some d) (no : d ∉ remL f L ds i) : remL f L ds (i + 1) = remL f L ds i := by
  rw [remL_next hd]
  refine List.filter_eq_self.mpr fun e he => dB_t fun ho => no ?_
  have dL := List.mem_of_getElem? hd
  exact remL_orb G eq he (G.sym dL ho)
/-- the first q steps of d's walk are gone, too -/
def goneQ (f : Tie → Tie) (d : Tie) (rm : List Tie) (q : Nat) : List Tie := rm.filter fun e => decide (e ∉ (List.range q).map fun k => itr f k d)
theorem goneQ_0 (f : Tie → Tie) (d : Tie) (rm : List Tie) : goneQ f d rm 0 = rm := by
  unfold goneQ
  exact List.filter_eq_self.mpr fun e _ => by simp
theorem goneQ_next (f : Tie → Tie) (d : Tie) (rm : List Tie) (q : Nat) : (goneQ f d rm q).filter (fun e => decide (e ≠ itr f q d)) = goneQ f d rm (q + 1) := by
  unfold goneQ
  rw [List.filter_filter]
  refine List.filter_congr fun e _ => ?_
  rw [Bool.eq_iff_iff, Bool.and_eq_true, decide_eq_true_iff, decide_eq_true_iff, decide_eq_true_iff, List.range_succ, List.map_append]
  constructor
  · rintro ⟨h1, h2⟩ h
    rcases List.mem_append.mp h with z | z
    · exact h2 z
    · exact h1 (List.mem_singleton.mp z)
  · intro h
    exact ⟨fun z => h (List.mem_append_right _ (by rw [z]; simp)), fun z => h (List.mem_append_left _ z)⟩
theorem goneQ_all (f : Tie → Tie) (d : Tie) (rm : List Tie) : goneQ f d rm (per f d) = rm.filter fun e => dB (e ∉ orb f d) := by
  unfold goneQ
  refine List.filter_congr fun e _ => ?_
  rw [Bool.eq_iff_iff, decide_eq_true_iff, dB_iff]
  rfl
theorem goneQ_has {f : Tie → Tie} {L : List Tie} (G : Goes f L) {d : Tie} (hd : d ∈ L) {rm : List Tie} (ho : ∀ e ∈ orb f d, e ∈ rm) {q : Nat} (hq : q < per f d) : itr f q d ∈ goneQ f d rm q := by
  unfold goneQ
  refine List.mem_filter.mpr ⟨ho _ (List.mem_of_getElem? (orb_at hq)), decide_eq_true fun h => ?_⟩
  obtain ⟨k, hk, e⟩ := List.mem_map.mp h
  have hk := List.mem_range.mp hk
  have nd := G.orb_nodup hd
  have := L2.nd_ix nd (orb_at (f := f) (d := d) (show k < per f d by omega)) (by rw [orb_at hq, e])
  omega
theorem goneQ_end {f : Tie → Tie} {L : List Tie} (G : Goes f L) {d : Tie} (hd : d ∈ L) (rm : List Tie) : itr f (per f d) d ∉ goneQ f d rm (per f d) := fun h => by
  have p := G.per hd
  rw [p.2.1] at h
  have := (List.mem_filter.mp h).2
  rw [decide_eq_true_iff] at this
  exact this (List.mem_map.mpr ⟨0, List.mem_range.mpr p.1, rfl⟩)
theorem filter_shorter {α : Type} {p : α → Bool} : ∀ {l : List α} {x : α}, x ∈ l → ¬ p x = true → (l.filter p).length < l.length
  | a :: l, x, h, hp => by
    have le := List.length_filter_le p l
    rcases List.mem_cons.mp h with e | e
    · subst e
      rw [List.filter_cons_of_neg hp]
      exact Nat.lt_succ_of_le le
    · have ih := filter_shorter e hp
      by_cases c : p a = true
      · rw [List.filter_cons_of_pos c]
        exact Nat.succ_lt_succ ih
      · rw [List.filter_cons_of_neg c]
        exact Nat.lt_succ_of_lt ih
def muD (i : Nat) (σ : L2.St) (H : Hp) : Nat := match σ[i]? with
  | some (some (V.ref a)) => match H a with
    | some (.dT xs) => xs.length
    | _ => 0
  | _ => 0
def spFirsts (K : PySem.W.Frag) : Sp := fun vs H Q _ => ∃ (H0 : Hp) (R A : Addr) (as : List Addr) (m : Nat) (ws : List V) (ts : List Tie) (tss : List (List Int)), vs = [.ref R, .ref A] ∧ RowsAt H0 H R as tss ∧ TurnsOf m ts tss ∧ Good m ts ∧ m ≤ 16 ∧ ts.length ≤ 40 ∧
  H A = some (.lst ws) ∧ PairsAt H ws ts ∧
  ∀ (H' : Hp) (D : Addr) (us : List V), Same H H' → H D = none → H' D = some (.lst us) → PairsAt H' us (headsL m ts tss) → Q (.ref D) H'
theorem heads_lenT {m : Nat} {ts : List Tie} (g : Good m ts) (tss : List (List Int)) (n : Nat) : (((dartsL m ts).take n).filter (headB (stepT tss))).length ≤ 2 * ts.length := by
  have a := List.length_filter_le (headB (stepT tss)) ((dartsL m ts).take n)
  have b := darts_le g
  rw [List.length_take] at a
  omega
section
variable {P : Program} {w : World} {K : PySem.W.Frag} {mg : Str → Option Value} {base : Heap} {C : Addr}
abbrev nFirsts : List Str := ["_law_turns", "_law_ties_here", "_law_left", "_law_tie", "_law_firsts_here", "_law_step", "_law_turn"]
theorem scFirsts : FnScope nFirsts ["_law_turns", "_law_ties_here"] (defScope sLawFirsts) := ⟨rfl, rfl, rfl, by decide +kernel, rfl, by decide +kernel, by decide +kernel⟩
theorem c_firsts (T : WTxt K mg C) (F : Fn K mg "_law_firsts" sLawFirsts ["_law_turns", "_law_ties_here"]) : C8.Cal P w K mg base 1 "_law_firsts" (spFirsts K) [] := by
  refine cal_of F scFirsts (fun vs H Q E h => ?_) (fun f cdv A outer s H vs Q E hr h => ?_)
  · obtain ⟨H0, R, A, as, m, ws, ts, tss, rfl, _⟩ := h
    rfl
  · obtain ⟨H0, R, Ta, as, m, ws, ts, tss, rfl, hR, tu, g, m16, tl, hT, pw, k⟩ := h
    have hu1 : (A.deeper (envOfC "_law_firsts" (defScope sLawFirsts) s.heap.objs.size f cdv)).units + 1 < cLine := by
      have := hr.un
      omega
    have G := goes_of g tu
    have st := darts_strict m ts
    refine ⟨_, pss_cons (ps_set (i := 2) scFirsts.nd rfl (Or.inl rfl) pe_dnewT)
      (pss_cons (ps_for PassesOwn.never rfl (pi_list (pv 1)) (pg_name (i := 3) scFirsts.nd rfl (Or.inl rfl))
        (pss_cons (ps_dput hu1 (pv 2) (pv 3) pe_bl rfl)
        (pss_one (ps_dput hu1 (pv 2) (pe_tup (pa_cons (pe_ix ix_tup (pv 3) pe_int (fun _ _ => rfl)) (pa_cons (pe_ix ix_tup (pv 3) pe_int (fun _ _ => rfl)) pa_nil))) pe_bl rfl))))
      (pss_cons (ps_set (i := 4) scFirsts.nd rfl (Or.inl rfl) (pe_lst pa_nil))
      (pss_cons (ps_for PassesOwn.never rfl (pi_list (pe_callB (id := "sorted") (r := rSortedKP) (cr_sortedKP rfl) (by rfl) T.sorted (by decide +kernel) (pa_cons (pv 2) pa_nil))) (pg_name (i := 5) scFirsts.nd rfl (Or.inl rfl))
        (pss_cons (ps_if (pt_cmp (pc_din hu1 (pv 5) (pv 2))) (pss_one (ps_expr (pe_bm PySem.F.plainAttrs_list PySem.F.slot_list_append PySem.F.type_list_append mt_append (pv 4) (pa_cons (pv 5) pa_nil)))) pss_nil)
        (pss_one (ps_while PassesOwn.never (pt_cmp (pc_din hu1 (pv 5) (pv 2)))
          (pss_cons (ps_expr (pe_bm PySem.F.plainAttrs_dict PySem.F.slot_dict_pop PySem.F.type_dict_pop (mt_pop1P hu1) (pv 2) (pa_cons (pv 5) pa_nil)))
          (pss_cons (ps_set (i := 6) scFirsts.nd rfl (Or.inl rfl) (pe_ix ix_list (pv 0) (pe_ix ix_tup (pv 5) pe_int (fun _ _ => rfl)) (fun _ _ => rfl)))
          (pss_one (ps_set (i := 5) scFirsts.nd rfl (Or.inl rfl) (pe_tup (pa_cons (pe_ix ix_tup (pv 5) pe_int (fun _ _ => rfl)) (pa_cons (pe_ix ix_list (pv 6) (pe_op op_mod (pe_op op_add (pe_bm PySem.F.plainAttrs_list PySem.F.slot_list_index PySem.F.type_list_index mt_index (pv 6) (pa_cons (pe_ix ix_tup (pv 5) pe_int (fun _ _ => rfl)) pa_nil)) pe_int)
              (pe_callB call_len_seq (by rfl) T.len PySem.boot_len (pa_cons (pv 6) pa_nil))) (fun _ _ => rfl)) pa_nil)))))))))))
      (pss_one (ps_ret (pv 4)))))), ?_⟩
    intro B hB
    have s0 := Same.put (o := .dT []) hB
    refine ⟨_, rfl, Ta, rfl, ⟨_, SqL.of (s0 _ _ hT)⟩, for_list (K := K) (a := Ta) (xs := ws) (fun i σ H1 => ∃ v3 : Option V, σ = [some (.ref R), some (.ref Ta), some (.ref B), v3, none, none, none] ∧ Same H H1 ∧ H1 B = some (.dT (kvP (ddL (ts.take i)))))
      ⟨none, rfl, s0, by rw [upd_same, List.take_zero]; rfl⟩ (fun i σ H1 _ ⟨_, _, s1, _⟩ => SqL.of (s1 _ _ hT)) ?_ ?_⟩
    · rintro i x σ H1 hi ⟨v3, rfl, s1, b1⟩
      obtain ⟨t, et, b, rfl, hb⟩ := paired_get (pw.same s1) hi
      have il := (List.getElem?_eq_some_iff.mp et).1
      have gn : Good m (ts.take (i + 1)) := g.take (i + 1)
      have nd := ddL_nodup gn
      rw [take_next et, ddL_snoc] at nd
      have n1 : t ∉ ddL (ts.take i) := fun z => (List.nodup_append.mp (List.nodup_append.mp nd).1).2.2 t z t (by simp) rfl
      have n2 : (t.2, t.1) ∉ ddL (ts.take i) ++ [t] := fun z => (List.nodup_append.mp nd).2.2 _ z _ (by simp) rfl
      have dl := ddL_len (ts.take i)
      rw [List.length_take] at dl
      refine ⟨_, rfl, _, rfl, B, _, rfl, DPut.t (k := keyP t) b1 hb (small (by rw [List.length_map]; omega)), ?_⟩
      rw [kvP_put n1]
      have t1 : Same H (upd H1 B (.dT (kvP (ddL (ts.take i) ++ [t])))) := Same.write s1 hB
      have bB : b ≠ B := fun z => by rw [z, b1] at hb; cases hb
      have hb2 : (upd H1 B (.dT (kvP (ddL (ts.take i) ++ [t])))) b = some (.tup [.int t.1, .int t.2]) := by rw [upd_ne bB]; exact hb
      have b2 : (upd H1 B (.dT (kvP (ddL (ts.take i) ++ [t])))) B = some (.dT (kvP (ddL (ts.take i) ++ [t]))) := upd_same
      generalize upd H1 B (.dT (kvP (ddL (ts.take i) ++ [t]))) = H2 at *
      refine ⟨_, rfl, _, rfl, b, _, 1, .int t.2, rfl, rfl, SqT.of hb2, rfl, _, rfl, b, _, 0, .int t.1, rfl, rfl, SqT.of hb2, rfl, by show 2 ≤ sizeLine; decide, fun q hq => ?_⟩
      have Bq : B ≠ q := ne_of_none b2 hq
      refine ⟨B, _, rfl, DPut.t (k := keyP (t.2, t.1)) (by rw [upd_ne Bq]; exact b2) upd_same (small (by rw [List.length_map, List.length_append]; show _ + 1 ≤ 1000; omega)), ?_⟩
      rw [kvP_put n2]
      refine ⟨_, rfl, Same.write (Same.step t1 hq) hB, ?_⟩
      rw [upd_same, take_next et, ddL_snoc]
    · rintro σ H1 ⟨v3, rfl, s1, b1⟩
      rw [pw.length, List.take_length] at b1
      refine ⟨Nat.zero_le _, fun Fa hFa => ?_⟩
      have s2 := Same.put (o := .lst []) hFa
      have f2 : (upd H1 Fa (.lst [])) Fa = some (.lst []) := upd_same
      have b2 := s2 _ _ b1
      generalize upd H1 Fa (.lst []) = H2 at *
      have s12 := s1.trans s2
      refine ⟨_, rfl, B, ddL ts, rfl, b2, fun ys Sa es pe so pa hSa => ?_⟩
      obtain rfl := sorted_darts g pe so
      refine ⟨Sa, rfl, ⟨_, SqL.of upd_same⟩, ?_⟩
      have s3 := Same.put (o := .lst ys) hSa
      have S3 : (upd H2 Sa (.lst ys)) Sa = some (.lst ys) := upd_same
      have f3 := s3 _ _ f2
      have b3 := s3 _ _ b2
      have p3 := pa.same s3
      generalize upd H2 Sa (.lst ys) = H3 at *
      have s13 := s12.trans s3
      have FaN : H Fa = none := s1.free hFa
      have eqm : ∀ e, e ∈ ddL ts ↔ e ∈ dartsL m ts := fun e => by rw [mem_ddL, mem_darts g]
      -- what stood at H3 but the dict and the list of the firsts stays
      refine for_list (K := K) (a := Sa) (xs := ys) (fun i σ H4 => ∃ (v3 v5 v6 : Option V) (us : List V), σ = [some (.ref R), some (.ref Ta), some (.ref B), v3, some (.ref Fa), v5, v6] ∧ Same H H4 ∧ (∀ b o, b ≠ B → b ≠ Fa → H3 b = some o → H4 b = some o) ∧
          H4 B = some (.dT (kvP (remL (stepT tss) (dartsL m ts) (ddL ts) i))) ∧ H4 Fa = some (.lst us) ∧ PairsAt H4 us (((dartsL m ts).take i).filter (headB (stepT tss))))
        ⟨_, none, none, [], rfl, s13, fun b o _ _ e => e, ?_, f3, by rw [List.take_zero]; exact .nil⟩ (fun i σ H4 _ ⟨_, _, _, _, _, _, t4, _⟩ => SqL.of (t4 _ _ (ne_of S3 b3 (fun z => nomatch z)) (fun z => (ne_of_none f2 hSa) z.symm) S3)) ?_ ?_
      · rw [b3]
        unfold remL
        rw [List.filter_eq_self.mpr fun e _ => dB_t (by simp)]
      · rintro i x σ H4 hi ⟨v3, v5, v6, us, rfl, s4, t4, b4, f4, p4⟩
        obtain ⟨d, ed, xa, rfl, hxa⟩ := paired_get p3 hi
        have dm := List.mem_of_getElem? ed
        have xB : xa ≠ B := ne_of hxa b3 (fun z => nomatch z)
        have xF : xa ≠ Fa := ne_of hxa f3 (fun z => nomatch z)
        have BF : B ≠ Fa := ne_of b3 f3 (fun z => nomatch z)
        have hx4 := t4 _ _ xB xF hxa
        have hh := remL_head (ds := ddL ts) G st eqm ed
        dsimp only [gName]
        refine seq_if (fun σ' H' => ∃ us' : List V, σ' = [some (.ref R), some (.ref Ta), some (.ref B), v3, some (.ref Fa), some (.ref xa), v6] ∧ Same H H' ∧ (∀ b o, b ≠ B → b ≠ Fa → H3 b = some o → H' b = some o) ∧
          H' B = some (.dT (kvP (remL (stepT tss) (dartsL m ts) (ddL ts) i))) ∧ H' Fa = some (.lst us') ∧ PairsAt H' us' (((dartsL m ts).take (i + 1)).filter (headB (stepT tss)))) (fun hn => ?_) ?_
        · refine ⟨_, rfl, _, rfl, B, _, rfl, DGet.t (k := keyP d) b4 hx4, _, rfl, ?_⟩
          by_cases c : d ∈ remL (stepT tss) (dartsL m ts) (ddL ts) i
          · refine yep_ (by rw [kvP_has c]; rfl) ?_
            have fl := heads_lenT g tss i
            have pl := p4.length
            refine ⟨_, rfl, .inl ⟨rfl, _, SqL.of f4⟩, _, rfl, Fa, us, _, rfl, rfl, f4, small (by omega), ?_⟩
            refine hn _ _ ⟨us ++ [.ref xa], rfl, Same.write s4 FaN, fun b o h1 h2 e => by rw [upd_ne h2]; exact t4 b o h1 h2 e, by rw [upd_ne BF]; exact b4, upd_same, ?_⟩
            rw [take_next ed, List.filter_append, List.filter_cons_of_pos (hh.mpr c)]
            exact paired_snoc (pairs_over f4 p4) (pair_over f4 ⟨xa, rfl, hx4⟩)
          · refine no_ (by rw [kvP_no c]; rfl) ?_
            refine hn _ _ ⟨us, rfl, s4, t4, b4, f4, ?_⟩
            rw [take_next ed, List.filter_append, List.filter_cons_of_neg (fun z => c (hh.mp z)), List.filter_nil, List.append_nil]
            exact p4
        · rintro σ' H5 ⟨us', rfl, s5, t5, b5, f5, p5⟩
          refine while_by (fun σ H6 => ∃ (q : Nat) (bq : Addr) (v6 : Option V), σ = [some (.ref R), some (.ref Ta), some (.ref B), v3, some (.ref Fa), some (.ref bq), v6] ∧ Same H H6 ∧ (∀ b o, b ≠ B → H5 b = some o → H6 b = some o) ∧
              H6 bq = some (.tup [.int (itr (stepT tss) q d).1, .int (itr (stepT tss) q d).2]) ∧ H6 B = some (.dT (kvP (goneQ (stepT tss) d (remL (stepT tss) (dartsL m ts) (ddL ts) i) q))) ∧ q ≤ per (stepT tss) d ∧ (d ∈ remL (stepT tss) (dartsL m ts) (ddL ts) i ∨ q = 0)) (muD 2)
            ⟨0, xa, v6, rfl, s5, fun b o _ e => e, t5 _ _ xB xF hxa, by rw [goneQ_0]; exact b5, Nat.zero_le _, .inr rfl⟩ ?_ ?_
          · rintro σ H6 ⟨q, bq, v6', rfl, s6, t6, hq6, b6, ql, hd⟩
            refine ⟨_, rfl, _, rfl, B, _, rfl, DGet.t (k := keyP (itr (stepT tss) q d)) b6 hq6, _, rfl, ?_⟩
            by_cases c : itr (stepT tss) q d ∈ goneQ (stepT tss) d (remL (stepT tss) (dartsL m ts) (ddL ts) i) q
            · refine yep_ (by rw [kvP_has c]; rfl) ?_
              have ql2 : q < per (stepT tss) d := by
                rcases Nat.lt_or_ge q (per (stepT tss) d) with z | z
                · exact z
                · have e : q = per (stepT tss) d := by omega
                  rw [e] at c
                  exact absurd c (goneQ_end G dm _)
              have dr : d ∈ remL (stepT tss) (dartsL m ts) (ddL ts) i := by
                rcases hd with z | z
                · exact z
                · subst z
                  rw [goneQ_0] at c
                  exact c
              have bqB : bq ≠ B := ne_of hq6 b6 (fun z => nomatch z)
              refine ⟨_, rfl, .inr (.inr (.inl ⟨rfl, .inr ⟨_, b6⟩⟩)), _, rfl, B, bq, _, keyP (itr (stepT tss) q d), _, rfl, rfl, b6, hq6, kvP_has c, ?_⟩
              rw [kvP_drop, goneQ_next]
              have ml : (goneQ (stepT tss) d (remL (stepT tss) (dartsL m ts) (ddL ts) i) (q + 1)).length < (goneQ (stepT tss) d (remL (stepT tss) (dartsL m ts) (ddL ts) i) q).length := by
                rw [← goneQ_next]
                exact filter_shorter c (by simp)
              have s7 : Same H (upd H6 B (.dT (kvP (goneQ (stepT tss) d (remL (stepT tss) (dartsL m ts) (ddL ts) i) (q + 1))))) := Same.write s6 hB
              have t7 : ∀ b o, b ≠ B → H5 b = some o → (upd H6 B (.dT (kvP (goneQ (stepT tss) d (remL (stepT tss) (dartsL m ts) (ddL ts) i) (q + 1))))) b = some o := fun b o h1 e => by rw [upd_ne h1]; exact t6 b o h1 e
              have hq7 : (upd H6 B (.dT (kvP (goneQ (stepT tss) d (remL (stepT tss) (dartsL m ts) (ddL ts) i) (q + 1))))) bq = _ := (upd_ne bqB).trans hq6
              have b7 : (upd H6 B (.dT (kvP (goneQ (stepT tss) d (remL (stepT tss) (dartsL m ts) (ddL ts) i) (q + 1))))) B = some (.dT (kvP (goneQ (stepT tss) d (remL (stepT tss) (dartsL m ts) (ddL ts) i) (q + 1)))) := upd_same
              have m6 : muD 2 [some (V.ref R), some (.ref Ta), some (.ref B), v3, some (.ref Fa), some (.ref bq), v6'] H6 = (goneQ (stepT tss) d (remL (stepT tss) (dartsL m ts) (ddL ts) i) q).length := by
                show (match H6 B with | some (.dT xs) => xs.length | _ => 0) = _
                rw [b6]
                exact List.length_map ..
              generalize upd H6 B (.dT (kvP (goneQ (stepT tss) d (remL (stepT tss) (dartsL m ts) (ddL ts) i) (q + 1)))) = H7 at *
              have nextd : itr (stepT tss) (q + 1) d = stepT tss (itr (stepT tss) q d) := rfl
              have em := G.it dm q
              generalize itr (stepT tss) q d = e at *
              obtain ⟨d1, d2⟩ := e
              have adj := (mem_darts g).mp em
              obtain ⟨_, i2, i3⟩ := adj.inside g
              obtain ⟨v, rfl⟩ : ∃ v : Nat, d2 = v := ⟨d2.toNat, by have : 0 ≤ d2 := i2; omega⟩
              have hv : v < m := by have : (v : Int) < m := i3; omega
              obtain ⟨t, et, tp⟩ := tu.get hv
              obtain ⟨cc, ec, ecr, _, hc⟩ := (hR.same s7).get et
              have mem : d1 ∈ t := tp.mem_iff.mpr ((mem_rowOf g).mpr adj.symm)
              have nd : t.Nodup := tp.nodup_iff.mpr (rowOf_nodup m ts v)
              have t0 : 0 < t.length := List.length_pos_of_mem mem
              have ix := idx_at mem
              have il : t.idxOf d1 < t.length := (List.getElem?_eq_some_iff.mp ix).1
              have step2 : (stepT tss (d1, (v : Int))).2 = nxI t d1 := by
                show nxI (tss.getD ((v : Int)).toNat []) d1 = nxI t d1
                rw [Int.toNat_natCast, List.getD_eq_getElem?_getD, et]
                rfl
              have kl : (t.idxOf d1 + 1) % t.length < t.length := Nat.mod_lt _ t0
              have at2 : (iL t)[(t.idxOf d1 + 1) % t.length]? = some (.int (nxI t d1)) := by
                refine iL_get ?_
                unfold nxI
                rw [List.getD_eq_getElem?_getD, List.getElem?_eq_getElem kl]
                rfl
              have el : ((iL t).length : Int) = (t.length : Int) := by rw [List.length_map]
              have T7 := SqT.of (K := K) hq7
              refine ⟨_, rfl, _, rfl, bq, _, 1, .int v, rfl, rfl, T7, rfl, R, as.map V.ref, (v : Int), .ref cc, rfl, rfl, SqL.of (hR.same s7).top, atI_nat ecr, ?_⟩
              refine ⟨_, rfl, bq, _, 1, .int v, rfl, rfl, T7, rfl, _, rfl, _, rfl, .inl ⟨rfl, _, SqL.of hc⟩, _, rfl, bq, _, 0, .int d1, rfl, rfl, T7, rfl, cc, iL t, .int d1, t.idxOf d1, .int d1, rfl, rfl, SqL.of hc, rfl, flat_ints t, iL_get ix, beq_self_eq_true d1, fun i z hi hz => ?_, ?_⟩
              · obtain ⟨y, hy, rfl⟩ := iL_at hz
                refine beq_eq_false_iff_ne.mpr fun e => ?_
                rw [e] at hy
                have := nd_ix nd hy ix
                omega
              · refine ⟨_, _, rfl, rfl, _, rfl, cc, iL t, rfl, .inl (SqL.of hc), _, _, rfl, rfl, by rw [el]; omega, cc, iL t, _, .int (nxI t d1), rfl, rfl, SqL.of hc, ?_, by show 2 ≤ sizeLine; decide, fun p hp => ?_⟩
                · rw [el, show ((t.idxOf d1 : Nat) : Int) + 1 = ((t.idxOf d1 + 1 : Nat) : Int) by omega, ← Int.natCast_emod]
                  exact atI_nat at2
                · have Bp : B ≠ p := ne_of_none b7 hp
                  refine ⟨⟨q + 1, p, some (.ref cc), rfl, Same.step s7 hp, fun b o h1 e => ?_, ?_, by rw [upd_ne Bp]; exact b7, ql2, .inl dr⟩, ?_⟩
                  · exact (Same.put hp) _ _ (t7 b o h1 e)
                  · rw [upd_same, nextd, step2]
                    rfl
                  · rw [m6]
                    show (match (upd H7 p (.tup [.int (v : Int), .int (nxI t d1)])) B with | some (.dT xs) => xs.length | _ => 0) < _
                    rw [upd_ne Bp, b7]
                    show (kvP _).length < _
                    rw [List.length_map]
                    exact ml
            · refine no_ (by rw [kvP_no c]; rfl) ?_
              refine ⟨_, _, _, us', rfl, s6, fun b o h1 h2 e => t6 b o h1 (t5 b o h1 h2 e), ?_, t6 _ _ BF.symm f5, Paired.mono (fun _ _ ⟨b, e, hb⟩ => ⟨b, e, t6 _ _ (fun z => by rw [z, b5] at hb; cases hb) hb⟩) p5⟩
              · rw [b6]
                congr 3
                rcases hd with z | z
                · have e : q = per (stepT tss) d := by
                    rcases Nat.lt_or_ge q (per (stepT tss) d) with y | y
                    · exact absurd (goneQ_has G dm (fun e he => remL_orb G eqm z he) y) c
                    · omega
                  rw [e, goneQ_all, remL_next ed]
                · subst z
                  rw [goneQ_0] at c ⊢
                  exact (remL_no G eqm ed c).symm
          · rintro σ H6 Q1 Q2 hq ⟨v, e1, v2, e2, a, o, e3, h1, c, e4, h⟩
            exact ⟨v, e1, v2, e2, a, o, e3, h1, c, e4, hq _ _ h⟩
      · rintro σ H4 ⟨v3, v5, v6, us, rfl, s4, t4, b4, f4, p4⟩
        rw [pa.length, List.take_length] at p4
        exact ⟨_, rfl, k H4 Fa us s4 FaN f4 p4⟩
end
end Fd
namespace Fd
/-! ### flat, by labels -/
theorem sum_add {α : Type} (f g : α → Int) : ∀ l : List α, (l.map fun x => f x + g x).sum = (l.map f).sum + (l.map g).sum
  | [] => rfl
  | a :: l => by
    rw [List.map_cons, List.map_cons, List.map_cons, List.sum_cons, List.sum_cons, List.sum_cons, sum_add f g l]
    omega
theorem sum_one {a : Int} : ∀ {l : List Int}, l.Nodup → (l.map fun x => (if a = x then (1 : Int) else 0)).sum = if a ∈ l then 1 else 0
  | [], _ => by simp
  | b :: l, h => by
    obtain ⟨h1, h2⟩ := List.nodup_cons.mp h
    rw [List.map_cons, List.sum_cons, sum_one h2]
    by_cases c : a = b
    · subst c
      rw [if_pos rfl, if_neg h1, if_pos (by simp)]
      rfl
    · rw [if_neg c]
      by_cases c2 : a ∈ l
      · rw [if_pos c2, if_pos (by simp [c2])]
        rfl
      · rw [if_neg c2, if_neg (by simp [c, c2])]
        rfl
theorem here_cnt (t : Tie) (x : Int) : ((here t x).length : Int) = (if t.1 = x then 1 else 0) + (if t.2 = x then 1 else 0) := by
  unfold here
  by_cases h1 : t.1 = x <;> by_cases h2 : t.2 = x <;> simp [h1, h2]
/-- each tie counts twice -/
theorem deg_sum {m : Nat} {c : Int → Bool} : ∀ {ts : List Tie}, Good m ts → (∀ t ∈ ts, c t.1 = c t.2) → (((pts m).filter c).map fun x => ((nb ts x).length : Int)).sum = 2 * ((ts.filter fun t => c t.1).length : Int)
  | [], _, _ => by
    have e : ∀ l : List Int, (l.map fun x => ((nb [] x).length : Int)).sum = 0 := fun l => by
      induction l with
      | nil => rfl
      | cons a l ih =>
        rw [List.map_cons, List.sum_cons, ih]
        rfl
    rw [e]
    rfl
  | t :: ts, g, h => by
    have g' : Good m ts := ⟨fun u hu => g.rng u (List.mem_cons_of_mem _ hu), (List.pairwise_cons.mp g.ap).2⟩
    have ih := deg_sum g' fun u hu => h u (List.mem_cons_of_mem _ hu)
    have e : ∀ x, ((nb (t :: ts) x).length : Int) = ((here t x).length : Int) + ((nb ts x).length : Int) := fun x => by
      show (((t :: ts).flatMap fun t => here t x).length : Int) = _
      rw [List.flatMap_cons, List.length_append]
      exact Int.natCast_add ..
    have r := g.rng t List.mem_cons_self
    have nd : ((pts m).filter c).Nodup := ((pts_strict m).imp fun {a b} h => by intro e; omega).filter _
    have m1 : t.1 ∈ (pts m).filter c ↔ c t.1 = true := by
      rw [List.mem_filter, mem_pts]
      exact ⟨fun z => z.2, fun z => ⟨⟨r.1, r.2.1⟩, z⟩⟩
    have m2 : t.2 ∈ (pts m).filter c ↔ c t.1 = true := by
      rw [List.mem_filter, mem_pts, h t List.mem_cons_self]
      exact ⟨fun z => z.2, fun z => ⟨⟨r.2.2.1, r.2.2.2.1⟩, z⟩⟩
    rw [show (fun x => ((nb (t :: ts) x).length : Int)) = fun x => ((here t x).length : Int) + ((nb ts x).length : Int) from funext e, sum_add, ih,
      show (fun x => ((here t x).length : Int)) = fun x => (if t.1 = x then (1 : Int) else 0) + (if t.2 = x then 1 else 0) from funext (here_cnt t), sum_add, sum_one nd, sum_one nd]
    by_cases q : c t.1 = true
    · rw [if_pos (m1.mpr q), if_pos (m2.mpr q), List.filter_cons_of_pos (p := fun t : Tie => c t.1) q, List.length_cons]
      omega
    · rw [if_neg (fun z => q (m1.mp z)), if_neg (fun z => q (m2.mp z)), List.filter_cons_of_neg (p := fun t : Tie => c t.1) q]
      omega
theorem row_nb {m : Nat} {ts : List Tie} (g : Good m ts) (p : Int) : (rowOf m ts p).length = (nb ts p).length :=
  ((List.perm_ext_iff_of_nodup (rowOf_nodup m ts p) (nb_nodup g p)).mpr fun x => by rw [mem_rowOf g, mem_nb]).length_eq
def ownN (ts : List Tie) (l : Int) : Nat := (ts.filter fun t => decide (labF ts t.1 = l)).length
def ptsN (m : Nat) (ts : List Tie) (l : Int) : Nat := ((pts m).filter fun x => decide (labF ts x = l)).length
noncomputable def seenN (m : Nat) (ts : List Tie) (tss : List (List Int)) (l : Int) : Nat := ((headsL m ts tss).filter fun d => decide (labF ts d.1 = l)).length
noncomputable def okL (m : Nat) (ts : List Tie) (tss : List (List Int)) (l : Int) : Bool := !(decide (0 < ownN ts l) && !decide ((seenN m ts tss l : Int) = (ownN ts l : Int) - (ptsN m ts l : Int) + 2))
noncomputable def lawFlat (m : Nat) (ts : List Tie) (tss : List (List Int)) : Bool := (pts m).all (okL m ts tss)
theorem Rch.first {ts : List Tie} {p x : Int} (h : Rch ts none p x) : x = p ∨ ∃ y, Adj ts p y := by
  induction h with
  | here => exact .inl rfl
  | step _ a _ ih =>
    rcases ih with e | e
    · subst e
      exact .inr ⟨_, a⟩
    · exact .inr e
section
variable {m : Nat} {ts : List Tie} (g : Good m ts)
include g
theorem lab_good : LabOk m ts (labF ts) := lab_okE _ rfl fun t ht => let r := g.rng t ht; ⟨r.1, r.2.1, r.2.2.1, r.2.2.2.1⟩
theorem lab_in {x : Int} (hx : 0 ≤ x ∧ x < m) : 0 ≤ labF ts x ∧ labF ts x < m := ((lab_good g).own x hx.1 hx.2).inside g hx
theorem lab_lab {x : Int} (hx : 0 ≤ x ∧ x < m) : labF ts (labF ts x) = labF ts x := by
  have L := lab_good g
  have i := lab_in g hx
  exact ((L.same x (labF ts x) hx.1 hx.2 i.1 i.2).mpr (L.own x hx.1 hx.2)).symm
theorem lab_tie {t : Tie} (ht : t ∈ ts) : labF ts t.1 = labF ts t.2 := by
  have r := g.rng t ht
  exact ((lab_good g).same t.1 t.2 r.1 r.2.1 r.2.2.1 r.2.2.2.1).mpr (.step .here (.inl ht) (by simp))
theorem reach_lab {p : Int} (hp : 0 ≤ p ∧ p < m) (e : labF ts p = p) : reachL m ts none p = (pts m).filter fun x => decide (labF ts x = p) := by
  unfold reachL
  refine List.filter_congr fun x hx => ?_
  have hx := mem_pts.mp hx
  have q := (lab_good g).same p x hp.1 hp.2 hx.1 hx.2
  rw [Bool.eq_iff_iff, @decide_eq_true_iff _ (Classical.propDecidable _), decide_eq_true_iff, ← q, e]
  exact ⟨fun z => z.symm, fun z => z.symm⟩
theorem head_lab {p : Int} (hp : 0 ≤ p ∧ p < m) : isHead m ts p = true ↔ labF ts p = p := by
  have L := lab_good g
  unfold isHead
  rw [decide_eq_true_iff]
  constructor
  · intro h
    have i := lab_in g hp
    have a : labF ts p ∈ reachL m ts none p := (mem_reachL g hp).mpr (L.own p hp.1 hp.2)
    have low := L.low p
    have st := reachL_strict m ts none p
    cases e : reachL m ts none p with
    | nil => rw [e] at h; cases h
    | cons b l =>
      rw [e] at h a st
      obtain rfl : b = p := Option.some.inj h
      rcases List.mem_cons.mp a with z | z
      · exact z
      · have := (List.pairwise_cons.mp st).1 _ z
        omega
  · intro h
    have a : p ∈ reachL m ts none p := (mem_reachL g hp).mpr .here
    have st := reachL_strict m ts none p
    cases e : reachL m ts none p with
    | nil => rw [e] at a; cases a
    | cons b l =>
      have hb : b ∈ reachL m ts none p := by rw [e]; simp
      have rb := (mem_reachL g hp).mp hb
      have ib := rb.inside g hp
      have eb : labF ts p = labF ts b := (L.same p b hp.1 hp.2 ib.1 ib.2).mpr rb
      have low := L.low b
      rw [e] at a st
      rcases List.mem_cons.mp a with z | z
      · rw [z]
        rfl
      · have := (List.pairwise_cons.mp st).1 _ z
        omega
theorem flat_at {tss : List (List Int)} (tu : TurnsOf m ts tss) {p : Int} (hp : 0 ≤ p ∧ p < m) (e : labF ts p = p) : flatAt m ts (walksL m ts tss) (reachL m ts none p) = decide ((seenN m ts tss p : Int) = (ownN ts p : Int) - (ptsN m ts p : Int) + 2) := by
  have G := goes_of g tu
  have rl := reach_lab g hp e
  have h1 : ((walksL m ts tss).filter fun w => decide (w.getD 0 0 ∈ reachL m ts none p)).length = seenN m ts tss p := by
    unfold walksL seenN
    rw [List.filter_map, List.length_map]
    congr 1
    refine List.filter_congr fun d hd => ?_
    have dm : d ∈ dartsL m ts := (List.mem_filter.mp hd).1
    have e0 := walkP_at (f := stepT tss) (d := d) (G.per dm).1
    show decide ((walkP (stepT tss) d).getD 0 0 ∈ reachL m ts none p) = _
    rw [List.getD_eq_getElem?_getD, e0]
    show decide (d.1 ∈ reachL m ts none p) = _
    have di := ((mem_darts g).mp dm).inside g
    rw [rl, Bool.eq_iff_iff, decide_eq_true_iff, decide_eq_true_iff, List.mem_filter, mem_pts, decide_eq_true_iff]
    exact ⟨fun z => z.2, fun z => ⟨di.1, z⟩⟩
  have h2 : ((reachL m ts none p).map fun x => ((rowOf m ts x).length : Int)).sum = 2 * (ownN ts p : Int) := by
    rw [rl, show (fun x => ((rowOf m ts x).length : Int)) = fun x => ((nb ts x).length : Int) from funext fun x => by rw [row_nb g]]
    refine deg_sum (c := fun x => decide (labF ts x = p)) g fun t ht => ?_
    show decide (labF ts t.1 = p) = decide (labF ts t.2 = p)
    rw [lab_tie g ht]
  have h3 : (reachL m ts none p).length = ptsN m ts p := by rw [rl]; rfl
  unfold flatAt
  rw [h1, h2, h3]
  have e4 : (2 * (ownN ts p : Int)) / 2 = (ownN ts p : Int) := by omega
  rw [e4]
theorem big_own {p : Int} (hp : 0 ≤ p ∧ p < m) (e : labF ts p = p) : 1 < (reachL m ts none p).length ↔ 0 < ownN ts p := by
  have L := lab_good g
  unfold ownN
  rw [List.length_pos_iff_exists_mem]
  constructor
  · intro h
    obtain ⟨x, hx, ne⟩ : ∃ x ∈ reachL m ts none p, x ≠ p := by
      have nd : (reachL m ts none p).Nodup := (reachL_strict m ts none p).imp fun {a b} h => by intro e; omega
      refine Classical.byContradiction fun no => ?_
      have sub : ∀ x ∈ reachL m ts none p, x ∈ [p] := fun x hx => by
        rw [List.mem_singleton]
        exact Classical.byContradiction fun z => no ⟨x, hx, z⟩
      have := nd.length_le_of_subset sub
      simp at this
      omega
    rcases ((mem_reachL g hp).mp hx).first with z | ⟨y, a⟩
    · exact absurd z ne
    · rcases a with a | a
      · exact ⟨_, List.mem_filter.mpr ⟨a, decide_eq_true e⟩⟩
      · refine ⟨_, List.mem_filter.mpr ⟨a, decide_eq_true ?_⟩⟩
        rw [lab_tie g a]
        exact e
  · rintro ⟨t, ht⟩
    obtain ⟨h1, h2⟩ := List.mem_filter.mp ht
    have h2 := of_decide_eq_true h2
    have r := g.rng t h1
    have rl := reach_lab g hp e
    have sub : ∀ x ∈ [t.1, t.2], x ∈ reachL m ts none p := fun x hx => by
      rw [rl, List.mem_filter, mem_pts, decide_eq_true_iff]
      rcases List.mem_cons.mp hx with z | z
      · rw [z]
        exact ⟨⟨r.1, r.2.1⟩, h2⟩
      · rw [List.mem_singleton.mp z, ← lab_tie g h1]
        exact ⟨⟨r.2.2.1, r.2.2.2.1⟩, h2⟩
    have nd : [t.1, t.2].Nodup := by
      rw [List.nodup_cons]
      exact ⟨fun z => r.2.2.2.2 (List.mem_singleton.mp z), by simp⟩
    have := nd.length_le_of_subset sub
    exact this
theorem flat_law {tss : List (List Int)} (tu : TurnsOf m ts tss) : flatL m ts tss = lawFlat m ts tss := by
  have L := lab_good g
  unfold flatL lawFlat piecesL
  rw [Bool.eq_iff_iff, List.all_eq_true, List.all_eq_true]
  constructor
  · intro h l hl
    have hl := mem_pts.mp hl
    unfold okL
    by_cases c : 0 < ownN ts l
    · have e : labF ts l = l := by
        obtain ⟨t, ht⟩ := List.length_pos_iff_exists_mem.mp c
        obtain ⟨h1, h2⟩ := List.mem_filter.mp ht
        have h2 := of_decide_eq_true h2
        have r := g.rng t h1
        have := lab_lab g (x := t.1) ⟨r.1, r.2.1⟩
        rw [h2] at this
        exact this
      have q := h (reachL m ts none l) (List.mem_filter.mpr ⟨List.mem_map.mpr ⟨l, List.mem_filter.mpr ⟨mem_pts.mpr hl, (head_lab g hl).mpr e⟩, rfl⟩, decide_eq_true ((big_own g hl e).mpr c)⟩)
      rw [flat_at g tu hl e] at q
      rw [q]
      simp
    · rw [decide_eq_false c]
      rfl
  · intro h r hr
    obtain ⟨h1, h2⟩ := List.mem_filter.mp hr
    obtain ⟨p, hp, rfl⟩ := List.mem_map.mp h1
    obtain ⟨hp1, hp2⟩ := List.mem_filter.mp hp
    have hp := mem_pts.mp hp1
    have e := (head_lab g hp).mp hp2
    have c := (big_own g hp e).mp (of_decide_eq_true h2)
    have q := h p hp1
    unfold okL at q
    rw [decide_eq_true c] at q
    rw [flat_at g tu hp e]
    simpa using q
end
end Fd
namespace Fd
open PySem PySem.Spec PyProof.Rows L2
/-! ### `_law_is_flat` -/
theorem lab_count (m : Nat) (ts : List Tie) (l : Int) : ((pts m).map (labF ts)).count l = ptsN m ts l := by
  unfold ptsN
  rw [← List.countP_eq_length_filter, List.count, List.countP_map]
  refine List.countP_congr fun x _ => ?_
  show (labF ts x == l) = true ↔ decide (labF ts x = l) = true
  rw [beq_iff_eq, decide_eq_true_iff]
def spLFlat (K : PySem.W.Frag) : Sp := fun vs H Q _ => ∃ (H0 : Hp) (R A : Addr) (as : List Addr) (m : Nat) (ws : List V) (ts : List Tie) (tss : List (List Int)), vs = [.ref R, .ref A, .int m] ∧ RowsAt H0 H R as tss ∧ TurnsOf m ts tss ∧ Good m ts ∧ m ≤ 16 ∧ ts.length ≤ 40 ∧
  H A = some (.lst ws) ∧ PairsAt H ws ts ∧ ∀ (H' : Hp), Same H H' → Q (.bl (lawFlat m ts tss)) H'
section
variable {P : Program} {w : World} {K : PySem.W.Frag} {mg : Str → Option Value} {base : Heap} {C : Addr}
abbrev nLFlat : List Str := ["_law_turns", "_law_ties_here", "_law_many_here", "_law_labels_here", "_law_firsts_here", "_law_label", "_law_own", "_law_points", "_law_seen", "_law_tie", "_law_step"]
theorem scLFlat : FnScope nLFlat ["_law_turns", "_law_ties_here", "_law_many_here"] (defScope sLawIsFlat) := ⟨rfl, rfl, rfl, by decide +kernel, rfl, by decide +kernel, by decide +kernel⟩
/-- of some pairs those whose first point has this label -/
theorem lc_lab {m : Nat} {ts ps : List Tie} {σ : L2.St} {H : Hp} {A D : Addr} {ws : List V} {i j k l : Nat} {Q : VK} (ha : H A = some (.lst ws)) (pw : PairsAt H ws ps) (hD : H D = some (.lst (iL ((pts m).map (labF ts))))) (few : ps.length ≤ 100) (rg : ∀ t ∈ ps, 0 ≤ t.1 ∧ t.1 < m)
    (ei : σ[i]? = some (some (.ref A))) (el : σ[l]? = some (some (.ref D))) (lb : Int) (ek : σ[k]? = some (some (.int lb))) (hj : j < σ.length) (nl : l ≠ j) (nk : k ≠ j)
    (q : ∀ (H' : Hp) (O : Addr) (os : List V), Same H H' → H' O = some (.lst os) → os.length = (ps.filter fun t => decide (labF ts t.1 = lb)).length → Q (.ref O) H') :
    tLc (iList K (tVar i)) (gName j) (tTest (tOp rEq (tOp (rIxL K) (tVar l) (tOp (rIxT K) (tVar j) (tC (.int 0)))) (tVar k))) (tVar j) [j] σ H Q := by
  refine ⟨_, ei, A, rfl, ⟨_, SqL.of ha⟩, fun O hO => ?_⟩
  refine it_W (walk_list (K := K) (a := A) (xs := ws)) (fun n H2 => Same H H2 ∧ ∃ os : List V, H2 O = some (.lst os) ∧ os.length = ((ps.take n).filter fun t => decide (labF ts t.1 = lb)).length) ⟨Same.put hO, [], upd_same, rfl⟩ (fun n H2 _ ⟨s2, _⟩ => SqL.of (s2 _ _ ha)) ?_ ?_
  · rintro n x H20 H2 hn ⟨s2, os, o2, ol⟩ ⟨rfl, ex⟩
    obtain ⟨t, et, a, rfl, ht⟩ := paired_get (pw.same s2) ex
    obtain ⟨r1, r2⟩ := rg t (List.mem_of_getElem? et)
    obtain ⟨t1, t2⟩ := t
    obtain ⟨p, rfl⟩ : ∃ p : Nat, t1 = p := ⟨t1.toNat, by have : 0 ≤ t1 := r1; omega⟩
    have hp : p < m := by have : ((p : Int) < m) := r2; omega
    have il : n < ps.length := (List.getElem?_eq_some_iff.mp et).1
    have fl := List.length_filter_le (fun t : Tie => decide (labF ts t.1 = lb)) (ps.take n)
    rw [List.length_take] at fl
    have wl : (wipe σ [j]).length = σ.length := by simp [wipe]
    have gj : ∀ v, ((wipe σ [j]).set j (some v))[j]? = some (some v) := fun v => List.getElem?_set_self (by rw [wl]; exact hj)
    have gw : ∀ (y : Nat) (v u : V), y ≠ j → σ[y]? = some (some v) → ((wipe σ [j]).set j (some u))[y]? = some (some v) := fun y v u h e => by
      rw [List.getElem?_set_ne (fun z => h z.symm)]
      show (σ.set j none)[y]? = _
      rw [List.getElem?_set_ne (fun z => h z.symm)]
      exact e
    refine ⟨by simp [wipe], _, gw l _ _ nl el, _, gj _, a, [.int (p : Int), .int t2], 0, .int (p : Int), rfl, rfl, SqT.of ht, rfl, D, iL ((pts m).map (labF ts)), (p : Int), .int (labF ts p), rfl, rfl, SqL.of (s2 _ _ hD), atI_nat (iL_get (lab_at hp)), _, gw k _ _ nk ek, rfl, _, rfl, ?_⟩
    by_cases c : labF ts p = lb
    · refine yep_ (decide_eq_true (by rw [c])) ?_
      refine ⟨_, gj _, os, o2, small (by omega), Same.write s2 hO, os ++ [.ref a], upd_same, ?_⟩
      rw [take_next et, List.filter_append, List.length_append, List.length_append, ol, List.filter_cons_of_pos (p := fun t : Tie => decide (labF ts t.1 = lb)) (decide_eq_true c)]
      rfl
    · refine no_ (decide_eq_false fun z => c (V.int.inj z)) ?_
      refine ⟨s2, os, o2, ?_⟩
      rw [take_next et, List.filter_append, List.length_append, ol, List.filter_cons_of_neg (p := fun t : Tie => decide (labF ts t.1 = lb)) (by rw [decide_eq_false (p := labF ts ((p : Int), t2).1 = lb) c]; decide)]
      rfl
  · rintro H2 ⟨s2, os, o2, ol⟩
    rw [pw.length, List.take_length] at ol
    exact q H2 O os s2 o2 ol
theorem c_lflat (T : WTxt K mg C) (L : LTxt K mg) (FL : Fn K mg "_law_labels" sLawLabels ["_law_ties_here", "_law_many_here"]) (FF : Fn K mg "_law_firsts" sLawFirsts ["_law_turns", "_law_ties_here"])
    (F : Fn K mg "_law_is_flat" sLawIsFlat ["_law_turns", "_law_ties_here", "_law_many_here"]) : C8.Cal P w K mg base 2 "_law_is_flat" (spLFlat K) [] := by
  refine cal_of F scLFlat (fun vs H Q E h => ?_) (fun f cdv A outer s H vs Q E hr h => ?_)
  · obtain ⟨H0, R, A, as, m, ws, ts, tss, rfl, _⟩ := h
    rfl
  · obtain ⟨H0, R, Ta, as, m, ws, ts, tss, rfl, hR, tu, g, m16, tl, hT, pw, k⟩ := h
    refine ⟨_, pss_cons (ps_set (i := 3) scLFlat.nd rfl (Or.inr rfl) (C8.pe_c (c_labels T L FL) hr (by decide) (by rfl) (pa_cons (pv 1) (pa_cons (pv 2) pa_nil))))
      (pss_cons (ps_set (i := 4) scLFlat.nd rfl (Or.inl rfl) (C8.pe_c (c_firsts T FF) hr (by decide) (by rfl) (pa_cons (pv 0) (pa_cons (pv 1) pa_nil))))
      (pss_cons (ps_for PassesOwn.never rfl (pi_range1 (by rfl) T.range (pa_cons (pv 2) pa_nil)) (pg_name (i := 5) scLFlat.nd rfl (Or.inr rfl))
        (pss_cons (ps_set (i := 6) scLFlat.nd rfl (Or.inl rfl) (pe_callB (id := "len") call_len_seq (by rfl) T.len PySem.boot_len (pa_cons (pe_lc (own := [("_law_tie", 9)]) (g := gName 9) (tt := tTest (tOp rEq (tOp (rIxL K) (tVar 3) (tOp (rIxT K) (tVar 9) (tC (.int 0)))) (tVar 5))) (te := tVar 9) (by rfl) scLFlat.nd (pi_list (pv 1))
            (blkOk_by (own := [("_law_tie", 9)]) (N := nLFlat) (sc := defScope sLawIsFlat) (by decide +kernel)) (fun _ _ _ _ _ => pg_name (i := 9) scLFlat.nd rfl (Or.inl rfl)) (fun _ _ _ _ _ => pts_one (pt_cmpR op_eq (pe_ix ix_list (pv 3) (pe_ix ix_tup (pv 9) pe_int (fun _ _ => rfl)) (fun _ _ => rfl)) (pv 5) (nomark _))) (fun _ _ _ _ _ => pv 9)) pa_nil)))
        (pss_cons (ps_set (i := 7) scLFlat.nd rfl (Or.inl rfl) (pe_bm PySem.F.plainAttrs_list PySem.F.slot_list_count PySem.F.type_list_count mt_lcount (pv 3) (pa_cons (pv 5) pa_nil)))
        (pss_cons (ps_setLc (i := 8) (own := [("_law_step", 10)]) (g := gName 10) (tt := tTest (tOp rEq (tOp (rIxL K) (tVar 3) (tOp (rIxT K) (tVar 10) (tC (.int 0)))) (tVar 5))) (te := tVar 10) (by rfl) scLFlat.nd rfl rfl (sw_true rfl rfl rfl (by decide +kernel)) (pi_list (pv 4))
            (blkOk_by (own := [("_law_step", 10)]) (N := nLFlat) (sc := defScope sLawIsFlat) (by decide +kernel)) (fun _ _ _ _ _ => pg_name (i := 10) scLFlat.nd rfl (Or.inl rfl)) (fun _ _ _ _ _ => pts_one (pt_cmpR op_eq (pe_ix ix_list (pv 3) (pe_ix ix_tup (pv 10) pe_int (fun _ _ => rfl)) (fun _ _ => rfl)) (pv 5) (nomark _))) (fun _ _ _ _ _ => pv 10))
        (pss_one (ps_if (PW.pt (pw_and (pt_cmpR op_gt (pv 6) pe_int (nomark _)) (pw_and1 (pt_cmpR op_ne (pe_callB (id := "len") call_len_seq (by rfl) T.len PySem.boot_len (pa_cons (pv 8) pa_nil)) (pe_op op_add (pe_op op_sub (pv 6) (pv 7)) pe_int) (nomark _))))) (pss_one (ps_ret pe_bl)) pss_nil))))))
      (pss_one (ps_ret pe_bl)))), ?_⟩
    refine ⟨_, rfl, _, rfl, Ta, m, ws, ts, rfl, hT, pw, g, m16, fun H1 D s1 hD d1 => ?_⟩
    refine ⟨_, rfl, _, rfl, H0, R, Ta, as, m, ws, ts, tss, rfl, hR.same s1, tu, g, m16, tl, s1 _ _ hT, pw.same s1, fun H2 Fi us s2 hFi f2 pu => ?_⟩
    have s12 := s1.trans s2
    have d2 := s2 _ _ d1
    have T2 := s12 _ _ hT
    have p2 := pw.same s12
    have hl := heads_lenT g tss (dartsL m ts).length
    rw [List.take_length] at hl
    refine ⟨_, rfl, (m : Int), rfl, by omega, by omega, for_range (lo := 0) (n := (m : Int).toNat) (fun i σ H3 => ∃ v5 v6 v7 v8 : Option V, σ = [some (.ref R), some (.ref Ta), some (.int m), some (.ref D), some (.ref Fi), v5, v6, v7, v8, none, none] ∧ Same H2 H3 ∧ ∀ x ∈ pts i, okL m ts tss x = true)
      ⟨none, none, none, none, rfl, Same.refl _, fun x hx => by simp [pts] at hx⟩ ?_ ?_⟩
    · rintro i σ H3 hi ⟨v5, v6, v7, v8, rfl, s3, ok⟩
      rw [Int.toNat_natCast] at hi
      rw [Int.zero_add]
      dsimp only [tNext, gName, tSeq, tAsg]
      dsimp only [tCB, tCons, tNil]
      refine lc_lab (K := K) (m := m) (ts := ts) (ps := ts) (H := H3) (s3 _ _ T2) (p2.same s3) (s3 _ _ d2) (by omega) (fun t ht => let r := g.rng t ht; ⟨r.1, r.2.1⟩) rfl rfl (i : Int) rfl (Nat.lt_of_lt_of_eq (by decide : 9 < 11) rfl) (by decide) (by decide) fun H4 O os s4 o4 ol => ?_
      refine ⟨O, os, rfl, .inl (SqL.of o4), ?_⟩
      have s34 := s3.trans s4
      refine ⟨_, rfl, .inl ⟨rfl, _, SqL.of (s34 _ _ d2)⟩, _, rfl, D, _, (i : Int), rfl, rfl, SqL.of (s34 _ _ d2), ?_⟩
      dsimp only [tNext, gName, tSeq, tAsg]
      refine lc_lab (K := K) (m := m) (ts := ts) (ps := headsL m ts tss) (H := H4) (s34 _ _ f2) (pu.same s34) (s34 _ _ d2) (by have : (headsL m ts tss).length ≤ 2 * ts.length := hl; omega) (fun t ht => (((mem_darts g).mp (List.mem_filter.mp ht).1).inside g).1) rfl rfl (i : Int) rfl (Nat.lt_of_lt_of_eq (by decide : 10 < 11) rfl) (by decide) (by decide) fun H5 O2 os2 s5 o5 ol2 => ?_
      have s35 := s34.trans s5
      rw [lab_count, ol]
      have e1 : (ts.filter fun t => decide (labF ts t.1 = (i : Int))).length = ownN ts i := rfl
      have e2 : os2.length = seenN m ts tss i := ol2
      rw [e1]
      have next : okL m ts tss i = true → ∀ x ∈ pts (i + 1), okL m ts tss x = true := fun h x hx => by
        rw [pts_succ] at hx
        rcases List.mem_append.mp hx with z | z
        · exact ok x z
        · rw [List.mem_singleton.mp z]
          exact h
      have bad : okL m ts tss i = false → lawFlat m ts tss = false := fun h => by
        unfold lawFlat
        rw [Bool.eq_false_iff]
        intro z
        have := List.all_eq_true.mp z i (mem_pts.mpr ⟨by omega, by omega⟩)
        rw [h] at this
        cases this
      refine ⟨_, rfl, _, _, rfl, rfl, _, rfl, ?_⟩
      by_cases c : 0 < ownN ts i
      · refine yep_ (decide_eq_true (by omega)) ?_
        refine ⟨_, rfl, O2, os2, rfl, .inl (SqL.of o5), _, rfl, _, rfl, _, _, rfl, rfl, _, _, rfl, rfl, rfl, _, rfl, ?_⟩
        rw [e2]
        by_cases c2 : (seenN m ts tss i : Int) = (ownN ts i : Int) - (ptsN m ts i : Int) + 2
        · refine no_ (by rw [decide_eq_true (by rw [c2])]; rfl) ?_
          refine ⟨_, _, _, _, rfl, s35, next ?_⟩
          unfold okL
          rw [decide_eq_true c2]
          simp
        · refine yep_ (by rw [decide_eq_false fun z => c2 (V.int.inj z)]; rfl) ?_
          have q := k H5 (s12.trans s35)
          rw [bad (by unfold okL; rw [decide_eq_true c, decide_eq_false c2]; rfl)] at q
          exact q
      · refine no_ (decide_eq_false (by omega)) ?_
        refine no_ rfl ?_
        refine ⟨_, _, _, _, rfl, s35, next ?_⟩
        unfold okL
        rw [decide_eq_false c]
        rfl
    · rintro σ H3 ⟨v5, v6, v7, v8, rfl, s3, ok⟩
      rw [Int.toNat_natCast] at ok
      have q := k H3 (s12.trans s3)
      rw [show lawFlat m ts tss = true from List.all_eq_true.mpr ok] at q
      exact q
end
end Fd
namespace Fd
open PySem PySem.Spec PyProof.Rows L2 LamX
/-- the heap in which nothing stands -/
abbrev HN : Hp := fun _ => none
theorem sameN (H : Hp) : Same HN H := fun _ _ h => nomatch h
theorem WebAt.ext {C p : Addr} {H0 H H' : Hp} {m : Nat} {ts : List Tie} (h : WebAt C H0 H p m ts) (s : ExtN H H') : WebAt C H0 H' p m ts := by
  obtain ⟨n, dx, R, as, h1, h2⟩ := h
  exact ⟨n, dx, R, as, s _ _ h1 (fun _ z => nomatch z), h2.ext s⟩
theorem seq_ext {K : PySem.W.Frag} {H H' : Hp} {a : Addr} {xs : List V} (e : ExtN H H') (h : SqL K H a xs) : SqL K H' a xs := by
  rcases h with h | h
  · rcases h with h | ⟨o, h⟩
    · exact .inl (.inl (extL e h))
    · exact .inl (.inr ⟨o, e _ _ h fun _ z => nomatch z⟩)
  · exact .inr h
theorem pairs_ext {H H' : Hp} (e : ExtN H H') {vs : List V} {ts : List Tie} (h : PairsAt H vs ts) : PairsAt H' vs ts := Paired.mono (fun _ _ q => PairAt.ext e q) h
theorem drawn_turns {m : Nat} {ts : List Tie} (g : Good m ts) {row : Int → List Int} (h : DrawnR (blocksL m ts) row) : TurnsOf m ts ((pts m).map row) := by
  refine ⟨by rw [List.length_map, pts_len], fun k t e => ?_⟩
  rw [List.getElem?_map] at e
  by_cases c : k < m
  · rw [pts_at c] at e
    cases Option.some.inj e
    exact drawn_perm g h k
  · rw [List.getElem?_eq_none (by rw [pts_len]; omega)] at e
    cases e
theorem lt16 {m : Nat} {ts : List Tie} {tss : List (List Int)} (h : TurnsOf m ts tss) (m16 : m ≤ 16) : tss.length ≤ 16 := by
  rw [h.len]
  exact m16
theorem TurnsOf.moved {m : Nat} {ts : List Tie} {tss tss' : List (List Int)} (h : TurnsOf m ts tss) (l : tss'.length = tss.length) (p : ∀ (i : Nat) (r r' : List Int), tss[i]? = some r → tss'[i]? = some r' → r'.Perm r) : TurnsOf m ts tss' := by
  refine ⟨l.trans h.len, fun k t e => ?_⟩
  have hk : k < tss.length := by
    rw [← l]
    exact (List.getElem?_eq_some_iff.mp e).1
  have e2 : tss[k]? = some tss[k] := List.getElem?_eq_getElem hk
  exact (p k _ t e2 e).trans (h.row k _ e2)
def spLaw7 (K : PySem.W.Frag) (Pt : Addr) : Sp := fun vs H Q _ => ∃ (a : Addr) (ns : List Int), vs = [.ref a] ∧ SqL K H a (ns.map V.int) ∧ Tabs [(Pt, qLam)] H ∧ ∀ H', Q (.bl true) H'
structure N7Txt (K : PySem.W.Frag) (mg : Str → Option Value) (C : Addr) : Prop where
  sum_ : mg "sum" = none
  fR : FnR K mg
  fPieces : FnM K C "pieces" "Web.pieces" sWebPieces ["self"]
  fIsFlat : Fn K mg "_is_flat" sIsFlat ["web", "piece", "found"]
  fFlat : Fn K mg "flat" sFlat ["web", "turns"]
  fDrawn : Fn K mg "drawn" sDrawn ["web"]
  fTies : Fn K mg "_law_ties" sLawTies ["_law_script", "_law_many_here"]
  fOrder : Fn K mg "_law_order_by" sLawOrderBy ["_law_cell", "_law_row"]
  fTurnsBy : Fn K mg "_law_turns_by" sLawTurnsBy ["_law_script", "_law_many_here", "_law_ties_here"]
  fLabels : Fn K mg "_law_labels" sLawLabels ["_law_ties_here", "_law_many_here"]
  fFirsts : Fn K mg "_law_firsts" sLawFirsts ["_law_turns", "_law_ties_here"]
  fLFlat : Fn K mg "_law_is_flat" sLawIsFlat ["_law_turns", "_law_ties_here", "_law_many_here"]
  fShaken : Fn K mg "_law_shaken" sLawShaken ["_law_turns", "_law_cell"]
  fStays : Fn K mg "_law_stays" sLawStays ["_law_web", "_law_ties_here", "_law_many_here"]
section
variable {P : Program} {w : World} {K : PySem.W.Frag} {mg : Str → Option Value} {base : Heap} {C c Pt : Addr}
abbrev nLaw : List Str := ["_law_script", "_law_many_here", "_law_ties_here", "_law_turns", "_law_web", "_law_cell", "_law_found", "_law_other", "_law_handed", "_law_seen", "_law_turn"]
theorem scLaw : FnScope nLaw ["_law_script"] (defScope sLaw) := ⟨rfl, rfl, rfl, by decide +kernel, rfl, by decide +kernel, by decide +kernel⟩
theorem ok_law {f : Addr} {fd : FuncData} (F : L2.Fun K "law" "law" sLaw f fd) (T : WTxt K mg C) (U : TTxt K mg C) (L : LTxt K mg) (KT : KTxt K mg) (B : BTxt K mg C) (W4 : Web4 K C) (D : DrTxt K mg base c Pt) (N : N7Txt K mg C) : FnOk P w K mg base L2.CX0 10 f fd ["_law_script"] (spLaw7 K Pt) := by
  refine F.ok scLaw (fun vs H Q E h => ?_) (fun cdv A outer s H vs Q E hr h => ?_)
  · obtain ⟨a, ns, rfl, _⟩ := h
    rfl
  · obtain ⟨a, ns, rfl, hS, hTb, k⟩ := h
    have hun : (A.deeper (envOfC "law" (defScope sLaw) s.heap.objs.size f cdv)).units + 64 < cLine := by
      have := hr.un
      omega
    refine ⟨_, pss_cons (ps_set (i := 1) scLaw.nd rfl (Or.inl rfl) (C8.pe_c (c_many T L) hr (by decide) (by rfl) (pa_cons (pv 0) pa_nil)))
      (pss_cons (ps_set (i := 2) scLaw.nd rfl (Or.inl rfl) (C8.pe_c (c_lties T L N.fTies) hr (by decide) (by rfl) (pa_cons (pv 0) (pa_cons (pv 1) pa_nil))))
      (pss_cons (ps_set (i := 3) scLaw.nd rfl (Or.inl rfl) (C8.pe_c (c_turnsby T L N.fOrder N.fTurnsBy) hr (by decide) (by rfl) (pa_cons (pv 0) (pa_cons (pv 1) (pa_cons (pv 2) pa_nil)))))
      (pss_cons (ps_set (i := 4) scLaw.nd rfl (Or.inl rfl) (C8.pe_mk (c_init T) hr (by decide) (by rfl) (pa_cons (pv 1) (pa_cons (pe_callTy call_list_of (by rfl) T.list (by decide +kernel) (pa_cons (pv 2) pa_nil)) pa_nil))))
      (pss_cons (ps_set (i := 5) scLaw.nd rfl (Or.inl rfl) (C8.pe_c (c_cell T L) hr (by decide) (by rfl) (pa_cons (pv 0) (pa_cons pe_int pa_nil))))
      (pss_cons (ps_if (pt_cmpR op_eq (pe_op op_mod (pv 5) pe_int) pe_int (nomark _))
        (pss_cons (ps_set (i := 6) scLaw.nd rfl (Or.inl rfl) (C8.pe_c (c_drawn T B W4 D N.fDrawn) hr (by decide) (by rfl) (pa_cons (pv 4) pa_nil)))
        (pss_one (ps_if (pt_cmpR op_notN (pv 6) pe_non (nomark _))
          (pss_cons (ps_setLc (i := 3) (own := [("_law_turn", 10)]) (g := gName 10) (tt := tYes) (te := tCB (rListOf K) (tCons (tVar 10) tNil)) (by rfl) scLaw.nd rfl rfl (sw_true rfl rfl rfl (by decide +kernel)) (pi_list (pv 6))
              (blkOk_by (own := [("_law_turn", 10)]) (N := nLaw) (sc := defScope sLaw) (by decide +kernel)) (fun _ _ _ _ _ => pg_name (i := 10) scLaw.nd rfl (Or.inl rfl)) (fun _ _ _ _ _ => pts_nil) (fun _ _ _ _ _ => pe_callTy (r := rListOf K) call_list_of (by rfl) T.list (by decide +kernel) (pa_cons (pv 10) pa_nil)))
          (pss_one (ps_if (pt_cmpR op_eq (pe_op op_mod (pe_op op_fdiv (pv 5) pe_int) pe_int) pe_int (nomark _))
            (pss_one (ps_set (i := 3) scLaw.nd rfl (Or.inl rfl) (C8.pe_c (c_shaken T N.fShaken) hr (by decide) (by rfl) (pa_cons (pv 3) (pa_cons (pe_op op_fdiv (pv 5) pe_int) pa_nil))))) pss_nil))) pss_nil))) pss_nil)
      (pss_cons (ps_set (i := 7) scLaw.nd rfl (Or.inl rfl) (C8.pe_c (c_turnsby T L N.fOrder N.fTurnsBy) hr (by decide) (by rfl) (pa_cons (pv 0) (pa_cons (pv 1) (pa_cons (pv 2) pa_nil)))))
      (pss_cons (ps_if (pt_cmpR op_ne (C8.pe_c (c_flat T U KT W4 N.sum_ N.fR N.fPieces N.fIsFlat N.fFlat) hr (by decide) (by rfl) (pa_cons (pv 4) (pa_cons (pe_lc (own := [("_law_turn", 10)]) (g := gName 10) (tt := tYes) (te := tCB (rListOf K) (tCons (tVar 10) tNil)) (by rfl) scLaw.nd (pi_list (pv 7))
              (blkOk_by (own := [("_law_turn", 10)]) (N := nLaw) (sc := defScope sLaw) (by decide +kernel)) (fun _ _ _ _ _ => pg_name (i := 10) scLaw.nd rfl (Or.inl rfl)) (fun _ _ _ _ _ => pts_nil) (fun _ _ _ _ _ => pe_callTy (r := rListOf K) call_list_of (by rfl) T.list (by decide +kernel) (pa_cons (pv 10) pa_nil))) pa_nil)))
          (C8.pe_c (c_lflat T L N.fLabels N.fFirsts N.fLFlat) hr (by decide) (by rfl) (pa_cons (pv 7) (pa_cons (pv 2) (pa_cons (pv 1) pa_nil)))) (nomark _)) (pss_one (ps_ret pe_bl)) pss_nil)
      (pss_cons (ps_setLc (i := 8) (own := [("_law_turn", 10)]) (g := gName 10) (tt := tYes) (te := tCB (rListOf K) (tCons (tVar 10) tNil)) (by rfl) scLaw.nd rfl rfl (sw_true rfl rfl rfl (by decide +kernel)) (pi_list (pv 3))
              (blkOk_by (own := [("_law_turn", 10)]) (N := nLaw) (sc := defScope sLaw) (by decide +kernel)) (fun _ _ _ _ _ => pg_name (i := 10) scLaw.nd rfl (Or.inl rfl)) (fun _ _ _ _ _ => pts_nil) (fun _ _ _ _ _ => pe_callTy (r := rListOf K) call_list_of (by rfl) T.list (by decide +kernel) (pa_cons (pv 10) pa_nil)))
      (pss_cons (ps_set (i := 9) scLaw.nd rfl (Or.inl rfl) (C8.pe_c (c_flat T U KT W4 N.sum_ N.fR N.fPieces N.fIsFlat N.fFlat) hr (by decide) (by rfl) (pa_cons (pv 4) (pa_cons (pv 8) pa_nil))))
      (pss_cons (ps_if (PW.pt (pw_or (pt_not (pt_val (pe_callB call_isi (by rfl) L.isi (by decide +kernel) (pa_cons (pv 9) (pa_cons (pe_bltn (v := .ty "bool") (by rfl) L.bool (by decide +kernel) rfl) pa_nil)))))
          (pw_or (pt_cmpR op_ne (pv 9) (C8.pe_c (c_lflat T L N.fLabels N.fFirsts N.fLFlat) hr (by decide) (by rfl) (pa_cons (pv 3) (pa_cons (pv 2) (pa_cons (pv 1) pa_nil)))) (nomark _)) (pw_or1 (pt_cmpR (op_neD hun) (pv 8) (pv 3) (nomark _)))))) (pss_one (ps_ret pe_bl)) pss_nil)
      (pss_one (ps_ret (C8.pe_c (c_stays T U L W4.fT N.fStays) hr (by decide) (by rfl) (pa_cons (pv 4) (pa_cons (pv 2) (pa_cons (pv 1) pa_nil)))))))))))))))), ?_⟩
    refine ⟨_, rfl, a, ns, rfl, hS, fun m m1 m16 => ?_⟩
    refine ⟨_, rfl, _, rfl, a, ns, m, rfl, hS, m1, m16, fun H1 D ws ts s1 hD d1 p1 g tl => ?_⟩
    refine ⟨_, rfl, _, rfl, _, rfl, a, ns, m, D, ws, ts, rfl, s1.seq hS, m16, d1, p1, g, by omega, fun H2 R as tss s2 hR tu => ?_⟩
    -- web = Web(many, list(ties))
    refine ⟨_, rfl, _, rfl, D, ws, rfl, .inl (SqL.of (s2 _ _ d1)), fun l hl x dx nx ndx ndxx => ?_⟩
    have s23 := Same.put (o := .lst ws) hl
    refine ⟨_, x, dx, m, l, ws, ts, rfl, upd_same, fun b o e => by rw [upd_ne (ne_of_none e nx), upd_ne (ne_of_none e ndx)]; exact e, nx, SqL.of upd_same, p1.same (s2.trans s23), g, m1, m16, tl, fun H4 keep W0 => ⟨rfl, ?_⟩⟩
    have s34 := Same.made nx ndx keep
    have s24 := s23.trans s34
    have W4' : WebAt C HN H4 x m ts := W0.older (sameN _)
    clear keep W0
    have hR4 := (hR.same s24).older (sameN _)
    have s14 := s2.trans s24
    have d4 := s14 _ _ d1
    have p4 := p1.same s14
    have S4 := (s1.trans s14).seq hS
    have T4 := hTb.ext (s1.trans s14)
    clear s24 s34 s23
    -- cell
    refine ⟨_, rfl, a, ns, 3, rfl, S4, ?_⟩
    generalize cellAt ns 3 = cell
    dsimp only [gName]
    refine seq_if (fun σ' H' => ∃ (v6 : Option V) (R' : Addr) (as' : List Addr) (tss' : List (List Int)), σ' = [some (.ref a), some (.int m), some (.ref D), some (.ref R'), some (.ref x), some (.int cell), v6, none, none, none, none] ∧ ExtN H4 H' ∧ Tabs [(Pt, qLam)] H' ∧ RowsAt HN H' R' as' tss' ∧ TurnsOf m ts tss') (fun hn => ?_) ?_
    · refine ⟨_, rfl, _, _, rfl, rfl, (show (0 : Int) < 2 by decide), rfl, _, rfl, ?_⟩
      by_cases c1 : cell % 2 = 1
      · refine yep_ (decide_eq_true (show V.int (cell % 2) = V.int 1 by rw [c1])) ?_
        refine ⟨_, rfl, HN, x, m, ts, rfl, W4', g, m16, tl, T4, fun H5 e5 T5 _ => ?_, fun H5 R5 as5 row e5 T5 r5 dr => ?_⟩
        · refine ⟨_, rfl, rfl, _, rfl, ?_⟩
          refine no_ rfl ?_
          exact hn _ _ ⟨_, R, as, tss, rfl, e5, T5, hR4.ext e5, tu⟩
        · have tu5 := drawn_turns g dr
          refine ⟨_, rfl, rfl, _, rfl, ?_⟩
          refine yep_ rfl ?_
          dsimp only [gName, tSeq, tAsg, tNext]
          refine lc_copy (K := K) rfl (Nat.lt_of_lt_of_eq (by decide : 10 < 11) rfl) r5 (lt16 tu5 m16) (fun H6 R6 as6 s6 r6 => ?_)
          have r6' := r6.older (sameN H5)
          refine ⟨_, rfl, _, _, rfl, rfl, ⟨by omega, by omega⟩, _, _, rfl, rfl, (show (0 : Int) < 3 by decide), rfl, _, rfl, ?_⟩
          by_cases c2 : cell / 2 % 3 = 1
          · refine yep_ (decide_eq_true (show V.int (cell / 2 % 3) = V.int 1 by rw [c2])) ?_
            have sh := tu5.short m16
            refine ⟨_, rfl, _, rfl, _, _, rfl, rfl, ⟨by omega, by omega⟩, HN, R6, as6, _, cell / 6, rfl, r6', by rw [tu5.len]; omega, lt16 tu5 m16, fun r hr => by have := sh r hr; omega, fun H7 R7 as7 tss7 s7 r7 l7 pm => ?_⟩
            exact hn _ _ ⟨_, R7, as7, tss7, rfl, e5.trans (ExtN.of (s6.trans s7)), T5.ext (s6.trans s7), r7.older (sameN _), tu5.moved l7 pm⟩
          · refine no_ (decide_eq_false fun z => c2 (V.int.inj z)) ?_
            exact hn _ _ ⟨_, R6, as6, _, rfl, e5.trans (ExtN.of s6), T5.ext s6, r6', tu5⟩
      · refine no_ (decide_eq_false fun z => c1 (V.int.inj z)) ?_
        exact hn _ _ ⟨_, R, as, tss, rfl, ExtN.refl _, T4, hR4, tu⟩
    · rintro σ' H5 ⟨v6, R', as', tss', rfl, e5, T5, r5, tu'⟩
      have W5 := W4'.ext e5
      have d5 := extL e5 d4
      have p5 := pairs_ext e5 p4
      have S5 := seq_ext e5 S4
      have fl := flat_law g tu'
      clear W4' d4 p4 S4 hR4 T4
      -- other
      refine ⟨_, rfl, _, rfl, _, rfl, a, ns, m, D, ws, ts, rfl, S5, m16, d5, p5, g, by omega, fun H6 O os oss s6 hO tuO => ?_⟩
      have hO6 := hO.older (sameN _)
      have flO := flat_law g tuO
      refine ⟨_, rfl, ?_⟩
      dsimp only [tCons, tNil]
      refine lc_copy (K := K) rfl (Nat.lt_of_lt_of_eq (by decide : 10 < 11) rfl) hO6 (lt16 tuO m16) (fun H7 C2 cs s7 r7 => ?_)
      have s67 := s6.trans s7
      refine ⟨HN, x, C2, cs, m, ts, oss, rfl, W5.same s67, r7.older (sameN _), tuO, g, m16, tl, fun H8 s8 => ?_⟩
      have s68 := s67.trans s8
      refine ⟨_, rfl, _, rfl, _, rfl, HN, O, D, os, m, ws, ts, oss, rfl, hO6.same (s7.trans s8), tuO, g, m16, tl, s68 _ _ d5, p5.same s68, fun H9 s9 => ?_⟩
      refine ⟨rfl, _, rfl, ?_⟩
      refine no_ (by rw [flO, decide_eq_true rfl]; rfl) ?_
      have s69 := s68.trans s9
      -- handed
      dsimp only [gName, tSeq, tAsg, tNext]
      refine lc_copy (K := K) rfl (Nat.lt_of_lt_of_eq (by decide : 10 < 11) rfl) (r5.same s69) (lt16 tu' m16) (fun H10 Hd hs s10 r10 => ?_)
      have s610 := s69.trans s10
      -- seen
      refine ⟨_, rfl, _, rfl, HN, x, Hd, hs, m, ts, tss', rfl, W5.same s610, r10.older (sameN _), tu', g, m16, tl, fun H11 s11 => ?_⟩
      have s611 := s610.trans s11
      refine ⟨_, rfl, .bl (flatL m ts tss'), .ty "bool", .type "bool", .type "bool", true, rfl, .ty _, .base (.bl (flatL m ts tss')), kit_ty (by decide +kernel), true, rfl, ?_⟩
      refine iteF ?_
      refine ⟨_, rfl, _, rfl, _, rfl, _, rfl, HN, R', D, as', m, ws, ts, tss', rfl, r5.same s611, tu', g, m16, tl, s611 _ _ d5, p5.same s611, fun H12 s12 => ?_⟩
      refine ⟨rfl, _, rfl, ?_⟩
      refine no_ (by rw [fl, decide_eq_true rfl]; rfl) ?_
      have s612 := s611.trans s12
      refine ⟨_, rfl, _, rfl, lstD tss', lstD tss', dp_lists (r10.same (s11.trans s12)).lists, dp_lists (r5.same s612).lists, lstD_shaped _, lstD_shaped _, _, rfl, ?_⟩
      refine no_ (by rw [lstD_refl]; rfl) ?_
      refine ⟨_, rfl, _, rfl, _, rfl, HN, x, D, m, ws, ts, rfl, W5.same s612, s612 _ _ d5, p5.same s612, g, m16, tl, fun H13 s13 => k H13⟩
end
end Fd
namespace Fd
open PySem PySem.Spec PyProof.Rows L2
theorem fn_mk {K : PySem.W.Frag} {h : Heap} {mg : Str → Option Value} (X : K.In h) (G : h.Ns mainGlobals mg) {x : Str} {st : Stmt} {ps : List Str} {f : Addr} {od an : Option Addr} {sl : Array (Option Value)} {oc kV dc pm cd ct : Value}
    (a : PySem.W.nsIn K mainGlobals x = some (some (.ref f))) (l : K.lookup f = some ⟨oc, od, .func (PySem.W.fnOf x x (defArgs st) (defBody st) (defScope st) .none kV dc pm an cd ct), sl⟩) (c : PySem.W.codeIn K cd x = true) (k : PySem.W.keepIn K (.ref f) = true)
    (hb : ∀ (kV doc pm : Value) (an : Option Addr) (cdv ct : Value) (us : List Value), us.length = ps.length → bindArgs (PySem.W.fnOf x x (defArgs st) (defBody st) (defScope st) .none kV doc pm an cdv ct) ⟨us, []⟩ = pure (ps.zip us)) : Fn K mg x st ps :=
  ⟨f, _, fun_mk l c k, PySem.W.mg_of X G a, (fun_mk l c k).binds hb⟩
theorem fnM_mk {K : PySem.W.Frag} {C : Addr} {m qual : Str} {st : Stmt} {ps : List Str} {f : Addr} {od an : Option Addr} {sl : Array (Option Value)} {oc kV dc pm cd ct : Value}
    (a : PySem.W.findIn K (.ref C) m = some (some (.ref f))) (i : PySem.W.isFn K (.ref f) = true) (l : K.lookup f = some ⟨oc, od, .func (PySem.W.fnOf m qual (defArgs st) (defBody st) (defScope st) .none kV dc pm an cd ct), sl⟩) (c : PySem.W.codeIn K cd qual = true) (k : PySem.W.keepIn K (.ref f) = true)
    (hb : ∀ (kV doc pm : Value) (an : Option Addr) (cdv ct : Value) (us : List Value), us.length = ps.length → bindArgs (PySem.W.fnOf m qual (defArgs st) (defBody st) (defScope st) .none kV doc pm an cdv ct) ⟨us, []⟩ = pure (ps.zip us)) : FnM K C m qual st ps :=
  ⟨f, _, fun_mk l c k, ⟨a, i, k⟩, (fun_mk l c k).binds hb⟩
theorem fnI_mk {K : PySem.W.Frag} {C : Addr} {qual : Str} {st : Stmt} {ps : List Str} {f : Addr} {od an : Option Addr} {sl : Array (Option Value)} {oc kV dc pm cd ct : Value} (mk : PySem.W.makesIn K C = true)
    (a : PySem.W.findIn K (.ref C) "__init__" = some (some (.ref f))) (i : PySem.W.isFn K (.ref f) = true) (kc : PySem.W.keepIn K (.ref C) = true) (l : K.lookup f = some ⟨oc, od, .func (PySem.W.fnOf "__init__" qual (defArgs st) (defBody st) (defScope st) .none kV dc pm an cd ct), sl⟩) (c : PySem.W.codeIn K cd qual = true) (k : PySem.W.keepIn K (.ref f) = true)
    (hb : ∀ (kV doc pm : Value) (an : Option Addr) (cdv ct : Value) (us : List Value), us.length = ps.length → bindArgs (PySem.W.fnOf "__init__" qual (defArgs st) (defBody st) (defScope st) .none kV doc pm an cdv ct) ⟨us, []⟩ = pure (ps.zip us)) : FnI K C qual st ps :=
  ⟨f, _, fun_mk l c k, ⟨mk, a, i, kc⟩, (fun_mk l c k).binds hb⟩
end Fd
namespace Fd
open PySem PySem.Spec PyProof.Rows L2
theorem fnR_mk {K : PySem.W.Frag} {h : Heap} {mg : Str → Option Value} (X : K.In h) (G : h.Ns mainGlobals mg) {f TD B0 : Addr} {od an oT oB : Option Addr} {sl sT sB : Array (Option Value)} {oc kV dc pm cd ct cT : Value} {nT nB : Nat}
    (a : PySem.W.nsIn K mainGlobals "reached" = some (some (.ref f))) (l : K.lookup f = some ⟨oc, od, .func (PySem.W.fnOf "reached" "reached" (defArgs sReached) (defBody sReached) (defScope sReached) (.ref TD) kV dc pm an cd ct), sl⟩)
    (c : PySem.W.codeIn K cd "reached" = true) (k : PySem.W.keepIn K (.ref f) = true) (lT : K.lookup TD = some ⟨cT, oT, .seq #[Value.ref B0] nT, sT⟩)
    (lB : K.lookup B0 = some ⟨.type "tuple", oB, .seq #[] nB, sB⟩) : FnR K mg := by
  have F : L2.FunD K "reached" "reached" (defArgs sReached) (defBody sReached) (defScope sReached) [.ref B0] [] f (PySem.W.fnOf "reached" "reached" (defArgs sReached) (defBody sReached) (defScope sReached) (.ref TD) kV dc pm an cd ct) :=
    ⟨⟨oc, od, .ref TD, kV, dc, pm, an, cd, ct, sl, rfl, l, c, .inr ⟨by simp, TD, _, [Value.ref B0], nT, rfl, lT, rfl, .cons rfl .nil⟩, .inl rfl⟩, k⟩
  obtain ⟨ds, hv, b1⟩ := F.binds1 (ps := ["rows", "start", "barred"]) 2 0 (by simp) rfl fun _ _ _ _ _ _ _ us its h1 h2 => match us, its, h1, h2 with | [_, _], [_], _, _ => ⟨_, rfl, rfl⟩
  obtain ⟨ds2, hv2, b2⟩ := F.binds1 (ps := ["rows", "start", "barred"]) 3 1 (by simp) rfl fun _ _ _ _ _ _ _ us its h1 h2 => match us, its, h1, h2 with | [_, _, _], [_], _, _ => ⟨_, rfl, rfl⟩
  cases hv2
  exact ⟨f, B0, _, F, PySem.W.mg_of X G a, ⟨ds, hv, b1⟩, b2, fun H => .inr ⟨_, _, _, lB, rfl, rfl, by decide, .nil⟩⟩
end Fd
namespace Fd
open PySem PySem.Spec PyProof.Rows L2 LamX
theorem fnC_mk {K : PySem.W.Frag} {h : Heap} {mg : Str → Option Value} (X : K.In h) (G : h.Ns mainGlobals mg) {x : Str} {st : Stmt} {ps : List Str} {f c : Addr} {od an : Option Addr} {sl : Array (Option Value)} {oc kV dc pm ct : Value}
    (a : PySem.W.nsIn K mainGlobals x = some (some (.ref f))) (l : K.lookup f = some ⟨oc, od, .func (PySem.W.fnOf x x (defArgs st) (defBody st) (defScope st) .none kV dc pm an (.ref c) ct), sl⟩) (cc : PySem.W.codeIn K (.ref c) x = true) (k : PySem.W.keepIn K (.ref f) = true)
    (hb : ∀ (kV doc pm : Value) (an : Option Addr) (cdv ct : Value) (us : List Value), us.length = ps.length → bindArgs (PySem.W.fnOf x x (defArgs st) (defBody st) (defScope st) .none kV doc pm an cdv ct) ⟨us, []⟩ = pure (ps.zip us)) : FnC K mg x st ps c :=
  ⟨f, _, ⟨⟨oc, od, an, kV, dc, pm, ct, sl, ⟨l, cc⟩, rfl⟩, k⟩, PySem.W.mg_of X G a, (fun_mk l cc k).binds hb⟩
theorem fnR7_of {K : PySem.W.Frag} {mg : Str → Option Value} (F : FnR K mg) : FnR7 K mg := ⟨F.ex⟩
end Fd
set_option pp.maxSteps 200
set_option pp.deepTerms false
set_option maxHeartbeats 2000000
namespace Fd
open PySem PySem.Spec PyProof.Rows L2 LamX
/-! ### What the top has left, and the end -/
theorem all_mk {l : PySem.W.OpenLaw} {w : World} {K : PySem.W.Frag} {h : Heap} {mg : Str → Option Value} {fa C : Addr} {tmP : Tok} {tmT : Tok} {f1 : Addr} {od1 an1 : Option Addr} {sl1 : Array (Option Value)} {oc1 kV1 dc1 pm1 cd1 ct1 : Value} {f2 : Addr} {od2 an2 : Option Addr} {sl2 : Array (Option Value)} {oc2 kV2 dc2 pm2 cd2 ct2 : Value} {f3 : Addr} {od3 an3 : Option Addr} {sl3 : Array (Option Value)} {oc3 kV3 dc3 pm3 cd3 ct3 : Value} {f4 : Addr} {od4 an4 : Option Addr} {sl4 : Array (Option Value)} {oc4 kV4 dc4 pm4 cd4 ct4 : Value} {f5 : Addr} {od5 an5 : Option Addr} {sl5 : Array (Option Value)} {oc5 kV5 dc5 pm5 cd5 ct5 : Value} {f6 : Addr} {od6 an6 : Option Addr} {sl6 : Array (Option Value)} {oc6 kV6 dc6 pm6 cd6 ct6 : Value} {f7 : Addr} {od7 an7 : Option Addr} {sl7 : Array (Option Value)} {oc7 kV7 dc7 pm7 cd7 ct7 : Value} {f8 : Addr} {od8 an8 : Option Addr} {sl8 : Array (Option Value)} {oc8 kV8 dc8 pm8 cd8 ct8 : Value} {f9 : Addr} {od9 an9 : Option Addr} {sl9 : Array (Option Value)} {oc9 kV9 dc9 pm9 cd9 ct9 : Value} {f10 : Addr} {od10 an10 : Option Addr} {sl10 : Array (Option Value)} {oc10 kV10 dc10 pm10 cd10 ct10 : Value} {f11 : Addr} {od11 an11 : Option Addr} {sl11 : Array (Option Value)} {oc11 kV11 dc11 pm11 cd11 ct11 : Value} {f12 : Addr} {od12 an12 : Option Addr} {sl12 : Array (Option Value)} {oc12 kV12 dc12 pm12 cd12 ct12 : Value} {f13 : Addr} {od13 an13 : Option Addr} {sl13 : Array (Option Value)} {oc13 kV13 dc13 pm13 cd13 ct13 : Value} {f14 : Addr} {od14 an14 : Option Addr} {sl14 : Array (Option Value)} {oc14 kV14 dc14 pm14 cd14 ct14 : Value} {f15 : Addr} {od15 an15 : Option Addr} {sl15 : Array (Option Value)} {oc15 kV15 dc15 pm15 cd15 ct15 : Value} {f16 : Addr} {od16 an16 : Option Addr} {sl16 : Array (Option Value)} {oc16 kV16 dc16 pm16 cd16 ct16 : Value} {f17 : Addr} {od17 an17 : Option Addr} {sl17 : Array (Option Value)} {oc17 kV17 dc17 pm17 cd17 ct17 : Value} {f18 : Addr} {od18 an18 : Option Addr} {sl18 : Array (Option Value)} {oc18 kV18 dc18 pm18 ct18 : Value} {cc Pt : Addr} {f19 : Addr} {od19 an19 : Option Addr} {sl19 : Array (Option Value)} {oc19 kV19 dc19 pm19 cd19 ct19 : Value} {f20 : Addr} {od20 an20 : Option Addr} {sl20 : Array (Option Value)} {oc20 kV20 dc20 pm20 cd20 ct20 : Value} {f21 : Addr} {od21 an21 : Option Addr} {sl21 : Array (Option Value)} {oc21 kV21 dc21 pm21 cd21 ct21 : Value} {f22 : Addr} {od22 an22 : Option Addr} {sl22 : Array (Option Value)} {oc22 kV22 dc22 pm22 cd22 ct22 : Value} {f23 : Addr} {od23 an23 : Option Addr} {sl23 : Array (Option Value)} {oc23 kV23 dc23 pm23 cd23 ct23 : Value} {f24 : Addr} {od24 an24 : Option Addr} {sl24 : Array (Option Value)} {oc24 kV24 dc24 pm24 cd24 ct24 : Value} {f25 : Addr} {od25 an25 : Option Addr} {sl25 : Array (Option Value)} {oc25 kV25 dc25 pm25 cd25 ct25 : Value} {f26 : Addr} {od26 an26 : Option Addr} {sl26 : Array (Option Value)} {oc26 kV26 dc26 pm26 cd26 ct26 : Value} {f27 : Addr} {od27 an27 : Option Addr} {sl27 : Array (Option Value)} {oc27 kV27 dc27 pm27 cd27 ct27 : Value} {f28 : Addr} {od28 an28 : Option Addr} {sl28 : Array (Option Value)} {oc28 kV28 dc28 pm28 cd28 ct28 : Value} {f29 : Addr} {od29 an29 : Option Addr} {sl29 : Array (Option Value)} {oc29 kV29 dc29 pm29 cd29 ct29 : Value} {f30 : Addr} {od30 an30 : Option Addr} {sl30 : Array (Option Value)} {oc30 kV30 dc30 pm30 cd30 ct30 : Value} {f31 : Addr} {od31 an31 : Option Addr} {sl31 : Array (Option Value)} {oc31 kV31 dc31 pm31 cd31 ct31 : Value} {f32 : Addr} {od32 an32 : Option Addr} {sl32 : Array (Option Value)} {oc32 kV32 dc32 pm32 cd32 ct32 : Value} {f33 : Addr} {od33 an33 : Option Addr} {sl33 : Array (Option Value)} {oc33 kV33 dc33 pm33 cd33 ct33 : Value} {f34 : Addr} {od34 an34 : Option Addr} {sl34 : Array (Option Value)} {oc34 kV34 dc34 pm34 cd34 ct34 : Value} {f35 : Addr} {od35 an35 : Option Addr} {sl35 : Array (Option Value)} {oc35 kV35 dc35 pm35 cd35 ct35 : Value} {f36 : Addr} {od36 an36 : Option Addr} {sl36 : Array (Option Value)} {oc36 kV36 dc36 pm36 cd36 ct36 : Value} {f37 : Addr} {od37 an37 : Option Addr} {sl37 : Array (Option Value)} {oc37 kV37 dc37 pm37 cd37 ct37 : Value} {f38 : Addr} {od38 an38 : Option Addr} {sl38 : Array (Option Value)} {oc38 kV38 dc38 pm38 cd38 ct38 : Value} {f39 : Addr} {od39 an39 : Option Addr} {sl39 : Array (Option Value)} {oc39 kV39 dc39 pm39 cd39 ct39 : Value} {f40 : Addr} {od40 an40 : Option Addr} {sl40 : Array (Option Value)} {oc40 kV40 dc40 pm40 cd40 ct40 : Value} {f41 : Addr} {od41 an41 : Option Addr} {sl41 : Array (Option Value)} {oc41 kV41 dc41 pm41 cd41 ct41 : Value} {f42 : Addr} {od42 an42 : Option Addr} {sl42 : Array (Option Value)} {oc42 kV42 dc42 pm42 cd42 ct42 : Value} {fR TD BR : Addr} {odR anR oTR oBR : Option Addr} {slR sTR sBR : Array (Option Value)} {ocR kVR dcR pmR cdR ctR cTR : Value} {nTR nBR : Nat} {fL : Addr} {odL anL : Option Addr} {slL : Array (Option Value)} {ocL kVL dcL pmL cdL ctL : Value}
    (X : K.In h) (G : h.Ns mainGlobals mg) (hfa : mg "law" = some (.ref fa))
    (aC : PySem.W.nsIn K mainGlobals "Web" = some (some (.ref C)))
    (pg : PySem.W.plainGet K C Str.empty = true)
    (hd : PySem.W.hasDictIn K C = true)
    (po : PySem.W.plainOver K C = true)
    (sa : PySem.W.findIn K (.ref C) "__setattr__" = some (some (.builtin "object.__setattr__")))
    (mk : PySem.W.makesIn K C = true)
    (kc : PySem.W.keepIn K (.ref C) = true)
    (nM : PySem.W.findIn K (.ref C) "many" = some none)
    (nR : PySem.W.findIn K (.ref C) "_rows" = some none)
    (mP : PySem.W.nsIn K mainGlobals "MOST_POINTS" = some (some (.int 16 tmP)))
    (mT : PySem.W.nsIn K mainGlobals "MOST_TIES" = some (some (.int 40 tmT)))
    (z_len : PySem.W.nsIn K mainGlobals "len" = some none)
    (z_type : PySem.W.nsIn K mainGlobals "type" = some none)
    (z_int : PySem.W.nsIn K mainGlobals "int" = some none)
    (z_list : PySem.W.nsIn K mainGlobals "list" = some none)
    (z_tuple : PySem.W.nsIn K mainGlobals "tuple" = some none)
    (z_range : PySem.W.nsIn K mainGlobals "range" = some none)
    (z_sorted : PySem.W.nsIn K mainGlobals "sorted" = some none)
    (z_bool : PySem.W.nsIn K mainGlobals "bool" = some none)
    (z_max : PySem.W.nsIn K mainGlobals "max" = some none)
    (z_min : PySem.W.nsIn K mainGlobals "min" = some none)
    (z_all : PySem.W.nsIn K mainGlobals "all" = some none)
    (z_set : PySem.W.nsIn K mainGlobals "set" = some none)
    (z_zip : PySem.W.nsIn K mainGlobals "zip" = some none)
    (z_any : PySem.W.nsIn K mainGlobals "any" = some none)
    (z_sum : PySem.W.nsIn K mainGlobals "sum" = some none)
    (z_isi : PySem.W.nsIn K mainGlobals "isinstance" = some none)
    (z_enum : PySem.W.nsIn K mainGlobals "enumerate" = some none)
    (a1 : PySem.W.nsIn K mainGlobals "is_number" = some (some (.ref f1)))
    (l1 : K.lookup f1 = some ⟨oc1, od1, .func (PySem.W.fnOf "is_number" "is_number" (defArgs sIsNumber) (defBody sIsNumber) (defScope sIsNumber) .none kV1 dc1 pm1 an1 cd1 ct1), sl1⟩)
    (c1 : PySem.W.codeIn K cd1 "is_number" = true)
    (k1 : PySem.W.keepIn K (.ref f1) = true)
    (a2 : PySem.W.nsIn K mainGlobals "is_point" = some (some (.ref f2)))
    (l2 : K.lookup f2 = some ⟨oc2, od2, .func (PySem.W.fnOf "is_point" "is_point" (defArgs sIsPoint) (defBody sIsPoint) (defScope sIsPoint) .none kV2 dc2 pm2 an2 cd2 ct2), sl2⟩)
    (c2 : PySem.W.codeIn K cd2 "is_point" = true)
    (k2 : PySem.W.keepIn K (.ref f2) = true)
    (a3 : PySem.W.nsIn K mainGlobals "_is_tie" = some (some (.ref f3)))
    (l3 : K.lookup f3 = some ⟨oc3, od3, .func (PySem.W.fnOf "_is_tie" "_is_tie" (defArgs sIsTie) (defBody sIsTie) (defScope sIsTie) .none kV3 dc3 pm3 an3 cd3 ct3), sl3⟩)
    (c3 : PySem.W.codeIn K cd3 "_is_tie" = true)
    (k3 : PySem.W.keepIn K (.ref f3) = true)
    (a4 : PySem.W.nsIn K mainGlobals "_joined" = some (some (.ref f4)))
    (l4 : K.lookup f4 = some ⟨oc4, od4, .func (PySem.W.fnOf "_joined" "_joined" (defArgs sJoined) (defBody sJoined) (defScope sJoined) .none kV4 dc4 pm4 an4 cd4 ct4), sl4⟩)
    (c4 : PySem.W.codeIn K cd4 "_joined" = true)
    (k4 : PySem.W.keepIn K (.ref f4) = true)
    (a5 : PySem.W.nsIn K mainGlobals "_is_turn" = some (some (.ref f5)))
    (l5 : K.lookup f5 = some ⟨oc5, od5, .func (PySem.W.fnOf "_is_turn" "_is_turn" (defArgs sIsTurn) (defBody sIsTurn) (defScope sIsTurn) .none kV5 dc5 pm5 an5 cd5 ct5), sl5⟩)
    (c5 : PySem.W.codeIn K cd5 "_is_turn" = true)
    (k5 : PySem.W.keepIn K (.ref f5) = true)
    (a6 : PySem.W.nsIn K mainGlobals "are_turns" = some (some (.ref f6)))
    (l6 : K.lookup f6 = some ⟨oc6, od6, .func (PySem.W.fnOf "are_turns" "are_turns" (defArgs sAreTurns) (defBody sAreTurns) (defScope sAreTurns) .none kV6 dc6 pm6 an6 cd6 ct6), sl6⟩)
    (c6 : PySem.W.codeIn K cd6 "are_turns" = true)
    (k6 : PySem.W.keepIn K (.ref f6) = true)
    (a7 : PySem.W.nsIn K mainGlobals "_check_turns" = some (some (.ref f7)))
    (l7 : K.lookup f7 = some ⟨oc7, od7, .func (PySem.W.fnOf "_check_turns" "_check_turns" (defArgs sCheckTurns) (defBody sCheckTurns) (defScope sCheckTurns) .none kV7 dc7 pm7 an7 cd7 ct7), sl7⟩)
    (c7 : PySem.W.codeIn K cd7 "_check_turns" = true)
    (k7 : PySem.W.keepIn K (.ref f7) = true)
    (a8 : PySem.W.nsIn K mainGlobals "walks" = some (some (.ref f8)))
    (l8 : K.lookup f8 = some ⟨oc8, od8, .func (PySem.W.fnOf "walks" "walks" (defArgs sWalks) (defBody sWalks) (defScope sWalks) .none kV8 dc8 pm8 an8 cd8 ct8), sl8⟩)
    (c8 : PySem.W.codeIn K cd8 "walks" = true)
    (k8 : PySem.W.keepIn K (.ref f8) = true)
    (a9 : PySem.W.nsIn K mainGlobals "_behind" = some (some (.ref f9)))
    (l9 : K.lookup f9 = some ⟨oc9, od9, .func (PySem.W.fnOf "_behind" "_behind" (defArgs sBehind) (defBody sBehind) (defScope sBehind) .none kV9 dc9 pm9 an9 cd9 ct9), sl9⟩)
    (c9 : PySem.W.codeIn K cd9 "_behind" = true)
    (k9 : PySem.W.keepIn K (.ref f9) = true)
    (a10 : PySem.W.nsIn K mainGlobals "_walk" = some (some (.ref f10)))
    (l10 : K.lookup f10 = some ⟨oc10, od10, .func (PySem.W.fnOf "_walk" "_walk" (defArgs sWalk) (defBody sWalk) (defScope sWalk) .none kV10 dc10 pm10 an10 cd10 ct10), sl10⟩)
    (c10 : PySem.W.codeIn K cd10 "_walk" = true)
    (k10 : PySem.W.keepIn K (.ref f10) = true)
    (a11 : PySem.W.nsIn K mainGlobals "flat" = some (some (.ref f11)))
    (l11 : K.lookup f11 = some ⟨oc11, od11, .func (PySem.W.fnOf "flat" "flat" (defArgs sFlat) (defBody sFlat) (defScope sFlat) .none kV11 dc11 pm11 an11 cd11 ct11), sl11⟩)
    (c11 : PySem.W.codeIn K cd11 "flat" = true)
    (k11 : PySem.W.keepIn K (.ref f11) = true)
    (a12 : PySem.W.nsIn K mainGlobals "_is_flat" = some (some (.ref f12)))
    (l12 : K.lookup f12 = some ⟨oc12, od12, .func (PySem.W.fnOf "_is_flat" "_is_flat" (defArgs sIsFlat) (defBody sIsFlat) (defScope sIsFlat) .none kV12 dc12 pm12 an12 cd12 ct12), sl12⟩)
    (c12 : PySem.W.codeIn K cd12 "_is_flat" = true)
    (k12 : PySem.W.keepIn K (.ref f12) = true)
    (a13 : PySem.W.nsIn K mainGlobals "drawn" = some (some (.ref f13)))
    (l13 : K.lookup f13 = some ⟨oc13, od13, .func (PySem.W.fnOf "drawn" "drawn" (defArgs sDrawn) (defBody sDrawn) (defScope sDrawn) .none kV13 dc13 pm13 an13 cd13 ct13), sl13⟩)
    (c13 : PySem.W.codeIn K cd13 "drawn" = true)
    (k13 : PySem.W.keepIn K (.ref f13) = true)
    (a14 : PySem.W.nsIn K mainGlobals "_fields" = some (some (.ref f14)))
    (l14 : K.lookup f14 = some ⟨oc14, od14, .func (PySem.W.fnOf "_fields" "_fields" (defArgs sFields) (defBody sFields) (defScope sFields) .none kV14 dc14 pm14 an14 cd14 ct14), sl14⟩)
    (c14 : PySem.W.codeIn K cd14 "_fields" = true)
    (k14 : PySem.W.keepIn K (.ref f14) = true)
    (a15 : PySem.W.nsIn K mainGlobals "_points" = some (some (.ref f15)))
    (l15 : K.lookup f15 = some ⟨oc15, od15, .func (PySem.W.fnOf "_points" "_points" (defArgs sPoints) (defBody sPoints) (defScope sPoints) .none kV15 dc15 pm15 an15 cd15 ct15), sl15⟩)
    (c15 : PySem.W.codeIn K cd15 "_points" = true)
    (k15 : PySem.W.keepIn K (.ref f15) = true)
    (a16 : PySem.W.nsIn K mainGlobals "_rows" = some (some (.ref f16)))
    (l16 : K.lookup f16 = some ⟨oc16, od16, .func (PySem.W.fnOf "_rows" "_rows" (defArgs sRows) (defBody sRows) (defScope sRows) .none kV16 dc16 pm16 an16 cd16 ct16), sl16⟩)
    (c16 : PySem.W.codeIn K cd16 "_rows" = true)
    (k16 : PySem.W.keepIn K (.ref f16) = true)
    (a17 : PySem.W.nsIn K mainGlobals "_bridges" = some (some (.ref f17)))
    (l17 : K.lookup f17 = some ⟨oc17, od17, .func (PySem.W.fnOf "_bridges" "_bridges" (defArgs sBridges) (defBody sBridges) (defScope sBridges) .none kV17 dc17 pm17 an17 cd17 ct17), sl17⟩)
    (c17 : PySem.W.codeIn K cd17 "_bridges" = true)
    (k17 : PySem.W.keepIn K (.ref f17) = true)
    (a18 : PySem.W.nsIn K mainGlobals "_tightest" = some (some (.ref f18)))
    (l18 : K.lookup f18 = some ⟨oc18, od18, .func (PySem.W.fnOf "_tightest" "_tightest" (defArgs sTightest) (defBody sTightest) (defScope sTightest) .none kV18 dc18 pm18 an18 (.ref cc) ct18), sl18⟩)
    (c18 : PySem.W.codeIn K (.ref cc) "_tightest" = true)
    (k18 : PySem.W.keepIn K (.ref f18) = true)
    (a19 : PySem.W.nsIn K mainGlobals "_homes" = some (some (.ref f19)))
    (l19 : K.lookup f19 = some ⟨oc19, od19, .func (PySem.W.fnOf "_homes" "_homes" (defArgs sHomes) (defBody sHomes) (defScope sHomes) .none kV19 dc19 pm19 an19 cd19 ct19), sl19⟩)
    (c19 : PySem.W.codeIn K cd19 "_homes" = true)
    (k19 : PySem.W.keepIn K (.ref f19) = true)
    (a20 : PySem.W.nsIn K mainGlobals "_path" = some (some (.ref f20)))
    (l20 : K.lookup f20 = some ⟨oc20, od20, .func (PySem.W.fnOf "_path" "_path" (defArgs sPath) (defBody sPath) (defScope sPath) .none kV20 dc20 pm20 an20 cd20 ct20), sl20⟩)
    (c20 : PySem.W.codeIn K cd20 "_path" = true)
    (k20 : PySem.W.keepIn K (.ref f20) = true)
    (a21 : PySem.W.nsIn K mainGlobals "_untied" = some (some (.ref f21)))
    (l21 : K.lookup f21 = some ⟨oc21, od21, .func (PySem.W.fnOf "_untied" "_untied" (defArgs sUntied) (defBody sUntied) (defScope sUntied) .none kV21 dc21 pm21 an21 cd21 ct21), sl21⟩)
    (c21 : PySem.W.codeIn K cd21 "_untied" = true)
    (k21 : PySem.W.keepIn K (.ref f21) = true)
    (a22 : PySem.W.nsIn K mainGlobals "_split" = some (some (.ref f22)))
    (l22 : K.lookup f22 = some ⟨oc22, od22, .func (PySem.W.fnOf "_split" "_split" (defArgs sSplit) (defBody sSplit) (defScope sSplit) .none kV22 dc22 pm22 an22 cd22 ct22), sl22⟩)
    (c22 : PySem.W.codeIn K cd22 "_split" = true)
    (k22 : PySem.W.keepIn K (.ref f22) = true)
    (a23 : PySem.W.nsIn K mainGlobals "_turn" = some (some (.ref f23)))
    (l23 : K.lookup f23 = some ⟨oc23, od23, .func (PySem.W.fnOf "_turn" "_turn" (defArgs sTurn) (defBody sTurn) (defScope sTurn) .none kV23 dc23 pm23 an23 cd23 ct23), sl23⟩)
    (c23 : PySem.W.codeIn K cd23 "_turn" = true)
    (k23 : PySem.W.keepIn K (.ref f23) = true)
    (a24 : PySem.W.nsIn K mainGlobals "way" = some (some (.ref f24)))
    (l24 : K.lookup f24 = some ⟨oc24, od24, .func (PySem.W.fnOf "way" "way" (defArgs sWay) (defBody sWay) (defScope sWay) .none kV24 dc24 pm24 an24 cd24 ct24), sl24⟩)
    (c24 : PySem.W.codeIn K cd24 "way" = true)
    (k24 : PySem.W.keepIn K (.ref f24) = true)
    (a25 : PySem.W.nsIn K mainGlobals "_ringed" = some (some (.ref f25)))
    (l25 : K.lookup f25 = some ⟨oc25, od25, .func (PySem.W.fnOf "_ringed" "_ringed" (defArgs sRinged) (defBody sRinged) (defScope sRinged) .none kV25 dc25 pm25 an25 cd25 ct25), sl25⟩)
    (c25 : PySem.W.codeIn K cd25 "_ringed" = true)
    (k25 : PySem.W.keepIn K (.ref f25) = true)
    (a26 : PySem.W.nsIn K mainGlobals "_block" = some (some (.ref f26)))
    (l26 : K.lookup f26 = some ⟨oc26, od26, .func (PySem.W.fnOf "_block" "_block" (defArgs sBlock) (defBody sBlock) (defScope sBlock) .none kV26 dc26 pm26 an26 cd26 ct26), sl26⟩)
    (c26 : PySem.W.codeIn K cd26 "_block" = true)
    (k26 : PySem.W.keepIn K (.ref f26) = true)
    (a27 : PySem.W.nsIn K mainGlobals "blocks" = some (some (.ref f27)))
    (l27 : K.lookup f27 = some ⟨oc27, od27, .func (PySem.W.fnOf "blocks" "blocks" (defArgs sBlocks) (defBody sBlocks) (defScope sBlocks) .none kV27 dc27 pm27 an27 cd27 ct27), sl27⟩)
    (c27 : PySem.W.codeIn K cd27 "blocks" = true)
    (k27 : PySem.W.keepIn K (.ref f27) = true)
    (a28 : PySem.W.nsIn K mainGlobals "_law_cell_at" = some (some (.ref f28)))
    (l28 : K.lookup f28 = some ⟨oc28, od28, .func (PySem.W.fnOf "_law_cell_at" "_law_cell_at" (defArgs sLawCellAt) (defBody sLawCellAt) (defScope sLawCellAt) .none kV28 dc28 pm28 an28 cd28 ct28), sl28⟩)
    (c28 : PySem.W.codeIn K cd28 "_law_cell_at" = true)
    (k28 : PySem.W.keepIn K (.ref f28) = true)
    (a29 : PySem.W.nsIn K mainGlobals "_law_many" = some (some (.ref f29)))
    (l29 : K.lookup f29 = some ⟨oc29, od29, .func (PySem.W.fnOf "_law_many" "_law_many" (defArgs sLawMany) (defBody sLawMany) (defScope sLawMany) .none kV29 dc29 pm29 an29 cd29 ct29), sl29⟩)
    (c29 : PySem.W.codeIn K cd29 "_law_many" = true)
    (k29 : PySem.W.keepIn K (.ref f29) = true)
    (a30 : PySem.W.nsIn K mainGlobals "_law_ties" = some (some (.ref f30)))
    (l30 : K.lookup f30 = some ⟨oc30, od30, .func (PySem.W.fnOf "_law_ties" "_law_ties" (defArgs sLawTies) (defBody sLawTies) (defScope sLawTies) .none kV30 dc30 pm30 an30 cd30 ct30), sl30⟩)
    (c30 : PySem.W.codeIn K cd30 "_law_ties" = true)
    (k30 : PySem.W.keepIn K (.ref f30) = true)
    (a31 : PySem.W.nsIn K mainGlobals "_law_order_by" = some (some (.ref f31)))
    (l31 : K.lookup f31 = some ⟨oc31, od31, .func (PySem.W.fnOf "_law_order_by" "_law_order_by" (defArgs sLawOrderBy) (defBody sLawOrderBy) (defScope sLawOrderBy) .none kV31 dc31 pm31 an31 cd31 ct31), sl31⟩)
    (c31 : PySem.W.codeIn K cd31 "_law_order_by" = true)
    (k31 : PySem.W.keepIn K (.ref f31) = true)
    (a32 : PySem.W.nsIn K mainGlobals "_law_turns_by" = some (some (.ref f32)))
    (l32 : K.lookup f32 = some ⟨oc32, od32, .func (PySem.W.fnOf "_law_turns_by" "_law_turns_by" (defArgs sLawTurnsBy) (defBody sLawTurnsBy) (defScope sLawTurnsBy) .none kV32 dc32 pm32 an32 cd32 ct32), sl32⟩)
    (c32 : PySem.W.codeIn K cd32 "_law_turns_by" = true)
    (k32 : PySem.W.keepIn K (.ref f32) = true)
    (a33 : PySem.W.nsIn K mainGlobals "_law_labels" = some (some (.ref f33)))
    (l33 : K.lookup f33 = some ⟨oc33, od33, .func (PySem.W.fnOf "_law_labels" "_law_labels" (defArgs sLawLabels) (defBody sLawLabels) (defScope sLawLabels) .none kV33 dc33 pm33 an33 cd33 ct33), sl33⟩)
    (c33 : PySem.W.codeIn K cd33 "_law_labels" = true)
    (k33 : PySem.W.keepIn K (.ref f33) = true)
    (a34 : PySem.W.nsIn K mainGlobals "_law_firsts" = some (some (.ref f34)))
    (l34 : K.lookup f34 = some ⟨oc34, od34, .func (PySem.W.fnOf "_law_firsts" "_law_firsts" (defArgs sLawFirsts) (defBody sLawFirsts) (defScope sLawFirsts) .none kV34 dc34 pm34 an34 cd34 ct34), sl34⟩)
    (c34 : PySem.W.codeIn K cd34 "_law_firsts" = true)
    (k34 : PySem.W.keepIn K (.ref f34) = true)
    (a35 : PySem.W.nsIn K mainGlobals "_law_is_flat" = some (some (.ref f35)))
    (l35 : K.lookup f35 = some ⟨oc35, od35, .func (PySem.W.fnOf "_law_is_flat" "_law_is_flat" (defArgs sLawIsFlat) (defBody sLawIsFlat) (defScope sLawIsFlat) .none kV35 dc35 pm35 an35 cd35 ct35), sl35⟩)
    (c35 : PySem.W.codeIn K cd35 "_law_is_flat" = true)
    (k35 : PySem.W.keepIn K (.ref f35) = true)
    (a36 : PySem.W.nsIn K mainGlobals "_law_shaken" = some (some (.ref f36)))
    (l36 : K.lookup f36 = some ⟨oc36, od36, .func (PySem.W.fnOf "_law_shaken" "_law_shaken" (defArgs sLawShaken) (defBody sLawShaken) (defScope sLawShaken) .none kV36 dc36 pm36 an36 cd36 ct36), sl36⟩)
    (c36 : PySem.W.codeIn K cd36 "_law_shaken" = true)
    (k36 : PySem.W.keepIn K (.ref f36) = true)
    (a37 : PySem.W.nsIn K mainGlobals "_law_stays" = some (some (.ref f37)))
    (l37 : K.lookup f37 = some ⟨oc37, od37, .func (PySem.W.fnOf "_law_stays" "_law_stays" (defArgs sLawStays) (defBody sLawStays) (defScope sLawStays) .none kV37 dc37 pm37 an37 cd37 ct37), sl37⟩)
    (c37 : PySem.W.codeIn K cd37 "_law_stays" = true)
    (k37 : PySem.W.keepIn K (.ref f37) = true)
    (a38 : PySem.W.findIn K (.ref C) "__init__" = some (some (.ref f38)))
    (i38 : PySem.W.isFn K (.ref f38) = true)
    (l38 : K.lookup f38 = some ⟨oc38, od38, .func (PySem.W.fnOf "__init__" "Web.__init__" (defArgs sWebInit) (defBody sWebInit) (defScope sWebInit) .none kV38 dc38 pm38 an38 cd38 ct38), sl38⟩)
    (c38 : PySem.W.codeIn K cd38 "Web.__init__" = true)
    (k38 : PySem.W.keepIn K (.ref f38) = true)
    (a39 : PySem.W.findIn K (.ref C) "_check_point" = some (some (.ref f39)))
    (i39 : PySem.W.isFn K (.ref f39) = true)
    (l39 : K.lookup f39 = some ⟨oc39, od39, .func (PySem.W.fnOf "_check_point" "Web._check_point" (defArgs sWebCheckPoint) (defBody sWebCheckPoint) (defScope sWebCheckPoint) .none kV39 dc39 pm39 an39 cd39 ct39), sl39⟩)
    (c39 : PySem.W.codeIn K cd39 "Web._check_point" = true)
    (k39 : PySem.W.keepIn K (.ref f39) = true)
    (a40 : PySem.W.findIn K (.ref C) "beside" = some (some (.ref f40)))
    (i40 : PySem.W.isFn K (.ref f40) = true)
    (l40 : K.lookup f40 = some ⟨oc40, od40, .func (PySem.W.fnOf "beside" "Web.beside" (defArgs sWebBeside) (defBody sWebBeside) (defScope sWebBeside) .none kV40 dc40 pm40 an40 cd40 ct40), sl40⟩)
    (c40 : PySem.W.codeIn K cd40 "Web.beside" = true)
    (k40 : PySem.W.keepIn K (.ref f40) = true)
    (a41 : PySem.W.findIn K (.ref C) "ties" = some (some (.ref f41)))
    (i41 : PySem.W.isFn K (.ref f41) = true)
    (l41 : K.lookup f41 = some ⟨oc41, od41, .func (PySem.W.fnOf "ties" "Web.ties" (defArgs sWebTies) (defBody sWebTies) (defScope sWebTies) .none kV41 dc41 pm41 an41 cd41 ct41), sl41⟩)
    (c41 : PySem.W.codeIn K cd41 "Web.ties" = true)
    (k41 : PySem.W.keepIn K (.ref f41) = true)
    (a42 : PySem.W.findIn K (.ref C) "pieces" = some (some (.ref f42)))
    (i42 : PySem.W.isFn K (.ref f42) = true)
    (l42 : K.lookup f42 = some ⟨oc42, od42, .func (PySem.W.fnOf "pieces" "Web.pieces" (defArgs sWebPieces) (defBody sWebPieces) (defScope sWebPieces) .none kV42 dc42 pm42 an42 cd42 ct42), sl42⟩)
    (c42 : PySem.W.codeIn K cd42 "Web.pieces" = true)
    (k42 : PySem.W.keepIn K (.ref f42) = true)
    (aR : PySem.W.nsIn K mainGlobals "reached" = some (some (.ref fR)))
    (lR : K.lookup fR = some ⟨ocR, odR, .func (PySem.W.fnOf "reached" "reached" (defArgs sReached) (defBody sReached) (defScope sReached) (.ref TD) kVR dcR pmR anR cdR ctR), slR⟩)
    (cR : PySem.W.codeIn K cdR "reached" = true)
    (kR : PySem.W.keepIn K (.ref fR) = true)
    (lT : K.lookup TD = some ⟨cTR, oTR, .seq #[Value.ref BR] nTR, sTR⟩)
    (lB : K.lookup BR = some ⟨.type "tuple", oBR, .seq #[] nBR, sBR⟩)
    (aL : PySem.W.nsIn K mainGlobals "law" = some (some (.ref fL)))
    (lL : K.lookup fL = some ⟨ocL, odL, .func (PySem.W.fnOf "law" "law" (defArgs sLaw) (defBody sLaw) (defScope sLaw) .none kVL dcL pmL anL cdL ctL), slL⟩)
    (cL : PySem.W.codeIn K cdL "law" = true)
    (kL : PySem.W.keepIn K (.ref fL) = true)
    (hCd : PySem.W.codeHdIn K cc Pt = true)
    (nT : K.lookup Pt = none)
    (eT : h.get? Pt = some { cls := .none, data := .fields #[] })
    : LamX.LawAtS l w K L2.CX0 10 63 "_law_script" mg fa h := by
  have e := hfa.symm.trans (PySem.W.mg_of X G aL)
  cases e
  have T : WTxt K mg C := { cl := ⟨pg, hd, po, sa⟩, nMany := nM, nRows := nR, gWeb := PySem.W.mg_of X G aC, mostP := ⟨_, PySem.W.mg_of X G mP⟩, mostT := ⟨_, PySem.W.mg_of X G mT⟩, len := PySem.W.mg_none_of X G z_len, type := PySem.W.mg_none_of X G z_type, int := PySem.W.mg_none_of X G z_int, list := PySem.W.mg_none_of X G z_list, tuple := PySem.W.mg_none_of X G z_tuple, range := PySem.W.mg_none_of X G z_range, sorted := PySem.W.mg_none_of X G z_sorted, fNum := (fn_mk (ps := ["thing"]) X G a1 l1 c1 k1 fun _ _ _ _ _ _ us hl => match us, hl with | [_], _ => rfl), fPoint := (fn_mk (ps := ["many", "thing"]) X G a2 l2 c2 k2 fun _ _ _ _ _ _ us hl => match us, hl with | [_, _], _ => rfl), fTie := (fn_mk (ps := ["many", "thing"]) X G a3 l3 c3 k3 fun _ _ _ _ _ _ us hl => match us, hl with | [_, _], _ => rfl), fJoined := (fn_mk (ps := ["many", "ties"]) X G a4 l4 c4 k4 fun _ _ _ _ _ _ us hl => match us, hl with | [_, _], _ => rfl), fInit := (fnI_mk (ps := ["self", "many", "ties"]) mk a38 i38 kc l38 c38 k38 fun _ _ _ _ _ _ us hl => match us, hl with | [_, _, _], _ => rfl) }
  have U : TTxt K mg C := { all := PySem.W.mg_none_of X G z_all, enum := PySem.W.mg_none_of X G z_enum, fIsTurn := (fn_mk (ps := ["near", "turn"]) X G a5 l5 c5 k5 fun _ _ _ _ _ _ us hl => match us, hl with | [_, _], _ => rfl), fAre := (fn_mk (ps := ["web", "turns"]) X G a6 l6 c6 k6 fun _ _ _ _ _ _ us hl => match us, hl with | [_, _], _ => rfl), fC := (fnM_mk (ps := ["self", "thing"]) a39 i39 l39 c39 k39 fun _ _ _ _ _ _ us hl => match us, hl with | [_, _], _ => rfl), fB := (fnM_mk (ps := ["self", "point"]) a40 i40 l40 c40 k40 fun _ _ _ _ _ _ us hl => match us, hl with | [_, _], _ => rfl) }
  have L : LTxt K mg := { isi := PySem.W.mg_none_of X G z_isi, bool := PySem.W.mg_none_of X G z_bool, max := PySem.W.mg_none_of X G z_max, min := PySem.W.mg_none_of X G z_min, fCell := (fn_mk (ps := ["_law_script", "_law_k"]) X G a28 l28 c28 k28 fun _ _ _ _ _ _ us hl => match us, hl with | [_, _], _ => rfl), fMany := (fn_mk (ps := ["_law_script"]) X G a29 l29 c29 k29 fun _ _ _ _ _ _ us hl => match us, hl with | [_], _ => rfl) }
  have KT : KTxt K mg := { set := PySem.W.mg_none_of X G z_set, zip := PySem.W.mg_none_of X G z_zip, fBehind := (fn_mk (ps := ["turns", "step"]) X G a9 l9 c9 k9 fun _ _ _ _ _ _ us hl => match us, hl with | [_, _], _ => rfl), fWalk := (fn_mk (ps := ["turns", "first"]) X G a10 l10 c10 k10 fun _ _ _ _ _ _ us hl => match us, hl with | [_, _], _ => rfl), fCheckT := (fn_mk (ps := ["web", "turns"]) X G a7 l7 c7 k7 fun _ _ _ _ _ _ us hl => match us, hl with | [_, _], _ => rfl), fWalks := (fn_mk (ps := ["web", "turns"]) X G a8 l8 c8 k8 fun _ _ _ _ _ _ us hl => match us, hl with | [_, _], _ => rfl) }
  have FR : FnR K mg := fnR_mk X G aR lR cR kR lT lB
  have B : BTxt K mg C := { min := PySem.W.mg_none_of X G z_min, max := PySem.W.mg_none_of X G z_max, set := PySem.W.mg_none_of X G z_set, fR := FR, fRinged := (fn_mk (ps := ["rows", "hub", "end"]) X G a25 l25 c25 k25 fun _ _ _ _ _ _ us hl => match us, hl with | [_, _, _], _ => rfl), fBlock := (fn_mk (ps := ["rows", "first"]) X G a26 l26 c26 k26 fun _ _ _ _ _ _ us hl => match us, hl with | [_, _], _ => rfl), fBlocks := (fn_mk (ps := ["web"]) X G a27 l27 c27 k27 fun _ _ _ _ _ _ us hl => match us, hl with | [_], _ => rfl) }
  have W4 : Web4 K C := { fC := (fnM_mk (ps := ["self", "thing"]) a39 i39 l39 c39 k39 fun _ _ _ _ _ _ us hl => match us, hl with | [_, _], _ => rfl), fB := (fnM_mk (ps := ["self", "point"]) a40 i40 l40 c40 k40 fun _ _ _ _ _ _ us hl => match us, hl with | [_, _], _ => rfl), fT := (fnM_mk (ps := ["self"]) a41 i41 l41 c41 k41 fun _ _ _ _ _ _ us hl => match us, hl with | [_], _ => rfl) }
  have D : ∀ base : Heap, LamX.TabB base mg cc Pt → DrTxt K mg base cc Pt := fun base tb => { any := PySem.W.mg_none_of X G z_any, all := PySem.W.mg_none_of X G z_all, enum := PySem.W.mg_none_of X G z_enum, zip := PySem.W.mg_none_of X G z_zip, min_ := PySem.W.mg_none_of X G z_min, fReached := fnR7_of FR, fWay := (fn_mk (ps := ["rows", "start", "goal", "through"]) X G a24 l24 c24 k24 fun _ _ _ _ _ _ us hl => match us, hl with | [_, _, _, _], _ => rfl), fPoints := (fn_mk (ps := ["groups"]) X G a15 l15 c15 k15 fun _ _ _ _ _ _ us hl => match us, hl with | [_], _ => rfl), fRows := (fn_mk (ps := ["ties"]) X G a16 l16 c16 k16 fun _ _ _ _ _ _ us hl => match us, hl with | [_], _ => rfl), fBridges := (fn_mk (ps := ["rows", "shown", "left"]) X G a17 l17 c17 k17 fun _ _ _ _ _ _ us hl => match us, hl with | [_, _, _], _ => rfl), fHomes := (fn_mk (ps := ["bridge", "fields"]) X G a19 l19 c19 k19 fun _ _ _ _ _ _ us hl => match us, hl with | [_, _], _ => rfl), fTightest := (fnC_mk (ps := ["bridges", "fields"]) X G a18 l18 c18 k18 fun _ _ _ _ _ _ us hl => match us, hl with | [_, _], _ => rfl), fPath := (fn_mk (ps := ["rows", "bridge"]) X G a20 l20 c20 k20 fun _ _ _ _ _ _ us hl => match us, hl with | [_, _], _ => rfl), fUntied := (fn_mk (ps := ["left", "path"]) X G a21 l21 c21 k21 fun _ _ _ _ _ _ us hl => match us, hl with | [_, _], _ => rfl), fSplit := (fn_mk (ps := ["field", "path"]) X G a22 l22 c22 k22 fun _ _ _ _ _ _ us hl => match us, hl with | [_, _], _ => rfl), fTurn := (fn_mk (ps := ["fields", "point"]) X G a23 l23 c23 k23 fun _ _ _ _ _ _ us hl => match us, hl with | [_, _], _ => rfl), fFields := (fn_mk (ps := ["ties"]) X G a14 l14 c14 k14 fun _ _ _ _ _ _ us hl => match us, hl with | [_], _ => rfl), tab := tb }
  have N : N7Txt K mg C := { sum_ := PySem.W.mg_none_of X G z_sum, fR := FR, fPieces := (fnM_mk (ps := ["self"]) a42 i42 l42 c42 k42 fun _ _ _ _ _ _ us hl => match us, hl with | [_], _ => rfl), fIsFlat := (fn_mk (ps := ["web", "piece", "found"]) X G a12 l12 c12 k12 fun _ _ _ _ _ _ us hl => match us, hl with | [_, _, _], _ => rfl), fFlat := (fn_mk (ps := ["web", "turns"]) X G a11 l11 c11 k11 fun _ _ _ _ _ _ us hl => match us, hl with | [_, _], _ => rfl), fDrawn := (fn_mk (ps := ["web"]) X G a13 l13 c13 k13 fun _ _ _ _ _ _ us hl => match us, hl with | [_], _ => rfl), fTies := (fn_mk (ps := ["_law_script", "_law_many_here"]) X G a30 l30 c30 k30 fun _ _ _ _ _ _ us hl => match us, hl with | [_, _], _ => rfl), fOrder := (fn_mk (ps := ["_law_cell", "_law_row"]) X G a31 l31 c31 k31 fun _ _ _ _ _ _ us hl => match us, hl with | [_, _], _ => rfl), fTurnsBy := (fn_mk (ps := ["_law_script", "_law_many_here", "_law_ties_here"]) X G a32 l32 c32 k32 fun _ _ _ _ _ _ us hl => match us, hl with | [_, _, _], _ => rfl), fLabels := (fn_mk (ps := ["_law_ties_here", "_law_many_here"]) X G a33 l33 c33 k33 fun _ _ _ _ _ _ us hl => match us, hl with | [_, _], _ => rfl), fFirsts := (fn_mk (ps := ["_law_turns", "_law_ties_here"]) X G a34 l34 c34 k34 fun _ _ _ _ _ _ us hl => match us, hl with | [_, _], _ => rfl), fLFlat := (fn_mk (ps := ["_law_turns", "_law_ties_here", "_law_many_here"]) X G a35 l35 c35 k35 fun _ _ _ _ _ _ us hl => match us, hl with | [_, _, _], _ => rfl), fShaken := (fn_mk (ps := ["_law_turns", "_law_cell"]) X G a36 l36 c36 k36 fun _ _ _ _ _ _ us hl => match us, hl with | [_, _], _ => rfl), fStays := (fn_mk (ps := ["_law_web", "_law_ties_here", "_law_many_here"]) X G a37 l37 c37 k37 fun _ _ _ _ _ _ us hl => match us, hl with | [_, _, _], _ => rfl) }
  exact ⟨_, [(cc, Pt)], spLaw7 K Pt, (fun p hp => by rw [List.mem_singleton.mp hp]; exact eT), (fun p hp => by rw [List.mem_singleton.mp hp]; exact nT), (fun p hp => by rw [List.mem_singleton.mp hp]; exact PySem.W.codeHd_of_K X hCd), (fun s v => .of_eq rfl), (fun H a ns _ _ hT hS => ⟨a, ns, rfl, hS, (fun p hp => by rw [List.mem_singleton.mp hp]; exact TabS.nil (hT _ (List.mem_singleton.mpr rfl))), fun _ => rfl⟩), fun base _ _ hTB => ok_law (fun_mk (st := sLaw) lL cL kL) T U L KT B W4 (D base (hTB _ (List.mem_singleton.mpr rfl))) N⟩
end Fd
open PySem PySem.W PyProof.Rows
set_option maxRecDepth 100000 in
set_option maxHeartbeats 0 in
theorem PySem.Challenge.cw_flatdraw_k07_flat_holds : PySem.Challenge.rw_flatdraw_k07_flat.Holds := by
  w_on; o_law; k_head; (case hw => w_witness2)
  k_fill
  refine LamX.walk_ofTs (l := PySem.Challenge.rw_flatdraw_k07_flat) (n := 63) (k := 10) (x := "_law_script") (CX := fun _ => L2.CX0) rfl (by decide) rfl ⟨rfl, by decide, by decide⟩ (fun w h Y => PySem.W.km_in_of Y) ?F (fun _ _ _ _ _ z => z)
  case F =>
    intro w mg fa h Y KX G hmg
    refine' Fd.all_mk KX G hmg ?aC ?pg ?hd ?po ?sa ?mk ?kc ?nM ?nR ?mP ?mT ?z_len ?z_type ?z_int ?z_list ?z_tuple ?z_range ?z_sorted ?z_bool ?z_max ?z_min ?z_all ?z_set ?z_zip ?z_any ?z_sum ?z_isi ?z_enum ?a1 ?l1 ?c1 ?k1 ?a2 ?l2 ?c2 ?k2 ?a3 ?l3 ?c3 ?k3 ?a4 ?l4 ?c4 ?k4 ?a5 ?l5 ?c5 ?k5 ?a6 ?l6 ?c6 ?k6 ?a7 ?l7 ?c7 ?k7 ?a8 ?l8 ?c8 ?k8 ?a9 ?l9 ?c9 ?k9 ?a10 ?l10 ?c10 ?k10 ?a11 ?l11 ?c11 ?k11 ?a12 ?l12 ?c12 ?k12 ?a13 ?l13 ?c13 ?k13 ?a14 ?l14 ?c14 ?k14 ?a15 ?l15 ?c15 ?k15 ?a16 ?l16 ?c16 ?k16 ?a17 ?l17 ?c17 ?k17 ?a18 ?l18 ?c18 ?k18 ?a19 ?l19 ?c19 ?k19 ?a20 ?l20 ?c20 ?k20 ?a21 ?l21 ?c21 ?k21 ?a22 ?l22 ?c22 ?k22 ?a23 ?l23 ?c23 ?k23 ?a24 ?l24 ?c24 ?k24 ?a25 ?l25 ?c25 ?k25 ?a26 ?l26 ?c26 ?k26 ?a27 ?l27 ?c27 ?k27 ?a28 ?l28 ?c28 ?k28 ?a29 ?l29 ?c29 ?k29 ?a30 ?l30 ?c30 ?k30 ?a31 ?l31 ?c31 ?k31 ?a32 ?l32 ?c32 ?k32 ?a33 ?l33 ?c33 ?k33 ?a34 ?l34 ?c34 ?k34 ?a35 ?l35 ?c35 ?k35 ?a36 ?l36 ?c36 ?k36 ?a37 ?l37 ?c37 ?k37 ?a38 ?i38 ?l38 ?c38 ?k38 ?a39 ?i39 ?l39 ?c39 ?k39 ?a40 ?i40 ?l40 ?c40 ?k40 ?a41 ?i41 ?l41 ?c41 ?k41 ?a42 ?i42 ?l42 ?c42 ?k42 ?aR ?lR ?cR ?kR ?lT ?lB ?aL ?lL ?cL ?kL ?hCd ?nT ?eT
    (case aC => k_is)
    (case pg => k_is)
    (case hd => k_is)
    (case po => k_is)
    (case sa => k_is)
    (case mk => k_is)
    (case kc => k_is)
    (case nM => k_is)
    (case nR => k_is)
    (case mP => k_is)
    (case mT => k_is)
    (case z_len => k_is)
    (case z_type => k_is)
    (case z_int => k_is)
    (case z_list => k_is)
    (case z_tuple => k_is)
    (case z_range => k_is)
    (case z_sorted => k_is)
    (case z_bool => k_is)
    (case z_max => k_is)
    (case z_min => k_is)
    (case z_all => k_is)
    (case z_set => k_is)
    (case z_zip => k_is)
    (case z_any => k_is)
    (case z_sum => k_is)
    (case z_isi => k_is)
    (case z_enum => k_is)
    (case a1 => k_is)
    (case l1 => k_is)
    (case c1 => k_is)
    (case k1 => k_is)
    (case a2 => k_is)
    (case l2 => k_is)
    (case c2 => k_is)
    (case k2 => k_is)
    (case a3 => k_is)
    (case l3 => k_is)
    (case c3 => k_is)
    (case k3 => k_is)
    (case a4 => k_is)
    (case l4 => k_is)
    (case c4 => k_is)
    (case k4 => k_is)
    (case a5 => k_is)
    (case l5 => k_is)
    (case c5 => k_is)
    (case k5 => k_is)
    (case a6 => k_is)
    (case l6 => k_is)
    (case c6 => k_is)
    (case k6 => k_is)
    (case a7 => k_is)
    (case l7 => k_is)
    (case c7 => k_is)
    (case k7 => k_is)
    (case a8 => k_is)
    (case l8 => k_is)
    (case c8 => k_is)
    (case k8 => k_is)
    (case a9 => k_is)
    (case l9 => k_is)
    (case c9 => k_is)
    (case k9 => k_is)
    (case a10 => k_is)
    (case l10 => k_is)
    (case c10 => k_is)
    (case k10 => k_is)
    (case a11 => k_is)
    (case l11 => k_is)
    (case c11 => k_is)
    (case k11 => k_is)
    (case a12 => k_is)
    (case l12 => k_is)
    (case c12 => k_is)
    (case k12 => k_is)
    (case a13 => k_is)
    (case l13 => k_is)
    (case c13 => k_is)
    (case k13 => k_is)
    (case a14 => k_is)
    (case l14 => k_is)
    (case c14 => k_is)
    (case k14 => k_is)
    (case a15 => k_is)
    (case l15 => k_is)
    (case c15 => k_is)
    (case k15 => k_is)
    (case a16 => k_is)
    (case l16 => k_is)
    (case c16 => k_is)
    (case k16 => k_is)
    (case a17 => k_is)
    (case l17 => k_is)
    (case c17 => k_is)
    (case k17 => k_is)
    (case a18 => k_is)
    (case l18 => k_is)
    (case c18 => k_is)
    (case k18 => k_is)
    (case a19 => k_is)
    (case l19 => k_is)
    (case c19 => k_is)
    (case k19 => k_is)
    (case a20 => k_is)
    (case l20 => k_is)
    (case c20 => k_is)
    (case k20 => k_is)
    (case a21 => k_is)
    (case l21 => k_is)
    (case c21 => k_is)
    (case k21 => k_is)
    (case a22 => k_is)
    (case l22 => k_is)
    (case c22 => k_is)
    (case k22 => k_is)
    (case a23 => k_is)
    (case l23 => k_is)
    (case c23 => k_is)
    (case k23 => k_is)
    (case a24 => k_is)
    (case l24 => k_is)
    (case c24 => k_is)
    (case k24 => k_is)
    (case a25 => k_is)
    (case l25 => k_is)
    (case c25 => k_is)
    (case k25 => k_is)
    (case a26 => k_is)
    (case l26 => k_is)
    (case c26 => k_is)
    (case k26 => k_is)
    (case a27 => k_is)
    (case l27 => k_is)
    (case c27 => k_is)
    (case k27 => k_is)
    (case a28 => k_is)
    (case l28 => k_is)
    (case c28 => k_is)
    (case k28 => k_is)
    (case a29 => k_is)
    (case l29 => k_is)
    (case c29 => k_is)
    (case k29 => k_is)
    (case a30 => k_is)
    (case l30 => k_is)
    (case c30 => k_is)
    (case k30 => k_is)
    (case a31 => k_is)
    (case l31 => k_is)
    (case c31 => k_is)
    (case k31 => k_is)
    (case a32 => k_is)
    (case l32 => k_is)
    (case c32 => k_is)
    (case k32 => k_is)
    (case a33 => k_is)
    (case l33 => k_is)
    (case c33 => k_is)
    (case k33 => k_is)
    (case a34 => k_is)
    (case l34 => k_is)
    (case c34 => k_is)
    (case k34 => k_is)
    (case a35 => k_is)
    (case l35 => k_is)
    (case c35 => k_is)
    (case k35 => k_is)
    (case a36 => k_is)
    (case l36 => k_is)
    (case c36 => k_is)
    (case k36 => k_is)
    (case a37 => k_is)
    (case l37 => k_is)
    (case c37 => k_is)
    (case k37 => k_is)
    (case a38 => k_is)
    (case i38 => k_is)
    (case l38 => k_is)
    (case c38 => k_is)
    (case k38 => k_is)
    (case a39 => k_is)
    (case i39 => k_is)
    (case l39 => k_is)
    (case c39 => k_is)
    (case k39 => k_is)
    (case a40 => k_is)
    (case i40 => k_is)
    (case l40 => k_is)
    (case c40 => k_is)
    (case k40 => k_is)
    (case a41 => k_is)
    (case i41 => k_is)
    (case l41 => k_is)
    (case c41 => k_is)
    (case k41 => k_is)
    (case a42 => k_is)
    (case i42 => k_is)
    (case l42 => k_is)
    (case c42 => k_is)
    (case k42 => k_is)
    (case aR => k_is)
    (case lR => k_is)
    (case cR => k_is)
    (case kR => k_is)
    (case lT => k_is)
    (case lB => k_is)
    (case aL => k_is)
    (case lL => k_is)
    (case cL => k_is)
    (case kL => k_is)
    (case eT => exact PySem.W.km_tabs_of Y _ (by k_mem))
    (case hCd => kernel_rfl)
    (case nT => kernel_rfl)
