import PyProof.Rows.All
import Wide.All
import OpenK.AllK
import Wide.FinOn
import HandS.ForMost
import HandS.Deep
import HandS.IsInst
import HandS.More
import HandS.SortRule
import HandS.SortInts
import KE.DataMinMax
import PyProof.TypeEq
import HandS.Codes
import HandS.Defaults
import HandS.Conv
import HandS.Exc
import HandS.ExcOwn
import HandS.WordsExc
import HandS.HotCalls
import HandS.ExcIs
import HandS.TupSets
import HandS.DictComp
import HandS.TupLe
import HandS.Zip
import KE.KDictZip
import KE.DatumOrd
import KE.DataFind
import PyProof.Claim2Refuses
import HandS.Rev
import PySem.Challenge.RW_flatdraw_k06_walks
set_option Elab.async false
set_option linter.all false
set_option maxRecDepth 100000
namespace Fd
open PySem L2
/-! ### == and != of two built-in types -/
theorem slot_ty_ne : Slot "type" (cmpInfo .NotEq).2.1 "object.__ne__" :=
  Slot.of (n := "__ne__") (owner := "object") (by rw [typeLookup_type, builtinLookup_eq_fast]; kernel_rfl) (by decide +kernel) (by decide +kernel) (by decide +kernel) (by first | exact .inl (by decide +kernel) | exact .inr (by decide +kernel)) (by rw [isSubtype_type]; kernel_rfl)
theorem slot_ty_ne' : Slot "type" (cmpInfo .NotEq).2.2 "object.__ne__" := slot_ty_ne
section
variable {prog : Program} {w : World} {A : Around} {E : Value → Shared → Prop} {s : Shared}
theorem call_ne_ty {X Y : String} {Q : Value → Shared → Prop} (hX : ∀ s' : Shared, s'.TypeIs (.type X) "type")
    (h : Q (if (Value.type X == Value.type Y) = true then .bool false else .notImplemented) s) : wpAny (model prog w) A (call (.builtin "object.__ne__") [.type X, .type Y]) Q E s := by
  refine wpAny_call (codeAny_call_builtin slot_ty_ne.plain F.entry_object_ne (slot_ty_ne.check _ _ _ _ _ _ _ _ (hX s) (F.args_object_ne_2 _ _) ?_))
  unfold Builtin.«object.__ne__»
  have e1 : slotArgs "__ne__" 1 ⟨[Value.type X, Value.type Y], []⟩ = pure (Value.type X, [Value.type Y]) := by
    simp [slotArgs]
  rw [e1]
  simp only [pure_bind]
  refine wpAny_bind (wpAny_cRoomFor_or (.inl rfl) ?_)
  refine wpAny_bind (wpAny_callSpecialIfBound?_slot (name := (cmpInfo .Eq).2.1) (hX s) TypeEq.slot_type_eq ?_)
  by_cases hk : (Value.type X == Value.type Y) = true
  · rw [if_pos hk] at h
    refine call_gives TypeEq.slot_type_eq (hX s) F.entry_object_eq (F.args_object_eq_2 _ _) (TypeEq.object_eq_same rfl hk) ?_
    exact wpAny_bind (wpAny_truthy_bool (wpAny_pure h))
  · rw [if_neg hk] at h
    refine call_gives TypeEq.slot_type_eq (hX s) F.entry_object_eq (F.args_object_eq_2 _ _) (TypeEq.object_eq_other rfl (Bool.eq_false_iff.mpr hk)) ?_
    exact wpAny_pure h
theorem ne_ty {X Y : String} {Q : Value → Shared → Prop} (hX : ∀ s' : Shared, s'.TypeIs (.type X) "type") (hY : ∀ s' : Shared, s'.TypeIs (.type Y) "type")
    (h : Q (.bool (!decide (X = Y))) s) : wpAny (model prog w) A (compareOp .NotEq (.type X) (.type Y)) Q E s := by
  show wpAny (model prog w) A (richCompare CmpOp.NotEq (.type X) (.type Y)) Q E s
  by_cases e : X = Y
  · subst e
    refine wpAny_richCompare_same (T := "type") (hX s) (hX s) slot_ty_ne (call_ne_ty hX ?_)
    rw [if_pos (by simp)]
    rw [decide_eq_true rfl] at h
    exact ⟨(by intro z; cases z), h⟩
  · have k1 : (Value.type X == Value.type Y) = false := by simp [e]
    have k2 : (Value.type Y == Value.type X) = false := by simpa using fun z : Y = X => e z.symm
    rw [decide_eq_false e] at h
    rcases hi : cmpInfo CmpOp.NotEq with ⟨sym, f, r⟩
    have h1 := slot_ty_ne
    have h2 := slot_ty_ne'
    rw [hi] at h1 h2
    simp only [richCompare, hi, (hX s).oneThing_none]
    try with_reducible refine wpAny_holding ?_
    refine wpAny_bind (wpAny_cRoomFor_or (.inl rfl) ?_)
    refine wpAny_bind (wpAny_typeOf (hX s) (wpAny_bind (wpAny_typeOf (hY s) ?_)))
    simp only [if_true, if_false, bne_self_eq_false, Bool.not_false, Bool.false_eq_true, pure_bind]
    refine wpAny_bind (m := tryCompare (.type X) _ (.type Y)) (wpAny_tryCompare_declines (hX s) h1 (call_ne_ty hX ?_))
    rw [if_neg (by rw [k1]; exact Bool.false_ne_true)]
    refine ⟨rfl, ?_⟩
    refine wpAny_bind (m := tryCompare (.type Y) _ (.type X)) (wpAny_tryCompare_declines (hY s) h2 (call_ne_ty hY ?_))
    rw [if_neg (by rw [k2]; exact Bool.false_ne_true)]
    refine ⟨rfl, ?_⟩
    refine wpAny_bind (wpAny_rule (wpAny_bind (wpAny_of_eq (isSame_plain rfl) ?_)))
    rw [k1]
    exact wpAny_pure h
end
/-- the names of the built-in kinds that are compared -/
def kinds : List String := ["int", "str", "bool", "NoneType", "list", "tuple", "dict", "bytes"]
theorem meta_of {T : String} (h : T ∈ kinds) (s : Shared) : s.TypeIs (.type T) "type" := by
  simp only [kinds, List.mem_cons, List.not_mem_nil, or_false] at h
  rcases h with rfl | rfl | rfl | rfl | rfl | rfl | rfl | rfl
  · exact TypeEq.meta_int s
  · exact TypeEq.meta_str s
  · exact TypeEq.meta_bool s
  · exact TypeEq.meta_NoneType s
  · exact TypeEq.meta_list s
  · exact TypeEq.meta_tuple s
  · exact TypeEq.meta_dict s
  · exact TypeEq.meta_bytes s
theorem TyB_kind {K : PySem.W.Frag} {H : Hp} {x : V} {T : String} (h : TyB K H x T) : T ∈ kinds := by
  cases h <;> decide
def rEqTy : R2 := fun x y H Q => ∃ a b, x = .ty a ∧ y = .ty b ∧ a ∈ kinds ∧ b ∈ kinds ∧ Q (.bl (decide (a = b))) H
def rNeTy : R2 := fun x y H Q => ∃ a b, x = .ty a ∧ y = .ty b ∧ a ∈ kinds ∧ b ∈ kinds ∧ Q (.bl (!decide (a = b))) H
section
variable {X : Cx}
theorem op_eqTy : OpR X (compareOp .Eq) rEqTy := by
  intro pins s σ H x y v u Q I rx ry h
  obtain ⟨a, b, rfl, rfl, ha, hb, q⟩ := h
  cases rx
  cases ry
  by_cases e : a = b
  · subst e
    rw [decide_eq_true rfl] at q
    exact TypeEq.eq_type_same (meta_of ha) ⟨.bl true, H, I, rfl, q⟩
  · rw [decide_eq_false e] at q
    exact TypeEq.eq_type_other (meta_of ha) (meta_of hb) (by simp [e]) ⟨.bl false, H, I, rfl, q⟩
theorem op_neTy : OpR X (compareOp .NotEq) rNeTy := by
  intro pins s σ H x y v u Q I rx ry h
  obtain ⟨a, b, rfl, rfl, ha, hb, q⟩ := h
  cases rx
  cases ry
  exact ne_ty (meta_of ha) (meta_of hb) ⟨.bl _, H, I, rfl, q⟩
end
end Fd
namespace Fd
/-! ### plain lists -/
theorem strict_uniq {α : Type} {lt : α → α → Prop} (asym : ∀ a b, lt a b → ¬ lt b a) : ∀ {l1 l2 : List α}, l1.Pairwise lt → l2.Pairwise lt → (∀ x, x ∈ l1 ↔ x ∈ l2) → l1 = l2
  | [], [], _, _, _ => rfl
  | [], b :: l2, _, _, h => absurd ((h b).mpr List.mem_cons_self) (by simp)
  | a :: l1, [], _, _, h => absurd ((h a).mp List.mem_cons_self) (by simp)
  | a :: l1, b :: l2, h1, h2, h => by
    obtain ⟨p1, q1⟩ := List.pairwise_cons.mp h1
    obtain ⟨p2, q2⟩ := List.pairwise_cons.mp h2
    have e : a = b := by
      rcases List.mem_cons.mp ((h a).mp List.mem_cons_self) with e | ha
      · exact e
      · rcases List.mem_cons.mp ((h b).mpr List.mem_cons_self) with e | hb
        · exact e.symm
        · exact absurd (p1 b hb) (asym _ _ (p2 a ha))
    subst e
    have irr : ∀ x, lt a x → x ≠ a := fun x hx z => by
      subst z
      exact asym _ _ hx hx
    rw [strict_uniq asym q1 q2 fun x => ⟨fun hx => ?_, fun hx => ?_⟩]
    · rcases List.mem_cons.mp ((h x).mp (List.mem_cons_of_mem _ hx)) with e | hx'
      · exact absurd e (irr x (p1 x hx))
      · exact hx'
    · rcases List.mem_cons.mp ((h x).mpr (List.mem_cons_of_mem _ hx)) with e | hx'
      · exact absurd e (irr x (p2 x hx))
      · exact hx'
theorem strict_of_le {l : List Int} (h : l.Pairwise (· ≤ ·)) (n : l.Nodup) : l.Pairwise (· < ·) := by
  induction l with
  | nil => exact List.Pairwise.nil
  | cons a l ih =>
    obtain ⟨p, q⟩ := List.pairwise_cons.mp h
    obtain ⟨n1, n2⟩ := List.nodup_cons.mp n
    refine List.pairwise_cons.mpr ⟨fun b hb => ?_, ih q n2⟩
    have h1 := p b hb
    have h2 : a ≠ b := fun e => n1 (e ▸ hb)
    omega
theorem take_next {α : Type} : ∀ {l : List α} {i : Nat} {x : α}, l[i]? = some x → l.take (i + 1) = l.take i ++ [x]
  | [], i, x, h => by simp at h
  | a :: l, 0, x, h => by
    cases Option.some.inj h
    rfl
  | a :: l, i + 1, x, h => by
    rw [List.take_succ_cons, take_next (l := l) (i := i) (x := x) h]
    rfl
/-! ### points, ties, rows -/
abbrev Tie := Int × Int
def pts (m : Nat) : List Int := (List.range m).map fun n : Nat => (n : Int)
theorem mem_pts {m : Nat} {x : Int} : x ∈ pts m ↔ 0 ≤ x ∧ x < m := by
  unfold pts
  rw [List.mem_map]
  constructor
  · rintro ⟨n, hn, rfl⟩
    rw [List.mem_range] at hn
    omega
  · intro h
    exact ⟨x.toNat, List.mem_range.mpr (by omega), by omega⟩
theorem pts_strict (m : Nat) : (pts m).Pairwise (· < ·) := by
  unfold pts
  rw [List.pairwise_map]
  exact List.pairwise_lt_range.imp fun h => by omega
theorem pts_len (m : Nat) : (pts m).length = m := by simp [pts]
theorem pts_at {m i : Nat} (h : i < m) : (pts m)[i]? = some (i : Int) := by
  simp [pts, h]
theorem pts_succ (m : Nat) : pts (m + 1) = pts m ++ [(m : Int)] := by
  simp [pts, List.range_succ]
/-- a tie joins p and j -/
def Adj (ts : List Tie) (p j : Int) : Prop := (p, j) ∈ ts ∨ (j, p) ∈ ts
instance (ts : List Tie) (p j : Int) : Decidable (Adj ts p j) := by unfold Adj; exact inferInstance
theorem Adj.symm {ts : List Tie} {p j : Int} (h : Adj ts p j) : Adj ts j p := Or.symm h
structure Good (m : Nat) (ts : List Tie) : Prop where
  rng : ∀ t ∈ ts, 0 ≤ t.1 ∧ t.1 < m ∧ 0 ≤ t.2 ∧ t.2 < m ∧ t.1 ≠ t.2
  ap : ts.Pairwise fun t u => t ≠ u ∧ t ≠ (u.2, u.1)
theorem Good.nil (m : Nat) : Good m [] := ⟨fun _ h => by simp at h, List.Pairwise.nil⟩
theorem Good.snoc {m : Nat} {ts : List Tie} {t : Tie} (g : Good m ts) (h : 0 ≤ t.1 ∧ t.1 < m ∧ 0 ≤ t.2 ∧ t.2 < m ∧ t.1 ≠ t.2) (h1 : t ∉ ts) (h2 : (t.2, t.1) ∉ ts) : Good m (ts ++ [t]) := by
  refine ⟨fun u hu => ?_, List.pairwise_append.mpr ⟨g.ap, List.pairwise_singleton _ _, fun u hu v hv => ?_⟩⟩
  · rcases List.mem_append.mp hu with hu | hu
    · exact g.rng u hu
    · rw [List.mem_singleton.mp hu]
      exact h
  · rw [List.mem_singleton.mp hv]
    exact ⟨fun e => h1 (e ▸ hu), fun e => h2 (e ▸ hu)⟩
theorem Good.drop {m : Nat} {ts : List Tie} (g : Good m ts) (k : Nat) : Good m (ts.drop k) := ⟨fun t h => g.rng t (List.mem_of_mem_drop h), g.ap.sublist (List.drop_sublist k ts)⟩
theorem Good.take {m : Nat} {ts : List Tie} (g : Good m ts) (k : Nat) : Good m (ts.take k) := ⟨fun t h => g.rng t (List.mem_of_mem_take h), g.ap.sublist (List.take_sublist k ts)⟩
theorem Good.apart {m : Nat} {ts : List Tie} (g : Good m ts) {i : Nat} {t : Tie} (h : ts[i]? = some t) : t ∉ ts.take i ∧ (t.2, t.1) ∉ ts.take i := by
  have e := take_next h
  have g1 := (g.take (i + 1)).ap
  rw [e] at g1
  have q := (List.pairwise_append.mp g1).2.2
  refine ⟨fun hm => ?_, fun hm => ?_⟩
  · exact (q t hm t (by simp)).1 rfl
  · exact (q (t.2, t.1) hm t (by simp)).2 rfl
/-- what one tie puts beside p -/
def here (t : Tie) (p : Int) : List Int := (if t.1 = p then [t.2] else []) ++ (if t.2 = p then [t.1] else [])
def nb (ts : List Tie) (p : Int) : List Int := ts.flatMap fun t => here t p
theorem mem_here {t : Tie} {p j : Int} : j ∈ here t p ↔ t = (p, j) ∨ t = (j, p) := by
  obtain ⟨a, b⟩ := t
  unfold here
  by_cases h1 : a = p <;> by_cases h2 : b = p <;> simp [h1, h2] <;> constructor <;> intro h <;> simp_all
theorem mem_nb {ts : List Tie} {p j : Int} : j ∈ nb ts p ↔ Adj ts p j := by
  unfold nb Adj
  rw [List.mem_flatMap]
  constructor
  · rintro ⟨t, ht, hj⟩
    rcases mem_here.mp hj with e | e
    · exact .inl (e ▸ ht)
    · exact .inr (e ▸ ht)
  · rintro (h | h)
    · exact ⟨_, h, mem_here.mpr (.inl rfl)⟩
    · exact ⟨_, h, mem_here.mpr (.inr rfl)⟩
theorem nb_snoc (ts : List Tie) (t : Tie) (p : Int) : nb (ts ++ [t]) p = nb ts p ++ here t p := by
  unfold nb
  rw [List.flatMap_append]
  simp
theorem nb_nodup {m : Nat} : ∀ {ts : List Tie} (g : Good m ts) (p : Int), (nb ts p).Nodup
  | [], _, _ => by simp [nb]
  | t :: ts, g, p => by
    have g' : Good m ts := ⟨fun u h => g.rng u (List.mem_cons_of_mem _ h), (List.pairwise_cons.mp g.ap).2⟩
    have ih := nb_nodup g' p
    have hne := (g.rng t List.mem_cons_self).2.2.2.2
    have e : nb (t :: ts) p = here t p ++ nb ts p := by simp [nb]
    rw [e]
    refine List.nodup_append.mpr ⟨?_, ih, fun x hx y hy z => ?_⟩
    · obtain ⟨a, b⟩ := t
      unfold here
      by_cases h1 : a = p <;> by_cases h2 : b = p <;> simp [h1, h2]
      exact hne (h1.trans h2.symm)
    · subst z
      have q := (List.pairwise_cons.mp g.ap).1
      rcases mem_here.mp hx with e1 | e1 <;> rcases mem_nb.mp hy with e2 | e2
      · exact (q _ e2).1 e1
      · exact (q _ e2).2 e1
      · exact (q _ e2).2 e1
      · exact (q _ e2).1 e1
/-- the points beside p, rising -/
def rowOf (m : Nat) (ts : List Tie) (p : Int) : List Int := (pts m).filter fun j => decide (Adj ts p j)
theorem mem_rowOf {m : Nat} {ts : List Tie} (g : Good m ts) {p j : Int} : j ∈ rowOf m ts p ↔ Adj ts p j := by
  unfold rowOf
  rw [List.mem_filter, decide_eq_true_iff, mem_pts]
  refine ⟨fun h => h.2, fun h => ⟨?_, h⟩⟩
  rcases h with h | h
  · have := g.rng _ h
    exact ⟨this.2.2.1, this.2.2.2.1⟩
  · have := g.rng _ h
    exact ⟨this.1, this.2.1⟩
theorem rowOf_strict (m : Nat) (ts : List Tie) (p : Int) : (rowOf m ts p).Pairwise (· < ·) := (pts_strict m).filter _
theorem rowOf_len (m : Nat) (ts : List Tie) (p : Int) : (rowOf m ts p).length ≤ m := by
  have h := List.length_filter_le (fun j => decide (Adj ts p j)) (pts m)
  rw [pts_len] at h
  exact h
theorem row_sorted {m : Nat} {ts : List Tie} (g : Good m ts) {p : Int} {ns : List Int} (hp : ns.Perm (nb ts p)) (hs : ns.Pairwise (· ≤ ·)) : ns = rowOf m ts p := by
  refine strict_uniq (lt := fun a b : Int => a < b) (fun a b h => by omega) (strict_of_le hs (hp.nodup_iff.mpr (nb_nodup g p))) (rowOf_strict m ts p) fun x => ?_
  rw [hp.mem_iff, mem_nb, mem_rowOf g]
def rowsOf (m : Nat) (ts : List Tie) : List (List Int) := (pts m).map (rowOf m ts)
theorem rowsOf_len (m : Nat) (ts : List Tie) : (rowsOf m ts).length = m := by simp [rowsOf, pts_len]
theorem rowsOf_at {m : Nat} {ts : List Tie} {i : Nat} (h : i < m) : (rowsOf m ts)[i]? = some (rowOf m ts i) := by
  unfold rowsOf
  rw [List.getElem?_map, pts_at h]
  rfl
/-! ### the ties told -/
def pickT (m : Nat) (ts : List Tie) (i : Int) : List Tie := ((rowOf m ts i).filter fun j => decide (i < j)).map fun j => (i, j)
def toldT (m : Nat) (ts : List Tie) : List Tie := (pts m).flatMap (pickT m ts)
def lexT (a b : Tie) : Prop := a.1 < b.1 ∨ (a.1 = b.1 ∧ a.2 < b.2)
theorem mem_pickT {m : Nat} {ts : List Tie} (g : Good m ts) {i : Int} {t : Tie} : t ∈ pickT m ts i ↔ t.1 = i ∧ t.1 < t.2 ∧ Adj ts t.1 t.2 := by
  unfold pickT
  rw [List.mem_map]
  constructor
  · rintro ⟨j, hj, rfl⟩
    rw [List.mem_filter, decide_eq_true_iff, mem_rowOf g] at hj
    exact ⟨rfl, hj.2, hj.1⟩
  · rintro ⟨rfl, h1, h2⟩
    exact ⟨t.2, by rw [List.mem_filter, decide_eq_true_iff, mem_rowOf g]; exact ⟨h2, h1⟩, rfl⟩
theorem mem_toldT {m : Nat} {ts : List Tie} (g : Good m ts) {t : Tie} : t ∈ toldT m ts ↔ t.1 < t.2 ∧ Adj ts t.1 t.2 := by
  unfold toldT
  rw [List.mem_flatMap]
  constructor
  · rintro ⟨i, _, h⟩
    exact ((mem_pickT g).mp h).2
  · intro h
    refine ⟨t.1, ?_, (mem_pickT g).mpr ⟨rfl, h⟩⟩
    rw [mem_pts]
    rcases h.2 with k | k
    · have := g.rng _ k
      exact ⟨this.1, this.2.1⟩
    · have := g.rng _ k
      exact ⟨this.2.2.1, this.2.2.2.1⟩
theorem toldT_strict {m : Nat} {ts : List Tie} (g : Good m ts) : (toldT m ts).Pairwise lexT := by
  unfold toldT
  rw [List.pairwise_flatMap]
  refine ⟨fun i _ => ?_, (pts_strict m).imp fun {i k} hik x hx y hy => ?_⟩
  · unfold pickT
    rw [List.pairwise_map]
    exact ((rowOf_strict m ts i).filter _).imp fun h => .inr ⟨rfl, h⟩
  · have h1 := ((mem_pickT g).mp hx).1
    have h2 := ((mem_pickT g).mp hy).1
    exact .inl (by omega)
def norm (t : Tie) : Tie := (min t.1 t.2, max t.1 t.2)
theorem norm_cases (t : Tie) : norm t = t ∨ norm t = (t.2, t.1) := by
  unfold norm
  obtain ⟨a, b⟩ := t
  by_cases h : a ≤ b
  · left
    show (min a b, max a b) = (a, b)
    rw [Int.min_eq_left h, Int.max_eq_right h]
  · right
    show (min a b, max a b) = (b, a)
    rw [Int.min_eq_right (by omega), Int.max_eq_left (by omega)]
theorem mem_norm {m : Nat} {ts : List Tie} (g : Good m ts) {t : Tie} : t ∈ ts.map norm ↔ t.1 < t.2 ∧ Adj ts t.1 t.2 := by
  rw [List.mem_map]
  constructor
  · rintro ⟨u, hu, rfl⟩
    have hne := (g.rng u hu).2.2.2.2
    obtain ⟨a, b⟩ := u
    refine ⟨?_, ?_⟩
    · show min a b < max a b
      have : a ≠ b := hne
      omega
    · rcases norm_cases (a, b) with e | e
      · rw [e]
        exact .inl hu
      · rw [e]
        exact .inr hu
  · rintro ⟨h1, h2⟩
    obtain ⟨a, b⟩ := t
    have h1 : a < b := h1
    rcases h2 with h2 | h2
    · refine ⟨_, h2, ?_⟩
      show (min a b, max a b) = (a, b)
      rw [Int.min_eq_left (by omega), Int.max_eq_right (by omega)]
    · refine ⟨_, h2, ?_⟩
      show (min b a, max b a) = (a, b)
      rw [Int.min_eq_right (by omega), Int.max_eq_left (by omega)]
theorem norm_nodup {m : Nat} : ∀ {ts : List Tie} (g : Good m ts), (ts.map norm).Nodup
  | [], _ => by simp
  | t :: ts, g => by
    have g' : Good m ts := ⟨fun u h => g.rng u (List.mem_cons_of_mem _ h), (List.pairwise_cons.mp g.ap).2⟩
    rw [List.map_cons, List.nodup_cons]
    refine ⟨fun h => ?_, norm_nodup g'⟩
    obtain ⟨u, hu, e⟩ := List.mem_map.mp h
    have q := (List.pairwise_cons.mp g.ap).1 u hu
    rcases norm_cases u with e1 | e1 <;> rcases norm_cases t with e2 | e2 <;> rw [e1, e2] at e
    · exact q.1 e.symm
    · exact q.2 (by rw [e])
    · exact q.2 e.symm
    · exact q.1 (by
        obtain ⟨a, b⟩ := t
        obtain ⟨c, d⟩ := u
        simp only [Prod.mk.injEq] at e ⊢
        exact ⟨e.2.symm, e.1.symm⟩)
theorem told_sorted {m : Nat} {ts ys : List Tie} (g : Good m ts) (hp : ys.Perm (ts.map norm)) (hs : ys.Pairwise fun a b => ¬ lexT b a) : ys = toldT m ts := by
  have nd : ys.Nodup := hp.nodup_iff.mpr (norm_nodup g)
  refine strict_uniq (lt := lexT) (fun a b h k => ?_) ?_ (toldT_strict g) fun x => ?_
  · unfold lexT at h k
    omega
  · have both := List.Pairwise.and hs nd
    refine both.imp fun {a b} h => ?_
    obtain ⟨h1, h2⟩ := h
    unfold lexT at h1 ⊢
    by_cases e1 : a.1 = b.1
    · by_cases e2 : a.2 = b.2
      · exact absurd (Prod.ext e1 e2) h2
      · omega
    · omega
  · rw [hp.mem_iff, mem_norm g, mem_toldT g]
theorem toldT_len {m : Nat} {ts : List Tie} (g : Good m ts) : (toldT m ts).length = ts.length := by
  have h1 : (toldT m ts).Nodup := (toldT_strict g).imp fun {a b} h e => by
    subst e
    unfold lexT at h
    omega
  have hp : (toldT m ts).Perm (ts.map norm) := (List.perm_ext_iff_of_nodup h1 (norm_nodup g)).mpr fun x => by rw [mem_norm g, mem_toldT g]
  have e := hp.length_eq
  rw [List.length_map] at e
  exact e
end Fd
namespace Fd
open PySem L2
/-! ### min and max of a pair of iL -/
def rPr (f : Int → Int → Int) (K : PySem.W.Frag) : List V → Hp → VK → Prop := fun vs H Q => ∃ (a : Addr) (i j : Int), vs = [V.ref a] ∧ SqT K H a [.int i, .int j] ∧ Q (.int (f i j)) H
section
variable {X : Cx}
theorem alike2 (i j : Int) : PySem.W.AlikeAll [PyData.int i, PyData.int j] := by
  refine ⟨fun x hx y hy => ?_, fun x hx => ?_⟩
  · simp only [List.mem_cons, List.not_mem_nil, or_false] at hx hy
    rcases hx with rfl | rfl <;> rcases hy with rfl | rfl <;> rfl
  · simp only [List.mem_cons, List.not_mem_nil, or_false] at hx
    rcases hx with rfl | rfl <;> intro z <;> cases z
theorem cr_minPr (hc : X.calm = true) (hu : X.A.units + 64 < cLine) : CallR X (.builtin "min") (rPr min X.K) := by
  intro pins s σ H vs us Q I r h
  obtain ⟨a, i, j, rfl, hT, q⟩ := h
  obtain ⟨its, rv, ⟨o, ho, hcl, n, hd⟩, _⟩ := I.tuple hT
  rw [Vals.ref1 r]
  obtain ⟨u1, u2, rfl, ri, rj⟩ := vals2 rv
  obtain ⟨t1, rfl⟩ := ri
  obtain ⟨t2, rfl⟩ := rj
  refine PySem.W.min_tuple_data (x := .int i) (xs := [.int j]) (I.ok.hd hc) ⟨o, ho, hcl, n, hd⟩ (.cons (.int i t1) (.cons (.int j t2) .nil)) (alike2 i j) ?_ fun k v h' tk bs hk hr keep => ?_
  · simp only [PyData.depthAll, PyData.depth]
    omega
  · rw [show PySem.W.minD (PyData.int i) [PyData.int j] = PyData.int (min i j) from PySem.W.minD_ints i [j]] at hr
    cases hr
    exact ⟨.int (min i j), H, I.kept keep, ⟨_, rfl⟩, q⟩
theorem cr_maxPr (hc : X.calm = true) (hu : X.A.units + 64 < cLine) : CallR X (.builtin "max") (rPr max X.K) := by
  intro pins s σ H vs us Q I r h
  obtain ⟨a, i, j, rfl, hT, q⟩ := h
  obtain ⟨its, rv, ⟨o, ho, hcl, n, hd⟩, _⟩ := I.tuple hT
  rw [Vals.ref1 r]
  obtain ⟨u1, u2, rfl, ri, rj⟩ := vals2 rv
  obtain ⟨t1, rfl⟩ := ri
  obtain ⟨t2, rfl⟩ := rj
  refine PySem.W.max_tuple_data (x := .int i) (xs := [.int j]) (I.ok.hd hc) ⟨o, ho, hcl, n, hd⟩ (.cons (.int i t1) (.cons (.int j t2) .nil)) (alike2 i j) ?_ fun k v h' tk bs hk hr keep => ?_
  · simp only [PyData.depthAll, PyData.depth]
    omega
  · rw [show PySem.W.maxD (PyData.int i) [PyData.int j] = PyData.int (max i j) from PySem.W.maxD_ints i [j]] at hr
    cases hr
    exact ⟨.int (max i j), H, I.kept keep, ⟨_, rfl⟩, q⟩
end
/-! ### pairs and lists of pairs in the heap -/
abbrev iL (xs : List Int) : List V := xs.map V.int
def PairAt (H : Hp) (v : V) (t : Tie) : Prop := ∃ a, v = .ref a ∧ H a = some (.tup [.int t.1, .int t.2])
abbrev PairsAt (H : Hp) (vs : List V) (ts : List Tie) : Prop := Paired (PairAt H) vs ts
theorem PairAt.same {H H' : Hp} (s : Same H H') {v : V} {t : Tie} (h : PairAt H v t) : PairAt H' v t := by
  obtain ⟨a, e, k⟩ := h
  exact ⟨a, e, s _ _ k⟩
theorem PairsAt.same {H H' : Hp} (s : Same H H') {vs : List V} {ts : List Tie} (h : PairsAt H vs ts) : PairsAt H' vs ts := Paired.mono (fun _ _ => PairAt.same s) h
theorem paired_get {α β : Type} {F : α → β → Prop} : ∀ {xs : List α} {ys : List β}, Paired F xs ys → ∀ {i : Nat} {x : α}, xs[i]? = some x → ∃ y, ys[i]? = some y ∧ F x y
  | _, _, .nil, i, x, h => by simp at h
  | _, _, .cons r t, 0, x, h => by
    cases Option.some.inj h
    exact ⟨_, rfl, r⟩
  | _, _, .cons r t, i + 1, x, h => paired_get t (i := i) (by simpa using h)
theorem paired_get' {α β : Type} {F : α → β → Prop} : ∀ {xs : List α} {ys : List β}, Paired F xs ys → ∀ {i : Nat} {y : β}, ys[i]? = some y → ∃ x, xs[i]? = some x ∧ F x y
  | _, _, .nil, i, x, h => by simp at h
  | _, _, .cons r t, 0, x, h => by
    cases Option.some.inj h
    exact ⟨_, rfl, r⟩
  | _, _, .cons r t, i + 1, x, h => paired_get' t (i := i) (by simpa using h)
theorem paired_drop {α β : Type} {F : α → β → Prop} : ∀ {xs : List α} {ys : List β}, Paired F xs ys → ∀ k, Paired F (xs.drop k) (ys.drop k)
  | _, _, h, 0 => h
  | _, _, .nil, _ + 1 => .nil
  | _, _, .cons _ t, k + 1 => paired_drop t k
theorem paired_take {α β : Type} {F : α → β → Prop} : ∀ {xs : List α} {ys : List β}, Paired F xs ys → ∀ k, Paired F (xs.take k) (ys.take k)
  | _, _, h, 0 => .nil
  | _, _, .nil, _ + 1 => .nil
  | _, _, .cons r t, k + 1 => .cons r (paired_take t k)
def prd (t : Tie) : PyData := .tuple [.int t.1, .int t.2]
theorem prd_lay (t : Tie) : (prd t).canLay0 = true := by simp [prd, PyData.canLay0, PyData.canLayAll0]
theorem prd_depth (t : Tie) : (prd t).depth = 1 := by simp [prd, PyData.depth, PyData.depthAll]
theorem prds_lay : ∀ ts : List Tie, PyData.canLayAll0 (ts.map prd) = true
  | [] => by simp [PyData.canLayAll0]
  | t :: ts => by simp [PyData.canLayAll0, prd_lay t, prds_lay ts]
theorem prds_depth : ∀ ts : List Tie, PyData.depthAll (ts.map prd) ≤ 1
  | [] => by simp [PyData.depthAll]
  | t :: ts => by
    have h1 := prds_depth ts
    have h2 := prd_depth t
    simp only [List.map_cons, PyData.depthAll]
    omega
theorem shaped_by {d : PyData} (h1 : d.canLay0 = true) (h2 : d.depth ≤ 64) : SeqAt.shaped d = true := by
  unfold SeqAt.shaped
  rw [h1, decide_eq_true h2, Bool.and_self]
theorem prd_shaped (t : Tie) : SeqAt.shaped (prd t) = true := shaped_by (prd_lay t) (by rw [prd_depth]; decide)
theorem prds_shaped (ts : List Tie) : SeqAt.shaped (.list (ts.map prd)) = true := by
  have h := prds_depth ts
  refine shaped_by (by simp only [PyData.canLay0]; exact prds_lay ts) ?_
  simp only [PyData.depth]
  omega
theorem prd_eqv (t u : Tie) : PyData.eqv (prd t) (prd u) = decide (t = u) := by
  obtain ⟨a, b⟩ := t
  obtain ⟨c, d⟩ := u
  simp only [prd, PyData.eqv, PyData.eqvAll, Bool.and_true]
  rw [Bool.eq_iff_iff]
  simp
theorem prds_any (ts : List Tie) (t : Tie) : ((ts.map prd).any fun z => PyData.eqv z (prd t)) = decide (t ∈ ts) := by
  rw [List.any_map, Bool.eq_iff_iff, List.any_eq_true, decide_eq_true_iff]
  constructor
  · rintro ⟨u, hu, e⟩
    have e : PyData.eqv (prd u) (prd t) = true := e
    rw [prd_eqv, decide_eq_true_iff] at e
    exact e ▸ hu
  · intro h
    exact ⟨t, h, by show PyData.eqv (prd t) (prd t) = true; rw [prd_eqv]; exact decide_eq_true rfl⟩
theorem prds_refl (ts : List Tie) : PyData.eqv (.list (ts.map prd)) (.list (ts.map prd)) = true := SeqAt.eqv_refl _ (SeqAt.canLay_of_shaped (prds_shaped ts))
theorem dp_pair {K : PySem.W.Frag} {H : Hp} {v : V} {t : Tie} (h : PairAt H v t) : Dp K H v (prd t) := by
  obtain ⟨a, rfl, k⟩ := h
  exact .tup (SqT.of k) (.cons (.int _) (.cons (.int _) .nil))
theorem dp_all {K : PySem.W.Frag} {H : Hp} : ∀ {vs : List V} {ts : List Tie}, PairsAt H vs ts → DpAll K H vs (ts.map prd)
  | _, _, .nil => .nil
  | _, _, .cons r t => .cons (dp_pair r) (dp_all t)
theorem dp_pairs {K : PySem.W.Frag} {H : Hp} {a : Addr} {vs : List V} {ts : List Tie} (h : SqL K H a vs) (k : PairsAt H vs ts) : Dp K H (.ref a) (.list (ts.map prd)) := .lst h (dp_all k)
theorem dpi_all {K : PySem.W.Frag} {H : Hp} : ∀ xs : List Int, DpAll K H (iL xs) (xs.map PyData.int)
  | [] => .nil
  | x :: xs => .cons (.int x) (dpi_all xs)
theorem dp_ints {K : PySem.W.Frag} {H : Hp} {a : Addr} {xs : List Int} (h : SqL K H a (iL xs)) : Dp K H (.ref a) (.list (xs.map PyData.int)) := .lst h (dpi_all xs)
theorem inl_lay : ∀ xs : List Int, PyData.canLayAll0 (xs.map PyData.int) = true
  | [] => by simp [PyData.canLayAll0]
  | t :: ts => by simp [PyData.canLayAll0, PyData.canLay0, inl_lay ts]
theorem inl_depth : ∀ xs : List Int, PyData.depthAll (xs.map PyData.int) = 0
  | [] => by simp [PyData.depthAll]
  | t :: ts => by simp [PyData.depthAll, PyData.depth, inl_depth ts]
theorem inl_shaped (xs : List Int) : SeqAt.shaped (.list (xs.map PyData.int)) = true := by
  have h := inl_depth xs
  refine shaped_by (by simp only [PyData.canLay0]; exact inl_lay xs) ?_
  simp only [PyData.depth]
  omega
theorem inl_refl (xs : List Int) : PyData.eqv (.list (xs.map PyData.int)) (.list (xs.map PyData.int)) = true := SeqAt.eqv_refl _ (SeqAt.canLay_of_shaped (inl_shaped xs))
theorem inV_ints (xs : List Int) (x : Int) : inV (.int x) (iL xs) = decide (x ∈ xs) := by
  unfold inV iL
  rw [List.any_map, Bool.eq_iff_iff, List.any_eq_true, decide_eq_true_iff]
  constructor
  · rintro ⟨u, hu, e⟩
    have e : (u == x) = true := e
    rw [beq_iff_eq] at e
    exact e ▸ hu
  · intro h
    exact ⟨x, h, beq_self_eq_true x⟩
theorem flat_ints (xs : List Int) : (iL xs).all flatV = true := by
  rw [List.all_eq_true]
  intro v hv
  obtain ⟨x, _, rfl⟩ := List.mem_map.mp hv
  rfl
theorem iL_at {xs : List Int} {i : Nat} {y : V} (h : (iL xs)[i]? = some y) : ∃ z, xs[i]? = some z ∧ y = V.int z := by
  rw [List.getElem?_map] at h
  cases e : xs[i]? with
  | none =>
    rw [e] at h
    cases h
  | some z =>
    rw [e] at h
    exact ⟨z, rfl, (Option.some.inj h).symm⟩
theorem iL_get {xs : List Int} {i : Nat} {z : Int} (h : xs[i]? = some z) : (iL xs)[i]? = some (.int z) := by
  rw [List.getElem?_map, h]
  rfl
/-! ### heaps -/
theorem Same.put {H : Hp} {p : Addr} {o : HO} (h : H p = none) : Same H (upd H p o) := fun b u e => by
  rw [upd_ne (ne_of_none e h)]
  exact e
theorem Same.step {H H1 : Hp} {p : Addr} {o : HO} (s : Same H H1) (h : H1 p = none) : Same H (upd H1 p o) := s.trans (Same.put h)
/-- a list that was new behind H is written -/
theorem Same.write {H H1 : Hp} {p : Addr} {o : HO} (s : Same H H1) (h : H p = none) : Same H (upd H1 p o) := fun b u e => by
  rw [upd_ne (ne_of_none e h)]
  exact s _ _ e
theorem small {n : Nat} (h : n ≤ 1000) : n < sizeLine := Nat.lt_of_le_of_lt h (by decide)
theorem smalle {n : Nat} (h : n ≤ 1000) : n ≤ sizeLine := Nat.le_of_lt (small h)
/-! ### rows: a list of lists of iL, all new behind H0, all apart -/
structure RowsAt (H0 H : Hp) (R : Addr) (as : List Addr) (rss : List (List Int)) : Prop where
  top : H R = some (.lst (as.map V.ref))
  new : H0 R = none
  len : as.length = rss.length
  nd : as.Nodup
  out : R ∉ as
  row : ∀ (i : Nat) (a : Addr) (r : List Int), as[i]? = some a → rss[i]? = some r → H0 a = none ∧ H a = some (.lst (iL r))
theorem RowsAt.get {H0 H : Hp} {R : Addr} {as : List Addr} {rss : List (List Int)} (h : RowsAt H0 H R as rss) {i : Nat} {r : List Int} (e : rss[i]? = some r) : ∃ a, as[i]? = some a ∧ (as.map V.ref)[i]? = some (.ref a) ∧ H0 a = none ∧ H a = some (.lst (iL r)) := by
  have hi : i < as.length := by
    rw [h.len]
    exact (List.getElem?_eq_some_iff.mp e).1
  have ea : as[i]? = some as[i] := List.getElem?_eq_getElem hi
  obtain ⟨k1, k2⟩ := h.row i _ r ea e
  refine ⟨as[i], ea, ?_, k1, k2⟩
  rw [List.getElem?_map, ea]
  rfl
theorem RowsAt.same {H0 H H' : Hp} {R : Addr} {as : List Addr} {rss : List (List Int)} (h : RowsAt H0 H R as rss) (s : Same H H') : RowsAt H0 H' R as rss :=
  ⟨s _ _ h.top, h.new, h.len, h.nd, h.out, fun i a r e1 e2 => ⟨(h.row i a r e1 e2).1, s _ _ (h.row i a r e1 e2).2⟩⟩
/-- what stood ahead may change -/
theorem RowsAt.apart {H0 H H' : Hp} {R : Addr} {as : List Addr} {rss : List (List Int)} (h : RowsAt H0 H R as rss) (s : ∀ b o, H b = some o → H0 b = none → H' b = some o) : RowsAt H0 H' R as rss :=
  ⟨s _ _ h.top h.new, h.new, h.len, h.nd, h.out, fun i a r e1 e2 => ⟨(h.row i a r e1 e2).1, s _ _ (h.row i a r e1 e2).2 (h.row i a r e1 e2).1⟩⟩
theorem RowsAt.older {H0 H1 H : Hp} {R : Addr} {as : List Addr} {rss : List (List Int)} (h : RowsAt H1 H R as rss) (s : Same H0 H1) : RowsAt H0 H R as rss :=
  ⟨h.top, s.free h.new, h.len, h.nd, h.out, fun i a r e1 e2 => ⟨s.free (h.row i a r e1 e2).1, (h.row i a r e1 e2).2⟩⟩
/-- a row more -/
theorem RowsAt.more {H0 H : Hp} {R p : Addr} {as : List Addr} {rss : List (List Int)} {r : List Int} (h : RowsAt H0 H R as rss) (s : Same H0 H) (hp : H p = none) :
    RowsAt H0 (upd (upd H p (.lst (iL r))) R (.lst (as.map V.ref ++ [.ref p]))) R (as ++ [p]) (rss ++ [r]) := by
  have pR : R ≠ p := ne_of_none h.top hp
  have pas : p ∉ as := fun hm => by
    obtain ⟨i, hi, e⟩ := List.getElem_of_mem hm
    have e' : as[i]? = some p := by rw [List.getElem?_eq_getElem hi, e]
    have hi2 : i < rss.length := by rw [← h.len]; exact hi
    have q := (h.row i p rss[i] e' (List.getElem?_eq_getElem hi2)).2
    rw [hp] at q
    cases q
  refine ⟨by rw [upd_same, List.map_append]; rfl, h.new, by simp [h.len], List.nodup_append.mpr ⟨h.nd, by simp, fun x hx y hy e => ?_⟩, fun hm => ?_, fun i a r' e1 e2 => ?_⟩
  · rw [List.mem_singleton.mp hy] at e
    exact pas (e ▸ hx)
  · rcases List.mem_append.mp hm with k | k
    · exact h.out k
    · exact pR (List.mem_singleton.mp k)
  · by_cases hi : i < as.length
    · rw [List.getElem?_append_left hi] at e1
      rw [List.getElem?_append_left (by rw [← h.len]; exact hi)] at e2
      obtain ⟨k1, k2⟩ := h.row i a r' e1 e2
      have aR : a ≠ R := fun e => h.out (e ▸ List.mem_of_getElem? e1)
      have ap : a ≠ p := ne_of_none k2 hp
      exact ⟨k1, by rw [upd_ne aR, upd_ne ap]; exact k2⟩
    · have hi' : as.length ≤ i := Nat.le_of_not_lt hi
      rw [List.getElem?_append_right hi'] at e1
      rw [List.getElem?_append_right (by rw [← h.len]; exact hi')] at e2
      obtain ⟨e1a, e1b⟩ := List.getElem?_eq_some_iff.mp e1
      obtain ⟨e2a, e2b⟩ := List.getElem?_eq_some_iff.mp e2
      simp only [List.getElem_singleton] at e1b e2b
      subst e1b
      subst e2b
      exact ⟨s.free hp, by rw [upd_ne pR.symm, upd_same]⟩
/-- a row is written -/
theorem RowsAt.write {H0 H : Hp} {R a : Addr} {as : List Addr} {rss : List (List Int)} {i : Nat} {r : List Int} (h : RowsAt H0 H R as rss) (e : as[i]? = some a) : RowsAt H0 (upd H a (.lst (iL r))) R as (rss.set i r) := by
  have aR : R ≠ a := fun z => h.out (z ▸ List.mem_of_getElem? e)
  refine ⟨by rw [upd_ne aR]; exact h.top, h.new, by rw [h.len, List.length_set], h.nd, h.out, fun j b r' e1 e2 => ?_⟩
  by_cases hj : i = j
  · subst hj
    have eb : a = b := Option.some.inj (e.symm.trans e1)
    subst eb
    have hi : i < rss.length := by
      rw [← h.len]
      exact (List.getElem?_eq_some_iff.mp e).1
    rw [List.getElem?_set_self hi] at e2
    cases Option.some.inj e2
    exact ⟨(h.row i a rss[i] e (List.getElem?_eq_getElem hi)).1, upd_same⟩
  · rw [List.getElem?_set_ne hj] at e2
    have ab : b ≠ a := fun z => hj (nd_ix h.nd e (z ▸ e1))
    obtain ⟨k1, k2⟩ := h.row j b r' e1 e2
    exact ⟨k1, by rw [upd_ne ab]; exact k2⟩
theorem RowsAt.sameW {H0 H : Hp} {R a : Addr} {as : List Addr} {rss : List (List Int)} {i : Nat} {o : HO} (h : RowsAt H0 H R as rss) (s : Same H0 H) (e : as[i]? = some a) : Same H0 (upd H a o) := by
  have hi : i < rss.length := by
    rw [← h.len]
    exact (List.getElem?_eq_some_iff.mp e).1
  exact Same.write s (h.row i a rss[i] e (List.getElem?_eq_getElem hi)).1
end Fd
namespace Fd
open PySem PySem.Spec PyProof.Rows L2
/-! ### defs as they stand behind the top -/
structure Fn (K : PySem.W.Frag) (mg : Str → Option Value) (x : Str) (st : Stmt) (ps : List Str) : Prop where
  ex : ∃ (f : Addr) (fd : FuncData), L2.Fun K x x st f fd ∧ mg x = some (.ref f) ∧ Binds K fd ps []
structure FnM (K : PySem.W.Frag) (C : Addr) (m qual : Str) (st : Stmt) (ps : List Str) : Prop where
  ex : ∃ (f : Addr) (fd : FuncData), L2.Fun K m qual st f fd ∧ Meth K C m f ∧ Binds K fd ps []
structure FnI (K : PySem.W.Frag) (C : Addr) (qual : Str) (st : Stmt) (ps : List Str) : Prop where
  ex : ∃ (f : Addr) (fd : FuncData), L2.Fun K "__init__" qual st f fd ∧ Mk K C f ∧ Binds K fd ps []
section
variable {P : Program} {w : World} {K : PySem.W.Frag} {mg : Str → Option Value} {base : Heap}
abbrev Body (P : Program) (w : World) (K : PySem.W.Frag) (mg : Str → Option Value) (base : Heap) (k : Nat) (qual : Str) (st : Stmt) (N : List Str) (sp : Sp) : Prop :=
  ∀ (f : Addr) (cdv : Value) (A : Around) (outer : List Env) (s : Shared) (H : Hp) (vs : List V) (Q : VK) (E : XK), Room k (A.deeper (envOfC qual (defScope st) s.heap.objs.size f cdv)) → sp vs H Q E →
    ∃ t, PSs (cxOf L2.CX0 P w K mg base N qual (defScope st) f cdv A outer s H E).nox (defBody st) t ∧ t { nx := fun _ H' => Q .non H', rt := Q } (start N vs) H
theorem cal_of {x : Str} {st : Stmt} {N ps : List Str} {k : Nat} {sp : Sp} (F : Fn K mg x st ps) (S : FnScope N ps (defScope st)) (len : ∀ vs H Q E, sp vs H Q E → vs.length = ps.length) (hb : Body P w K mg base k x st N sp) :
    C8.Cal P w K mg base (k + 1) x sp [] := by
  obtain ⟨f, fd, F, hm, b⟩ := F.ex
  exact ⟨f, fd, ps, [], F.ok S len fun cdv A outer s H vs Q E hr h => hb f cdv A outer s H vs Q E hr h, hm, F.kp, b, .nil⟩
theorem met_of {C : Addr} {m qual : Str} {st : Stmt} {N ps : List Str} {k : Nat} {sp : Sp} (c : Cls K C) (F : FnM K C m qual st ps) (S : FnScope N ps (defScope st)) (len : ∀ vs H Q E, sp vs H Q E → vs.length = ps.length) (hb : Body P w K mg base k qual st N sp) :
    C8.Met P w K mg base (k + 1) C m sp [] := by
  obtain ⟨f, fd, F, hm, b⟩ := F.ex
  exact ⟨f, fd, ps, [], c, hm, F.ok S len fun cdv A outer s H vs Q E hr h => hb f cdv A outer s H vs Q E hr h, b, .nil⟩
theorem mak_of {C : Addr} {x qual : Str} {st : Stmt} {N ps : List Str} {k : Nat} {sp : Sp} (g : mg x = some (.ref C)) (F : FnI K C qual st ps) (S : FnScope N ps (defScope st)) (len : ∀ vs H Q E, sp vs H Q E → vs.length = ps.length) (hb : Body P w K mg base k qual st N sp) :
    C8.Mak P w K mg base (k + 1) x C sp [] := by
  obtain ⟨f, fd, F, hm, b⟩ := F.ex
  exact ⟨f, fd, ps, [], hm, F.ok S len fun cdv A outer s H vs Q E hr h => hb f cdv A outer s H vs Q E hr h, g, b, .nil⟩
end
end Fd
namespace Fd
open PySem L2
def top (i : Nat) : Stmt := PySem.Challenge.pw_flatdraw_k06_walks.main.body.getD i (.Pass ⟨0, 0, 0, 0⟩)
abbrev sWall : Stmt := top 0
abbrev sWebInit : Stmt := inClass (top 9) 0
abbrev sWebTies : Stmt := inClass (top 9) 1
abbrev sWebBeside : Stmt := inClass (top 9) 2
abbrev sWebTied : Stmt := inClass (top 9) 3
abbrev sWebPieces : Stmt := inClass (top 9) 4
abbrev sWebCheckPoint : Stmt := inClass (top 9) 5
abbrev sJoined : Stmt := top 10
abbrev sIsTie : Stmt := top 11
abbrev sIsPoint : Stmt := top 12
abbrev sIsNumber : Stmt := top 13
abbrev sAreTurns : Stmt := top 15
abbrev sWalks : Stmt := top 16
abbrev sCheckTurns : Stmt := top 17
abbrev sIsTurn : Stmt := top 18
abbrev sWalk : Stmt := top 19
abbrev sBehind : Stmt := top 20
abbrev sLawCellAt : Stmt := top 22
abbrev sLawWhole : Stmt := top 23
abbrev sLawMany : Stmt := top 24
abbrev sLawTies : Stmt := top 25
abbrev sLawOrderBy : Stmt := top 26
abbrev sLawTurnsBy : Stmt := top 27
abbrev sLawSteps : Stmt := top 28
abbrev sLawNext : Stmt := top 29
abbrev sLawRight : Stmt := top 30
abbrev sLawStays : Stmt := top 31
abbrev sLaw : Stmt := top 32
end Fd
namespace Fd
open PySem PySem.Spec PyProof.Rows L2
/-! ### what the top has left, as far as the webs ask -/
structure WTxt (K : PySem.W.Frag) (mg : Str → Option Value) (C : Addr) : Prop where
  cl : Cls K C
  nMany : NoAttr K C "many"
  nRows : NoAttr K C "_rows"
  gWeb : mg "Web" = some (.ref C)
  mostP : ∃ t, mg "MOST_POINTS" = some (.int 16 t)
  mostT : ∃ t, mg "MOST_TIES" = some (.int 40 t)
  len : mg "len" = none
  type : mg "type" = none
  int : mg "int" = none
  list : mg "list" = none
  tuple : mg "tuple" = none
  range : mg "range" = none
  sorted : mg "sorted" = none
  fNum : Fn K mg "is_number" sIsNumber ["thing"]
  fPoint : Fn K mg "is_point" sIsPoint ["many", "thing"]
  fTie : Fn K mg "_is_tie" sIsTie ["many", "thing"]
  fJoined : Fn K mg "_joined" sJoined ["many", "ties"]
  fInit : FnI K C "Web.__init__" sWebInit ["self", "many", "ties"]
/-! ### the small tests -/
def spNum (K : PySem.W.Frag) : Sp := fun vs H Q _ => ∃ (x : V) (T : String), vs = [x] ∧ TyB K H x T ∧ Q (.bl (decide (T = "int"))) H
def isPt (m : Int) : V → Bool
  | .int i => decide (0 ≤ i) && decide (i < m)
  | _ => false
def spPoint (K : PySem.W.Frag) : Sp := fun vs H Q _ => ∃ (m : Int) (x : V) (T : String), vs = [.int m, x] ∧ TyB K H x T ∧ Q (.bl (isPt m x)) H
theorem isPt_int {m : Int} {x : V} (h : isPt m x = true) : ∃ i, x = .int i := by
  cases x with
  | int i => exact ⟨i, rfl⟩
  | _ => cases h
def tieOk (m : Int) : List V → Bool
  | [y, z] => isPt m y && isPt m z && !decide (y = z)
  | _ => false
def spTie (K : PySem.W.Frag) : Sp := fun vs H Q _ => ∃ (m : Int) (x : V), vs = [.int m, x] ∧
  ((∃ T, TyB K H x T ∧ T ≠ "tuple" ∧ Q (.bl false) H) ∨ ∃ (a : Addr) (xs : List V), x = .ref a ∧ SqT K H a xs ∧ (∀ y ∈ xs, ∃ T, TyB K H y T) ∧ Q (.bl (tieOk m xs)) H)
section
variable {P : Program} {w : World} {K : PySem.W.Frag} {mg : Str → Option Value} {base : Heap} {C : Addr}
theorem scNum : FnScope ["thing"] ["thing"] (defScope sIsNumber) := ⟨rfl, rfl, rfl, by decide +kernel, rfl, by decide +kernel, by decide +kernel⟩
theorem c_num (T : WTxt K mg C) : C8.Cal P w K mg base 1 "is_number" (spNum K) [] := by
  refine cal_of T.fNum scNum (fun vs H Q E h => ?_) (fun f cdv A outer s H vs Q E hr h => ?_)
  · obtain ⟨x, t, rfl, _⟩ := h
    rfl
  · obtain ⟨x, t, rfl, ht, k⟩ := h
    refine ⟨_, pss_one (ps_ret (pe_cmpR op_eqTy (pe_callTy call_type1 (by rfl) T.type (by decide +kernel) (pa_cons (pv 0) pa_nil)) (pe_bltn (v := .ty "int") (by rfl) T.int (by decide +kernel) rfl) (nomark _))), ?_⟩
    exact ⟨_, rfl, x, t, rfl, ht, t, "int", rfl, rfl, TyB_kind ht, by decide, k⟩
theorem scPoint : FnScope ["many", "thing"] ["many", "thing"] (defScope sIsPoint) := ⟨rfl, rfl, rfl, by decide +kernel, rfl, by decide +kernel, by decide +kernel⟩
theorem c_point (T : WTxt K mg C) : C8.Cal P w K mg base 2 "is_point" (spPoint K) [] := by
  refine cal_of T.fPoint scPoint (fun vs H Q E h => ?_) (fun f cdv A outer s H vs Q E hr h => ?_)
  · obtain ⟨m, x, t, rfl, _⟩ := h
    rfl
  · obtain ⟨m, x, t, rfl, ht, k⟩ := h
    refine ⟨_, pss_one (ps_ret (pe_and (C8.pe_c (c_num T) hr (by decide) (by rfl) (pa_cons (pv 1) pa_nil)) (pe_one (pe_chain op_le op_lt pe_int (pv 1) (pv 0))))), ?_⟩
    refine ⟨_, rfl, x, t, rfl, ht, _, rfl, ?_⟩
    cases ht with
    | int i =>
      refine iteT ?_
      refine ⟨_, rfl, 0, i, rfl, rfl, _, rfl, ?_⟩
      refine ite2 (fun c => ?_) (fun c => ?_)
      · refine ⟨_, rfl, i, m, rfl, rfl, ?_⟩
        have e : isPt m (.int i) = decide (i < m) := by
          show (decide (0 ≤ i) && decide (i < m)) = _
          rw [c, Bool.true_and]
        rw [e] at k
        exact k
      · have e : isPt m (.int i) = false := by
          show (decide (0 ≤ i) && decide (i < m)) = _
          rw [Bool.eq_false_iff.mpr c, Bool.false_and]
        rw [e] at k
        exact k
    | non => exact k
    | bl b => exact k
    | str x => exact k
    | byt b => exact k
    | lst h => exact k
    | tup h => exact k
    | dK h => exact k
theorem scTie : FnScope ["many", "thing", "one", "other"] ["many", "thing"] (defScope sIsTie) := ⟨rfl, rfl, rfl, by decide +kernel, rfl, by decide +kernel, by decide +kernel⟩
theorem c_tie (T : WTxt K mg C) : C8.Cal P w K mg base 3 "_is_tie" (spTie K) [] := by
  refine cal_of T.fTie scTie (fun vs H Q E h => ?_) (fun f cdv A outer s H vs Q E hr h => ?_)
  · obtain ⟨m, x, rfl, _⟩ := h
    rfl
  · obtain ⟨m, x, rfl, h⟩ := h
    refine ⟨_, pss_cons (ps_if (PW.pt (pw_or (pt_cmpR op_neTy (pe_callTy call_type1 (by rfl) T.type (by decide +kernel) (pa_cons (pv 1) pa_nil)) (pe_bltn (v := .ty "tuple") (by rfl) T.tuple (by decide +kernel) rfl) (nomark _))
        (pw_or1 (pt_cmpR op_ne (pe_callB call_len_seq (by rfl) T.len PySem.boot_len (pa_cons (pv 1) pa_nil)) pe_int (nomark _))))) (pss_one (ps_ret pe_bl)) pss_nil)
      (pss_cons (ps_asg (pv 1) (pg_tup (by rfl) (pgs_cons (pg_name (i := 2) scTie.nd rfl (.inl rfl)) (pgs_cons (pg_name (i := 3) scTie.nd rfl (.inl rfl)) pgs_nil))))
      (pss_one (ps_ret (pe_and (C8.pe_c (c_point T) hr (by decide) (by rfl) (pa_cons (pv 0) (pa_cons (pv 2) pa_nil)))
        (pe_and (C8.pe_c (c_point T) hr (by decide) (by rfl) (pa_cons (pv 0) (pa_cons (pv 3) pa_nil))) (pe_one (pe_cmpR op_ne (pv 2) (pv 3) (nomark _)))))))), ?_⟩
    rcases h with ⟨t, ht, hne, k⟩ | ⟨a, xs, rfl, hT, hy, k⟩
    · refine ⟨_, rfl, x, t, rfl, ht, t, "tuple", rfl, rfl, TyB_kind ht, by decide, _, rfl, ?_⟩
      rw [decide_eq_false hne]
      exact iteT (iteT k)
    · refine ⟨_, rfl, .ref a, "tuple", rfl, .tup hT, "tuple", "tuple", rfl, rfl, by decide, by decide, _, rfl, ?_⟩
      refine iteF ?_
      refine ⟨_, rfl, a, xs, rfl, .inr hT, rfl, _, rfl, ?_⟩
      match xs, hT, hy, k with
      | [], _, _, k => exact iteT k
      | [_], _, _, k => exact iteT k
      | _ :: _ :: _ :: l, _, _, k =>
        refine ite2 (fun _ => k) (fun c => ?_)
        refine absurd ?_ c
        rw [Bool.not_eq_true', decide_eq_false_iff_not]
        intro z
        have z : (((l.length + 1 + 1 + 1 : Nat)) : Int) = 2 := V.int.inj z
        omega
      | [y, z], hT, hy, k =>
        obtain ⟨t1, h1⟩ := hy y (by simp)
        obtain ⟨t2, h2⟩ := hy z (by simp)
        refine iteF ?_
        refine ⟨_, rfl, a, [y, z], rfl, hT, rfl, y, [z], rfl, z, [], rfl, rfl, ?_⟩
        refine ⟨_, rfl, _, rfl, m, y, t1, rfl, h1, _, rfl, ?_⟩
        refine ite2 (fun c1 => ?_) (fun c1 => ?_)
        · refine ⟨_, rfl, _, rfl, m, z, t2, rfl, h2, _, rfl, ?_⟩
          refine ite2 (fun c2 => ?_) (fun c2 => ?_)
          · obtain ⟨i, rfl⟩ := isPt_int c1
            obtain ⟨j, rfl⟩ := isPt_int c2
            refine ⟨_, rfl, _, rfl, rfl, ?_⟩
            have e : tieOk m [.int i, .int j] = !decide (V.int i = V.int j) := by
              show (isPt m (.int i) && isPt m (.int j) && !decide (V.int i = V.int j)) = _
              rw [c1, c2, Bool.and_self, Bool.true_and]
            rw [e] at k
            exact k
          · have e : tieOk m [y, z] = false := by
              show (isPt m y && isPt m z && !decide (y = z)) = _
              rw [c1, Bool.eq_false_iff.mpr c2, Bool.and_false, Bool.false_and]
            rw [e] at k
            exact k
        · have e : tieOk m [y, z] = false := by
            show (isPt m y && isPt m z && !decide (y = z)) = _
            rw [Bool.eq_false_iff.mpr c1, Bool.false_and, Bool.false_and]
          rw [e] at k
          exact k
end
end Fd
namespace Fd
open PySem PySem.Spec PyProof.Rows L2
theorem no_ {b : Bool} {A B : Prop} (e : b = false) (h : B) : if b = true then A else B := by
  rw [e]
  exact iteF h
theorem yep_ {b : Bool} {A B : Prop} (e : b = true) (h : A) : if b = true then A else B := by
  rw [e]
  exact iteT h
theorem yes_ {σ : L2.St} {H : Hp} {Q : Bool → Hp → Prop} (h : Q true H) : tYes σ H Q := h
theorem RowsAt.start {H : Hp} {D : Addr} (h : H D = none) : RowsAt H (upd H D (.lst [])) D [] [] :=
  ⟨upd_same, h, rfl, List.nodup_nil, by simp, fun i a r e _ => by simp at e⟩
/-! ### the rows as they grow -/
def nbRows (m : Nat) (ts : List Tie) : List (List Int) := (pts m).map (nb ts)
theorem nbRows_at {m : Nat} {ts : List Tie} {i : Nat} (h : i < m) : (nbRows m ts)[i]? = some (nb ts i) := by
  unfold nbRows
  rw [List.getElem?_map, pts_at h]
  rfl
theorem nbRows_len (m : Nat) (ts : List Tie) : (nbRows m ts).length = m := by simp [nbRows, pts_len]
theorem nbRows_nil (m : Nat) : nbRows m [] = List.replicate m [] := by
  unfold nbRows
  rw [show (nb [] : Int → List Int) = fun _ => [] from rfl, List.map_const', pts_len]
theorem nbRows_step {m : Nat} {ts : List Tie} {p q : Nat} (hp : p < m) (hq : q < m) (hne : p ≠ q) :
    ((nbRows m ts).set p (nb ts p ++ [(q : Int)])).set q (nb ts q ++ [(p : Int)]) = nbRows m (ts ++ [((p : Int), (q : Int))]) := by
  refine List.ext_getElem? fun j => ?_
  by_cases hj : j < m
  · rw [nbRows_at hj, nb_snoc]
    by_cases h2 : q = j
    · subst h2
      rw [List.getElem?_set_self (by rw [List.length_set, nbRows_len]; exact hj)]
      have e : here ((p : Int), (q : Int)) (q : Int) = [(p : Int)] := by
        unfold here
        rw [if_neg (by show ¬ (p : Int) = (q : Int); omega), if_pos rfl]
        rfl
      rw [e]
    · rw [List.getElem?_set_ne h2]
      by_cases h1 : p = j
      · subst h1
        rw [List.getElem?_set_self (by rw [nbRows_len]; exact hj)]
        have e : here ((p : Int), (q : Int)) (p : Int) = [(q : Int)] := by
          unfold here
          rw [if_pos rfl, if_neg (by show ¬ (q : Int) = (p : Int); omega)]
          rfl
        rw [e]
      · rw [List.getElem?_set_ne h1, nbRows_at hj]
        have e : here ((p : Int), (q : Int)) (j : Int) = [] := by
          unfold here
          rw [if_neg (by show ¬ (p : Int) = (j : Int); omega), if_neg (by show ¬ (q : Int) = (j : Int); omega)]
          rfl
        rw [e, List.append_nil]
  · rw [List.getElem?_eq_none (by rw [List.length_set, List.length_set, nbRows_len]; omega), List.getElem?_eq_none (by rw [nbRows_len]; omega)]
theorem here_len (t : Tie) (p : Int) : (here t p).length ≤ 2 := by
  unfold here
  rw [List.length_append]
  split <;> split <;> simp
theorem nb_len : ∀ (ts : List Tie) (p : Int), (nb ts p).length ≤ 2 * ts.length
  | [], _ => by simp [nb]
  | t :: ts, p => by
    have e : nb (t :: ts) p = here t p ++ nb ts p := by simp [nb]
    have h1 := here_len t p
    have h2 := nb_len ts p
    rw [e, List.length_append, List.length_cons]
    omega
end Fd
namespace Fd
open PySem PySem.Spec PyProof.Rows L2
def spJoined (K : PySem.W.Frag) : Sp := fun vs H Q _ => ∃ (m : Nat) (a : Addr) (ws : List V) (ts : List Tie), vs = [.int m, .ref a] ∧ SqL K H a ws ∧ PairsAt H ws ts ∧ Good m ts ∧ m ≤ 16 ∧ ts.length ≤ 40 ∧
  ∀ (H' : Hp) (R : Addr) (as : List Addr), Same H H' → RowsAt H H' R as (rowsOf m ts) → Q (.ref R) H'
section
variable {P : Program} {w : World} {K : PySem.W.Frag} {mg : Str → Option Value} {base : Heap} {C : Addr}
theorem scJoined : FnScope ["many", "ties", "rows", "tie", "one", "other", "_", "row"] ["many", "ties"] (defScope sJoined) := ⟨rfl, rfl, rfl, by decide +kernel, rfl, by decide +kernel, by decide +kernel⟩
theorem c_joined (T : WTxt K mg C) : C8.Cal P w K mg base 4 "_joined" (spJoined K) [] := by
  refine cal_of T.fJoined scJoined (fun vs H Q E h => ?_) (fun f cdv A outer s H vs Q E hr h => ?_)
  · obtain ⟨m, a, ws, ts, rfl, _⟩ := h
    rfl
  · obtain ⟨m, a, ws, ts, rfl, hS, hP, g, hm, ht, k⟩ := h
    refine ⟨_, pss_cons (ps_setLc (i := 2) (own := [("_", 6)]) (g := gName 6) (tt := tYes) (by rfl) scJoined.nd rfl rfl (sw_true rfl rfl rfl (by decide +kernel)) (pi_range1 (by rfl) T.range (pa_cons (pv 0) pa_nil))
        (blkOk_by (own := [("_", 6)]) (N := ["many", "ties", "rows", "tie", "one", "other", "_", "row"]) (sc := defScope sJoined) (by decide +kernel)) (fun _ _ _ _ _ => pg_name (i := 6) scJoined.nd rfl (Or.inl rfl)) (fun _ _ _ _ _ => pts_nil) (fun _ _ _ _ _ => pe_lst pa_nil))
      (pss_cons (ps_for PassesOwn.never rfl (pi_list (pv 1)) (pg_name (i := 3) scJoined.nd rfl (Or.inl rfl))
        (pss_cons (ps_if (pt_not (pt_val (C8.pe_c (c_tie T) hr (by decide) (by rfl) (pa_cons (pv 0) (pa_cons (pv 3) pa_nil))))) (pss_one ps_never) pss_nil)
        (pss_cons (ps_asg (pv 3) (pg_tup (by rfl) (pgs_cons (pg_name (i := 4) scJoined.nd rfl (.inl rfl)) (pgs_cons (pg_name (i := 5) scJoined.nd rfl (.inl rfl)) pgs_nil))))
        (pss_cons (ps_if (pt_cmpR op_in_seq (pv 5) (pe_ix ix_list (pv 2) (pv 4) (fun _ _ => rfl)) (by rfl)) (pss_one ps_never) pss_nil)
        (pss_cons (ps_expr (pe_bm PySem.F.plainAttrs_list PySem.F.slot_list_append PySem.F.type_list_append mt_append (pe_ix ix_list (pv 2) (pv 4) (fun _ _ => rfl)) (pa_cons (pv 5) pa_nil)))
        (pss_one (ps_expr (pe_bm PySem.F.plainAttrs_list PySem.F.slot_list_append PySem.F.type_list_append mt_append (pe_ix ix_list (pv 2) (pv 5) (fun _ _ => rfl)) (pa_cons (pv 4) pa_nil)))))))))
      (pss_one (ps_ret (pe_lc (own := [("row", 7)]) (g := gName 7) (tt := tYes) (by rfl) scJoined.nd (pi_list (pv 2))
        (blkOk_by (own := [("row", 7)]) (N := ["many", "ties", "rows", "tie", "one", "other", "_", "row"]) (sc := defScope sJoined) (by decide +kernel)) (fun _ _ _ _ _ => pg_name (i := 7) scJoined.nd rfl (Or.inl rfl)) (fun _ _ _ _ _ => pts_nil)
        (fun _ _ _ _ _ => pe_callB (id := "sorted") (r := rSortedI K) cr_sortedI (by rfl) T.sorted (by decide +kernel) (pa_cons (pv 7) pa_nil)))))), ?_⟩
    -- rows = [[] for _ in range(many)]
    refine ⟨_, rfl, (m : Int), rfl, by omega, by omega, fun R hR => ?_⟩
    refine lc_range (lo := 0) (n := (m : Int).toNat) (fun i H1 => Same H H1 ∧ ∃ bs, RowsAt H H1 R bs (List.replicate i [])) ⟨Same.put hR, [], RowsAt.start hR⟩ (fun i H1 hi ⟨s1, bs, r1⟩ => ?_) (fun H1 ⟨s1, as, r1⟩ => ?_)
    · refine ⟨rfl, ?_⟩
      refine yes_ ?_
      refine iteT ?_
      refine ⟨Nat.zero_le _, fun p hp => ?_⟩
      have pR : R ≠ p := ne_of_none r1.top hp
      refine ⟨bs.map V.ref, by rw [upd_ne pR]; exact r1.top, ?_, ?_⟩
      · rw [List.length_map, r1.len, List.length_replicate]
        exact small (by omega)
      · refine ⟨Same.write (Same.step s1 hp) hR, bs ++ [p], ?_⟩
        have q := r1.more (r := []) s1 hp
        rw [List.replicate_succ']
        exact q
    · rw [Int.toNat_natCast] at r1
      -- for tie in ties
      refine ⟨_, rfl, a, rfl, ⟨_, s1.seq hS⟩, for_list (K := K) (a := a) (xs := ws) (fun i σ H2 => ∃ v1 v2 v3 : Option V, σ = [some (.int m), some (.ref a), some (.ref R), v1, v2, v3, none, none] ∧ Same H H2 ∧ RowsAt H H2 R as (nbRows m (ts.take i)))
        ⟨none, none, none, rfl, s1, by rw [List.take_zero, nbRows_nil]; exact r1⟩ (fun i σ H2 _ ⟨_, _, _, _, s2, _⟩ => s2.seq hS) ?_ ?_⟩
      · rintro i x σ H2 hi ⟨v1, v2, v3, rfl, s2, r2⟩
        obtain ⟨t, hti, hpair⟩ := paired_get hP hi
        obtain ⟨c, rfl, hc⟩ := PairAt.same s2 hpair
        have rg := g.rng t (List.mem_of_getElem? hti)
        have ap := g.apart hti
        obtain ⟨t1, t2⟩ := t
        obtain ⟨h1, h2, h3, h4, h5⟩ := rg
        obtain ⟨p, rfl⟩ : ∃ p : Nat, t1 = p := ⟨t1.toNat, by have : 0 ≤ t1 := h1; omega⟩
        obtain ⟨q, rfl⟩ : ∃ q : Nat, t2 = q := ⟨t2.toNat, by have : 0 ≤ t2 := h3; omega⟩
        have hp : p < m := by have : ((p : Int) < m) := h2; omega
        have hq : q < m := by have : ((q : Int) < m) := h4; omega
        have hpq : p ≠ q := fun z => h5 (by rw [z])
        have hil : i < ts.length := (List.getElem?_eq_some_iff.mp hti).1
        obtain ⟨b, eb, ebr, _, hb⟩ := r2.get (nbRows_at (ts := ts.take i) hp)
        have ok : tieOk m [.int p, .int q] = true := by
          show (isPt m (.int p) && isPt m (.int q) && !decide (V.int p = V.int q)) = true
          have e1 : isPt m (.int p) = true := by
            show (decide ((0 : Int) ≤ p) && decide ((p : Int) < m)) = true
            rw [decide_eq_true (by omega), decide_eq_true (by omega), Bool.and_self]
          have e2 : isPt m (.int q) = true := by
            show (decide ((0 : Int) ≤ q) && decide ((q : Int) < m)) = true
            rw [decide_eq_true (by omega), decide_eq_true (by omega), Bool.and_self]
          rw [e1, e2, decide_eq_false (fun z => h5 (V.int.inj z)), Bool.and_self, Bool.true_and, Bool.not_false]
        -- if not _is_tie(many, tie)
        refine ⟨_, rfl, _, rfl, m, .ref c, rfl, .inr ⟨c, [.int p, .int q], rfl, SqT.of hc, fun y hy => ?_, _, rfl, no_ (by rw [ok]; rfl) ?_⟩⟩
        · simp only [List.mem_cons, List.not_mem_nil, or_false] at hy
          rcases hy with rfl | rfl <;> exact ⟨_, .int _⟩
        -- one, other = tie
        refine ⟨_, rfl, c, [.int p, .int q], rfl, SqT.of hc, rfl, .int p, [.int q], rfl, .int q, [], rfl, rfl, ?_⟩
        -- if other in rows[one]
        have hno : inV (.int q) (iL (nb (ts.take i) p)) = false := by
          rw [inV_ints]
          refine decide_eq_false fun z => ?_
          rcases mem_nb.mp z with z | z
          · exact ap.1 z
          · exact ap.2 z
        refine ⟨_, rfl, _, rfl, _, rfl, R, as.map V.ref, p, .ref b, rfl, rfl, SqL.of r2.top, atI_nat ebr, b, iL (nb (ts.take i) p), rfl, .inl (SqL.of hb), rfl, flat_ints _, _, rfl, no_ hno ?_⟩
        -- rows[one].append(other)
        have l1 := nb_len (ts.take i) p
        have l2 := nb_len (ts.take i) q
        rw [List.length_take] at l1 l2
        refine ⟨_, rfl, _, rfl, R, as.map V.ref, p, .ref b, rfl, rfl, SqL.of r2.top, atI_nat ebr, .inl ⟨rfl, _, SqL.of hb⟩, _, rfl, b, _, _, rfl, rfl, hb, by rw [List.length_map]; exact small (by omega), ?_⟩
        have r3 := r2.write (r := nb (ts.take i) p ++ [(q : Int)]) eb
        have e3 : iL (nb (ts.take i) p ++ [(q : Int)]) = iL (nb (ts.take i) p) ++ [V.int q] := by
          unfold iL
          rw [List.map_append]
          rfl
        rw [e3] at r3
        obtain ⟨d, ed, edr, _, hd⟩ := r3.get (i := q) (r := nb (ts.take i) q) (by rw [List.getElem?_set_ne hpq]; exact nbRows_at hq)
        -- rows[other].append(one)
        refine ⟨_, rfl, _, rfl, R, as.map V.ref, q, .ref d, rfl, rfl, SqL.of r3.top, atI_nat edr, .inl ⟨rfl, _, SqL.of hd⟩, _, rfl, d, _, _, rfl, rfl, hd, by rw [List.length_map]; exact small (by omega), ?_⟩
        have r4 := r3.write (r := nb (ts.take i) q ++ [(p : Int)]) ed
        have e4 : iL (nb (ts.take i) q ++ [(p : Int)]) = iL (nb (ts.take i) q) ++ [V.int p] := by
          unfold iL
          rw [List.map_append]
          rfl
        rw [e4, nbRows_step hp hq hpq, ← take_next hti] at r4
        exact ⟨_, _, _, rfl, r3.sameW (r2.sameW s2 eb) ed, r4⟩
      · rintro σ H2 ⟨v1, v2, v3, rfl, s2, r2⟩
        have el : ts.take ws.length = ts := by
          rw [hP.length]
          exact List.take_length
        rw [el] at r2
        refine ⟨_, rfl, R, rfl, ⟨_, SqL.of r2.top⟩, fun D hD => ?_⟩
        refine lc_list (K := K) (a := R) (xs := as.map V.ref) (fun i H3 => Same H2 H3 ∧ ∃ bs, RowsAt H2 H3 D bs ((rowsOf m ts).take i)) ⟨Same.put hD, [], RowsAt.start hD⟩ (fun i H3 _ ⟨s3, _⟩ => s3.seq (SqL.of r2.top)) (fun i x H3 hi ⟨s3, bs, r3⟩ => ?_) (fun H3 ⟨s3, bs, r3⟩ => ?_)
        · have him : i < m := by
            have q := (List.getElem?_eq_some_iff.mp hi).1
            rw [List.length_map, r2.len, nbRows_len] at q
            exact q
          obtain ⟨b, eb, ebr, _, hb⟩ := r2.get (nbRows_at (ts := ts) him)
          obtain rfl : x = .ref b := Option.some.inj (hi.symm.trans ebr)
          refine ⟨rfl, ?_⟩
          refine yes_ ?_
          refine iteT ?_
          refine ⟨_, rfl, b, nb ts i, rfl, SqL.of (s3 _ _ hb), fun ns' p hp hs hnew => ?_⟩
          have e := row_sorted g hp hs
          subst e
          have pD : D ≠ p := ne_of_none r3.top hnew
          refine ⟨bs.map V.ref, by rw [upd_ne pD]; exact r3.top, ?_, Same.write (Same.step s3 hnew) hD, bs ++ [p], ?_⟩
          · rw [List.length_map, r3.len, List.length_take, rowsOf_len]
            exact small (by omega)
          · have q := r3.more (r := rowOf m ts i) s3 hnew
            rw [take_next (rowsOf_at him)]
            exact q
        · have e5 : (rowsOf m ts).take (as.map V.ref).length = rowsOf m ts := by
            rw [List.length_map, r2.len, nbRows_len]
            exact List.take_of_length_le (by rw [rowsOf_len]; exact Nat.le_refl _)
          rw [e5] at r3
          exact k _ D bs (s2.trans s3) (r3.older s2)
end
end Fd
namespace Fd
theorem least {P : Nat → Prop} (h : ∃ k, P k) : ∃ k, P k ∧ ∀ j, j < k → ¬ P j := by
  obtain ⟨k, hk⟩ := h
  induction k using Nat.strongRecOn with
  | ind k ih =>
    by_cases c : ∃ j, j < k ∧ P j
    · obtain ⟨j, h1, h2⟩ := c
      exact ih j h1 h2
    · exact ⟨k, hk, fun j h1 h2 => c ⟨j, h1, h2⟩⟩
end Fd
namespace Fd
open PySem PySem.Spec PyProof.Rows L2
/-! ### masks whose every slot is met -/
def orbN (m : Nat) : Nat → Nat → List Nat
  | 0, _ => []
  | k + 1, x => x :: orbN m k ((x * 5 + 1) % (m + 1))
theorem orbN_at (m : Nat) : ∀ (n b : Nat) {y : Nat}, y ∈ orbN m n (lcgN m b) → ∃ k, k < n ∧ lcgN m (b + k) = y
  | 0, b, y, h => by cases h
  | n + 1, b, y, h => by
    rcases List.mem_cons.mp h with rfl | h
    · exact ⟨0, Nat.succ_pos n, rfl⟩
    · obtain ⟨k, hk, e⟩ := orbN_at m n (b + 1) h
      exact ⟨k + 1, Nat.succ_lt_succ hk, by rw [← e]; congr 1; omega⟩
theorem big_orb : ((List.range 512).all fun j => (orbN 511 512 0).any fun y => y == j) = true := by decide +kernel
theorem big_round : lcgN 511 512 = 0 := by decide +kernel
theorem big_all {j : Nat} (h : j ≤ 511) : ∃ b, b ≤ 511 ∧ lcgN 511 b = j := by
  have q := List.all_eq_true.mp big_orb j (List.mem_range.mpr (by omega))
  obtain ⟨y, hy, e⟩ := List.any_eq_true.mp q
  obtain ⟨k, hk, e2⟩ := orbN_at 511 512 0 (y := y) hy
  rw [Nat.zero_add] at e2
  exact ⟨k, by omega, e2.trans (beq_iff_eq.mp e)⟩
theorem big_wrap : ∀ k, lcgN 511 (512 + k) = lcgN 511 k
  | 0 => big_round
  | k + 1 => congrArg (fun z => (z * 5 + 1) % 512) (big_wrap k)
theorem big_meet {i j : Nat} (hi : i ≤ 511) (hj : j ≤ 511) : ∃ k, k ≤ 511 ∧ lcgI 511 i k = j := by
  obtain ⟨x, hx, rfl⟩ := big_all hi
  obtain ⟨y, hy, rfl⟩ := big_all hj
  by_cases c : x ≤ y
  · exact ⟨y - x, by omega, by rw [lcgN_add]; congr 1; omega⟩
  · refine ⟨512 + y - x, by omega, ?_⟩
    rw [lcgN_add, ← big_wrap y]
    congr 1
    omega
structure Msk (m : Nat) : Prop where
  odd : m % 2 = 1
  top : m ≤ 511
  run : ∀ (h : Int) (j : Nat), j ≤ m → ∃ n, n ≤ m + 12 ∧ runI m (SetTable.bits h) n = j
theorem msk_old {m : Nat} (h : MaskOk m) : Msk m := by
  refine ⟨mask_odd h, ?_, fun x j hj => run_meets h x hj⟩
  rcases h with e | e | e
  · omega
  · omega
  · omega
theorem msk_big : Msk 511 := by
  refine ⟨rfl, Nat.le_refl _, fun h j hj => ?_⟩
  obtain ⟨k, hk, e⟩ := big_meet (runI_le 511 (SetTable.bits h) 12) hj
  exact ⟨12 + k, by omega, (runI_tail (bits_lt h) k).trans e⟩
theorem Msk.meets {m : Nat} (M : Msk m) (h : Int) {j : Nat} (hj : j ≤ m) : ∃ k, k < 10 * SetTable.turns m ∧ way m h k = j := by
  obtain ⟨n, hn, e⟩ := M.run h j hj
  obtain ⟨k, hk, q⟩ := run_nth m (SetTable.bits h) n
  refine ⟨k, ?_, ?_⟩
  · unfold SetTable.turns
    omega
  · show (nth m (runAt m (SetTable.bits h % (m + 1)) (SetTable.bits h)) k).j = j
    rw [q]
    exact e
theorem way_in (m : Nat) (h : Int) (k : Nat) : way m h k ≤ m := by
  have i0 : SetTable.bits h % (m + 1) ≤ m := Nat.le_of_lt_succ (Nat.mod_lt _ (Nat.succ_pos m))
  have r := (runEnd_bd i0).1
  have q : (nth m (runAt m (SetTable.bits h % (m + 1)) (SetTable.bits h)) k).j + (nth m (runAt m (SetTable.bits h % (m + 1)) (SetTable.bits h)) k).more ≤ m := nth_in k _ (by
    show SetTable.bits h % (m + 1) + (SetTable.runEnd m (SetTable.bits h % (m + 1)) - SetTable.bits h % (m + 1)) ≤ m
    have := runEnd_ge m (SetTable.bits h % (m + 1))
    omega)
  exact Nat.le_trans (Nat.le_add_right _ _) q
/-! ### a table by its hashes -/
structure TabW (t : SetTable) (hs : List Int) : Prop where
  up : Ris t.place.toList
  nod : t.dummies = #[]
  siz : t.place.size = hs.length
  msk : Msk t.mask
  ins : ∀ x ∈ t.place.toList, x ≤ t.mask
  met : ∀ (i : Nat) (g : Int) (y : Nat), hs[i]? = some g → t.place.toList[i]? = some y → ∃ k, way t.mask g k = y ∧ ∀ q, q < k → way t.mask g q ∈ t.place.toList
theorem TabW.len {t : SetTable} {hs : List Int} (B : TabW t hs) : t.place.toList.length = hs.length := by
  rw [Array.length_toList]
  exact B.siz
theorem TabW.hole {t : SetTable} {hs : List Int} (B : TabW t hs) (few : hs.length ≤ t.mask) (g : Int) : ∃ n, n < 10 * SetTable.turns t.mask ∧ way t.mask g n ∉ t.place.toList ∧ ∀ q, q < n → way t.mask g q ∈ t.place.toList := by
  obtain ⟨y, hy, out⟩ := st_missing t.place.toList (t.mask + 1) (by rw [B.len]; omega)
  obtain ⟨k, hk, e⟩ := B.msk.meets g (Nat.le_of_lt_succ hy)
  obtain ⟨n, ⟨a, b⟩, c⟩ := least (P := fun n => n < 10 * SetTable.turns t.mask ∧ way t.mask g n ∉ t.place.toList) ⟨k, hk, fun z => out (by rw [← e]; exact z)⟩
  exact ⟨n, a, b, fun q hq => Classical.byContradiction fun z => c q hq ⟨by omega, z⟩⟩
theorem TabW.ahead {t : SetTable} {hs : List Int} (B : TabW t hs) {g : Int} {n i y : Nat} (out : way t.mask g n ∉ t.place.toList) (e1 : hs[i]? = some g) (e2 : t.place.toList[i]? = some y) : ∃ k, k < n ∧ way t.mask g k = y := by
  obtain ⟨k, e, full⟩ := B.met i g y e1 e2
  have ne : k ≠ n := fun z => out (by rw [← z, e]; exact List.mem_of_getElem? e2)
  have nl : ¬ n < k := fun z => out (full n z)
  exact ⟨k, by omega, e⟩
theorem TabW.add {t : SetTable} {hs : List Int} (B : TabW t hs) {g : Int} {n y p : Nat} (ey : way t.mask g n = y) (ep : SetTable.below t.place y = p) (out : y ∉ t.place.toList) (full : ∀ q, q < n → way t.mask g q ∈ t.place.toList) :
    (t.put y).2 = p ∧ p ≤ hs.length ∧ TabW (t.put y).1 (hs.take p ++ g :: hs.drop p) ∧ (t.put y).1.mask = t.mask ∧ (t.put y).1.led = t.led ∧ (t.put y).1.plain = t.plain ∧ (t.put y).1.fill = hs.length + 1 := by
  have cut := (below_cut B.up y).1
  rw [ep] at cut
  have p1 : p ≤ t.place.toList.length := by rw [Array.length_toList]; exact cut
  have p2 : p ≤ hs.length := by rw [← B.len]; exact p1
  have new : t.place[SetTable.below t.place y]? ≠ some y := fun e => out (List.mem_of_getElem? (by rw [Array.getElem?_toList]; exact e))
  have pl : (t.put y).1.place.toList = t.place.toList.take p ++ y :: t.place.toList.drop p := by rw [← ep]; exact put_place t y
  have sz : (t.put y).1.place.size = hs.length + 1 := by rw [← Array.length_toList, pl, len_ins _ p1, B.len]
  have more : ∀ z, z ∈ t.place.toList → z ∈ (t.put y).1.place.toList := fun z hz => by rw [pl]; exact mem_ins.2 (.inr hz)
  refine ⟨ep, p2, ⟨ris_insert B.up new, put_dm B.nod y, by rw [sz, len_ins _ p2], B.msk, fun z hz => ?_, fun i h' z e1 e2 => ?_⟩, rfl, rfl, rfl, ?_⟩
  · rw [pl] at hz
    rcases mem_ins.1 hz with rfl | hz
    · rw [← ey]
      exact way_in _ _ _
    · exact B.ins z hz
  · rw [tins_get hs p2] at e1
    rw [pl, tins_get _ p1] at e2
    have old : ∀ i', hs[i']? = some h' → t.place.toList[i']? = some z → ∃ k, way t.mask h' k = z ∧ ∀ q, q < k → way t.mask h' q ∈ (t.put y).1.place.toList := fun i' a b => by
      obtain ⟨k, c, d⟩ := B.met i' h' z a b
      exact ⟨k, c, fun q hq => more _ (d q hq)⟩
    by_cases c1 : i < p
    · rw [if_pos c1] at e1 e2
      exact old i e1 e2
    · rw [if_neg c1] at e1 e2
      by_cases c2 : i = p
      · rw [if_pos c2] at e1 e2
        cases e1
        cases e2
        exact ⟨n, ey, fun q hq => more _ (full q hq)⟩
      · rw [if_neg c2] at e1 e2
        exact old (i - 1) e1 e2
  · show (t.put y).1.place.size + (t.put y).1.dummies.size = hs.length + 1
    rw [sz, put_dm B.nod y]
    rfl
/-! ### laid anew -/
theorem spot {m : Nat} (M : Msk m) (ow : Array (Option Nat)) (g : Int) {y : Nat} (hy : y ≤ m) (free : oAt ow y = none) :
    ∃ n, SetTable.layClean.free m ow (SetTable.turns m) (SetTable.bits g % (m + 1)) (SetTable.bits g) = some (way m g n) ∧ oAt ow (way m g n) = none ∧ ∀ q, q < n → oAt ow (way m g q) ≠ none := by
  obtain ⟨r, hr, e⟩ := M.run g y hy
  have land : way m g (off m (SetTable.bits g % (m + 1)) (SetTable.bits g) r) = y := by
    have z := congrArg SetTable.Probe.j (nth_off m r (SetTable.bits g % (m + 1)) (SetTable.bits g))
    rw [itL_run] at z
    exact z.trans e
  obtain ⟨n, ⟨a, b⟩, c⟩ := least (P := fun n => n ≤ off m (SetTable.bits g % (m + 1)) (SetTable.bits g) r ∧ oAt ow (way m g n) = none) ⟨_, Nat.le_refl _, by rw [land]; exact free⟩
  have busy : ∀ q, q < n → oAt ow (way m g q) ≠ none := fun q hq z => c q hq ⟨by omega, z⟩
  refine ⟨n, ?_, b, busy⟩
  refine free_spec m ow (SetTable.turns m) r (SetTable.bits g % (m + 1)) (SetTable.bits g) n ?_ a (fun q hq => ?_) ?_
  · unfold SetTable.turns
    omega
  · have z := busy q hq
    show (oAt ow (way m g q)).isNone = false
    cases w : oAt ow (way m g q) with
    | none => exact absurd w z
    | some _ => rfl
  · show (oAt ow (way m g n)).isNone = true
    rw [b]
    rfl
theorem own_next {m : Nat} (M : Msk m) {past : List Int} {ow : Array (Option Nat)} (W : Own m past ow) (few : past.length ≤ m) (g : Int) :
    ∃ y, SetTable.layClean.free m ow (SetTable.turns m) (SetTable.bits g % (m + 1)) (SetTable.bits g) = some y ∧ Own m (past ++ [g]) (ow.setIfInBounds y (some past.length)) := by
  obtain ⟨ps, pl, pin⟩ := W.ps
  obtain ⟨y0, hy0, out⟩ := st_missing ps (m + 1) (by omega)
  have free : oAt ow y0 = none := Classical.byContradiction fun z => out (pin y0 (Nat.le_of_lt_succ hy0) z)
  obtain ⟨n, e, fr, busy⟩ := spot M ow g (Nat.le_of_lt_succ hy0) free
  have ym : way m g n ≤ m := way_in m g n
  have ys : way m g n < ow.size := by rw [W.sz]; omega
  have here := oAt_set_self (owner := ow) (some past.length) ys
  have stays : ∀ i, oAt ow i ≠ none → oAt (ow.setIfInBounds (way m g n) (some past.length)) i ≠ none := fun i hi => by
    by_cases c : i = way m g n
    · subst c
      rw [here]
      exact Option.some_ne_none _
    · rw [oAt_set_ne _ c]
      exact hi
  refine ⟨_, e, ⟨(Array.size_setIfInBounds ..).trans W.sz, fun j k hj q => ?_, fun k hk => ?_, way m g n :: ps, ?_, fun j hj q => ?_⟩⟩
  · by_cases c : j = way m g n
    · subst c
      rw [here] at q
      cases q
      refine ⟨g, n, ?_, rfl, fun r hr => stays _ (busy r hr)⟩
      rw [List.getElem?_append_right (Nat.le_refl _), Nat.sub_self]
      rfl
    · rw [oAt_set_ne _ c] at q
      obtain ⟨h', n', a1, a2, a3⟩ := W.at_ j k hj q
      exact ⟨h', n', by rw [List.getElem?_append_left (List.getElem?_eq_some_iff.mp a1).1]; exact a1, a2, fun r hr => stays _ (a3 r hr)⟩
  · rw [List.length_append] at hk
    by_cases c : k < past.length
    · obtain ⟨j, hj, q⟩ := W.all k c
      have ne : j ≠ way m g n := fun z => by
        rw [z, fr] at q
        cases q
      exact ⟨j, hj, by rw [oAt_set_ne _ ne]; exact q⟩
    · have ek : k = past.length := by
        have : k < past.length + 1 := hk
        omega
      subst ek
      exact ⟨_, ym, here⟩
  · rw [List.length_cons, List.length_append, pl]
    rfl
  · by_cases c : j = way m g n
    · rw [c]
      exact List.mem_cons_self
    · rw [oAt_set_ne _ c] at q
      exact List.mem_cons_of_mem _ (pin j hj q)
theorem own_fold {m : Nat} (M : Msk m) : ∀ (todo past : List Int) (ow : Array (Option Nat)), Own m past ow → past.length + todo.length ≤ m →
    ∃ ow', todo.foldl (stepF m) (some (ow, past.length)) = some (ow', (past ++ todo).length) ∧ Own m (past ++ todo) ow'
  | [], past, ow, W, _ => ⟨ow, by rw [List.append_nil]; rfl, by rw [List.append_nil]; exact W⟩
  | g :: todo, past, ow, W, le => by
    have le2 : past.length + (todo.length + 1) ≤ m := le
    obtain ⟨y, e, W1⟩ := own_next M W (by omega) g
    have l1 : (past ++ [g]).length = past.length + 1 := List.length_append
    obtain ⟨ow', f, W2⟩ := own_fold M todo (past ++ [g]) _ W1 (by omega)
    rw [List.append_assoc] at f W2
    rw [l1] at f
    exact ⟨ow', (congrArg (todo.foldl (stepF m)) (stepF_some e)).trans f, W2⟩
theorem relaidW (t : SetTable) {hs : Array Int} {wanted M : Nat} (em : SetTable.sizeAbove wanted - 1 = M) (mk : Msk M) (few : hs.size ≤ M) :
    ∃ t' ord, t.relaid hs wanted = some (t', ord) ∧ ord.toList.Perm (List.range hs.size) ∧ TabW t' (ord.toList.map fun i => hs.getD i 0) ∧ t'.mask = M ∧ t'.led = t.led ∧ t'.plain = t.plain := by
  obtain ⟨ow, f, W⟩ := own_fold mk hs.toList [] _ (Own.init M) (by rw [Array.length_toList]; show 0 + hs.size ≤ M; omega)
  rw [List.nil_append] at W
  have lay : SetTable.layClean M hs = some ow := by
    rw [layClean_eq]
    exact congrArg (Option.map (·.1)) f
  have rel : t.relaid hs wanted = some (tabOf t M ow, ((liveOf M ow).map (·.2)).toArray) := by
    rw [relaid_eq, em, lay]
    rfl
  obtain ⟨r1, r2⟩ := ris_live (fun j => ow.getD j none) (List.range (M + 1)) (show Ris _ from List.pairwise_lt_range)
  have r1 : Ris ((liveOf M ow).map (·.1)) := r1
  have r2 : ∀ x ∈ (liveOf M ow).map (·.1), x ∈ List.range (M + 1) := r2
  have nd : ((liveOf M ow).map (·.1)).Nodup := r1.imp fun h => Nat.ne_of_lt h
  have many : ∀ k, k < hs.size → k ∈ (liveOf M ow).map (·.2) := fun k hk => by
    obtain ⟨j, a, b⟩ := W.all k (by rw [Array.length_toList]; exact hk)
    exact List.mem_map.mpr ⟨(j, k), (mem_live W.sz).2 ⟨a, b⟩, rfl⟩
  have count : (liveOf M ow).length = hs.size := by
    obtain ⟨ps, pl, pin⟩ := W.ps
    have a := nat_nodup_len _ ps nd fun x hx => by
      obtain ⟨⟨u, k⟩, hq, rfl⟩ := List.mem_map.mp hx
      obtain ⟨b1, b2⟩ := (mem_live W.sz).1 hq
      exact pin u b1 (by rw [b2]; exact Option.some_ne_none _)
    have b := nat_nodup_len (List.range hs.size) _ List.nodup_range fun k hk => many k (List.mem_range.mp hk)
    rw [List.length_map] at a b
    rw [List.length_range] at b
    have c : hs.toList.length = hs.size := Array.length_toList
    omega
  refine ⟨_, _, rel, perm_range hs.size _ (by show ((liveOf M ow).map (·.2)).length = hs.size; rw [List.length_map]; exact count) many, ⟨r1, rfl, ?_, mk, fun x hx => Nat.le_of_lt_succ (List.mem_range.mp (r2 x hx)), fun i g y e1 e2 => ?_⟩, rfl, rfl, rfl⟩
  · show ((liveOf M ow).map (·.1)).toArray.size = _
    rw [List.size_toArray, List.length_map, List.length_map, List.length_map]
  · have e1 : (((liveOf M ow).map (·.2)).map fun i => hs.getD i 0)[i]? = some g := e1
    have e2 : ((liveOf M ow).map (·.1))[i]? = some y := e2
    rw [List.getElem?_map, List.getElem?_map] at e1
    rw [List.getElem?_map] at e2
    cases el : (liveOf M ow)[i]? with
    | none =>
      rw [el] at e2
      cases e2
    | some u =>
      rw [el] at e1 e2
      obtain ⟨z, k⟩ := u
      obtain rfl : z = y := Option.some.inj e2
      have eg : hs.getD k 0 = g := Option.some.inj e1
      obtain ⟨b1, b2⟩ := (mem_live W.sz).1 (List.mem_of_getElem? el)
      obtain ⟨g', n, a1, a2, a3⟩ := W.at_ z k b1 b2
      have eg2 : hs.getD k 0 = g' := by
        rw [Array.getD_eq_getD_getElem?, ← Array.getElem?_toList, a1]
        rfl
      obtain rfl : g' = g := eg2.symm.trans eg
      refine ⟨n, a2, fun q hq => ?_⟩
      show way M g' q ∈ (liveOf M ow).map (·.1)
      cases w : oAt ow (way M g' q) with
      | none => exact absurd w (a3 q hq)
      | some k2 => exact List.mem_map.mpr ⟨(way M g' q, k2), (mem_live W.sz).2 ⟨way_in M g' q, w⟩, rfl⟩
theorem size_308 : SetTable.sizeAbove (SetTable.grown 77) = 512 := by decide +kernel
end Fd
namespace Fd
open PySem PySem.Spec PyProof.Rows L2
abbrev hashesW (P : Program) (w : World) (L : List (Addr × List Int)) : List Int := L.map fun p => thash P w p.2
structure SetW (P : Program) (w : World) (h : Heap) (a : Addr) (L : List (Addr × List Int)) (es : Array (Int × Value)) (ep : Nat) (t : SetTable) : Prop where
  obj : ∃ o, h.get? a = some o ∧ o.ExactSet ∧ o.data = .set es ep t
  rws : es.toList = L2.rowsOf P w L
  tb : TabW t (hashesW P w L)
  one : (L.map (·.2)).Nodup
  tup : ∀ p ∈ L, IsT P w h p.2 p.1
  pln : t.plain = true
  ld : w.params.followText "set-order" = true ∨ t.led = true
  rm : L.length * 5 < t.mask * 3
  lt : L.length < 100
section
variable {P : Program} {w : World} {A : Around} {E : Value → Shared → Prop} {s : Shared} {a x : Addr} {L : List (Addr × List Int)} {es : Array (Int × Value)} {ep : Nat} {t : SetTable} {k : List Int}
theorem rows_len {es : Array (Int × Value)} (h : es.toList = L2.rowsOf P w L) : es.size = L.length := by
  have e := congrArg List.length h
  rw [Array.length_toList] at e
  rw [e]
  exact List.length_map _
theorem SetW.ok (R : SetW P w s.heap a L es ep t) : t.fits es.size = true := by
  have e1 := rows_len R.rws
  have e2 := R.tb.siz
  have e3 := R.rm
  rw [List.length_map] at e2
  unfold SetTable.fits SetTable.fill
  rw [R.tb.nod, e1, e2, Bool.and_eq_true, beq_iff_eq, decide_eq_true_eq]
  refine ⟨rfl, ?_⟩
  show L.length + 0 ≤ t.mask
  omega
theorem SetW.row (R : SetW P w s.heap a L es ep t) {i : Nat} {p : Addr × List Int} (h : L[i]? = some p) : es[i]? = some (thash P w p.2, Value.ref p.1) := by
  have e : es.toList[i]? = some (thash P w p.2, Value.ref p.1) := by
    rw [R.rws]
    show (L.map fun p => (thash P w p.2, Value.ref p.1))[i]? = _
    rw [List.getElem?_map, h]
    rfl
  rw [Array.getElem?_toList] at e
  exact e
theorem SetW.sound (R : SetW P w s.heap a L es ep t) : ¬ t.gaveWay = true := by
  unfold SetTable.gaveWay
  rw [R.tb.msk.odd]
  decide
abbrev stW (t : SetTable) (h : Int) (c : Nat) : SetTable.Probe := nth t.mask (runAt t.mask (SetTable.bits h % (t.mask + 1)) (SetTable.bits h)) c
theorem stW_dm (t : SetTable) (h : Int) (c : Nat) : (stW t h c).dummy = none := by
  have go : ∀ (n : Nat) (p : SetTable.Probe), p.dummy = none → (nth t.mask p n).dummy = none := fun n => by
    induction n with
    | zero => exact fun p z => z
    | succ n ih =>
      refine fun p z => ih (adv t.mask p) ?_
      unfold adv
      split
      · exact z
      · exact z
  exact go c _ rfl
theorem stW_add (t : SetTable) (h : Int) (c q : Nat) : nth t.mask (stW t h c) q = stW t h (c + q) := (nth_add t.mask c _ q).symm
theorem SetW.item (R : SetW P w s.heap a L es ep t) {i j : Nat} (h : t.place.toList[i]? = some j) : ∃ p, L[i]? = some p := by
  have h1 := (List.getElem?_eq_some_iff.mp h).1
  have h2 := R.tb.len
  rw [List.length_map] at h2
  exact ⟨_, List.getElem?_eq_getElem (by omega : i < L.length)⟩
/-- the search, with or without what adding asks -/
theorem goW (R : SetW P w s.heap a L es ep t) (hx : IsT P w s.heap k x) (hu : A.units < cLine) {N : Nat} (hN : N < 10 * SetTable.turns t.mask) (ad : Bool)
    (free : (stW t (thash P w k) N).j ∉ t.place.toList) (full : ∀ c, c < N → (stW t (thash P w k) c).j ∈ t.place.toList) {Q : SetFound → Shared → Prop}
    (yes : k ∈ L.map (·.2) → ∀ i, (ad = false → i.isSome = true) → Q (.there i) s) (no : k ∉ L.map (·.2) → Q (.free (stW t (thash P w k) N).j false) s) :
    ∀ (f c : Nat) (st : Option SetTable.Probe), st.getD (t.probeStart (thash P w k)) = stW t (thash P w k) c → c ≤ N → N - c < f →
      (∀ (i : Nat) p, L[i]? = some p → p.2 = k → ∃ d, c ≤ d ∧ d < N ∧ t.place.toList[i]? = some (stW t (thash P w k) d).j) →
      wpAny (model P w) A (setSearchFrom a (.ref x) (thash P w k) ad f st) Q E s := by
  obtain ⟨o, ho, hex, hd⟩ := R.obj
  intro f
  induction f with
  | zero => exact fun c st _ _ z _ => absurd z (Nat.not_lt_zero _)
  | succ f ih =>
    intro c st est hc hf left
    have hashes : ∀ (i : Nat) p, L[i]? = some p → (es[i]?.map (·.1)).getD 0 = thash P w p.2 := fun i p hp => by
      rw [R.row hp]
      rfl
    have passed : ∀ {d q : Nat}, c ≤ d → (∀ (q' i' : Nat), q' < q → t.place.toList[i']? = some (nth t.mask (stW t (thash P w k) c) q').j → (es[i']?.map (·.1)).getD 0 ≠ thash P w k) → ∀ (i : Nat) p, L[i]? = some p → p.2 = k →
        t.place.toList[i]? = some (stW t (thash P w k) d).j → c + q ≤ d := fun {d q} cd pass i p hp hk ht => by
      rcases Nat.lt_or_ge d (c + q) with z | z
      · refine absurd ((hashes i p hp).trans (congrArg (thash P w) hk)) (pass (d - c) i (by omega) ?_)
        rw [stW_add, show c + (d - c) = d by omega]
        exact ht
      · exact z
    rw [setSearchFrom_succ]
    refine wpAny_bind (wpAny_setState_of ho hd R.ok ?_)
    dsimp only
    refine wp_if_neg R.sound ?_
    try refine wpAny_bind (wpAny_pure ?_)
    rcases go_spec t R.tb.up R.tb.nod (fun i => (es[i]?.map (·.1)).getD 0) (thash P w k) (10 * SetTable.turns t.mask) (N - c) (stW t (thash P w k) c) (stW_dm t _ c) (by omega)
        (fun q hq => by rw [stW_add]; exact full _ (by omega)) (by rw [stW_add, show c + (N - c) = N by omega]; exact free) with ⟨q, i, hq, hi, hh, pass, pr⟩ | ⟨pass, pr⟩
    · rw [stW_add] at hi
      rw [stW_add, stW_add] at pr
      have pr2 : t.probe (fun i => (es[i]?.map (·.1)).getD 0) (thash P w k) (st.getD (t.probeStart (thash P w k))) = some (.candidate (stW t (thash P w k) (c + q)).j i (stW t (thash P w k) (c + (q + 1)))) := by
        rw [est]
        exact pr
      rw [pr2]
      dsimp only
      obtain ⟨p, hp⟩ := R.item hi
      have pm := List.mem_of_getElem? hp
      have sl := slot_live R.tb.up hi
      have rest : wpAny (model P w) A (searchRest a (.ref x) (thash P w k) ad f es t (stW t (thash P w k) (c + q)).j i (stW t (thash P w k) (c + (q + 1)))) Q E s := by
        unfold searchRest
        rw [R.row hp]
        dsimp only
        refine wpAny_bind (wpAny_holding (wpAny_eqBool_tuple hu (R.tup p pm) hx ?_))
        refine wpAny_bind (wpAny_setState_of ho hd R.ok ?_)
        dsimp only
        have on : p.2 ≠ k → wpAny (model P w) A (setSearchFrom a (.ref x) (thash P w k) ad f (some (stW t (thash P w k) (c + (q + 1))))) Q E s := fun e => by
          refine ih (c + (q + 1)) _ rfl (by omega) (by omega) fun i1 p1 h1 k1 => ?_
          obtain ⟨d, d1, d2, d3⟩ := left i1 p1 h1 k1
          have d4 := passed d1 pass i1 p1 h1 k1 d3
          refine ⟨d, ?_, d2, d3⟩
          rcases Nat.lt_or_ge (c + q) d with z | z
          · omega
          · have ed : d = c + q := by omega
            subst ed
            have sl1 := slot_live R.tb.up d3
            rw [sl] at sl1
            cases sl1
            cases Option.some.inj (hp.symm.trans h1)
            exact absurd k1 e
        have key : ad = true ∧ p.2 = k ∨ ¬ (ad = true ∧ p.2 = k) := Classical.em _
        rcases key with ⟨rfl, e⟩ | key
        · refine wp_if_pos (by simp [e]) ?_
          exact wpAny_pure (yes (List.mem_map.mpr ⟨p, pm, e⟩) none (fun z => nomatch z))
        · refine wp_if_neg (by simpa using key) ?_
          try refine wpAny_bind (wpAny_pure ?_)
          rw [sameMem]
          dsimp only
          simp only [if_true, sl, R.row hp]
          refine wpAny_bind (wpAny_isSame_ref_self (wpAny_bind (wpAny_pure ?_)))
          simp only [if_true]
          by_cases e : p.2 = k
          · refine wp_if_pos (by simp [e]) ?_
            exact wpAny_pure (yes (List.mem_map.mpr ⟨p, pm, e⟩) (some i) fun _ => rfl)
          · refine wp_if_neg (by simp [e]) ?_
            exact on e
      by_cases led : t.led = true
      · refine wp_if_neg (by simp [led]) ?_
        try refine wpAny_bind (wpAny_pure ?_)
        exact rest
      · refine wp_if_pos (by simp [led]) ?_
        have tups : ∀ y ∈ (es.filter (·.1 == thash P w k)).toList.map (·.2), ∃ k' c, y = Value.ref c ∧ IsT P w s.heap k' c := fun y hy => by
          obtain ⟨e, he, ee⟩ := List.mem_map.mp hy
          have h1 : e ∈ es ∧ e.1 = thash P w k := by simpa using he
          have h2 : e ∈ es.toList := by simpa using h1.1
          rw [R.rws] at h2
          obtain ⟨u, hu1, hu2⟩ := List.mem_map.mp h2
          exact ⟨u.2, u.1, by rw [← ee, ← hu2], R.tup u hu1⟩
        refine wpAny_bind (seen_tup hx tups ?_)
        refine wp_if_neg (by decide) ?_
        try refine wpAny_bind (wpAny_pure ?_)
        exact rest
    · have pr2 : t.probe (fun i => (es[i]?.map (·.1)).getD 0) (thash P w k) (st.getD (t.probeStart (thash P w k))) = some (.empty (stW t (thash P w k) N).j none) := by
        rw [est]
        rw [stW_add, show c + (N - c) = N by omega] at pr
        exact pr
      rw [pr2]
      dsimp only
      refine wpAny_pure (no fun hm => ?_)
      obtain ⟨p, hp, hk⟩ := List.mem_map.mp hm
      obtain ⟨i, hi⟩ := List.mem_iff_getElem?.mp hp
      obtain ⟨d, d1, d2, d3⟩ := left i p hi hk
      have := passed d1 pass i p hi hk d3
      omega
theorem seekW (R : SetW P w s.heap a L es ep t) (hx : IsT P w s.heap k x) (hu : A.units < cLine) (ad : Bool) {Q : SetFound → Shared → Prop}
    (yes : k ∈ L.map (·.2) → ∀ i, (ad = false → i.isSome = true) → Q (.there i) s) (no : ∀ N, k ∉ L.map (·.2) → way t.mask (thash P w k) N ∉ t.place.toList → (∀ c, c < N → way t.mask (thash P w k) c ∈ t.place.toList) → Q (.free (way t.mask (thash P w k) N) false) s) :
    wpAny (model P w) A (setSearch a (.ref x) (thash P w k) ad) Q E s := by
  have room := R.rm
  have top := R.tb.msk.top
  obtain ⟨N, hN, free, full⟩ := R.tb.hole (by rw [List.length_map]; omega) (thash P w k)
  have few : N < 100000 := by
    unfold SetTable.turns at hN
    omega
  unfold setSearch
  refine goW (N := N) R hx hu hN ad free full yes (fun hm => no N hm free full) 100000 0 none rfl (Nat.zero_le _) (by omega) fun i p hp hk => ?_
  have h1 : (hashesW P w L)[i]? = some (thash P w k) := by
    rw [List.getElem?_map, hp, ← hk]
    rfl
  have h2 : i < t.place.toList.length := by
    have h3 := (List.getElem?_eq_some_iff.mp h1).1
    rw [R.tb.len]
    exact h3
  obtain ⟨d, d1, d2⟩ := R.tb.ahead free h1 (List.getElem?_eq_getElem h2)
  exact ⟨d, Nat.zero_le _, d1, by rw [List.getElem?_eq_getElem h2]; exact congrArg some d2.symm⟩
/-- x in a, asked of the set itself -/
theorem hasW (R : SetW P w s.heap a L es ep t) (hx : IsT P w s.heap k x) (hu : A.units < cLine) {Q : Bool → Shared → Prop} (h : ∀ tk, Q (decide (k ∈ L.map (·.2))) { s with toks := tk }) : wpAny (model P w) A (setContains a (.ref x)) Q E s := by
  obtain ⟨o, ho, hex, hd⟩ := R.obj
  unfold setContains
  refine wpAny_holding (wpAny_bind (wpAny_pyHash_tuple hu hx ?_))
  obtain ⟨tk, etk⟩ : ∃ tk, tk = s.toks + (k.length + 1) := ⟨_, rfl⟩
  rw [← etk]
  refine wpAny_bind ?_
  unfold setFind
  rw [show (100000 : Nat) = 99999 + 1 from rfl, setFindIn.eq_2]
  refine wpAny_bind (wpAny_setState_of (s := { s with toks := tk }) ho hd R.ok ?_)
  dsimp only
  refine wp_if_neg (by simp [byScan, Value.scannable]) ?_
  try refine wpAny_bind (wpAny_pure ?_)
  refine wpAny_bind (seekW (s := { s with toks := tk }) R hx hu false (fun hm i hi => ?_) fun N hm _ _ => ?_)
  · refine wpAny_pure (wpAny_pure ?_)
    have q := h tk
    rw [decide_eq_true hm] at q
    cases i with
    | none => exact absurd (hi rfl) Bool.false_ne_true
    | some i => exact q
  · refine wpAny_pure (wpAny_pure ?_)
    have q := h tk
    rw [decide_eq_false hm] at q
    exact q
/-! ### adding -/
theorem relayW' {o : Obj} (ho : s.heap.get? a = some o) (hex : o.ExactSet) (hd : o.data = .set es ep t) (rw' : es.toList = L2.rowsOf P w L) (fit : t.fits es.size = true) (one : (L.map (·.2)).Nodup) (tup : ∀ p ∈ L, IsT P w s.heap p.2 p.1) (pln : t.plain = true)
    (ld : w.params.followText "set-order" = true ∨ t.led = true) (lt : L.length < 100) {wanted M : Nat} (em : SetTable.sizeAbove wanted - 1 = M) (mk : Msk M) (sz : SetTable.sizeAbove wanted ≤ 512) (rm : L.length * 5 < M * 3) {Q : Unit → Shared → Prop}
    (k : ∀ h' L' es' ep' t', Heap.SameBut a s.heap h' → SetW P w h' a L' es' ep' t' → t'.mask = M → L'.Perm L → Q () { s with heap := h' }) : wpAny (model P w) A (setRelay a wanted) Q E s := by
  have nl := rows_len rw'
  obtain ⟨t', ord, e, pm, B, e1, e2, e3⟩ := relaidW t (hs := es.map (·.1)) (wanted := wanted) em mk (by rw [Array.size_map, nl]; omega)
  rw [Array.size_map, nl] at pm
  obtain ⟨L2', r1, r2, r3⟩ := order_rows L es ord rw' pm
  rw [← r3] at B
  have n2 : (ord.filterMap (es[·]?)).size = es.size := by
    rw [rows_len r1, r2.length_eq, nl]
  rw [setRelay_eq]
  refine wpAny_bind (wpAny_setState_of ho hd fit ?_)
  dsimp only
  refine wp_if_neg (by rw [sizeLine_eq]; omega) ?_
  try refine wpAny_bind (wpAny_pure ?_)
  rw [e]
  dsimp only
  refine wpAny_bind ?_
  refine wp_if_neg (by rw [n2]; simp) ?_
  try refine wpAny_bind (wpAny_pure ?_)
  refine wpAny_pure ?_
  dsimp only
  refine wpAny_storeSet_of ho hd ?_ (by rw [n2, nl, sizeLine_eq]; omega)
  have sb : Heap.SameBut a s.heap (s.heap.update a (Obj.putSet (ord.filterMap (es[·]?)) t')) := Heap.SameBut.update ..
  refine k _ L2' _ (ep + 1) t' sb ⟨⟨_, store_at ho hd, ⟨hex.1, hex.2.1, hex.2.2⟩, rfl⟩, r1, B, (r2.map (·.2)).nodup_iff.mpr one, fun p hp => isT_same (tup p (r2.mem_iff.mp hp)) ho hd sb, ?_, ?_, ?_, ?_⟩ e1 r2
  · rw [e3]
    exact pln
  · rw [e2]
    exact ld
  · rw [r2.length_eq, e1]
    exact rm
  · rw [r2.length_eq]
    exact lt
def MaskW (m : Nat) : Prop := MaskOk m ∨ m = 511
theorem addW (R : SetW P w s.heap a L es ep t) (mw : MaskW t.mask) (hx : IsT P w s.heap k x) (hu : A.units < cLine) (few : L.length + 1 < 100) {Q : Bool → Shared → Prop}
    (c : ∀ b h' L' es' ep' t', Heap.SameBut a s.heap h' → SetW P w h' a L' es' ep' t' → MaskW t'.mask → (k ∈ L.map (·.2) → L' = L) → (k ∉ L.map (·.2) → L'.Perm ((x, k) :: L)) → Q b { s with heap := h' }) :
    wpAny (model P w) A (setAddHashed a (.ref x) (thash P w k)) Q E s := by
  obtain ⟨o, ho, hex, hd⟩ := R.obj
  have nl := rows_len R.rws
  have room := R.rm
  unfold setAddHashed
  refine wpAny_holding ?_
  rw [show (100000 : Nat) = 99999 + 1 from rfl, setAddHashedIn_succ]
  refine wpAny_bind (wpAny_setState_of ho hd R.ok ?_)
  dsimp only
  refine wp_if_neg (by simp [byScan, Value.scannable]) ?_
  try refine wpAny_bind (wpAny_pure ?_)
  refine wpAny_bind (seekW R hx hu true (fun hm i _ => ?_) fun N hm free full => ?_)
  · exact wpAny_pure (c false s.heap L es ep t (Heap.SameBut.refl a s.heap) R mw (fun _ => rfl) fun z => absurd hm z)
  · dsimp only
    refine wpAny_bind (wpAny_setState_of ho hd R.ok ?_)
    dsimp only
    generalize ey : way t.mask (thash P w k) N = y at free full ⊢
    generalize epp : SetTable.below t.place y = p
    obtain ⟨q1, q2, q3, q4, q5, q6, q7⟩ := R.tb.add ey epp free full
    have pl1 : (t.put y).1.plain = true := q6.trans R.pln
    generalize t.put y = u at q1 q3 q4 q5 q6 q7 pl1 ⊢
    obtain ⟨t1, p'⟩ := u
    dsimp only at q1 q3 q4 q5 q6 q7 pl1 ⊢
    subst q1
    first
      | (refine wpAny_bind ?_; refine wp_if_pos pl1 ?_; refine hashBy_tup hx ?_)
      | refine wp_if_pos pl1 (wpAny_bind (hashBy_tup hx ?_))
    simp only [if_true]
    have rows1 : (SetTable.insertAt es p' (thash P w k, Value.ref x)).toList = L2.rowsOf P w (L.take p' ++ (x, k) :: L.drop p') := by
      rw [SetTable.toList_insertAt, rows_put, R.rws]
    have pm := put_perm L p' (x, k)
    have n1 : (L.take p' ++ (x, k) :: L.drop p').length = L.length + 1 := pm.length_eq
    have hh : hashesW P w (L.take p' ++ (x, k) :: L.drop p') = (hashesW P w L).take p' ++ thash P w k :: (hashesW P w L).drop p' := by
      unfold hashesW
      rw [List.map_append, List.map_cons, List.map_take, List.map_drop]
    rw [← hh] at q3
    have one1 : ((L.take p' ++ (x, k) :: L.drop p').map (·.2)).Nodup := (pm.map (·.2)).nodup_iff.mpr (List.nodup_cons.mpr ⟨hm, R.one⟩)
    generalize SetTable.insertAt es p' (thash P w k, Value.ref x) = es1 at rows1 ⊢
    generalize L.take p' ++ (x, k) :: L.drop p' = L1 at pm n1 q3 one1 rows1
    have ne1 := rows_len rows1
    refine wpAny_bind (wpAny_storeSet_of ho hd ?_ (by rw [ne1, n1, sizeLine_eq]; omega))
    have sb : Heap.SameBut a s.heap (s.heap.update a (Obj.putSet es1 t1)) := Heap.SameBut.update ..
    have ho1 := store_at (es' := es1) (t' := t1) ho hd
    generalize s.heap.update a (Obj.putSet es1 t1) = h1 at sb ho1 ⊢
    have tup1 : ∀ p ∈ L1, IsT P w h1 p.2 p.1 := fun p hp => by
      rcases List.mem_cons.mp (pm.mem_iff.mp hp) with rfl | z
      · exact isT_same hx ho hd sb
      · exact isT_same (R.tup p z) ho hd sb
    have ld1 : w.params.followText "set-order" = true ∨ t1.led = true := by
      rw [q5]
      exact R.ld
    have fillE : t1.fill = L.length + 1 := by
      rw [q7, List.length_map]
    by_cases hf : t1.tooFull = true
    · first
        | (refine wpAny_bind ?_; refine wp_if_pos (by simp [hf]) ?_)
        | (refine wp_if_pos (by simp [hf]) ?_; refine wpAny_bind ?_)
      have full1 : (L.length + 1) * 5 ≥ t1.mask * 3 := by
        unfold SetTable.tooFull at hf
        rw [decide_eq_true_eq, fillE] at hf
        exact hf
      rw [q4] at full1
      rw [nl]
      have siz1 := q3.siz
      rw [List.length_map, n1] at siz1
      have fit1 : t1.fits es1.size = true := by
        unfold SetTable.fits
        rw [fillE, ne1, n1, siz1, q4, Bool.and_eq_true, beq_iff_eq, decide_eq_true_eq]
        refine ⟨rfl, ?_⟩
        rcases mw with (e | e | e) | e <;> rw [e] at room ⊢ <;> omega
      have go : ∀ M, SetTable.sizeAbove (SetTable.grown (L.length + 1)) - 1 = M → Msk M → MaskW M → SetTable.sizeAbove (SetTable.grown (L.length + 1)) ≤ 512 → (L.length + 1) * 5 < M * 3 →
          wpAny (model P w) A (setRelay a (SetTable.grown (L.length + 1))) (fun _ s' => wpAny (model P w) A (pure true) Q E s') E { s with heap := h1 } := fun M m1 m2 m3 m4 m5 => by
        refine relayW' (s := { s with heap := h1 }) ho1 ⟨hex.1, hex.2.1, hex.2.2⟩ rfl rows1 fit1 one1 tup1 pl1 ld1 (by rw [n1]; exact few) m1 m2 m4 (by rw [n1]; exact m5) ?_
        intro h2 L2' es2 ep2 t2 sb2 R2 em2 pm2
        exact wpAny_pure (c true h2 L2' es2 ep2 t2 (sb.trans sb2) R2 (by rw [em2]; exact m3) (fun z => absurd z hm) fun _ => pm2.trans pm)
      have cases3 : (t.mask = 7 ∧ L.length = 4) ∨ (t.mask = 31 ∧ L.length = 18) ∨ (t.mask = 127 ∧ L.length = 76) := by
        rcases mw with (e | e | e) | e <;> rw [e] at room full1
        · exact .inl ⟨e, by omega⟩
        · exact .inr (.inl ⟨e, by omega⟩)
        · exact .inr (.inr ⟨e, by omega⟩)
        · omega
      rcases cases3 with ⟨_, e2⟩ | ⟨_, e2⟩ | ⟨_, e2⟩
      · exact go 31 (by rw [e2, size_20]) (msk_old (.inr (.inl rfl))) (.inl (.inr (.inl rfl))) (by rw [e2, size_20]; decide) (by omega)
      · exact go 127 (by rw [e2, size_76]) (msk_old (.inr (.inr rfl))) (.inl (.inr (.inr rfl))) (by rw [e2, size_76]; decide) (by omega)
      · exact go 511 (by rw [e2, size_308]) msk_big (.inr rfl) (by rw [e2, size_308]; decide) (by omega)
    · first
        | refine wp_if_neg (by simp [hf]) ?_
        | (refine wpAny_bind ?_; refine wp_if_neg (by simp [hf]) ?_; refine wpAny_pure ?_)
      have nf : (L.length + 1) * 5 < t1.mask * 3 := by
        unfold SetTable.tooFull at hf
        rw [decide_eq_true_eq, fillE] at hf
        omega
      exact wpAny_pure (c true h1 L1 es1 (ep + 1) t1 sb ⟨⟨_, ho1, ⟨hex.1, hex.2.1, hex.2.2⟩, rfl⟩, rows1, q3, one1, tup1, pl1, ld1, by rw [n1]; exact nf, by rw [n1]; exact few⟩ (by rw [q4]; exact mw) (fun z => absurd z hm) fun _ => pm)
end
end Fd
namespace Fd
open PySem PySem.Spec PyProof.Rows L2
/-! ### sets of pairs as things in a heap -/
def PackW (P : Program) (w : World) (h : Heap) (a : Addr) (L : List (Addr × List Int)) : Prop := ∃ (es : Array (Int × Value)) (ep : Nat) (t : SetTable), (∃ o, h.get? a = some o ∧ o.ExactSet ∧ o.data = .set es ep t) ∧ es.toList = L2.rowsOf P w L ∧ TabW t (hashesW P w L) ∧ (L.map (·.2)).Nodup ∧ t.plain = true ∧
    (w.params.followText "set-order" = true ∨ t.led = true) ∧ L.length * 5 < t.mask * 3 ∧ L.length < 100 ∧ MaskW t.mask
structure PackW' (P : Program) (w : World) (h : Heap) (a : Addr) (L : List (Addr × List Int)) : Prop where
  ex : PackW P w h a L
def SetWO (P : Program) (w : World) (a : Addr) (L : List (Addr × List Int)) : HO := .ext fun h => PackW' P w h a L
theorem SetW.pack {P : Program} {w : World} {h : Heap} {a : Addr} {L : List (Addr × List Int)} {es : Array (Int × Value)} {ep : Nat} {t : SetTable} (R : SetW P w h a L es ep t) (mw : MaskW t.mask) : PackW' P w h a L := ⟨es, ep, t, R.obj, R.rws, R.tb, R.one, R.pln, R.ld, R.rm, R.lt, mw⟩
theorem PackW'.full {P : Program} {w : World} {h : Heap} {a : Addr} {L : List (Addr × List Int)} (R : PackW' P w h a L) (ht : ∀ p ∈ L, IsT P w h p.2 p.1) : ∃ es ep t, SetW P w h a L es ep t ∧ MaskW t.mask := by
  obtain ⟨es, ep, t, h1, h2, h3, h4, h5, h6, h7, h8, h9⟩ := R.ex
  exact ⟨es, ep, t, ⟨h1, h2, h3, h4, ht, h5, h6, h7, h8⟩, h9⟩
theorem setWO_new {P : Program} {w : World} {H : Hp} {h : Heap} {a : Addr} {L : List (Addr × List Int)} (R : PackW' P w h a L) : ObjOk P w H h a (SetWO P w a L) := by
  obtain ⟨es, ep, t, ⟨o, ho, r⟩, q⟩ := R.ex
  refine ⟨R, ⟨o, ho⟩, fun h1 h2 p k => ?_⟩
  obtain ⟨es', ep', t', ⟨o', ho', r'⟩, q'⟩ := PackW'.ex p
  exact ⟨es', ep', t', ⟨o', k o' ho', r'⟩, q'⟩
def TupsAt (K : PySem.W.Frag) (H : Hp) (L : List (Addr × List Int)) : Prop := ∀ p ∈ L, SqT K H p.1 (p.2.map V.int)
theorem setW_of {X : Cx} {pins : List (Addr × Obj)} {σ : L2.St} {H : Hp} {s : Shared} {a : Addr} {L : List (Addr × List Int)} (I : Inv X pins σ H s) (h : H a = some (SetWO X.prog X.w a L)) (ht : TupsAt X.K H L) : ∃ es ep t, SetW X.prog X.w s.heap a L es ep t ∧ MaskW t.mask :=
  PackW'.full (I.hok a _ h).1 fun p hp => I.isT (ht p hp)
theorem freshW {P : Program} {w : World} {h : Heap} {a : Addr} (ho : h.get? a = some { cls := .type "set", dict := none, data := .set #[] 0 (.fresh 0 0 (!w.params.followText "set-order")) }) : SetW P w h a [] #[] 0 (.fresh 0 0 (!w.params.followText "set-order")) := by
  refine ⟨⟨_, ho, ⟨rfl, rfl, rfl⟩, rfl⟩, rfl, ⟨List.Pairwise.nil, rfl, rfl, msk_old (.inl rfl), fun x hx => (by cases hx), fun i h j hi => (by simp at hi)⟩, List.nodup_nil, fun p hp => (by cases hp), rfl, ?_, by show 0 * 5 < 7 * 3; decide, by show 0 < 100; decide⟩
  show w.params.followText "set-order" = true ∨ (!w.params.followText "set-order") = true
  cases w.params.followText "set-order"
  · exact .inr rfl
  · exact .inl rfl
def rNewW (P : Program) (w : World) : List V → Hp → VK → Prop := fun xs H Q => xs = [] ∧ ∀ p, H p = none → Q (.ref p) (upd H p (SetWO P w p []))
def rNotInW (K : PySem.W.Frag) (P : Program) (w : World) : V → V → Hp → VK → Prop := fun x y H Q => ∃ (b a : Addr) (k : List Int) (L : List (Addr × List Int)), x = .ref b ∧ y = .ref a ∧ SqT K H b (k.map V.int) ∧ H a = some (SetWO P w a L) ∧ TupsAt K H L ∧ Q (.bl (!decide (k ∈ L.map (·.2)))) H
def rAddW (K : PySem.W.Frag) (P : Program) (w : World) : V → List V → Hp → VK → Prop := fun x xs H Q => ∃ (a b : Addr) (k : List Int) (L : List (Addr × List Int)), x = .ref a ∧ xs = [.ref b] ∧ SqT K H b (k.map V.int) ∧ H a = some (SetWO P w a L) ∧ TupsAt K H L ∧ L.length + 1 < 100 ∧
  ∀ L' : List (Addr × List Int), (k ∈ L.map (·.2) → L' = L) → (k ∉ L.map (·.2) → L'.Perm ((b, k) :: L)) → Q .non (upd H a (SetWO P w a L'))
section
variable {X : Cx}
theorem cr_newW : CallR X (.type "set") (rNewW X.prog X.w) := by
  intro pins s σ H xs us Q I r h
  obtain ⟨rfl, q⟩ := h
  cases r
  refine setR_new fun _ => ?_
  have got := freshW (P := X.prog) (w := X.w) (a := s.heap.objs.size) (h := s.heap.push { cls := .type "set", dict := none, data := .set #[] 0 (.fresh 0 0 (!X.w.params.followText "set-order")) }) (Heap.get?_push_size _ rfl)
  exact ⟨.ref _, _, I.laid (t' := s.toks) (o := SetWO X.prog X.w s.heap.objs.size []) (fun b u e => Heap.get?_push_of_some _ e) (Nat.le_refl _) (setWO_new (got.pack (.inl (.inl rfl)))), rfl, q _ (I.hok.fresh (Nat.le_refl _))⟩
theorem op_notInW (hu : X.A.units + 65 < cLine) : OpR X (compareOp .NotIn) (rNotInW X.K X.prog X.w) := by
  intro pins s σ H x y v u Q I rx ry h
  obtain ⟨b, a, k, L, rfl, rfl, hb, ha, hL, q⟩ := h
  cases rx
  cases ry
  obtain ⟨es, ep, t, R, _⟩ := setW_of I ha hL
  have kb := I.isT hb
  obtain ⟨o, ho, hex, hd⟩ := id R.obj
  have ty : s.TypeIs (.ref a) "set" := ⟨o, ho, hex.1⟩
  show wpAny _ _ (do return Value.bool (!(← PySem.contains (.ref a) (.ref b))) : Sem Value) _ _ s
  refine wpAny_bind ?_
  unfold PySem.contains
  try with_reducible refine wpAny_holding ?_
  refine wpAny_bind (wpAny_specialOf ty F.slot_set_contains.lookup ?_)
  show wpAny _ _ (if (some (Value.builtin "set.__contains__") == some Value.none) = true then _ else _) _ _ s
  refine wp_if_neg (by rw [beq_builtin_none]; exact Bool.false_ne_true) ?_
  refine wpAny_bind (wpAny_callSpecialUnlessNone?_slot (name := Str.ofString "__contains__") ty F.slot_set_contains (wpAny_call_entry F.slot_set_contains ty entry_set_contains ?_ (F.args_set_contains_2 _ _)))
  unfold Builtin.«frozenset.__contains__» Builtin.Frozenset.oneOther
  simp only [List.isEmpty_nil, bind_assoc]
  unfold Builtin.Frozenset.addrOf Builtin.Frozenset.withSetAsKey
  refine wpAny_bind (wpAny_pure ?_)
  try dsimp only
  refine wpAny_bind (wpAny_pure ?_)
  try dsimp only
  refine wpAny_bind (wpAny_tryCatch (hasW R kb ?_ fun tk => ?_))
  · rw [PyProof.Rows.units_in1]
    omega
  · exact wpAny_pure ⟨_, rfl, wpAny_truthy_bool (wpAny_pure ⟨V.bl (!decide (k ∈ List.map (fun x : Addr × List Int => x.snd) L)), H, I.tok _, rfl, q⟩)⟩
theorem mt_addW (hu : X.A.units + 65 < cLine) : MtM X "set.add" (rAddW X.K X.prog X.w) := by
  intro pins s σ H x xs v us Q I rx rxs h
  obtain ⟨a, b, k, L, rfl, rfl, hb, ha, hL, few, q⟩ := h
  cases rx
  rw [Vals.ref1 rxs]
  obtain ⟨es, ep, t, R, mw⟩ := setW_of I ha hL
  have kb := I.isT hb
  obtain ⟨o, ho, hex, hd⟩ := id R.obj
  have ty : s.TypeIs (.ref a) "set" := ⟨o, ho, hex.1⟩
  refine wpAny_call_entry F.slot_set_add ty F.entry_set_add ?_ (F.args_set_add_2 _ _)
  unfold Builtin.«set.add» Builtin.Frozenset.oneOther
  simp only [List.isEmpty_nil, bind_assoc]
  unfold Builtin.Frozenset.addrOf setAdd
  refine wpAny_bind (wpAny_pure ?_)
  try dsimp only
  refine wpAny_bind (wpAny_pure ?_)
  try dsimp only
  have u1 : X.A.in1.units < cLine := by
    rw [PyProof.Rows.units_in1]
    omega
  refine wpAny_bind (wpAny_holding (wpAny_bind (wpAny_pyHash_tuple u1 kb ?_)))
  obtain ⟨tk, etk⟩ : ∃ tk, tk = s.toks + (k.length + 1) := ⟨_, rfl⟩
  rw [← etk]
  refine addW (s := { s with toks := tk }) R mw kb u1 few fun bb h' L' es' ep' t' sb R' mw' c1 c2 => ?_
  show wpAny _ _ (ret Value.none) _ _ _
  have he : ∃ u, h'.get? a = some u := by
    obtain ⟨o', ho', _⟩ := R'.obj
    exact ⟨o', ho'⟩
  exact wpAny_pure ⟨_, rfl, .non, _, I.write (e := a) (t' := tk) (o := SetWO X.prog X.w a L') (by rw [ha]; trivial) (.inl rfl) (fun b' u hb' hu' => (sb.2 b' hb').trans hu') he (setWO_new (R'.pack mw')), rfl, q L' c1 c2⟩
def tAddW (K : PySem.W.Frag) (P : Program) (w : World) (to : TE) (t : TA) : TE := fun σ H Q => to σ H fun x H1 => (∃ a L, x = V.ref a ∧ H1 a = some (SetWO P w a L)) ∧ t σ H1 fun xs H2 => rAddW K P w x xs H2 Q
variable {o e : Expr} {es : List Expr} {to : TE} {ta : TA} {apos cpos : Pos}
theorem pe_addW (hu : X.A.units + 65 < cLine) (ho : PE X o to) (ha : PA X (e :: es) ta) (h1 : attributeBase o "add" X.env (eval o X.env) = eval o X.env := by rfl)
    (h2 : ((backTo cpos (starEach (e :: es) X.env)).all (fun x => !x.1) && (backToKw cpos (keywordEach [] X.env)).all (fun x => x.1.isSome) && decide ((e :: es).length + ([] : List Keyword).length + (if ([] : List Keyword).isEmpty then 0 else 1) < 30)) = true := by rfl)
    (h3 : (apos.endLine == cpos.line) = true := by rfl) (h4 : starEach (e :: es) X.env = (false, eval e X.env) :: starEach es X.env := by rfl) (h5 : (backTo cpos (starEach es X.env)).any (·.1) = false := by rfl) :
    PE X (.Call (.Attribute o "add" apos) (e :: es) [] cpos) (tAddW X.K X.prog X.w to ta) := by
  refine ⟨fun pins s σ H Q I h => ?_⟩
  refine wpAny_Call_method_late h1 h2 h3 rfl (thn (ho.run pins s σ H _ I h) fun v s1 ⟨x, H1, I1, r1, ty, q1⟩ => ?_)
  obtain ⟨a, L, rfl, hka⟩ := ty
  obtain ⟨_, _, _, ⟨o1, ho1, hex1, _⟩, _⟩ := (PackW'.ex (I1.hok a _ hka).1)
  cases r1
  refine ⟨"set", "set.add", F.plainAttrs_set, F.slot_set_add, F.type_set_add, ⟨o1, ho1, hex1.1⟩, fun b e => ?_, ?_⟩
  · cases e
    exact ⟨o1, ho1, hex1.2.1⟩
  · have hA := ha.run cpos pins s1 σ H1 _ I1 q1
    rw [h4] at hA ⊢
    refine Calls.callWith_builtin (by show (false || (backTo cpos (starEach es X.env)).any (·.1)) = false; rw [h5]; rfl) (Calls.evalArgs_plain ?_)
    exact thn hA fun us s2 ⟨vs, H2, I2, r2, q2⟩ => mt_addW hu pins s2 σ H2 (.ref a) vs (.ref a) us Q I2 rfl r2 q2
end
/-! ### what is in it -/
def kOf (t : Tie) : List Int := [t.1, t.2]
theorem kOf_inj {t u : Tie} (h : kOf t = kOf u) : t = u := by
  injection h with e1 e2
  injection e2 with e2 _
  exact Prod.ext e1 e2
structure GoneAt (P : Program) (w : World) (H : Hp) (S : Addr) (L : List (Addr × List Int)) (U : List Tie) : Prop where
  at_ : H S = some (SetWO P w S L)
  tups : ∀ p ∈ L, H p.1 = some (.tup (p.2.map V.int))
  perm : (L.map (·.2)).Perm (U.map kOf)
  nd : U.Nodup
section
variable {P : Program} {w : World} {K : PySem.W.Frag} {H H' : Hp} {S : Addr} {L : List (Addr × List Int)} {U : List Tie}
theorem setWO_lst {xs : List V} (e : SetWO P w S L = .lst xs) : False := HO.noConfusion (show HO.ext _ = HO.lst xs from e)
theorem setWO_tup {xs : List V} (e : SetWO P w S L = .tup xs) : False := HO.noConfusion (show HO.ext _ = HO.tup xs from e)
theorem setWO_ins {C dx : Addr} {fs : List (Str × V)} (e : SetWO P w S L = .ins C dx fs) : False := HO.noConfusion (show HO.ext _ = HO.ins C dx fs from e)
theorem GoneAt.mem (h : GoneAt P w H S L U) {t : Tie} : kOf t ∈ L.map (·.2) ↔ t ∈ U := by
  rw [h.perm.mem_iff]
  exact ⟨fun z => by
    obtain ⟨u, hu, e⟩ := List.mem_map.mp z
    exact kOf_inj e ▸ hu, fun z => List.mem_map.mpr ⟨t, z, rfl⟩⟩
theorem GoneAt.len (h : GoneAt P w H S L U) : L.length = U.length := by
  have := h.perm.length_eq
  rw [List.length_map, List.length_map] at this
  exact this
theorem GoneAt.same (h : GoneAt P w H S L U) (s : Same H H') : GoneAt P w H' S L U := ⟨s _ _ h.at_, fun p hp => s _ _ (h.tups p hp), h.perm, h.nd⟩
theorem GoneAt.tupsAt (h : GoneAt P w H S L U) : TupsAt K H L := fun p hp => SqT.of (h.tups p hp)
/-- what is no set stays when the set is written -/
theorem GoneAt.lst (h : GoneAt P w H S L U) {D : Addr} {xs : List V} {o : HO} (d : H D = some (.lst xs)) : (upd H S o) D = some (.lst xs) := by
  rw [upd_ne (fun e => by subst e; exact setWO_lst (Option.some.inj (h.at_.symm.trans d)))]
  exact d
theorem GoneAt.tup (h : GoneAt P w H S L U) {D : Addr} {xs : List V} {o : HO} (d : H D = some (.tup xs)) : (upd H S o) D = some (.tup xs) := by
  rw [upd_ne (fun e => by subst e; exact setWO_tup (Option.some.inj (h.at_.symm.trans d)))]
  exact d
theorem GoneAt.ins (h : GoneAt P w H S L U) {D C dx : Addr} {fs : List (Str × V)} {o : HO} (d : H D = some (.ins C dx fs)) : (upd H S o) D = some (.ins C dx fs) := by
  rw [upd_ne (fun e => by subst e; exact setWO_ins (Option.some.inj (h.at_.symm.trans d)))]
  exact d
theorem GoneAt.pairs (h : GoneAt P w H S L U) {o : HO} {ws : List V} {ts : List Tie} (p : PairsAt H ws ts) : PairsAt (upd H S o) ws ts := Paired.mono (fun _ _ ⟨a, e, k⟩ => ⟨a, e, h.tup k⟩) p
theorem GoneAt.rows (h : GoneAt P w H S L U) {H0 : Hp} {R : Addr} {as : List Addr} {rss : List (List Int)} {o : HO} (r : RowsAt H0 H R as rss) : RowsAt H0 (upd H S o) R as rss :=
  ⟨h.lst r.top, r.new, r.len, r.nd, r.out, fun i a q e1 e2 => ⟨(r.row i a q e1 e2).1, h.lst (r.row i a q e1 e2).2⟩⟩
theorem GoneAt.over (h : GoneAt P w H S L U) {D : Addr} {xs ys : List V} (d : H D = some (.lst xs)) : GoneAt P w (upd H D (.lst ys)) S L U := by
  refine ⟨?_, fun p hp => ?_, h.perm, h.nd⟩
  · rw [upd_ne (fun e => by subst e; exact setWO_lst (Option.some.inj (h.at_.symm.trans d)))]
    exact h.at_
  · rw [upd_ne (ne_of (h.tups p hp) d (by intro z; cases z))]
    exact h.tups p hp
theorem GoneAt.add {L' : List (Addr × List Int)} {c : Addr} {u : Tie} (h : GoneAt P w H S L U) (hc : H c = some (.tup [.int u.1, .int u.2])) (c1 : kOf u ∈ L.map (·.2) → L' = L) (c2 : kOf u ∉ L.map (·.2) → L'.Perm ((c, kOf u) :: L)) :
    ∃ U', GoneAt P w (upd H S (SetWO P w S L')) S L' U' ∧ ∀ v, v ∈ U' ↔ v ∈ U ∨ v = u := by
  by_cases m : kOf u ∈ L.map (·.2)
  · rw [c1 m]
    exact ⟨U, ⟨upd_same, fun p hp => h.tup (h.tups p hp), h.perm, h.nd⟩, fun v => ⟨.inl, fun z => z.elim id fun e => e ▸ h.mem.mp m⟩⟩
  · have pm := c2 m
    refine ⟨u :: U, ⟨upd_same, fun p hp => ?_, (pm.map _).trans (h.perm.cons _), List.nodup_cons.mpr ⟨fun z => m (h.mem.mpr z), h.nd⟩⟩, fun v => ?_⟩
    · rcases List.mem_cons.mp (pm.mem_iff.mp hp) with e | z
      · rw [e]
        exact h.tup hc
      · exact h.tup (h.tups p z)
    · rw [List.mem_cons]
      exact ⟨fun z => z.elim .inr .inl, fun z => z.elim .inr .inl⟩
end
end Fd
namespace Fd
open PySem PySem.Spec PyProof.Rows L2
/-! ### for each in zip(xs, ys): the pair that was given out may be there still, or not -/
abbrev ZS (h : Heap) (z TI TO : Addr) (g : Value) (b : Bool) : Prop :=
  h.get? z = some { cls := .type "zip", dict := none, data := .fields #[g, .bool b, .bool false, .ref TI, .ref TO], slots := #[] }
def Gone (h : Heap) (g : Value) : Prop := g = .none ∨ ∃ T : Addr, g = rawInt T ∧ h.get? T = none
section
variable {P : Program} {w : World} {A : Around} {E : Value → Shared → Prop} {s : Shared} {z TI TO i1 i2 l1 l2 : Addr} {g : Value} {b : Bool} {p1 p2 : Nat} {us ws : Array Value} {u v u0 v0 : Value}
theorem zn_gone {Q : Bool → Shared → Prop} (hz : ZS s.heap z TI TO g b) (hg : Gone s.heap g) (q : Q true s) : wpAny (model P w) A (Builtin.SmallTypes.ownedTupleIsFree (.ref z)) Q E s := by
  unfold Builtin.SmallTypes.ownedTupleIsFree
  rcases hg with rfl | ⟨T, rfl, hT⟩
  · exact wpAny_bind (wpAny_field hz rfl (x := .none) rfl (wpAny_pure q))
  · refine wpAny_bind (wpAny_field hz rfl (x := rawInt T) rfl ?_)
    show wpAny _ _ (loadIfAlive ((T : Int).toNat) >>= _) _ _ _
    rw [Int.toNat_natCast]
    refine wpAny_bind ?_
    have k : wpAny (model P w) A (loadIfAlive T) (fun r s' => r = none ∧ s' = s) E s := fun _ _ _ => ⟨hT, rfl⟩
    refine wpAny_mono k (fun r s' hr => ?_) fun e s' h => h
    obtain ⟨rfl, rfl⟩ := hr
    exact wpAny_bind (wpAny_pure (wpAny_pure q))
theorem zn_item {Q : Value → Shared → Prop} (D : ZipApart z TI TO i1 i2 l1 l2) (hz : ZS s.heap z TI TO g b) (hg : Gone s.heap g) (eI : IsPair s.heap TI (.ref i1) (.ref i2)) (eO : IsPair s.heap TO u0 v0)
    (t1 : s.heap.IsListIter i1 l1 p1) (t2 : s.heap.IsListIter i2 l2 p2) (q1 : s.heap.IsList l1 us) (q2 : s.heap.IsList l2 ws) (hu : us[p1]? = some u) (hv : ws[p2]? = some v)
    (k : ∀ h' : Heap, ZS h' z TI TO (rawInt s.heap.objs.size) false → IsPair h' TO u v → h'.IsListIter i1 l1 (p1 + 1) → h'.IsListIter i2 l2 (p2 + 1) → IsPair h' s.heap.objs.size u v → h'.objs.size = s.heap.objs.size + 1 →
      (∀ c o, c ≠ z → c ≠ TO → c ≠ i1 → c ≠ i2 → s.heap.get? c = some o → h'.get? c = some o) → Q (.ref s.heap.objs.size) { s with heap := h' }) :
    wpAny (model P w) A (Builtin.«zip.__next__» ⟨[.ref z], []⟩) (fun r s' => ∃ y, r = .done (.ret y) ∧ Q y s') E s := by
  refine wpAny_bind (m := field (.ref z) 2) (wpAny_field hz rfl (x := .bool false) rfl ?_)
  refine wpAny_bind (m := field (.ref z) 3) (wpAny_field hz rfl (x := .ref TI) rfl ?_)
  refine wpAny_bind (wpAny_seqItems eI rfl ?_)
  refine wpAny_bind (m := Builtin.SmallTypes.ownedTupleIsFree (.ref z)) (zn_gone hz hg ?_)
  simp only [if_true]
  refine wpAny_bind (wpAny_rule ?_)
  refine wpAny_bind (wpAny_field hz rfl (x := .ref TO) rfl ?_)
  refine wpAny_bind (wpAny_setField_rec hz (by simp) fun ha za sa => ?_)
  replace za : ZS ha z TI TO .ellipsis b := za
  refine wpAny_bind ?_
  simp only [List.zipIdx_cons, List.zipIdx_nil, List.forIn_cons, List.forIn_nil]
  refine wpAny_bind (wpAny_bind (wpAny_onRaise ?_))
  refine wpAny_bind (m := Builtin.SmallTypes.nextOf (.ref i1)) (wpAny_nextOf_list_item (t1.extBut sa.extBut D.i1z) (q1.extBut sa.extBut D.l1z) hu fun hb tb sb => wpAny_pure ?_)
  have oB : IsPair hb TO u0 v0 := sb.extBut _ _ D.TOi1 (sa.extBut _ _ D.TOz eO)
  refine wpAny_bind (wpAny_seqItems oB rfl ?_)
  refine wpAny_bind (wpAny_updateSeq_pair oB fun hc oC sc => ?_)
  replace oC : IsPair hc TO u v0 := oC
  refine wpAny_bind (wpAny_letGo (wpAny_pure ?_))
  refine wpAny_bind (wpAny_bind (wpAny_onRaise ?_))
  have t2c := ((t2.extBut sa.extBut D.i2z).extBut sb.extBut D.i12.symm).extBut sc.extBut D.TOi2.symm
  have q2c := ((q2.extBut sa.extBut D.l2z).extBut sb.extBut D.l2i1).extBut sc.extBut D.l2TO
  refine wpAny_bind (m := Builtin.SmallTypes.nextOf (.ref i2)) (wpAny_nextOf_list_item t2c q2c hv fun hd td sd => wpAny_pure ?_)
  have oD : IsPair hd TO u v0 := sd.extBut _ _ D.TOi2 oC
  refine wpAny_bind (wpAny_seqItems oD rfl ?_)
  refine wpAny_bind (wpAny_updateSeq_pair oD fun he oE se => ?_)
  replace oE : IsPair he TO u v := oE
  refine wpAny_bind (wpAny_letGo (wpAny_pure (wpAny_pure ?_)))
  refine wpAny_bind (wpAny_seqItems oE rfl ?_)
  refine wpAny_bind (wpAny_newTuple ?_)
  have hsz : he.objs.size = s.heap.objs.size := by rw [se.1, sd.1, sc.1, sb.1, sa.1]
  have zE : ZS he z TI TO .ellipsis b := se.extBut _ _ D.TOz.symm (sd.extBut _ _ D.i2z.symm (sc.extBut _ _ D.TOz.symm (sb.extBut _ _ D.i1z.symm za)))
  have stay : ∀ c o, c ≠ z → c ≠ TO → c ≠ i1 → c ≠ i2 → s.heap.get? c = some o → he.get? c = some o := fun c o c1 c2 c3 c4 e =>
    se.extBut _ _ c2 (sd.extBut _ _ c4 (sc.extBut _ _ c2 (sb.extBut _ _ c3 (sa.extBut _ _ c1 e))))
  have t1e : he.IsListIter i1 l1 (p1 + 1) := ((tb.extBut sc.extBut D.TOi1.symm).extBut sd.extBut D.i12).extBut se.extBut D.TOi1.symm
  have t2e : he.IsListIter i2 l2 (p2 + 1) := td.extBut se.extBut D.TOi2.symm
  have zlt : z < he.objs.size := Heap.lt_size zE
  refine wpAny_bind (m := Builtin.SmallTypes.ownedTupleHandOut (.ref z) (.ref he.objs.size)) ?_
  unfold Builtin.SmallTypes.ownedTupleHandOut
  have zF : ZS (he.push { cls := .type "tuple", data := .seq #[u, v] }) z TI TO .ellipsis b := Heap.get?_push_of_some _ zE
  refine wpAny_bind (wpAny_setField_rec zF (by simp) fun hg zg sg => ?_)
  replace zg : ZS hg z TI TO (rawInt he.objs.size) b := zg
  refine wpAny_setField_rec zg (by simp) fun hh zh sh => ?_
  replace zh : ZS hh z TI TO (rawInt he.objs.size) false := zh
  have up : ∀ c o, c ≠ z → he.get? c = some o → hh.get? c = some o := fun c o c1 e => sh.extBut _ _ c1 (sg.extBut _ _ c1 (Heap.get?_push_of_some _ e))
  have new : IsPair hh he.objs.size u v := sh.extBut _ _ (Nat.ne_of_gt zlt) (sg.extBut _ _ (Nat.ne_of_gt zlt) (Heap.get?_push_size _ rfl))
  have big : hh.objs.size = he.objs.size + 1 := by rw [sh.1, sg.1, Heap.size_push]
  rw [hsz] at zh new big
  refine wpAny_pure ⟨_, rfl, ?_⟩
  show Q (.ref he.objs.size) _
  rw [hsz]
  exact k hh zh (up _ _ D.TOz oE) (t1e.at fun o e => up _ o D.i1z e) (t2e.at fun o e => up _ o D.i2z e) new big fun c o c1 c2 c3 c4 e => up c o c1 (stay c o c1 c2 c3 c4 e)
theorem zn_end {Q : Fin → Shared → Prop} (hh : A.handled = none) (D : ZipApart z TI TO i1 i2 l1 l2) (hz : ZS s.heap z TI TO g b) (hg : Gone s.heap g) (eI : IsPair s.heap TI (.ref i1) (.ref i2)) (eO : IsPair s.heap TO u0 v0)
    (t1 : s.heap.IsListIter i1 l1 p1) (t2 : s.heap.IsListIter i2 l2 p2) (q1 : s.heap.IsList l1 us) (q2 : s.heap.IsList l2 ws) (hend : us[p1]? = none ∨ ws[p2]? = none)
    (k : ∀ (h' : Heap) (e : Addr), (∀ c o, c ≠ z → c ≠ TO → c ≠ i1 → c ≠ i2 → s.heap.get? c = some o → h'.get? c = some o) → (∃ o, h'.get? e = some o ∧ o.cls = .type "StopIteration") → E (.ref e) { s with heap := h' }) :
    wpAny (model P w) A (Builtin.«zip.__next__» ⟨[.ref z], []⟩) Q E s := by
  refine wpAny_bind (m := field (.ref z) 2) (wpAny_field hz rfl (x := .bool false) rfl ?_)
  refine wpAny_bind (m := field (.ref z) 3) (wpAny_field hz rfl (x := .ref TI) rfl ?_)
  refine wpAny_bind (wpAny_seqItems eI rfl ?_)
  refine wpAny_bind (m := Builtin.SmallTypes.ownedTupleIsFree (.ref z)) (zn_gone hz hg ?_)
  simp only [if_true]
  refine wpAny_bind (wpAny_rule ?_)
  refine wpAny_bind (wpAny_field hz rfl (x := .ref TO) rfl ?_)
  refine wpAny_bind (wpAny_setField_rec hz (by simp) fun ha za sa => ?_)
  replace za : ZS ha z TI TO .ellipsis b := za
  refine wpAny_bind ?_
  simp only [List.zipIdx_cons, List.zipIdx_nil, List.forIn_cons, List.forIn_nil]
  refine wpAny_bind (wpAny_bind (wpAny_onRaise ?_))
  cases hu : us[p1]? with
  | none =>
    refine wpAny_bind (m := Builtin.SmallTypes.nextOf (.ref i1)) (wpAny_nextOf_list_end hh (t1.extBut sa.extBut D.i1z) (q1.extBut sa.extBut D.l1z) hu fun hb e sb he => ?_)
    obtain ⟨oe, ho, hc⟩ := he
    have zb : ZS hb z TI TO .ellipsis b := sb _ _ D.i1z.symm za
    have ez : e ≠ z := fun x => by subst x; rw [zb] at ho; cases ho; simp at hc
    refine wpAny_setField_rec zb (by simp) fun hd _ sd => k hd e (fun c o c1 _ c3 _ x => sd.extBut _ _ c1 (sb _ _ c3 (sa.extBut _ _ c1 x))) ⟨oe, sd.extBut _ _ ez ho, hc⟩
  | some u =>
    have hv : ws[p2]? = none := by
      rcases hend with h | h
      · rw [hu] at h
        cases h
      · exact h
    refine wpAny_bind (m := Builtin.SmallTypes.nextOf (.ref i1)) (wpAny_nextOf_list_item (t1.extBut sa.extBut D.i1z) (q1.extBut sa.extBut D.l1z) hu fun hb tb sb => wpAny_pure ?_)
    have oB : IsPair hb TO u0 v0 := sb.extBut _ _ D.TOi1 (sa.extBut _ _ D.TOz eO)
    refine wpAny_bind (wpAny_seqItems oB rfl ?_)
    refine wpAny_bind (wpAny_updateSeq_pair oB fun hc oC sc => ?_)
    refine wpAny_bind (wpAny_letGo (wpAny_pure ?_))
    refine wpAny_bind (wpAny_bind (wpAny_onRaise ?_))
    have t2c := ((t2.extBut sa.extBut D.i2z).extBut sb.extBut D.i12.symm).extBut sc.extBut D.TOi2.symm
    have q2c := ((q2.extBut sa.extBut D.l2z).extBut sb.extBut D.l2i1).extBut sc.extBut D.l2TO
    refine wpAny_bind (m := Builtin.SmallTypes.nextOf (.ref i2)) (wpAny_nextOf_list_end hh t2c q2c hv fun hd e sd he => ?_)
    obtain ⟨oe, ho, hcl⟩ := he
    have zd : ZS hd z TI TO .ellipsis b := sd _ _ D.i2z.symm (sc.extBut _ _ D.TOz.symm (sb.extBut _ _ D.i1z.symm za))
    have ez : e ≠ z := fun x => by subst x; rw [zd] at ho; cases ho; simp at hcl
    refine wpAny_setField_rec zd (by simp) fun hf _ sf => k hf e (fun c o c1 c2 c3 c4 x => sf.extBut _ _ c1 (sd _ _ c4 (sc.extBut _ _ c2 (sb.extBut _ _ c3 (sa.extBut _ _ c1 x))))) ⟨oe, sf.extBut _ _ ez ho, hcl⟩
/-- the next pair is a new one, whatever became of the one before -/
theorem zn_next {Q : Option Value → Shared → Prop} (D : ZipApart z TI TO i1 i2 l1 l2) (hz : ZS s.heap z TI TO g b) (hg : g = .none ∨ ∃ T : Addr, g = rawInt T) (eI : IsPair s.heap TI (.ref i1) (.ref i2)) (eO : IsPair s.heap TO u0 v0)
    (t1 : s.heap.IsListIter i1 l1 p1) (t2 : s.heap.IsListIter i2 l2 p2) (q1 : s.heap.IsList l1 us) (q2 : s.heap.IsList l2 ws) (hu : us[p1]? = some u) (hv : ws[p2]? = some v)
    (k : ∀ (h' : Heap) (T : Addr) (b' : Bool), ZS h' z TI TO (rawInt T) b' → (∃ x y, IsPair h' TO x y) → h'.IsListIter i1 l1 (p1 + 1) → h'.IsListIter i2 l2 (p2 + 1) → IsPair h' s.heap.objs.size u v → h'.objs.size = s.heap.objs.size + 1 →
      (∀ c o, c ≠ z → c ≠ TO → c ≠ i1 → c ≠ i2 → s.heap.get? c = some o → h'.get? c = some o) → Q (some (.ref s.heap.objs.size)) { s with heap := h' }) :
    wpAny (model P w) A (pyNext (.ref z)) Q E s := by
  have ty : s.TypeIs (.ref z) "zip" := ⟨_, hz, rfl⟩
  have free : Gone s.heap g → wpAny (model P w) A (pyNext (.ref z)) Q E s := fun hg => by
    unfold pyNext
    exact wpAny_bind (wpAny_attempt (wpAny_callSpecial?_slot (name := Str.ofString "__next__") ty F.slot_zip_next (wpAny_call_entry F.slot_zip_next ty F.entry_zip_next
      (zn_item D hz hg eI eO t1 t2 q1 q2 hu hv fun h' a1 a2 a3 a4 a5 a6 a7 => wpAny_pure (k h' _ _ a1 ⟨_, _, a2⟩ a3 a4 a5 a6 a7)) (F.args_zip_next_1 _))))
  rcases hg with rfl | ⟨T, rfl⟩
  · exact free (.inl rfl)
  · cases e : s.heap.get? T with
    | none => exact free (.inr ⟨T, rfl, e⟩)
    | some oT => exact wpAny_pyNext_zip_item_held D hz e eI t1 t2 q1 q2 hu hv fun h' a1 a3 a4 a5 a6 a7 => k h' T true a1 ⟨_, _, a7 _ _ D.TOz D.TOi1 D.TOi2 eO⟩ a3 a4 a5 a6 fun c o c1 _ c3 c4 x => a7 c o c1 c3 c4 x
theorem zn_stop {Q : Option Value → Shared → Prop} (hh : A.handled = none) (D : ZipApart z TI TO i1 i2 l1 l2) (hz : ZS s.heap z TI TO g b) (hg : g = .none ∨ ∃ T : Addr, g = rawInt T) (eI : IsPair s.heap TI (.ref i1) (.ref i2)) (eO : IsPair s.heap TO u0 v0)
    (t1 : s.heap.IsListIter i1 l1 p1) (t2 : s.heap.IsListIter i2 l2 p2) (q1 : s.heap.IsList l1 us) (q2 : s.heap.IsList l2 ws) (hend : us[p1]? = none ∨ ws[p2]? = none)
    (k : ∀ h' : Heap, (∀ c o, c ≠ z → c ≠ TO → c ≠ i1 → c ≠ i2 → s.heap.get? c = some o → h'.get? c = some o) → Q none { s with heap := h' }) : wpAny (model P w) A (pyNext (.ref z)) Q E s := by
  have ty : s.TypeIs (.ref z) "zip" := ⟨_, hz, rfl⟩
  have free : Gone s.heap g → wpAny (model P w) A (pyNext (.ref z)) Q E s := fun hg => by
    unfold pyNext
    refine wpAny_bind (wpAny_attempt (wpAny_callSpecial?_slot (name := Str.ofString "__next__") ty F.slot_zip_next (wpAny_call_entry F.slot_zip_next ty F.entry_zip_next
      (zn_end hh D hz hg eI eO t1 t2 q1 q2 hend fun h' e hk he => ?_) (F.args_zip_next_1 _))))
    obtain ⟨o, ho, hc⟩ := he
    exact wpAny_bind (wpAny_isInstance (T := "StopIteration") (b := true) ⟨o, ho, hc⟩ isSubtype_stop (wpAny_pure (k _ hk)))
  rcases hg with rfl | ⟨T, rfl⟩
  · exact free (.inl rfl)
  · cases e : s.heap.get? T with
    | none => exact free (.inr ⟨T, rfl, e⟩)
    | some oT => exact wpAny_pyNext_zip_end_held hh D hz e eI t1 t2 q1 q2 hend fun h' a7 => k h' fun c o c1 _ c3 c4 x => a7 c o c1 c3 c4 x
end
theorem turn_zipN {P : Program} {w : World} {K : PySem.W.Frag} {x : Str} {tpos : Pos} {a b z TI TO i1 i2 : Addr} (D : ZipApart z TI TO i1 i2 a b) :
    Turn P w K (.Name x tpos) (Itz K a b) [z, TI, TO, i1, i2] z (fun i h => (∃ g f, ZS h z TI TO g f ∧ (g = .none ∨ ∃ T : Addr, g = rawInt T)) ∧ IsPair h TI (.ref i1) (.ref i2) ∧ (∃ x y, IsPair h TO x y) ∧ h.IsListIter i1 a i ∧ h.IsListIter i2 b i) where
  mem := List.mem_cons_self
  obj := fun i h st c hc => by
    obtain ⟨⟨g, f, hz, _⟩, hI, ⟨x, y, hO⟩, ⟨o1, e1, _, d1⟩, ⟨o2, e2, _, d2⟩⟩ := st
    simp only [List.mem_cons, List.not_mem_nil, or_false] at hc
    rcases hc with rfl | rfl | rfl | rfl | rfl
    · exact ⟨_, hz, fun v q => nomatch q⟩
    · exact ⟨_, hI, fun v q => nomatch q⟩
    · exact ⟨_, hO, fun v q => nomatch q⟩
    · refine ⟨o1, e1, fun v q => ?_⟩
      rw [d1] at q
      cases q
    · refine ⟨o2, e2, fun v q => ?_⟩
      rw [d2] at q
      cases q
  keep := fun i h h' st k => by
    obtain ⟨⟨g, f, hz, hg⟩, hI, ⟨x, y, hO⟩, t1, t2⟩ := st
    refine ⟨⟨g, f, k z (by simp) _ hz, hg⟩, k TI (by simp) _ hI, ⟨x, y, k TO (by simp) _ hO⟩, t1.at fun o q => k i1 (by simp) o q, t2.at fun o q => k i2 (by simp) o q⟩
  item := by
    intro X hP hw hK hc i pins s σ H E I hf st hg
    subst hP hw hK
    obtain ⟨⟨g, f, hz, hg0⟩, hI, ⟨x0, y0, hO⟩, t1, t2⟩ := st
    obtain ⟨xs, ys, x, y, hqx, hqy, hx, hy⟩ := hg
    obtain ⟨its, rv, p, _⟩ := I.list hqx
    obtain ⟨its2, rv2, p2, _⟩ := I.list hqy
    obtain ⟨u, hu, ru⟩ := rv.get hx
    obtain ⟨u2, hu2, ru2⟩ := rv2.get hy
    refine zn_next D hz hg0 hI hO t1 t2 p.isList p2.isList (u := u) (v := u2) (by simpa using hu) (by simpa using hu2) fun h' T b' zz oo tt1 tt2 hT hsz hk => ?_
    have new : ObjOk X.prog X.w (upd H s.heap.objs.size (.tup [x, y])) h' s.heap.objs.size (.tup [x, y]) :=
      ⟨by show 2 ≤ sizeLine; decide, [u, u2], .cons ru (.cons ru2 .nil), ⟨_, hT, rfl, _, rfl⟩⟩
    have I1 : Inv X pins σ (upd H s.heap.objs.size (.tup [x, y])) { s with heap := h' } :=
      I.turnedNew (t' := s.toks) (ch := [z, TI, TO, i1, i2]) (fun c o hb q => hk c o (fun e => hb (by simp [e])) (fun e => hb (by simp [e])) (fun e => hb (by simp [e])) (fun e => hb (by simp [e])) q) hf (Nat.le_refl _) new
    refine ⟨_, rfl, wpAny_pure ⟨.ref s.heap.objs.size, _, I1, rfl, ⟨_, x, y, rfl, I.hok.fresh (Nat.le_refl _), rfl, fun l hl => by rw [I.list_inj hl hqx]; exact hx, fun l hl => by rw [I.list_inj hl hqy]; exact hy⟩,
      ⟨⟨_, b', zz, .inr ⟨T, rfl⟩⟩, hk _ _ D.TIz D.TITO D.TIi1 D.TIi2 hI, oo, tt1, tt2⟩, fun c hcm => ?_⟩⟩
    have hlt : c < s.heap.objs.size := by
      simp only [List.mem_cons, List.not_mem_nil, or_false] at hcm
      rcases hcm with rfl | rfl | rfl | rfl | rfl
      · exact Heap.lt_size hz
      · exact Heap.lt_size hI
      · exact Heap.lt_size hO
      · obtain ⟨_, e1, _⟩ := t1
        exact Heap.lt_size e1
      · obtain ⟨_, e2, _⟩ := t2
        exact Heap.lt_size e2
    rw [upd_ne (Nat.ne_of_lt hlt)]
    exact (hf c hcm).1
  done := by
    intro X hP hw hK hc i pins s σ H E I hf st hg
    subst hP hw hK
    obtain ⟨⟨g, f, hz, hg0⟩, hI, ⟨x0, y0, hO⟩, t1, t2⟩ := st
    obtain ⟨xs, ys, hqx, hqy, hend⟩ := hg
    obtain ⟨its, rv, p, _⟩ := I.list hqx
    obtain ⟨its2, rv2, p2, _⟩ := I.list hqy
    have n1 := rv.length
    have n2 := rv2.length
    have he : its.toArray[i]? = none ∨ its2.toArray[i]? = none := by
      rcases hend with q | q
      · exact .inl (by simp; omega)
      · exact .inr (by simp; omega)
    exact zn_stop (I.ok.hd hc) D hz hg0 hI hO t1 t2 p.isList p2.isList he fun h' hk => ⟨rfl, I.turnedL (t' := s.toks) (ch := [z, TI, TO, i1, i2]) (fun c o hb q =>
      hk c o (fun e => hb (by simp [e])) (fun e => hb (by simp [e])) (fun e => hb (by simp [e])) (fun e => hb (by simp [e])) q) hf⟩
  self := fun A i s Q E st h => by
    obtain ⟨⟨g, f, hz, _⟩, _⟩ := st
    have ty : s.TypeIs (.ref z) "zip" := ⟨_, hz, rfl⟩
    refine wpAny_pyIter_slot ty F.slot_zip_iter (wpAny_call_entry F.slot_zip_iter ty F.entry_zip_iter ?_ (F.args_zip_iter_1 _))
    exact wpAny_pure ⟨_, rfl, "zip", _, ty, F.slot_zip_next.lookup, h⟩
theorem pi_zipN {X : Cx} {e e2 : Expr} {ta : TA} {p pos tpos : Pos} {x : Str} (hg : Gl X "zip") (hm : X.mg "zip" = none) (ha : PA X [e, e2] ta)
    (hs : starEach [e, e2] X.env = (false, eval e X.env) :: starEach [e2] X.env := by rfl) (hpl : (backTo pos (starEach [e2] X.env)).any (·.1) = false := by rfl) :
    PI X (.Name x tpos) (.Call (.Name "zip" p) [e, e2] [] pos) (iZip X.K ta) := by
  refine ⟨fun pins s σ H R I h => ?_⟩
  refine Call_ (ld_blt I hg hm boot_zip (callWith_type1 (thn (ha.run pos pins s σ H _ I h) fun us s1 ⟨vs, H1, I1, r1, q1⟩ => ?_) hs hpl))
  obtain ⟨a, b, xs, ys, rfl, hqx, hqy, q⟩ := q1
  obtain ⟨v1, v2, rfl, r, r'⟩ := vals2 r1
  cases r
  cases r'
  obtain ⟨its, rv, p1, _⟩ := I1.list hqx
  obtain ⟨its2, rv2, p2, _⟩ := I1.list hqy
  refine call_zip_2 p1.isList p2.isList fun h' hz hI hO t1 t2 hsz hk => wpAny_pyIter_zip hz ?_
  have I2 : Inv X pins σ H1 { s1 with heap := h' } := I1.kept (t' := s1.toks) hk
  refine ⟨s1.heap.objs.size + 4, [s1.heap.objs.size + 4, s1.heap.objs.size + 2, s1.heap.objs.size + 3, s1.heap.objs.size, s1.heap.objs.size + 1], _, _, H1, rfl, I2, turn_zipN (PySem.W.ktu_apart s1.heap.objs.size a b p1.lt p2.lt), ⟨⟨_, _, hz, .inl rfl⟩, hI, ⟨_, _, hO⟩, t1, t2⟩, fun c hcm => ?_, q⟩
  have hle : s1.heap.objs.size ≤ c := by
    simp only [List.mem_cons, List.not_mem_nil, or_false] at hcm
    rcases hcm with rfl | rfl | rfl | rfl | rfl
    · exact Nat.le_add_right _ _
    · exact Nat.le_add_right _ _
    · exact Nat.le_add_right _ _
    · exact Nat.le_refl _
    · exact Nat.le_add_right _ _
  exact I1.fpOk hle (I1.hok.fresh hle)
end Fd
namespace Fd
open PySem PySem.Spec PyProof.Rows L2
/-! ### min of a list of pairs, a pair taken out of a list of pairs -/
theorem lexT_irr (a : Tie) : ¬ lexT a a := fun h => by
  unfold lexT at h
  omega
theorem dlt_pr (t u : Tie) (h : PySem.W.dataLt (prd t) (prd u) = true) : lexT t u := by
  have e := PySem.W.DatumOrd.lt_eq (α := Int × Int) t u
  have e2 : (if t.1 = u.1 then decide (t.2 < u.2) else decide (t.1 < u.1)) = true := e.symm.trans h
  unfold lexT
  by_cases c : t.1 = u.1
  · rw [if_pos c] at e2
    exact .inr ⟨c, of_decide_eq_true e2⟩
  · rw [if_neg c] at e2
    exact .inl (of_decide_eq_true e2)
theorem minD_head (d : Tie) : ∀ {ts : List Tie}, (∀ u ∈ ts, ¬ lexT u d) → PySem.W.minD (prd d) (ts.map prd) = prd d
  | [], _ => rfl
  | t :: ts, h => by
    unfold PySem.W.minD
    rw [List.map_cons, List.foldl_cons]
    have c : ¬ PySem.W.dataLt (prd t) (prd d) = true := fun z => h t List.mem_cons_self (dlt_pr t d z)
    rw [if_neg c]
    exact minD_head d fun u hu => h u (List.mem_cons_of_mem _ hu)
theorem prd_inj {t u : Tie} (h : prd t = prd u) : t = u := by
  unfold prd at h
  simp only [PyData.tuple.injEq, List.cons.injEq, PyData.int.injEq] at h
  exact Prod.ext h.1 h.2.1
def rMinP (K : PySem.W.Frag) : List V → Hp → VK → Prop := fun xs H Q => ∃ (a : Addr) (ws : List V) (d : Tie) (ts : List Tie), xs = [V.ref a] ∧ SqL K H a ws ∧ PairsAt H ws (d :: ts) ∧ (∀ u ∈ ts, ¬ lexT u d) ∧ ∀ t, H t = some (.tup [.int d.1, .int d.2]) → Q (.ref t) H
def rRemP (K : PySem.W.Frag) : V → List V → Hp → VK → Prop := fun x xs H Q => ∃ (l : Addr) (ws : List V) (ts : List Tie) (y : V) (t : Tie) (j : Nat), x = .ref l ∧ xs = [y] ∧ H l = some (.lst ws) ∧ PairsAt H ws ts ∧ PairAt H y t ∧ ts[j]? = some t ∧ (∀ i, i < j → ts[i]? ≠ some t) ∧
  Q .non (upd H l (.lst (ws.eraseIdx j)))
section
variable {X : Cx}
theorem cr_minP (hc : X.calm = true) (hu : X.A.units + 64 < cLine) : CallR X (.builtin "min") (rMinP X.K) := by
  intro pins s σ H x us Q I r h
  obtain ⟨a, ws, d, ts, rfl, hs, hp, hd, q⟩ := h
  obtain ⟨its, rv, hl, _⟩ := I.list hs
  rw [Vals.ref1 r]
  obtain ⟨as, hr⟩ := Dp.readsAll I _ ws its (dp_all hp) rv
  have dep := prds_depth (d :: ts)
  have alk : PySem.W.AlikeAll ((d :: ts).map prd) := by
    refine ⟨fun x hx y hy => ?_, fun x hx => ?_⟩
    · obtain ⟨t, _, rfl⟩ := List.mem_map.mp hx
      obtain ⟨u, _, rfl⟩ := List.mem_map.mp hy
      exact PySem.W.DatumOrd.alike (α := Int × Int) t u
    · obtain ⟨t, _, rfl⟩ := List.mem_map.mp hx
      exact fun z => by cases z
  refine PySem.W.min_list_data (x := prd d) (xs := ts.map prd) (I.ok.hd hc) hl.isList hr alk ?_ fun i v h' tk bs hi hr2 keep => ?_
  · have e : PyData.depthAll (prd d :: ts.map prd) ≤ 1 := dep
    omega
  · rw [minD_head d hd] at hr2
    have hi' : its[i]? = some v := by simpa using hi
    have il : i < ws.length := by
      have h1 := (List.getElem?_eq_some_iff.mp hi').1
      have h2 := rv.length
      omega
    obtain ⟨u, hu1, ru⟩ := rv.get (List.getElem?_eq_getElem il)
    obtain rfl : v = u := Option.some.inj (hi'.symm.trans hu1)
    obtain ⟨t, ht, c, ec, hc2⟩ := paired_get hp (List.getElem?_eq_getElem il)
    rw [ec] at ru
    cases (show v = Value.ref c from ru)
    obtain ⟨cs, hr3⟩ := Dp.reads I (prd t) (.ref c) (.ref c) (dp_pair ⟨c, rfl, hc2⟩) rfl
    have e := (Reads.unique hr2 _ _ (Reads.keeps keep hr3)).1
    obtain rfl := prd_inj e
    exact ⟨.ref c, H, I.kept keep, rfl, q c hc2⟩
theorem plain_prds : ∀ ts : List Tie, PyData.plainAll (ts.map prd) = true
  | [] => rfl
  | t :: ts => by
    show (PyData.plain (prd t) && PyData.plainAll (ts.map prd)) = true
    rw [plain_prds ts, Bool.and_true]
    rfl
theorem place_prd : ∀ {ts : List Tie} {t : Tie} {j : Nat}, ts[j]? = some t → (∀ i, i < j → ts[i]? ≠ some t) → SeqAt.dataPlace (ts.map prd) (prd t) = some j
  | [], t, j, h, _ => by simp at h
  | u :: ts, t, 0, h, _ => by
    cases Option.some.inj h
    unfold SeqAt.dataPlace
    rw [List.map_cons, List.findIdx?_cons, prd_eqv, decide_eq_true rfl]
    rfl
  | u :: ts, t, j + 1, h, no => by
    have ne : ¬ u = t := fun z => no 0 (Nat.succ_pos j) (by rw [z]; rfl)
    have ih := place_prd (ts := ts) (t := t) (j := j) h fun i hi => no (i + 1) (Nat.succ_lt_succ hi)
    unfold SeqAt.dataPlace at ih ⊢
    rw [List.map_cons, List.findIdx?_cons, prd_eqv, decide_eq_false ne, ih]
    rfl
theorem mt_removeP (hu : X.A.units + 65 < cLine) : MtM X "list.remove" (rRemP X.K) := by
  intro pins s σ H x xs v us Q I rx rxs h
  obtain ⟨l, ws, ts, y, t, j, rfl, rfl, hH, hp, hy, hj, hno, q⟩ := h
  cases rx
  obtain ⟨u, rfl, ru⟩ := rxs.one
  obtain ⟨z, its, n, r, hl, e⟩ := I.lstM hH
  obtain ⟨as, hr⟩ := Dp.readsAll I _ ws its (dp_all hp) r
  obtain ⟨bs, hr2⟩ := Dp.reads I (prd t) y u (dp_pair hy) ru
  have dep := prds_depth ts
  have dt := prd_depth t
  refine SeqAt.remove_list_data (vs := its.toArray) ⟨_, e, rfl, n, rfl⟩ hr hr2 (plain_prds ts) rfl ?_ (place_prd hj hno) (by rw [List.size_toArray]; omega) ?_
  · have := Nat.min_le_left (PyData.depthAll (ts.map prd)) (prd t).depth
    omega
  · refine ⟨.non, _, I.lset (its' := its.eraseIdx j) (t' := s.toks) hH e ?_ (r.eraseIdx j) ?_, rfl, q⟩
    · show its.toArray.eraseIdxIfInBounds j = (its.eraseIdx j).toArray
      rw [List.eraseIdxIfInBounds_toArray]
    · have z2 := List.length_eraseIdx_le ws j
      omega
end
end Fd
namespace Fd
open PySem PySem.Spec PyProof.Rows L2
/-! ### defs that may raise -/
structure CalX (P : Program) (w : World) (K : PySem.W.Frag) (mg : Str → Option Value) (base : Heap) (k : Nat) (x : Str) (sp : Sp) : Prop where
  ex : ∃ (f : Addr) (fd : FuncData) (ps : List Str), FnOk P w K mg base (L2.CX P w) k f fd ps sp ∧ mg x = some (.ref f) ∧ PySem.W.keepIn K (.ref f) = true ∧ Binds K fd ps []
structure MetX (P : Program) (w : World) (K : PySem.W.Frag) (mg : Str → Option Value) (base : Heap) (k : Nat) (C : Addr) (m : Str) (sp : Sp) : Prop where
  ex : ∃ (f : Addr) (fd : FuncData) (ps : List Str), Cls K C ∧ Meth K C m f ∧ FnOk P w K mg base (L2.CX P w) k f fd ps sp ∧ Binds K fd ps []
structure MakX (P : Program) (w : World) (K : PySem.W.Frag) (mg : Str → Option Value) (base : Heap) (k : Nat) (x : Str) (C : Addr) (sp : Sp) : Prop where
  ex : ∃ (f : Addr) (fd : FuncData) (ps : List Str), Mk K C f ∧ FnOk P w K mg base (L2.CX P w) k f fd ps sp ∧ mg x = some (.ref C) ∧ Binds K fd ps []
section
variable {P : Program} {w : World} {K : PySem.W.Frag} {mg : Str → Option Value} {base : Heap}
abbrev BodyX (P : Program) (w : World) (K : PySem.W.Frag) (mg : Str → Option Value) (base : Heap) (k : Nat) (qual : Str) (st : Stmt) (N : List Str) (sp : Sp) : Prop :=
  ∀ (f : Addr) (cdv : Value) (A : Around) (outer : List Env) (s : Shared) (H : Hp) (vs : List V) (Q : VK) (E : XK), Room k (A.deeper (envOfC qual (defScope st) s.heap.objs.size f cdv)) → sp vs H Q E →
    ∃ t, PSs (cxOf (L2.CX P w) P w K mg base N qual (defScope st) f cdv A outer s H E) (defBody st) t ∧ t { nx := fun _ H' => Q .non H', rt := Q } (start N vs) H
theorem calX_of {x : Str} {st : Stmt} {N ps : List Str} {k : Nat} {sp : Sp} (F : Fn K mg x st ps) (S : FnScope N ps (defScope st)) (len : ∀ vs H Q E, sp vs H Q E → vs.length = ps.length) (hb : BodyX P w K mg base k x st N sp) : CalX P w K mg base (k + 1) x sp := by
  obtain ⟨f, fd, F, hm, b⟩ := F.ex
  exact ⟨f, fd, ps, F.okX S len fun cdv A outer s H vs Q E hr h => hb f cdv A outer s H vs Q E hr h, hm, F.kp, b⟩
theorem metX_of {C : Addr} {m qual : Str} {st : Stmt} {N ps : List Str} {k : Nat} {sp : Sp} (c : Cls K C) (F : FnM K C m qual st ps) (S : FnScope N ps (defScope st)) (len : ∀ vs H Q E, sp vs H Q E → vs.length = ps.length) (hb : BodyX P w K mg base k qual st N sp) : MetX P w K mg base (k + 1) C m sp := by
  obtain ⟨f, fd, F, hm, b⟩ := F.ex
  exact ⟨f, fd, ps, c, hm, F.okX S len fun cdv A outer s H vs Q E hr h => hb f cdv A outer s H vs Q E hr h, b⟩
theorem makX_of {C : Addr} {x qual : Str} {st : Stmt} {N ps : List Str} {k : Nat} {sp : Sp} (g : mg x = some (.ref C)) (F : FnI K C qual st ps) (S : FnScope N ps (defScope st)) (len : ∀ vs H Q E, sp vs H Q E → vs.length = ps.length) (hb : BodyX P w K mg base k qual st N sp) : MakX P w K mg base (k + 1) x C sp := by
  obtain ⟨f, fd, F, hm, b⟩ := F.ex
  exact ⟨f, fd, ps, hm, F.okX S len fun cdv A outer s H vs Q E hr h => hb f cdv A outer s H vs Q E hr h, g, b⟩
end
section
variable {X : Cx} {k j : Nat} {C : Addr} {x m : Str} {sp : Sp} {E : XK} {p pos apos : Pos} {e o : Expr} {es : List Expr} {ta : TE} {t : TA}
theorem pe_cX (c : CalX X.prog X.w X.K X.mg X.base k x sp) (hr : Room j X.A) (hk : k ≤ j) (hg : Gl X x) (hx : Passes (L2.CX X.prog X.w) X E) (ha : PA X (e :: es) t)
    (hdb : (x == ("__debug__" : Str)) = false := by decide) (he : starEach (e :: es) X.env = (false, eval e X.env) :: starEach es X.env := by rfl) (hpl : (backTo pos (starEach es X.env)).any (·.1) = false := by rfl) : PE X (.Call (.Name x p) (e :: es) [] pos) (tCall sp [] E t) := by
  obtain ⟨f, fd, ps, F, hm, kp, b⟩ := c.ex
  exact pe_call F (hr.mono hk) hg hm kp b .nil hx ha hdb he hpl
theorem pe_mkX (c : MakX X.prog X.w X.K X.mg X.base k x C sp) (hr : Room j X.A) (hk : k + 1 ≤ j) (hg : Gl X x) (hx : Passes (L2.CX X.prog X.w) X E) (ha : PA X (e :: es) t)
    (hdb : (x == ("__debug__" : Str)) = false := by decide) (he : starEach (e :: es) X.env = (false, eval e X.env) :: starEach es X.env := by rfl) (hpl : (backTo pos (starEach es X.env)).any (·.1) = false := by rfl) : PE X (.Call (.Name x p) (e :: es) [] pos) (tMake C sp [] E t) := by
  obtain ⟨f, fd, ps, M, F, hm, b⟩ := c.ex
  exact pe_make M F (hr.mono hk) hg hm b .nil hx ha hdb he hpl
theorem pe_mtX {pl : Sem Bool} (c : MetX X.prog X.w X.K X.mg X.base k C m sp) (hr : Room j X.A) (hk : k ≤ j) (hx : Passes (L2.CX X.prog X.w) X E) (he : PE X o ta) (ha : PA X (e :: es) t)
    (hst : starEach (e :: es) X.env = (false, eval e X.env) :: starEach es X.env := by rfl) (hpl : (backTo pos (starEach es X.env)).any (·.1) = false := by rfl)
    (ht : eval (.Call (.Attribute o m apos) (e :: es) [] pos) X.env = (do
      let ov ← eval o X.env
      standAt apos.atName
      let (f, first) ← holding [ov] (getMethod ov m pl)
      callWith pos f first (backTo pos (starEach (e :: es) X.env)) (backToKw pos (keywordEach [] X.env))) := by rfl) : PE X (.Call (.Attribute o m apos) (e :: es) [] pos) (tMeth C m sp [] E ta t) := by
  obtain ⟨f, fd, ps, hc, hm, F, b⟩ := c.ex
  exact pe_meth (pl := pl) he hc hm F (hr.mono hk) b .nil hx ha hst hpl ht
end
/-! ### the error classes -/
abbrev bmV : List Value := [.type "ValueError", .type "Exception", .type "BaseException", .type "object"]
structure Err (K : PySem.W.Frag) (mg : Str → Option Value) (x : Str) (D : Addr) : Prop where
  g : mg x = some (.ref D)
  x : PySem.W.excIn K D bmV "ValueError.__new__" = true
  k : PySem.W.keepIn K (.ref D) = true
  b : PySem.W.subIn K (.ref D) (.type "BaseException") = some true
  t : PySem.W.typeIn K (.ref D) = some (.type "type")
theorem SqT.same {K : PySem.W.Frag} {H H' : Hp} {a : Addr} {xs : List V} (s : Same H H') (h : SqT K H a xs) : SqT K H' a xs := by
  rcases h with (h | ⟨o, h⟩) | h
  · exact .inl (.inl (s _ _ h))
  · exact .inl (.inr ⟨o, s _ _ h⟩)
  · exact .inr h
theorem TyB.same {K : PySem.W.Frag} {H H' : Hp} {x : V} {T : String} (s : Same H H') (h : TyB K H x T) : TyB K H' x T := by
  cases h with
  | non => exact .non
  | bl b => exact .bl b
  | int i => exact .int i
  | str x => exact .str x
  | byt b => exact .byt b
  | lst h => exact .lst (s.seq h)
  | tup h => exact .tup (SqT.same s h)
  | dK h => exact .dK (s _ _ h)
end Fd
namespace Fd
open PySem PySem.Spec PyProof.Rows L2
theorem flat_len {m : Nat} {ts : List Tie} {i : Nat} (hi : i ≤ 16) (hm : m ≤ 16) : ((pts i).flatMap (pickT m ts)).length ≤ 16 * 16 := by
  have h : ∀ l : List Int, (l.flatMap (pickT m ts)).length ≤ 16 * l.length := fun l => by
    induction l with
    | nil => simp
    | cons a l ih =>
      have h1 : (pickT m ts a).length ≤ 16 := by
        unfold pickT
        rw [List.length_map]
        have h2 := List.length_filter_le (fun y => decide (a < y)) (rowOf m ts a)
        have h3 := rowOf_len m ts a
        omega
      rw [List.flatMap_cons, List.length_append, List.length_cons]
      omega
  have h2 := h (pts i)
  rw [pts_len] at h2
  omega
/-! ### a web in the heap -/
def wF (m : Nat) (R : Addr) : List (Str × V) := [("many", .int m), ("_rows", .ref R)]
theorem lkHere {k : Str} {v : V} {r : List (Str × V)} : List.lookup k ((k, v) :: r) = some v := by simp [List.lookup]
theorem lkPast {k g : Str} {v : V} {r : List (Str × V)} (h : (k == g) = false) : List.lookup k ((g, v) :: r) = List.lookup k r := by simp [List.lookup, h]
theorem wF_many (m : Nat) (R : Addr) : (wF m R).lookup ("many" : Str) = some (.int m) := lkHere
theorem wF_rows (m : Nat) (R : Addr) : (wF m R).lookup ("_rows" : Str) = some (.ref R) := (lkPast (by decide +kernel)).trans lkHere
theorem wF_no (m : Nat) (R : Addr) {x : Str} (h1 : (x == ("many" : Str)) = false) (h2 : (x == ("_rows" : Str)) = false) : (wF m R).lookup x = none := (lkPast h1).trans ((lkPast h2).trans rfl)
theorem wF_new (m : Nat) (R : Addr) : putF "_rows" (.ref R) (putF "many" (.int m) []) = wF m R := by
  show (if ("many" : Str) = "_rows" then _ else (("many" : Str), V.int m) :: putF "_rows" (.ref R) []) = wF m R
  rw [if_neg (by decide +kernel)]
  rfl
structure WebAt (C : Addr) (H0 H : Hp) (p : Addr) (m : Nat) (ts : List Tie) : Prop where
  new : H0 p = none
  ex : ∃ (dx R : Addr) (as : List Addr), H p = some (.ins C dx (wF m R)) ∧ RowsAt H0 H R as (rowsOf m ts)
theorem WebAt.same {C p : Addr} {H0 H H' : Hp} {m : Nat} {ts : List Tie} (h : WebAt C H0 H p m ts) (s : Same H H') : WebAt C H0 H' p m ts := by
  obtain ⟨n, dx, R, as, h1, h2⟩ := h
  exact ⟨n, dx, R, as, s _ _ h1, h2.same s⟩
theorem WebAt.apart {C p : Addr} {H0 H H' : Hp} {m : Nat} {ts : List Tie} (h : WebAt C H0 H p m ts) (s : ∀ b o, H b = some o → H0 b = none → H' b = some o) : WebAt C H0 H' p m ts := by
  obtain ⟨n, dx, R, as, h1, h2⟩ := h
  exact ⟨n, dx, R, as, s _ _ h1 n, h2.apart s⟩
theorem WebAt.older {C p : Addr} {H0 H1 H : Hp} {m : Nat} {ts : List Tie} (h : WebAt C H1 H p m ts) (s : Same H0 H1) : WebAt C H0 H p m ts := by
  obtain ⟨n, dx, R, as, h1, h2⟩ := h
  exact ⟨s.free n, dx, R, as, h1, h2.older s⟩
def spInit (C : Addr) (K : PySem.W.Frag) : Sp := fun vs H Q _ => ∃ (H0 : Hp) (p dx : Addr) (m : Nat) (a : Addr) (ws : List V) (ts : List Tie), vs = [.ref p, .int m, .ref a] ∧ H p = some (.ins C dx []) ∧ Same H0 H ∧ H0 p = none ∧
  SqL K H0 a ws ∧ PairsAt H0 ws ts ∧ Good m ts ∧ 1 ≤ m ∧ m ≤ 16 ∧ ts.length ≤ 40 ∧
  ∀ H' : Hp, (∀ b o, H b = some o → b ≠ p → H' b = some o) → WebAt C H0 H' p m ts → Q .non H'
def spCheck (C : Addr) : Sp := fun vs H Q _ => ∃ (H0 : Hp) (p : Addr) (m : Nat) (ts : List Tie) (j : Nat), vs = [.ref p, .int j] ∧ WebAt C H0 H p m ts ∧ j < m ∧ Q .non H
def spBeside (C : Addr) : Sp := fun vs H Q _ => ∃ (H0 : Hp) (p : Addr) (m : Nat) (ts : List Tie) (j : Nat), vs = [.ref p, .int j] ∧ WebAt C H0 H p m ts ∧ j < m ∧
  ∀ D, H D = none → Q (.ref D) (upd H D (.lst (iL (rowOf m ts j))))
def spTied (C : Addr) : Sp := fun vs H Q _ => ∃ (H0 : Hp) (p : Addr) (m : Nat) (ts : List Tie) (i j : Nat), vs = [.ref p, .int i, .int j] ∧ WebAt C H0 H p m ts ∧ i < m ∧ j < m ∧
  Q (.bl (decide ((j : Int) ∈ rowOf m ts i))) H
def spTies (C : Addr) : Sp := fun vs H Q _ => ∃ (H0 : Hp) (p : Addr) (m : Nat) (ts : List Tie), vs = [.ref p] ∧ WebAt C H0 H p m ts ∧ Good m ts ∧ m ≤ 16 ∧
  ∀ (H' : Hp) (D : Addr) (ws : List V), Same H H' → H D = none → H' D = some (.lst ws) → PairsAt H' ws (toldT m ts) → Q (.ref D) H'
end Fd
namespace Fd
open PySem PySem.Spec PyProof.Rows L2
section
variable {P : Program} {w : World} {K : PySem.W.Frag} {mg : Str → Option Value} {base : Heap} {C : Addr}
theorem scInit : FnScope ["self", "many", "ties"] ["self", "many", "ties"] (defScope sWebInit) := ⟨rfl, rfl, rfl, by decide +kernel, rfl, by decide +kernel, by decide +kernel⟩
theorem c_init (T : WTxt K mg C) : C8.Mak P w K mg base 5 "Web" C (spInit C K) [] := by
  obtain ⟨tP, gP⟩ := T.mostP
  obtain ⟨tT, gT⟩ := T.mostT
  refine mak_of T.gWeb T.fInit scInit (fun vs H Q E h => ?_) (fun f cdv A outer s H vs Q E hr h => ?_)
  · obtain ⟨H0, p, dx, m, a, ws, ts, rfl, _⟩ := h
    rfl
  · obtain ⟨H0, p, dx, m, a, ws, ts, rfl, hp, s0, p0, hS, hP, g, m1, m16, ht, k⟩ := h
    refine ⟨_, pss_cons (ps_if (PW.pt (pw_or (pt_not (pt_val (C8.pe_c (c_num T) hr (by decide) (by rfl) (pa_cons (pv 1) pa_nil))))
        (pw_or1 (pt_not (pt_chain op_le op_le pe_int (pv 1) (pe_glob (v := .int 16) (by rfl) gP ⟨_, rfl⟩)))))) (pss_one ps_never) pss_nil)
      (pss_cons (ps_if (PW.pt (pw_or (pt_cmpR op_neTy (pe_callTy call_type1 (by rfl) T.type (by decide +kernel) (pa_cons (pv 2) pa_nil)) (pe_bltn (v := .ty "list") (by rfl) T.list (by decide +kernel) rfl) (nomark _))
        (pw_or1 (pt_cmpR op_gt (pe_callB call_len_seq (by rfl) T.len PySem.boot_len (pa_cons (pv 2) pa_nil)) (pe_glob (v := .int 40) (by rfl) gT ⟨_, rfl⟩) (nomark _))))) (pss_one ps_never) pss_nil)
      (pss_cons (ps_fld (pv 0) (pv 1) rfl)
      (pss_one (ps_fld (pv 0) (C8.pe_c (c_joined T) hr (by decide) (by rfl) (pa_cons (pv 1) (pa_cons (pv 2) pa_nil))) rfl)))), ?_⟩
    have hS' : SqL K H a ws := s0.seq hS
    have hl := hP.length
    -- if not _is_number(many) or not 1 <= many <= MOST_POINTS
    refine ⟨_, rfl, .int m, "int", rfl, .int _, true, rfl, ?_⟩
    refine iteF ?_
    refine ⟨_, rfl, 1, (m : Int), rfl, rfl, _, rfl, ?_⟩
    refine yep_ (decide_eq_true (by omega)) ?_
    refine ⟨(m : Int), 16, rfl, rfl, _, rfl, ?_⟩
    refine no_ (by rw [Bool.not_eq_false']; exact decide_eq_true (by omega)) ?_
    -- if type(ties) != list or len(ties) > MOST_TIES
    refine ⟨_, rfl, .ref a, "list", rfl, .lst hS', "list", "list", rfl, rfl, by decide, by decide, _, rfl, ?_⟩
    refine iteF ?_
    refine ⟨_, rfl, a, ws, rfl, .inl hS', _, 40, rfl, rfl, _, rfl, ?_⟩
    refine no_ (decide_eq_false (by omega)) ?_
    -- self.many = many
    refine ⟨_, rfl, _, rfl, p, C, dx, [], rfl, hp, T.cl, T.nMany, by show 0 < 1000; decide, ?_⟩
    -- self._rows = _joined(many, ties)
    have s1 : Same H0 (upd H p (.ins C dx (putF "many" (.int m) []))) := Same.write s0 p0
    refine ⟨_, rfl, _, rfl, m, a, ws, ts, rfl, s1.seq hS, hP.same s1, g, m16, ht, fun H' R as s' r' => ?_⟩
    have hp' : H' p = some (.ins C dx (putF "many" (.int m) [])) := s' _ _ upd_same
    refine ⟨_, rfl, p, C, dx, _, rfl, hp', T.cl, T.nRows, by show 1 < 1000; decide, ?_⟩
    refine k _ (fun b o e hb => ?_) ⟨p0, dx, R, as, by rw [upd_same, wF_new], ?_⟩
    · rw [upd_ne hb]
      exact s' _ _ (by rw [upd_ne hb]; exact e)
    · refine (r'.apart fun b o e hb => ?_).older s1
      rw [upd_ne (ne_of_none upd_same hb).symm]
      exact e
end
end Fd
namespace Fd
open PySem PySem.Spec PyProof.Rows L2
section
variable {P : Program} {w : World} {K : PySem.W.Frag} {mg : Str → Option Value} {base : Heap} {C : Addr}
theorem scCheck : FnScope ["self", "thing"] ["self", "thing"] (defScope sWebCheckPoint) := ⟨rfl, rfl, rfl, by decide +kernel, rfl, by decide +kernel, by decide +kernel⟩
theorem c_check (T : WTxt K mg C) (FC : FnM K C "_check_point" "Web._check_point" sWebCheckPoint ["self", "thing"]) : C8.Met P w K mg base 3 C "_check_point" (spCheck C) [] := by
  refine met_of T.cl FC scCheck (fun vs H Q E h => ?_) (fun f cdv A outer s H vs Q E hr h => ?_)
  · obtain ⟨H0, p, m, ts, j, rfl, _⟩ := h
    rfl
  · obtain ⟨H0, p, m, ts, j, rfl, ⟨p0, dx, R, as, hp, r⟩, hj, k⟩ := h
    refine ⟨_, pss_one (ps_if (pt_not (pt_val (C8.pe_c (c_point T) hr (by decide) (by rfl) (pa_cons (pe_fld (pv 0) rfl) (pa_cons (pv 1) pa_nil))))) (pss_one ps_never) pss_nil), ?_⟩
    refine ⟨_, rfl, p, C, dx, _, _, rfl, hp, T.cl, T.nMany, wF_many _ _, _, rfl, (m : Int), .int j, "int", rfl, .int _, _, rfl, no_ ?_ k⟩
    rw [Bool.not_eq_false']
    show (decide ((0 : Int) ≤ j) && decide ((j : Int) < m)) = true
    rw [decide_eq_true (by omega), decide_eq_true (by omega), Bool.and_self]
theorem scBeside : FnScope ["self", "point"] ["self", "point"] (defScope sWebBeside) := ⟨rfl, rfl, rfl, by decide +kernel, rfl, by decide +kernel, by decide +kernel⟩
theorem c_beside (T : WTxt K mg C) (FC : FnM K C "_check_point" "Web._check_point" sWebCheckPoint ["self", "thing"]) (FB : FnM K C "beside" "Web.beside" sWebBeside ["self", "point"]) : C8.Met P w K mg base 4 C "beside" (spBeside C) [] := by
  refine met_of T.cl FB scBeside (fun vs H Q E h => ?_) (fun f cdv A outer s H vs Q E hr h => ?_)
  · obtain ⟨H0, p, m, ts, j, rfl, _⟩ := h
    rfl
  · obtain ⟨H0, p, m, ts, j, rfl, W, hj, k⟩ := h
    obtain ⟨p0, dx, R, as, hp, r⟩ := id W
    refine ⟨_, pss_cons (ps_expr (C8.pe_mt (c_check T FC) hr (by decide) (pv 0) (pa_cons (pv 1) pa_nil)))
      (pss_one (ps_ret (pe_callTy call_list_of (by rfl) T.list (by decide +kernel) (pa_cons (pe_ix ix_list (pe_fld (pv 0) rfl) (pv 1) (fun _ _ => rfl)) pa_nil)))), ?_⟩
    obtain ⟨b, eb, ebr, _, hb⟩ := r.get (rowsOf_at (ts := ts) hj)
    refine ⟨_, rfl, p, dx, _, rfl, hp, wF_no _ _ (by decide +kernel) (by decide +kernel), _, rfl, H0, p, m, ts, j, rfl, W, hj, ?_⟩
    exact ⟨_, rfl, p, C, dx, _, _, rfl, hp, T.cl, T.nRows, wF_rows _ _, _, rfl, R, _, (j : Int), .ref b, rfl, rfl, SqL.of r.top, atI_nat ebr, b, _, rfl, .inl (SqL.of hb), k⟩
end
end Fd
namespace Fd
open PySem PySem.Spec PyProof.Rows L2
section
variable {P : Program} {w : World} {K : PySem.W.Frag} {mg : Str → Option Value} {base : Heap} {C : Addr}
theorem scTies : FnScope ["self", "one", "other"] ["self"] (defScope sWebTies) := ⟨rfl, rfl, rfl, by decide +kernel, rfl, by decide +kernel, by decide +kernel⟩
theorem c_ties (T : WTxt K mg C) (FT : FnM K C "ties" "Web.ties" sWebTies ["self"]) : C8.Met P w K mg base 1 C "ties" (spTies C) [] := by
  refine met_of T.cl FT scTies (fun vs H Q E h => ?_) (fun f cdv A outer s H vs Q E hr h => ?_)
  · obtain ⟨H0, p, m, ts, rfl, _⟩ := h
    rfl
  · obtain ⟨H0, p, m, ts, rfl, W, g, m16, k⟩ := h
    obtain ⟨p0, dx, R, as, hp, r⟩ := id W
    refine ⟨_, pss_one (ps_ret (pe_lc2 (own := [("one", 1), ("other", 2)]) (vs1 := [2]) (g := gName 1) (g1 := gName 2) (tt := tYes) (wi1 := iList K (tOp (rIxL K) (tFld K (tVar 0) "_rows") (tVar 1))) (by rfl) scTies.nd (pi_range1 (by rfl) T.range (pa_cons (pe_fld (pv 0) rfl) pa_nil))
      (blkOk_by (own := [("one", 1), ("other", 2)]) (N := ["self", "one", "other"]) (sc := defScope sWebTies) (by decide +kernel)) (by simp)
      (fun _ _ _ _ _ => pg_name (i := 1) scTies.nd rfl (Or.inl rfl)) (fun _ _ _ _ _ => pts_nil)
      (fun _ _ _ _ _ => pi_list (pe_ix ix_list (pe_fld (pv 0) rfl) (pv 1) (fun _ _ => rfl)))
      (fun _ _ _ _ _ => pg_name (i := 2) scTies.nd rfl (Or.inl rfl)) (fun _ _ _ _ _ => pts_one (pt_cmpR op_lt (pv 1) (pv 2) (nomark _)))
      (fun _ _ _ _ _ => pe_tup (pa_cons (pv 1) (pa_cons (pv 2) pa_nil))))), ?_⟩
    refine ⟨_, rfl, p, C, dx, _, _, rfl, hp, T.cl, T.nMany, wF_many _ _, (m : Int), rfl, by omega, by omega, fun D hD => ?_⟩
    refine ⟨fun i n H1 => n = m - i ∧ i ≤ m ∧ Same H H1 ∧ ∃ ws, H1 D = some (.lst ws) ∧ PairsAt H1 ws ((pts i).flatMap (pickT m ts)), ⟨_, rfl, Nat.zero_le _, Same.put hD, [], upd_same, .nil⟩, ?_⟩
    rintro i n H1 ⟨rfl, him, s1, ws, hDw, hw⟩
    by_cases hi : i < m
    · refine .inr ⟨by show i < (m : Int).toNat; omega, fun H2 => i + 1 ≤ m ∧ Same H H2 ∧ ∃ ws, H2 D = some (.lst ws) ∧ PairsAt H2 ws ((pts (i + 1)).flatMap (pickT m ts)), fun H2 q => ⟨m - (i + 1), by omega, rfl, q⟩, ?_⟩
      rintro x H2 ⟨rfl, rfl⟩
      refine ⟨rfl, ?_⟩
      refine yes_ ?_
      refine iteT ?_
      obtain ⟨b, eb, ebr, _, hb⟩ := r.get (rowsOf_at (ts := ts) hi)
      -- for other in self._rows[one]
      refine ⟨_, rfl, p, C, dx, _, _, rfl, s1 _ _ hp, T.cl, T.nRows, wF_rows _ _, _, rfl, R, _, (0 + (i : Int)), .ref b, rfl, rfl, SqL.of (s1 _ _ r.top), by rw [Int.zero_add]; exact atI_nat ebr, b, rfl, ⟨_, SqL.of (s1 _ _ hb)⟩, ?_⟩
      refine ⟨fun j n H2 => n = (rowOf m ts i).length - j ∧ j ≤ (rowOf m ts i).length ∧ Same H H2 ∧ ∃ ws, H2 D = some (.lst ws) ∧ PairsAt H2 ws ((pts i).flatMap (pickT m ts) ++ (((rowOf m ts i).take j).filter fun y => decide ((i : Int) < y)).map fun y => ((i : Int), y)),
        ⟨_, rfl, Nat.zero_le _, s1, ws, hDw, by rw [List.take_zero, List.filter_nil, List.map_nil, List.append_nil]; exact hw⟩, ?_⟩
      rintro j n H3 ⟨rfl, hjl, s3, us, hDu, hu⟩
      by_cases hj : j < (rowOf m ts i).length
      · have ej : (rowOf m ts i)[j]? = some (rowOf m ts i)[j] := List.getElem?_eq_getElem hj
        refine .inr ⟨⟨_, _, SqL.of (s3 _ _ hb), iL_get ej⟩, fun H4 => j + 1 ≤ (rowOf m ts i).length ∧ Same H H4 ∧ ∃ ws, H4 D = some (.lst ws) ∧ PairsAt H4 ws ((pts i).flatMap (pickT m ts) ++ (((rowOf m ts i).take (j + 1)).filter fun y => decide ((i : Int) < y)).map fun y => ((i : Int), y)), fun H4 q => ⟨_, by show (rowOf m ts i).length - (j + 1) < _; omega, rfl, q⟩, ?_⟩
        rintro x H4 ⟨rfl, hx⟩
        obtain rfl : x = .int (rowOf m ts i)[j] := Option.some.inj ((hx _ (SqL.of (s3 _ _ hb))).symm.trans (iL_get ej))
        generalize hy : (rowOf m ts i)[j] = y at ej ⊢
        refine ⟨rfl, ?_⟩
        -- if one < other
        refine ⟨_, rfl, _, rfl, (0 + (i : Int)), y, rfl, rfl, _, rfl, ?_⟩
        rw [Int.zero_add]
        refine ite2 (fun c => ?_) (fun c => ?_)
        · refine ⟨_, rfl, _, rfl, by show 2 ≤ sizeLine; decide, fun q hq => ?_⟩
          have qD : D ≠ q := ne_of_none hDu hq
          have l1 : us.length < sizeLine := by
            rw [hu.length, List.length_append, List.length_map]
            have h1 := List.length_filter_le (fun y => decide ((i : Int) < y)) ((rowOf m ts i).take (j + 1 - 1))
            have h2 := rowOf_len m ts i
            have h3 : ((pts i).flatMap (pickT m ts)).length ≤ 16 * 16 := flat_len (by omega) m16
            rw [List.length_take] at h1
            exact small (by simp only [Nat.add_sub_cancel] at h1; omega)
          refine ⟨us, by rw [upd_ne qD]; exact hDu, l1, by omega, Same.write (Same.step s3 hq) hD, _, upd_same, ?_⟩
          rw [take_next ej, List.filter_append, List.map_append, ← List.append_assoc]
          have e1 : (([y] : List Int).filter fun z => decide ((i : Int) < z)).map (fun z => ((i : Int), z)) = [((i : Int), y)] := by
            simp [of_decide_eq_true c]
          rw [e1]
          refine Paired.snoc ?_ ⟨q, rfl, by rw [upd_ne qD.symm, upd_same]⟩
          refine Paired.mono (fun v t ⟨a, e, h⟩ => ⟨a, e, ?_⟩) hu
          have a1 : a ≠ q := ne_of_none h hq
          have a2 : a ≠ D := ne_of h hDu (by intro z; cases z)
          rw [upd_ne a2, upd_ne a1]
          exact h
        · refine ⟨by omega, s3, us, hDu, ?_⟩
          rw [take_next ej, List.filter_append]
          have e1 : (([y] : List Int).filter fun z => decide ((i : Int) < z)) = [] := by
            simp [show ¬ ((i : Int) < y) from fun h => c (decide_eq_true h)]
          rw [e1, List.append_nil]
          exact hu
      · have e : j = (rowOf m ts i).length := by omega
        subst e
        refine .inl ⟨⟨_, SqL.of (s3 _ _ hb), by rw [List.length_map]; exact Nat.le_refl _⟩, by omega, s3, us, hDu, ?_⟩
        rw [List.take_length] at hu
        rw [pts_succ, List.flatMap_append, List.flatMap_singleton]
        exact hu
    · have e : i = m := by omega
      subst e
      exact .inl ⟨by show (i : Int).toNat ≤ i; omega, k H1 D ws s1 hD hDw hw⟩
end
end Fd
namespace Fd
open PySem PySem.Spec PyProof.Rows L2
structure LTxt (K : PySem.W.Frag) (mg : Str → Option Value) : Prop where
  isi : mg "isinstance" = none
  bool : mg "bool" = none
  max : mg "max" = none
  min : mg "min" = none
  fCell : Fn K mg "_law_cell_at" sLawCellAt ["_law_script", "_law_k"]
  fWhole : Fn K mg "_law_whole" sLawWhole ["_law_seen"]
  fMany : Fn K mg "_law_many" sLawMany ["_law_script"]
/-! ### the law's small readers -/
def cellAt (ns : List Int) (k : Nat) : Int := ns.getD k 0
def spCell (K : PySem.W.Frag) : Sp := fun vs H Q _ => ∃ (a : Addr) (ns : List Int) (k : Nat), vs = [.ref a, .int k] ∧ SqL K H a (iL ns) ∧ Q (.int (cellAt ns k)) H
def isI : V → Bool
  | .int _ => true
  | _ => false
theorem tyX_of {K : PySem.W.Frag} {H : Hp} {x : V} {T : String} (h : TyB K H x T) : TyX K H x (.type T) := by
  cases h with
  | non => exact .base .non
  | bl b => exact .base (.bl b)
  | int i => exact .base (.int i)
  | str x => exact .base (.str x)
  | byt b => exact .byt b
  | lst h =>
    rcases h with (h | ⟨o, h⟩) | ⟨o, its, n, e, c, _⟩
    · exact .base (.lst h)
    · exact .base (.frz h)
    · exact .kList e c
  | tup h =>
    rcases h with (h | ⟨o, h⟩) | ⟨o, its, n, e, c, _⟩
    · exact .base (.tup h)
    · exact .fTuple h
    · exact .kTuple e c
  | dK h => exact .base (.dK h)
def spWholeX (K : PySem.W.Frag) : Sp := fun vs H Q _ => ∃ (x : V) (T : String), vs = [x] ∧ TyB K H x T ∧ Q (.bl (isI x)) H
def spWhole : Sp := fun vs H Q _ => ∃ i : Int, vs = [.int i] ∧ Q (.bl true) H
def spMany (K : PySem.W.Frag) : Sp := fun vs H Q _ => ∃ (a : Addr) (ns : List Int), vs = [.ref a] ∧ SqL K H a (iL ns) ∧ ∀ m : Nat, 1 ≤ m → m ≤ 16 → Q (.int m) H
def spLTies (K : PySem.W.Frag) : Sp := fun vs H Q _ => ∃ (a : Addr) (ns : List Int) (m : Nat), vs = [.ref a, .int m] ∧ SqL K H a (iL ns) ∧ 1 ≤ m ∧ m ≤ 16 ∧
  ∀ (H' : Hp) (D : Addr) (ws : List V) (ts : List Tie), Same H H' → H D = none → H' D = some (.lst ws) → PairsAt H' ws ts → Good m ts → ts.length ≤ 40 → Q (.ref D) H'
theorem hu65 {k : Nat} {A : Around} (hr : Room k A) : A.units + 65 < cLine := by
  have := hr.un
  omega
/-- a new pair put behind the others -/
theorem PairsAt.more {H : Hp} {D t : Addr} {ws : List V} {ts : List Tie} {o q : Int} (hD : H D = some (.lst ws)) (h : PairsAt H ws ts) (ht : H t = none) :
    PairsAt (upd (upd H t (.tup [.int o, .int q])) D (.lst (ws ++ [.ref t]))) (ws ++ [.ref t]) (ts ++ [(o, q)]) := by
  have tD : D ≠ t := ne_of_none hD ht
  refine Paired.snoc ?_ ⟨t, rfl, by rw [upd_ne tD.symm, upd_same]⟩
  refine Paired.mono (fun v u ⟨a, e, k⟩ => ⟨a, e, ?_⟩) h
  rw [upd_ne (ne_of k hD (by intro z; cases z)), upd_ne (ne_of_none k ht)]
  exact k
theorem cut_iL (ns : List Int) (lo hi : Option Int) : ∃ ms : List Int, cutV (iL ns) lo hi = iL ms ∧ ms.length ≤ ns.length := by
  refine ⟨(ns.drop (HT.sIx (iL ns).length 0 lo)).take (HT.sIx (iL ns).length (iL ns).length hi - HT.sIx (iL ns).length 0 lo), ?_, ?_⟩
  · unfold cutV iL
    rw [List.map_take, List.map_drop]
  · rw [List.length_take, List.length_drop]
    omega
theorem cut_len_ (xs : List V) : (cutV xs (some 2) (some 42)).length ≤ 40 := by
  unfold cutV
  rw [List.length_take]
  have e1 : HT.sIx xs.length 0 (some 2) = min 2 xs.length := HT.sIx_nat _ _ 2
  have e2 : HT.sIx xs.length xs.length (some 42) = min 42 xs.length := HT.sIx_nat _ _ 42
  rw [e1, e2]
  omega
section
variable {P : Program} {w : World} {K : PySem.W.Frag} {mg : Str → Option Value} {base : Heap} {C : Addr}
theorem scCell : FnScope ["_law_script", "_law_k"] ["_law_script", "_law_k"] (defScope sLawCellAt) := ⟨rfl, rfl, rfl, by decide +kernel, rfl, by decide +kernel, by decide +kernel⟩
theorem c_cell (T : WTxt K mg C) (L : LTxt K mg) : C8.Cal P w K mg base 1 "_law_cell_at" (spCell K) [] := by
  refine cal_of L.fCell scCell (fun vs H Q E h => ?_) (fun f cdv A outer s H vs Q E hr h => ?_)
  · obtain ⟨a, ns, k, rfl, _⟩ := h
    rfl
  · obtain ⟨a, ns, i, rfl, hS, k⟩ := h
    refine ⟨_, pss_cons (ps_if (pt_cmpR op_lt (pv 1) (pe_callB call_len_seq (by rfl) T.len PySem.boot_len (pa_cons (pv 0) pa_nil)) (nomark _)) (pss_one (ps_ret (pe_ix ix_list (pv 0) (pv 1) (fun _ _ => rfl)))) pss_nil)
      (pss_one (ps_ret pe_int)), ?_⟩
    refine ⟨_, rfl, _, rfl, a, iL ns, rfl, .inl hS, (i : Int), _, rfl, rfl, _, rfl, ?_⟩
    refine ite2 (fun c => ?_) (fun c => ?_)
    · have c' : i < ns.length := by
        have := of_decide_eq_true c
        rw [List.length_map] at this
        omega
      refine ⟨_, rfl, _, rfl, a, iL ns, (i : Int), .int (cellAt ns i), rfl, rfl, hS, atI_nat ?_, k⟩
      refine iL_get ?_
      unfold cellAt
      rw [List.getD_eq_getElem?_getD, List.getElem?_eq_getElem c']
      rfl
    · have c' : ¬ i < ns.length := fun z => c (decide_eq_true (by rw [List.length_map]; omega))
      have e : cellAt ns i = 0 := by
        unfold cellAt
        rw [List.getD_eq_getElem?_getD, List.getElem?_eq_none (by omega)]
        rfl
      rw [e] at k
      exact k
theorem scWhole : FnScope ["_law_seen"] ["_law_seen"] (defScope sLawWhole) := ⟨rfl, rfl, rfl, by decide +kernel, rfl, by decide +kernel, by decide +kernel⟩
theorem c_whole (T : WTxt K mg C) (L : LTxt K mg) : C8.Cal P w K mg base 1 "_law_whole" (spWholeX K) [] := by
  refine cal_of L.fWhole scWhole (fun vs H Q E h => ?_) (fun f cdv A outer s H vs Q E hr h => ?_)
  · obtain ⟨x, t, rfl, _⟩ := h
    rfl
  · obtain ⟨x, t, rfl, ht, k⟩ := h
    refine ⟨_, pss_one (ps_ret (pe_and (pe_callB call_isi (by rfl) L.isi (by decide +kernel) (pa_cons (pv 0) (pa_cons (pe_bltn (v := .ty "int") (by rfl) T.int (by decide +kernel) rfl) pa_nil)))
      (pe_one (pe_not (pe_callB call_isi (by rfl) L.isi (by decide +kernel) (pa_cons (pv 0) (pa_cons (pe_bltn (v := .ty "bool") (by rfl) L.bool (by decide +kernel) rfl) pa_nil))))))), ?_⟩
    cases ht with
    | int i =>
      refine ⟨_, rfl, .int i, .ty "int", .type "int", .type "int", true, rfl, .ty _, .base (.int i), kit_ty (by decide +kernel), true, rfl, ?_⟩
      refine iteT ?_
      exact ⟨_, rfl, .int i, .ty "bool", .type "int", .type "bool", false, rfl, .ty _, .base (.int i), kit_ty (by decide +kernel), false, rfl, k⟩
    | bl b =>
      refine ⟨_, rfl, .bl b, .ty "int", .type "bool", .type "int", true, rfl, .ty _, .base (.bl b), kit_ty (by decide +kernel), true, rfl, ?_⟩
      refine iteT ?_
      exact ⟨_, rfl, .bl b, .ty "bool", .type "bool", .type "bool", true, rfl, .ty _, .base (.bl b), kit_ty (by decide +kernel), true, rfl, k⟩
    | non => exact ⟨_, rfl, .non, .ty "int", .type "NoneType", .type "int", false, rfl, .ty _, .base .non, kit_ty (by decide +kernel), false, rfl, iteF k⟩
    | str x => exact ⟨_, rfl, .str x, .ty "int", .type "str", .type "int", false, rfl, .ty _, .base (.str x), kit_ty (by decide +kernel), false, rfl, iteF k⟩
    | byt b => exact ⟨_, rfl, .byt b, .ty "int", .type "bytes", .type "int", false, rfl, .ty _, tyX_of (.byt b), kit_ty (by decide +kernel), false, rfl, iteF k⟩
    | lst h => exact ⟨_, rfl, .ref _, .ty "int", .type "list", .type "int", false, rfl, .ty _, tyX_of (.lst h), kit_ty (by decide +kernel), false, rfl, iteF k⟩
    | tup h => exact ⟨_, rfl, .ref _, .ty "int", .type "tuple", .type "int", false, rfl, .ty _, tyX_of (.tup h), kit_ty (by decide +kernel), false, rfl, iteF k⟩
    | dK h => exact ⟨_, rfl, .ref _, .ty "int", .type "dict", .type "int", false, rfl, .ty _, tyX_of (.dK h), kit_ty (by decide +kernel), false, rfl, iteF k⟩
theorem scMany : FnScope ["_law_script"] ["_law_script"] (defScope sLawMany) := ⟨rfl, rfl, rfl, by decide +kernel, rfl, by decide +kernel, by decide +kernel⟩
theorem c_many (T : WTxt K mg C) (L : LTxt K mg) : C8.Cal P w K mg base 2 "_law_many" (spMany K) [] := by
  refine cal_of L.fMany scMany (fun vs H Q E h => ?_) (fun f cdv A outer s H vs Q E hr h => ?_)
  · obtain ⟨a, ns, rfl, _⟩ := h
    rfl
  · obtain ⟨a, ns, rfl, hS, k⟩ := h
    refine ⟨_, pss_cons (ps_if (pt_cmpR op_eq (pe_op op_mod (C8.pe_c (c_cell T L) hr (by decide) (by rfl) (pa_cons (pv 0) (pa_cons pe_int pa_nil))) pe_int) pe_int (nomark _))
        (pss_one (ps_ret (pe_op op_add pe_int (pe_op op_mod (pe_op op_fdiv (C8.pe_c (c_cell T L) hr (by decide) (by rfl) (pa_cons (pv 0) (pa_cons pe_int pa_nil))) pe_int) pe_int)))) pss_nil)
      (pss_one (ps_ret (pe_op op_add pe_int (pe_op op_mod (pe_op op_fdiv (C8.pe_c (c_cell T L) hr (by decide) (by rfl) (pa_cons (pv 0) (pa_cons pe_int pa_nil))) pe_int) pe_int)))), ?_⟩
    refine ⟨_, rfl, a, ns, 0, rfl, hS, _, _, rfl, rfl, by show (0 : Int) < 6; decide, rfl, _, rfl, ?_⟩
    refine ite2 (fun _ => ?_) (fun _ => ?_)
    · refine ⟨_, rfl, a, ns, 0, rfl, hS, _, _, rfl, rfl, ⟨by decide, by decide⟩, _, _, rfl, rfl, by show (0 : Int) < 8; decide, _, _, rfl, rfl, ?_⟩
      have h1 := Int.emod_nonneg (cellAt ns 0 / 6) (show (8 : Int) ≠ 0 by decide)
      have h2 := Int.emod_lt_of_pos (cellAt ns 0 / 6) (show (0 : Int) < 8 by decide)
      have q := k (9 + cellAt ns 0 / 6 % 8).toNat (by omega) (by omega)
      rw [Int.toNat_of_nonneg (by omega)] at q
      exact q
    · refine ⟨_, rfl, a, ns, 0, rfl, hS, _, _, rfl, rfl, ⟨by decide, by decide⟩, _, _, rfl, rfl, by show (0 : Int) < 8; decide, _, _, rfl, rfl, ?_⟩
      have h1 := Int.emod_nonneg (cellAt ns 0 / 6) (show (8 : Int) ≠ 0 by decide)
      have h2 := Int.emod_lt_of_pos (cellAt ns 0 / 6) (show (0 : Int) < 8 by decide)
      have q := k (1 + cellAt ns 0 / 6 % 8).toNat (by omega) (by omega)
      rw [Int.toNat_of_nonneg (by omega)] at q
      exact q
end
end Fd
namespace Fd
open PySem PySem.Spec PyProof.Rows L2
noncomputable def dB (p : Prop) : Bool := @decide p (Classical.propDecidable p)
theorem dB_t {p : Prop} (h : p) : dB p = true := @decide_eq_true p (Classical.propDecidable p) h
theorem dB_f {p : Prop} (h : ¬ p) : dB p = false := @decide_eq_false p (Classical.propDecidable p) h
theorem dB_iff {p : Prop} : dB p = true ↔ p := @decide_eq_true_iff p (Classical.propDecidable p)
theorem dB_eq {p q : Prop} (h : p ↔ q) : dB p = dB q := by rw [Bool.eq_iff_iff, dB_iff, dB_iff]; exact h
theorem dB_dec {p : Prop} [Decidable p] : dB p = decide p := by rw [Bool.eq_iff_iff, dB_iff, decide_eq_true_iff]
/-! ### what is handed in as turns -/
inductive It
  | lst (xs : List V)
  | oth
inductive ItAt (K : PySem.W.Frag) (H : Hp) : V → It → Prop
  | lst {a : Addr} {xs : List V} (h : SqL K H a xs) (t : ∀ y ∈ xs, ∃ T, TyB K H y T) (l : xs.length ≤ 100) : ItAt K H (.ref a) (.lst xs)
  | oth {x : V} {T : String} (h : TyB K H x T) (n : T ≠ "list") : ItAt K H x .oth
inductive ThAt (K : PySem.W.Frag) (H : Hp) : V → Option (List It) → Prop
  | lst {a : Addr} {ws : List V} {its : List It} (h : SqL K H a ws) (p : Paired (ItAt K H) ws its) (l : ws.length ≤ 100) : ThAt K H (.ref a) (some its)
  | oth {x : V} {T : String} (h : TyB K H x T) (n : T ≠ "list") : ThAt K H x none
theorem ItAt.same {K : PySem.W.Frag} {H H' : Hp} {x : V} {it : It} (s : Same H H') (h : ItAt K H x it) : ItAt K H' x it := by
  cases h with
  | lst h t l => exact .lst (s.seq h) (fun y hy => (t y hy).imp fun T z => TyB.same s z) l
  | oth h n => exact .oth (TyB.same s h) n
theorem itsSame {K : PySem.W.Frag} {H H' : Hp} {ws : List V} {its : List It} (s : Same H H') (h : Paired (ItAt K H) ws its) : Paired (ItAt K H') ws its := Paired.mono (fun _ _ k => ItAt.same s k) h
theorem ThAt.same {K : PySem.W.Frag} {H H' : Hp} {x : V} {o : Option (List It)} (s : Same H H') (h : ThAt K H x o) : ThAt K H' x o := by
  cases h with
  | lst h p l => exact .lst (s.seq h) (itsSame s p) l
  | oth h n => exact .oth (TyB.same s h) n
theorem itAt_ints {K : PySem.W.Frag} {H : Hp} {a : Addr} {r : List Int} (h : SqL K H a (iL r)) (l : r.length ≤ 100) : ItAt K H (.ref a) (.lst (iL r)) := by
  refine .lst h (fun y hy => ?_) (by rw [List.length_map]; exact l)
  obtain ⟨i, _, rfl⟩ := List.mem_map.mp hy
  exact ⟨_, .int i⟩
def okIt (r : List Int) : It → Prop
  | .lst xs => ∃ is : List Int, xs = iL is ∧ is.Perm r
  | .oth => False
def okTh (rss : List (List Int)) : Option (List It) → Prop
  | some its => its.length = rss.length ∧ ∀ (k : Nat) (it : It) (r : List Int), its[k]? = some it → rss[k]? = some r → okIt r it
  | none => False
theorem isInt_ty {K : PySem.W.Frag} {H : Hp} {x : V} {T : String} (h : TyB K H x T) : decide (T = "int") = isI x := by
  cases h <;> rfl
theorem allInt : ∀ {xs : List V}, (xs.map isI).all id = true → ∃ is : List Int, xs = iL is
  | [], _ => ⟨[], rfl⟩
  | x :: xs, h => by
    rw [List.map_cons, List.all_cons, Bool.and_eq_true] at h
    obtain ⟨is, e⟩ := allInt h.2
    cases x with
    | int i => exact ⟨i :: is, by rw [e]; rfl⟩
    | _ => exact absurd h.1 Bool.false_ne_true
theorem iL_inj {xs ys : List Int} (h : iL xs = iL ys) : xs = ys := List.map_inj_right (fun _ _ e => V.int.inj e) |>.mp h
theorem perm_sorted {is js r : List Int} (hp : js.Perm is) (ho : js.Pairwise (· ≤ ·)) (hr : r.Pairwise (· < ·)) : js = r ↔ is.Perm r := by
  constructor
  · rintro rfl
    exact hp.symm
  · intro h
    have nd : r.Nodup := hr.imp fun h e => by omega
    refine strict_uniq (lt := fun a b : Int => a < b) (fun a b h => by omega) (strict_of_le ho ((hp.trans h).nodup_iff.mpr nd)) hr fun x => (hp.trans h).mem_iff
theorem inl_eqv : ∀ (xs ys : List Int), PyData.eqvAll (xs.map PyData.int) (ys.map PyData.int) = decide (xs = ys)
  | [], [] => by simp [PyData.eqvAll]
  | [], y :: ys => by simp [PyData.eqvAll]
  | x :: xs, [] => by simp [PyData.eqvAll]
  | x :: xs, y :: ys => by
    rw [List.map_cons, List.map_cons, PyData.eqvAll, inl_eqv xs ys, Bool.eq_iff_iff]
    simp [PyData.eqv]
theorem ints_eqv (xs ys : List Int) : PyData.eqv (.list (xs.map PyData.int)) (.list (ys.map PyData.int)) = decide (xs = ys) := by
  rw [← inl_eqv]
  simp [PyData.eqv]
structure TTxt (K : PySem.W.Frag) (mg : Str → Option Value) (C : Addr) : Prop where
  all : mg "all" = none
  enum : mg "enumerate" = none
  fIsTurn : Fn K mg "_is_turn" sIsTurn ["near", "turn"]
  fAre : Fn K mg "are_turns" sAreTurns ["web", "turns"]
  fC : FnM K C "_check_point" "Web._check_point" sWebCheckPoint ["self", "thing"]
  fB : FnM K C "beside" "Web.beside" sWebBeside ["self", "point"]
def spIsTurn (K : PySem.W.Frag) : Sp := fun vs H Q _ => ∃ (n : Addr) (x : V) (r : List Int) (it : It), vs = [.ref n, x] ∧ H n = some (.lst (iL r)) ∧ r.Pairwise (· < ·) ∧ ItAt K H x it ∧ ∀ H', Same H H' → Q (.bl (dB (okIt r it))) H'
def spAre (C : Addr) (K : PySem.W.Frag) : Sp := fun vs H Q _ => ∃ (H0 : Hp) (p : Addr) (m : Nat) (ts : List Tie) (x : V) (o : Option (List It)), vs = [.ref p, x] ∧ WebAt C H0 H p m ts ∧ m ≤ 16 ∧ ThAt K H x o ∧ ∀ H', Same H H' → Q (.bl (dB (okTh (rowsOf m ts) o))) H'
section
variable {P : Program} {w : World} {K : PySem.W.Frag} {mg : Str → Option Value} {base : Heap} {C : Addr}
abbrev nIsTurn : List Str := ["near", "turn", "point"]
theorem scIsTurn : FnScope ["near", "turn", "point"] ["near", "turn"] (defScope sIsTurn) := ⟨rfl, rfl, rfl, by decide +kernel, rfl, by decide +kernel, by decide +kernel⟩
theorem c_isturn (T : WTxt K mg C) (U : TTxt K mg C) : C8.Cal P w K mg base 2 "_is_turn" (spIsTurn K) [] := by
  refine cal_of U.fIsTurn scIsTurn (fun vs H Q E h => ?_) (fun f cdv A outer s H vs Q E hr h => ?_)
  · obtain ⟨n, x, r, it, rfl, _⟩ := h
    rfl
  · obtain ⟨n, x, r, it, rfl, hn, hr0, hx, k⟩ := h
    have hun : (A.deeper (envOfC "_is_turn" (defScope sIsTurn) s.heap.objs.size f cdv)).units + 64 < cLine := by
      have := hr.un
      omega
    refine ⟨_, pss_one (ps_ret (pe_and (pe_cmpR op_eqTy (pe_callTy call_type1 (by rfl) T.type (by decide +kernel) (pa_cons (pv 1) pa_nil)) (pe_bltn (v := .ty "list") (by rfl) T.list (by decide +kernel) rfl) (nomark _))
      (pe_and (pe_callB (cr_all rfl) (by rfl) U.all (by decide +kernel) (pa_cons (pe_lc (own := [("point", 2)]) (g := gName 2) (tt := tYes) (te := tCall (spNum K) [] C8.E0 (tCons (tVar 2) tNil)) (by rfl) scIsTurn.nd (pi_list (pv 1))
          (blkOk_by (own := [("point", 2)]) (N := nIsTurn) (sc := defScope sIsTurn) (by decide +kernel)) (fun _ _ _ _ _ => pg_name (i := 2) scIsTurn.nd rfl (Or.inl rfl)) (fun _ _ _ _ _ => pts_nil)
          (fun _ _ _ _ _ => C8.pe_c (c_num T) hr (by decide) (by rfl) (pa_cons (pv 2) pa_nil))) pa_nil))
      (pe_one (pe_cmpR (op_eqD hun) (pe_callB (id := "sorted") (r := rSortedI K) cr_sortedI (by rfl) T.sorted (by decide +kernel) (pa_cons (pv 1) pa_nil)) (pv 0) (nomark _)))))), ?_⟩
    cases hx with
    | @oth _ T0 h hne =>
      refine ⟨_, rfl, x, T0, rfl, h, T0, "list", rfl, rfl, TyB_kind h, by decide, _, rfl, ?_⟩
      refine no_ (decide_eq_false hne) ?_
      have q := k H (Same.refl H)
      rw [dB_f (p := okIt r .oth) (fun z => z)] at q
      exact q
    | @lst a xs h t l =>
      refine ⟨_, rfl, .ref a, "list", rfl, .lst h, "list", "list", rfl, rfl, by decide, by decide, _, rfl, ?_⟩
      refine iteT ?_
      refine ⟨_, rfl, a, rfl, ⟨_, h⟩, fun D hD => ?_⟩
      refine lc_list (K := K) (a := a) (xs := xs) (fun i H1 => Same H H1 ∧ H1 D = some (.lst (((xs.take i).map isI).map V.bl))) ⟨Same.put hD, upd_same⟩ (fun i H1 _ ⟨s1, _⟩ => s1.seq h) (fun i y H1 hi ⟨s1, d1⟩ => ?_) (fun H1 ⟨s1, d1⟩ => ?_)
      · have hlt := (List.getElem?_eq_some_iff.mp hi).1
        obtain ⟨T1, ht⟩ := t y (List.mem_of_getElem? hi)
        refine ⟨rfl, ?_⟩
        refine yes_ ?_
        refine iteT ?_
        refine ⟨_, rfl, y, T1, rfl, TyB.same s1 ht, ?_⟩
        refine ⟨_, d1, ?_, Same.write s1 hD, ?_⟩
        · rw [List.length_map, List.length_map, List.length_take]
          exact small (by omega)
        · rw [upd_same, isInt_ty ht, take_next hi, List.map_append, List.map_append]
          rfl
      · rw [List.take_length] at d1
        refine ⟨D, xs.map isI, rfl, SqL.of d1, _, rfl, ?_⟩
        by_cases c : (xs.map isI).all id = true
        · refine yep_ c ?_
          obtain ⟨is, rfl⟩ := allInt c
          refine ⟨_, rfl, a, is, rfl, s1.seq h, fun js p hp ho hnew => ?_⟩
          have s2 := Same.step (o := .lst (js.map V.int)) s1 hnew
          refine ⟨_, rfl, .list (js.map PyData.int), .list (r.map PyData.int), dp_ints (SqL.of upd_same), dp_ints (SqL.of (s2 _ _ hn)), inl_shaped _, inl_shaped _, ?_⟩
          have q := k _ s2
          rw [ints_eqv]
          have e : dB (okIt r (.lst (iL is))) = decide (js = r) := by
            rw [← dB_dec]
            refine dB_eq ?_
            rw [perm_sorted hp ho hr0]
            constructor
            · rintro ⟨is', e1, e2⟩
              rw [iL_inj e1]
              exact e2
            · exact fun z => ⟨is, rfl, z⟩
          rw [e] at q
          exact q
        · have c' := Bool.eq_false_iff.mpr c
          refine no_ c' ?_
          have q := k H1 s1
          rw [dB_f] at q
          · exact q
          · rintro ⟨is, rfl, _⟩
            refine c ?_
            rw [List.all_eq_true]
            intro b hb
            obtain ⟨y, hy, rfl⟩ := List.mem_map.mp hb
            obtain ⟨i, _, rfl⟩ := List.mem_map.mp hy
            rfl
end
end Fd
namespace Fd
open PySem PySem.Spec PyProof.Rows L2
section
variable {P : Program} {w : World} {K : PySem.W.Frag} {mg : Str → Option Value} {base : Heap} {C : Addr}
abbrev nAre : List Str := ["web", "turns", "point", "turn"]
theorem scAre : FnScope ["web", "turns", "point", "turn"] ["web", "turns"] (defScope sAreTurns) := ⟨rfl, rfl, rfl, by decide +kernel, rfl, by decide +kernel, by decide +kernel⟩
theorem okTh_len {rss : List (List Int)} {its : List It} (h : its.length ≠ rss.length) : ¬ okTh rss (some its) := fun z => h z.1
theorem okTh_all {rss : List (List Int)} {its : List It} {bs : List Bool} (hl : its.length = rss.length) (hb : bs.length = its.length)
    (h : ∀ (k : Nat) (it : It) (r : List Int), its[k]? = some it → rss[k]? = some r → bs[k]? = some (dB (okIt r it))) : bs.all id = dB (okTh rss (some its)) := by
  rw [Bool.eq_iff_iff, dB_iff, List.all_eq_true]
  constructor
  · refine fun q => ⟨hl, fun k it r e1 e2 => ?_⟩
    have z := q _ (List.mem_of_getElem? (h k it r e1 e2))
    exact dB_iff.mp z
  · rintro ⟨_, q⟩ b hm
    obtain ⟨k, hk⟩ := List.mem_iff_getElem?.mp hm
    have k1 : k < bs.length := (List.getElem?_eq_some_iff.mp hk).1
    have e1 : its[k]? = some its[k] := List.getElem?_eq_getElem (by omega)
    have e2 : rss[k]? = some rss[k] := List.getElem?_eq_getElem (by omega)
    have z := h k _ _ e1 e2
    rw [Option.some.inj (hk.symm.trans z)]
    exact dB_t (q k _ _ e1 e2)
theorem c_are (T : WTxt K mg C) (U : TTxt K mg C) : C8.Cal P w K mg base 5 "are_turns" (spAre C K) [] := by
  refine cal_of U.fAre scAre (fun vs H Q E h => ?_) (fun f cdv A outer s H vs Q E hr h => ?_)
  · obtain ⟨H0, p, m, ts, x, o, rfl, _⟩ := h
    rfl
  · obtain ⟨H0, p, m, ts, x, o, rfl, W, m16, hx, k⟩ := h
    obtain ⟨p0, dx, R, as, hp, r⟩ := id W
    refine ⟨_, pss_cons (ps_if (PW.pt (pw_or (pt_cmpR op_neTy (pe_callTy call_type1 (by rfl) T.type (by decide +kernel) (pa_cons (pv 1) pa_nil)) (pe_bltn (v := .ty "list") (by rfl) T.list (by decide +kernel) rfl) (nomark _))
        (pw_or1 (pt_cmpR op_ne (pe_callB call_len_seq (by rfl) T.len PySem.boot_len (pa_cons (pv 1) pa_nil)) (pe_fld (pv 0) rfl) (nomark _))))) (pss_one (ps_ret pe_bl)) pss_nil)
      (pss_one (ps_ret (pe_callB (cr_all rfl) (by rfl) U.all (by decide +kernel) (pa_cons (pe_lc (own := [("point", 2), ("turn", 3)]) (g := gTup K 2 (gCons (gName 2) (gCons (gName 3) gNil))) (tt := tYes)
          (te := tCall (spIsTurn K) [] C8.E0 (tCons (tMeth C "beside" (spBeside C) [] C8.E0 (tVar 0) (tCons (tVar 2) tNil)) (tCons (tVar 3) tNil))) (by rfl) scAre.nd (pi_enum (by rfl) U.enum (pa_cons (pv 1) pa_nil))
          (blkOk_by (own := [("point", 2), ("turn", 3)]) (N := nAre) (sc := defScope sAreTurns) (by decide +kernel))
          (fun _ _ _ _ _ => pg_tup (by rfl) (pgs_cons (pg_name (i := 2) scAre.nd rfl (Or.inl rfl)) (pgs_cons (pg_name (i := 3) scAre.nd rfl (Or.inl rfl)) pgs_nil))) (fun _ _ _ _ _ => pts_nil)
          (fun _ _ _ _ _ => C8.pe_c (c_isturn T U) hr (by decide) (by rfl) (pa_cons (C8.pe_mt (c_beside T U.fC U.fB) hr (by decide) (pv 0) (pa_cons (pv 2) pa_nil)) (pa_cons (pv 3) pa_nil)))) pa_nil)))), ?_⟩
    cases hx with
    | @oth _ T0 h hne =>
      refine ⟨_, rfl, x, T0, rfl, h, T0, "list", rfl, rfl, TyB_kind h, by decide, _, rfl, ?_⟩
      refine yep_ (by rw [decide_eq_false hne]; rfl) ?_
      refine iteT ?_
      have q := k H (Same.refl H)
      rw [dB_f (p := okTh (rowsOf m ts) none) (fun z => z)] at q
      exact q
    | @lst a ws its h pr l =>
      have wl := pr.length
      refine ⟨_, rfl, .ref a, "list", rfl, .lst h, "list", "list", rfl, rfl, by decide, by decide, _, rfl, ?_⟩
      refine iteF ?_
      refine ⟨_, rfl, a, ws, rfl, .inl h, _, rfl, p, C, dx, _, _, rfl, hp, T.cl, T.nMany, wF_many _ _, rfl, _, rfl, ?_⟩
      by_cases c : ws.length = m
      · refine no_ (by rw [c, decide_eq_true rfl]; rfl) ?_
        refine ⟨_, rfl, a, ws, rfl, h, fun D hD => ?_⟩
        refine ⟨fun i n H2 => n = m - i ∧ i ≤ m ∧ Same H H2 ∧ ∃ bs : List Bool, H2 D = some (.lst (bs.map V.bl)) ∧ bs.length = i ∧ (∀ (k : Nat) (it : It) (r : List Int), k < i → its[k]? = some it → (rowsOf m ts)[k]? = some r → bs[k]? = some (dB (okIt r it))),
          ⟨m, rfl, Nat.zero_le _, Same.put hD, [], upd_same, rfl, fun k it r z => by omega⟩, ?_⟩
        rintro i n H2 ⟨rfl, him, s2, bs, d2, bl, hb⟩
        by_cases hi : i < m
        · have ew : ws[i]? = some ws[i] := List.getElem?_eq_getElem (by omega)
          generalize ws[i] = y0 at ew
          obtain ⟨it, ei, hit⟩ := paired_get pr ew
          have er := rowsOf_at (ts := ts) hi
          refine .inr ⟨⟨_, _, s2.seq h, ew⟩, fun H3 => i + 1 ≤ m ∧ Same H H3 ∧ ∃ bs : List Bool, H3 D = some (.lst (bs.map V.bl)) ∧ bs.length = i + 1 ∧ (∀ (k : Nat) (it : It) (r : List Int), k < i + 1 → its[k]? = some it → (rowsOf m ts)[k]? = some r → bs[k]? = some (dB (okIt r it))), fun H3 q => ⟨m - (i + 1), by omega, rfl, q⟩, ?_⟩
          rintro x H3 ⟨T0, y, rfl, hT, rfl, hy⟩
          obtain rfl : y = y0 := Option.some.inj ((hy _ (s2.seq h)).symm.trans ew)
          have s3 := Same.put (o := .tup [.int ((i : Nat) : Int), y]) hT
          refine ⟨T0, _, rfl, SqT.of upd_same, rfl, _, _, rfl, _, _, rfl, rfl, ?_⟩
          refine ⟨rfl, ?_⟩
          refine yes_ ?_
          refine iteT ?_
          have s4 := s2.trans s3
          refine ⟨_, rfl, p, dx, _, rfl, s4 _ _ hp, wF_no _ _ (by decide +kernel) (by decide +kernel), _, rfl, H0, p, m, ts, i, rfl, W.same s4, hi, fun N hN => ?_⟩
          have s5 := Same.step (o := .lst (iL (rowOf m ts i))) s4 hN
          refine ⟨_, rfl, N, y, rowOf m ts i, it, rfl, upd_same, rowOf_strict m ts i, ItAt.same s5 hit, fun H4 s6 => ?_⟩
          refine ⟨bs.map V.bl, s6 _ _ (Same.put hN _ _ (s3 _ _ d2)), by rw [List.length_map, bl]; exact small (by omega), by omega, Same.write (s5.trans s6) hD, bs ++ [dB (okIt (rowOf m ts i) it)], ?_, by rw [List.length_append, bl]; rfl, ?_⟩
          · rw [upd_same, List.map_append]
            rfl
          · intro j it' r' hj e1 e2
            by_cases hji : j < i
            · rw [List.getElem?_append_left (by omega)]
              exact hb j it' r' hji e1 e2
            · have e : j = i := by omega
              subst e
              cases Option.some.inj (e1.symm.trans ei)
              cases Option.some.inj (e2.symm.trans er)
              rw [List.getElem?_append_right (by omega), bl, Nat.sub_self]
              rfl
        · have e : i = m := by omega
          subst e
          refine .inl ⟨⟨_, s2.seq h, by rw [c]; exact Nat.le_refl _⟩, ?_⟩
          refine ⟨D, bs, rfl, SqL.of d2, ?_⟩
          rw [okTh_all (rss := rowsOf i ts) (its := its) (by rw [rowsOf_len, ← wl, c]) (by rw [bl, ← wl, c]) fun k it r e1 e2 => hb k it r (by
            have := (List.getElem?_eq_some_iff.mp e2).1
            rw [rowsOf_len] at this
            exact this) e1 e2]
          exact k H2 s2
      · refine yep_ ?_ ?_
        · rw [Bool.not_eq_true']
          exact decide_eq_false fun z => c (by have := V.int.inj z; omega)
        · have q := k H (Same.refl H)
          rw [dB_f (okTh_len (by rw [rowsOf_len, ← wl]; exact c))] at q
          exact q
end
end Fd
namespace Fd
open PySem PySem.Spec PyProof.Rows L2
/-! ### rows told in another order -/
theorem RowsAt.put {H0 H H' : Hp} {R p : Addr} {as : List Addr} {rss : List (List Int)} {r : List Int} (h : RowsAt H0 H R as rss) (s0 : Same H0 H) (s : Same H H') (hp : H p = none) (hp' : H' p = some (.lst (iL r))) :
    RowsAt H0 (upd H' R (.lst (as.map V.ref ++ [.ref p]))) R (as ++ [p]) (rss ++ [r]) := by
  have pR : R ≠ p := ne_of_none h.top hp
  have pas : p ∉ as := fun hm => by
    obtain ⟨i, hi, e⟩ := List.getElem_of_mem hm
    have e' : as[i]? = some p := by rw [List.getElem?_eq_getElem hi, e]
    have hi2 : i < rss.length := by rw [← h.len]; exact hi
    have q := (h.row i p rss[i] e' (List.getElem?_eq_getElem hi2)).2
    rw [hp] at q
    cases q
  refine ⟨by rw [upd_same, List.map_append]; rfl, h.new, by simp [h.len], List.nodup_append.mpr ⟨h.nd, by simp, fun x hx y hy e => ?_⟩, fun hm => ?_, fun i a r' e1 e2 => ?_⟩
  · rw [List.mem_singleton.mp hy] at e
    exact pas (e ▸ hx)
  · rcases List.mem_append.mp hm with k | k
    · exact h.out k
    · exact pR (List.mem_singleton.mp k)
  · by_cases hi : i < as.length
    · rw [List.getElem?_append_left hi] at e1
      rw [List.getElem?_append_left (by rw [← h.len]; exact hi)] at e2
      obtain ⟨k1, k2⟩ := h.row i a r' e1 e2
      have aR : a ≠ R := fun e => h.out (e ▸ List.mem_of_getElem? e1)
      exact ⟨k1, by rw [upd_ne aR]; exact s _ _ k2⟩
    · have hi' : as.length ≤ i := Nat.le_of_not_lt hi
      rw [List.getElem?_append_right hi'] at e1
      rw [List.getElem?_append_right (by rw [← h.len]; exact hi')] at e2
      obtain ⟨e1a, e1b⟩ := List.getElem?_eq_some_iff.mp e1
      obtain ⟨e2a, e2b⟩ := List.getElem?_eq_some_iff.mp e2
      simp only [List.getElem_singleton] at e1b e2b
      subst e1b
      subst e2b
      exact ⟨s0.free hp, by rw [upd_ne pR.symm]; exact hp'⟩
theorem map_erase : ∀ (l : List Int) (j : Nat), (iL l).eraseIdx j = iL (l.eraseIdx j)
  | [], _ => by simp
  | x :: l, 0 => rfl
  | x :: l, j + 1 => by
    show V.int x :: (iL l).eraseIdx j = iL (x :: l.eraseIdx j)
    rw [map_erase l j]
    rfl
theorem perm_erase {α : Type} : ∀ {l : List α} {i : Nat} {x : α}, l[i]? = some x → (x :: l.eraseIdx i).Perm l
  | [], i, x, h => by simp at h
  | a :: l, 0, x, h => by
    cases Option.some.inj h
    exact List.Perm.refl _
  | a :: l, i + 1, x, h => (List.Perm.swap a x (l.eraseIdx i)).trans ((perm_erase (l := l) (i := i) (x := x) h).cons a)
def muL (i : Nat) (σ : L2.St) (H : Hp) : Nat := match σ[i]? with
  | some (some (V.ref a)) => match H a with
    | some (.lst xs) => xs.length
    | _ => 0
  | _ => 0
def spOrder (K : PySem.W.Frag) : Sp := fun vs H Q _ => ∃ (c : Int) (l : Addr) (r : List Int), vs = [.int c, .ref l] ∧ SqL K H l (iL r) ∧ r.length ≤ 100 ∧
  ∀ (H' : Hp) (D : Addr) (r' : List Int), Same H H' → H D = none → H' D = some (.lst (iL r')) → r'.Perm r → Q (.ref D) H'
section
variable {P : Program} {w : World} {K : PySem.W.Frag} {mg : Str → Option Value} {base : Heap} {C : Addr}
theorem scOrder : FnScope ["_law_cell", "_law_row", "_law_left", "_law_made"] ["_law_cell", "_law_row"] (defScope sLawOrderBy) := ⟨rfl, rfl, rfl, by decide +kernel, rfl, by decide +kernel, by decide +kernel⟩
theorem c_order (T : WTxt K mg C) (FO : Fn K mg "_law_order_by" sLawOrderBy ["_law_cell", "_law_row"]) : C8.Cal P w K mg base 1 "_law_order_by" (spOrder K) [] := by
  refine cal_of FO scOrder (fun vs H Q E h => ?_) (fun f cdv A outer s H vs Q E hr h => ?_)
  · obtain ⟨c, l, r, rfl, _⟩ := h
    rfl
  · obtain ⟨c, l, r, rfl, hS, r100, k⟩ := h
    have hun : (A.deeper (envOfC "_law_order_by" (defScope sLawOrderBy) s.heap.objs.size f cdv)).units + 64 < cLine := by
      have := hr.un
      omega
    refine ⟨_, pss_cons (ps_set (i := 2) scOrder.nd rfl (Or.inl rfl) (pe_callTy call_list_of (by rfl) T.list (by decide +kernel) (pa_cons (pv 1) pa_nil)))
      (pss_cons (ps_set (i := 3) scOrder.nd rfl (Or.inl rfl) (pe_lst pa_nil))
      (pss_cons (ps_while PassesOwn.never (pt_cmpR (op_neD hun) (pv 2) (pe_lst pa_nil) (nomark _))
        (pss_cons (ps_expr (pe_bm PySem.F.plainAttrs_list PySem.F.slot_list_append PySem.F.type_list_append mt_append (pv 3) (pa_cons (pe_bm PySem.F.plainAttrs_list PySem.F.slot_list_pop PySem.F.type_list_pop mt_popAt (pv 2)
            (pa_cons (pe_op op_mod (pv 0) (pe_callB call_len_seq (by rfl) T.len PySem.boot_len (pa_cons (pv 2) pa_nil))) pa_nil)) pa_nil)))
        (pss_one (ps_set (i := 0) scOrder.nd rfl (Or.inl rfl) (pe_op op_fdiv (pv 0) (pe_op op_add (pe_callB call_len_seq (by rfl) T.len PySem.boot_len (pa_cons (pv 2) pa_nil)) pe_int))))))
      (pss_one (ps_ret (pv 3))))), ?_⟩
    refine ⟨_, rfl, l, iL r, rfl, .inl hS, fun L hL => ?_⟩
    refine ⟨Nat.zero_le _, fun D hD => ?_⟩
    have LD : L ≠ D := ne_of_none upd_same hD
    have H0D : H D = none := by
      rw [upd_ne LD.symm] at hD
      exact hD
    refine while_by (fun σ H1 => ∃ (c1 : Int) (lf md : List Int), σ = [some (.int c1), some (.ref l), some (.ref L), some (.ref D)] ∧ Same H H1 ∧ H1 L = some (.lst (iL lf)) ∧ H1 D = some (.lst (iL md)) ∧ (md ++ lf).Perm r) (muL 2)
      ⟨c, r, [], rfl, Same.step (Same.put hL) hD, by rw [upd_ne LD, upd_same], upd_same, List.Perm.refl r⟩ ?_ ?_
    · rintro σ H1 ⟨c1, lf, md, rfl, s1, hl1, hd1, pm⟩
      have len : md.length + lf.length = r.length := by
        have := pm.length_eq
        rw [List.length_append] at this
        exact this
      refine ⟨_, rfl, Nat.zero_le _, fun N hN => ?_⟩
      have s2 := Same.put (o := .lst []) hN
      have LN : L ≠ N := ne_of_none hl1 hN
      have DN : D ≠ N := ne_of_none hd1 hN
      refine ⟨.list (lf.map PyData.int), .list (([] : List Int).map PyData.int), dp_ints (SqL.of (s2 _ _ hl1)), dp_ints (SqL.of upd_same), inl_shaped _, inl_shaped _, _, rfl, ?_⟩
      rw [ints_eqv]
      by_cases c2 : lf = []
      · refine no_ (by rw [decide_eq_true c2]; rfl) ?_
        subst c2
        rw [List.append_nil] at pm
        exact ⟨_, rfl, k _ D md (s1.trans s2) H0D (s2 _ _ hd1) pm⟩
      · refine yep_ (by rw [decide_eq_false c2]; rfl) ?_
        have lpos : 0 < lf.length := List.length_pos_iff.mpr c2
        have m0 := Int.emod_nonneg c1 (show (lf.length : Int) ≠ 0 by omega)
        have m1 := Int.emod_lt_of_pos c1 (show (0 : Int) < lf.length by omega)
        obtain ⟨j, ej⟩ : ∃ j : Nat, c1 % (lf.length : Int) = j := ⟨(c1 % (lf.length : Int)).toNat, by omega⟩
        have hj : j < lf.length := by omega
        have e2 : ((iL lf).length : Int) = (lf.length : Int) := by rw [List.length_map]
        refine ⟨_, rfl, .inl ⟨rfl, _, SqL.of (s2 _ _ hd1)⟩, ?_⟩
        refine ⟨_, rfl, .inl ⟨rfl, _, SqL.of (s2 _ _ hl1)⟩, _, rfl, _, rfl, L, iL lf, rfl, .inl (SqL.of (s2 _ _ hl1)), _, _, rfl, rfl, by rw [e2]; omega, ?_⟩
        have e3 : c1 % ((iL lf).length : Int) = (j : Int) := by rw [e2]; exact ej
        refine ⟨L, iL lf, c1 % ((iL lf).length : Int), j, .int lf[j], rfl, rfl, s2 _ _ hl1, by rw [e3]; omega, by rw [e3]; omega, by rw [e3, seqIndex_of (by omega) (by rw [List.length_map]; omega), Int.toNat_natCast], iL_get (List.getElem?_eq_getElem hj), ?_⟩
        have eE : (iL lf).eraseIdx j = iL (lf.eraseIdx j) := map_erase _ _
        rw [eE]
        refine ⟨D, iL md, _, rfl, rfl, by rw [upd_ne LD.symm, upd_ne DN]; exact hd1, by rw [List.length_map]; exact small (by omega), ?_⟩
        have eM : iL md ++ [V.int lf[j]] = iL (md ++ [lf[j]]) := by
          unfold iL
          rw [List.map_append]
          rfl
        rw [eM]
        have hl3 : (upd (upd (upd H1 N (.lst [])) L (.lst (iL (lf.eraseIdx j)))) D (.lst (iL (md ++ [lf[j]])))) L = some (.lst (iL (lf.eraseIdx j))) := by rw [upd_ne LD, upd_same]
        have le : (lf.eraseIdx j).length = lf.length - 1 := List.length_eraseIdx_of_lt hj
        refine ⟨_, rfl, _, rfl, L, iL (lf.eraseIdx j), rfl, .inl (SqL.of hl3), _, _, rfl, rfl, _, _, rfl, rfl, ⟨by rw [List.length_map]; omega, by rw [List.length_map]; omega⟩, ?_⟩
        refine ⟨⟨_, lf.eraseIdx j, md ++ [lf[j]], rfl, ?_, hl3, upd_same, ?_⟩, ?_⟩
        · exact Same.write (Same.write (s1.trans s2) hL) H0D
        · rw [List.append_assoc]
          exact ((perm_erase (List.getElem?_eq_getElem hj)).append_left md).trans pm
        · show (match (upd (upd (upd H1 N (.lst [])) L (.lst (iL (lf.eraseIdx j)))) D (.lst (iL (md ++ [lf[j]])))) L with | some (.lst xs) => xs.length | _ => 0) < (match H1 L with | some (.lst xs) => xs.length | _ => 0)
          rw [hl3, hl1]
          show (iL (lf.eraseIdx j)).length < (iL lf).length
          rw [List.length_map, List.length_map, le]
          omega
    · rintro σ H1 Q1 Q2 hq ⟨v, e1, l0, h⟩
      refine ⟨v, e1, l0, fun p hp => ?_⟩
      obtain ⟨d, e, h1, h2, h3, h4, c, e6, q⟩ := h p hp
      exact ⟨d, e, h1, h2, h3, h4, c, e6, hq _ _ q⟩
end
/-- for each point the points beside it, in some order -/
structure TurnsOf (m : Nat) (ts : List Tie) (tss : List (List Int)) : Prop where
  len : tss.length = m
  row : ∀ (k : Nat) (t : List Int), tss[k]? = some t → t.Perm (rowOf m ts k)
theorem nb_next {ts : List Tie} {i : Nat} {t : Tie} (p : Int) (h : ts[i]? = some t) (ne : t.1 ≠ t.2) : nb (ts.take (i + 1)) p = nb (ts.take i) p ++ (if p = t.1 ∨ p = t.2 then [t.1 + t.2 - p] else []) := by
  rw [take_next h, nb_snoc]
  congr 1
  unfold here
  by_cases h1 : t.1 = p
  · have h2 : ¬ t.2 = p := fun z => ne (h1.trans z.symm)
    rw [if_pos h1, if_neg h2, if_pos (.inl h1.symm), List.append_nil]
    congr 1
    omega
  · by_cases h2 : t.2 = p
    · rw [if_neg h1, if_pos h2, if_pos (.inr h2.symm), List.nil_append]
      congr 1
      omega
    · rw [if_neg h1, if_neg h2, if_neg (by rintro (z | z) <;> simp_all)]
      rfl
def spTurnsBy (K : PySem.W.Frag) : Sp := fun vs H Q _ => ∃ (a : Addr) (ns : List Int) (m : Nat) (l : Addr) (ws : List V) (ts : List Tie), vs = [.ref a, .int m, .ref l] ∧ SqL K H a (iL ns) ∧ m ≤ 16 ∧ H l = some (.lst ws) ∧ PairsAt H ws ts ∧ Good m ts ∧ ts.length ≤ 63 ∧
  ∀ (H' : Hp) (R : Addr) (as : List Addr) (tss : List (List Int)), Same H H' → RowsAt H H' R as tss → TurnsOf m ts tss → Q (.ref R) H'
section
variable {P : Program} {w : World} {K : PySem.W.Frag} {mg : Str → Option Value} {base : Heap} {C : Addr}
abbrev nTurnsBy : List Str := ["_law_script", "_law_many_here", "_law_ties_here", "_law_turns", "_law_point", "_law_own", "_law_tie"]
theorem scTurnsBy : FnScope ["_law_script", "_law_many_here", "_law_ties_here", "_law_turns", "_law_point", "_law_own", "_law_tie"] ["_law_script", "_law_many_here", "_law_ties_here"] (defScope sLawTurnsBy) := ⟨rfl, rfl, rfl, by decide +kernel, rfl, by decide +kernel, by decide +kernel⟩
theorem c_turnsby (T : WTxt K mg C) (L : LTxt K mg) (FO : Fn K mg "_law_order_by" sLawOrderBy ["_law_cell", "_law_row"]) (FT : Fn K mg "_law_turns_by" sLawTurnsBy ["_law_script", "_law_many_here", "_law_ties_here"]) : C8.Cal P w K mg base 2 "_law_turns_by" (spTurnsBy K) [] := by
  refine cal_of FT scTurnsBy (fun vs H Q E h => ?_) (fun f cdv A outer s H vs Q E hr h => ?_)
  · obtain ⟨a, ns, m, l, ws, ts, rfl, _⟩ := h
    rfl
  · obtain ⟨a, ns, m, l, ws, ts, rfl, hS, m16, hl, hw, g, tl, k⟩ := h
    refine ⟨_, pss_cons (ps_set (i := 3) scTurnsBy.nd rfl (Or.inl rfl) (pe_lst pa_nil))
      (pss_cons (ps_for PassesOwn.never rfl (pi_range1 (by rfl) T.range (pa_cons (pv 1) pa_nil)) (pg_name (i := 4) scTurnsBy.nd rfl (Or.inr rfl))
        (pss_cons (ps_setLc (i := 5) (own := [("_law_tie", 6)]) (g := gName 6) (tt := tTest (tOp (rIn K false) (tVar 4) (tVar 6))) (te := tOp (rI0 fun i j => .int (i - j)) (tOp (rI0 fun i j => .int (i + j)) (tOp (rIxT K) (tVar 6) (tC (.int 0))) (tOp (rIxT K) (tVar 6) (tC (.int 1)))) (tVar 4))
            (by rfl) scTurnsBy.nd rfl rfl (sw_true rfl rfl rfl (by decide +kernel)) (pi_list (pv 2)) (blkOk_by (own := [("_law_tie", 6)]) (N := nTurnsBy) (sc := defScope sLawTurnsBy) (by decide +kernel)) (fun _ _ _ _ _ => pg_name (i := 6) scTurnsBy.nd rfl (Or.inl rfl))
            (fun _ _ _ _ _ => pts_one (pt_cmpR op_in_seq (pv 4) (pv 6) (by rfl)))
            (fun _ _ _ _ _ => pe_op op_sub (pe_op op_add (pe_ix ix_tup (pv 6) pe_int (fun _ _ => rfl)) (pe_ix ix_tup (pv 6) pe_int (fun _ _ => rfl))) (pv 4)))
        (pss_one (ps_expr (pe_bm PySem.F.plainAttrs_list PySem.F.slot_list_append PySem.F.type_list_append mt_append (pv 3) (pa_cons (C8.pe_c (c_order T FO) hr (by decide) (by rfl)
            (pa_cons (pe_op op_add (pe_op op_fdiv (C8.pe_c (c_cell T L) hr (by decide) (by rfl) (pa_cons (pv 0) (pa_cons pe_int pa_nil))) (pe_op op_add pe_int (pe_op op_mul pe_int (pv 4)))) (pe_op op_mul pe_int (pv 4)))
              (pa_cons (pe_callB (id := "sorted") (r := rSortedI K) cr_sortedI (by rfl) T.sorted (by decide +kernel) (pa_cons (pv 5) pa_nil)) pa_nil))) pa_nil))))))
      (pss_one (ps_ret (pv 3)))), ?_⟩
    refine ⟨Nat.zero_le _, fun R hR => ?_⟩
    refine ⟨_, rfl, (m : Int), rfl, by omega, by omega, for_range (lo := 0) (n := (m : Int).toNat) (fun i σ H1 => ∃ (v1 v2 : Option V) (as : List Addr) (tss : List (List Int)), σ = [some (.ref a), some (.int m), some (.ref l), some (.ref R), v1, v2, none] ∧ Same H H1 ∧ RowsAt H H1 R as tss ∧ tss.length = i ∧ (∀ (k : Nat) (t : List Int), tss[k]? = some t → t.Perm (rowOf m ts k)))
      ⟨none, none, [], [], rfl, Same.put hR, RowsAt.start hR, rfl, fun k t e => by simp at e⟩ ?_ ?_⟩
    · rintro i σ H1 hi ⟨v1, v2, as, tss, rfl, s1, r1, tlen, tperm⟩
      rw [Int.toNat_natCast] at hi
      rw [Int.zero_add]
      dsimp only [tNext, gName, tSeq, tAsg]
      refine ⟨_, rfl, l, rfl, ⟨_, SqL.of (s1 _ _ hl)⟩, fun D hD => ?_⟩
      refine lc_list (K := K) (a := l) (xs := ws) (fun j H2 => Same H1 H2 ∧ H2 D = some (.lst (iL (nb (ts.take j) (i : Int))))) ⟨Same.put hD, by rw [upd_same, List.take_zero]; rfl⟩ (fun j H2 _ ⟨s2, _⟩ => SqL.of (s2 _ _ (s1 _ _ hl))) (fun j x H2 hj ⟨s2, d2⟩ => ?_) (fun H2 ⟨s2, d2⟩ => ?_)
      · obtain ⟨t, ht, b, rfl, hb⟩ := paired_get (hw.same (s1.trans s2)) hj
        have ne := (g.rng t (List.mem_of_getElem? ht)).2.2.2.2
        refine ⟨rfl, ?_⟩
        refine ⟨_, rfl, _, rfl, b, iL [t.1, t.2], rfl, .inr (SqT.of hb), rfl, flat_ints _, _, rfl, ?_⟩
        have ein := inV_ints [t.1, t.2] (i : Int)
        rw [ein, nb_next _ ht ne]
        have nl := nb_len (ts.take j) (i : Int)
        rw [List.length_take] at nl
        by_cases c : (i : Int) = t.1 ∨ (i : Int) = t.2
        · refine yep_ (decide_eq_true (by simpa using c)) ?_
          rw [if_pos c]
          refine ⟨_, rfl, b, _, 0, .int t.1, rfl, rfl, SqT.of hb, rfl, _, rfl, b, _, 1, .int t.2, rfl, rfl, SqT.of hb, rfl, _, _, rfl, rfl, _, rfl, _, _, rfl, rfl, ?_⟩
          refine ⟨_, d2, by rw [List.length_map]; exact small (by omega), Same.write s2 hD, ?_⟩
          rw [upd_same]
          unfold iL
          rw [List.map_append]
          rfl
        · refine no_ (decide_eq_false (by simpa using c)) ?_
          rw [if_neg c, List.append_nil]
          exact ⟨s2, d2⟩
      · have et : ts.take ws.length = ts := by rw [hw.length]; exact List.take_length
        rw [et] at d2
        have s3 := s1.trans s2
        have c3 : CMul 3 (i : Int) := .inl ⟨by decide, by decide⟩
        have c31 : CMul 31 (i : Int) := .inl ⟨by decide, by decide⟩
        refine ⟨_, rfl, .inl ⟨rfl, _, SqL.of (s2 _ _ r1.top)⟩, ?_⟩
        refine ⟨_, rfl, a, ns, 2, rfl, s3.seq hS, _, rfl, _, _, rfl, rfl, c3, _, _, rfl, rfl, _, _, rfl, rfl, ⟨by omega, by omega⟩, _, rfl, _, _, rfl, rfl, c31, _, _, rfl, rfl, ?_⟩
        refine ⟨_, rfl, D, nb ts (i : Int), rfl, SqL.of d2, fun js q hp ho hq => ?_⟩
        obtain rfl := row_sorted g hp ho
        have s4 := Same.put (o := .lst ((rowOf m ts i).map V.int)) hq
        have rl := rowOf_len m ts (i : Int)
        refine ⟨_, q, rowOf m ts i, rfl, SqL.of upd_same, by omega, fun H4 Dn r' s5 hDn hDn' pm => ?_⟩
        have s6 : Same H1 H4 := (s2.trans s4).trans s5
        have nR : H1 Dn = none := (s2.trans s4).free hDn
        refine ⟨R, _, _, rfl, rfl, s6 _ _ r1.top, by rw [List.length_map, r1.len, tlen]; exact small (by omega), ?_⟩
        refine ⟨_, _, as ++ [Dn], tss ++ [r'], rfl, Same.write (s1.trans s6) hR, r1.put s1 s6 nR hDn', by rw [List.length_append, tlen]; rfl, fun k' t e => ?_⟩
        by_cases hk : k' < tss.length
        · rw [List.getElem?_append_left hk] at e
          exact tperm k' t e
        · have hk' : tss.length ≤ k' := Nat.le_of_not_lt hk
          rw [List.getElem?_append_right hk'] at e
          obtain ⟨h1, h2⟩ := List.getElem?_eq_some_iff.mp e
          simp only [List.length_singleton] at h1
          have ek : k' = i := by omega
          subst ek
          simp only [List.getElem_singleton] at h2
          rw [← h2]
          exact pm
    · rintro σ H1 ⟨v1, v2, as, tss, rfl, s1, r1, tlen, tperm⟩
      rw [Int.toNat_natCast] at tlen
      exact ⟨_, rfl, k H1 R as tss s1 r1 ⟨tlen, tperm⟩⟩
end
end Fd
namespace Fd
open PySem PySem.Spec PyProof.Rows L2
section
variable {α : Type} [DecidableEq α]
theorem one_of_nodup {p : α} : ∀ {r : List α}, r.Nodup → p ∈ r → (r.filter fun y => decide (y = p)).length = 1
  | [], _, h => by cases h
  | x :: r, nd, h => by
    obtain ⟨n1, n2⟩ := List.nodup_cons.mp nd
    by_cases e : x = p
    · subst e
      have z : r.filter (fun y => decide (y = x)) = [] := List.filter_eq_nil_iff.mpr fun y hy c => n1 (of_decide_eq_true c ▸ hy)
      rw [List.filter_cons_of_pos (by simp), z]
      rfl
    · rw [List.filter_cons_of_neg (by simpa using e)]
      refine one_of_nodup n2 ?_
      rcases List.mem_cons.mp h with z | z
      · exact absurd z.symm e
      · exact z
theorem filt_perm {xs ys : List α} (h : xs.Perm ys) (p : α) : (xs.filter fun y => decide (y = p)).length = (ys.filter fun y => decide (y = p)).length := (h.filter _).length_eq
theorem perm_of_ones : ∀ {r xs : List α}, xs.length = r.length → (∀ p ∈ r, (xs.filter fun y => decide (y = p)).length = 1) → r.Nodup → xs.Perm r
  | [], xs, hl, _, _ => by
    rw [List.length_eq_zero_iff.mp hl]
  | p :: r, xs, hl, h, nd => by
    obtain ⟨n1, n2⟩ := List.nodup_cons.mp nd
    have h1 := h p List.mem_cons_self
    have hm : p ∈ xs := by
      cases e : xs.filter (fun y => decide (y = p)) with
      | nil =>
        rw [e] at h1
        cases h1
      | cons a l =>
        have ha : a ∈ xs.filter (fun y => decide (y = p)) := by rw [e]; exact List.mem_cons_self
        rw [List.mem_filter, decide_eq_true_iff] at ha
        exact ha.2 ▸ ha.1
    have pe := List.perm_cons_erase hm
    have el : (xs.erase p).length = r.length := by
      have := pe.length_eq
      rw [List.length_cons] at this hl
      omega
    refine pe.trans ((perm_of_ones el (fun q hq => ?_) n2).cons p)
    have hq1 := h q (List.mem_cons_of_mem _ hq)
    have ne : p ≠ q := fun z => n1 (z ▸ hq)
    rw [filt_perm pe q, List.filter_cons_of_neg (by simpa using ne)] at hq1
    exact hq1
end
theorem iL_nodup {r : List Int} (nd : r.Nodup) : (iL r).Nodup := List.Pairwise.map _ (fun a b h z => h (V.int.inj z)) nd
def toI : V → Option Int
  | .int i => some i
  | _ => none
theorem iL_back (is : List Int) : (iL is).filterMap toI = is := by
  unfold iL
  rw [List.filterMap_map]
  exact List.filterMap_some
theorem perm_iL {xs : List V} {r : List Int} (h : xs.Perm (iL r)) : ∃ is, xs = iL is ∧ is.Perm r := by
  obtain ⟨is, rfl⟩ : ∃ is, xs = iL is := by
    refine allInt (List.all_eq_true.mpr fun b hb => ?_)
    obtain ⟨y, hy, rfl⟩ := List.mem_map.mp hb
    obtain ⟨i, _, rfl⟩ := List.mem_map.mp (h.mem_iff.mp hy)
    rfl
  refine ⟨is, rfl, ?_⟩
  have q := h.filterMap toI
  rw [iL_back, iL_back] at q
  exact q
/-- what the law looks at -/
def okC (r : List Int) : It → Prop
  | .lst xs => xs.length = r.length ∧ ∀ p ∈ r, (xs.filter fun y => decide (y = V.int p)).length = 1
  | .oth => False
theorem okC_iff {r : List Int} (nd : r.Nodup) (it : It) : okC r it ↔ okIt r it := by
  cases it with
  | oth => exact Iff.rfl
  | lst xs =>
    constructor
    · rintro ⟨hl, h⟩
      refine perm_iL (perm_of_ones (by rw [List.length_map]; exact hl) (fun p hp => ?_) (iL_nodup nd))
      obtain ⟨i, hi, rfl⟩ := List.mem_map.mp hp
      exact h i hi
    · rintro ⟨is, rfl, pm⟩
      refine ⟨by rw [List.length_map]; exact pm.length_eq, fun p hp => ?_⟩
      rw [filt_perm (pm.map V.int) (V.int p)]
      exact one_of_nodup (iL_nodup nd) (List.mem_map.mpr ⟨p, hp, rfl⟩)
theorem okIt_perm {r r' : List Int} (h : r.Perm r') (it : It) : okIt r it ↔ okIt r' it := by
  cases it with
  | oth => exact Iff.rfl
  | lst xs => exact ⟨fun ⟨is, e, p⟩ => ⟨is, e, p.trans h⟩, fun ⟨is, e, p⟩ => ⟨is, e, p.trans h.symm⟩⟩
theorem TurnsOf.get {m : Nat} {ts : List Tie} {tss : List (List Int)} (h : TurnsOf m ts tss) {k : Nat} (hk : k < m) : ∃ t, tss[k]? = some t ∧ t.Perm (rowOf m ts k) := by
  have hk2 : k < tss.length := by rw [h.len]; exact hk
  have e : tss[k]? = some tss[k] := List.getElem?_eq_getElem hk2
  exact ⟨_, e, h.row k _ e⟩
theorem rowOf_nodup (m : Nat) (ts : List Tie) (p : Int) : (rowOf m ts p).Nodup := (rowOf_strict m ts p).imp fun h e => by omega
theorem okTh_turns {m : Nat} {ts : List Tie} {tss : List (List Int)} (h : TurnsOf m ts tss) (o : Option (List It)) : okTh tss o ↔ okTh (rowsOf m ts) o := by
  cases o with
  | none => exact Iff.rfl
  | some its =>
    constructor
    · rintro ⟨h1, h2⟩
      refine ⟨by rw [h1, h.len, rowsOf_len], fun k it r e1 e2 => ?_⟩
      have hk : k < m := by
        have := (List.getElem?_eq_some_iff.mp e2).1
        rw [rowsOf_len] at this
        exact this
      obtain ⟨t, e3, pm⟩ := h.get hk
      cases Option.some.inj (e2.symm.trans (rowsOf_at hk))
      exact (okIt_perm pm it).mp (h2 k it t e1 e3)
    · rintro ⟨h1, h2⟩
      refine ⟨by rw [h1, h.len, rowsOf_len], fun k it t e1 e2 => ?_⟩
      have hk : k < m := by
        have := (List.getElem?_eq_some_iff.mp e2).1
        rw [h.len] at this
        exact this
      exact (okIt_perm (h.row k t e2) it).mpr (h2 k it _ e1 (rowsOf_at hk))
theorem kit_list {K : PySem.W.Frag} {T : String} (h : T ∈ kinds) : PySem.W.kitOne K (.type T) (.type "list") = some (decide (T = "list")) := by
  simp only [kinds, List.mem_cons, List.not_mem_nil, or_false] at h
  rcases h with rfl | rfl | rfl | rfl | rfl | rfl | rfl | rfl <;> exact kit_ty (by decide +kernel)
theorem kit_bool {K : PySem.W.Frag} {T : String} (h : T ∈ kinds) : PySem.W.kitOne K (.type T) (.type "bool") = some (decide (T = "bool")) := by
  simp only [kinds, List.mem_cons, List.not_mem_nil, or_false] at h
  rcases h with rfl | rfl | rfl | rfl | rfl | rfl | rfl | rfl <;> exact kit_ty (by decide +kernel)
def rListOf (K : PySem.W.Frag) : List V → Hp → VK → Prop := fun xs H Q => ∃ p ys, xs = [V.ref p] ∧ (SqL K H p ys ∨ SqT K H p ys) ∧ ∀ l, H l = none → Q (.ref l) (upd H l (.lst ys))
theorem lc_copy {K : PySem.W.Frag} {H0 H : Hp} {σ : L2.St} {i j : Nat} {R : Addr} {as : List Addr} {tss : List (List Int)} {Q : VK} (hi : σ[i]? = some (some (.ref R))) (hj : j < σ.length) (hR : RowsAt H0 H R as tss) (len : tss.length ≤ 16)
    (k : ∀ (H' : Hp) (D : Addr) (bs : List Addr), Same H H' → RowsAt H H' D bs tss → Q (.ref D) H') : tLc (iList K (tVar i)) (gName j) tYes (tCB (rListOf K) (tCons (tVar j) tNil)) [j] σ H Q := by
  refine ⟨_, hi, R, rfl, ⟨_, SqL.of hR.top⟩, fun D hD => ?_⟩
  refine lc_list (K := K) (a := R) (xs := as.map V.ref) (fun q H1 => Same H H1 ∧ ∃ bs, RowsAt H H1 D bs (tss.take q)) ⟨Same.put hD, [], RowsAt.start hD⟩ (fun q H1 _ ⟨s1, _⟩ => SqL.of (s1 _ _ hR.top)) (fun q x H1 hq ⟨s1, bs, r1⟩ => ?_) (fun H1 ⟨s1, bs, r1⟩ => ?_)
  · have hql : q < tss.length := by
      have := (List.getElem?_eq_some_iff.mp hq).1
      rw [List.length_map, hR.len] at this
      exact this
    have et : tss[q]? = some tss[q] := List.getElem?_eq_getElem hql
    generalize tss[q] = t at et
    obtain ⟨b, eb, ebr, _, hb⟩ := hR.get et
    obtain rfl : x = .ref b := Option.some.inj (hq.symm.trans ebr)
    have wl : (wipe σ [j]).length = σ.length := by simp [wipe]
    have eq : ((wipe σ [j]).set j (some (.ref b)))[j]? = some (some (.ref b)) := List.getElem?_set_self (by rw [wl]; exact hj)
    refine ⟨by simp [wipe], ?_⟩
    refine yes_ ?_
    refine iteT ?_
    refine ⟨_, eq, b, iL t, rfl, .inl (SqL.of (s1 _ _ hb)), fun l hl => ?_⟩
    have pD : D ≠ l := ne_of_none r1.top hl
    refine ⟨bs.map V.ref, by rw [upd_ne pD]; exact r1.top, ?_, Same.write (Same.step s1 hl) hD, bs ++ [l], ?_⟩
    · rw [List.length_map, r1.len, List.length_take]
      exact small (by omega)
    · rw [take_next et]
      exact r1.more s1 hl
  · rw [List.length_map, hR.len, List.take_length] at r1
    exact k H1 D bs s1 r1
theorem rows_its {K : PySem.W.Frag} {H0 H : Hp} {D : Addr} {bs : List Addr} {tss : List (List Int)} (h : RowsAt H0 H D bs tss) (l : ∀ t ∈ tss, t.length ≤ 100) : Paired (ItAt K H) (bs.map V.ref) (tss.map fun t => It.lst (iL t)) := by
  have go : ∀ (bs : List Addr) (tss : List (List Int)), bs.length = tss.length → (∀ (i : Nat) (a : Addr) (r : List Int), bs[i]? = some a → tss[i]? = some r → H a = some (.lst (iL r))) → (∀ t ∈ tss, t.length ≤ 100) → Paired (ItAt K H) (bs.map V.ref) (tss.map fun t => It.lst (iL t)) := fun bs => by
    induction bs with
    | nil =>
      intro tss hl _ _
      rw [List.length_eq_zero_iff.mp hl.symm]
      exact .nil
    | cons b bs ih =>
      intro tss hl h l
      cases tss with
      | nil => cases hl
      | cons t tss =>
        exact .cons (itAt_ints (SqL.of (h 0 b t rfl rfl)) (l t List.mem_cons_self)) (ih tss (by simpa using hl) (fun i a r e1 e2 => h (i + 1) a r (by simpa using e1) (by simpa using e2)) fun t ht => l t (List.mem_cons_of_mem _ ht))
  exact go bs tss h.len (fun i a r e1 e2 => (h.row i a r e1 e2).2) l
theorem TurnsOf.short {m : Nat} {ts : List Tie} {tss : List (List Int)} (h : TurnsOf m ts tss) (m16 : m ≤ 16) : ∀ t ∈ tss, t.length ≤ 16 := fun t ht => by
  obtain ⟨k, hk⟩ := List.mem_iff_getElem?.mp ht
  rw [(h.row k t hk).length_eq]
  have := rowOf_len m ts (k : Int)
  omega
theorem TurnsOf.ok {m : Nat} {ts : List Tie} {tss : List (List Int)} (h : TurnsOf m ts tss) : okTh (rowsOf m ts) (some (tss.map fun t => It.lst (iL t))) := by
  refine ⟨by rw [List.length_map, h.len, rowsOf_len], fun k it r e1 e2 => ?_⟩
  rw [List.getElem?_map] at e1
  cases e : tss[k]? with
  | none =>
    rw [e] at e1
    cases e1
  | some t =>
    rw [e] at e1
    cases Option.some.inj e1
    have hk : k < m := by
      have := (List.getElem?_eq_some_iff.mp e2).1
      rw [rowsOf_len] at this
      exact this
    cases Option.some.inj (e2.symm.trans (rowsOf_at hk))
    exact ⟨t, rfl, h.row k t e⟩
end Fd
namespace Fd
/-! ### ways along ties, and the walks -/
def dartsL (m : Nat) (ts : List Tie) : List Tie := (pts m).flatMap fun p => (rowOf m ts p).map fun q => (p, q)
theorem mem_darts {m : Nat} {ts : List Tie} (g : Good m ts) {d : Tie} : d ∈ dartsL m ts ↔ Adj ts d.1 d.2 := by
  unfold dartsL
  rw [List.mem_flatMap]
  constructor
  · rintro ⟨p, _, h⟩
    obtain ⟨q, hq, rfl⟩ := List.mem_map.mp h
    exact (mem_rowOf g).mp hq
  · intro h
    refine ⟨d.1, ?_, List.mem_map.mpr ⟨d.2, (mem_rowOf g).mpr h, rfl⟩⟩
    rw [mem_pts]
    rcases h with k | k
    · have := g.rng _ k
      exact ⟨this.1, this.2.1⟩
    · have := g.rng _ k
      exact ⟨this.2.2.1, this.2.2.2.1⟩
theorem Adj.inside {m : Nat} {ts : List Tie} (g : Good m ts) {p q : Int} (h : Adj ts p q) : (0 ≤ p ∧ p < m) ∧ 0 ≤ q ∧ q < m := by
  rcases h with k | k
  · have := g.rng _ k
    exact ⟨⟨this.1, this.2.1⟩, this.2.2.1, this.2.2.2.1⟩
  · have := g.rng _ k
    exact ⟨⟨this.2.2.1, this.2.2.2.1⟩, this.1, this.2.1⟩
theorem darts_strict (m : Nat) (ts : List Tie) : (dartsL m ts).Pairwise lexT := by
  unfold dartsL
  rw [List.pairwise_flatMap]
  refine ⟨fun i _ => ?_, (pts_strict m).imp fun {i k} hik x hx y hy => ?_⟩
  · rw [List.pairwise_map]
    exact (rowOf_strict m ts i).imp fun h => .inr ⟨rfl, h⟩
  · obtain ⟨a, _, rfl⟩ := List.mem_map.mp hx
    obtain ⟨b, _, rfl⟩ := List.mem_map.mp hy
    exact .inl hik
theorem lexT_asymm {a b : Tie} (h : lexT a b) : ¬ lexT b a := fun k => by
  unfold lexT at h k
  omega
theorem lexT_trans {a b c : Tie} (h : lexT a b) (k : lexT b c) : lexT a c := by
  unfold lexT at h k ⊢
  omega
theorem lexT_tri (a b : Tie) : lexT a b ∨ a = b ∨ lexT b a := by
  unfold lexT
  by_cases h1 : a.1 = b.1
  · by_cases h2 : a.2 = b.2
    · exact .inr (.inl (Prod.ext h1 h2))
    · omega
  · omega
theorem darts_nodup (m : Nat) (ts : List Tie) : (dartsL m ts).Nodup := (darts_strict m ts).imp fun h e => by
  subst e
  unfold lexT at h
  omega
theorem darts_len {m : Nat} (m16 : m ≤ 16) (ts : List Tie) : (dartsL m ts).length ≤ 256 := by
  unfold dartsL
  have h : ∀ l : List Int, (l.flatMap fun p => (rowOf m ts p).map fun q => (p, q)).length ≤ 16 * l.length := fun l => by
    induction l with
    | nil => simp
    | cons a l ih =>
      have h1 := rowOf_len m ts a
      rw [List.flatMap_cons, List.length_append, List.length_cons, List.length_map]
      omega
  have h2 := h (pts m)
  rw [pts_len] at h2
  omega
/-! ### a map that is gone along -/
def itr (f : Tie → Tie) : Nat → Tie → Tie
  | 0, d => d
  | n + 1, d => f (itr f n d)
theorem itr_add (f : Tie → Tie) (a b : Nat) (d : Tie) : itr f (a + b) d = itr f a (itr f b d) := by
  induction a with
  | zero => rw [Nat.zero_add]; rfl
  | succ a ih =>
    rw [Nat.succ_add]
    show f (itr f (a + b) d) = f (itr f a (itr f b d))
    rw [ih]
structure Goes (f : Tie → Tie) (L : List Tie) : Prop where
  mem : ∀ d ∈ L, f d ∈ L
  inj : ∀ d ∈ L, ∀ e ∈ L, f d = f e → d = e
  fst : ∀ d ∈ L, (f d).1 = d.2
theorem Goes.it {f : Tie → Tie} {L : List Tie} (G : Goes f L) {d : Tie} (h : d ∈ L) : ∀ n, itr f n d ∈ L
  | 0 => h
  | n + 1 => G.mem _ (G.it h n)
theorem Goes.back {f : Tie → Tie} {L : List Tie} (G : Goes f L) {d e : Tie} (hd : d ∈ L) (he : e ∈ L) : ∀ n, itr f n d = itr f n e → d = e
  | 0, h => h
  | n + 1, h => G.back hd he n (G.inj _ (G.it hd n) _ (G.it he n) h)
theorem Goes.comes {f : Tie → Tie} {L : List Tie} (G : Goes f L) {d : Tie} (h : d ∈ L) : ∃ k, 0 < k ∧ itr f k d = d := by
  refine Classical.byContradiction fun no => ?_
  have far : ∀ k, 0 < k → itr f k d ≠ d := fun k k0 e => no ⟨k, k0, e⟩
  have nd : ((List.range (L.length + 1)).map fun i => itr f i d).Nodup := by
    refine List.Pairwise.map _ (R := fun i j : Nat => i < j) (fun i j hij e => ?_) List.pairwise_lt_range
    have ej : j = i + (j - i) := by omega
    rw [ej, itr_add] at e
    exact far (j - i) (by omega) (G.back h (G.it h _) i e).symm
  have le := nd.length_le_of_subset (l₂ := L) fun x hx => by
    obtain ⟨i, _, rfl⟩ := List.mem_map.mp hx
    exact G.it h i
  rw [List.length_map, List.length_range] at le
  omega
open Classical in
noncomputable def per (f : Tie → Tie) (d : Tie) : Nat := if h : ∃ k, 0 < k ∧ itr f k d = d then Classical.choose (least h) else 1
theorem Goes.per {f : Tie → Tie} {L : List Tie} (G : Goes f L) {d : Tie} (h : d ∈ L) : 0 < per f d ∧ itr f (per f d) d = d ∧ ∀ j, 0 < j → j < Fd.per f d → itr f j d ≠ d := by
  have c := G.comes h
  unfold Fd.per
  rw [dif_pos c]
  obtain ⟨⟨h1, h2⟩, h3⟩ := Classical.choose_spec (least c)
  exact ⟨h1, h2, fun j j0 jl e => h3 j jl ⟨j0, e⟩⟩
noncomputable def orb (f : Tie → Tie) (d : Tie) : List Tie := (List.range (per f d)).map fun i => itr f i d
theorem orb_len (f : Tie → Tie) (d : Tie) : (orb f d).length = per f d := by simp [orb]
theorem orb_at {f : Tie → Tie} {d : Tie} {i : Nat} (h : i < per f d) : (orb f d)[i]? = some (itr f i d) := by simp [orb, h]
theorem Goes.times {f : Tie → Tie} {L : List Tie} (G : Goes f L) {d : Tie} (h : d ∈ L) (r : Nat) : ∀ q, itr f (r + Fd.per f d * q) d = itr f r d
  | 0 => by rw [Nat.mul_zero, Nat.add_zero]
  | q + 1 => by
    have e : r + Fd.per f d * (q + 1) = (r + Fd.per f d * q) + Fd.per f d := by rw [Nat.mul_succ]; omega
    rw [e, itr_add, (G.per h).2.1, G.times h r q]
theorem Goes.mem_orb {f : Tie → Tie} {L : List Tie} (G : Goes f L) {d e : Tie} (h : d ∈ L) : e ∈ orb f d ↔ ∃ n, itr f n d = e := by
  unfold orb
  rw [List.mem_map]
  constructor
  · rintro ⟨i, _, rfl⟩
    exact ⟨i, rfl⟩
  · rintro ⟨n, rfl⟩
    refine ⟨n % Fd.per f d, List.mem_range.mpr (Nat.mod_lt _ (G.per h).1), ?_⟩
    have q := G.times h (n % Fd.per f d) (n / Fd.per f d)
    rw [Nat.mod_add_div] at q
    exact q.symm
theorem Goes.own {f : Tie → Tie} {L : List Tie} (G : Goes f L) {d : Tie} (h : d ∈ L) : d ∈ orb f d := (G.mem_orb h).mpr ⟨0, rfl⟩
theorem Goes.sub {f : Tie → Tie} {L : List Tie} (G : Goes f L) {d e : Tie} (h : d ∈ L) (k : e ∈ orb f d) : e ∈ L := by
  obtain ⟨n, rfl⟩ := (G.mem_orb h).mp k
  exact G.it h n
theorem Goes.sym {f : Tie → Tie} {L : List Tie} (G : Goes f L) {d e : Tie} (h : d ∈ L) (k : e ∈ orb f d) : d ∈ orb f e := by
  have he := G.sub h k
  obtain ⟨n, rfl⟩ := (G.mem_orb h).mp k
  refine (G.mem_orb he).mpr ⟨Fd.per f d * n - n, ?_⟩
  have p := (G.per h).1
  have le : n ≤ Fd.per f d * n := Nat.le_mul_of_pos_left n p
  rw [← itr_add, Nat.sub_add_cancel le]
  have q := G.times h 0 n
  rw [Nat.zero_add] at q
  exact q
theorem Goes.trans {f : Tie → Tie} {L : List Tie} (G : Goes f L) {d e x : Tie} (h : d ∈ L) (k : e ∈ orb f d) (j : x ∈ orb f e) : x ∈ orb f d := by
  have he := G.sub h k
  obtain ⟨n, rfl⟩ := (G.mem_orb h).mp k
  obtain ⟨i, rfl⟩ := (G.mem_orb he).mp j
  exact (G.mem_orb h).mpr ⟨i + n, itr_add f i n d⟩
theorem Goes.orb_nodup {f : Tie → Tie} {L : List Tie} (G : Goes f L) {d : Tie} (h : d ∈ L) : (orb f d).Nodup := by
  unfold orb
  refine List.Pairwise.map _ (R := fun i j : Nat => i < j ∧ j < Fd.per f d) (fun i j hij e => ?_) ?_
  · have ej : j = i + (j - i) := by omega
    rw [ej, itr_add] at e
    exact (G.per h).2.2 (j - i) (by omega) (by omega) (G.back h (G.it h _) i e).symm
  · refine (List.Pairwise.and_mem.mp List.pairwise_lt_range).imp fun {i j} hij => ⟨hij.2.2, List.mem_range.mp hij.2.1⟩
theorem Goes.per_le {f : Tie → Tie} {L : List Tie} (G : Goes f L) {d : Tie} (h : d ∈ L) : Fd.per f d ≤ L.length := by
  have le := (G.orb_nodup h).length_le_of_subset (l₂ := L) fun x hx => G.sub h hx
  rw [orb_len] at le
  exact le
noncomputable def walkP (f : Tie → Tie) (d : Tie) : List Int := (orb f d).map Prod.fst
theorem walkP_len (f : Tie → Tie) (d : Tie) : (walkP f d).length = per f d := by unfold walkP; rw [List.length_map, orb_len]
theorem walkP_at {f : Tie → Tie} {d : Tie} {i : Nat} (h : i < per f d) : (walkP f d)[i]? = some (itr f i d).1 := by
  unfold walkP
  rw [List.getElem?_map, orb_at h]
  rfl
/-- the next point is the other end of the step -/
theorem Goes.next {f : Tie → Tie} {L : List Tie} (G : Goes f L) {d : Tie} (h : d ∈ L) {i : Nat} (hi : i < Fd.per f d) : (itr f ((i + 1) % Fd.per f d) d).1 = (itr f i d).2 := by
  have e : (itr f (i + 1) d).1 = (itr f i d).2 := G.fst _ (G.it h i)
  by_cases c : i + 1 = Fd.per f d
  · rw [c, Nat.mod_self, ← e, c, (G.per h).2.1]
    rfl
  · rw [Nat.mod_eq_of_lt (by omega)]
    exact e
noncomputable def headB (f : Tie → Tie) (d : Tie) : Bool := dB (∀ e ∈ orb f d, ¬ lexT e d)
theorem Goes.head_iff {f : Tie → Tie} {L : List Tie} (G : Goes f L) (st : L.Pairwise lexT) {n : Nat} {d : Tie} (hd : L[n]? = some d) : headB f d = true ↔ ∀ (j : Nat) (v : Tie), j < n → L[j]? = some v → d ∉ orb f v := by
  have dm := List.mem_of_getElem? hd
  have order : ∀ {i j : Nat} {a b : Tie}, i < j → L[i]? = some a → L[j]? = some b → lexT a b := fun {i j a b} hij ha hb => by
    obtain ⟨h1, rfl⟩ := List.getElem?_eq_some_iff.mp ha
    obtain ⟨h2, rfl⟩ := List.getElem?_eq_some_iff.mp hb
    exact List.pairwise_iff_getElem.mp st i j h1 h2 hij
  unfold headB
  rw [dB_iff]
  constructor
  · intro h j v hj hv k
    exact h v (G.sym (List.mem_of_getElem? hv) k) (order hj hv hd)
  · intro h e he hl
    have em := G.sub dm he
    obtain ⟨j, hj⟩ := List.mem_iff_getElem?.mp em
    rcases Nat.lt_trichotomy j n with c | c | c
    · exact h j e c hj (G.sym dm he)
    · subst c
      cases Option.some.inj (hj.symm.trans hd)
      exact lexT_asymm hl hl
    · exact lexT_asymm hl (order c hd hj)
/-- a least one -/
theorem lex_least : ∀ {l : List Tie}, l ≠ [] → ∃ d ∈ l, ∀ e ∈ l, ¬ lexT e d
  | [], h => absurd rfl h
  | [a], _ => ⟨a, List.mem_cons_self, fun e he => by rw [List.mem_singleton.mp he]; exact fun z => lexT_asymm z z⟩
  | a :: b :: l, _ => by
    obtain ⟨d, hd, h⟩ := lex_least (l := b :: l) (by simp)
    by_cases c : lexT a d
    · refine ⟨a, List.mem_cons_self, fun e he z => ?_⟩
      rcases List.mem_cons.mp he with rfl | he
      · exact lexT_asymm z z
      · exact h e he (lexT_trans z c)
    · refine ⟨d, List.mem_cons_of_mem _ hd, fun e he z => ?_⟩
      rcases List.mem_cons.mp he with rfl | he
      · exact c z
      · exact h e he z
theorem Goes.has_head {f : Tie → Tie} {L : List Tie} (G : Goes f L) {x : Tie} (h : x ∈ L) : ∃ d ∈ L, headB f d = true ∧ x ∈ orb f d := by
  obtain ⟨d, hd, hl⟩ := lex_least (l := orb f x) (fun z => by have := G.own h; rw [z] at this; cases this)
  have dm := G.sub h hd
  refine ⟨d, dm, dB_t fun e he => hl e (G.trans h hd he), G.sym h hd⟩
theorem Goes.heads_apart {f : Tie → Tie} {L : List Tie} (G : Goes f L) {d e x : Tie} (hd : d ∈ L) (he : e ∈ L) (h1 : headB f d = true) (h2 : headB f e = true) (x1 : x ∈ orb f d) (x2 : x ∈ orb f e) : d = e := by
  have ed : e ∈ orb f d := G.trans hd x1 (G.sym he x2)
  have de : d ∈ orb f e := G.sym hd ed
  rcases lexT_tri d e with z | z | z
  · exact absurd z (dB_iff.mp h2 d de)
  · exact z
  · exact absurd z (dB_iff.mp h1 e ed)
/-! ### the step that the turns tell -/
def nxI (t : List Int) (u : Int) : Int := t.getD ((t.idxOf u + 1) % t.length) 0
def stepT (tss : List (List Int)) (d : Tie) : Tie := (d.2, nxI (tss.getD d.2.toNat []) d.1)
theorem idx_at : ∀ {t : List Int} {u : Int}, u ∈ t → t[t.idxOf u]? = some u
  | [], u, h => by cases h
  | x :: t, u, h => by
    rw [List.idxOf_cons]
    by_cases e : x = u
    · subst e
      simp
    · have hb : (x == u) = false := by simpa using e
      rw [hb]
      show (x :: t)[t.idxOf u + 1]? = some u
      rw [List.getElem?_cons_succ]
      refine idx_at ?_
      rcases List.mem_cons.mp h with z | z
      · exact absurd z.symm e
      · exact z
theorem nx_mem {t : List Int} {u : Int} (h : u ∈ t) : nxI t u ∈ t := by
  have l : 0 < t.length := List.length_pos_of_mem h
  have k : (t.idxOf u + 1) % t.length < t.length := Nat.mod_lt _ l
  unfold nxI
  rw [List.getD_eq_getElem?_getD, List.getElem?_eq_getElem k]
  exact List.getElem_mem k
theorem nx_inj {t : List Int} (nd : t.Nodup) {u v : Int} (hu : u ∈ t) (hv : v ∈ t) (e : nxI t u = nxI t v) : u = v := by
  have l : 0 < t.length := List.length_pos_of_mem hu
  have ku : (t.idxOf u + 1) % t.length < t.length := Nat.mod_lt _ l
  have kv : (t.idxOf v + 1) % t.length < t.length := Nat.mod_lt _ l
  have iu : t.idxOf u < t.length := List.idxOf_lt_length_of_mem hu
  have iv : t.idxOf v < t.length := List.idxOf_lt_length_of_mem hv
  unfold nxI at e
  rw [List.getD_eq_getElem?_getD, List.getElem?_eq_getElem ku, List.getD_eq_getElem?_getD, List.getElem?_eq_getElem kv] at e
  have e2 : (t.idxOf u + 1) % t.length = (t.idxOf v + 1) % t.length := L2.nd_ix nd (List.getElem?_eq_getElem ku) (by rw [List.getElem?_eq_getElem kv]; exact congrArg some e.symm)
  have e3 : t.idxOf u = t.idxOf v := by
    by_cases c1 : t.idxOf u + 1 = t.length
    · by_cases c2 : t.idxOf v + 1 = t.length
      · omega
      · rw [c1, Nat.mod_self, Nat.mod_eq_of_lt (by omega)] at e2
        omega
    · by_cases c2 : t.idxOf v + 1 = t.length
      · rw [c2, Nat.mod_self, Nat.mod_eq_of_lt (by omega)] at e2
        omega
      · rw [Nat.mod_eq_of_lt (by omega), Nat.mod_eq_of_lt (by omega)] at e2
        omega
  have gu : t[t.idxOf u]? = some u := idx_at hu
  have gv : t[t.idxOf v]? = some v := idx_at hv
  rw [e3, gv] at gu
  exact (Option.some.inj gu).symm
theorem turn_at {m : Nat} {ts : List Tie} {tss : List (List Int)} (tu : TurnsOf m ts tss) {v : Int} (h : 0 ≤ v ∧ v < m) : (tss.getD v.toNat []).Perm (rowOf m ts v) := by
  have hk : v.toNat < m := by omega
  have hk2 : v.toNat < tss.length := by rw [tu.len]; exact hk
  have e : tss[v.toNat]? = some tss[v.toNat] := List.getElem?_eq_getElem hk2
  rw [List.getD_eq_getElem?_getD, e]
  have q := tu.row _ _ e
  rw [Int.toNat_of_nonneg h.1] at q
  exact q
theorem goes_of {m : Nat} {ts : List Tie} {tss : List (List Int)} (g : Good m ts) (tu : TurnsOf m ts tss) : Goes (stepT tss) (dartsL m ts) := by
  refine ⟨fun d hd => ?_, fun d hd e he h => ?_, fun d _ => rfl⟩
  · have a := (mem_darts g).mp hd
    have p := turn_at tu (a.inside g).2
    refine (mem_darts g).mpr ((mem_rowOf g).mp (p.mem_iff.mp (nx_mem (p.mem_iff.mpr ?_))))
    exact (mem_rowOf g).mpr a.symm
  · have a := (mem_darts g).mp hd
    have b := (mem_darts g).mp he
    have h1 : d.2 = e.2 := congrArg Prod.fst h
    have h2 : nxI (tss.getD d.2.toNat []) d.1 = nxI (tss.getD e.2.toNat []) e.1 := congrArg Prod.snd h
    have p := turn_at tu (a.inside g).2
    rw [← h1] at h2
    have nd : (tss.getD d.2.toNat []).Nodup := p.nodup_iff.mpr (rowOf_nodup m ts d.2)
    refine Prod.ext (nx_inj nd (p.mem_iff.mpr ((mem_rowOf g).mpr a.symm)) (p.mem_iff.mpr ((mem_rowOf g).mpr ?_)) h2) h1
    rw [h1]
    exact b.symm
noncomputable def headsL (m : Nat) (ts : List Tie) (tss : List (List Int)) : List Tie := (dartsL m ts).filter (headB (stepT tss))
noncomputable def walksL (m : Nat) (ts : List Tie) (tss : List (List Int)) : List (List Int) := (headsL m ts tss).map (walkP (stepT tss))
end Fd
namespace Fd
open PySem PySem.Spec PyProof.Rows L2
theorem pairs_over {H : Hp} {D : Addr} {xs ys ws : List V} {ts : List Tie} (d : H D = some (.lst xs)) (p : PairsAt H ws ts) : PairsAt (upd H D (.lst ys)) ws ts := Paired.mono (fun _ _ ⟨a, e, k⟩ => ⟨a, e, by rw [upd_ne (ne_of k d (by intro z; cases z))]; exact k⟩) p
theorem pair_over {H : Hp} {D : Addr} {xs ys : List V} {x : V} {t : Tie} (d : H D = some (.lst xs)) (p : PairAt H x t) : PairAt (upd H D (.lst ys)) x t := by
  obtain ⟨a, e, k⟩ := p
  exact ⟨a, e, by rw [upd_ne (ne_of k d (by intro z; cases z))]; exact k⟩
structure KTxt (K : PySem.W.Frag) (mg : Str → Option Value) : Prop where
  set : mg "set" = none
  zip : mg "zip" = none
  fBehind : Fn K mg "_behind" sBehind ["turns", "step"]
  fWalk : Fn K mg "_walk" sWalk ["turns", "first"]
  fCheckT : Fn K mg "_check_turns" sCheckTurns ["web", "turns"]
  fWalks : Fn K mg "walks" sWalks ["web", "turns"]
def spBehind : Sp := fun vs H Q _ => ∃ (H0 : Hp) (R : Addr) (as : List Addr) (m : Nat) (ts : List Tie) (tss : List (List Int)) (x : V) (d : Tie), vs = [.ref R, x] ∧ RowsAt H0 H R as tss ∧ TurnsOf m ts tss ∧ Good m ts ∧ m ≤ 16 ∧ PairAt H x d ∧ d ∈ dartsL m ts ∧
  ∀ t, H t = none → Q (.ref t) (upd H t (.tup [.int (stepT tss d).1, .int (stepT tss d).2]))
def spWalk : Sp := fun vs H Q _ => ∃ (H0 : Hp) (R : Addr) (as : List Addr) (m : Nat) (ts : List Tie) (tss : List (List Int)) (x : V) (d : Tie), vs = [.ref R, x] ∧ RowsAt H0 H R as tss ∧ TurnsOf m ts tss ∧ Good m ts ∧ m ≤ 16 ∧ PairAt H x d ∧ d ∈ dartsL m ts ∧
  ∀ (H' : Hp) (D : Addr), Same H H' → H D = none → H' D = some (.lst (iL (walkP (stepT tss) d))) → Q (.ref D) H'
section
variable {P : Program} {w : World} {K : PySem.W.Frag} {mg : Str → Option Value} {base : Heap} {C : Addr}
theorem scBehind : FnScope ["turns", "step", "one", "other", "turn"] ["turns", "step"] (defScope sBehind) := ⟨rfl, rfl, rfl, by decide +kernel, rfl, by decide +kernel, by decide +kernel⟩
theorem c_behind (T : WTxt K mg C) (U : KTxt K mg) : C8.Cal P w K mg base 1 "_behind" spBehind [] := by
  refine cal_of U.fBehind scBehind (fun vs H Q E h => ?_) (fun f cdv A outer s H vs Q E hr h => ?_)
  · obtain ⟨H0, R, as, m, ts, tss, x, d, rfl, _⟩ := h
    rfl
  · obtain ⟨H0, R, as, m, ts, tss, x, d, rfl, hR, tu, g, m16, ⟨b, rfl, hb⟩, hd, k⟩ := h
    refine ⟨_, pss_cons (ps_asg (pv 1) (pg_tup (by rfl) (pgs_cons (pg_name (i := 2) scBehind.nd rfl (.inl rfl)) (pgs_cons (pg_name (i := 3) scBehind.nd rfl (.inl rfl)) pgs_nil))))
      (pss_cons (ps_set (i := 4) scBehind.nd rfl (Or.inl rfl) (pe_ix ix_list (pv 0) (pv 3) (fun _ _ => rfl)))
      (pss_one (ps_ret (pe_tup (pa_cons (pv 3) (pa_cons (pe_ix ix_list (pv 4) (pe_op op_mod (pe_op op_add (pe_bm PySem.F.plainAttrs_list PySem.F.slot_list_index PySem.F.type_list_index mt_index (pv 4) (pa_cons (pv 2) pa_nil)) pe_int)
        (pe_callB call_len_seq (by rfl) T.len PySem.boot_len (pa_cons (pv 4) pa_nil))) (fun _ _ => rfl)) pa_nil)))))), ?_⟩
    obtain ⟨d1, d2⟩ := d
    have adj := (mem_darts g).mp hd
    obtain ⟨_, i2, i3⟩ := adj.inside g
    obtain ⟨v, rfl⟩ : ∃ v : Nat, d2 = v := ⟨d2.toNat, by have : 0 ≤ d2 := i2; omega⟩
    have hv : v < m := by have : (v : Int) < m := i3; omega
    obtain ⟨t, et, tp⟩ := tu.get hv
    obtain ⟨c, ec, ecr, _, hc⟩ := hR.get et
    have mem : d1 ∈ t := tp.mem_iff.mpr ((mem_rowOf g).mpr adj.symm)
    have nd : t.Nodup := tp.nodup_iff.mpr (rowOf_nodup m ts v)
    have tl : t.length ≤ 16 := by
      rw [tp.length_eq]
      have := rowOf_len m ts (v : Int)
      omega
    have t0 : 0 < t.length := List.length_pos_of_mem mem
    have ix := idx_at mem
    have il : t.idxOf d1 < t.length := (List.getElem?_eq_some_iff.mp ix).1
    have step2 : (stepT tss (d1, (v : Int))).2 = nxI t d1 := by
      show nxI (tss.getD ((v : Int)).toNat []) d1 = nxI t d1
      rw [Int.toNat_natCast, List.getD_eq_getElem?_getD, et]
      rfl
    have kl : (t.idxOf d1 + 1) % t.length < t.length := Nat.mod_lt _ t0
    have at2 : (iL t)[(t.idxOf d1 + 1) % t.length]? = some (.int (nxI t d1)) := by
      refine iL_get ?_
      unfold nxI
      rw [List.getD_eq_getElem?_getD, List.getElem?_eq_getElem kl]
      rfl
    refine ⟨_, rfl, b, [.int d1, .int v], rfl, SqT.of hb, rfl, .int d1, [.int v], rfl, .int v, [], rfl, rfl, ?_⟩
    refine ⟨_, rfl, _, rfl, R, as.map V.ref, (v : Int), .ref c, rfl, rfl, SqL.of hR.top, atI_nat ecr, ?_⟩
    refine ⟨_, rfl, _, rfl, _, rfl, .inl ⟨rfl, _, SqL.of hc⟩, _, rfl, c, iL t, .int d1, t.idxOf d1, .int d1, rfl, rfl, SqL.of hc, rfl, flat_ints t, iL_get ix, beq_self_eq_true d1, fun i z hi hz => ?_, ?_⟩
    · obtain ⟨y, hy, rfl⟩ := iL_at hz
      refine beq_eq_false_iff_ne.mpr fun e => ?_
      rw [e] at hy
      have := nd_ix nd hy ix
      omega
    · have el : ((iL t).length : Int) = (t.length : Int) := by rw [List.length_map]
      refine ⟨_, _, rfl, rfl, _, rfl, c, iL t, rfl, .inl (SqL.of hc), _, _, rfl, rfl, by rw [el]; omega, c, iL t, _, .int (nxI t d1), rfl, rfl, SqL.of hc, ?_, by show 2 ≤ sizeLine; decide, fun q hq => ?_⟩
      · rw [el, show ((t.idxOf d1 : Nat) : Int) + 1 = ((t.idxOf d1 + 1 : Nat) : Int) by omega, ← Int.natCast_emod]
        exact atI_nat at2
      · have z := k q hq
        rw [step2] at z
        exact z
theorem scWalk : FnScope ["turns", "first", "walk", "one", "other"] ["turns", "first"] (defScope sWalk) := ⟨rfl, rfl, rfl, by decide +kernel, rfl, by decide +kernel, by decide +kernel⟩
theorem c_walk (T : WTxt K mg C) (U : KTxt K mg) : C8.Cal P w K mg base 2 "_walk" spWalk [] := by
  refine cal_of U.fWalk scWalk (fun vs H Q E h => ?_) (fun f cdv A outer s H vs Q E hr h => ?_)
  · obtain ⟨H0, R, as, m, ts, tss, x, d, rfl, _⟩ := h
    rfl
  · obtain ⟨H0, R, as, m, ts, tss, x, d, rfl, hR, tu, g, m16, hx, hd, k⟩ := h
    have hun : (A.deeper (envOfC "_walk" (defScope sWalk) s.heap.objs.size f cdv)).units + 64 < cLine := by
      have := hr.un
      omega
    have G := goes_of g tu
    refine ⟨_, pss_cons (ps_set (i := 2) scWalk.nd rfl (Or.inl rfl) (pe_lst (pa_cons (pe_ix ix_tup (pv 1) pe_int (fun _ _ => rfl)) pa_nil)))
      (pss_cons (ps_asg (C8.pe_c (c_behind T U) hr (by decide) (by rfl) (pa_cons (pv 0) (pa_cons (pv 1) pa_nil))) (pg_tup (by rfl) (pgs_cons (pg_name (i := 3) scWalk.nd rfl (.inl rfl)) (pgs_cons (pg_name (i := 4) scWalk.nd rfl (.inl rfl)) pgs_nil))))
      (pss_cons (ps_while PassesOwn.never (pt_cmpR (op_neD hun) (pe_tup (pa_cons (pv 3) (pa_cons (pv 4) pa_nil))) (pv 1) (nomark _))
        (pss_cons (ps_expr (pe_bm PySem.F.plainAttrs_list PySem.F.slot_list_append PySem.F.type_list_append mt_append (pv 2) (pa_cons (pv 3) pa_nil)))
        (pss_one (ps_asg (C8.pe_c (c_behind T U) hr (by decide) (by rfl) (pa_cons (pv 0) (pa_cons (pe_tup (pa_cons (pv 3) (pa_cons (pv 4) pa_nil))) pa_nil))) (pg_tup (by rfl) (pgs_cons (pg_name (i := 3) scWalk.nd rfl (.inl rfl)) (pgs_cons (pg_name (i := 4) scWalk.nd rfl (.inl rfl)) pgs_nil)))))))
      (pss_one (ps_ret (pv 2))))), ?_⟩
    obtain ⟨b, ex, hb⟩ := id hx
    obtain ⟨p0, p1, p2⟩ := G.per hd
    have pl := G.per_le hd
    have dl := darts_len m16 ts
    -- walk = [first[0]]
    refine ⟨_, rfl, b, [.int d.1, .int d.2], 0, .int d.1, ex, rfl, SqT.of hb, rfl, by show 1 ≤ sizeLine; decide, fun D hD => ?_⟩
    have s1 := Same.put (o := .lst [.int d.1]) hD
    -- one, other = _behind(turns, first)
    refine ⟨_, rfl, _, rfl, H0, R, as, m, ts, tss, x, d, rfl, hR.same s1, tu, g, m16, PairAt.same s1 hx, hd, fun t ht => ?_⟩
    have s2 := Same.put (o := .tup [.int (stepT tss d).1, .int (stepT tss d).2]) ht
    refine ⟨t, _, rfl, SqT.of upd_same, rfl, .int (stepT tss d).1, [.int (stepT tss d).2], rfl, .int (stepT tss d).2, [], rfl, rfl, ?_⟩
    have wk : ∀ i, i < per (stepT tss) d → iL ((walkP (stepT tss) d).take i) ++ [V.int (itr (stepT tss) i d).1] = iL ((walkP (stepT tss) d).take (i + 1)) := fun i hi => by
      rw [take_next (walkP_at hi)]
      unfold iL
      rw [List.map_append]
      rfl
    refine while_by (fun σ H1 => ∃ i, 0 < i ∧ i ≤ per (stepT tss) d ∧ σ = [some (.ref R), some x, some (.ref D), some (.int (itr (stepT tss) i d).1), some (.int (itr (stepT tss) i d).2)] ∧ Same H H1 ∧ H1 D = some (.lst (iL ((walkP (stepT tss) d).take i)))) (fun σ H1 => 300 - muL 2 σ H1)
      ⟨1, Nat.one_pos, p0, rfl, s1.trans s2, ?_⟩ ?_ ?_
    · refine s2 _ _ ?_
      rw [upd_same]
      exact congrArg (fun z => some (HO.lst z)) (wk 0 p0)
    · rintro σ H1 ⟨i, i0, ip, rfl, s3, d3⟩
      refine ⟨_, rfl, _, rfl, by show 2 ≤ sizeLine; decide, fun q hq => ?_⟩
      have s4 := Same.put (o := .tup [.int (itr (stepT tss) i d).1, .int (itr (stepT tss) i d).2]) hq
      have s34 := s3.trans s4
      refine ⟨_, rfl, prd (itr (stepT tss) i d), prd d, dp_pair ⟨q, rfl, upd_same⟩, dp_pair (PairAt.same s34 hx), prd_shaped _, prd_shaped _, _, rfl, ?_⟩
      rw [prd_eqv]
      by_cases c : itr (stepT tss) i d = d
      · refine no_ (by rw [decide_eq_true c]; rfl) ?_
        have ei : i = per (stepT tss) d := by
          rcases Nat.lt_or_ge i (per (stepT tss) d) with z | z
          · exact absurd c (p2 i i0 z)
          · omega
        subst ei
        have tk : (walkP (stepT tss) d).take (per (stepT tss) d) = walkP (stepT tss) d := List.take_of_length_le (by rw [walkP_len]; exact Nat.le_refl _)
        rw [tk] at d3
        exact ⟨_, rfl, k _ D s34 hD (s4 _ _ d3)⟩
      · refine yep_ (by rw [decide_eq_false c]; rfl) ?_
        have il : i < per (stepT tss) d := by
          rcases Nat.lt_or_ge i (per (stepT tss) d) with z | z
          · exact z
          · have e : i = per (stepT tss) d := by omega
            rw [e] at c
            exact absurd p1 c
        have len : ((walkP (stepT tss) d).take i).length = i := by
          rw [List.length_take, walkP_len]
          omega
        refine ⟨_, rfl, .inl ⟨rfl, _, SqL.of (s4 _ _ d3)⟩, _, rfl, D, _, _, rfl, rfl, s4 _ _ d3, by rw [List.length_map, len]; exact small (by omega), ?_⟩
        rw [wk i il]
        have s5 : Same H (upd (upd H1 q (.tup [.int (itr (stepT tss) i d).1, .int (itr (stepT tss) i d).2])) D (.lst (iL ((walkP (stepT tss) d).take (i + 1))))) := Same.write s34 hD
        have d5 : (upd (upd H1 q (.tup [.int (itr (stepT tss) i d).1, .int (itr (stepT tss) i d).2])) D (.lst (iL ((walkP (stepT tss) d).take (i + 1))))) D = some (.lst (iL ((walkP (stepT tss) d).take (i + 1)))) := upd_same
        generalize upd (upd H1 q (.tup [.int (itr (stepT tss) i d).1, .int (itr (stepT tss) i d).2])) D (.lst (iL ((walkP (stepT tss) d).take (i + 1)))) = H5 at s5 d5 ⊢
        refine ⟨_, rfl, _, rfl, _, rfl, by show 2 ≤ sizeLine; decide, fun r hr' => ?_⟩
        have s6 := Same.put (o := .tup [.int (itr (stepT tss) i d).1, .int (itr (stepT tss) i d).2]) hr'
        refine ⟨H0, R, as, m, ts, tss, .ref r, itr (stepT tss) i d, rfl, hR.same (s5.trans s6), tu, g, m16, ⟨r, rfl, upd_same⟩, G.it hd i, fun t' ht' => ?_⟩
        have s7 := Same.put (o := .tup [.int (stepT tss (itr (stepT tss) i d)).1, .int (stepT tss (itr (stepT tss) i d)).2]) ht'
        refine ⟨t', _, rfl, SqT.of upd_same, rfl, .int (stepT tss (itr (stepT tss) i d)).1, [.int (stepT tss (itr (stepT tss) i d)).2], rfl, .int (stepT tss (itr (stepT tss) i d)).2, [], rfl, rfl, ?_⟩
        have d7 := s7 _ _ (s6 _ _ d5)
        refine ⟨⟨i + 1, Nat.succ_pos i, il, rfl, (s5.trans s6).trans s7, d7⟩, ?_⟩
        have len2 : ((walkP (stepT tss) d).take (i + 1)).length = i + 1 := by
          rw [List.length_take, walkP_len]
          omega
        have e1 : muL 2 [some (V.ref R), some x, some (.ref D), some (.int (itr (stepT tss) i d).1), some (.int (itr (stepT tss) i d).2)] H1 = i := by
          show (match H1 D with | some (.lst xs) => xs.length | _ => 0) = i
          rw [d3]
          show (iL ((walkP (stepT tss) d).take i)).length = i
          rw [List.length_map, len]
        have e2 : ∀ (H9 : Hp) (v3 v4 : Option V), H9 D = some (.lst (iL ((walkP (stepT tss) d).take (i + 1)))) → muL 2 [some (V.ref R), some x, some (.ref D), v3, v4] H9 = i + 1 := fun H9 v3 v4 h9 => by
          show (match H9 D with | some (.lst xs) => xs.length | _ => 0) = i + 1
          rw [h9]
          show (iL ((walkP (stepT tss) d).take (i + 1))).length = i + 1
          rw [List.length_map, len2]
        show 300 - muL 2 _ _ < 300 - muL 2 _ _
        rw [e1]
        have e3 := e2 _ (some (.int (stepT tss (itr (stepT tss) i d)).1)) (some (.int (stepT tss (itr (stepT tss) i d)).2)) d7
        exact Nat.lt_of_le_of_lt (Nat.le_of_eq (congrArg (fun z => 300 - z) e3)) (by omega)
    · rintro σ H1 Q1 Q2 hq ⟨v, e1, v2, e2, l0, h⟩
      refine ⟨v, e1, v2, e2, l0, fun p hp => ?_⟩
      obtain ⟨v3, e3, d, e, h1, h2, h3, h4, c, e6, q⟩ := h p hp
      exact ⟨v3, e3, d, e, h1, h2, h3, h4, c, e6, hq _ _ q⟩
end
end Fd
namespace Fd
open PySem PySem.Spec PyProof.Rows L2
theorem cut_take (xs : List V) (k : Nat) (h : k ≤ xs.length) : cutV xs none (some (k : Int)) = xs.take k := by
  unfold cutV
  have e2 : HT.sIx xs.length xs.length (some (k : Int)) = min k xs.length := HT.sIx_nat _ _ k
  have e1 : HT.sIx xs.length 0 none = 0 := rfl
  rw [e1, e2, Nat.min_eq_left h, List.drop_zero, Nat.sub_zero]
theorem cut_drop (xs : List V) (k : Nat) (h : k ≤ xs.length) : cutV xs (some (k : Int)) none = xs.drop k := by
  unfold cutV
  have e2 : HT.sIx xs.length 0 (some (k : Int)) = min k xs.length := HT.sIx_nat _ _ k
  have e1 : HT.sIx xs.length xs.length none = xs.length := rfl
  rw [e1, e2, Nat.min_eq_left h]
  exact List.take_of_length_le (by rw [List.length_drop]; omega)
theorem darts_le {m : Nat} {ts : List Tie} (g : Good m ts) : (dartsL m ts).length ≤ 2 * ts.length := by
  have le := (darts_nodup m ts).length_le_of_subset (l₂ := ts ++ ts.map fun t => (t.2, t.1)) fun d hd => by
    rcases (mem_darts g).mp hd with z | z
    · exact List.mem_append_left _ z
    · exact List.mem_append_right _ (List.mem_map.mpr ⟨_, z, rfl⟩)
  rw [List.length_append, List.length_map] at le
  omega
theorem walk_rot {f : Tie → Tie} {L : List Tie} (G : Goes f L) {d : Tie} (hd : d ∈ L) {q : Nat} (hq : q < per f d) : (iL ((walkP f d).drop 1 ++ (walkP f d).take 1))[q]? = some (.int (itr f q d).2) := by
  refine iL_get ?_
  have p0 := (G.per hd).1
  rw [← G.next hd hq]
  have dl : ((walkP f d).drop 1).length = per f d - 1 := by rw [List.length_drop, walkP_len]
  by_cases c : q + 1 = per f d
  · rw [c, Nat.mod_self, List.getElem?_append_right (by omega), dl, show q - (per f d - 1) = 0 by omega, List.getElem?_take_of_lt (by omega)]
    exact walkP_at p0
  · rw [Nat.mod_eq_of_lt (by omega), List.getElem?_append_left (by omega), List.getElem?_drop, Nat.add_comm 1 q]
    exact walkP_at (by omega)
def spCheckT (C : Addr) (K : PySem.W.Frag) : Sp := fun vs H Q _ => ∃ (H0 : Hp) (p : Addr) (m : Nat) (ts : List Tie) (x : V) (o : Option (List It)), vs = [.ref p, x] ∧ WebAt C H0 H p m ts ∧ m ≤ 16 ∧ ThAt K H x o ∧ okTh (rowsOf m ts) o ∧ ∀ H', Same H H' → Q .non H'
def spWalks (C : Addr) : Sp := fun vs H Q _ => ∃ (H0 : Hp) (p R : Addr) (as : List Addr) (m : Nat) (ts : List Tie) (tss : List (List Int)), vs = [.ref p, .ref R] ∧ WebAt C H0 H p m ts ∧ RowsAt H0 H R as tss ∧ TurnsOf m ts tss ∧ Good m ts ∧ m ≤ 16 ∧ ts.length ≤ 40 ∧
  ∀ (H' : Hp) (D : Addr) (bs : List Addr), Same H H' → RowsAt H H' D bs (walksL m ts tss) → Q (.ref D) H'
theorem heads_len {m : Nat} {ts : List Tie} (g : Good m ts) (tss : List (List Int)) (tl : ts.length ≤ 40) (n : Nat) : ((((dartsL m ts).take n).filter (headB (stepT tss))).map (walkP (stepT tss))).length ≤ 80 := by
  have h1 := List.length_filter_le (headB (stepT tss)) ((dartsL m ts).take n)
  have h2 := darts_le g
  rw [List.length_take] at h1
  rw [List.length_map]
  omega
section
variable {P : Program} {w : World} {K : PySem.W.Frag} {mg : Str → Option Value} {base : Heap} {C : Addr}
theorem scCheckT : FnScope ["web", "turns"] ["web", "turns"] (defScope sCheckTurns) := ⟨rfl, rfl, rfl, by decide +kernel, rfl, by decide +kernel, by decide +kernel⟩
theorem c_checkT (T : WTxt K mg C) (U : TTxt K mg C) (F : Fn K mg "_check_turns" sCheckTurns ["web", "turns"]) : C8.Cal P w K mg base 6 "_check_turns" (spCheckT C K) [] := by
  refine cal_of F scCheckT (fun vs H Q E h => ?_) (fun f cdv A outer s H vs Q E hr h => ?_)
  · obtain ⟨H0, p, m, ts, x, o, rfl, _⟩ := h
    rfl
  · obtain ⟨H0, p, m, ts, x, o, rfl, W, m16, hx, ok, k⟩ := h
    refine ⟨_, pss_one (ps_if (pt_not (pt_val (C8.pe_c (c_are T U) hr (by decide) (by rfl) (pa_cons (pv 0) (pa_cons (pv 1) pa_nil))))) (pss_one ps_never) pss_nil), ?_⟩
    refine ⟨_, rfl, _, rfl, H0, p, m, ts, x, o, rfl, W, m16, hx, fun H1 s1 => ⟨_, rfl, ?_⟩⟩
    rw [dB_t ok]
    exact iteF (k H1 s1)
abbrev nWalks : List Str := ["web", "turns", "found", "gone", "step", "walk", "each", "one", "other"]
theorem scWalks : FnScope ["web", "turns", "found", "gone", "step", "walk", "each", "one", "other"] ["web", "turns"] (defScope sWalks) := ⟨rfl, rfl, rfl, by decide +kernel, rfl, by decide +kernel, by decide +kernel⟩
theorem c_walks (T : WTxt K mg C) (U : TTxt K mg C) (N : KTxt K mg) : C8.Cal P w K mg base 7 "walks" (spWalks C) [] := by
  refine cal_of N.fWalks scWalks (fun vs H Q E h => ?_) (fun f cdv A outer s H vs Q E hr h => ?_)
  · obtain ⟨H0, p, R, as, m, ts, tss, rfl, _⟩ := h
    rfl
  · obtain ⟨H0, p, R, ar, m, ts, tss, rfl, W, hR, tu, g, m16, tl, k⟩ := h
    obtain ⟨p0, dx, Rw, aw, hp, _⟩ := id W
    have G := goes_of g tu
    have short := tu.short m16
    refine ⟨_, pss_cons (ps_expr (C8.pe_c (c_checkT T U N.fCheckT) hr (by decide) (by rfl) (pa_cons (pv 0) (pa_cons (pv 1) pa_nil))))
      (pss_cons (ps_set (i := 2) scWalks.nd rfl (Or.inl rfl) (pe_lst pa_nil))
      (pss_cons (ps_set (i := 3) scWalks.nd rfl (Or.inl rfl) (pe_callTy0 cr_newW (by rfl) N.set (by decide +kernel)))
      (pss_cons (ps_for PassesOwn.never rfl (pi_list (pe_lc2 (own := [("one", 7), ("other", 8)]) (vs1 := [8]) (g := gName 7) (g1 := gName 8) (tt := tYes) (tt1 := tYes) (te := tTup (tCons (tVar 7) (tCons (tVar 8) tNil))) (wi1 := iList K (tMeth C "beside" (spBeside C) [] C8.E0 (tVar 0) (tCons (tVar 7) tNil))) (by rfl) scWalks.nd
            (pi_range1 (by rfl) T.range (pa_cons (pe_fld (pv 0) rfl) pa_nil))
            (blkOk_by (own := [("one", 7), ("other", 8)]) (N := nWalks) (sc := defScope sWalks) (by decide +kernel)) (by simp)
            (fun _ _ _ _ _ => pg_name (i := 7) scWalks.nd rfl (Or.inl rfl)) (fun _ _ _ _ _ => pts_nil)
            (fun _ _ _ _ _ => pi_list (C8.pe_mt (c_beside T U.fC U.fB) hr (by decide) (pv 0) (pa_cons (pv 7) pa_nil)))
            (fun _ _ _ _ _ => pg_name (i := 8) scWalks.nd rfl (Or.inl rfl)) (fun _ _ _ _ _ => pts_nil)
            (fun _ _ _ _ _ => pe_tup (pa_cons (pv 7) (pa_cons (pv 8) pa_nil))))) (pg_name (i := 4) scWalks.nd rfl (Or.inl rfl))
        (pss_one (ps_if (pt_cmpR (op_notInW (hu65 hr)) (pv 4) (pv 3) (by rfl))
          (pss_cons (ps_set (i := 5) scWalks.nd rfl (Or.inl rfl) (C8.pe_c (c_walk T N) hr (by decide) (by rfl) (pa_cons (pv 1) (pa_cons (pv 4) pa_nil))))
          (pss_cons (ps_expr (pe_bm PySem.F.plainAttrs_list PySem.F.slot_list_append PySem.F.type_list_append mt_append (pv 2) (pa_cons (pv 5) pa_nil)))
          (pss_one (ps_for PassesOwn.never rfl (pi_zipN (by rfl) N.zip (pa_cons (pv 5) (pa_cons (pe_op op_cat (pe_slice sl_list (pv 5) (po_some pe_int) po_none) (pe_slice sl_list (pv 5) po_none (po_some pe_int))) pa_nil))) (pg_name (i := 6) scWalks.nd rfl (Or.inl rfl))
            (pss_one (ps_expr (pe_addW (hu65 hr) (pv 3) (pa_cons (pv 6) pa_nil)))))))) pss_nil)))
      (pss_one (ps_ret (pv 2)))))), ?_⟩
    -- _check_turns(web, turns)
    refine ⟨_, rfl, _, rfl, H0, p, m, ts, .ref R, _, rfl, W, m16, .lst (SqL.of hR.top) (rows_its hR fun t ht => by have := short t ht; omega) (by rw [List.length_map, hR.len, tu.len]; omega), tu.ok, fun H1 s1 => ?_⟩
    -- found = []; gone = set()
    refine ⟨Nat.zero_le _, fun Fa hFa => ?_⟩
    have s2 := Same.put (o := .lst []) hFa
    have f2 : (upd H1 Fa (.lst [])) Fa = some (.lst []) := upd_same
    generalize upd H1 Fa (.lst []) = H2 at s2 f2 ⊢
    refine ⟨rfl, fun S hS => ?_⟩
    have nFS : Fa ≠ S := ne_of_none f2 hS
    have S1 : H1 S = none := s2.free hS
    have s3 : Same H2 (upd H2 S (SetWO P w S [])) := Same.put hS
    have pl : GoneAt P w (upd H2 S (SetWO P w S [])) S [] [] := ⟨upd_same, fun p hp => (by cases hp), List.Perm.refl _, List.nodup_nil⟩
    have f3 := s3 _ _ f2
    have s13 := s2.trans s3
    -- the steps, rising
    refine ⟨_, rfl, p, C, dx, _, _, rfl, s13 _ _ (s1 _ _ hp), T.cl, T.nMany, wF_many _ _, (m : Int), rfl, by omega, by omega, fun D4 hD4 => ?_⟩
    refine ⟨fun i n H4 => n = m - i ∧ i ≤ m ∧ Same (upd H2 S (SetWO P w S [])) H4 ∧ ∃ ws, H4 D4 = some (.lst ws) ∧ PairsAt H4 ws ((pts i).flatMap fun p => (rowOf m ts p).map fun q => (p, q)), ⟨_, rfl, Nat.zero_le _, Same.put hD4, [], upd_same, .nil⟩, ?_⟩
    rintro i n H4 ⟨rfl, him, s4, ws4, dw, hw⟩
    by_cases hi : i < m
    · refine .inr ⟨by show i < (m : Int).toNat; omega, fun H5 => i + 1 ≤ m ∧ Same (upd H2 S (SetWO P w S [])) H5 ∧ ∃ ws, H5 D4 = some (.lst ws) ∧ PairsAt H5 ws ((pts (i + 1)).flatMap fun p => (rowOf m ts p).map fun q => (p, q)), fun H5 q => ⟨m - (i + 1), by omega, rfl, q⟩, ?_⟩
      rintro x H5 ⟨rfl, rfl⟩
      refine ⟨rfl, ?_⟩
      refine yes_ ?_
      refine iteT ?_
      have s05 := s1.trans (s13.trans s4)
      -- for other in web.beside(one)
      refine ⟨_, rfl, p, dx, _, rfl, s05 _ _ hp, wF_no _ _ (by decide +kernel) (by decide +kernel), _, rfl, H0, p, m, ts, i, by rw [Int.zero_add]; rfl, W.same s05, hi, fun B hB => ⟨B, rfl, ⟨_, SqL.of upd_same⟩, ?_⟩⟩
      have sB := Same.put (o := .lst (iL (rowOf m ts i))) hB
      have hb : (upd H5 B (.lst (iL (rowOf m ts i)))) B = some (.lst (iL (rowOf m ts i))) := upd_same
      have d5 := sB _ _ dw
      have s5 := s4.trans sB
      have hw5 := PairsAt.same sB hw
      have pre : ((pts i).flatMap fun p => (rowOf m ts p).map fun q => (p, q)).length ≤ 256 := darts_len (by omega : i ≤ 16) ts |> fun _ => by
        have h : ∀ l : List Int, (l.flatMap fun p => (rowOf m ts p).map fun q => (p, q)).length ≤ 16 * l.length := fun l => by
          induction l with
          | nil => simp
          | cons a l ih =>
            have h1 := rowOf_len m ts a
            rw [List.flatMap_cons, List.length_append, List.length_cons, List.length_map]
            omega
        have h2 := h (pts i)
        rw [pts_len] at h2
        omega
      generalize upd H5 B (.lst (iL (rowOf m ts i))) = Hb at hb d5 s5 hw5 ⊢
      refine ⟨fun j n H6 => n = (rowOf m ts i).length - j ∧ j ≤ (rowOf m ts i).length ∧ Same (upd H2 S (SetWO P w S [])) H6 ∧ H6 B = some (.lst (iL (rowOf m ts i))) ∧ ∃ ws, H6 D4 = some (.lst ws) ∧ PairsAt H6 ws (((pts i).flatMap fun p => (rowOf m ts p).map fun q => (p, q)) ++ ((rowOf m ts i).take j).map fun y => ((i : Int), y)),
        ⟨_, rfl, Nat.zero_le _, s5, hb, ws4, d5, by rw [List.take_zero, List.map_nil, List.append_nil]; exact hw5⟩, ?_⟩
      rintro j n H6 ⟨rfl, hjl, s6, b6, us, hDu, hu⟩
      have BD : B ≠ D4 := fun e => by
        rw [e] at b6
        have := hB
        rw [e, dw] at this
        cases this
      by_cases hj : j < (rowOf m ts i).length
      · have ej : (rowOf m ts i)[j]? = some (rowOf m ts i)[j] := List.getElem?_eq_getElem hj
        refine .inr ⟨⟨_, _, SqL.of b6, iL_get ej⟩, fun H7 => j + 1 ≤ (rowOf m ts i).length ∧ Same (upd H2 S (SetWO P w S [])) H7 ∧ H7 B = some (.lst (iL (rowOf m ts i))) ∧ ∃ ws, H7 D4 = some (.lst ws) ∧ PairsAt H7 ws (((pts i).flatMap fun p => (rowOf m ts p).map fun q => (p, q)) ++ ((rowOf m ts i).take (j + 1)).map fun y => ((i : Int), y)), fun H7 q => ⟨_, by show (rowOf m ts i).length - (j + 1) < _; omega, rfl, q⟩, ?_⟩
        rintro x H7 ⟨rfl, hx⟩
        obtain rfl : x = .int (rowOf m ts i)[j] := Option.some.inj ((hx _ (SqL.of b6)).symm.trans (iL_get ej))
        generalize hy : (rowOf m ts i)[j] = y at ej ⊢
        refine ⟨rfl, ?_⟩
        refine yes_ ?_
        refine iteT ?_
        refine ⟨_, rfl, _, rfl, by show 2 ≤ sizeLine; decide, fun q hq => ?_⟩
        have qD : D4 ≠ q := ne_of_none hDu hq
        have qB : B ≠ q := ne_of_none b6 hq
        have rl := rowOf_len m ts (i : Int)
        have l1 : us.length < sizeLine := by
          rw [hu.length, List.length_append, List.length_map, List.length_take]
          exact small (by omega)
        refine ⟨us, by rw [upd_ne qD]; exact hDu, l1, by omega, Same.write (Same.step s6 hq) hD4, by rw [upd_ne BD, upd_ne qB]; exact b6, _, upd_same, ?_⟩
        rw [take_next ej, List.map_append, ← List.append_assoc, Int.zero_add]
        refine Paired.snoc ?_ ⟨q, rfl, by rw [upd_ne qD.symm, upd_same]⟩
        refine Paired.mono (fun v t ⟨a, e, h⟩ => ⟨a, e, ?_⟩) hu
        have a1 : a ≠ q := ne_of_none h hq
        have a2 : a ≠ D4 := ne_of h hDu (by intro z; cases z)
        rw [upd_ne a2, upd_ne a1]
        exact h
      · have e : j = (rowOf m ts i).length := by omega
        subst e
        refine .inl ⟨⟨_, SqL.of b6, by rw [List.length_map]; exact Nat.le_refl _⟩, by omega, s6, us, hDu, ?_⟩
        rw [List.take_length] at hu
        rw [pts_succ, List.flatMap_append, List.flatMap_singleton]
        exact hu
    · have e : i = m := by omega
      subst e
      refine .inl ⟨by show (i : Int).toNat ≤ i; omega, ?_⟩
      have p4 : PairsAt H4 ws4 (dartsL i ts) := hw
      have nDF : D4 ≠ Fa := fun e => by
        have z := hD4
        rw [e] at z
        exact absurd (f3.symm.trans z) (fun q => by cases q)
      have pl4 := pl.same s4
      have l4 := p4.length
      refine ⟨D4, rfl, ⟨_, SqL.of dw⟩, for_list (K := K) (a := D4) (xs := ws4)
        (fun n σ H5 => ∃ (as : List Addr) (L : List (Addr × List Int)) (V0 : List Tie) (v4 v5 v6 : Option V), σ = [some (.ref p), some (.ref R), some (.ref Fa), some (.ref S), v4, v5, v6, none, none] ∧ Same H1 H5 ∧ H5 D4 = some (.lst ws4) ∧ PairsAt H5 ws4 (dartsL i ts) ∧
          RowsAt H H5 Fa as ((((dartsL i ts).take n).filter (headB (stepT tss))).map (walkP (stepT tss))) ∧ GoneAt P w H5 S L V0 ∧ ∀ u, u ∈ V0 ↔ ∃ (j : Nat) (v : Tie), j < n ∧ (dartsL i ts)[j]? = some v ∧ u ∈ orb (stepT tss) v)
        ⟨[], [], [], none, none, none, rfl, s13.trans s4, dw, p4, ⟨s4 _ _ f3, s1.free hFa, rfl, List.nodup_nil, by simp, fun i a r e _ => by simp at e⟩, pl4, fun u => ⟨fun z => (by cases z), fun ⟨j, _, z, _⟩ => absurd z (Nat.not_lt_zero _)⟩⟩ (fun n σ H5 _ ⟨_, _, _, _, _, _, _, _, d, _⟩ => SqL.of d) ?_ ?_⟩
      · rintro n x σ H5 hn ⟨as, L, V0, v4, v5, v6, rfl, s5, e5, n5, f5, pl5, hU⟩
        obtain ⟨t, et, hxt⟩ := paired_get n5 hn
        obtain ⟨b, rfl, hb⟩ := id hxt
        have ht := List.mem_of_getElem? et
        refine ⟨_, rfl, _, rfl, b, S, kOf t, L, rfl, rfl, SqT.of hb, pl5.at_, pl5.tupsAt, _, rfl, ?_⟩
        have hd := G.head_iff (darts_strict i ts) et
        rw [take_next et]
        by_cases c : t ∈ V0
        · refine no_ (by rw [decide_eq_true (pl5.mem.mpr c)]; rfl) ?_
          obtain ⟨j, v, j1, j2, j3⟩ := (hU t).mp c
          have hf : headB (stepT tss) t = false := Bool.eq_false_iff.mpr fun z => hd.mp z j v j1 j2 j3
          refine ⟨as, L, V0, _, _, _, rfl, s5, e5, n5, ?_, pl5, fun u => ?_⟩
          · rw [List.filter_append, show ([t].filter (headB (stepT tss))) = [] by simp [hf], List.append_nil]
            exact f5
          · rw [hU u]
            constructor
            · rintro ⟨q, y, i1, i2, i3⟩
              exact ⟨q, y, by omega, i2, i3⟩
            · rintro ⟨q, y, i1, i2, i3⟩
              rcases Nat.lt_or_ge q n with z | z
              · exact ⟨q, y, z, i2, i3⟩
              · have ei : q = n := by omega
                subst ei
                cases Option.some.inj (i2.symm.trans et)
                exact ⟨j, v, j1, j2, G.trans (List.mem_of_getElem? j2) j3 i3⟩
        · refine yep_ (by rw [decide_eq_false (fun z => c (pl5.mem.mp z))]; rfl) ?_
          have hf : headB (stepT tss) t = true := hd.mpr fun j v j1 j2 j3 => c ((hU t).mpr ⟨j, v, j1, j2, j3⟩)
          have pr := G.per ht
          have pl8 := G.per_le ht
          have dle := darts_le g
          -- walk = _walk(turns, step)
          refine ⟨_, rfl, _, rfl, H0, R, ar, i, ts, tss, .ref b, t, rfl, hR.same (s1.trans s5), tu, g, m16, hxt, ht, fun H6 D6 s56 hD6 d6 => ?_⟩
          have f6 := f5.same s56
          have pl6 := pl5.same s56
          have e6 := s56 _ _ e5
          have n6 := PairsAt.same s56 n5
          have n6F : D6 ≠ Fa := fun e => by
            rw [e, f5.top] at hD6
            cases hD6
          have s6 := s5.trans s56
          have al := f6.len
          have al2 := heads_len g tss tl n
          -- found.append(walk)
          refine ⟨_, rfl, .inl ⟨rfl, _, SqL.of f6.top⟩, _, rfl, Fa, _, _, rfl, rfl, f6.top, by rw [List.length_map]; exact small (by omega), ?_⟩
          have f7 := f5.put (s1.trans s5) s56 hD6 d6
          have pl7 := pl6.over (ys := as.map V.ref ++ [.ref D6]) f6.top
          have d7 : (upd H6 Fa (.lst (as.map V.ref ++ [.ref D6]))) D6 = some (.lst (iL (walkP (stepT tss) t))) := by rw [upd_ne n6F]; exact d6
          have e7 : (upd H6 Fa (.lst (as.map V.ref ++ [.ref D6]))) D4 = some (.lst ws4) := by rw [upd_ne nDF]; exact e6
          have n7 := pairs_over (ys := as.map V.ref ++ [.ref D6]) f6.top n6
          have s7 : Same H1 (upd H6 Fa (.lst (as.map V.ref ++ [.ref D6]))) := Same.write s6 hFa
          generalize upd H6 Fa (.lst (as.map V.ref ++ [.ref D6])) = H7 at f7 pl7 d7 e7 n7 s7 ⊢
          have wl : (walkP (stepT tss) t).length = per (stepT tss) t := walkP_len _ _
          have wl1 : 1 ≤ (iL (walkP (stepT tss) t)).length := by rw [List.length_map, wl]; exact pr.1
          -- zip(walk, walk[1:] + walk[:1])
          refine ⟨_, rfl, _, rfl, 1, rfl, D6, iL (walkP (stepT tss) t), rfl, SqL.of d7, fun q1 hq1 => ?_⟩
          have t1 := Same.put (o := .lst (cutV (iL (walkP (stepT tss) t)) (some 1) none)) hq1
          refine ⟨_, rfl, 1, rfl, D6, iL (walkP (stepT tss) t), rfl, SqL.of (t1 _ _ d7), fun q2 hq2 => ?_⟩
          have t2 := Same.put (o := .lst (cutV (iL (walkP (stepT tss) t)) none (some 1))) hq2
          have ec1 : cutV (iL (walkP (stepT tss) t)) (some 1) none = iL ((walkP (stepT tss) t).drop 1) := (cut_drop _ 1 wl1).trans (List.map_drop ..).symm
          have ec2 : cutV (iL (walkP (stepT tss) t)) none (some 1) = iL ((walkP (stepT tss) t).take 1) := (cut_take _ 1 wl1).trans (List.map_take ..).symm
          have ecat : cutV (iL (walkP (stepT tss) t)) (some 1) none ++ cutV (iL (walkP (stepT tss) t)) none (some 1) = iL ((walkP (stepT tss) t).drop 1 ++ (walkP (stepT tss) t).take 1) := by
            rw [ec1, ec2]
            exact (List.map_append ..).symm
          refine ⟨q1, q2, _, _, rfl, rfl, t2 _ _ upd_same, upd_same, ?_, fun q3 hq3 => ?_⟩
          · rw [ec1, ec2, List.length_map, List.length_map, List.length_drop, List.length_take]
            exact smalle (by omega)
          have t3 := Same.put (o := .lst (cutV (iL (walkP (stepT tss) t)) (some 1) none ++ cutV (iL (walkP (stepT tss) t)) none (some 1))) hq3
          have d3 : (upd (upd (upd H7 q1 (.lst (cutV (iL (walkP (stepT tss) t)) (some 1) none))) q2 (.lst (cutV (iL (walkP (stepT tss) t)) none (some 1)))) q3 (.lst (cutV (iL (walkP (stepT tss) t)) (some 1) none ++ cutV (iL (walkP (stepT tss) t)) none (some 1)))) q3 = some (.lst (iL ((walkP (stepT tss) t).drop 1 ++ (walkP (stepT tss) t).take 1))) := by rw [upd_same, ecat]
          have t13 := (t1.trans t2).trans t3
          generalize upd (upd (upd H7 q1 (.lst (cutV (iL (walkP (stepT tss) t)) (some 1) none))) q2 (.lst (cutV (iL (walkP (stepT tss) t)) none (some 1)))) q3 (.lst (cutV (iL (walkP (stepT tss) t)) (some 1) none ++ cutV (iL (walkP (stepT tss) t)) none (some 1))) = H8 at t3 d3 t13 ⊢
          have f8 := f7.same t13
          have pl8' := pl7.same t13
          have n8 := PairsAt.same t13 n7
          have rl : (iL (walkP (stepT tss) t)).length = (iL ((walkP (stepT tss) t).drop 1 ++ (walkP (stepT tss) t).take 1)).length := by
            rw [List.length_map, List.length_map, List.length_append, List.length_drop, List.length_take]
            omega
          refine ⟨D6, q3, _, _, rfl, SqL.of (t13 _ _ d7), SqL.of d3, RZ.for_zipL (K := K) (xs := iL (walkP (stepT tss) t)) (ys := iL ((walkP (stepT tss) t).drop 1 ++ (walkP (stepT tss) t).take 1)) rl
            (fun q σ H9 => ∃ (L2 : List (Addr × List Int)) (U2 : List Tie) (v6 : Option V), σ = [some (.ref p), some (.ref R), some (.ref Fa), some (.ref S), some (.ref b), some (.ref D6), v6, none, none] ∧ Same H1 H9 ∧ H9 D4 = some (.lst ws4) ∧ PairsAt H9 ws4 (dartsL i ts) ∧
              RowsAt H H9 Fa (as ++ [D6]) ((((dartsL i ts).take n).filter (headB (stepT tss))).map (walkP (stepT tss)) ++ [walkP (stepT tss) t]) ∧ GoneAt P w H9 S L2 U2 ∧ H9 D6 = some (.lst (iL (walkP (stepT tss) t))) ∧ H9 q3 = some (.lst (iL ((walkP (stepT tss) t).drop 1 ++ (walkP (stepT tss) t).take 1))) ∧ ∀ u, u ∈ U2 ↔ u ∈ V0 ∨ u ∈ (orb (stepT tss) t).take q)
            ⟨L, V0, _, rfl, s7.trans t13, t13 _ _ e7, n8, f8, pl8', t13 _ _ d7, d3, fun u => ⟨.inl, fun z => z.elim id fun z => (by simp at z)⟩⟩ (fun q σ H9 ⟨_, _, _, _, _, _, _, _, _, d, d', _⟩ => ⟨SqL.of d, SqL.of d'⟩) ?_ ?_⟩
          · rintro q x y T0 σ H9 hx hy ⟨L2, U2, v6, rfl, s9, e9, n9, f9, pl9, d9, r9, hU2⟩ hT
            have hql : q < per (stepT tss) t := by
              have := (List.getElem?_eq_some_iff.mp hx).1
              rw [List.length_map, wl] at this
              exact this
            obtain rfl : x = .int (itr (stepT tss) q t).1 := Option.some.inj (hx.symm.trans (iL_get (walkP_at hql)))
            obtain rfl : y = .int (itr (stepT tss) q t).2 := Option.some.inj (hy.symm.trans (walk_rot G ht hql))
            have eu : (orb (stepT tss) t)[q]? = some (itr (stepT tss) q t) := orb_at hql
            generalize itr (stepT tss) q t = u at eu hT ⊢
            have sT := Same.put (o := .tup [.int u.1, .int u.2]) hT
            have hc2 : (upd H9 T0 (.tup [.int u.1, .int u.2])) T0 = some (.tup [.int u.1, .int u.2]) := upd_same
            have pl10 := pl9.same sT
            have sub : ∀ v ∈ U2, v ∈ dartsL i ts := fun v hv => by
              rcases (hU2 v).mp hv with z | z
              · obtain ⟨j, y, _, j2, j3⟩ := (hU v).mp z
                exact G.sub (List.mem_of_getElem? j2) j3
              · exact G.sub ht (List.mem_of_mem_take z)
            have ll := pl10.nd.length_le_of_subset sub
            have l2 := pl10.len
            refine ⟨_, rfl, ⟨S, L2, rfl, pl10.at_⟩, _, rfl, S, T0, kOf u, L2, rfl, rfl, SqT.of hc2, pl10.at_, pl10.tupsAt, by omega, fun L' k1 k2 => ?_⟩
            obtain ⟨U', pl11, hU'⟩ := pl10.add hc2 k1 k2
            refine ⟨L', U', _, rfl, Same.write (s9.trans sT) S1, pl10.lst (sT _ _ e9), pl10.pairs (PairsAt.same sT n9), pl10.rows (f9.same sT), pl11, pl10.lst (sT _ _ d9), pl10.lst (sT _ _ r9), fun v => ?_⟩
            rw [hU' v, hU2 v, take_next eu, List.mem_append, List.mem_singleton, or_assoc]
          · rintro σ H9 ⟨L2, U2, v6, rfl, s9, e9, n9, f9, pl9, d9, r9, hU2⟩
            rw [List.take_of_length_le (by rw [orb_len, List.length_map, wl]; exact Nat.le_refl _)] at hU2
            refine ⟨as ++ [D6], L2, U2, _, _, _, rfl, s9, e9, n9, ?_, pl9, fun u => ?_⟩
            · rw [List.filter_append, show ([t].filter (headB (stepT tss))) = [t] by simp [hf], List.map_append]
              exact f9
            · rw [hU2 u, hU u]
              constructor
              · rintro (⟨q, y, i1, i2, i3⟩ | z)
                · exact ⟨q, y, by omega, i2, i3⟩
                · exact ⟨n, t, by omega, et, z⟩
              · rintro ⟨q, y, i1, i2, i3⟩
                rcases Nat.lt_or_ge q n with z | z
                · exact .inl ⟨q, y, z, i2, i3⟩
                · have ei : q = n := by omega
                  subst ei
                  cases Option.some.inj (i2.symm.trans et)
                  exact .inr i3
      · rintro σ H5 ⟨as, L, V0, v4, v5, v6, rfl, s5, e5, n5, f5, pl5, hU⟩
        rw [List.take_of_length_le (by omega)] at f5
        exact ⟨_, rfl, k H5 Fa as (s1.trans s5) f5⟩
end
end Fd
namespace Fd
open PySem PySem.Spec PyProof.Rows L2
/-! ### pairs sorted -/
def keyOf (H : Hp) : V → Tie
  | .ref a => match H a with
    | some (.tup [.int i, .int j]) => (i, j)
    | _ => (0, 0)
  | _ => (0, 0)
theorem keyOf_at {H : Hp} {v : V} {t : Tie} (h : PairAt H v t) : keyOf H v = t := by
  obtain ⟨a, rfl, k⟩ := h
  simp only [keyOf, k]
theorem keys_of {H : Hp} : ∀ {vs : List V} {ts : List Tie}, PairsAt H vs ts → vs.map (keyOf H) = ts
  | _, _, .nil => rfl
  | _, _, .cons r t => by rw [List.map_cons, keyOf_at r, keys_of t]
theorem at_key {H : Hp} {vs : List V} {ts : List Tie} (h : PairsAt H vs ts) : ∀ v ∈ vs, PairAt H v (keyOf H v) := fun v hv => by
  obtain ⟨i, hi⟩ := List.mem_iff_getElem?.mp hv
  obtain ⟨t, _, k⟩ := paired_get h hi
  rw [keyOf_at k]
  exact k
theorem all_keys {H : Hp} : ∀ {vs : List V}, (∀ v ∈ vs, PairAt H v (keyOf H v)) → PairsAt H vs (vs.map (keyOf H))
  | [], _ => .nil
  | v :: vs, h => .cons (h v List.mem_cons_self) (all_keys fun u hu => h u (List.mem_cons_of_mem _ hu))
theorem sorted_told {H : Hp} {m : Nat} {ts : List Tie} {us ys : List V} (g : Good m ts) (h : PairsAt H us (ts.map norm)) (h1 : SrtO.Srtd (ltP (keyOf H)) ys) (h2 : SrtO.Stb (ltP (keyOf H)) ys us) : PairsAt H ys (toldT m ts) := by
  have hp : (ys.map (keyOf H)).Perm (ts.map norm) := by
    have q := h2.perm.map (keyOf H)
    rw [keys_of h] at q
    exact q
  have hs : (ys.map (keyOf H)).Pairwise fun a b => ¬ lexT b a := by
    rw [List.pairwise_map]
    exact List.Pairwise.imp (fun {x y} e => SrtO.lexB_no.mp e) h1
  rw [← told_sorted g hp hs]
  exact all_keys fun v hv => at_key h v (h2.perm.mem_iff.mp hv)
end Fd
namespace Fd
open PySem PySem.Spec PyProof.Rows L2
theorem cut_len39 (xs : List V) {e : Int} (h0 : 0 ≤ e) (h1 : e ≤ 43) : (cutV xs (some 4) (some e)).length ≤ 39 := by
  unfold cutV
  rw [List.length_take]
  obtain ⟨k, rfl⟩ : ∃ k : Nat, e = k := ⟨e.toNat, by omega⟩
  have e1 : HT.sIx xs.length 0 (some 4) = min 4 xs.length := HT.sIx_nat _ _ 4
  have e2 : HT.sIx xs.length xs.length (some (k : Int)) = min k xs.length := HT.sIx_nat _ _ k
  rw [e1, e2]
  omega
section
variable {P : Program} {w : World} {K : PySem.W.Frag} {mg : Str → Option Value} {base : Heap} {C : Addr}
theorem scLTies : FnScope ["_law_script", "_law_many_here", "_law_made", "_law_most", "_law_cell", "_law_one", "_law_other"] ["_law_script", "_law_many_here"] (defScope sLawTies) := ⟨rfl, rfl, rfl, by decide +kernel, rfl, by decide +kernel, by decide +kernel⟩
theorem c_lties (T : WTxt K mg C) (L : LTxt K mg) (FT : Fn K mg "_law_ties" sLawTies ["_law_script", "_law_many_here"]) : C8.Cal P w K mg base 2 "_law_ties" (spLTies K) [] := by
  refine cal_of FT scLTies (fun vs H Q E h => ?_) (fun f cdv A outer s H vs Q E hr h => ?_)
  · obtain ⟨a, ns, m, rfl, _⟩ := h
    rfl
  · obtain ⟨a, ns, m, rfl, hS, m1, m16, k⟩ := h
    refine ⟨_, pss_cons (ps_set (i := 2) scLTies.nd rfl (Or.inl rfl) (pe_lst pa_nil))
      (pss_cons (ps_set (i := 3) scLTies.nd rfl (Or.inl rfl) (pe_op op_add (pe_op op_mod (C8.pe_c (c_cell T L) hr (by decide) (by rfl) (pa_cons (pv 0) (pa_cons pe_int pa_nil))) pe_int)
          (pe_op op_mul pe_int (pe_callTy call_int1 (by rfl) T.int (by decide +kernel) (pa_cons (pe_cmpR op_eq (pe_op op_mod (pe_op op_fdiv (C8.pe_c (c_cell T L) hr (by decide) (by rfl) (pa_cons (pv 0) (pa_cons pe_int pa_nil))) pe_int) pe_int) pe_int (nomark _)) pa_nil)))))
      (pss_cons (ps_for PassesOwn.never rfl (pi_list (pe_slice sl_list (pv 0) (po_some pe_int) (po_some (pe_op op_add pe_int (pv 3))))) (pg_name (i := 4) scLTies.nd rfl (Or.inl rfl))
        (pss_cons (ps_set (i := 5) scLTies.nd rfl (Or.inl rfl) (pe_op op_mod (pv 4) (pv 1)))
        (pss_cons (ps_set (i := 6) scLTies.nd rfl (Or.inl rfl) (pe_op op_mod (pe_op op_add (pe_op op_add (pv 5) pe_int)
            (pe_op op_mod (pe_op op_fdiv (pv 4) (pv 1)) (pe_callB (call_max2 rfl) (by rfl) L.max (by decide +kernel) (pa_cons pe_int (pa_cons (pe_op op_sub (pv 1) pe_int) pa_nil))))) (pv 1)))
        (pss_one (ps_if (PW.pt (pw_and (pt_cmpR op_ne (pv 5) (pv 6) (nomark _)) (pw_and (pt_cmpR (op_notInD (hu65 hr)) (pe_tup (pa_cons (pv 5) (pa_cons (pv 6) pa_nil))) (pv 2) (by rfl))
            (pw_and1 (pt_cmpR (op_notInD (hu65 hr)) (pe_tup (pa_cons (pv 6) (pa_cons (pv 5) pa_nil))) (pv 2) (by rfl))))))
          (pss_one (ps_expr (pe_bm PySem.F.plainAttrs_list PySem.F.slot_list_append PySem.F.type_list_append mt_append (pv 2) (pa_cons (pe_tup (pa_cons (pv 5) (pa_cons (pv 6) pa_nil))) pa_nil)))) pss_nil)))))
      (pss_one (ps_ret (pv 2))))), ?_⟩
    refine ⟨Nat.zero_le _, fun D hD => ?_⟩
    have s0 : Same H (upd H D (.lst [])) := Same.put hD
    have c0 := Int.emod_nonneg (cellAt ns 1) (show (17 : Int) ≠ 0 by decide)
    have c1 := Int.emod_lt_of_pos (cellAt ns 1) (show (0 : Int) < 17 by decide)
    have c23 : ∀ j : Int, CMul 23 j := fun j => .inl ⟨by decide, by decide⟩
    refine ⟨_, rfl, a, ns, 1, rfl, s0.seq hS, _, _, rfl, rfl, by show (0 : Int) < 17; decide, _, rfl, a, ns, 1, rfl, s0.seq hS, _, _, rfl, rfl, ⟨by decide, by decide⟩, _, _, rfl, rfl, by show (0 : Int) < 8; decide, rfl, .inr ⟨_, rfl, ?_⟩⟩
    generalize hbo : decide (V.int (cellAt ns 1 / 17 % 8) = V.int 7) = bo
    have b0 : (0 : Int) ≤ (if bo = true then 1 else 0) ∧ (if bo = true then (1 : Int) else 0) ≤ 1 := by cases bo <;> decide
    refine ⟨_, _, rfl, rfl, c23 _, _, _, rfl, rfl, ?_⟩
    try dsimp only
    obtain ⟨most, em0, mo0, mo39⟩ : ∃ most : Int, cellAt ns 1 % 17 + 23 * (if bo = true then 1 else 0) = most ∧ 0 ≤ most ∧ most ≤ 39 := ⟨_, rfl, by omega, by omega⟩
    obtain ⟨ms, em, _⟩ := cut_iL ns (some 4) (some (4 + most))
    have m40 : ms.length ≤ 39 := by
      have := cut_len39 (iL ns) (show 0 ≤ 4 + most by omega) (show 4 + most ≤ 43 by omega)
      rw [em, List.length_map] at this
      exact this
    rw [em0]
    refine ⟨_, rfl, 4, rfl, _, rfl, _, _, rfl, rfl, _, rfl, a, iL ns, rfl, s0.seq hS, fun p hp => ?_⟩
    rw [em]
    have pD : D ≠ p := ne_of_none upd_same hp
    refine ⟨p, rfl, ⟨_, SqL.of upd_same⟩, for_list (K := K) (a := p) (xs := iL ms) (fun i σ H2 => ∃ (v1 v2 v3 : Option V) (ws : List V) (ts : List Tie), σ = [some (.ref a), some (.int m), some (.ref D), some (.int most), v1, v2, v3] ∧
        H2 p = some (.lst (iL ms)) ∧ Same H H2 ∧ H2 D = some (.lst ws) ∧ PairsAt H2 ws ts ∧ Good m ts ∧ ts.length ≤ i)
      ⟨none, none, none, [], [], rfl, upd_same, Same.step s0 hp, by rw [upd_ne pD, upd_same], .nil, Good.nil m, Nat.le_refl _⟩ (fun i σ H2 _ ⟨_, _, _, _, _, _, h, _⟩ => SqL.of h) ?_ ?_⟩
    · rintro i x σ H2 hi ⟨v1, v2, v3, ws, ts, rfl, hp2, s2, hD2, hw, g, hl⟩
      obtain ⟨z, hz, rfl⟩ := iL_at hi
      have hi40 : i < 40 := by
        have := (List.getElem?_eq_some_iff.mp hz).1
        omega
      have m0 : (0 : Int) < (m : Int) := by omega
      have x0 : (0 : Int) < (if ((m : Int) - 1) > 1 then ((m : Int) - 1) else 1) := by
        split <;> omega
      -- one = cell % many; other = ..
      refine ⟨_, rfl, _, rfl, _, _, rfl, rfl, m0, ?_⟩
      refine ⟨_, rfl, _, _, rfl, rfl, _, rfl, _, rfl, _, _, rfl, rfl, ⟨m0, by omega⟩, _, rfl, _, _, rfl, rfl, _, _, rfl, _, _, rfl, rfl, x0, _, _, rfl, rfl, _, rfl, _, _, rfl, rfl, m0, ?_⟩
      dsimp only
      generalize ho : z % (m : Int) = o
      generalize hq : (o + 1 + z / (m : Int) % (if ((m : Int) - 1) > 1 then ((m : Int) - 1) else 1)) % (m : Int) = q
      have o0 : 0 ≤ o := by rw [← ho]; exact Int.emod_nonneg _ (by omega)
      have o1 : o < m := by rw [← ho]; exact Int.emod_lt_of_pos _ m0
      have q0 : 0 ≤ q := by rw [← hq]; exact Int.emod_nonneg _ (by omega)
      have q1 : q < m := by rw [← hq]; exact Int.emod_lt_of_pos _ m0
      -- if one != other and (one, other) not in made and (other, one) not in made
      refine ⟨_, rfl, _, rfl, rfl, _, rfl, ?_⟩
      have stay : ∀ H3, Same H2 H3 → ∃ (v1 v2 v3 : Option V) (ws : List V) (ts : List Tie), [some (V.ref a), some (.int m), some (.ref D), some (.int most), some (.int z), some (.int o), some (.int q)] = [some (V.ref a), some (.int m), some (.ref D), some (.int most), v1, v2, v3] ∧
          H3 p = some (.lst (iL ms)) ∧ Same H H3 ∧ H3 D = some (.lst ws) ∧ PairsAt H3 ws ts ∧ Good m ts ∧ ts.length ≤ i + 1 := fun H3 s3 =>
        ⟨_, _, _, ws, ts, rfl, s3 _ _ hp2, s2.trans s3, s3 _ _ hD2, hw.same s3, g, by omega⟩
      by_cases c1 : o = q
      · refine no_ (by rw [decide_eq_true (by rw [c1])]; rfl) ?_
        refine iteF ?_
        exact stay H2 (Same.refl _)
      · refine yep_ (by rw [decide_eq_false (fun e => c1 (V.int.inj e))]; rfl) ?_
        refine ⟨_, rfl, _, rfl, by show 2 ≤ sizeLine; decide, fun t ht => ?_⟩
        have s3 : Same H2 (upd H2 t (.tup [.int o, .int q])) := Same.put ht
        refine ⟨_, rfl, prd (o, q), ts.map prd, dp_pair ⟨t, rfl, upd_same⟩, dp_pairs (SqL.of (s3 _ _ hD2)) (hw.same s3), prd_shaped _, prds_shaped _, _, rfl, ?_⟩
        rw [prds_any]
        by_cases c2 : (o, q) ∈ ts
        · refine no_ (by rw [decide_eq_true c2]; rfl) ?_
          refine iteF ?_
          exact stay _ s3
        · refine yep_ (by rw [decide_eq_false c2]; rfl) ?_
          refine ⟨_, rfl, _, rfl, by show 2 ≤ sizeLine; decide, fun t' ht' => ?_⟩
          have s4 : Same H2 (upd (upd H2 t (.tup [.int o, .int q])) t' (.tup [.int q, .int o])) := Same.step s3 ht'
          refine ⟨_, rfl, prd (q, o), ts.map prd, dp_pair ⟨t', rfl, upd_same⟩, dp_pairs (SqL.of (s4 _ _ hD2)) (hw.same s4), prd_shaped _, prds_shaped _, _, rfl, ?_⟩
          rw [prds_any]
          by_cases c3 : (q, o) ∈ ts
          · refine no_ (by rw [decide_eq_true c3]; rfl) ?_
            exact stay _ s4
          · refine yep_ (by rw [decide_eq_false c3]; rfl) ?_
            -- made.append((one, other))
            refine ⟨_, rfl, .inl ⟨rfl, _, SqL.of (s4 _ _ hD2)⟩, _, rfl, _, rfl, by show 2 ≤ sizeLine; decide, fun u hu => ?_⟩
            have s5 := Same.put (o := .tup [.int o, .int q]) hu
            have hD5 := s5 _ _ (s4 _ _ hD2)
            refine ⟨D, _, _, rfl, rfl, hD5, by rw [hw.length]; exact small (by omega), ?_⟩
            have q5 := PairsAt.more (o := o) (q := q) (s4 _ _ hD2) (hw.same s4) hu
            refine ⟨_, _, _, _, ts ++ [(o, q)], rfl, ?_, Same.write (s2.trans (s4.trans s5)) hD, upd_same, q5, Good.snoc g ⟨o0, o1, q0, q1, c1⟩ c2 c3, by rw [List.length_append, List.length_singleton]; omega⟩
            rw [upd_ne pD.symm]
            exact s5 _ _ (s4 _ _ hp2)
    · rintro σ H2 ⟨v1, v2, v3, ws, ts, rfl, hp2, s2, hD2, hw, g, hl⟩
      rw [List.length_map] at hl
      exact ⟨_, rfl, k H2 D ws ts s2 hD hD2 hw g (by omega)⟩
end
end Fd
namespace Fd
open PySem PySem.Spec PyProof.Rows L2
theorem orb_next {f : Tie → Tie} {L : List Tie} (G : Goes f L) {d : Tie} (hd : d ∈ L) {k : Nat} (hk : k < per f d) : itr f ((k + 1) % per f d) d = f (itr f k d) := by
  by_cases c : k + 1 = per f d
  · have e : f (itr f k d) = itr f (k + 1) d := rfl
    rw [e, c, Nat.mod_self, (G.per hd).2.1]
    rfl
  · rw [Nat.mod_eq_of_lt (by omega)]
    rfl
theorem itr_pair {f : Tie → Tie} {L : List Tie} (G : Goes f L) {d : Tie} (hd : d ∈ L) {k : Nat} (hk : k < per f d) : ((itr f k d).1, (itr f ((k + 1) % per f d) d).1) = itr f k d := Prod.ext rfl (G.next hd hk)
theorem orb_cons {f : Tie → Tie} {d : Tie} (h : 0 < per f d) : ∃ rest, orb f d = d :: rest := by
  have e := orb_at h
  cases o : orb f d with
  | nil =>
    rw [o] at e
    cases e
  | cons a l =>
    rw [o] at e
    cases Option.some.inj e
    exact ⟨l, rfl⟩
def spSteps (K : PySem.W.Frag) : Sp := fun vs H Q _ => ∃ (A : Addr) (f : Tie → Tie) (L : List Tie) (d : Tie), vs = [.ref A] ∧ H A = some (.lst (iL (walkP f d))) ∧ Goes f L ∧ d ∈ L ∧ per f d ≤ 256 ∧
  ∀ (H' : Hp) (D : Addr) (ws : List V), Same H H' → H D = none → H' D = some (.lst ws) → PairsAt H' ws (orb f d) → Q (.ref D) H'
structure L6Txt (K : PySem.W.Frag) (mg : Str → Option Value) : Prop where
  fSteps : Fn K mg "_law_steps" sLawSteps ["_law_walk"]
  fNext : Fn K mg "_law_next" sLawNext ["_law_turns", "_law_step"]
section
variable {P : Program} {w : World} {K : PySem.W.Frag} {mg : Str → Option Value} {base : Heap} {C : Addr}
abbrev nSteps : List Str := ["_law_walk", "_law_k"]
theorem scSteps : FnScope ["_law_walk", "_law_k"] ["_law_walk"] (defScope sLawSteps) := ⟨rfl, rfl, rfl, by decide +kernel, rfl, by decide +kernel, by decide +kernel⟩
theorem c_steps (T : WTxt K mg C) (N : L6Txt K mg) : C8.Cal P w K mg base 1 "_law_steps" (spSteps K) [] := by
  refine cal_of N.fSteps scSteps (fun vs H Q E h => ?_) (fun f cdv A outer s H vs Q E hr h => ?_)
  · obtain ⟨A, f, L, d, rfl, _⟩ := h
    rfl
  · obtain ⟨B, f, L, d, rfl, hB, G, hd, p256, k⟩ := h
    refine ⟨_, pss_one (ps_ret (pe_lc (own := [("_law_k", 1)]) (g := gName 1) (tt := tYes) (te := tTup (tCons (tOp (rIxL K) (tVar 0) (tVar 1)) (tCons (tOp (rIxL K) (tVar 0) (tOp (rI (fun _ j => 0 < j) fun i j => .int (i % j)) (tOp (rI0 fun i j => .int (i + j)) (tVar 1) (tC (.int 1))) (tCB (fun xs H Q => ∃ p ys, xs = [V.ref p] ∧ (SqL K H p ys ∨ SqT K H p ys) ∧ Q (V.int ys.length) H) (tCons (tVar 0) tNil)))) tNil)))
        (by rfl) scSteps.nd (pi_range1 (by rfl) T.range (pa_cons (pe_callB call_len_seq (by rfl) T.len PySem.boot_len (pa_cons (pv 0) pa_nil)) pa_nil))
        (blkOk_by (own := [("_law_k", 1)]) (N := nSteps) (sc := defScope sLawSteps) (by decide +kernel)) (fun _ _ _ _ _ => pg_name (i := 1) scSteps.nd rfl (Or.inl rfl)) (fun _ _ _ _ _ => pts_nil)
        (fun _ _ _ _ _ => pe_tup (pa_cons (pe_ix ix_list (pv 0) (pv 1) (fun _ _ => rfl)) (pa_cons (pe_ix ix_list (pv 0) (pe_op op_mod (pe_op op_add (pv 1) pe_int) (pe_callB call_len_seq (by rfl) T.len PySem.boot_len (pa_cons (pv 0) pa_nil))) (fun _ _ => rfl)) pa_nil))))), ?_⟩
    have wl : (iL (walkP f d)).length = per f d := by rw [List.length_map, walkP_len]
    have p0 := (G.per hd).1
    refine ⟨_, rfl, B, iL (walkP f d), rfl, .inl (SqL.of hB), _, rfl, by omega, by omega, fun D hD => ?_⟩
    rw [wl]
    refine lc_range (lo := 0) (n := (per f d : Int).toNat) (fun i H1 => Same H H1 ∧ ∃ ws, H1 D = some (.lst ws) ∧ PairsAt H1 ws ((orb f d).take i)) ⟨Same.put hD, [], upd_same, .nil⟩ (fun i H1 hi ⟨s1, ws, d1, p1⟩ => ?_) (fun H1 ⟨s1, ws, d1, p1⟩ => ?_)
    · rw [Int.toNat_natCast] at hi
      rw [Int.zero_add]
      refine ⟨rfl, ?_⟩
      refine yes_ ?_
      refine iteT ?_
      have B1 := SqL.of (K := K) (s1 _ _ hB)
      have ml : (i + 1) % per f d < per f d := Nat.mod_lt _ p0
      refine ⟨_, rfl, _, rfl, B, iL (walkP f d), (i : Int), .int (itr f i d).1, rfl, rfl, B1, atI_nat (iL_get (walkP_at hi)), ?_⟩
      refine ⟨_, rfl, _, rfl, _, _, rfl, rfl, _, rfl, B, iL (walkP f d), rfl, .inl B1, _, _, rfl, rfl, by rw [wl]; omega, B, iL (walkP f d), _, .int (itr f ((i + 1) % per f d) d).1, rfl, rfl, B1, ?_, by show 2 ≤ sizeLine; decide, fun q hq => ?_⟩
      · rw [wl, show (i : Int) + 1 = ((i + 1 : Nat) : Int) by omega, ← Int.natCast_emod]
        exact atI_nat (iL_get (walkP_at ml))
      · have qD : D ≠ q := ne_of_none d1 hq
        have pl := p1.length
        rw [List.length_take] at pl
        refine ⟨ws, by rw [upd_ne qD]; exact d1, small (by omega), Same.write (Same.step s1 hq) hD, _, upd_same, ?_⟩
        rw [take_next (orb_at hi), ← itr_pair G hd hi]
        exact PairsAt.more d1 p1 hq
    · rw [Int.toNat_natCast, List.take_of_length_le (by rw [orb_len]; exact Nat.le_refl _)] at p1
      exact k H1 D ws s1 hD d1 p1
theorem scNext : FnScope ["_law_turns", "_law_step", "_law_turn", "_law_at"] ["_law_turns", "_law_step"] (defScope sLawNext) := ⟨rfl, rfl, rfl, by decide +kernel, rfl, by decide +kernel, by decide +kernel⟩
theorem c_next (T : WTxt K mg C) (N : L6Txt K mg) : C8.Cal P w K mg base 1 "_law_next" spBehind [] := by
  refine cal_of N.fNext scNext (fun vs H Q E h => ?_) (fun f cdv A outer s H vs Q E hr h => ?_)
  · obtain ⟨H0, R, as, m, ts, tss, x, d, rfl, _⟩ := h
    rfl
  · obtain ⟨H0, R, as, m, ts, tss, x, d, rfl, hR, tu, g, m16, ⟨b, rfl, hb⟩, hd, k⟩ := h
    refine ⟨_, pss_cons (ps_set (i := 2) scNext.nd rfl (Or.inl rfl) (pe_ix ix_list (pv 0) (pe_ix ix_tup (pv 1) pe_int (fun _ _ => rfl)) (fun _ _ => rfl)))
      (pss_cons (ps_set (i := 3) scNext.nd rfl (Or.inl rfl) (pe_op op_add (pe_bm PySem.F.plainAttrs_list PySem.F.slot_list_index PySem.F.type_list_index mt_index (pv 2) (pa_cons (pe_ix ix_tup (pv 1) pe_int (fun _ _ => rfl)) pa_nil)) pe_int))
      (pss_cons (ps_if (pt_cmpR op_eq (pv 3) (pe_callB call_len_seq (by rfl) T.len PySem.boot_len (pa_cons (pv 2) pa_nil)) (nomark _)) (pss_one (ps_set (i := 3) scNext.nd rfl (Or.inl rfl) pe_int)) pss_nil)
      (pss_one (ps_ret (pe_tup (pa_cons (pe_ix ix_tup (pv 1) pe_int (fun _ _ => rfl)) (pa_cons (pe_ix ix_list (pv 2) (pv 3) (fun _ _ => rfl)) pa_nil))))))), ?_⟩
    obtain ⟨d1, d2⟩ := d
    have adj := (mem_darts g).mp hd
    obtain ⟨_, i2, i3⟩ := adj.inside g
    obtain ⟨v, rfl⟩ : ∃ v : Nat, d2 = v := ⟨d2.toNat, by have : 0 ≤ d2 := i2; omega⟩
    have hv : v < m := by have : (v : Int) < m := i3; omega
    obtain ⟨t, et, tp⟩ := tu.get hv
    obtain ⟨c, ec, ecr, _, hc⟩ := hR.get et
    have mem : d1 ∈ t := tp.mem_iff.mpr ((mem_rowOf g).mpr adj.symm)
    have nd : t.Nodup := tp.nodup_iff.mpr (rowOf_nodup m ts v)
    have t0 : 0 < t.length := List.length_pos_of_mem mem
    have ix := idx_at mem
    have il : t.idxOf d1 < t.length := (List.getElem?_eq_some_iff.mp ix).1
    have step2 : (stepT tss (d1, (v : Int))).2 = nxI t d1 := by
      show nxI (tss.getD ((v : Int)).toNat []) d1 = nxI t d1
      rw [Int.toNat_natCast, List.getD_eq_getElem?_getD, et]
      rfl
    have kl : (t.idxOf d1 + 1) % t.length < t.length := Nat.mod_lt _ t0
    have at2 : (iL t)[(t.idxOf d1 + 1) % t.length]? = some (.int (nxI t d1)) := by
      refine iL_get ?_
      unfold nxI
      rw [List.getD_eq_getElem?_getD, List.getElem?_eq_getElem kl]
      rfl
    have el : ((iL t).length : Int) = (t.length : Int) := by rw [List.length_map]
    have b1 := SqT.of (K := K) hb
    refine ⟨_, rfl, _, rfl, b, [.int d1, .int v], 1, .int v, rfl, rfl, b1, rfl, R, as.map V.ref, (v : Int), .ref c, rfl, rfl, SqL.of hR.top, atI_nat ecr, ?_⟩
    refine ⟨_, rfl, .inl ⟨rfl, _, SqL.of hc⟩, _, rfl, b, [.int d1, .int v], 0, .int d1, rfl, rfl, b1, rfl, c, iL t, .int d1, t.idxOf d1, .int d1, rfl, rfl, SqL.of hc, rfl, flat_ints t, iL_get ix, beq_self_eq_true d1, fun i z hi hz => ?_, ?_⟩
    · obtain ⟨y, hy, rfl⟩ := iL_at hz
      refine beq_eq_false_iff_ne.mpr fun e => ?_
      rw [e] at hy
      have := nd_ix nd hy ix
      omega
    · refine ⟨_, _, rfl, rfl, ?_⟩
      refine ⟨_, rfl, _, rfl, c, iL t, rfl, .inl (SqL.of hc), rfl, _, rfl, ?_⟩
      have fin : ∀ q, H q = none → Q (.ref q) (upd H q (.tup [.int (v : Int), .int (nxI t d1)])) := fun q hq => by
        have z := k q hq
        rw [step2] at z
        exact z
      by_cases c1 : t.idxOf d1 + 1 = t.length
      · refine yep_ (decide_eq_true (by rw [el, ← c1]; rfl)) ?_
        rw [c1, Nat.mod_self] at at2
        exact ⟨_, rfl, b, [.int d1, .int v], 1, .int v, rfl, rfl, b1, rfl, _, rfl, _, rfl, c, iL t, 0, .int (nxI t d1), rfl, rfl, SqL.of hc, atI_nat at2, by show 2 ≤ sizeLine; decide, fin⟩
      · refine no_ (decide_eq_false (by rw [el]; intro z; have := V.int.inj z; omega)) ?_
        rw [Nat.mod_eq_of_lt (by omega)] at at2
        exact ⟨_, rfl, b, [.int d1, .int v], 1, .int v, rfl, rfl, b1, rfl, _, rfl, _, rfl, c, iL t, ((t.idxOf d1 + 1 : Nat) : Int), .int (nxI t d1), rfl, rfl, SqL.of hc, atI_nat at2, by show 2 ≤ sizeLine; decide, fin⟩
end
end Fd
namespace Fd
open PySem PySem.Spec PyProof.Rows L2
theorem Good.noSwap {m : Nat} {ts : List Tie} (g : Good m ts) {t : Tie} (h : t ∈ ts) : (t.2, t.1) ∉ ts := fun k => by
  obtain ⟨i, hi, ei⟩ := List.getElem_of_mem h
  obtain ⟨j, hj, ej⟩ := List.getElem_of_mem k
  have ap := List.pairwise_iff_getElem.mp g.ap
  rcases Nat.lt_trichotomy i j with c | c | c
  · refine (ap i j hi hj c).2 ?_
    rw [ei, ej]
  · subst c
    have e : t = (t.2, t.1) := ei.symm.trans ej
    exact (g.rng t h).2.2.2.2 (congrArg Prod.fst e)
  · refine (ap j i hj hi c).2 ?_
    rw [ei, ej]
theorem both_nodup {m : Nat} {ts : List Tie} (g : Good m ts) : (ts ++ ts.map fun t => (t.2, t.1)).Nodup := by
  have n1 : ts.Nodup := g.ap.imp fun h => h.1
  refine List.nodup_append.mpr ⟨n1, List.Pairwise.map _ (fun a b h e => h (Prod.ext (congrArg Prod.snd e) (congrArg Prod.fst e))) n1, fun x hx y hy e => ?_⟩
  subst e
  obtain ⟨u, hu, rfl⟩ := List.mem_map.mp hy
  exact g.noSwap hu hx
theorem both_mem {m : Nat} {ts : List Tie} (g : Good m ts) (x : Tie) : x ∈ (ts ++ ts.map fun t => (t.2, t.1)) ↔ x ∈ dartsL m ts := by
  rw [mem_darts g, List.mem_append]
  constructor
  · rintro (h | h)
    · exact .inl h
    · obtain ⟨u, hu, rfl⟩ := List.mem_map.mp h
      exact .inr hu
  · rintro (h | h)
    · exact .inl h
    · exact .inr (List.mem_map.mpr ⟨_, h, rfl⟩)
theorem heads_strict (m : Nat) (ts : List Tie) (tss : List (List Int)) : (headsL m ts tss).Pairwise lexT := (darts_strict m ts).filter _
theorem paired_app {α β : Type} {F : α → β → Prop} : ∀ {xs : List α} {ys : List β} {us : List α} {vs : List β}, Paired F xs ys → Paired F us vs → Paired F (xs ++ us) (ys ++ vs)
  | _, _, _, _, .nil, h => h
  | _, _, _, _, .cons r t, h => .cons r (paired_app t h)
theorem paired_erase {α β : Type} {F : α → β → Prop} : ∀ {xs : List α} {ys : List β}, Paired F xs ys → ∀ k, Paired F (xs.eraseIdx k) (ys.eraseIdx k)
  | _, _, .nil, _ => by simpa using Paired.nil
  | _, _, .cons r t, 0 => t
  | _, _, .cons r t, k + 1 => .cons r (paired_erase t k)
theorem lex_le2 {a d : Tie} (h : lexT a d) : Ob.lexAt (fun j => decide (([d.1, d.2] : List Int).getD j 0 = ([a.1, a.2] : List Int).getD j 0)) (fun j => decide (([d.1, d.2] : List Int).getD j 0 ≤ ([a.1, a.2] : List Int).getD j 0)) (decide (([d.1, d.2] : List Int).length ≤ ([a.1, a.2] : List Int).length)) 0 (min ([d.1, d.2] : List Int).length ([a.1, a.2] : List Int).length) = false := by
  show (if decide (d.1 = a.1) = true then (if decide (d.2 = a.2) = true then decide (2 ≤ 2) else decide (d.2 ≤ a.2)) else decide (d.1 ≤ a.1)) = false
  unfold lexT at h
  by_cases c : d.1 = a.1
  · rw [if_pos (decide_eq_true c), if_neg (by rw [decide_eq_true_iff]; omega)]
    exact decide_eq_false (by omega)
  · rw [if_neg (by rw [decide_eq_true_iff]; exact c)]
    exact decide_eq_false (by omega)
def spRight6 : Sp := fun vs H Q _ => ∃ (Hs H0 : Hp) (S R Lt : Addr) (bs as : List Addr) (ws : List V) (m : Nat) (ts : List Tie) (tss : List (List Int)), vs = [.ref S, .ref R, .ref Lt] ∧ RowsAt Hs H S bs (walksL m ts tss) ∧ RowsAt H0 H R as tss ∧ TurnsOf m ts tss ∧ Good m ts ∧ m ≤ 16 ∧ ts.length ≤ 40 ∧ H Lt = some (.lst ws) ∧ PairsAt H ws ts ∧
  ∀ H', Same H H' → Q (.bl true) H'
section
variable {P : Program} {w : World} {K : PySem.W.Frag} {mg : Str → Option Value} {base : Heap} {C : Addr}
abbrev nRight : List Str := ["_law_seen", "_law_turns", "_law_ties_here", "_law_left", "_law_ahead", "_law_walk", "_law_steps_here", "_law_k", "_law_due", "_law_tie", "_law_point"]
theorem scRight : FnScope nRight ["_law_seen", "_law_turns", "_law_ties_here"] (defScope sLawRight) := ⟨rfl, rfl, rfl, by decide +kernel, rfl, by decide +kernel, by decide +kernel⟩
theorem c_right6 (T : WTxt K mg C) (L : LTxt K mg) (U : TTxt K mg C) (N : L6Txt K mg) (FR : Fn K mg "_law_right" sLawRight ["_law_seen", "_law_turns", "_law_ties_here"]) : C8.Cal P w K mg base 2 "_law_right" spRight6 [] := by
  refine cal_of FR scRight (fun vs H Q E h => ?_) (fun f cdv A outer s H vs Q E hr h => ?_)
  · obtain ⟨Hs, H0, S, R, Lt, bs, as, ws, m, ts, tss, rfl, _⟩ := h
    rfl
  · obtain ⟨Hs, H0, S, R, Lt, bs, as, ws, m, ts, tss, rfl, hS, hR, tu, g, m16, tl, hLt, hw, k⟩ := h
    have hun : (A.deeper (envOfC "_law_right" (defScope sLawRight) s.heap.objs.size f cdv)).units + 64 < cLine := by
      have := hr.un
      omega
    have hu : (A.deeper (envOfC "_law_right" (defScope sLawRight) s.heap.objs.size f cdv)).units < cLine := by omega
    have G := goes_of g tu
    refine ⟨_, pss_cons (ps_set (i := 3) scRight.nd rfl (Or.inl rfl) (pe_op op_cat (pv 2) (pe_lc (own := [("_law_tie", 9)]) (g := gName 9) (tt := tYes) (te := tTup (tCons (tOp (rIxT K) (tVar 9) (tC (.int 1))) (tCons (tOp (rIxT K) (tVar 9) (tC (.int 0))) tNil))) (by rfl) scRight.nd (pi_list (pv 2))
          (blkOk_by (own := [("_law_tie", 9)]) (N := nRight) (sc := defScope sLawRight) (by decide +kernel)) (fun _ _ _ _ _ => pg_name (i := 9) scRight.nd rfl (Or.inl rfl)) (fun _ _ _ _ _ => pts_nil)
          (fun _ _ _ _ _ => pe_tup (pa_cons (pe_ix ix_tup (pv 9) pe_int (fun _ _ => rfl)) (pa_cons (pe_ix ix_tup (pv 9) pe_int (fun _ _ => rfl)) pa_nil))))))
      (pss_cons (ps_set (i := 4) scRight.nd rfl (Or.inl rfl) (pe_tup (pa_cons (pe_un un_neg pe_int) (pa_cons (pe_un un_neg pe_int) pa_nil))))
      (pss_cons (ps_if (pt_not (pt_val (pe_callB call_isi (by rfl) L.isi (by decide +kernel) (pa_cons (pv 0) (pa_cons (pe_bltn (v := .ty "list") (by rfl) T.list (by decide +kernel) rfl) pa_nil))))) (pss_one (ps_ret pe_bl)) pss_nil)
      (pss_cons (ps_for PassesOwn.never rfl (pi_list (pv 0)) (pg_name (i := 5) scRight.nd rfl (Or.inl rfl))
        (pss_cons (ps_if (PW.pt (pw_or (pt_not (pt_val (pe_callB call_isi (by rfl) L.isi (by decide +kernel) (pa_cons (pv 5) (pa_cons (pe_bltn (v := .ty "list") (by rfl) T.list (by decide +kernel) rfl) pa_nil)))))
            (pw_or (pt_cmpR (op_eqD hun) (pv 5) (pe_lst pa_nil) (nomark _))
            (pw_or1 (pt_not (pt_val (pe_callB (cr_all rfl) (by rfl) U.all (by decide +kernel) (pa_cons (pe_lc (own := [("_law_point", 10)]) (g := gName 10) (tt := tYes) (te := tCall (spWholeX K) [] C8.E0 (tCons (tVar 10) tNil)) (by rfl) scRight.nd (pi_list (pv 5))
              (blkOk_by (own := [("_law_point", 10)]) (N := nRight) (sc := defScope sLawRight) (by decide +kernel)) (fun _ _ _ _ _ => pg_name (i := 10) scRight.nd rfl (Or.inl rfl)) (fun _ _ _ _ _ => pts_nil)
              (fun _ _ _ _ _ => C8.pe_c (c_whole T L) hr (by decide) (by rfl) (pa_cons (pv 10) pa_nil))) pa_nil)))))))) (pss_one (ps_ret pe_bl)) pss_nil)
        (pss_cons (ps_set (i := 6) scRight.nd rfl (Or.inl rfl) (C8.pe_c (c_steps T N) hr (by decide) (by rfl) (pa_cons (pv 5) pa_nil)))
        (pss_cons (ps_if (PW.pt (pw_or (pt_cmpR (op_neD hun) (pe_ix ix_list (pv 6) pe_int (fun _ _ => rfl)) (pe_callB (id := "min") (r := rMinP K) (cr_minP rfl hun) (by rfl) L.min (by decide +kernel) (pa_cons (pv 6) pa_nil)) (nomark _))
            (pw_or1 (pt_cmpR (op_leT hu) (pe_ix ix_list (pv 6) pe_int (fun _ _ => rfl)) (pv 4) (nomark _))))) (pss_one (ps_ret pe_bl)) pss_nil)
        (pss_cons (ps_set (i := 4) scRight.nd rfl (Or.inl rfl) (pe_ix ix_list (pv 6) pe_int (fun _ _ => rfl)))
        (pss_one (ps_for PassesOwn.never rfl (pi_range1 (by rfl) T.range (pa_cons (pe_callB call_len_seq (by rfl) T.len PySem.boot_len (pa_cons (pv 6) pa_nil)) pa_nil)) (pg_name (i := 7) scRight.nd rfl (Or.inl rfl))
          (pss_cons (ps_set (i := 8) scRight.nd rfl (Or.inl rfl) (pe_ix ix_list (pv 6) (pe_op op_mod (pe_op op_add (pv 7) pe_int) (pe_callB call_len_seq (by rfl) T.len PySem.boot_len (pa_cons (pv 6) pa_nil))) (fun _ _ => rfl)))
          (pss_cons (ps_if (PW.pt (pw_or (pt_cmpR (op_notInD (hu65 hr)) (pe_ix ix_list (pv 6) (pv 7) (fun _ _ => rfl)) (pv 3) (by rfl))
              (pw_or1 (pt_cmpR (op_neD hun) (C8.pe_c (c_next T N) hr (by decide) (by rfl) (pa_cons (pv 1) (pa_cons (pe_ix ix_list (pv 6) (pv 7) (fun _ _ => rfl)) pa_nil))) (pv 8) (nomark _))))) (pss_one (ps_ret pe_bl)) pss_nil)
          (pss_one (ps_expr (pe_bm PySem.F.plainAttrs_list PySem.F.slot_list_remove PySem.F.type_list_remove (mt_removeP (hu65 hr)) (pv 3) (pa_cons (pe_ix ix_list (pv 6) (pv 7) (fun _ _ => rfl)) pa_nil)))))))))))))
      (pss_one (ps_ret (pe_cmpR (op_eqD hun) (pv 3) (pe_lst pa_nil) (nomark _))))))), ?_⟩
    have wl := hw.length
    -- left
    refine ⟨_, rfl, _, rfl, Lt, rfl, ⟨_, SqL.of hLt⟩, fun D hD => ?_⟩
    refine lc_list (K := K) (a := Lt) (xs := ws) (fun i H1 => Same H H1 ∧ ∃ us, H1 D = some (.lst us) ∧ PairsAt H1 us ((ts.take i).map fun t => (t.2, t.1))) ⟨Same.put hD, [], upd_same, .nil⟩ (fun i H1 _ ⟨s1, _⟩ => SqL.of (s1 _ _ hLt)) (fun i x H1 hi ⟨s1, us, d1, p1⟩ => ?_) (fun H1 ⟨s1, us, d1, p1⟩ => ?_)
    · obtain ⟨t, et, pt⟩ := paired_get hw hi
      obtain ⟨c, rfl, hc⟩ := PairAt.same s1 pt
      have hil : i < ts.length := (List.getElem?_eq_some_iff.mp et).1
      refine ⟨rfl, ?_⟩
      refine yes_ ?_
      refine iteT ?_
      refine ⟨_, rfl, c, [.int t.1, .int t.2], 1, .int t.2, rfl, rfl, SqT.of hc, rfl, _, rfl, c, [.int t.1, .int t.2], 0, .int t.1, rfl, rfl, SqT.of hc, rfl, by show 2 ≤ sizeLine; decide, fun q hq => ?_⟩
      have qD : D ≠ q := ne_of_none d1 hq
      refine ⟨us, by rw [upd_ne qD]; exact d1, ?_, Same.write (Same.step s1 hq) hD, _, upd_same, ?_⟩
      · rw [p1.length, List.length_map, List.length_take]
        exact small (by omega)
      · rw [take_next et, List.map_append]
        exact PairsAt.more d1 p1 hq
    · rw [wl, List.take_length] at p1
      have ul := p1.length
      rw [List.length_map] at ul
      refine ⟨Lt, D, ws, us, rfl, rfl, s1 _ _ hLt, d1, smalle (by omega), fun Lf hLf => ?_⟩
      have s2 := Same.put (o := .lst (ws ++ us)) hLf
      have f2 : (upd H1 Lf (.lst (ws ++ us))) Lf = some (.lst (ws ++ us)) := upd_same
      have pf : PairsAt (upd H1 Lf (.lst (ws ++ us))) (ws ++ us) (ts ++ ts.map fun t => (t.2, t.1)) := paired_app (PairsAt.same (s1.trans s2) hw) (PairsAt.same s2 p1)
      have Lf0 : H Lf = none := s1.free hLf
      have s12 := s1.trans s2
      generalize upd H1 Lf (.lst (ws ++ us)) = H2 at s2 f2 pf s12 ⊢
      generalize ws ++ us = lws0 at f2 pf
      -- ahead = (-1, -1)
      refine ⟨_, rfl, _, rfl, by show 2 ≤ sizeLine; decide, fun ah hah => ?_⟩
      have s3 := Same.put (o := .tup [.int (-1), .int (-1)]) hah
      have a3 : (upd H2 ah (.tup [.int (-1), .int (-1)])) ah = some (.tup [.int (-1), .int (-1)]) := upd_same
      have s13 := s12.trans s3
      have f3 := s3 _ _ f2
      have pf3 := PairsAt.same s3 pf
      generalize upd H2 ah (.tup [.int (-1), .int (-1)]) = H3 at s3 a3 s13 f3 pf3 ⊢
      have S3 := hS.same s13
      refine ⟨_, rfl, .ref S, .ty "list", .type "list", .type "list", true, rfl, .ty _, .base (.lst S3.top), kit_ty (by decide +kernel), _, rfl, ?_⟩
      refine iteF ?_
      have hl : (headsL m ts tss).length = bs.length := by
        rw [hS.len]
        exact (List.length_map _).symm
      have hdm : ∀ (j : Nat) (h : Tie), (headsL m ts tss)[j]? = some h → h ∈ dartsL m ts ∧ headB (stepT tss) h = true := fun j h e => by
        have := List.mem_of_getElem? e
        exact List.mem_filter.mp this
      have order : ∀ {i j : Nat} {a b : Tie}, i < j → (headsL m ts tss)[i]? = some a → (headsL m ts tss)[j]? = some b → lexT a b := fun {i j a b} hij ha hb => by
        obtain ⟨h1, rfl⟩ := List.getElem?_eq_some_iff.mp ha
        obtain ⟨h2, rfl⟩ := List.getElem?_eq_some_iff.mp hb
        exact List.pairwise_iff_getElem.mp (heads_strict m ts tss) i j h1 h2 hij
      refine ⟨_, rfl, S, rfl, ⟨_, SqL.of S3.top⟩, for_list (K := K) (a := S) (xs := bs.map V.ref)
        (fun n σ H4 => ∃ (lws : List V) (lf : List Tie) (ah : Addr) (a : Tie) (v5 v6 v7 v8 : Option V), σ = [some (.ref S), some (.ref R), some (.ref Lt), some (.ref Lf), some (.ref ah), v5, v6, v7, v8, none, none] ∧ Same H H4 ∧ H4 Lf = some (.lst lws) ∧ PairsAt H4 lws lf ∧ lf.Nodup ∧
          (∀ x, x ∈ lf ↔ x ∈ dartsL m ts ∧ ∀ (j : Nat) (h : Tie), j < n → (headsL m ts tss)[j]? = some h → x ∉ orb (stepT tss) h) ∧ H4 ah = some (.tup [.int a.1, .int a.2]) ∧ ∀ h, (headsL m ts tss)[n]? = some h → lexT a h)
        ⟨lws0, _, ah, (-1, -1), none, none, none, none, rfl, s13, f3, pf3, both_nodup g, fun x => ⟨fun z => ⟨(both_mem g x).mp z, fun j h hj => by omega⟩, fun z => (both_mem g x).mpr z.1⟩, a3, fun h eh => ?_⟩ (fun n σ H4 _ ⟨_, _, _, _, _, _, _, _, _, s4, _⟩ => SqL.of (hS.same s4).top) ?_ ?_⟩
      · have z := ((mem_darts g).mp (hdm 0 h eh).1).inside g
        exact .inl (by show (-1 : Int) < h.1; omega)
      · rintro n x σ H4 hn ⟨lws, lf, ah, a, v5, v6, v7, v8, rfl, s4, f4, p4, nd4, m4, a4, o4⟩
        have hnl : n < (headsL m ts tss).length := by
          have := (List.getElem?_eq_some_iff.mp hn).1
          rw [List.length_map] at this
          omega
        have eh : (headsL m ts tss)[n]? = some (headsL m ts tss)[n] := List.getElem?_eq_getElem hnl
        generalize (headsL m ts tss)[n] = d at eh
        obtain ⟨hd, hdh⟩ := hdm n d eh
        obtain ⟨p0, p1', p2⟩ := G.per hd
        have ple := G.per_le hd
        have dle := darts_le g
        have ew : (walksL m ts tss)[n]? = some (walkP (stepT tss) d) := by
          unfold walksL
          rw [List.getElem?_map, eh]
          rfl
        have S4 := hS.same s4
        obtain ⟨b, eb, ebr, _, hb⟩ := S4.get ew
        obtain rfl : x = .ref b := Option.some.inj (hn.symm.trans ebr)
        have wkl : (iL (walkP (stepT tss) d)).length = per (stepT tss) d := by rw [List.length_map, walkP_len]
        -- if not isinstance(walk, list) or walk == [] or not all(..)
        refine ⟨_, rfl, .ref b, .ty "list", .type "list", .type "list", true, rfl, .ty _, .base (.lst hb), kit_ty (by decide +kernel), _, rfl, ?_⟩
        refine iteF ?_
        refine ⟨_, rfl, Nat.zero_le _, fun z hz => ?_⟩
        have s5 := Same.put (o := .lst []) hz
        refine ⟨.list ((walkP (stepT tss) d).map PyData.int), .list (([] : List Int).map PyData.int), dp_ints (SqL.of (s5 _ _ hb)), dp_ints (SqL.of upd_same), inl_shaped _, inl_shaped _, _, rfl, ?_⟩
        rw [ints_eqv]
        refine no_ (decide_eq_false fun e => ?_) ?_
        · have := walkP_len (stepT tss) d
          rw [e] at this
          have z0 : (0 : Nat) = per (stepT tss) d := this
          omega
        refine ⟨_, rfl, b, rfl, ⟨_, SqL.of (s5 _ _ hb)⟩, fun q hq => ?_⟩
        refine lc_list (K := K) (a := b) (xs := iL (walkP (stepT tss) d)) (fun i H6 => Same (upd H4 z (.lst [])) H6 ∧ H6 q = some (.lst ((List.replicate i true).map V.bl))) ⟨Same.put hq, upd_same⟩ (fun i H6 _ ⟨s6, _⟩ => SqL.of (s6 _ _ (s5 _ _ hb))) (fun i y H6 hi ⟨s6, q6⟩ => ?_) (fun H6 ⟨s6, q6⟩ => ?_)
        · obtain ⟨u, eu, rfl⟩ := iL_at hi
          have hil := (List.getElem?_eq_some_iff.mp eu).1
          rw [walkP_len] at hil
          refine ⟨rfl, ?_⟩
          refine yes_ ?_
          refine iteT ?_
          refine ⟨_, rfl, .int u, "int", rfl, .int u, ?_⟩
          refine ⟨_, q6, by rw [List.length_map, List.length_replicate]; exact small (by omega), Same.write s6 hq, ?_⟩
          rw [upd_same, List.replicate_succ', List.map_append]
          rfl
        · refine ⟨q, _, rfl, SqL.of q6, _, rfl, ?_⟩
          have allt : ((List.replicate (iL (walkP (stepT tss) d)).length true).all id) = true := by
            rw [List.all_eq_true]
            intro c hc
            rw [(List.mem_replicate.mp hc).2]
            rfl
          rw [allt]
          refine iteF ?_
          have s46 := s5.trans s6
          -- steps
          refine ⟨_, rfl, b, stepT tss, dartsL m ts, d, rfl, s46 _ _ hb, G, hd, by omega, fun H7 Ds sws s67 hDs d7 p7 => ?_⟩
          have s47 := s46.trans s67
          have f7 := s47 _ _ f4
          have p47 := PairsAt.same s47 p4
          have a7 := s47 _ _ a4
          have nDL : Ds ≠ Lf := fun e => by
            rw [e] at hDs
            have z := s46 _ _ f4
            rw [hDs] at z
            cases z
          have s07 := s4.trans s47
          clear s46 s67 hDs allt q6 s6 s5 p4 f4 a4 hn hb S4
          obtain ⟨rest, eo⟩ := orb_cons p0
          obtain ⟨y0, ey0, c0, rfl, hc0⟩ := paired_get' p7 (orb_at p0)
          have hc0 : H7 c0 = some (.tup [.int d.1, .int d.2]) := hc0
          have p7' : PairsAt H7 sws (d :: rest) := by rw [← eo]; exact p7
          have least : ∀ u ∈ rest, ¬ lexT u d := fun u hu => dB_iff.mp hdh u (by rw [eo]; exact List.mem_cons_of_mem _ hu)
          -- if steps[0] != min(steps) or steps[0] <= ahead
          refine ⟨_, rfl, Ds, sws, 0, .ref c0, rfl, rfl, SqL.of d7, atI_nat ey0, _, rfl, Ds, sws, d, rest, rfl, SqL.of d7, p7', least, fun t ht => ?_⟩
          refine ⟨prd d, prd d, dp_pair ⟨c0, rfl, hc0⟩, dp_pair ⟨t, rfl, ht⟩, prd_shaped _, prd_shaped _, _, rfl, ?_⟩
          rw [prd_eqv]
          refine no_ (by rw [decide_eq_true rfl]; rfl) ?_
          refine ⟨_, rfl, Ds, sws, 0, .ref c0, rfl, rfl, SqL.of d7, atI_nat ey0, _, rfl, c0, ah, [d.1, d.2], [a.1, a.2], rfl, rfl, SqT.of hc0, SqT.of a7, _, rfl, ?_⟩
          refine no_ (lex_le2 (o4 d eh)) ?_
          -- ahead = steps[0]
          refine ⟨_, rfl, Ds, sws, 0, .ref c0, rfl, rfl, SqL.of d7, atI_nat ey0, ?_⟩
          have swl : (sws.length : Int) = (per (stepT tss) d : Int) := by rw [p7.length, orb_len]
          refine ⟨_, rfl, Ds, sws, rfl, .inl (SqL.of d7), _, rfl, by omega, by omega, ?_⟩
          rw [swl]
          refine for_range (lo := 0) (n := (per (stepT tss) d : Int).toNat) (fun k' σ H8 => ∃ (lws : List V) (lf : List Tie) (v7 v8 : Option V), σ = [some (.ref S), some (.ref R), some (.ref Lt), some (.ref Lf), some (.ref c0), some (.ref b), some (.ref Ds), v7, v8, none, none] ∧ Same H H8 ∧ H8 Lf = some (.lst lws) ∧ PairsAt H8 lws lf ∧ lf.Nodup ∧
              (∀ x, x ∈ lf ↔ (x ∈ dartsL m ts ∧ ∀ (j : Nat) (h : Tie), j < n → (headsL m ts tss)[j]? = some h → x ∉ orb (stepT tss) h) ∧ x ∉ (orb (stepT tss) d).take k') ∧ H8 Ds = some (.lst sws) ∧ PairsAt H8 sws (orb (stepT tss) d))
            ⟨lws, lf, _, _, rfl, s07, f7, p47, nd4, fun x => ⟨fun z => ⟨(m4 x).mp z, by simp⟩, fun z => (m4 x).mpr z.1⟩, d7, p7⟩ ?_ ?_
          · rintro k' σ H8 hk ⟨lws, lf, v7, v8, rfl, s8, f8, p8, nd8, m8, d8, q8⟩
            rw [Int.toNat_natCast] at hk
            rw [Int.zero_add]
            have ml : (k' + 1) % per (stepT tss) d < per (stepT tss) d := Nat.mod_lt _ p0
            obtain ⟨yd, eyd, hyd⟩ := paired_get' q8 (orb_at ml)
            obtain ⟨yk, eyk, hyk⟩ := paired_get' q8 (orb_at hk)
            have um : itr (stepT tss) k' d ∈ lf := (m8 _).mpr ⟨⟨G.it hd k', fun j h hj ej zz => by
              have e := G.heads_apart hd (hdm j h ej).1 hdh (hdm j h ej).2 ((G.mem_orb hd).mpr ⟨k', rfl⟩) zz
              subst e
              exact lexT_irr _ (order hj ej eh)⟩, fun zz => by
              obtain ⟨i, hi⟩ := List.mem_iff_getElem?.mp zz
              have hi2 : i < k' := by
                have := (List.getElem?_eq_some_iff.mp hi).1
                rw [List.length_take] at this
                omega
              rw [List.getElem?_take_of_lt hi2] at hi
              have := nd_ix (G.orb_nodup hd) hi (orb_at hk)
              omega⟩
            have eu : (orb (stepT tss) d)[k']? = some (itr (stepT tss) k' d) := orb_at hk
            have nx := orb_next G hd hk
            have ud := G.it hd k'
            generalize itr (stepT tss) k' d = u at hyk um eu nx ud
            generalize itr (stepT tss) ((k' + 1) % per (stepT tss) d) d = due at hyd nx
            subst nx
            have lfl := nd8.length_le_of_subset (l₂ := dartsL m ts) fun x hx => ((m8 x).mp hx).1.1
            -- due
            refine ⟨_, rfl, _, rfl, _, _, rfl, rfl, _, rfl, Ds, sws, rfl, .inl (SqL.of d8), _, _, rfl, rfl, by rw [swl]; omega, Ds, sws, _, yd, rfl, rfl, SqL.of d8, ?_, ?_⟩
            · rw [swl, show (k' : Int) + 1 = ((k' + 1 : Nat) : Int) by omega, ← Int.natCast_emod]
              exact atI_nat eyd
            -- if step not in left
            refine ⟨_, rfl, _, rfl, Ds, sws, (k' : Int), yk, rfl, rfl, SqL.of d8, atI_nat eyk, _, rfl, prd u, lf.map prd, dp_pair hyk, dp_pairs (SqL.of f8) p8, prd_shaped _, prds_shaped _, _, rfl, ?_⟩
            rw [prds_any]
            refine no_ (by rw [decide_eq_true um]; rfl) ?_
            refine ⟨_, rfl, _, rfl, _, rfl, Ds, sws, (k' : Int), yk, rfl, rfl, SqL.of d8, atI_nat eyk, H0, R, as, m, ts, tss, yk, u, rfl, hR.same s8, tu, g, m16, hyk, ud, fun t ht => ?_⟩
            have sT := Same.put (o := .tup [.int (stepT tss u).1, .int (stepT tss u).2]) ht
            refine ⟨_, rfl, prd (stepT tss u), prd (stepT tss u), dp_pair ⟨t, rfl, upd_same⟩, dp_pair (PairAt.same sT hyd), prd_shaped _, prd_shaped _, _, rfl, ?_⟩
            rw [prd_eqv]
            refine no_ (by rw [decide_eq_true rfl]; rfl) ?_
            -- left.remove(step)
            obtain ⟨j, hj⟩ := List.mem_iff_getElem?.mp um
            have f9 := sT _ _ f8
            have p9 := PairsAt.same sT p8
            have d9 := sT _ _ d8
            have q9 := PairsAt.same sT q8
            have y9 := PairAt.same sT hyk
            have s9 := s8.trans sT
            generalize upd H8 t (.tup [.int (stepT tss u).1, .int (stepT tss u).2]) = H9 at f9 p9 d9 q9 y9 s9 ⊢
            refine ⟨_, rfl, .inl ⟨rfl, _, SqL.of f9⟩, _, rfl, _, rfl, Ds, sws, (k' : Int), yk, rfl, rfl, SqL.of d9, atI_nat eyk, Lf, lws, lf, yk, u, j, rfl, rfl, f9, p9, y9, hj, fun i hi e => ?_, ?_⟩
            · have := nd_ix nd8 e hj
              omega
            · have pe := perm_erase hj
              have nd10 : (u :: lf.eraseIdx j).Nodup := pe.nodup_iff.mpr nd8
              obtain ⟨n1, n2⟩ := List.nodup_cons.mp nd10
              refine ⟨lws.eraseIdx j, lf.eraseIdx j, _, _, rfl, Same.write s9 Lf0, upd_same, pairs_over f9 (paired_erase p9 j), n2, fun x => ?_, by rw [upd_ne nDL]; exact d9, pairs_over f9 q9⟩
              have hx : x ∈ lf ↔ x = u ∨ x ∈ lf.eraseIdx j := by rw [← pe.mem_iff, List.mem_cons]
              rw [take_next eu, List.mem_append, List.mem_singleton, not_or]
              constructor
              · intro z
                have z1 := (m8 x).mp (hx.mpr (.inr z))
                exact ⟨z1.1, z1.2, fun e => n1 (e ▸ z)⟩
              · rintro ⟨z1, z2, z3⟩
                rcases hx.mp ((m8 x).mpr ⟨z1, z2⟩) with e | e
                · exact absurd e z3
                · exact e
          · rintro σ H8 ⟨lws, lf, v7, v8, rfl, s8, f8, p8, nd8, m8, d8, q8⟩
            rw [Int.toNat_natCast, List.take_of_length_le (by rw [orb_len]; exact Nat.le_refl _)] at m8
            obtain ⟨y1, ey1, c1, ec1, hc1⟩ := paired_get' q8 (orb_at p0)
            obtain rfl : c1 = c0 := by
              have e := Option.some.inj (ey1.symm.trans ey0)
              rw [ec1] at e
              cases e
              rfl
            refine ⟨lws, lf, c1, d, _, _, _, _, rfl, s8, f8, p8, nd8, fun x => ?_, hc1, fun h ehn => order (Nat.lt_succ_self n) eh ehn⟩
            rw [m8 x]
            constructor
            · rintro ⟨⟨z1, z2⟩, z3⟩
              refine ⟨z1, fun j h hj ej => ?_⟩
              rcases Nat.lt_or_ge j n with c | c
              · exact z2 j h c ej
              · have e : j = n := by omega
                subst e
                cases Option.some.inj (ej.symm.trans eh)
                exact z3
            · rintro ⟨z1, z2⟩
              exact ⟨⟨z1, fun j h hj ej => z2 j h (by omega) ej⟩, z2 n d (Nat.lt_succ_self n) eh⟩
      · rintro σ H4 ⟨lws, lf, ah, a, v5, v6, v7, v8, rfl, s4, f4, p4, nd4, m4, a4, o4⟩
        have nil : lf = [] := by
          refine List.eq_nil_iff_forall_not_mem.mpr fun x hx => ?_
          obtain ⟨z1, z2⟩ := (m4 x).mp hx
          obtain ⟨d, hd, hdh, xo⟩ := G.has_head z1
          obtain ⟨j, hj⟩ := List.mem_iff_getElem?.mp (show d ∈ headsL m ts tss from List.mem_filter.mpr ⟨hd, hdh⟩)
          refine z2 j d ?_ hj xo
          have := (List.getElem?_eq_some_iff.mp hj).1
          rw [List.length_map]
          omega
        subst nil
        refine ⟨_, rfl, Nat.zero_le _, fun z hz => ?_⟩
        have s5 := Same.put (o := .lst []) hz
        refine ⟨.list (([] : List Tie).map prd), .list (([] : List Int).map PyData.int), dp_pairs (SqL.of (s5 _ _ f4)) (PairsAt.same s5 p4), dp_ints (SqL.of upd_same), prds_shaped _, inl_shaped _, ?_⟩
        exact k _ (s4.trans s5)
end
end Fd
namespace Fd
open PySem PySem.Spec PyProof.Rows L2
def spStays (C : Addr) : Sp := fun vs H Q _ => ∃ (H0 : Hp) (p a : Addr) (m : Nat) (ws : List V) (ts : List Tie), vs = [.ref p, .ref a, .int m] ∧ WebAt C H0 H p m ts ∧ H a = some (.lst ws) ∧ PairsAt H ws ts ∧ Good m ts ∧ m ≤ 16 ∧ ts.length ≤ 40 ∧
  ∀ H', Same H H' → Q (.bl true) H'
section
variable {P : Program} {w : World} {K : PySem.W.Frag} {mg : Str → Option Value} {base : Heap} {C : Addr}
abbrev nStays : List Str := ["_law_web", "_law_ties_here", "_law_many_here", "_law_point", "_law_tie"]
theorem scStays : FnScope nStays ["_law_web", "_law_ties_here", "_law_many_here"] (defScope sLawStays) := ⟨rfl, rfl, rfl, by decide +kernel, rfl, by decide +kernel, by decide +kernel⟩
theorem c_stays (T : WTxt K mg C) (U : TTxt K mg C) (L : LTxt K mg) (FT : FnM K C "ties" "Web.ties" sWebTies ["self"]) (FS : Fn K mg "_law_stays" sLawStays ["_law_web", "_law_ties_here", "_law_many_here"]) : C8.Cal P w K mg base 5 "_law_stays" (spStays C) [] := by
  refine cal_of FS scStays (fun vs H Q E h => ?_) (fun f cdv A outer s H vs Q E hr h => ?_)
  · obtain ⟨H0, p, a, m, ws, ts, rfl, _⟩ := h
    rfl
  · obtain ⟨H0, p, a, m, ws, ts, rfl, W, ha, hw, g, m16, tl, k⟩ := h
    have hun : (A.deeper (envOfC "_law_stays" (defScope sLawStays) s.heap.objs.size f cdv)).units + 64 < cLine := by
      have := hr.un
      omega
    refine ⟨_, pss_cons (ps_if (pt_cmpR (op_neD hun) (C8.pe_mt0 (c_ties T FT) hr (by decide) (pv 0)) (pe_callB (id := "sorted") (r := rSortedPO K) cr_sortedPO (by rfl) T.sorted (by decide +kernel) (pa_cons
        (pe_lc (own := [("_law_tie", 4)]) (g := gName 4) (tt := tYes) (te := tTup (tCons (tCB (rPr min K) (tCons (tVar 4) tNil)) (tCons (tCB (rPr max K) (tCons (tVar 4) tNil)) tNil))) (by rfl) scStays.nd (pi_list (pv 1))
          (blkOk_by (own := [("_law_tie", 4)]) (N := nStays) (sc := defScope sLawStays) (by decide +kernel)) (fun _ _ _ _ _ => pg_name (i := 4) scStays.nd rfl (Or.inl rfl)) (fun _ _ _ _ _ => pts_nil)
          (fun _ _ _ _ _ => pe_tup (pa_cons (pe_callB (id := "min") (r := rPr min K) (cr_minPr rfl hun) (by rfl) L.min (by decide +kernel) (pa_cons (pv 4) pa_nil)) (pa_cons (pe_callB (id := "max") (r := rPr max K) (cr_maxPr rfl hun) (by rfl) L.max (by decide +kernel) (pa_cons (pv 4) pa_nil)) pa_nil)))) pa_nil)) (nomark _)) (pss_one (ps_ret pe_bl)) pss_nil)
      (pss_cons (ps_for PassesOwn.never rfl (pi_range1 (by rfl) T.range (pa_cons (pv 2) pa_nil)) (pg_name (i := 3) scStays.nd rfl (Or.inr rfl))
        (pss_one (ps_if (pt_cmpR (op_neD hun) (C8.pe_mt (c_beside T U.fC U.fB) hr (by decide) (pv 0) (pa_cons (pv 3) pa_nil)) (pe_callB (id := "sorted") (r := rSortedI K) cr_sortedI (by rfl) T.sorted (by decide +kernel) (pa_cons
          (pe_lc (own := [("_law_tie", 4)]) (g := gName 4) (tt := tTest (tOp (rIn K false) (tVar 3) (tVar 4))) (te := tOp (rI0 fun i j => .int (i - j)) (tOp (rI0 fun i j => .int (i + j)) (tOp (rIxT K) (tVar 4) (tC (.int 0))) (tOp (rIxT K) (tVar 4) (tC (.int 1)))) (tVar 3)) (by rfl) scStays.nd (pi_list (pv 1))
            (blkOk_by (own := [("_law_tie", 4)]) (N := nStays) (sc := defScope sLawStays) (by decide +kernel)) (fun _ _ _ _ _ => pg_name (i := 4) scStays.nd rfl (Or.inl rfl)) (fun _ _ _ _ _ => pts_one (pt_cmpR op_in_seq (pv 3) (pv 4) (by rfl)))
            (fun _ _ _ _ _ => pe_op op_sub (pe_op op_add (pe_ix ix_tup (pv 4) pe_int (fun _ _ => rfl)) (pe_ix ix_tup (pv 4) pe_int (fun _ _ => rfl))) (pv 3))) pa_nil)) (nomark _)) (pss_one (ps_ret pe_bl)) pss_nil)))
      (pss_one (ps_ret pe_bl))), ?_⟩
    obtain ⟨p0, dx, R, as, hp, r⟩ := id W
    have nTies : (wF m R).lookup ("ties" : Str) = none := wF_no _ _ (by decide +kernel) (by decide +kernel)
    have nBes : (wF m R).lookup ("beside" : Str) = none := wF_no _ _ (by decide +kernel) (by decide +kernel)
    refine ⟨_, rfl, p, dx, _, rfl, hp, nTies, H0, p, m, ts, rfl, W, g, m16, fun H3 D3 w3 s3 d3 e3 p3 => ?_⟩
    refine ⟨_, rfl, a, rfl, ⟨_, SqL.of (s3 _ _ ha)⟩, fun D hD => ?_⟩
    refine lc_list (K := K) (a := a) (xs := ws) (fun i H1 => Same H3 H1 ∧ ∃ us, H1 D = some (.lst us) ∧ PairsAt H1 us ((ts.take i).map norm)) ⟨Same.put hD, [], upd_same, .nil⟩ (fun i H1 _ ⟨s1, _⟩ => SqL.of (s1 _ _ (s3 _ _ ha))) (fun i x H1 hi ⟨s1, us, hd, hu⟩ => ?_) (fun H1 ⟨s1, us, hd, hu⟩ => ?_)
    · obtain ⟨t, et, pt⟩ := paired_get hw hi
      obtain ⟨c, rfl, hc⟩ := PairAt.same (s3.trans s1) pt
      have hil : i < ts.length := (List.getElem?_eq_some_iff.mp et).1
      refine ⟨rfl, ?_⟩
      refine yes_ ?_
      refine iteT ?_
      refine ⟨_, rfl, c, t.1, t.2, rfl, SqT.of hc, _, rfl, c, t.1, t.2, rfl, SqT.of hc, by show 2 ≤ sizeLine; decide, fun q hq => ?_⟩
      have qD : D ≠ q := ne_of_none hd hq
      refine ⟨us, by rw [upd_ne qD]; exact hd, ?_, Same.write (Same.step s1 hq) hD, _, upd_same, ?_⟩
      · rw [hu.length, List.length_map, List.length_take]
        exact small (by omega)
      · rw [take_next et, List.map_append]
        exact PairsAt.more (o := min t.1 t.2) (q := max t.1 t.2) hd hu hq
    · have el : ts.take ws.length = ts := by
        rw [hw.length]
        exact List.take_length
      rw [el] at hu
      refine ⟨D, us, keyOf H1, rfl, SqL.of hd, fun x hx => ?_, fun ys q hs1 hs2 hq => ?_⟩
      · obtain ⟨b, e, hb⟩ := at_key hu x hx
        exact ⟨b, e, hb⟩
      · have hy := sorted_told g hu hs1 hs2
        have s4 : Same H3 (upd H1 q (.lst ys)) := Same.step s1 hq
        have hyq := hy.same (Same.put (o := .lst ys) hq)
        refine ⟨.list ((toldT m ts).map prd), .list ((toldT m ts).map prd), dp_pairs (SqL.of (s4 _ _ e3)) (p3.same s4), dp_pairs (SqL.of upd_same) hyq, prds_shaped _, prds_shaped _, _, rfl, ?_⟩
        refine no_ (by rw [prds_refl]; rfl) ?_
        have s2 : Same H (upd H1 q (.lst ys)) := s3.trans s4
        generalize upd H1 q (.lst ys) = H2 at s2 ⊢
        clear hyq hy hs1 hs2
        refine ⟨_, rfl, (m : Int), rfl, by omega, by omega, for_range (lo := 0) (n := (m : Int).toNat) (fun i σ H4 => Same H H4 ∧ ∃ v3 : Option V, σ = [some (.ref p), some (.ref a), some (.int m), v3, none])
          ⟨s2, none, rfl⟩ ?_ ?_⟩
        · rintro i σ H4 hi ⟨s4, v3, rfl⟩
          rw [Int.toNat_natCast] at hi
          rw [Int.zero_add]
          dsimp only [tNext, gName, tSeq, tAsg]
          refine ⟨_, rfl, p, dx, _, rfl, s4 _ _ hp, nBes, _, rfl, H0, p, m, ts, i, rfl, W.same s4, hi, fun D6 hD6 => ?_⟩
          have s6 := s4.trans (Same.put (o := .lst (iL (rowOf m ts i))) hD6)
          have d6 : (upd H4 D6 (.lst (iL (rowOf m ts i)))) D6 = some (.lst (iL (rowOf m ts i))) := upd_same
          generalize upd H4 D6 (.lst (iL (rowOf m ts i))) = H6 at s6 d6 ⊢
          refine ⟨_, rfl, a, rfl, ⟨_, SqL.of (s6 _ _ ha)⟩, fun D7 hD7 => ?_⟩
          refine lc_list (K := K) (a := a) (xs := ws) (fun j H2 => Same H6 H2 ∧ H2 D7 = some (.lst (iL (nb (ts.take j) (i : Int))))) ⟨Same.put hD7, by rw [upd_same, List.take_zero]; rfl⟩ (fun j H2 _ ⟨s2, _⟩ => SqL.of (s2 _ _ (s6 _ _ ha))) (fun j x H2 hj ⟨s2, d2⟩ => ?_) (fun H2 ⟨s2, d2⟩ => ?_)
          · obtain ⟨t, ht, b, rfl, hb⟩ := paired_get (hw.same (s6.trans s2)) hj
            have ne := (g.rng t (List.mem_of_getElem? ht)).2.2.2.2
            refine ⟨rfl, ?_⟩
            refine ⟨_, rfl, _, rfl, b, iL [t.1, t.2], rfl, .inr (SqT.of hb), rfl, flat_ints _, _, rfl, ?_⟩
            have ein := inV_ints [t.1, t.2] (i : Int)
            rw [ein, nb_next _ ht ne]
            have nl := nb_len (ts.take j) (i : Int)
            rw [List.length_take] at nl
            by_cases c : (i : Int) = t.1 ∨ (i : Int) = t.2
            · refine yep_ (decide_eq_true (by simpa using c)) ?_
              rw [if_pos c]
              refine ⟨_, rfl, b, _, 0, .int t.1, rfl, rfl, SqT.of hb, rfl, _, rfl, b, _, 1, .int t.2, rfl, rfl, SqT.of hb, rfl, _, _, rfl, rfl, _, rfl, _, _, rfl, rfl, ?_⟩
              refine ⟨_, d2, by rw [List.length_map]; exact small (by omega), Same.write s2 hD7, ?_⟩
              rw [upd_same]
              unfold iL
              rw [List.map_append]
              rfl
            · refine no_ (decide_eq_false (by simpa using c)) ?_
              rw [if_neg c, List.append_nil]
              exact ⟨s2, d2⟩
          · have et : ts.take ws.length = ts := by rw [hw.length]; exact List.take_length
            rw [et] at d2
            refine ⟨D7, nb ts (i : Int), rfl, SqL.of d2, fun js q hp1 ho hq => ?_⟩
            obtain rfl := row_sorted g hp1 ho
            have s7 := s2.trans (Same.put (o := .lst ((rowOf m ts i).map V.int)) hq)
            refine ⟨.list ((rowOf m ts i).map PyData.int), .list ((rowOf m ts i).map PyData.int), dp_ints (SqL.of (s7 _ _ d6)), dp_ints (SqL.of upd_same), inl_shaped _, inl_shaped _, _, rfl, ?_⟩
            refine no_ (by rw [ints_eqv, decide_eq_true rfl]; rfl) ?_
            exact ⟨s6.trans s7, _, rfl⟩
        · rintro σ H4 ⟨s4, v3, rfl⟩
          exact k H4 s4
end
end Fd
namespace Fd
open PySem PySem.Spec PyProof.Rows L2
open Sem (wp)
section
variable {prog : Program} {w : World} {A : Around} {s : Shared}
theorem extend_rev {R : Result → Shared → Prop} {it l S : Addr} {items : Array Value} {c₀ : Nat} (res : Value) (hh : A.handled = none) (hit : s.heap.IsRevIter it l ((items.size : Int) - 1)) (hl : s.heap.IsList l items) (hne : l ≠ it) (hn : items.size ≤ sizeLine)
    (hS : s.heap.get? S = some { cls := .type "list", data := .seq #[] c₀ }) (hSi : S ≠ it) (hSl : S ≠ l)
    (hR : ∀ (h' : Heap) (tk : Nat) (acc : Array Value) (c' : Nat), (∀ b o, b ≠ S → b ≠ it → s.heap.get? b = some o → h'.get? b = some o) → h'.get? S = some { cls := .type "list", dict := none, data := .seq acc c', slots := #[] } →
      ItemsOf (fun i v => items[items.size - 1 - i]? = some v) acc items.size → R (.ok (.ret res)) { s with heap := h', toks := tk }) :
    wpAny (model prog w) A.in1 (Builtin.List.listExtendWith (.ref S) (.ref it) res)
      (fun fin s' => match fin with | .done f => R (.ok f) s' | .again c' => c'.quiet = true ∧ codeAny (model prog w) A c' R s') (fun e s' => R (.error e) s') s := by
  have W := (Walks.listRev (prog := prog) (w := w) (A := A.in1) hh it l hne items).toS
  have hSf : S ∉ [it, l] := by
    simp only [List.mem_cons, List.not_mem_nil, or_false, not_or]
    exact ⟨hSi, hSl⟩
  have hT : s.TypeIs (.ref it) "list_reverseiterator" := Heap.IsRevIter.typeIs hit
  have h1 : Builtin.List.listSameRef (.ref S) (.ref it) = false := by simp [Builtin.List.listSameRef, hSi]
  unfold Builtin.List.listExtendWith
  refine wpAny_bind (wpAny_typeOf hT ?_)
  rw [if_neg (by rw [h1]; decide)]
  refine wpAny_bind (wpAny_pyIter_revIter hit ?_)
  refine wpAny_bind (wpAny_holding ?_)
  unfold Builtin.List.listLengthHint
  refine wpAny_bind (wpAny_specialOf hT RT.nolen_lri ?_)
  show wpAny _ A.in1 (specialOf (Value.ref it) (Str.ofString "__length_hint__") >>= _) _ _ _
  refine wpAny_bind (wpAny_specialOf hT RT.hint_lri ?_)
  generalize hid : ("list_reverseiterator.__length_hint__" : String) = id0
  wp_delta
  rw [show splitId id0 = some ("list_reverseiterator", "__length_hint__") from by subst hid; decide +kernel]
  subst hid
  refine wpAny_bind (wpAny_isInstance (b := true) hT (by rw [isSubtype_type]; kernel_rfl) ?_)
  refine wpAny_pure ?_
  rw [if_neg (by decide)]
  have e0 : ((items.size : Nat) : Int) - 1 - ((0 : Nat) : Int) = (items.size : Int) - 1 := by omega
  refine wpAny_pure ⟨plainId_quiet F.plain_extend_loop _, codeAny_extend_loopS W hn _ hSf _ items.size 0 _ _ _ rfl (Nat.zero_le _) ⟨Nat.zero_le _, by rw [e0]; exact hit, hl⟩ hS (ItemsOf.nil _) fun s' acc' c' hm hS' hacc => ?_⟩
  rw [Moved.eq_with hm]
  refine hR s'.heap s'.toks acc' c' (fun b o hb hb2 e => hm.heap b o (fun hmem => ?_) e) hS' hacc
  rcases List.mem_cons.mp hmem with e' | hmem
  · exact hb e'
  · exact hb2 (List.mem_singleton.mp hmem)
theorem call_list_rev {E : Value → Shared → Prop} {it l : Addr} {items : Array Value} {Q : Value → Shared → Prop} (hh : A.handled = none) (hit : s.heap.IsRevIter it l ((items.size : Int) - 1)) (hl : s.heap.IsList l items) (hne : l ≠ it) (hn : items.size ≤ sizeLine)
    (hQ : ∀ (h' : Heap) (tk : Nat) (acc : Array Value) (c' : Nat), (∀ b o, b ≠ it → s.heap.get? b = some o → h'.get? b = some o) → h'.get? s.heap.objs.size = some { cls := .type "list", dict := none, data := .seq acc c', slots := #[] } →
      ItemsOf (fun i v => items[items.size - 1 - i]? = some v) acc items.size → Q (.ref s.heap.objs.size) { s with heap := h', toks := tk }) :
    wpAny (model prog w) A (call (.type "list") [.ref it]) Q E s := by
  obtain ⟨oi, hoi, _⟩ := id hit
  obtain ⟨ol, hol, _⟩ := id hl
  have hSi : s.heap.objs.size ≠ it := Nat.ne_of_gt (Heap.lt_size hoi)
  have hSl : s.heap.objs.size ≠ l := Nat.ne_of_gt (Heap.lt_size hol)
  refine callType_codes (Q₁ := fun obj s₁ => obj = .ref s.heap.objs.size ∧ s₁ = { s with heap := s.heap.push { cls := .type "list", data := .seq #[] } }) F.called_list (F.typeCall_list_1 _) F.entry_list_init
    (code_list_new _ ⟨rfl, rfl⟩) fun obj s₁ h₁ => ?_
  obtain ⟨rfl, rfl⟩ := h₁
  have hS : (s.heap.push { cls := .type "list", data := .seq #[] }).get? s.heap.objs.size = some { cls := .type "list", data := .seq #[] } := Heap.get?_push_size _ rfl
  refine ⟨⟨_, hS, rfl⟩, F.args_list_init_2 _ _, ?_⟩
  show wpAny _ A.in1.in1 (do let old ← Builtin.List.listItems (.ref s.heap.objs.size); Builtin.List.listUpdate (.ref s.heap.objs.size) (fun _ => #[]); letGo old.toList.reverse; Builtin.List.listExtendWith (.ref s.heap.objs.size) (.ref it) .none) _ _ _
  refine wpAny_bind ?_
  unfold Builtin.List.listItems
  refine wpAny_bind (wpAny_seqItems hS rfl (wpAny_pure ?_))
  show wpAny _ A.in1.in1 (updateSeq s.heap.objs.size (fun _ => #[]) >>= fun _ => letGo (#[] : Array Value).toList.reverse >>= fun _ => Builtin.List.listExtendWith (.ref s.heap.objs.size) (.ref it) .none) _ _ _
  refine wpAny_bind (wpAny_updateSeq hS rfl ?_)
  have hS₂ := Heap.get?_update_self (Obj.mapSeq (fun _ => (#[] : Array Value))) hS rfl
  refine wpAny_bind (wpAny_letGo ?_)
  have kp : ∀ b o, b ≠ s.heap.objs.size → s.heap.get? b = some o → ((s.heap.push { cls := .type "list", data := .seq #[] }).update s.heap.objs.size (Obj.mapSeq (fun _ => (#[] : Array Value)))).get? b = some o := fun b o hb e =>
    (Heap.get?_update_other _ _ (Ne.symm hb)).trans (Heap.get?_push_of_some _ e)
  obtain ⟨oi, hoi, ci, di⟩ := id hit
  obtain ⟨ol, hol, cl, n, dl⟩ := id hl
  refine extend_rev (A := A.in1) .none hh ⟨oi, kp _ _ hSi.symm hoi, ci, di⟩ ⟨ol, kp _ _ hSl.symm hol, cl, n, dl⟩ hne hn hS₂ hSi hSl fun h' tk acc c' hk hS' hacc => ?_
  refine ⟨rfl, hQ h' tk acc c' (fun b o hb e => ?_) hS' hacc⟩
  have hb2 : b ≠ s.heap.objs.size := Nat.ne_of_lt (Heap.lt_size e)
  exact hk b o hb2 hb (kp b o hb2 e)
end
/-- list(reversed(x)), x a list: a new list -/
def tListRev (K : PySem.W.Frag) (te : TE) : TE := fun σ H Q => te σ H fun v H1 => ∃ (a : Addr) (xs : List V), v = .ref a ∧ SqL K H1 a xs ∧ ∀ q, H1 q = none → Q (.ref q) (upd H1 q (.lst xs.reverse))
section
variable {X : Cx}
theorem pe_listRev {e : Expr} {te : TE} {p p2 pos pos2 : Pos} (hc : X.calm = true) (hg : Gl X "list") (hm : X.mg "list" = none) (hg2 : Gl X "reversed") (hm2 : X.mg "reversed" = none) (he : PE X e te)
    (hs : starEach [e] X.env = (false, eval e X.env) :: starEach [] X.env := by rfl)
    (hs2 : starEach [.Call (.Name "reversed" p2) [e] [] pos2] X.env = (false, eval (.Call (.Name "reversed" p2) [e] [] pos2) X.env) :: starEach [] X.env := by rfl) :
    PE X (.Call (.Name "list" p) [.Call (.Name "reversed" p2) [e] [] pos2] [] pos) (tListRev X.K te) := by
  refine ⟨fun pins s σ H Q I h => ?_⟩
  refine Call_ (ld_blt I hg hm boot_list (PyProof.Rows.callWith_type1 (args_cons (Call_ (ld_blt I hg2 hm2 PyProof.Rows.boot_reversed (PyProof.Rows.callWith_type1 (args_cons (thn (he.run pins s σ H _ I h) fun u s1 ⟨v, H1, I1, r1, q1⟩ => args_nil ?_) hs) hs rfl))) hs2) hs2 rfl))
  obtain ⟨a, xs, ev, hq, q⟩ := q1
  subst ev
  obtain rfl : u = Value.ref a := r1
  obtain ⟨its, rv, p', hz⟩ := I1.list hq
  refine call_reversed_list p'.isList (args_nil ?_)
  have k0 : ∀ b o, s1.heap.get? b = some o → (s1.heap.push (revObj a ((its.toArray.size : Int) - 1))).get? b = some o := fun b o e => Heap.get?_push_of_some _ e
  have hl := p'.isList
  obtain ⟨ol, hol, _⟩ := id hl
  have hne : a ≠ s1.heap.objs.size := Nat.ne_of_lt (Heap.lt_size hol)
  have hn : its.toArray.size ≤ sizeLine := by rw [List.size_toArray, ← rv.length]; exact hz
  refine call_list_rev (s := { s1 with heap := s1.heap.push (revObj a ((its.toArray.size : Int) - 1)) }) (I1.ok.hd hc) ⟨_, Heap.get?_push_size _ rfl, rfl, rfl⟩ (hl.push _) hne hn fun h' tk acc c' hk hS hi => ?_
  have hsz : (s1.heap.push (revObj a ((its.toArray.size : Int) - 1))).objs.size = s1.heap.objs.size + 1 := by simp [Heap.push]
  have kp : ∀ b o, s1.heap.get? b = some o → h'.get? b = some o := fun b o e => hk b o (Nat.ne_of_lt (Heap.lt_size e)) (k0 b o e)
  have le : s1.heap.objs.size ≤ (s1.heap.push (revObj a ((its.toArray.size : Int) - 1))).objs.size := by rw [hsz]; exact Nat.le_succ _
  refine ⟨.ref _, upd H1 _ (.lst xs.reverse), I1.laid (t' := tk) kp le (show ObjOk X.prog X.w _ _ _ (.lst xs.reverse) from ⟨by rw [List.length_reverse]; exact hz, acc.toList, c', RT.vals_rev rv hi, ?_⟩), rfl, q _ (I1.hok.fresh le)⟩
  rw [Array.toArray_toList]
  exact hS
end
end Fd
namespace Fd
open PySem PySem.Spec PyProof.Rows L2
/-! ### lists of lists of ints as data -/
def rowD (r : List Int) : PyData := .list (r.map PyData.int)
def lstD (rss : List (List Int)) : PyData := .list (rss.map rowD)
theorem rows_lay : ∀ rss : List (List Int), PyData.canLayAll0 (rss.map rowD) = true
  | [] => by simp [PyData.canLayAll0]
  | r :: rss => by
    have h : (rowD r).canLay0 = true := by simp only [rowD, PyData.canLay0]; exact inl_lay r
    simp [PyData.canLayAll0, h, rows_lay rss]
theorem rows_depth : ∀ rss : List (List Int), PyData.depthAll (rss.map rowD) ≤ 1
  | [] => by simp [PyData.depthAll]
  | r :: rss => by
    have h1 := rows_depth rss
    have h2 : (rowD r).depth = 1 := by simp only [rowD, PyData.depth, inl_depth]
    simp only [List.map_cons, PyData.depthAll]
    omega
theorem lstD_shaped (rss : List (List Int)) : SeqAt.shaped (lstD rss) = true := by
  have h := rows_depth rss
  refine shaped_by (by simp only [lstD, PyData.canLay0]; exact rows_lay rss) ?_
  simp only [lstD, PyData.depth]
  omega
theorem lstD_refl (rss : List (List Int)) : PyData.eqv (lstD rss) (lstD rss) = true := SeqAt.eqv_refl _ (SeqAt.canLay_of_shaped (lstD_shaped rss))
def RowIs (H : Hp) (a : Addr) (r : List Int) : Prop := H a = some (.lst (iL r))
structure ListsAt (H : Hp) (D : Addr) (rss : List (List Int)) : Prop where
  ex : ∃ as : List Addr, H D = some (.lst (as.map V.ref)) ∧ Paired (RowIs H) as rss
theorem ListsAt.same {H H' : Hp} {D : Addr} {rss : List (List Int)} (h : ListsAt H D rss) (s : Same H H') : ListsAt H' D rss := by
  obtain ⟨as, h1, h2⟩ := h.ex
  exact ⟨as, s _ _ h1, Paired.mono (fun a r e => s _ _ e) h2⟩
theorem paired_of {α β : Type} {F : α → β → Prop} : ∀ {xs : List α} {ys : List β}, xs.length = ys.length → (∀ (i : Nat) (a : α) (b : β), xs[i]? = some a → ys[i]? = some b → F a b) → Paired F xs ys
  | [], [], _, _ => .nil
  | [], _ :: _, h, _ => by simp at h
  | _ :: _, [], h, _ => by simp at h
  | a :: xs, b :: ys, h, k => .cons (k 0 a b rfl rfl) (paired_of (by simpa using h) fun i x y e1 e2 => k (i + 1) x y (by simpa using e1) (by simpa using e2))
theorem RowsAt.lists {H0 H : Hp} {R : Addr} {as : List Addr} {rss : List (List Int)} (h : RowsAt H0 H R as rss) : ListsAt H R rss := ⟨as, h.top, paired_of h.len fun i a r e1 e2 => (h.row i a r e1 e2).2⟩
theorem dp_row {K : PySem.W.Frag} {H : Hp} {a : Addr} {r : List Int} (h : RowIs H a r) : Dp K H (.ref a) (rowD r) := dp_ints (SqL.of h)
theorem dp_rows {K : PySem.W.Frag} {H : Hp} : ∀ {as : List Addr} {rss : List (List Int)}, Paired (RowIs H) as rss → DpAll K H (as.map V.ref) (rss.map rowD)
  | _, _, .nil => .nil
  | _, _, .cons r t => .cons (dp_row r) (dp_rows t)
theorem dp_lists {K : PySem.W.Frag} {H : Hp} {D : Addr} {rss : List (List Int)} (h : ListsAt H D rss) : Dp K H (.ref D) (lstD rss) := by
  obtain ⟨as, h1, h2⟩ := h.ex
  exact .lst (SqL.of h1) (dp_rows h2)
/-- a new row is put behind the others -/
theorem rows_more {H : Hp} {D q : Addr} {as : List Addr} {rss : List (List Int)} {r : List Int} (d : H D = some (.lst (as.map V.ref))) (h : Paired (RowIs H) as rss) (hq : RowIs H q r) (n : ∀ a ∈ q :: as, a ≠ D) :
    ListsAt (upd H D (.lst (as.map V.ref ++ [.ref q]))) D (rss ++ [r]) := by
  refine ⟨as ++ [q], by rw [upd_same, List.map_append]; rfl, Paired.snoc ?_ ?_⟩
  · refine paired_of h.length fun i a r' e1 e2 => ?_
    obtain ⟨r'', e3, k⟩ := paired_get h e1
    cases Option.some.inj (e2.symm.trans e3)
    show upd H D _ a = _
    rw [upd_ne (n a (List.mem_cons_of_mem _ (List.mem_of_getElem? e1)))]
    exact k
  · show upd H D _ q = _
    rw [upd_ne (n q List.mem_cons_self)]
    exact hq
theorem RowsAt.more' {H0 H H' : Hp} {R q : Addr} {as : List Addr} {rss : List (List Int)} {r : List Int} (h : RowsAt H0 H R as rss) (s : Same H0 H) (s' : Same H H') (hq : H q = none) (d : H' q = some (.lst (iL r))) :
    RowsAt H0 (upd H' R (.lst (as.map V.ref ++ [.ref q]))) R (as ++ [q]) (rss ++ [r]) := by
  have Rq : R ≠ q := ne_of_none h.top hq
  have h2 := h.same s'
  have qas : q ∉ as := fun hm => by
    obtain ⟨j, hj⟩ := List.mem_iff_getElem?.mp hm
    have hj2 : j < rss.length := by
      rw [← h.len]
      exact (List.getElem?_eq_some_iff.mp hj).1
    have z := (h.row j q _ hj (List.getElem?_eq_getElem hj2)).2
    rw [hq] at z
    cases z
  refine ⟨by rw [upd_same, List.map_append]; rfl, h.new, by simp [h.len], List.nodup_append.mpr ⟨h.nd, by simp, fun x hx y hy e => ?_⟩, fun hm => ?_, fun j a z e1 e2 => ?_⟩
  · rw [List.mem_singleton.mp hy] at e
    exact qas (e ▸ hx)
  · rcases List.mem_append.mp hm with c | c
    · exact h.out c
    · exact Rq (List.mem_singleton.mp c)
  · by_cases hj : j < as.length
    · rw [List.getElem?_append_left hj] at e1
      rw [List.getElem?_append_left (by rw [← h.len]; exact hj)] at e2
      obtain ⟨k1, k2⟩ := h2.row j a z e1 e2
      have aR : a ≠ R := fun e => h.out (e ▸ List.mem_of_getElem? e1)
      exact ⟨k1, by rw [upd_ne aR]; exact k2⟩
    · have hj' : as.length ≤ j := Nat.le_of_not_lt hj
      rw [List.getElem?_append_right hj'] at e1
      rw [List.getElem?_append_right (by rw [← h.len]; exact hj')] at e2
      obtain ⟨_, e1b⟩ := List.getElem?_eq_some_iff.mp e1
      obtain ⟨_, e2b⟩ := List.getElem?_eq_some_iff.mp e2
      simp only [List.getElem_singleton] at e1b e2b
      subst e1b
      subst e2b
      exact ⟨s.free hq, by rw [upd_ne Rq.symm]; exact d⟩
theorem row_empty (r : List Int) : PyData.eqv (rowD r) (.list []) = decide (r = []) := by
  cases r with
  | nil => rfl
  | cons x r =>
    simp only [rowD, List.map_cons, PyData.eqv, PyData.eqvAll]
    rfl
end Fd
namespace Fd
open PySem PySem.Spec PyProof.Rows L2
theorem lc_map {K : PySem.W.Frag} {H0 H : Hp} {σ : L2.St} {i j : Nat} {R : Addr} {as : List Addr} {tss : List (List Int)} {te : TE} {fm : List Int → List Int} {Q : VK} (hi : σ[i]? = some (some (.ref R))) (hj : j < σ.length) (hR : RowsAt H0 H R as tss) (len : tss.length ≤ 100)
    (ht : ∀ (σ' : L2.St) (H1 : Hp) (b : Addr) (t : List Int) (Q' : VK), σ'[j]? = some (some (.ref b)) → H1 b = some (.lst (iL t)) → (∀ l, H1 l = none → Q' (.ref l) (upd H1 l (.lst (iL (fm t))))) → te σ' H1 Q')
    (k : ∀ (H' : Hp) (D : Addr) (bs : List Addr), Same H H' → RowsAt H H' D bs (tss.map fm) → Q (.ref D) H') : tLc (iList K (tVar i)) (gName j) tYes te [j] σ H Q := by
  refine ⟨_, hi, R, rfl, ⟨_, SqL.of hR.top⟩, fun D hD => ?_⟩
  refine lc_list (K := K) (a := R) (xs := as.map V.ref) (fun q H1 => Same H H1 ∧ ∃ bs, RowsAt H H1 D bs ((tss.take q).map fm)) ⟨Same.put hD, [], RowsAt.start hD⟩ (fun q H1 _ ⟨s1, _⟩ => SqL.of (s1 _ _ hR.top)) (fun q x H1 hq ⟨s1, bs, r1⟩ => ?_) (fun H1 ⟨s1, bs, r1⟩ => ?_)
  · have hql : q < tss.length := by
      have := (List.getElem?_eq_some_iff.mp hq).1
      rw [List.length_map, hR.len] at this
      exact this
    have et : tss[q]? = some tss[q] := List.getElem?_eq_getElem hql
    generalize tss[q] = t at et
    obtain ⟨b, eb, ebr, _, hb⟩ := hR.get et
    obtain rfl : x = .ref b := Option.some.inj (hq.symm.trans ebr)
    have wl : (wipe σ [j]).length = σ.length := by simp [wipe]
    have eq : ((wipe σ [j]).set j (some (.ref b)))[j]? = some (some (.ref b)) := List.getElem?_set_self (by rw [wl]; exact hj)
    refine ⟨by simp [wipe], ?_⟩
    refine yes_ ?_
    refine iteT ?_
    refine ht _ _ b t _ eq (s1 _ _ hb) fun l hl => ?_
    have pD : D ≠ l := ne_of_none r1.top hl
    refine ⟨bs.map V.ref, by rw [upd_ne pD]; exact r1.top, ?_, Same.write (Same.step s1 hl) hD, bs ++ [l], ?_⟩
    · rw [List.length_map, r1.len, List.length_map, List.length_take]
      exact small (by omega)
    · rw [take_next et, List.map_append]
      exact r1.more s1 hl
  · rw [List.length_map, hR.len, List.take_length] at r1
    exact k H1 D bs s1 r1
theorem te_copy {K : PySem.W.Frag} {j : Nat} : ∀ (σ' : L2.St) (H1 : Hp) (b : Addr) (t : List Int) (Q' : VK), σ'[j]? = some (some (.ref b)) → H1 b = some (.lst (iL t)) → (∀ l, H1 l = none → Q' (.ref l) (upd H1 l (.lst (iL t)))) → tCB (rListOf K) (tCons (tVar j) tNil) σ' H1 Q' := fun σ' H1 b t Q' e h k =>
  ⟨_, e, b, iL t, rfl, .inl (SqL.of h), k⟩
theorem te_rev {K : PySem.W.Frag} {j : Nat} : ∀ (σ' : L2.St) (H1 : Hp) (b : Addr) (t : List Int) (Q' : VK), σ'[j]? = some (some (.ref b)) → H1 b = some (.lst (iL t)) → (∀ l, H1 l = none → Q' (.ref l) (upd H1 l (.lst (iL t.reverse)))) → tListRev K (tVar j) σ' H1 Q' := fun σ' H1 b t Q' e h k =>
  ⟨_, e, b, iL t, rfl, SqL.of h, fun q hq => by
    have z := k q hq
    rw [show iL t.reverse = (iL t).reverse from List.map_reverse] at z
    exact z⟩
theorem TurnsOf.rev {m : Nat} {ts : List Tie} {tss : List (List Int)} (h : TurnsOf m ts tss) : TurnsOf m ts (tss.map List.reverse) := by
  refine ⟨by rw [List.length_map]; exact h.len, fun k t e => ?_⟩
  rw [List.getElem?_map] at e
  cases e2 : tss[k]? with
  | none =>
    rw [e2] at e
    cases e
  | some u =>
    rw [e2] at e
    cases Option.some.inj e
    exact (List.reverse_perm u).trans (h.row k u e2)
theorem walksL_len {m : Nat} {ts : List Tie} (g : Good m ts) (tss : List (List Int)) (tl : ts.length ≤ 40) : (walksL m ts tss).length ≤ 80 := by
  have h := heads_len g tss tl (dartsL m ts).length
  rw [List.take_length] at h
  exact h
theorem walksL_short {m : Nat} {ts : List Tie} {tss : List (List Int)} (g : Good m ts) (tu : TurnsOf m ts tss) (tl : ts.length ≤ 40) : ∀ t ∈ walksL m ts tss, t.length ≤ 80 := fun t ht => by
  obtain ⟨d, hd, rfl⟩ := List.mem_map.mp ht
  have hd2 : d ∈ dartsL m ts := (List.mem_filter.mp hd).1
  have p := (goes_of g tu).per_le hd2
  have l := darts_le g
  rw [walkP_len]
  omega
def spLaw (K : PySem.W.Frag) : Sp := fun vs H Q _ => ∃ (a : Addr) (ns : List Int), vs = [.ref a] ∧ SqL K H a (ns.map V.int) ∧ ∀ H', Q (.bl true) H'
structure N6Txt (K : PySem.W.Frag) (mg : Str → Option Value) : Prop where
  rev : mg "reversed" = none
  fTies : Fn K mg "_law_ties" sLawTies ["_law_script", "_law_many_here"]
  fOrder : Fn K mg "_law_order_by" sLawOrderBy ["_law_cell", "_law_row"]
  fTurnsBy : Fn K mg "_law_turns_by" sLawTurnsBy ["_law_script", "_law_many_here", "_law_ties_here"]
  fRight : Fn K mg "_law_right" sLawRight ["_law_seen", "_law_turns", "_law_ties_here"]
  fStays : Fn K mg "_law_stays" sLawStays ["_law_web", "_law_ties_here", "_law_many_here"]
section
variable {P : Program} {w : World} {K : PySem.W.Frag} {mg : Str → Option Value} {base : Heap} {C : Addr}
abbrev nLaw : List Str := ["_law_script", "_law_many_here", "_law_ties_here", "_law_turns", "_law_web", "_law_handed", "_law_turned", "_law_other", "_law_seen", "_law_kept", "_law_walk", "_law_turn"]
theorem scLaw : FnScope nLaw ["_law_script"] (defScope sLaw) := ⟨rfl, rfl, rfl, by decide +kernel, rfl, by decide +kernel, by decide +kernel⟩
theorem ok_law {f : Addr} {fd : FuncData} (F : L2.Fun K "law" "law" sLaw f fd) (T : WTxt K mg C) (U : TTxt K mg C) (L : LTxt K mg) (KT : KTxt K mg) (L6 : L6Txt K mg) (FT : FnM K C "ties" "Web.ties" sWebTies ["self"]) (N : N6Txt K mg) : FnOk P w K mg base L2.CX0 10 f fd ["_law_script"] (spLaw K) := by
  refine F.ok scLaw (fun vs H Q E h => ?_) (fun cdv A outer s H vs Q E hr h => ?_)
  · obtain ⟨a, ns, rfl, _⟩ := h
    rfl
  · obtain ⟨a, ns, rfl, hS, k⟩ := h
    have hun : (A.deeper (envOfC "law" (defScope sLaw) s.heap.objs.size f cdv)).units + 64 < cLine := by
      have := hr.un
      omega
    refine ⟨_, pss_cons (ps_set (i := 1) scLaw.nd rfl (Or.inl rfl) (C8.pe_c (c_many T L) hr (by decide) (by rfl) (pa_cons (pv 0) pa_nil)))
      (pss_cons (ps_set (i := 2) scLaw.nd rfl (Or.inl rfl) (C8.pe_c (c_lties T L N.fTies) hr (by decide) (by rfl) (pa_cons (pv 0) (pa_cons (pv 1) pa_nil))))
      (pss_cons (ps_set (i := 3) scLaw.nd rfl (Or.inl rfl) (C8.pe_c (c_turnsby T L N.fOrder N.fTurnsBy) hr (by decide) (by rfl) (pa_cons (pv 0) (pa_cons (pv 1) (pa_cons (pv 2) pa_nil)))))
      (pss_cons (ps_set (i := 4) scLaw.nd rfl (Or.inl rfl) (C8.pe_mk (c_init T) hr (by decide) (by rfl) (pa_cons (pv 1) (pa_cons (pe_callTy call_list_of (by rfl) T.list (by decide +kernel) (pa_cons (pv 2) pa_nil)) pa_nil))))
      (pss_cons (ps_setLc (i := 5) (own := [("_law_turn", 11)]) (g := gName 11) (tt := tYes) (te := tCB (rListOf K) (tCons (tVar 11) tNil)) (by rfl) scLaw.nd rfl rfl (sw_true rfl rfl rfl (by decide +kernel)) (pi_list (pv 3))
          (blkOk_by (own := [("_law_turn", 11)]) (N := nLaw) (sc := defScope sLaw) (by decide +kernel)) (fun _ _ _ _ _ => pg_name (i := 11) scLaw.nd rfl (Or.inl rfl)) (fun _ _ _ _ _ => pts_nil) (fun _ _ _ _ _ => pe_callTy (r := rListOf K) call_list_of (by rfl) T.list (by decide +kernel) (pa_cons (pv 11) pa_nil)))
      (pss_cons (ps_setLc (i := 6) (own := [("_law_turn", 11)]) (g := gName 11) (tt := tYes) (te := tListRev K (tVar 11)) (by rfl) scLaw.nd rfl rfl (sw_true rfl rfl rfl (by decide +kernel)) (pi_list (pv 3))
          (blkOk_by (own := [("_law_turn", 11)]) (N := nLaw) (sc := defScope sLaw) (by decide +kernel)) (fun _ _ _ _ _ => pg_name (i := 11) scLaw.nd rfl (Or.inl rfl)) (fun _ _ _ _ _ => pts_nil) (fun _ _ _ _ _ => pe_listRev rfl (by rfl) T.list (by rfl) N.rev (pv 11)))
      (pss_cons (ps_set (i := 7) scLaw.nd rfl (Or.inl rfl) (C8.pe_c (c_walks T U KT) hr (by decide) (by rfl) (pa_cons (pv 4) (pa_cons (pv 6) pa_nil))))
      (pss_cons (ps_set (i := 8) scLaw.nd rfl (Or.inl rfl) (C8.pe_c (c_walks T U KT) hr (by decide) (by rfl) (pa_cons (pv 4) (pa_cons (pv 5) pa_nil))))
      (pss_cons (ps_if (PW.pt (pw_or (pt_not (pt_val (C8.pe_c (c_right6 T L U L6 N.fRight) hr (by decide) (by rfl) (pa_cons (pv 8) (pa_cons (pv 3) (pa_cons (pv 2) pa_nil))))))
          (pw_or (pt_cmpR (op_neD hun) (pv 5) (pv 3) (nomark _)) (pw_or1 (pt_not (pt_val (C8.pe_c (c_right6 T L U L6 N.fRight) hr (by decide) (by rfl) (pa_cons (pv 7) (pa_cons (pv 6) (pa_cons (pv 2) pa_nil)))))))))) (pss_one (ps_ret pe_bl)) pss_nil)
      (pss_cons (ps_setLc (i := 9) (own := [("_law_walk", 10)]) (g := gName 10) (tt := tYes) (te := tCB (rListOf K) (tCons (tVar 10) tNil)) (by rfl) scLaw.nd rfl rfl (sw_true rfl rfl rfl (by decide +kernel)) (pi_list (pv 8))
          (blkOk_by (own := [("_law_walk", 10)]) (N := nLaw) (sc := defScope sLaw) (by decide +kernel)) (fun _ _ _ _ _ => pg_name (i := 10) scLaw.nd rfl (Or.inl rfl)) (fun _ _ _ _ _ => pts_nil) (fun _ _ _ _ _ => pe_callTy (r := rListOf K) call_list_of (by rfl) T.list (by decide +kernel) (pa_cons (pv 10) pa_nil)))
      (pss_cons (ps_for PassesOwn.never rfl (pi_list (pv 8)) (pg_name (i := 10) scLaw.nd rfl (Or.inl rfl))
        (pss_one (ps_expr (pe_bm PySem.F.plainAttrs_list PySem.F.slot_list_append PySem.F.type_list_append mt_append (pv 10) (pa_cons pe_int pa_nil)))))
      (pss_cons (ps_expr (pe_bm PySem.F.plainAttrs_list PySem.F.slot_list_append PySem.F.type_list_append mt_append (pv 8) (pa_cons (pe_lst pa_nil) pa_nil)))
      (pss_one (ps_ret (pe_and (pe_cmpR (op_eqD hun) (C8.pe_c (c_walks T U KT) hr (by decide) (by rfl) (pa_cons (pv 4) (pa_cons (pv 5) pa_nil))) (pv 9) (nomark _))
        (pe_and (pe_cmpR (op_eqD hun) (pv 5) (pv 3) (nomark _)) (pe_one (C8.pe_c (c_stays T U L FT N.fStays) hr (by decide) (by rfl) (pa_cons (pv 4) (pa_cons (pv 2) (pa_cons (pv 1) pa_nil)))))))))))))))))))), ?_⟩
    refine ⟨_, rfl, a, ns, rfl, hS, fun m m1 m16 => ?_⟩
    refine ⟨_, rfl, _, rfl, a, ns, m, rfl, hS, m1, m16, fun H1 D ws ts s1 hD d1 p1 g tl => ?_⟩
    refine ⟨_, rfl, _, rfl, _, rfl, a, ns, m, D, ws, ts, rfl, s1.seq hS, m16, d1, p1, g, by omega, fun H2 R as tss s2 hR tu => ?_⟩
    -- web = Web(many, list(ties))
    refine ⟨_, rfl, _, rfl, D, ws, rfl, .inl (SqL.of (s2 _ _ d1)), fun l hl x dx nx ndx ndxx => ?_⟩
    have s23 := Same.put (o := .lst ws) hl
    refine ⟨_, x, dx, m, l, ws, ts, rfl, upd_same, fun b o e => by rw [upd_ne (ne_of_none e nx), upd_ne (ne_of_none e ndx)]; exact e, nx, SqL.of upd_same, p1.same (s2.trans s23), g, m1, m16, tl, fun H4 keep W0 => ⟨rfl, ?_⟩⟩
    have s34 := Same.made nx ndx keep
    have s24 := s23.trans s34
    have W : WebAt C H1 H4 x m ts := W0.older (s2.trans s23)
    clear keep W0
    have hR4 := hR.same s24
    have s14 := s2.trans s24
    have d4 := s14 _ _ d1
    have p4 := p1.same s14
    clear s24 s34 s23
    have short := tu.short m16
    have tlen : tss.length ≤ 100 := by rw [tu.len]; omega
    -- handed
    try dsimp only [gName, tSeq, tAsg, tNext]
    refine lc_map (K := K) (fm := id) rfl (Nat.lt_of_lt_of_eq (by decide : 11 < 12) rfl) hR4 tlen te_copy (fun H5 Hd hs s5 r5 => ?_)
    rw [List.map_id] at r5
    -- turned
    try dsimp only [gName, tSeq, tAsg, tNext]
    refine lc_map (K := K) (fm := List.reverse) rfl (Nat.lt_of_lt_of_eq (by decide : 11 < 12) rfl) (hR4.same s5) tlen te_rev (fun H6 Td rs s6 r6 => ?_)
    have s46 := s5.trans s6
    have r56 := r5.same s6
    -- other
    refine ⟨_, rfl, _, rfl, H1, x, Td, rs, m, ts, tss.map List.reverse, rfl, W.same s46, r6.older (s14.trans s5), tu.rev, g, m16, tl, fun H7 O os s7 r7 => ?_⟩
    have s47 := s46.trans s7
    -- seen
    refine ⟨_, rfl, _, rfl, H1, x, Hd, hs, m, ts, tss, rfl, W.same s47, (r56.same s7).older s14, tu, g, m16, tl, fun H8 S bs s8 r8 => ?_⟩
    have s48 := s47.trans s8
    have wl := walksL_len g tss tl
    have wsh := walksL_short g tu tl
    -- right
    refine ⟨_, rfl, _, rfl, _, rfl, H7, H1, S, R, D, bs, as, ws, m, ts, tss, rfl, r8, hR4.same s48, tu, g, m16, tl, s48 _ _ d4, p4.same s48, fun H9 s9 => ⟨true, rfl, ?_⟩⟩
    refine iteF ?_
    have s49 := s48.trans s9
    have s69 := s7.trans (s8.trans s9)
    have rH9 := r56.same s69
    -- handed != turns
    refine ⟨_, rfl, _, rfl, lstD tss, lstD tss, dp_lists rH9.lists, dp_lists (hR4.same s49).lists, lstD_shaped _, lstD_shaped _, _, rfl, ?_⟩
    refine no_ (by rw [lstD_refl]; rfl) ?_
    -- right
    refine ⟨_, rfl, _, rfl, _, rfl, H6, H5, O, Td, D, os, rs, ws, m, ts, tss.map List.reverse, rfl, r7.same (s8.trans s9), r6.same s69, tu.rev, g, m16, tl, s49 _ _ d4, p4.same s49, fun H10 s10 => ⟨true, rfl, ?_⟩⟩
    refine iteF ?_
    have r10 := r8.same (s9.trans s10)
    have s810 := s9.trans s10
    have s710 := s8.trans s810
    have s410 := s49.trans s10
    -- kept
    try dsimp only [gName, tSeq, tAsg, tNext]
    refine lc_map (K := K) (fm := id) rfl (Nat.lt_of_lt_of_eq (by decide : 10 < 12) rfl) r10 (by omega) te_copy (fun H11 Kp ks s11 r11 => ?_)
    rw [List.map_id] at r11
    have r10' := r10.same s11
    have s711 := s710.trans s11
    -- for walk in seen
    refine ⟨_, rfl, S, rfl, ⟨_, SqL.of r10'.top⟩, for_list (K := K) (a := S) (xs := bs.map V.ref) (fun i σ H12 => ∃ v10 : Option V, σ = [some (.ref a), some (.int m), some (.ref D), some (.ref R), some (.ref x), some (.ref Hd), some (.ref Td), some (.ref O), some (.ref S), some (.ref Kp), v10, none] ∧
        Same H7 H12 ∧ (∀ b o, H11 b = some o → H10 b = none → H12 b = some o) ∧ H12 S = some (.lst (bs.map V.ref)) ∧ ∀ (j : Nat) (b : Addr) (r : List Int), i ≤ j → bs[j]? = some b → (walksL m ts tss)[j]? = some r → H12 b = some (.lst (iL r)))
      ⟨_, rfl, s711, fun b o e _ => e, r10'.top, fun j b r _ e1 e2 => (r10'.row j b r e1 e2).2⟩ (fun i σ H12 _ ⟨_, _, _, _, h, _⟩ => SqL.of h) ?_ ?_⟩
    · rintro i v σ H12 hi ⟨v10, rfl, t1, t2, t3, t4⟩
      have hib : i < bs.length := by
        have := (List.getElem?_eq_some_iff.mp hi).1
        rw [List.length_map] at this
        exact this
      have hiw : i < (walksL m ts tss).length := by rw [← r8.len]; exact hib
      have eb : bs[i]? = some bs[i] := List.getElem?_eq_getElem hib
      have ew : (walksL m ts tss)[i]? = some (walksL m ts tss)[i] := List.getElem?_eq_getElem hiw
      have lw := wsh _ (List.getElem_mem hiw)
      generalize (walksL m ts tss)[i] = r at ew lw
      generalize bs[i] = b at eb
      obtain rfl : v = .ref b := by
        rw [List.getElem?_map, eb] at hi
        exact (Option.some.inj hi).symm
      have hb := t4 i b r (Nat.le_refl _) eb ew
      have hb7 : H7 b = none := (r8.row i b r eb ew).1
      have hb10 : H10 b = some (.lst (iL r)) := (r10.row i b r eb ew).2
      dsimp only [tNext, gName, tSeq, tAsg]
      refine ⟨_, rfl, .inl ⟨rfl, _, SqL.of hb⟩, b, _, _, rfl, rfl, hb, by rw [List.length_map]; exact small (by omega), ?_⟩
      refine ⟨_, rfl, Same.write t1 hb7, fun c o e e0 => ?_, ?_, fun j c r' hj e1 e2 => ?_⟩
      · have ne : c ≠ b := fun z => by
          rw [z, hb10] at e0
          cases e0
        rw [upd_ne ne]
        exact t2 c o e e0
      · have ne : S ≠ b := fun z => r8.out (z ▸ List.mem_of_getElem? eb)
        rw [upd_ne ne]
        exact t3
      · have ne : c ≠ b := fun z => by
          have hjb : j < bs.length := (List.getElem?_eq_some_iff.mp e1).1
          exact List.pairwise_iff_getElem.mp r8.nd i j hib hjb (by omega) ((List.getElem?_eq_some_iff.mp eb).2.trans (z.symm.trans (List.getElem?_eq_some_iff.mp e1).2.symm))
        rw [upd_ne ne]
        exact t4 j c r' (by omega) e1 e2
    · rintro σ H12 ⟨v10, rfl, t1, t2, t3, _⟩
      have bl : bs.length ≤ 80 := by rw [r8.len]; exact wl
      have S7 : H7 S = none := r8.new
      have S10 : H10 S = some (.lst (bs.map V.ref)) := r10.top
      refine ⟨_, rfl, .inl ⟨rfl, _, SqL.of t3⟩, ?_⟩
      refine ⟨Nat.zero_le _, fun Nw hN => ?_⟩
      have SN : S ≠ Nw := ne_of_none t3 hN
      refine ⟨S, _, _, rfl, rfl, by rw [upd_ne SN]; exact t3, by rw [List.length_map]; exact small (by omega), ?_⟩
      have u1 : Same H7 (upd (upd H12 Nw (.lst [])) S (.lst (bs.map V.ref ++ [.ref Nw]))) := Same.write (t1.trans (Same.put hN)) S7
      have u2 : ∀ b o, H11 b = some o → H10 b = none → (upd (upd H12 Nw (.lst [])) S (.lst (bs.map V.ref ++ [.ref Nw]))) b = some o := fun b o e e0 => by
        have ne : b ≠ S := fun z => by
          rw [z, S10] at e0
          cases e0
        have e2 := t2 b o e e0
        rw [upd_ne ne, upd_ne (ne_of_none e2 hN)]
        exact e2
      generalize upd (upd H12 Nw (.lst [])) S (.lst (bs.map V.ref ++ [.ref Nw])) = H13 at u1 u2 ⊢
      have rk := r11.apart u2
      have s413 := s47.trans u1
      have rh := r56.same (s7.trans u1)
      refine ⟨_, rfl, _, rfl, H1, x, Hd, hs, m, ts, tss, rfl, W.same s413, rh.older s14, tu, g, m16, tl, fun H14 S2 bs2 s14' r14 => ?_⟩
      refine ⟨_, rfl, lstD (walksL m ts tss), lstD (walksL m ts tss), dp_lists r14.lists, dp_lists (rk.same s14').lists, lstD_shaped _, lstD_shaped _, _, rfl, ?_⟩
      refine yep_ (lstD_refl _) ?_
      have s414 := s413.trans s14'
      refine ⟨_, rfl, _, rfl, lstD tss, lstD tss, dp_lists (rh.same s14').lists, dp_lists (hR4.same s414).lists, lstD_shaped _, lstD_shaped _, _, rfl, ?_⟩
      refine yep_ (lstD_refl _) ?_
      exact ⟨_, rfl, _, rfl, _, rfl, H1, x, D, m, ws, ts, rfl, W.same s414, s414 _ _ d4, p4.same s414, g, m16, tl, fun H15 _ => k H15⟩
end
end Fd
namespace Fd
open PySem PySem.Spec PyProof.Rows L2
theorem fn_mk {K : PySem.W.Frag} {h : Heap} {mg : Str → Option Value} (X : K.In h) (G : h.Ns mainGlobals mg) {x : Str} {st : Stmt} {ps : List Str} {f : Addr} {od an : Option Addr} {sl : Array (Option Value)} {oc kV dc pm cd ct : Value}
    (a : PySem.W.nsIn K mainGlobals x = some (some (.ref f))) (l : K.lookup f = some ⟨oc, od, .func (PySem.W.fnOf x x (defArgs st) (defBody st) (defScope st) .none kV dc pm an cd ct), sl⟩) (c : PySem.W.codeIn K cd x = true) (k : PySem.W.keepIn K (.ref f) = true)
    (hb : ∀ (kV doc pm : Value) (an : Option Addr) (cdv ct : Value) (us : List Value), us.length = ps.length → bindArgs (PySem.W.fnOf x x (defArgs st) (defBody st) (defScope st) .none kV doc pm an cdv ct) ⟨us, []⟩ = pure (ps.zip us)) : Fn K mg x st ps :=
  ⟨f, _, fun_mk l c k, PySem.W.mg_of X G a, (fun_mk l c k).binds hb⟩
theorem fnM_mk {K : PySem.W.Frag} {C : Addr} {m qual : Str} {st : Stmt} {ps : List Str} {f : Addr} {od an : Option Addr} {sl : Array (Option Value)} {oc kV dc pm cd ct : Value}
    (a : PySem.W.findIn K (.ref C) m = some (some (.ref f))) (i : PySem.W.isFn K (.ref f) = true) (l : K.lookup f = some ⟨oc, od, .func (PySem.W.fnOf m qual (defArgs st) (defBody st) (defScope st) .none kV dc pm an cd ct), sl⟩) (c : PySem.W.codeIn K cd qual = true) (k : PySem.W.keepIn K (.ref f) = true)
    (hb : ∀ (kV doc pm : Value) (an : Option Addr) (cdv ct : Value) (us : List Value), us.length = ps.length → bindArgs (PySem.W.fnOf m qual (defArgs st) (defBody st) (defScope st) .none kV doc pm an cdv ct) ⟨us, []⟩ = pure (ps.zip us)) : FnM K C m qual st ps :=
  ⟨f, _, fun_mk l c k, ⟨a, i, k⟩, (fun_mk l c k).binds hb⟩
theorem fnI_mk {K : PySem.W.Frag} {C : Addr} {qual : Str} {st : Stmt} {ps : List Str} {f : Addr} {od an : Option Addr} {sl : Array (Option Value)} {oc kV dc pm cd ct : Value} (mk : PySem.W.makesIn K C = true)
    (a : PySem.W.findIn K (.ref C) "__init__" = some (some (.ref f))) (i : PySem.W.isFn K (.ref f) = true) (kc : PySem.W.keepIn K (.ref C) = true) (l : K.lookup f = some ⟨oc, od, .func (PySem.W.fnOf "__init__" qual (defArgs st) (defBody st) (defScope st) .none kV dc pm an cd ct), sl⟩) (c : PySem.W.codeIn K cd qual = true) (k : PySem.W.keepIn K (.ref f) = true)
    (hb : ∀ (kV doc pm : Value) (an : Option Addr) (cdv ct : Value) (us : List Value), us.length = ps.length → bindArgs (PySem.W.fnOf "__init__" qual (defArgs st) (defBody st) (defScope st) .none kV doc pm an cdv ct) ⟨us, []⟩ = pure (ps.zip us)) : FnI K C qual st ps :=
  ⟨f, _, fun_mk l c k, ⟨mk, a, i, kc⟩, (fun_mk l c k).binds hb⟩
end Fd
namespace Fd
open PySem PySem.Spec PyProof.Rows L2
/-! ### What the top has left, and the end -/
theorem all_mk {l : PySem.W.OpenLaw} {w : World} {K : PySem.W.Frag} {h : Heap} {mg : Str → Option Value} {fa C : Addr} {tmP : Tok} {tmT : Tok} {f1 : Addr} {od1 an1 : Option Addr} {sl1 : Array (Option Value)} {oc1 kV1 dc1 pm1 cd1 ct1 : Value} {f2 : Addr} {od2 an2 : Option Addr} {sl2 : Array (Option Value)} {oc2 kV2 dc2 pm2 cd2 ct2 : Value} {f3 : Addr} {od3 an3 : Option Addr} {sl3 : Array (Option Value)} {oc3 kV3 dc3 pm3 cd3 ct3 : Value} {f4 : Addr} {od4 an4 : Option Addr} {sl4 : Array (Option Value)} {oc4 kV4 dc4 pm4 cd4 ct4 : Value} {f5 : Addr} {od5 an5 : Option Addr} {sl5 : Array (Option Value)} {oc5 kV5 dc5 pm5 cd5 ct5 : Value} {f6 : Addr} {od6 an6 : Option Addr} {sl6 : Array (Option Value)} {oc6 kV6 dc6 pm6 cd6 ct6 : Value} {f7 : Addr} {od7 an7 : Option Addr} {sl7 : Array (Option Value)} {oc7 kV7 dc7 pm7 cd7 ct7 : Value} {f8 : Addr} {od8 an8 : Option Addr} {sl8 : Array (Option Value)} {oc8 kV8 dc8 pm8 cd8 ct8 : Value} {f9 : Addr} {od9 an9 : Option Addr} {sl9 : Array (Option Value)} {oc9 kV9 dc9 pm9 cd9 ct9 : Value} {f10 : Addr} {od10 an10 : Option Addr} {sl10 : Array (Option Value)} {oc10 kV10 dc10 pm10 cd10 ct10 : Value} {f11 : Addr} {od11 an11 : Option Addr} {sl11 : Array (Option Value)} {oc11 kV11 dc11 pm11 cd11 ct11 : Value} {f12 : Addr} {od12 an12 : Option Addr} {sl12 : Array (Option Value)} {oc12 kV12 dc12 pm12 cd12 ct12 : Value} {f13 : Addr} {od13 an13 : Option Addr} {sl13 : Array (Option Value)} {oc13 kV13 dc13 pm13 cd13 ct13 : Value} {f14 : Addr} {od14 an14 : Option Addr} {sl14 : Array (Option Value)} {oc14 kV14 dc14 pm14 cd14 ct14 : Value} {f15 : Addr} {od15 an15 : Option Addr} {sl15 : Array (Option Value)} {oc15 kV15 dc15 pm15 cd15 ct15 : Value} {f16 : Addr} {od16 an16 : Option Addr} {sl16 : Array (Option Value)} {oc16 kV16 dc16 pm16 cd16 ct16 : Value} {f17 : Addr} {od17 an17 : Option Addr} {sl17 : Array (Option Value)} {oc17 kV17 dc17 pm17 cd17 ct17 : Value} {f18 : Addr} {od18 an18 : Option Addr} {sl18 : Array (Option Value)} {oc18 kV18 dc18 pm18 cd18 ct18 : Value} {f19 : Addr} {od19 an19 : Option Addr} {sl19 : Array (Option Value)} {oc19 kV19 dc19 pm19 cd19 ct19 : Value} {f20 : Addr} {od20 an20 : Option Addr} {sl20 : Array (Option Value)} {oc20 kV20 dc20 pm20 cd20 ct20 : Value} {f21 : Addr} {od21 an21 : Option Addr} {sl21 : Array (Option Value)} {oc21 kV21 dc21 pm21 cd21 ct21 : Value} {f22 : Addr} {od22 an22 : Option Addr} {sl22 : Array (Option Value)} {oc22 kV22 dc22 pm22 cd22 ct22 : Value} {f23 : Addr} {od23 an23 : Option Addr} {sl23 : Array (Option Value)} {oc23 kV23 dc23 pm23 cd23 ct23 : Value} {f24 : Addr} {od24 an24 : Option Addr} {sl24 : Array (Option Value)} {oc24 kV24 dc24 pm24 cd24 ct24 : Value} {fL : Addr} {odL anL : Option Addr} {slL : Array (Option Value)} {ocL kVL dcL pmL cdL ctL : Value}
    (X : K.In h) (G : h.Ns mainGlobals mg) (hfa : mg "law" = some (.ref fa))
    (aC : PySem.W.nsIn K mainGlobals "Web" = some (some (.ref C)))
    (pg : PySem.W.plainGet K C Str.empty = true)
    (hd : PySem.W.hasDictIn K C = true)
    (po : PySem.W.plainOver K C = true)
    (sa : PySem.W.findIn K (.ref C) "__setattr__" = some (some (.builtin "object.__setattr__")))
    (mk : PySem.W.makesIn K C = true)
    (kc : PySem.W.keepIn K (.ref C) = true)
    (nM : PySem.W.findIn K (.ref C) "many" = some none)
    (nR : PySem.W.findIn K (.ref C) "_rows" = some none)
    (mP : PySem.W.nsIn K mainGlobals "MOST_POINTS" = some (some (.int 16 tmP)))
    (mT : PySem.W.nsIn K mainGlobals "MOST_TIES" = some (some (.int 40 tmT)))
    (z_len : PySem.W.nsIn K mainGlobals "len" = some none)
    (z_type : PySem.W.nsIn K mainGlobals "type" = some none)
    (z_int : PySem.W.nsIn K mainGlobals "int" = some none)
    (z_list : PySem.W.nsIn K mainGlobals "list" = some none)
    (z_tuple : PySem.W.nsIn K mainGlobals "tuple" = some none)
    (z_range : PySem.W.nsIn K mainGlobals "range" = some none)
    (z_sorted : PySem.W.nsIn K mainGlobals "sorted" = some none)
    (z_bool : PySem.W.nsIn K mainGlobals "bool" = some none)
    (z_max : PySem.W.nsIn K mainGlobals "max" = some none)
    (z_min : PySem.W.nsIn K mainGlobals "min" = some none)
    (z_all : PySem.W.nsIn K mainGlobals "all" = some none)
    (z_set : PySem.W.nsIn K mainGlobals "set" = some none)
    (z_zip : PySem.W.nsIn K mainGlobals "zip" = some none)
    (z_isi : PySem.W.nsIn K mainGlobals "isinstance" = some none)
    (z_enum : PySem.W.nsIn K mainGlobals "enumerate" = some none)
    (z_rev : PySem.W.nsIn K mainGlobals "reversed" = some none)
    (a1 : PySem.W.nsIn K mainGlobals "is_number" = some (some (.ref f1)))
    (l1 : K.lookup f1 = some ⟨oc1, od1, .func (PySem.W.fnOf "is_number" "is_number" (defArgs sIsNumber) (defBody sIsNumber) (defScope sIsNumber) .none kV1 dc1 pm1 an1 cd1 ct1), sl1⟩)
    (c1 : PySem.W.codeIn K cd1 "is_number" = true)
    (k1 : PySem.W.keepIn K (.ref f1) = true)
    (a2 : PySem.W.nsIn K mainGlobals "is_point" = some (some (.ref f2)))
    (l2 : K.lookup f2 = some ⟨oc2, od2, .func (PySem.W.fnOf "is_point" "is_point" (defArgs sIsPoint) (defBody sIsPoint) (defScope sIsPoint) .none kV2 dc2 pm2 an2 cd2 ct2), sl2⟩)
    (c2 : PySem.W.codeIn K cd2 "is_point" = true)
    (k2 : PySem.W.keepIn K (.ref f2) = true)
    (a3 : PySem.W.nsIn K mainGlobals "_is_tie" = some (some (.ref f3)))
    (l3 : K.lookup f3 = some ⟨oc3, od3, .func (PySem.W.fnOf "_is_tie" "_is_tie" (defArgs sIsTie) (defBody sIsTie) (defScope sIsTie) .none kV3 dc3 pm3 an3 cd3 ct3), sl3⟩)
    (c3 : PySem.W.codeIn K cd3 "_is_tie" = true)
    (k3 : PySem.W.keepIn K (.ref f3) = true)
    (a4 : PySem.W.nsIn K mainGlobals "_joined" = some (some (.ref f4)))
    (l4 : K.lookup f4 = some ⟨oc4, od4, .func (PySem.W.fnOf "_joined" "_joined" (defArgs sJoined) (defBody sJoined) (defScope sJoined) .none kV4 dc4 pm4 an4 cd4 ct4), sl4⟩)
    (c4 : PySem.W.codeIn K cd4 "_joined" = true)
    (k4 : PySem.W.keepIn K (.ref f4) = true)
    (a5 : PySem.W.nsIn K mainGlobals "_is_turn" = some (some (.ref f5)))
    (l5 : K.lookup f5 = some ⟨oc5, od5, .func (PySem.W.fnOf "_is_turn" "_is_turn" (defArgs sIsTurn) (defBody sIsTurn) (defScope sIsTurn) .none kV5 dc5 pm5 an5 cd5 ct5), sl5⟩)
    (c5 : PySem.W.codeIn K cd5 "_is_turn" = true)
    (k5 : PySem.W.keepIn K (.ref f5) = true)
    (a6 : PySem.W.nsIn K mainGlobals "are_turns" = some (some (.ref f6)))
    (l6 : K.lookup f6 = some ⟨oc6, od6, .func (PySem.W.fnOf "are_turns" "are_turns" (defArgs sAreTurns) (defBody sAreTurns) (defScope sAreTurns) .none kV6 dc6 pm6 an6 cd6 ct6), sl6⟩)
    (c6 : PySem.W.codeIn K cd6 "are_turns" = true)
    (k6 : PySem.W.keepIn K (.ref f6) = true)
    (a7 : PySem.W.nsIn K mainGlobals "_check_turns" = some (some (.ref f7)))
    (l7 : K.lookup f7 = some ⟨oc7, od7, .func (PySem.W.fnOf "_check_turns" "_check_turns" (defArgs sCheckTurns) (defBody sCheckTurns) (defScope sCheckTurns) .none kV7 dc7 pm7 an7 cd7 ct7), sl7⟩)
    (c7 : PySem.W.codeIn K cd7 "_check_turns" = true)
    (k7 : PySem.W.keepIn K (.ref f7) = true)
    (a8 : PySem.W.nsIn K mainGlobals "walks" = some (some (.ref f8)))
    (l8 : K.lookup f8 = some ⟨oc8, od8, .func (PySem.W.fnOf "walks" "walks" (defArgs sWalks) (defBody sWalks) (defScope sWalks) .none kV8 dc8 pm8 an8 cd8 ct8), sl8⟩)
    (c8 : PySem.W.codeIn K cd8 "walks" = true)
    (k8 : PySem.W.keepIn K (.ref f8) = true)
    (a9 : PySem.W.nsIn K mainGlobals "_behind" = some (some (.ref f9)))
    (l9 : K.lookup f9 = some ⟨oc9, od9, .func (PySem.W.fnOf "_behind" "_behind" (defArgs sBehind) (defBody sBehind) (defScope sBehind) .none kV9 dc9 pm9 an9 cd9 ct9), sl9⟩)
    (c9 : PySem.W.codeIn K cd9 "_behind" = true)
    (k9 : PySem.W.keepIn K (.ref f9) = true)
    (a10 : PySem.W.nsIn K mainGlobals "_walk" = some (some (.ref f10)))
    (l10 : K.lookup f10 = some ⟨oc10, od10, .func (PySem.W.fnOf "_walk" "_walk" (defArgs sWalk) (defBody sWalk) (defScope sWalk) .none kV10 dc10 pm10 an10 cd10 ct10), sl10⟩)
    (c10 : PySem.W.codeIn K cd10 "_walk" = true)
    (k10 : PySem.W.keepIn K (.ref f10) = true)
    (a11 : PySem.W.nsIn K mainGlobals "_law_cell_at" = some (some (.ref f11)))
    (l11 : K.lookup f11 = some ⟨oc11, od11, .func (PySem.W.fnOf "_law_cell_at" "_law_cell_at" (defArgs sLawCellAt) (defBody sLawCellAt) (defScope sLawCellAt) .none kV11 dc11 pm11 an11 cd11 ct11), sl11⟩)
    (c11 : PySem.W.codeIn K cd11 "_law_cell_at" = true)
    (k11 : PySem.W.keepIn K (.ref f11) = true)
    (a12 : PySem.W.nsIn K mainGlobals "_law_whole" = some (some (.ref f12)))
    (l12 : K.lookup f12 = some ⟨oc12, od12, .func (PySem.W.fnOf "_law_whole" "_law_whole" (defArgs sLawWhole) (defBody sLawWhole) (defScope sLawWhole) .none kV12 dc12 pm12 an12 cd12 ct12), sl12⟩)
    (c12 : PySem.W.codeIn K cd12 "_law_whole" = true)
    (k12 : PySem.W.keepIn K (.ref f12) = true)
    (a13 : PySem.W.nsIn K mainGlobals "_law_many" = some (some (.ref f13)))
    (l13 : K.lookup f13 = some ⟨oc13, od13, .func (PySem.W.fnOf "_law_many" "_law_many" (defArgs sLawMany) (defBody sLawMany) (defScope sLawMany) .none kV13 dc13 pm13 an13 cd13 ct13), sl13⟩)
    (c13 : PySem.W.codeIn K cd13 "_law_many" = true)
    (k13 : PySem.W.keepIn K (.ref f13) = true)
    (a14 : PySem.W.nsIn K mainGlobals "_law_ties" = some (some (.ref f14)))
    (l14 : K.lookup f14 = some ⟨oc14, od14, .func (PySem.W.fnOf "_law_ties" "_law_ties" (defArgs sLawTies) (defBody sLawTies) (defScope sLawTies) .none kV14 dc14 pm14 an14 cd14 ct14), sl14⟩)
    (c14 : PySem.W.codeIn K cd14 "_law_ties" = true)
    (k14 : PySem.W.keepIn K (.ref f14) = true)
    (a15 : PySem.W.nsIn K mainGlobals "_law_order_by" = some (some (.ref f15)))
    (l15 : K.lookup f15 = some ⟨oc15, od15, .func (PySem.W.fnOf "_law_order_by" "_law_order_by" (defArgs sLawOrderBy) (defBody sLawOrderBy) (defScope sLawOrderBy) .none kV15 dc15 pm15 an15 cd15 ct15), sl15⟩)
    (c15 : PySem.W.codeIn K cd15 "_law_order_by" = true)
    (k15 : PySem.W.keepIn K (.ref f15) = true)
    (a16 : PySem.W.nsIn K mainGlobals "_law_turns_by" = some (some (.ref f16)))
    (l16 : K.lookup f16 = some ⟨oc16, od16, .func (PySem.W.fnOf "_law_turns_by" "_law_turns_by" (defArgs sLawTurnsBy) (defBody sLawTurnsBy) (defScope sLawTurnsBy) .none kV16 dc16 pm16 an16 cd16 ct16), sl16⟩)
    (c16 : PySem.W.codeIn K cd16 "_law_turns_by" = true)
    (k16 : PySem.W.keepIn K (.ref f16) = true)
    (a17 : PySem.W.nsIn K mainGlobals "_law_steps" = some (some (.ref f17)))
    (l17 : K.lookup f17 = some ⟨oc17, od17, .func (PySem.W.fnOf "_law_steps" "_law_steps" (defArgs sLawSteps) (defBody sLawSteps) (defScope sLawSteps) .none kV17 dc17 pm17 an17 cd17 ct17), sl17⟩)
    (c17 : PySem.W.codeIn K cd17 "_law_steps" = true)
    (k17 : PySem.W.keepIn K (.ref f17) = true)
    (a18 : PySem.W.nsIn K mainGlobals "_law_next" = some (some (.ref f18)))
    (l18 : K.lookup f18 = some ⟨oc18, od18, .func (PySem.W.fnOf "_law_next" "_law_next" (defArgs sLawNext) (defBody sLawNext) (defScope sLawNext) .none kV18 dc18 pm18 an18 cd18 ct18), sl18⟩)
    (c18 : PySem.W.codeIn K cd18 "_law_next" = true)
    (k18 : PySem.W.keepIn K (.ref f18) = true)
    (a19 : PySem.W.nsIn K mainGlobals "_law_right" = some (some (.ref f19)))
    (l19 : K.lookup f19 = some ⟨oc19, od19, .func (PySem.W.fnOf "_law_right" "_law_right" (defArgs sLawRight) (defBody sLawRight) (defScope sLawRight) .none kV19 dc19 pm19 an19 cd19 ct19), sl19⟩)
    (c19 : PySem.W.codeIn K cd19 "_law_right" = true)
    (k19 : PySem.W.keepIn K (.ref f19) = true)
    (a20 : PySem.W.nsIn K mainGlobals "_law_stays" = some (some (.ref f20)))
    (l20 : K.lookup f20 = some ⟨oc20, od20, .func (PySem.W.fnOf "_law_stays" "_law_stays" (defArgs sLawStays) (defBody sLawStays) (defScope sLawStays) .none kV20 dc20 pm20 an20 cd20 ct20), sl20⟩)
    (c20 : PySem.W.codeIn K cd20 "_law_stays" = true)
    (k20 : PySem.W.keepIn K (.ref f20) = true)
    (a21 : PySem.W.findIn K (.ref C) "__init__" = some (some (.ref f21)))
    (i21 : PySem.W.isFn K (.ref f21) = true)
    (l21 : K.lookup f21 = some ⟨oc21, od21, .func (PySem.W.fnOf "__init__" "Web.__init__" (defArgs sWebInit) (defBody sWebInit) (defScope sWebInit) .none kV21 dc21 pm21 an21 cd21 ct21), sl21⟩)
    (c21 : PySem.W.codeIn K cd21 "Web.__init__" = true)
    (k21 : PySem.W.keepIn K (.ref f21) = true)
    (a22 : PySem.W.findIn K (.ref C) "_check_point" = some (some (.ref f22)))
    (i22 : PySem.W.isFn K (.ref f22) = true)
    (l22 : K.lookup f22 = some ⟨oc22, od22, .func (PySem.W.fnOf "_check_point" "Web._check_point" (defArgs sWebCheckPoint) (defBody sWebCheckPoint) (defScope sWebCheckPoint) .none kV22 dc22 pm22 an22 cd22 ct22), sl22⟩)
    (c22 : PySem.W.codeIn K cd22 "Web._check_point" = true)
    (k22 : PySem.W.keepIn K (.ref f22) = true)
    (a23 : PySem.W.findIn K (.ref C) "beside" = some (some (.ref f23)))
    (i23 : PySem.W.isFn K (.ref f23) = true)
    (l23 : K.lookup f23 = some ⟨oc23, od23, .func (PySem.W.fnOf "beside" "Web.beside" (defArgs sWebBeside) (defBody sWebBeside) (defScope sWebBeside) .none kV23 dc23 pm23 an23 cd23 ct23), sl23⟩)
    (c23 : PySem.W.codeIn K cd23 "Web.beside" = true)
    (k23 : PySem.W.keepIn K (.ref f23) = true)
    (a24 : PySem.W.findIn K (.ref C) "ties" = some (some (.ref f24)))
    (i24 : PySem.W.isFn K (.ref f24) = true)
    (l24 : K.lookup f24 = some ⟨oc24, od24, .func (PySem.W.fnOf "ties" "Web.ties" (defArgs sWebTies) (defBody sWebTies) (defScope sWebTies) .none kV24 dc24 pm24 an24 cd24 ct24), sl24⟩)
    (c24 : PySem.W.codeIn K cd24 "Web.ties" = true)
    (k24 : PySem.W.keepIn K (.ref f24) = true)
    (aL : PySem.W.nsIn K mainGlobals "law" = some (some (.ref fL)))
    (lL : K.lookup fL = some ⟨ocL, odL, .func (PySem.W.fnOf "law" "law" (defArgs sLaw) (defBody sLaw) (defScope sLaw) .none kVL dcL pmL anL cdL ctL), slL⟩)
    (cL : PySem.W.codeIn K cdL "law" = true)
    (kL : PySem.W.keepIn K (.ref fL) = true)
    : ∃ fd : FuncData, (∀ (s : Shared) (v : Value), BindsTo s fd ⟨[v], []⟩ [("_law_script", v)]) ∧ ∀ base : Heap, K.In base → base.Ns mainGlobals mg → FnOk l.prog w K mg base L2.CX0 10 fa fd ["_law_script"] (spLaw K) := by
  have e := hfa.symm.trans (PySem.W.mg_of X G aL)
  cases e
  have T : WTxt K mg C := { cl := ⟨pg, hd, po, sa⟩, nMany := nM, nRows := nR, gWeb := PySem.W.mg_of X G aC, mostP := ⟨_, PySem.W.mg_of X G mP⟩, mostT := ⟨_, PySem.W.mg_of X G mT⟩, len := PySem.W.mg_none_of X G z_len, type := PySem.W.mg_none_of X G z_type, int := PySem.W.mg_none_of X G z_int, list := PySem.W.mg_none_of X G z_list, tuple := PySem.W.mg_none_of X G z_tuple, range := PySem.W.mg_none_of X G z_range, sorted := PySem.W.mg_none_of X G z_sorted, fNum := (fn_mk (ps := ["thing"]) X G a1 l1 c1 k1 fun _ _ _ _ _ _ us hl => match us, hl with | [_], _ => rfl), fPoint := (fn_mk (ps := ["many", "thing"]) X G a2 l2 c2 k2 fun _ _ _ _ _ _ us hl => match us, hl with | [_, _], _ => rfl), fTie := (fn_mk (ps := ["many", "thing"]) X G a3 l3 c3 k3 fun _ _ _ _ _ _ us hl => match us, hl with | [_, _], _ => rfl), fJoined := (fn_mk (ps := ["many", "ties"]) X G a4 l4 c4 k4 fun _ _ _ _ _ _ us hl => match us, hl with | [_, _], _ => rfl), fInit := (fnI_mk (ps := ["self", "many", "ties"]) mk a21 i21 kc l21 c21 k21 fun _ _ _ _ _ _ us hl => match us, hl with | [_, _, _], _ => rfl) }
  have U : TTxt K mg C := { all := PySem.W.mg_none_of X G z_all, enum := PySem.W.mg_none_of X G z_enum, fIsTurn := (fn_mk (ps := ["near", "turn"]) X G a5 l5 c5 k5 fun _ _ _ _ _ _ us hl => match us, hl with | [_, _], _ => rfl), fAre := (fn_mk (ps := ["web", "turns"]) X G a6 l6 c6 k6 fun _ _ _ _ _ _ us hl => match us, hl with | [_, _], _ => rfl), fC := (fnM_mk (ps := ["self", "thing"]) a22 i22 l22 c22 k22 fun _ _ _ _ _ _ us hl => match us, hl with | [_, _], _ => rfl), fB := (fnM_mk (ps := ["self", "point"]) a23 i23 l23 c23 k23 fun _ _ _ _ _ _ us hl => match us, hl with | [_, _], _ => rfl) }
  have L : LTxt K mg := { isi := PySem.W.mg_none_of X G z_isi, bool := PySem.W.mg_none_of X G z_bool, max := PySem.W.mg_none_of X G z_max, min := PySem.W.mg_none_of X G z_min, fCell := (fn_mk (ps := ["_law_script", "_law_k"]) X G a11 l11 c11 k11 fun _ _ _ _ _ _ us hl => match us, hl with | [_, _], _ => rfl), fWhole := (fn_mk (ps := ["_law_seen"]) X G a12 l12 c12 k12 fun _ _ _ _ _ _ us hl => match us, hl with | [_], _ => rfl), fMany := (fn_mk (ps := ["_law_script"]) X G a13 l13 c13 k13 fun _ _ _ _ _ _ us hl => match us, hl with | [_], _ => rfl) }
  have KT : KTxt K mg := { set := PySem.W.mg_none_of X G z_set, zip := PySem.W.mg_none_of X G z_zip, fBehind := (fn_mk (ps := ["turns", "step"]) X G a9 l9 c9 k9 fun _ _ _ _ _ _ us hl => match us, hl with | [_, _], _ => rfl), fWalk := (fn_mk (ps := ["turns", "first"]) X G a10 l10 c10 k10 fun _ _ _ _ _ _ us hl => match us, hl with | [_, _], _ => rfl), fCheckT := (fn_mk (ps := ["web", "turns"]) X G a7 l7 c7 k7 fun _ _ _ _ _ _ us hl => match us, hl with | [_, _], _ => rfl), fWalks := (fn_mk (ps := ["web", "turns"]) X G a8 l8 c8 k8 fun _ _ _ _ _ _ us hl => match us, hl with | [_, _], _ => rfl) }
  have L6 : L6Txt K mg := { fSteps := (fn_mk (ps := ["_law_walk"]) X G a17 l17 c17 k17 fun _ _ _ _ _ _ us hl => match us, hl with | [_], _ => rfl), fNext := (fn_mk (ps := ["_law_turns", "_law_step"]) X G a18 l18 c18 k18 fun _ _ _ _ _ _ us hl => match us, hl with | [_, _], _ => rfl) }
  have N : N6Txt K mg := { rev := PySem.W.mg_none_of X G z_rev, fTies := (fn_mk (ps := ["_law_script", "_law_many_here"]) X G a14 l14 c14 k14 fun _ _ _ _ _ _ us hl => match us, hl with | [_, _], _ => rfl), fOrder := (fn_mk (ps := ["_law_cell", "_law_row"]) X G a15 l15 c15 k15 fun _ _ _ _ _ _ us hl => match us, hl with | [_, _], _ => rfl), fTurnsBy := (fn_mk (ps := ["_law_script", "_law_many_here", "_law_ties_here"]) X G a16 l16 c16 k16 fun _ _ _ _ _ _ us hl => match us, hl with | [_, _, _], _ => rfl), fRight := (fn_mk (ps := ["_law_seen", "_law_turns", "_law_ties_here"]) X G a19 l19 c19 k19 fun _ _ _ _ _ _ us hl => match us, hl with | [_, _, _], _ => rfl), fStays := (fn_mk (ps := ["_law_web", "_law_ties_here", "_law_many_here"]) X G a20 l20 c20 k20 fun _ _ _ _ _ _ us hl => match us, hl with | [_, _, _], _ => rfl) }
  have FT : FnM K C "ties" "Web.ties" sWebTies ["self"] := (fnM_mk (ps := ["self"]) a24 i24 l24 c24 k24 fun _ _ _ _ _ _ us hl => match us, hl with | [_], _ => rfl)
  exact ⟨_, fun s v => .of_eq rfl, fun base _ _ => ok_law (fun_mk (st := sLaw) lL cL kL) T U L KT L6 FT N⟩
theorem walk_law {l : PySem.W.OpenLaw} {q : Program} {loose : List Str} {XP : (Str → Option Value) → Heap → Prop} {YP : World → Heap → Prop} {d : DefRec} {K : Params → PySem.W.Frag} (hn : l.most = some 63) (hdf : d.params.defaults = [])
    (hY : ∀ (w : World) (h : Heap), YP w h → (K w.params).In h)
    (F : ∀ (w : World) (mg : Str → Option Value) (fa : Addr) (h : Heap), (K w.params).In h → h.Ns mainGlobals mg → mg d.name = some (.ref fa) →
      ∃ fd : FuncData, (∀ (s : Shared) (u : Value), BindsTo s fd ⟨[u], []⟩ [("_law_script", u)]) ∧ ∀ base : Heap, (K w.params).In base → base.Ns mainGlobals mg → FnOk l.prog w (K w.params) mg base L2.CX0 10 fa fd ["_law_script"] (spLaw (K w.params))) :
    PySem.W.WalkO q loose XP YP l.row.toRowW d [] (fun f vs => PySem.call f vs) :=
  L2.walk_of (n := 63) (k := 10) (x := "_law_script") (CX := fun _ => L2.CX0) (sp := fun w => spLaw (K w.params)) hn (by decide) hdf ⟨rfl, by decide, by decide⟩ hY F (fun _ _ a ns hl _ hS => ⟨a, ns, rfl, hS, fun _ => rfl⟩) fun _ _ _ _ _ z => z
end Fd
open PySem PySem.W PyProof.Rows
set_option maxRecDepth 100000 in
set_option maxHeartbeats 0 in
theorem PySem.Challenge.cw_flatdraw_k06_walks_holds : PySem.Challenge.rw_flatdraw_k06_walks.Holds := by
  w_on; o_law; k_head; (case hw => w_witness2)
  k_fill
  refine Fd.walk_law (l := PySem.Challenge.rw_flatdraw_k06_walks) rfl rfl (fun w h Y => PySem.W.kIn_of Y) ?F
  case F =>
    intro w mg fa h KX G hmg
    refine' Fd.all_mk KX G hmg ?aC ?pg ?hd ?po ?sa ?mk ?kc ?nM ?nR ?mP ?mT ?z_len ?z_type ?z_int ?z_list ?z_tuple ?z_range ?z_sorted ?z_bool ?z_max ?z_min ?z_all ?z_set ?z_zip ?z_isi ?z_enum ?z_rev ?a1 ?l1 ?c1 ?k1 ?a2 ?l2 ?c2 ?k2 ?a3 ?l3 ?c3 ?k3 ?a4 ?l4 ?c4 ?k4 ?a5 ?l5 ?c5 ?k5 ?a6 ?l6 ?c6 ?k6 ?a7 ?l7 ?c7 ?k7 ?a8 ?l8 ?c8 ?k8 ?a9 ?l9 ?c9 ?k9 ?a10 ?l10 ?c10 ?k10 ?a11 ?l11 ?c11 ?k11 ?a12 ?l12 ?c12 ?k12 ?a13 ?l13 ?c13 ?k13 ?a14 ?l14 ?c14 ?k14 ?a15 ?l15 ?c15 ?k15 ?a16 ?l16 ?c16 ?k16 ?a17 ?l17 ?c17 ?k17 ?a18 ?l18 ?c18 ?k18 ?a19 ?l19 ?c19 ?k19 ?a20 ?l20 ?c20 ?k20 ?a21 ?i21 ?l21 ?c21 ?k21 ?a22 ?i22 ?l22 ?c22 ?k22 ?a23 ?i23 ?l23 ?c23 ?k23 ?a24 ?i24 ?l24 ?c24 ?k24 ?aL ?lL ?cL ?kL
    (case aC => k_is)
    (case pg => k_is)
    (case hd => k_is)
    (case po => k_is)
    (case sa => k_is)
    (case mk => k_is)
    (case kc => k_is)
    (case nM => k_is)
    (case nR => k_is)
    (case mP => k_is)
    (case mT => k_is)
    (case z_len => k_is)
    (case z_type => k_is)
    (case z_int => k_is)
    (case z_list => k_is)
    (case z_tuple => k_is)
    (case z_range => k_is)
    (case z_sorted => k_is)
    (case z_bool => k_is)
    (case z_max => k_is)
    (case z_min => k_is)
    (case z_all => k_is)
    (case z_set => k_is)
    (case z_zip => k_is)
    (case z_isi => k_is)
    (case z_enum => k_is)
    (case z_rev => k_is)
    (case a1 => k_is)
    (case l1 => k_is)
    (case c1 => k_is)
    (case k1 => k_is)
    (case a2 => k_is)
    (case l2 => k_is)
    (case c2 => k_is)
    (case k2 => k_is)
    (case a3 => k_is)
    (case l3 => k_is)
    (case c3 => k_is)
    (case k3 => k_is)
    (case a4 => k_is)
    (case l4 => k_is)
    (case c4 => k_is)
    (case k4 => k_is)
    (case a5 => k_is)
    (case l5 => k_is)
    (case c5 => k_is)
    (case k5 => k_is)
    (case a6 => k_is)
    (case l6 => k_is)
    (case c6 => k_is)
    (case k6 => k_is)
    (case a7 => k_is)
    (case l7 => k_is)
    (case c7 => k_is)
    (case k7 => k_is)
    (case a8 => k_is)
    (case l8 => k_is)
    (case c8 => k_is)
    (case k8 => k_is)
    (case a9 => k_is)
    (case l9 => k_is)
    (case c9 => k_is)
    (case k9 => k_is)
    (case a10 => k_is)
    (case l10 => k_is)
    (case c10 => k_is)
    (case k10 => k_is)
    (case a11 => k_is)
    (case l11 => k_is)
    (case c11 => k_is)
    (case k11 => k_is)
    (case a12 => k_is)
    (case l12 => k_is)
    (case c12 => k_is)
    (case k12 => k_is)
    (case a13 => k_is)
    (case l13 => k_is)
    (case c13 => k_is)
    (case k13 => k_is)
    (case a14 => k_is)
    (case l14 => k_is)
    (case c14 => k_is)
    (case k14 => k_is)
    (case a15 => k_is)
    (case l15 => k_is)
    (case c15 => k_is)
    (case k15 => k_is)
    (case a16 => k_is)
    (case l16 => k_is)
    (case c16 => k_is)
    (case k16 => k_is)
    (case a17 => k_is)
    (case l17 => k_is)
    (case c17 => k_is)
    (case k17 => k_is)
    (case a18 => k_is)
    (case l18 => k_is)
    (case c18 => k_is)
    (case k18 => k_is)
    (case a19 => k_is)
    (case l19 => k_is)
    (case c19 => k_is)
    (case k19 => k_is)
    (case a20 => k_is)
    (case l20 => k_is)
    (case c20 => k_is)
    (case k20 => k_is)
    (case a21 => k_is)
    (case i21 => k_is)
    (case l21 => k_is)
    (case c21 => k_is)
    (case k21 => k_is)
    (case a22 => k_is)
    (case i22 => k_is)
    (case l22 => k_is)
    (case c22 => k_is)
    (case k22 => k_is)
    (case a23 => k_is)
    (case i23 => k_is)
    (case l23 => k_is)
    (case c23 => k_is)
    (case k23 => k_is)
    (case a24 => k_is)
    (case i24 => k_is)
    (case l24 => k_is)
    (case c24 => k_is)
    (case k24 => k_is)
    (case aL => k_is)
    (case lL => k_is)
    (case cL => k_is)
    (case kL => k_is)
