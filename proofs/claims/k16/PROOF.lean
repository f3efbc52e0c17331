import PyProof.Rows.All
import Wide.All
import OpenK.AllK
import Wide.FinOn
import Lean
import PyProof.EqAt
import PyProof.EqKinds
import PyProof.TupleCall
import PyProof.SetKind
import PyProof.DictKinds
import PyProof.CompFree
import PyProof.FactsAll.set_1
import PyProof.Seq
import PyProof.Walks
import PyProof.CollectWalk
import PyProof.WalkLemmas
import PyProof.Rows.TmSorted
import PyProof.Rows.StrMeet
import PyProof.Rows.SortStr
import PyProof.Rows.SetFrom
import KE.KDictList
import PyProof.NeKinds
import PyProof.Rows.TupDisplay
import PyProof.StrOps2
import PyProof.StrBlockH
import PyProof.StrCalls2
import PyProof.StrLawsTight
import PyProof.StrLawsFirst
import PyProof.StationsW
import PyProof.ExcClass3
import PyProof.ExcInit
import PyProof.ExcBaseAll.ValueError
import OpenK.KOwn
import PyProof.FString
import PyProof.FitsInt
import PyProof.RulesDel
import PyProof.RulesAs
import PyProof.ExcAttrAll.ValueError
import KE.KIsAll
import KE.KEqDict
import PyProof.WalksEnum
import PyProof.EnumMake
import KE.KRevIter
import PyProof.Rows.StrNews2
import KE.KSortTup
import KE.KRevSl
import PySem.Challenge.RW_unfoldnet_k16_texts_refused
/-! UfLay -/
section
set_option Elab.async false
set_option linter.all false
set_option maxRecDepth 100000
namespace L2
open PySem PySem.Spec PyProof.Rows
abbrev Key := Sum Int Str
def keyIs : Key → Value → Bool
  | .inl k, v => Value.isInt k v
  | .inr x, v => Value.isStrOf x v
def keyH (w : World) : Key → Int
  | .inl k => hashInt k
  | .inr x => hashStr w x
theorem keyIs_shape : ∀ {k : Key} {v : Value}, keyIs k v = true → (∃ i t, k = Sum.inl i ∧ v = Value.int i t) ∨ (∃ x t, k = Sum.inr x ∧ v = Value.str x t)
  | .inl i, v, h => by
    obtain ⟨t, e⟩ := Value.isInt_shape (k := i) (v := v) h
    exact .inl ⟨i, t, rfl, e⟩
  | .inr x, v, h => by
    obtain ⟨t, e⟩ := Value.isStrOf_shape (x := x) (v := v) h
    exact .inr ⟨x, t, rfl, e⟩
theorem keyIs_int (i : Int) (t : Tok) : keyIs (.inl i) (.int i t) = true := by simp [keyIs, Value.isInt]
theorem keyIs_str (x : Str) (t : Tok) : keyIs (.inr x) (.str x t) = true := by simp [keyIs, Value.isStrOf]
theorem key_ll (a b : Int) : decide ((Sum.inl a : Key) = Sum.inl b) = (a == b) := by
  by_cases e : a = b
  · subst e; simp
  · have h : ¬ (Sum.inl a : Key) = Sum.inl b := fun q => e (Sum.inl.inj q)
    rw [decide_eq_false h]
    exact (beq_eq_false_iff_ne.mpr e).symm
theorem key_rr (a b : Str) : decide ((Sum.inr a : Key) = Sum.inr b) = decide (a = b) := by
  by_cases e : a = b
  · subst e; simp
  · have h : ¬ (Sum.inr a : Key) = Sum.inr b := fun q => e (Sum.inr.inj q)
    rw [decide_eq_false h, decide_eq_false e]
theorem key_lr (a : Int) (b : Str) : decide ((Sum.inl a : Key) = Sum.inr b) = false := decide_eq_false (fun q => nomatch q)
theorem key_rl (a : Str) (b : Int) : decide ((Sum.inr a : Key) = Sum.inl b) = false := decide_eq_false (fun q => nomatch q)
def mixKind (prog : Program) (w : World) : PySem.KeyKind prog w Key where
  is := keyIs
  hash := keyH w
  inj := fun v a b ha hb => by
    rcases keyIs_shape ha with ⟨i, t, rfl, rfl⟩ | ⟨x, t, rfl, rfl⟩
    · rcases keyIs_shape hb with ⟨j, u, rfl, e⟩ | ⟨y, u, rfl, e⟩
      · injection e with e1 _; rw [e1]
      · exact nomatch e
    · rcases keyIs_shape hb with ⟨j, u, rfl, e⟩ | ⟨y, u, rfl, e⟩
      · exact nomatch e
      · injection e with e1 _; rw [e1]
  byValue := fun k v h => by
    rcases keyIs_shape h with ⟨i, t, rfl, rfl⟩ | ⟨x, t, rfl, rfl⟩ <;> rfl
  pyHash := fun hv h => by
    rcases keyIs_shape hv with ⟨i, t, rfl, rfl⟩ | ⟨x, t, rfl, rfl⟩
    · exact wpAny_pyHash_int h
    · exact wpAny_pyHash_str h
  eqBool := fun hu hv h => by
    rcases keyIs_shape hu with ⟨i, t, rfl, rfl⟩ | ⟨x, t, rfl, rfl⟩
    · rcases keyIs_shape hv with ⟨j, u, rfl, rfl⟩ | ⟨y, u, rfl, rfl⟩
      · rw [key_ll] at h; exact wpAny_eqBool_int h
      · rw [key_lr] at h; exact SeqAt.EqAt.int_str i t y u _ _ _ _ h
    · rcases keyIs_shape hv with ⟨j, u, rfl, rfl⟩ | ⟨y, u, rfl, rfl⟩
      · rw [key_rl] at h; exact SeqAt.EqAt.str_int x t j u _ _ _ _ h
      · rw [key_rr] at h; exact wpAny_eqBool_str h
  «strs» := fun k x t v h => by
    rcases keyIs_shape h with ⟨i, u, rfl, e⟩ | ⟨y, u, rfl, e⟩
    · exact nomatch e
    · injection e with e1 _
      subst e1
      cases v <;> rfl
theorem mixKind_is (prog : Program) (w : World) (k : Key) (v : Value) : (mixKind prog w).is k v = keyIs k v := rfl
theorem mixKind_int (prog : Program) (w : World) (i : Int) (t : Tok) : (mixKind prog w).is (.inl i) (.int i t) = true := keyIs_int i t
theorem mixKind_str (prog : Program) (w : World) (x : Str) (t : Tok) : (mixKind prog w).is (.inr x) (.str x t) = true := keyIs_str x t
end L2
namespace L2
open PySem PySem.Spec PyProof.Rows
inductive V where
  | non | bl (b : Bool) | int (i : Int) | str (x : Str) | byt (b : Array UInt8) | flt (b : UInt64) | ref (a : Addr) | ty (n : String)
  deriving DecidableEq
def RelV : V → Value → Prop
  | .non, u => u = Value.none
  | .bl b, u => u = Value.bool b
  | .int i, u => ∃ t, u = Value.int i t
  | .str x, u => ∃ t, u = Value.str x t
  | .byt b, u => ∃ t, u = Value.bytes b t
  | .flt b, u => ∃ t, u = Value.float b t
  | .ref a, u => u = Value.ref a
  | .ty n, u => u = Value.type n
abbrev Vals : List V → List Value → Prop := Paired RelV
theorem Vals.length {xs : List V} {us : List Value} (r : Vals xs us) : xs.length = us.length := Paired.length r
theorem Vals.get : ∀ {xs : List V} {us : List Value} {i : Nat} {x : V}, Vals xs us → xs[i]? = some x → ∃ u, us[i]? = some u ∧ RelV x u
  | _, _, _, _, .nil, e => by simp at e
  | _, _, 0, _, .cons r _, e => by simp at e; subst e; exact ⟨_, rfl, r⟩
  | _, _, i + 1, x, .cons _ t, e => by
    obtain ⟨u, h1, h2⟩ := Vals.get (i := i) (x := x) t (by simpa using e)
    exact ⟨u, by simpa using h1, h2⟩
theorem Vals.append : ∀ {xs ys : List V} {us ws : List Value}, Vals xs us → Vals ys ws → Vals (xs ++ ys) (us ++ ws)
  | _, _, _, _, .nil, s => s
  | _, _, _, _, .cons r t, s => .cons r (Vals.append t s)
theorem Vals.take : ∀ {xs : List V} {us : List Value} (n : Nat), Vals xs us → Vals (xs.take n) (us.take n)
  | _, _, 0, _ => .nil
  | _, _, _ + 1, .nil => .nil
  | _, _, n + 1, .cons r t => .cons r (Vals.take n t)
theorem Vals.drop : ∀ {xs : List V} {us : List Value} (n : Nat), Vals xs us → Vals (xs.drop n) (us.drop n)
  | _, _, 0, r => r
  | _, _, _ + 1, .nil => .nil
  | _, _, n + 1, .cons _ t => Vals.drop n t
def RelO : Option V → Option Value → Prop
  | some v, some u => RelV v u
  | none, none => True
  | _, _ => False
def KV {κ : Type} : List (κ × V) → List (κ × Value) → Prop := Paired fun (p : κ × V) (q : κ × Value) => p.1 = q.1 ∧ RelV p.2 q.2
def kV : Key → V
  | .inl i => .int i
  | .inr x => .str x
inductive HO where
  | lst (xs : List V)
  | tup (xs : List V)
  | dK (kvs : List (Key × V)) | dT (kvs : List (List Key × V))
  | set (S : Int → Bool) (n : Nat)
  | ins (C dx : Addr) (fs : List (Str × V))
  | own (x : Addr)
  | xd (fs : List (Str × V))
  | met (f x : Addr)
  | rng (lo hi : Int)
  | frz (o : Obj) (u : HO)
  | tbl (ps : Array Value)
  | ext (φ : Heap → Prop)
abbrev Hp := Addr → Option HO
def upd (H : Hp) (a : Addr) (o : HO) : Hp := fun b => if b = a then some o else H b
theorem upd_same {H : Hp} {a : Addr} {o : HO} : upd H a o a = some o := by unfold upd; rw [if_pos rfl]
theorem upd_ne {H : Hp} {a b : Addr} {o : HO} (h : b ≠ a) : upd H a o b = H b := by unfold upd; rw [if_neg h]
theorem ne_of {H : Hp} {a b : Addr} {o u : HO} (h : H a = some o) (h' : H b = some u) (d : o ≠ u) : a ≠ b := by
  intro e; subst e; rw [h] at h'; exact d (Option.some.inj h')
theorem ne_of_none {H : Hp} {a b : Addr} {o : HO} (h : H a = some o) (h' : H b = none) : a ≠ b := by
  intro e; subst e; rw [h] at h'; cases h'
section
variable (P : Program) (w : World)
def ObjOk (H : Hp) (h : Heap) (a : Addr) : HO → Prop
  | .lst xs => xs.length ≤ sizeLine ∧ ∃ (its : List Value) (n : Nat), Vals xs its ∧ h.get? a = some { cls := .type "list", data := .seq its.toArray n }
  | .tup xs => xs.length ≤ sizeLine ∧ ∃ its : List Value, Vals xs its ∧ IsTup h a its.toArray
  | .dK kvs => kvs.length ≤ sizeLine ∧ (a == sysModules) = false ∧ ∃ vs, KV kvs vs ∧ h.DictOf (mixKind P w) a vs
  | .dT kvs => kvs.length ≤ sizeLine ∧ (a == sysModules) = false ∧ ∃ xs : List (List Key × Addr × Value),
      Paired (fun (p : List Key × V) (q : List Key × Addr × Value) => p.1 = q.1 ∧ H q.2.1 = some (.tup (p.1.map kV)) ∧ RelV p.2 q.2.2) kvs xs ∧
      ∃ o es ep, h.get? a = some o ∧ o.ExactDict ∧ o.data = .dict es ep ∧ es.toList = xs.map (entryOfKey (tupleKind (mixKind P w))) ∧ (xs.map (·.1)).Nodup
  | .set S n => h.SetOf (intKind P w) a S n
  | .ins C dx fs => H dx = some (.own a) ∧ fs.length ≤ 1000 ∧ dx ≠ a ∧ h.get? a = some (PySem.W.instObj C dx) ∧
      ∃ mA, h.Ns1 dx mA ∧ (∀ f, RelO (fs.lookup f) (mA f)) ∧ PySem.Within mA (fs.map (·.1))
  | .own _ => ∃ o, h.get? a = some o
  | .xd fs => ∃ mA, h.Ns1 a mA ∧ ∀ f, RelO (fs.lookup f) (mA f)
  | .rng lo hi => ∃ t u v, h.get? a = some { cls := .type "range", data := .fields #[.int lo t, .int hi u, .int 1 v] }
  | .frz o u => h.get? a = some o ∧ ObjOk H h a u
  | .tbl ps => h.get? a = some { cls := .none, data := .fields ps }
  | .met f x => h.get? a = some (PySem.W.methodObj (.ref f) (.ref x))
  | .ext φ => φ h ∧ (∃ o, h.get? a = some o) ∧ ∀ h1 h2 : Heap, φ h1 → (∀ o, h1.get? a = some o → h2.get? a = some o) → φ h2
def HOk (H : Hp) (h : Heap) : Prop := ∀ a o, H a = some o → ObjOk P w H h a o
end
section
variable {P : Program} {w : World} {H H' : Hp} {h h' : Heap} {a : Addr} {o : HO}
theorem ObjOk.lt (x : ObjOk P w H h a o) : a < h.objs.size := by
  cases o with
  | lst xs => obtain ⟨_, _, _, _, e⟩ := x; exact Heap.lt_size e
  | tup xs => obtain ⟨_, _, _, p⟩ := x; exact p.lt
  | dK kvs => obtain ⟨_, _, _, _, o, _, _, e, _⟩ := x; exact Heap.lt_size e
  | dT kvs => obtain ⟨_, _, _, _, o, _, _, e, _⟩ := x; exact Heap.lt_size e
  | set S n => obtain ⟨o, _, _, _, e, _⟩ := x; exact Heap.lt_size e
  | ins C dx fs => obtain ⟨_, _, _, e, _⟩ := x; exact Heap.lt_size e
  | own y => obtain ⟨_, e⟩ := x; exact Heap.lt_size e
  | xd fs => obtain ⟨_, ⟨_, _, _, e, _⟩, _⟩ := x; exact Heap.lt_size e
  | rng lo hi => obtain ⟨_, _, _, e⟩ := x; exact Heap.lt_size e
  | frz ob u => obtain ⟨e, _⟩ := x; exact Heap.lt_size e
  | tbl ps => exact Heap.lt_size (show h.get? a = some _ from x)
  | met f y => exact Heap.lt_size (show h.get? a = some _ from x)
  | ext φ => obtain ⟨_, ⟨_, e⟩, _⟩ := x; exact Heap.lt_size e
theorem Paired.mapP {α β : Type} {F G : α → β → Prop} : ∀ {l₁ : List α} {l₂ : List β}, Paired F l₁ l₂ → (∀ a b, F a b → G a b) → Paired G l₁ l₂
  | _, _, .nil, _ => .nil
  | _, _, .cons r t, f => .cons (f _ _ r) (Paired.mapP t f)
theorem ObjOk.stay (x : ObjOk P w H h a o) (k : ∀ b u, (b = a ∨ H b = some (.own a)) → h.get? b = some u → h'.get? b = some u)
    (ho : ∀ b, H b = some (.own a) → H' b = some (.own a)) (ht : ∀ b xs, H b = some (.tup xs) → H' b = some (.tup xs)) : ObjOk P w H' h' a o := by
  induction o with
  | lst xs => obtain ⟨z, its, n, r, e⟩ := x; exact ⟨z, its, n, r, k _ _ (.inl rfl) e⟩
  | tup xs => obtain ⟨z, its, r, ob, e, c⟩ := x; exact ⟨z, its, r, ob, k _ _ (.inl rfl) e, c⟩
  | dK kvs => obtain ⟨z, y, vs, r, ob, es, ep, e, c⟩ := x; exact ⟨z, y, vs, r, ob, es, ep, k _ _ (.inl rfl) e, c⟩
  | dT kvs =>
    obtain ⟨z, y, xs, r, ob, es, ep, e, c⟩ := x
    exact ⟨z, y, xs, Paired.mapP r fun p q z => ⟨z.1, ht _ _ z.2.1, z.2.2⟩, ob, es, ep, k _ _ (.inl rfl) e, c⟩
  | set S n => obtain ⟨ob, es, ep, t, e, c⟩ := x; exact ⟨ob, es, ep, t, k _ _ (.inl rfl) e, c⟩
  | ins C dx fs =>
    obtain ⟨d, z, ne, e, mA, ⟨od, es, ep, e2, c⟩, r⟩ := x
    exact ⟨ho _ d, z, ne, k _ _ (.inl rfl) e, mA, ⟨od, es, ep, k _ _ (.inr d) e2, c⟩, r⟩
  | own y => obtain ⟨ob, e⟩ := x; exact ⟨ob, k _ _ (.inl rfl) e⟩
  | xd fs => obtain ⟨mA, ⟨od, es, ep, e, c⟩, r⟩ := x; exact ⟨mA, ⟨od, es, ep, k _ _ (.inl rfl) e, c⟩, r⟩
  | rng lo hi => obtain ⟨t, u, v, e⟩ := x; exact ⟨t, u, v, k _ _ (.inl rfl) e⟩
  | frz ob u ih => obtain ⟨e, q⟩ := x; exact ⟨k _ _ (.inl rfl) e, ih q⟩
  | tbl ps =>
    have e : h.get? a = some { cls := .none, data := .fields ps } := x
    show h'.get? a = some { cls := .none, data := .fields ps }
    exact k a _ (.inl rfl) e
  | met f y =>
    have e : h.get? a = some (PySem.W.methodObj (.ref f) (.ref y)) := x
    show h'.get? a = some (PySem.W.methodObj (.ref f) (.ref y))
    exact k a _ (.inl rfl) e
  | ext φ => obtain ⟨p, ⟨o, e⟩, st⟩ := x; exact ⟨st _ _ p fun o q => k _ _ (.inl rfl) q, ⟨o, k _ _ (.inl rfl) e⟩, st⟩
theorem HOk.lt (x : HOk P w H h) (e : H a = some o) : a < h.objs.size := (x a o e).lt
theorem HOk.fresh (x : HOk P w H h) (e : h.objs.size ≤ a) : H a = none := by
  cases q : H a with
  | none => rfl
  | some u => exact absurd (Nat.lt_of_lt_of_le (x.lt q) e) (Nat.lt_irrefl _)
theorem HOk.kept (x : HOk P w H h) (k : ∀ b u, h.get? b = some u → h'.get? b = some u) : HOk P w H h' := fun a o e =>
  (x a o e).stay (fun b u _ q => k b u q) (fun _ q => q) fun _ _ q => q
theorem HOk.laid (x : HOk P w H h) (k : ∀ b u, h.get? b = some u → h'.get? b = some u) (hp : h.objs.size ≤ a) (new : ObjOk P w (upd H a o) h' a o) : HOk P w (upd H a o) h' := fun b u e => by
  have hn := x.fresh hp
  by_cases hb : b = a
  · subst hb; rw [upd_same] at e; cases e; exact new
  · rw [upd_ne hb] at e
    exact (x b u e).stay (fun c v _ q => k c v q) (fun c q => by rw [upd_ne (ne_of_none q hn)]; exact q) fun c xs q => by rw [upd_ne (ne_of_none q hn)]; exact q
end
def Rd (H : Hp) (a : Addr) (u : HO) : Prop := H a = some u ∨ ∃ o, H a = some (.frz o u)
theorem Rd.ok {P : Program} {w : World} {H : Hp} {h : Heap} {a : Addr} {u : HO} (r : Rd H a u) (x : HOk P w H h) : ObjOk P w H h a u := by
  rcases r with r | ⟨o, r⟩
  · exact x a u r
  · obtain ⟨_, q⟩ := x a _ r
    exact q
def Mut : Option HO → Prop
  | some (.lst _) => True
  | some (.dK _) => True
  | some (.dT _) => True
  | some (.set _ _) => True
  | some (.ins _ _ _) => True
  | some (.ext _) => True
  | _ => False
section
variable {P : Program} {w : World} {H : Hp} {h h' : Heap} {x e : Addr} {o' : HO}
theorem HOk.write (ok : HOk P w H h) (mu : Mut (H x)) (he : e = x ∨ H e = some (.own x)) (k : ∀ b u, b ≠ e → h.get? b = some u → h'.get? b = some u) (heo : ∃ u, h'.get? e = some u)
    (new : ObjOk P w (upd H x o') h' x o') : HOk P w (upd H x o') h' := fun b u q => by
  have nown : ∀ c y, H c = some (.own y) → c ≠ x := fun c y r z => by subst z; rw [r] at mu; exact mu
  have ntup : ∀ c xs, H c = some (.tup xs) → c ≠ x := fun c xs r z => by subst z; rw [r] at mu; exact mu
  by_cases hb : b = x
  · subst hb; rw [upd_same] at q; cases q; exact new
  · rw [upd_ne hb] at q
    by_cases hbe : b = e
    · have q' : H b = some (.own x) := by
        rcases he with z | z
        · exact absurd (hbe.trans z) hb
        · rw [hbe]; exact z
      rw [q] at q'; cases q'
      obtain ⟨v, hv⟩ := heo
      exact ⟨v, by rw [hbe]; exact hv⟩
    · refine (ok b u q).stay (fun c v hc r => k c v ?_ r) (fun c r => by rw [upd_ne (nown c b r)]; exact r) fun c xs r => by rw [upd_ne (ntup c xs r)]; exact r
      rcases hc with rfl | hc
      · exact hbe
      · rintro rfl
        rcases he with z | z
        · exact nown c b hc z
        · rw [hc] at z; cases z; exact hb rfl
end
structure Un (fs ex : List Addr) (H H' : Hp) (h h' : Heap) : Prop where
  keep : ∀ b o, h.get? b = some o → H b = none → b ∉ fs → b ∉ ex → h'.get? b = some o
  slot : ∀ b o, h.get? b = some o → H b = none → b ∈ fs → b ∉ ex → ∃ sl, h'.get? b = some { o with slots := sl }
  free : ∀ b o, h.get? b = some o → H b = none → b ∉ ex → H' b = none
  there : ∀ b o, h.get? b = some o → b ∉ ex → ∃ o', h'.get? b = some o'
  tups : ∀ b xs, H b = some (.tup xs) → H' b = some (.tup xs)
  frzs : ∀ b o u, H b = some (.frz o u) → H' b = some (.frz o u)
  tbls : ∀ b ps, H b = some (.tbl ps) → ∃ more, H' b = some (.tbl (ps ++ more))
section
variable {fs fs' ex ex' : List Addr} {H H1 H2 : Hp} {h h1 h2 h' : Heap} {a x e : Addr} {o : HO}
theorem Un.any (u : Un fs ex H H1 h h1) {b : Addr} {ob : Obj} (q : h.get? b = some ob) (n : H b = none) (hx : b ∉ ex) : ∃ sl, h1.get? b = some { ob with slots := sl } := by
  by_cases hb : b ∈ fs
  · exact u.slot b ob q n hb hx
  · exact ⟨ob.slots, u.keep b ob q n hb hx⟩
theorem Un.kept (k : ∀ b u, h.get? b = some u → h'.get? b = some u) : Un fs ex H H h h' :=
  ⟨fun b ob q _ _ _ => k b ob q, fun b ob q _ _ _ => ⟨ob.slots, k b ob q⟩, fun _ _ _ n _ => n, fun b ob q _ => ⟨ob, k b ob q⟩, fun _ _ q => q, fun _ _ _ q => q, fun _ ps q => ⟨#[], by rw [q]; simp⟩⟩
theorem Un.refl : Un fs ex H H h h := Un.kept fun _ _ q => q
theorem Un.laid (k : ∀ b u, h.get? b = some u → h'.get? b = some u) (hp : h.objs.size ≤ a) (hn : H a = none) : Un fs ex H (upd H a o) h h' where
  keep := fun b u q _ _ _ => k b u q
  slot := fun b u q _ _ _ => ⟨u.slots, k b u q⟩
  free := fun b u q n _ => by rw [upd_ne (Nat.ne_of_lt (Nat.lt_of_lt_of_le (Heap.lt_size q) hp))]; exact n
  there := fun b u q _ => ⟨u, k b u q⟩
  tups := fun b xs q => by rw [upd_ne (ne_of_none q hn)]; exact q
  frzs := fun b u xs q => by rw [upd_ne (ne_of_none q hn)]; exact q
  tbls := fun b ps q => ⟨#[], by rw [upd_ne (ne_of_none q hn), q]; simp⟩
theorem Un.write (mu : Mut (H x)) (he : e = x ∨ H e = some (.own x)) (k : ∀ b u, b ≠ e → h.get? b = some u → h'.get? b = some u) (heo : ∃ u, h'.get? e = some u) : Un fs ex H (upd H x o) h h' := by
  have hx : ∀ b, H b = none → b ≠ x := fun b n z => by subst z; rw [n] at mu; exact mu
  have hb : ∀ b, H b = none → b ≠ e := fun b n z => by
    subst z
    rcases he with r | r
    · exact hx b n r
    · rw [n] at r; cases r
  have hm : ∀ b u, H b = some u → ¬ Mut (some u) → b ≠ x := fun b u q nm z => by subst z; rw [q] at mu; exact nm mu
  refine ⟨fun b u q n _ _ => k b u (hb b n) q, fun b u q n _ _ => ⟨u.slots, k b u (hb b n) q⟩, fun b u q n _ => by rw [upd_ne (hx b n)]; exact n, fun b u q _ => ?_,
    fun b xs q => by rw [upd_ne (hm b _ q fun z => z)]; exact q, fun b u xs q => by rw [upd_ne (hm b _ q fun z => z)]; exact q, fun b ps q => ⟨#[], by rw [upd_ne (hm b _ q fun z => z), q]; simp⟩⟩
  by_cases hbe : b = e
  · subst hbe; exact heo
  · exact ⟨u, k b u hbe q⟩
end
def trk (h : Heap) (H : Hp) : List Addr := (List.range h.objs.size).filter fun a => (H a).isSome
def hidT (h : Heap) (H : Hp) : Heap := PySem.W.hideAll h (trk h H)
theorem hidT_size (h : Heap) (H : Hp) : (hidT h H).objs.size = h.objs.size := PySem.W.hideAll_size _ _
theorem hidT_get {h : Heap} {H : Hp} {b : Addr} {o : Obj} (e : h.get? b = some o) (n : H b = none) : (hidT h H).get? b = some o :=
  PySem.W.hideAll_get _ e fun hm => by
    have q : (H b).isSome = true := (List.mem_filter.mp hm).2
    rw [n] at q; simp at q
theorem of_hidT {h : Heap} {H : Hp} {b : Addr} {o : Obj} (e : (hidT h H).get? b = some o) : h.get? b = some o ∧ H b = none := by
  have e' : h.get? b = some o := PySem.W.of_hideAll (trk h H) e
  refine ⟨e', ?_⟩
  cases q : H b with
  | none => rfl
  | some x =>
    have hm : b ∈ trk h H := List.mem_filter.mpr ⟨List.mem_range.mpr (Heap.lt_size e'), by simp [q]⟩
    have z : (hidT h H).get? b = none := PySem.W.hideAll_none (trk h H) hm
    rw [z] at e; cases e
def allNews (g h : Heap) (L : Addr) : List (Addr × Obj) := (List.range h.objs.size).filterMap fun a => if a = L ∨ (g.get? a).isSome = true then none else (h.get? a).map fun o => (a, o)
def rest (g h : Heap) (L d : Addr) : List (Addr × Obj) := (allNews g h L).filter fun p => decide (p.1 ≠ d)
end L2
namespace L2
open PySem PySem.Spec PyProof.Rows
structure Mod (K : PySem.W.Frag) (mg : Str → Option Value) (base : Heap) : Prop where
  kin : K.In base
  glob : base.Ns mainGlobals mg
  blt : ∃ mb, base.Ns builtinsNs mb ∧ ∀ x : Str, x ≠ "__name__" → mb x = bootBuiltins x
  nolimit : base.NoLimit
structure Cx where
  prog : Program
  w : World
  K : PySem.W.Frag
  mg : Str → Option Value
  base : Heap
  A : Around
  N : List Str
  s₀ : Shared
  H₀ : Hp
  env : Env
  outer : List Env
  stack : List Env
  ex : List Addr
  fn : Str → Bool
  calm : Bool
  pn : List (Addr × Obj)
  xe : Value → Shared → Prop
def frs (l : List Env) : List Addr := l.filterMap (·.frame)
abbrev Cx.fs (X : Cx) : List Addr := frs X.outer
def Vis (sc : Scope) (x : Str) : Prop := sc.names.lookup x = some .local ∨ sc.names.lookup x = some .cell ∨ sc.names.lookup x = some .free
def Loc (sc : Scope) (x : Str) : Prop := sc.names.lookup x = some .local ∨ sc.names.lookup x = some .cell
def Look (env : Env) (h : Heap) (m : Str → Option Value) (x : Str) (u : Value) : Prop :=
  (env.kindOf x = some .local ∧ m x = some u) ∨ ((env.kindOf x = some .cell ∨ env.kindOf x = some .free) ∧ ∃ c, env.cells.lookup x = some c ∧ h.IsCell c (some u))
structure Cx.Ok (X : Cx) : Prop where
  mod : Mod X.K X.mg X.base
  kind : X.env.scope.kind = .function
  glob : X.env.globals = mainGlobals
  blt : X.env.builtins = builtinsNs
  above : X.s₀.heap.objs.size ≤ X.env.locals
  inj : ∀ x y c, X.env.cells.lookup x = some c → X.env.cells.lookup y = some c → x = y
  has : ∀ x, (X.env.kindOf x = some .cell ∨ X.env.kindOf x = some .free) → ∃ c, X.env.cells.lookup x = some c
  cab : ∀ x c, X.fn x = true → X.env.cells.lookup x = some c → X.s₀.heap.objs.size ≤ c
  hd : X.calm = true → X.A.handled = none
  frames : X.A.frames = some X.stack
  stk : X.stack = X.outer ∨ (X.stack = X.env :: X.outer ∧ X.env.frame = some X.env.locals)
  exf : ∀ b ∈ X.ex, b ≠ X.env.locals ∧ ∀ x c, X.env.cells.lookup x = some c → c ≠ b
  bs : ∀ b o, X.base.get? b = some o → X.s₀.heap.get? b = some o ∧ X.H₀ b = none
  bsz : X.base.objs.size ≤ X.s₀.heap.objs.size
  noex : ∀ b o, X.base.get? b = some o → b ∉ X.ex
  exfs : ∀ b ∈ X.ex, b ∉ X.fs
  funs : X.s₀.heap.FunFrames X.base X.outer
  frf : ∀ b ∈ X.fs, X.H₀ b = none
structure Inv (X : Cx) (pins : List (Addr × Obj)) (σ : List (Option V)) (H : Hp) (s : Shared) : Prop where
  ok : X.Ok
  os : s.os = X.s₀.os
  bare : AllBare s.gens
  base : Un X.fs X.ex X.H₀ H X.s₀.heap s.heap
  loc : ∃ m, s.heap.Ns X.env.locals m ∧ ∀ (i : Nat) (x : Str) (v : V), X.N[i]? = some x → σ[i]? = some (some v) → Vis X.env.scope x → ∃ u, RelV v u ∧ Look X.env s.heap m x u
  cell : ∀ x c, X.env.cells.lookup x = some c → ∃ v, s.heap.IsCell c v
  free : H X.env.locals = none
  freeC : ∀ x c, X.env.cells.lookup x = some c → H c = none
  pin : ∀ p ∈ X.pn ++ pins, s.heap.get? p.1 = some p.2 ∧ H p.1 = none ∧ p.1 ≠ X.env.locals ∧ p.1 ∉ X.fs ∧ ∀ v, p.2.data ≠ .cell v
  hok : HOk X.prog X.w H s.heap
  len : σ.length = X.N.length
section
variable {X : Cx} {pins : List (Addr × Obj)} {σ : List (Option V)} {H H' : Hp} {s : Shared} {h' : Heap}
theorem Cx.Ok.nofr (ok : X.Ok) {b : Addr} {o : Obj} (e : X.base.get? b = some o) : b ∉ X.fs := fun hb => by
  have := (ok.funs.mem hb).1
  rw [e] at this; cases this
theorem Inv.bs (I : Inv X pins σ H s) : ∀ b o, X.base.get? b = some o → s.heap.get? b = some o ∧ H b = none := fun b o e =>
  ⟨I.base.keep b o (I.ok.bs b o e).1 (I.ok.bs b o e).2 (I.ok.nofr e) (I.ok.noex b o e), I.base.free b o (I.ok.bs b o e).1 (I.ok.bs b o e).2 (I.ok.noex b o e)⟩
theorem Inv.bk (I : Inv X pins σ H s) : ∀ b o, X.base.get? b = some o → s.heap.get? b = some o := fun b o e => (I.bs b o e).1
theorem Inv.mod (I : Inv X pins σ H s) : Mod X.K X.mg X.base := I.ok.mod
theorem Inv.kIn (I : Inv X pins σ H s) : X.K.In s.heap := I.ok.mod.kin.keeps I.bk
theorem Inv.lt (I : Inv X pins σ H s) : X.env.locals < s.heap.objs.size := let ⟨_, hn, _⟩ := I.loc; hn.lt
theorem Inv.sz (I : Inv X pins σ H s) : X.s₀.heap.objs.size ≤ s.heap.objs.size := Nat.le_trans I.ok.above (Nat.le_of_lt I.lt)
theorem Inv.nofs (I : Inv X pins σ H s) {a : Addr} (h : s.heap.objs.size ≤ a) : a ∉ X.fs := fun hb => by
  obtain ⟨_, o, ho, _⟩ := I.ok.funs.mem hb
  exact absurd (Nat.lt_of_lt_of_le (Heap.lt_size ho) (Nat.le_trans I.sz h)) (Nat.lt_irrefl _)
theorem Inv.cne (I : Inv X pins σ H s) : ∀ x c, X.env.cells.lookup x = some c → c ≠ X.env.locals := fun x c e z => by
  obtain ⟨v, o, ho, hd⟩ := I.cell x c e
  obtain ⟨m, ⟨o', es, ep, ho', hd', _⟩, _⟩ := I.loc
  rw [z, ho'] at ho; cases ho; rw [hd'] at hd; cases hd
theorem Inv.funs (I : Inv X pins σ H s) : s.heap.FunFrames X.base X.outer := by
  have all : ∀ (l : List Env), (∀ b ∈ frs l, b ∈ X.fs) → X.s₀.heap.FunFrames X.base l → s.heap.FunFrames X.base l := by
    intro l
    induction l with
    | nil => intro _ _; trivial
    | cons env r ih =>
      intro hs hl
      obtain ⟨hk, ⟨L, o, hf, hn, ho, hd⟩, hr⟩ := hl
      have hL : L ∈ X.fs := hs L (by unfold frs; rw [List.filterMap_cons, hf]; exact List.mem_cons_self)
      obtain ⟨sl, e⟩ := I.base.slot L o ho (I.ok.frf L hL) hL fun z => I.ok.exfs L z hL
      exact ⟨hk, ⟨L, _, hf, hn, e, hd⟩, ih (fun b hb => hs b (by unfold frs; rw [List.filterMap_cons, hf]; exact List.mem_cons_of_mem _ hb)) hr⟩
  exact all X.outer (fun _ hb => hb) I.ok.funs
theorem Inv.stack (I : Inv X pins σ H s) : s.heap.FunFrames X.base X.stack := by
  rcases I.ok.stk with e | ⟨e, hf⟩
  · rw [e]; exact I.funs
  · rw [e]
    obtain ⟨m, hn, _⟩ := I.loc
    refine .cons (by rw [I.ok.kind]; decide) hf hn ?_ I.funs
    exact Heap.get?_none_of_le (Nat.le_trans I.ok.bsz I.ok.above)
theorem Inv.stkSub (I : Inv X pins σ H s) : ∀ b ∈ frs X.stack, b ∈ X.env.locals :: X.fs := fun b hb => by
  rcases I.ok.stk with e | ⟨e, hf⟩
  · rw [e] at hb; exact List.mem_cons_of_mem _ hb
  · rw [e] at hb
    unfold frs at hb
    rw [List.filterMap_cons, hf] at hb
    exact hb
theorem Inv.stkFree (I : Inv X pins σ H s) : ∀ b ∈ frs X.stack, H b = none := fun b hb => by
  rcases List.mem_cons.mp (I.stkSub b hb) with e | hb
  · rw [e]; exact I.free
  · obtain ⟨_, o, ho, _⟩ := I.ok.funs.mem hb
    exact I.base.free b o ho (I.ok.frf b hb) fun z => I.ok.exfs b z hb
theorem Inv.step {g' : Array GenState} {t' : Nat} {d' : Drawn} {ch : List Addr} (I : Inv X pins σ H s)
    (hch : ∀ b ∈ ch, (b ∈ X.ex ∨ X.s₀.heap.objs.size ≤ b) ∧ b ≠ X.env.locals ∧ (∀ x c, X.env.cells.lookup x = some c → c ≠ b) ∧ ∀ p ∈ X.pn ++ pins, p.1 ≠ b)
    (keep : ∀ b o, b ≠ X.env.locals → b ∉ X.fs → b ∉ ch → s.heap.get? b = some o → H b = none → h'.get? b = some o)
    (slot : ∀ b o, b ≠ X.env.locals → b ∈ X.fs → b ∉ ch → s.heap.get? b = some o → H b = none → ∃ sl, h'.get? b = some { o with slots := sl }) (free : ∀ b o, b ∉ ch → s.heap.get? b = some o → H b = none → H' b = none)
    (there : ∀ b o, b ∉ ch → s.heap.get? b = some o → ∃ o', h'.get? b = some o')
    (tups : ∀ b xs, H b = some (.tup xs) → H' b = some (.tup xs)) (frzs : ∀ b o u, H b = some (.frz o u) → H' b = some (.frz o u)) (tbls : ∀ b ps, H b = some (.tbl ps) → ∃ more, H' b = some (.tbl (ps ++ more)))
    (ns : ∀ m, s.heap.Ns X.env.locals m → h'.Ns X.env.locals m) (hok : HOk X.prog X.w H' h') (hg : AllBare g') :
    Inv X pins σ H' { s with heap := h', gens := g', drawn := d', toks := t' } := by
  have neL : ∀ b o, X.s₀.heap.get? b = some o → b ≠ X.env.locals := fun b o e => Nat.ne_of_lt (Nat.lt_of_lt_of_le (Heap.lt_size e) I.ok.above)
  have neC : ∀ b o, X.s₀.heap.get? b = some o → b ∉ X.ex → b ∉ ch := fun b o e hx hb => by
    rcases (hch b hb).1 with z | z
    · exact hx z
    · exact absurd (Nat.lt_of_lt_of_le (Heap.lt_size e) z) (Nat.lt_irrefl _)
  have cellK : ∀ x c, X.env.cells.lookup x = some c → ∀ v, s.heap.IsCell c v → h'.IsCell c v := fun x c e v ⟨o, ho, hd⟩ => by
    have nch : c ∉ ch := fun z => (hch c z).2.2.1 x c e rfl
    by_cases hc : c ∈ X.fs
    · obtain ⟨sl, q⟩ := slot c o (I.cne x c e) hc nch ho (I.freeC x c e)
      exact ⟨_, q, hd⟩
    · exact ⟨o, keep c o (I.cne x c e) hc nch ho (I.freeC x c e), hd⟩
  refine ⟨I.ok, I.os, hg, ⟨fun b o e n hb hx => ?_, fun b o e n hb hx => ?_, fun b o e n hx => ?_, fun b o e hx => ?_, fun b xs e => tups b xs (I.base.tups b xs e), fun b o xs e => frzs b o xs (I.base.frzs b o xs e), fun b ps e => ?_⟩, ?_, fun x c e => ?_, ?_, fun x c e => ?_, fun p hp => ?_, hok, I.len⟩
  · exact keep b o (neL b o e) hb (neC b o e hx) (I.base.keep b o e n hb hx) (I.base.free b o e n hx)
  · obtain ⟨sl, e1⟩ := I.base.slot b o e n hb hx
    obtain ⟨sl', e2⟩ := slot b _ (neL b o e) hb (neC b o e hx) e1 (I.base.free b o e n hx)
    exact ⟨sl', e2⟩
  · obtain ⟨o', e1⟩ := I.base.there b o e hx
    exact free b o' (neC b o e hx) e1 (I.base.free b o e n hx)
  · obtain ⟨o', e1⟩ := I.base.there b o e hx
    exact there b o' (neC b o e hx) e1
  · obtain ⟨m1, e1⟩ := I.base.tbls b ps e
    obtain ⟨m2, e2⟩ := tbls b _ e1
    exact ⟨m1 ++ m2, by rw [e2, Array.append_assoc]⟩
  · obtain ⟨m, hn, hl⟩ := I.loc
    refine ⟨m, ns m hn, fun i x v e1 e2 e3 => ?_⟩
    obtain ⟨u, r, l⟩ := hl i x v e1 e2 e3
    refine ⟨u, r, ?_⟩
    rcases l with l | ⟨k, c, e, z⟩
    · exact .inl l
    · exact .inr ⟨k, c, e, cellK x c e _ z⟩
  · obtain ⟨v, z⟩ := I.cell x c e
    exact ⟨v, cellK x c e v z⟩
  · obtain ⟨m, ⟨o, _, _, ho, _⟩, _⟩ := I.loc
    exact free _ o (fun z => (hch _ z).2.1 rfl) ho I.free
  · obtain ⟨v, o, ho, hd⟩ := I.cell x c e
    exact free c o (fun z => (hch c z).2.2.1 x c e rfl) ho (I.freeC x c e)
  · obtain ⟨e, n, ne, nf, d⟩ := I.pin p hp
    have nch : p.1 ∉ ch := fun z => (hch p.1 z).2.2.2 p hp rfl
    exact ⟨keep p.1 p.2 ne nf nch e n, free p.1 p.2 nch e n, ne, nf, d⟩
theorem Inv.un {t' : Nat} (I : Inv X pins σ H s) (u : Un X.fs [] H H' s.heap h') (hok : HOk X.prog X.w H' h') : Inv X pins σ H' { s with heap := h', toks := t' } := by
  obtain ⟨m, ⟨o, es, ep, ho, r⟩, _⟩ := id I.loc
  obtain ⟨sl, hL⟩ := u.any ho I.free (by simp)
  exact I.step (g' := s.gens) (d' := s.drawn) (ch := []) (fun _ z => nomatch z) (fun b o _ hb _ e n => u.keep b o e n hb (by simp)) (fun b o _ hb _ e n => u.slot b o e n hb (by simp)) (fun b o _ e n => u.free b o e n (by simp)) (fun b o _ e => u.there b o e (by simp)) u.tups u.frzs u.tbls (fun m' hm => by
    obtain ⟨o', es', ep', ho', r'⟩ := hm
    rw [ho] at ho'; cases ho'
    exact ⟨_, es', ep', hL, r'⟩) hok I.bare
theorem Inv.call {g' : Array GenState} {t' : Nat} {d' : Drawn} {ch : List Addr} (I : Inv X pins σ H s) (u : Un (frs X.stack) ch H H' s.heap h') (hok : HOk X.prog X.w H' h') (hg : AllBare g')
    (hch : ∀ b ∈ ch, (b ∈ X.ex ∨ X.s₀.heap.objs.size ≤ b) ∧ b ≠ X.env.locals ∧ (∀ x c, X.env.cells.lookup x = some c → c ≠ b) ∧ ∀ p ∈ X.pn ++ pins, p.1 ≠ b) :
    Inv X pins σ H' { s with heap := h', gens := g', drawn := d', toks := t' } := by
  obtain ⟨m, ⟨o, es, ep, ho, r⟩, _⟩ := id I.loc
  obtain ⟨sl, hL⟩ := u.any ho I.free fun z => (hch _ z).2.1 rfl
  exact I.step (ch := ch) hch (fun b o hL hb hc e n => u.keep b o e n (fun z => (List.mem_cons.mp (I.stkSub b z)).elim hL hb) hc) (fun b o _ _ hc e n => u.any e n hc) (fun b o hc e n => u.free b o e n hc) (fun b o hc e => u.there b o e hc) u.tups u.frzs u.tbls (fun m' hm => by
    obtain ⟨o', es', ep', ho', r'⟩ := hm
    rw [ho] at ho'; cases ho'
    exact ⟨_, es', ep', hL, r'⟩) hok hg
theorem Inv.turned {t' : Nat} {it : Addr} (I : Inv X pins σ H s) (k : ∀ b o, b ≠ it → s.heap.get? b = some o → h'.get? b = some o) (hn : H it = none) (hL : it ≠ X.env.locals)
    (h1 : it ∈ X.ex ∨ X.s₀.heap.objs.size ≤ it) (h2 : ∀ x c, X.env.cells.lookup x = some c → c ≠ it) (h3 : ∀ p ∈ X.pn ++ pins, p.1 ≠ it) : Inv X pins σ H { s with heap := h', toks := t' } := by
  have nit : ∀ b u, H b = some u → b ≠ it := fun b u e z => by rw [z, hn] at e; cases e
  refine I.step (g' := s.gens) (d' := s.drawn) (ch := [it]) (fun b hb => ?_) (fun b o _ _ hc e _ => k b o (fun z => hc (by simp [z])) e) (fun b o _ _ hc e _ => ⟨o.slots, k b o (fun z => hc (by simp [z])) e⟩) (fun _ _ _ _ n => n)
    (fun b o hc e => ⟨o, k b o (fun z => hc (by simp [z])) e⟩) (fun _ _ e => e) (fun _ _ _ e => e) (fun b ps e => ⟨#[], by rw [e]; simp⟩) (fun m hm => ?_) (fun b u e => ?_) I.bare
  · have e : b = it := by simpa using hb
    subst e
    exact ⟨h1, hL, h2, h3⟩
  · obtain ⟨o, es, ep, ho, r⟩ := hm
    exact ⟨o, es, ep, k _ o (Ne.symm hL) ho, r⟩
  · refine (I.hok b u e).stay (fun c v hc q => k c v ?_ q) (fun _ q => q) fun _ _ q => q
    rcases hc with z | z
    · rw [z]; exact nit b u e
    · exact nit c _ z
theorem Inv.tok (I : Inv X pins σ H s) (t : Nat) : Inv X pins σ H { s with toks := t } := I.un (h' := s.heap) (t' := t) Un.refl I.hok
theorem Inv.kept {t' : Nat} (I : Inv X pins σ H s) (k : ∀ b u, s.heap.get? b = some u → h'.get? b = some u) : Inv X pins σ H { s with heap := h', toks := t' } := I.un (Un.kept k) (I.hok.kept k)
theorem Inv.laid {a : Addr} {o : HO} {t' : Nat} (I : Inv X pins σ H s) (k : ∀ b u, s.heap.get? b = some u → h'.get? b = some u) (hp : s.heap.objs.size ≤ a) (new : ObjOk X.prog X.w (upd H a o) h' a o) :
    Inv X pins σ (upd H a o) { s with heap := h', toks := t' } := I.un (Un.laid k hp (I.hok.fresh hp)) (I.hok.laid k hp new)
theorem Inv.write {x e : Addr} {o : HO} {t' : Nat} (I : Inv X pins σ H s) (mu : Mut (H x)) (he : e = x ∨ H e = some (.own x)) (k : ∀ b u, b ≠ e → s.heap.get? b = some u → h'.get? b = some u) (heo : ∃ u, h'.get? e = some u)
    (new : ObjOk X.prog X.w (upd H x o) h' x o) : Inv X pins σ (upd H x o) { s with heap := h', toks := t' } := I.un (Un.write mu he k heo) (I.hok.write mu he k heo new)
theorem Inv.weak {σ' : List (Option V)} (I : Inv X pins σ H s) (hl : σ'.length = σ.length) (w : ∀ (i : Nat) v, σ'[i]? = some (some v) → σ[i]? = some (some v)) : Inv X pins σ' H s :=
  ⟨I.ok, I.os, I.bare, I.base, let ⟨m, hn, hl'⟩ := I.loc; ⟨m, hn, fun i x v e1 e2 e3 => hl' i x v e1 (w i v e2) e3⟩, I.cell, I.free, I.freeC, I.pin, I.hok, hl.trans I.len⟩
theorem Inv.pins_of {pins' : List (Addr × Obj)} (I : Inv X pins σ H s) (h : ∀ p ∈ pins', s.heap.get? p.1 = some p.2 ∧ H p.1 = none ∧ p.1 ≠ X.env.locals ∧ p.1 ∉ X.fs ∧ ∀ v, p.2.data ≠ .cell v) : Inv X pins' σ H s :=
  ⟨I.ok, I.os, I.bare, I.base, I.loc, I.cell, I.free, I.freeC, fun p hp => (List.mem_append.mp hp).elim (fun z => I.pin p (List.mem_append_left _ z)) (h p), I.hok, I.len⟩
theorem nodup_ix {N : List Str} (hN : N.Nodup) {i j : Nat} {x : Str} (a : N[i]? = some x) (b : N[j]? = some x) : i = j := by
  obtain ⟨h1, e1⟩ := List.getElem?_eq_some_iff.mp a
  obtain ⟨h2, e2⟩ := List.getElem?_eq_some_iff.mp b
  exact (List.getElem_inj hN).mp (e1.trans e2.symm)
theorem store_ok2 {M : Model} {A : Around} {E : Value → Shared → Prop} {i : Nat} {x : Str} {v : V} {u : Value} {Q : Unit → Shared → Prop} (I : Inv X pins σ H s) (hN : X.N.Nodup) (hi : X.N[i]? = some x) (hx : Loc X.env.scope x) (r : RelV v u)
    (h : ∀ s', Inv X pins (σ.set i (some v)) H s' → (∃ a, Heap.SameBut a s.heap s'.heap ∧ (a = X.env.locals ∨ X.env.cells.lookup x = some a)) → Q () s') (hf : X.fn x = true ∨ X.env.scope.names.lookup x = some .local := by first | exact .inl rfl | exact .inr rfl | assumption) : wpAny M A (storeName X.env x u) Q E s := by
  obtain ⟨m, hn, hl⟩ := id I.loc
  have hcls : (X.env.scope.kind == .class || (X.env.scope.kind == .module && X.env.locals != X.env.globals)) = false := by rw [I.ok.kind]; rfl
  have hiσ : i < σ.length := by rw [I.len]; exact (List.getElem?_eq_some_iff.mp hi).1
  have cne := I.cne
  have tracked : ∀ {a : Addr} {h' : Heap}, (∃ o, s.heap.get? a = some o ∧ H a = none) → Heap.SameBut a s.heap h' → HOk X.prog X.w H h' := fun {a h'} ha hs b ob e => by
    obtain ⟨_, _, hfree⟩ := ha
    refine (I.hok b ob e).stay (fun c w' hc q => (hs.2 c ?_).trans q) (fun _ q => q) fun _ _ q => q
    rintro rfl
    rcases hc with rfl | hc
    · rw [hfree] at e; cases e
    · rw [hfree] at hc; cases hc
  rcases hx with hk | hk
  · refine wpAny_storeName_local hk hn (fun h' hn' hs => ?_) hcls
    obtain ⟨oL, _, _, hoL, _⟩ := id hn
    refine h _ ⟨I.ok, I.os, I.bare, ⟨fun b o e n hb hx => ?_, fun b o e n hb hx => ?_, I.base.free, fun b o e hx => ?_, I.base.tups, I.base.frzs, I.base.tbls⟩, ⟨_, hn', fun j y v' e1 e2 e3 => ?_⟩, fun y c e => ?_, I.free, I.freeC, fun p hp => ?_, tracked ⟨oL, hoL, I.free⟩ hs, by simpa using I.len⟩ ⟨_, hs, .inl rfl⟩
    · exact (hs.2 b (Nat.ne_of_lt (Nat.lt_of_lt_of_le (Heap.lt_size e) I.ok.above))).trans (I.base.keep b o e n hb hx)
    · obtain ⟨sl, e1⟩ := I.base.slot b o e n hb hx
      exact ⟨sl, (hs.2 b (Nat.ne_of_lt (Nat.lt_of_lt_of_le (Heap.lt_size e) I.ok.above))).trans e1⟩
    · obtain ⟨o', e1⟩ := I.base.there b o e hx
      exact ⟨o', (hs.2 b (Nat.ne_of_lt (Nat.lt_of_lt_of_le (Heap.lt_size e) I.ok.above))).trans e1⟩
    · by_cases hj : j = i
      · subst hj
        rw [hi] at e1; cases e1
        rw [List.getElem?_set_self hiσ] at e2
        cases e2
        exact ⟨u, r, .inl ⟨hk, by simp⟩⟩
      · rw [List.getElem?_set_ne (Ne.symm hj)] at e2
        obtain ⟨u', r', q⟩ := hl j y v' e1 e2 e3
        refine ⟨u', r', ?_⟩
        rcases q with ⟨k, e⟩ | ⟨k, c, e, z⟩
        · refine .inl ⟨k, ?_⟩
          have : y ≠ x := fun e => hj (nodup_ix hN e1 (e ▸ hi))
          simp [this, e]
        · exact .inr ⟨k, c, e, z.sameBut hs (cne y c e)⟩
    · obtain ⟨w', z⟩ := I.cell y c e
      exact ⟨w', z.sameBut hs (cne y c e)⟩
    · obtain ⟨e, n, ne, nf, d⟩ := I.pin p hp
      exact ⟨(hs.2 p.1 ne).trans e, n, ne, nf, d⟩
  · have hfn : X.fn x = true := by
      rcases hf with z | z
      · exact z
      · rw [z] at hk; cases hk
    obtain ⟨c, hc⟩ := I.ok.has x (.inl hk)
    obtain ⟨w', z⟩ := I.cell x c hc
    refine wpAny_storeName_cell I.ok.kind hk hc z (fun h' hc' hs => ?_)
    obtain ⟨oc, hoc, hocd⟩ := id z
    refine h { s with heap := h' } ⟨I.ok, I.os, I.bare, ⟨fun b o e n hb hx => ?_, fun b o e n hb hx => ?_, I.base.free, fun b o e hx => ?_, I.base.tups, I.base.frzs, I.base.tbls⟩, ⟨m, hn.sameBut hs (Ne.symm (cne x c hc)), fun j y v' e1 e2 e3 => ?_⟩, fun y c' e => ?_, I.free, I.freeC, fun p hp => ?_, tracked ⟨oc, hoc, I.freeC x c hc⟩ hs, by simpa using I.len⟩ ⟨c, hs, .inr hc⟩
    · exact (hs.2 b (Nat.ne_of_lt (Nat.lt_of_lt_of_le (Heap.lt_size e) (I.ok.cab x c hfn hc)))).trans (I.base.keep b o e n hb hx)
    · obtain ⟨sl, e1⟩ := I.base.slot b o e n hb hx
      exact ⟨sl, (hs.2 b (Nat.ne_of_lt (Nat.lt_of_lt_of_le (Heap.lt_size e) (I.ok.cab x c hfn hc)))).trans e1⟩
    · obtain ⟨o', e1⟩ := I.base.there b o e hx
      exact ⟨o', (hs.2 b (Nat.ne_of_lt (Nat.lt_of_lt_of_le (Heap.lt_size e) (I.ok.cab x c hfn hc)))).trans e1⟩
    · by_cases hj : j = i
      · subst hj
        rw [hi] at e1; cases e1
        rw [List.getElem?_set_self hiσ] at e2
        cases e2
        exact ⟨u, r, .inr ⟨.inl hk, c, hc, hc'⟩⟩
      · rw [List.getElem?_set_ne (Ne.symm hj)] at e2
        obtain ⟨u', r', q⟩ := hl j y v' e1 e2 e3
        refine ⟨u', r', ?_⟩
        rcases q with q | ⟨k, c', e, z'⟩
        · exact .inl q
        · refine .inr ⟨k, c', e, z'.sameBut hs ?_⟩
          rintro rfl
          exact hj (nodup_ix hN e1 (I.ok.inj _ _ _ e hc ▸ hi))
    · by_cases hcc : c' = c
      · subst hcc; exact ⟨_, hc'⟩
      · obtain ⟨w2, z2⟩ := I.cell y c' e
        exact ⟨w2, z2.sameBut hs hcc⟩
    · obtain ⟨e, n, ne, nf, d⟩ := I.pin p hp
      refine ⟨(hs.2 p.1 ?_).trans e, n, ne, nf, d⟩
      intro q
      rw [q, hoc] at e
      have q' : oc = p.2 := Option.some.inj e
      exact d w' (by rw [← q']; exact hocd)
theorem store_ok {M : Model} {A : Around} {E : Value → Shared → Prop} {i : Nat} {x : Str} {v : V} {u : Value} {Q : Unit → Shared → Prop} (I : Inv X pins σ H s) (hN : X.N.Nodup) (hi : X.N[i]? = some x) (hx : Loc X.env.scope x) (r : RelV v u)
    (h : ∀ s', Inv X pins (σ.set i (some v)) H s' → Q () s') (hf : X.fn x = true ∨ X.env.scope.names.lookup x = some .local := by first | exact .inl rfl | exact .inr rfl | assumption) : wpAny M A (storeName X.env x u) Q E s :=
  store_ok2 I hN hi hx r (fun s' I' _ => h s' I') hf
theorem Inv.call' {s' : Shared} {ch : List Addr} (I : Inv X pins σ H s) (ho : s'.os = s.os) (u : Un (frs X.stack) ch H H' s.heap s'.heap) (hok : HOk X.prog X.w H' s'.heap) (hg : AllBare s'.gens)
    (hch : ∀ b ∈ ch, (b ∈ X.ex ∨ X.s₀.heap.objs.size ≤ b) ∧ b ≠ X.env.locals ∧ (∀ x c, X.env.cells.lookup x = some c → c ≠ b) ∧ ∀ p ∈ X.pn ++ pins, p.1 ≠ b) : Inv X pins σ H' s' := by
  obtain ⟨h', g', d', t', o'⟩ := s'
  have e : o' = s.os := ho
  subst e
  exact I.call (g' := g') (t' := t') (d' := d') u hok hg hch
end
abbrev XK := Value → Option Addr → Hp → Prop
abbrev St := List (Option V)
abbrev VK := V → Hp → Prop
abbrev TE := St → Hp → VK → Prop
abbrev TT := St → Hp → (Bool → Hp → Prop) → Prop
abbrev TA := St → Hp → (List V → Hp → Prop) → Prop
structure Ends where
  nx : St → Hp → Prop
  rt : VK
  bk : St → Hp → Prop := fun _ _ => False
  ct : St → Hp → Prop := fun _ _ => False
abbrev TS := Ends → St → Hp → Prop
def EP (X : Cx) (pins : List (Addr × Obj)) (σ : St) (Q : VK) (u : Value) (s' : Shared) : Prop := ∃ v H', Inv X pins σ H' s' ∧ RelV v u ∧ Q v H'
def TP (X : Cx) (pins : List (Addr × Obj)) (σ : St) (Q : Bool → Hp → Prop) (b : Bool) (s' : Shared) : Prop := ∃ H', Inv X pins σ H' s' ∧ Q b H'
def AP (X : Cx) (pins : List (Addr × Obj)) (σ : St) (Q : List V → Hp → Prop) (us : List Value) (s' : Shared) : Prop := ∃ vs H', Inv X pins σ H' s' ∧ Vals vs us ∧ Q vs H'
def SP (X : Cx) (pins : List (Addr × Obj)) (D : Ends) (f : Flow) (s' : Shared) : Prop :=
  match f with
  | .next => ∃ σ' H', Inv X pins σ' H' s' ∧ D.nx σ' H'
  | .brk => ∃ σ' H', Inv X pins σ' H' s' ∧ D.bk σ' H'
  | .cont => ∃ σ' H', Inv X pins σ' H' s' ∧ D.ct σ' H'
  | .ret u => ∃ v σ' H', Inv X pins σ' H' s' ∧ RelV v u ∧ D.rt v H'
def PE (X : Cx) (e : Expr) (t : TE) : Prop :=
  ∀ (pins : List (Addr × Obj)) (s : Shared) (σ : St) (H : Hp) (Q : VK), Inv X pins σ H s → t σ H Q → wpAny (model X.prog X.w) X.A (eval e X.env) (EP X pins σ Q) X.xe s
def PT (X : Cx) (e : Expr) (t : TT) : Prop :=
  ∀ (pins : List (Addr × Obj)) (s : Shared) (σ : St) (H : Hp) (Q : Bool → Hp → Prop), Inv X pins σ H s → t σ H Q → wpAny (model X.prog X.w) X.A (isTrue e X.env (eval e X.env)) (TP X pins σ Q) X.xe s
def PW (X : Cx) (e : Expr) (t : TT) : Prop :=
  ∀ (whole : Sem Value) (pins : List (Addr × Obj)) (s : Shared) (σ : St) (H : Hp) (Q : Bool → Hp → Prop), Inv X pins σ H s → t σ H Q → wpAny (model X.prog X.w) X.A (isTrue e X.env whole) (TP X pins σ Q) X.xe s
theorem PW.pt {X : Cx} {e : Expr} {t : TT} (h : PW X e t) : PT X e t := h _
def PA (X : Cx) (es : List Expr) (t : TA) : Prop :=
  ∀ (pos : Pos) (pins : List (Addr × Obj)) (s : Shared) (σ : St) (H : Hp) (Q : List V → Hp → Prop), Inv X pins σ H s → t σ H Q → wpAny (model X.prog X.w) X.A (spliced (backTo pos (starEach es X.env))) (AP X pins σ Q) X.xe s
def PS (X : Cx) (st : Stmt) (t : TS) : Prop :=
  ∀ (pins : List (Addr × Obj)) (s : Shared) (σ : St) (H : Hp) (D : Ends), Inv X pins σ H s → t D σ H → wpAny (model X.prog X.w) X.A (exec st X.env) (SP X pins D) X.xe s
def PSs (X : Cx) (st : List Stmt) (t : TS) : Prop :=
  ∀ (pins : List (Addr × Obj)) (s : Shared) (σ : St) (H : Hp) (D : Ends), Inv X pins σ H s → t D σ H → wpAny (model X.prog X.w) X.A (execs st X.env) (SP X pins D) X.xe s
theorem thn {α : Type} {t : Sem α} {Q Q' : α → Shared → Prop} {M : Model} {A : Around} {E : Value → Shared → Prop} {s : Shared} (h : wpAny M A t Q E s) (hQ : ∀ a s, Q a s → Q' a s) : wpAny M A t Q' E s := wpAny_mono h hQ fun _ _ x => x
end L2
namespace L2
open PySem PySem.Spec PyProof.Rows
section
variable {X : Cx}
def tVar (i : Nat) : TE := fun σ H Q => ∃ v, σ[i]? = some (some v) ∧ Q v H
def tC (v : V) : TE := fun _ H Q => Q v H
theorem pe_var {i : Nat} {x : Str} {pos : Pos} (hN : X.N[i]? = some x) (hv : Vis X.env.scope x) (hd : (x == ("__debug__" : Str)) = false := by decide) (hcd : (x == ("__classdict__" : Str)) = false := by decide) : PE X (.Name x pos) (tVar i) := by
  intro pins s σ H Q I h
  obtain ⟨v, e, h⟩ := h
  obtain ⟨m, hn, hl⟩ := I.loc
  obtain ⟨u, r, l⟩ := hl i x v hN e hv
  have fin : EP X pins σ Q u s := ⟨v, H, I, r, h⟩
  rcases l with ⟨hk, hm⟩ | ⟨hk, c, hc, hcell⟩
  · exact wpAny_Name (wpAny_loadName_local I.ok.kind hk hn hm fin) hd
  · rcases hk with hk | hk
    · exact wpAny_Name (wpAny_loadName_cell I.ok.kind hk hc hcell fin) hd
    · exact wpAny_Name (wpAny_loadName_free I.ok.kind hk hc hcell fin hcd) hd
theorem pe_int {i j pos} : PE X (.Constant (.int i) j pos) (tC (.int i)) := fun _ _ _ H _ I h => wpAny_Constant_int ⟨.int i, H, I.tok _, ⟨_, rfl⟩, h⟩
theorem pe_bl {b j pos} : PE X (.Constant (.bool b) j pos) (tC (.bl b)) := fun _ _ _ H _ I h => Constant_bool ⟨.bl b, H, I, rfl, h⟩
theorem pe_non {j pos} : PE X (.Constant .none j pos) (tC .non) := fun _ _ _ H _ I h => Constant_none ⟨.non, H, I, rfl, h⟩
theorem pe_str {x j pos} : PE X (.Constant (.str x) j pos) (tC (.str x)) := fun _ _ _ H _ I h => Calls.Constant_str ⟨.str x, H, I.tok _, ⟨_, rfl⟩, h⟩
def Gl (X : Cx) (x : Str) : Prop := X.env.kindOf x = some .globalImplicit
theorem ld_glob {E : Value → Shared → Prop} {pins : List (Addr × Obj)} {s : Shared} {σ : St} {H : Hp} {x : Str} {u : Value} {pos : Pos} {Q : Value → Shared → Prop} (I : Inv X pins σ H s) (hg : Gl X x) (hm : X.mg x = some u) (h : Q u s)
    (hd : (x == ("__debug__" : Str)) = false := by decide) : wpAny (model X.prog X.w) X.A (eval (.Name x pos) X.env) Q E s :=
  Calls.Name_function_global I.ok.kind hg (Calls.loadGlobal_global (by rw [I.ok.glob]; exact I.mod.glob.keeps I.bk) hm h) hd
theorem ld_blt {E : Value → Shared → Prop} {pins : List (Addr × Obj)} {s : Shared} {σ : St} {H : Hp} {x : Str} {u : Value} {pos : Pos} {Q : Value → Shared → Prop} (I : Inv X pins σ H s) (hg : Gl X x) (hm : X.mg x = none) (hv : bootBuiltins x = some u) (h : Q u s)
    (hn : x ≠ "__name__" := by decide) (hd : (x == ("__debug__" : Str)) = false := by decide) : wpAny (model X.prog X.w) X.A (eval (.Name x pos) X.env) Q E s := by
  obtain ⟨mb, h1, h2⟩ := I.mod.blt
  exact Calls.Name_function_global I.ok.kind hg (Calls.loadGlobal_builtin (by rw [I.ok.glob]; exact I.mod.glob.keeps I.bk) hm (by rw [I.ok.blt]; exact h1.keeps I.bk) ((h2 x hn).trans hv) h) hd
theorem pe_glob {x : Str} {v : V} {u : Value} {pos : Pos} (hg : Gl X x) (hm : X.mg x = some u) (r : RelV v u) (hd : (x == ("__debug__" : Str)) = false := by decide) : PE X (.Name x pos) (tC v) :=
  fun _ _ _ H _ I h => ld_glob I hg hm ⟨v, H, I, r, h⟩ hd
theorem pe_bltn {x : Str} {v : V} {u : Value} {pos : Pos} (hg : Gl X x) (hm : X.mg x = none) (hv : bootBuiltins x = some u) (r : RelV v u) (hn : x ≠ "__name__" := by decide) (hd : (x == ("__debug__" : Str)) = false := by decide) : PE X (.Name x pos) (tC v) :=
  fun _ _ _ H _ I h => ld_blt I hg hm hv ⟨v, H, I, r, h⟩ hn hd
def t2I (ta tb : TE) (k : Int → Int → Hp → Prop) : St → Hp → Prop := fun σ H => ta σ H fun x H1 => tb σ H1 fun y H2 => ∃ i j, x = .int i ∧ y = .int j ∧ k i j H2
def tAdd (ta tb : TE) : TE := fun σ H Q => t2I ta tb (fun i j H2 => Q (.int (i + j)) H2) σ H
def tSub (ta tb : TE) : TE := fun σ H Q => t2I ta tb (fun i j H2 => Q (.int (i - j)) H2) σ H
def tMul (ta tb : TE) : TE := fun σ H Q => t2I ta tb (fun i j H2 => (-(2 ^ 64) < i ∧ i < 2 ^ 64) ∧ Q (.int (i * j)) H2) σ H
variable {a b : Expr} {ta tb : TE} {pos : Pos}
def PC (X : Cx) (op : CmpOp) (a b : Expr) (t : TE) : Prop :=
  ∀ (pins : List (Addr × Obj)) (s : Shared) (σ : St) (H : Hp) (Q : VK), Inv X pins σ H s → t σ H Q →
    wpAny (model X.prog X.w) X.A (eval a X.env) (fun v s₁ => wpAny (model X.prog X.w) X.A (eval b X.env) (fun u s₂ => wpAny (model X.prog X.w) X.A (compareOp op v u) (EP X pins σ Q) X.xe s₂) X.xe s₁) X.xe s
def tCmp (p : Int → Int → Bool) (ta tb : TE) : TE := fun σ H Q => t2I ta tb (fun i j H2 => Q (.bl (p i j)) H2) σ H
abbrev tLt : TE → TE → TE := tCmp fun i j => decide (i < j)
abbrev tLe : TE → TE → TE := tCmp fun i j => decide (i ≤ j)
abbrev tGt : TE → TE → TE := tCmp fun i j => decide (j < i)
abbrev tGe : TE → TE → TE := tCmp fun i j => decide (j ≤ i)
abbrev tEqI : TE → TE → TE := tCmp fun i j => decide (i = j)
abbrev tNeI : TE → TE → TE := tCmp fun i j => !decide (i = j)
def tIsN (ta : TE) : TE := fun σ H Q => ta σ H fun x H1 => Q (.bl (decide (x = .non))) H1
def tNotN (ta : TE) : TE := fun σ H Q => ta σ H fun x H1 => Q (.bl (!decide (x = .non))) H1
def tB (t : TE) : TT := fun σ H Q => t σ H fun x H1 => ∃ c, x = .bl c ∧ Q c H1
theorem pt_cmp {op : CmpOp} {t : TE} (h : PC X op a b t) (h1 : behindInMarks op b = false := by first | exact nobehind _ (by decide) (by decide) | rfl) : PT X (.Compare a [op] [b] pos) (tB t) := by
  intro pins s σ H Q I hw
  refine wpAny_isTrue_Compare1 (thn (h pins s σ H _ I hw) fun v s1 h1 => thn h1 fun u s2 h2 => thn h2 fun c s3 ⟨x, H1, I1, r1, q1⟩ => ?_) h1
  obtain ⟨d, rfl, q⟩ := q1
  cases r1
  exact wpAny_truthy_bool ⟨H1, I1, q⟩
theorem pt_val {e : Expr} {t : TE} (h : PE X e t) (he : ∀ whole, isTrue e X.env whole = (do let v ← whole; standAt e.pos; holding [v] (truthy v)) := by intro _; rfl) : PT X e (tB t) := by
  intro pins s σ H Q I hw
  refine isTrue_plain (thn (h pins s σ H _ I hw) fun v s1 ⟨x, H1, I1, r1, q1⟩ => ?_) (he _)
  obtain ⟨d, rfl, q⟩ := q1
  cases r1
  exact wpAny_truthy_bool ⟨H1, I1, q⟩
variable {tA tB' : TT} {rest : List Expr}
def tAnd (t u : TT) : TT := fun σ H Q => t σ H fun c H1 => if c = true then u σ H1 Q else Q false H1
def tOr (t u : TT) : TT := fun σ H Q => t σ H fun c H1 => if c = true then Q true H1 else u σ H1 Q
def tNot (t : TT) : TT := fun σ H Q => t σ H fun c H1 => Q (!c) H1
theorem pw_and1 (ha : PT X a tA) : PW X (.BoolOp .And [a] pos) tA := by
  intro wh pins s σ H Q I h
  refine isTrue_and (thn (ha pins s σ H Q I h) fun c s1 e => ?_)
  cases c with
  | true => exact isTrue_and_nil e
  | false => exact e
theorem pw_or1 (ha : PT X a tA) : PW X (.BoolOp .Or [a] pos) tA := by
  intro wh pins s σ H Q I h
  refine isTrue_or (thn (ha pins s σ H Q I h) fun c s1 e => ?_)
  cases c with
  | false => exact isTrue_or_nil e
  | true => exact e
theorem pw_and (ha : PT X a tA) (hb : PW X (.BoolOp .And (b :: rest) pos) tB') : PW X (.BoolOp .And (a :: b :: rest) pos) (tAnd tA tB') := by
  intro wh pins s σ H Q I h
  refine isTrue_and (thn (ha pins s σ H _ I h) fun c s1 ⟨H1, I1, q1⟩ => ?_)
  cases c with
  | true => exact hb wh pins s1 σ H1 Q I1 q1
  | false => exact ⟨H1, I1, q1⟩
theorem pw_or (ha : PT X a tA) (hb : PW X (.BoolOp .Or (b :: rest) pos) tB') : PW X (.BoolOp .Or (a :: b :: rest) pos) (tOr tA tB') := by
  intro wh pins s σ H Q I h
  refine isTrue_or (thn (ha pins s σ H _ I h) fun c s1 ⟨H1, I1, q1⟩ => ?_)
  cases c with
  | true => exact ⟨H1, I1, q1⟩
  | false => exact hb wh pins s1 σ H1 Q I1 q1
theorem pt_not (ha : PT X a tA) : PT X (.UnaryOp .Not a pos) (tNot tA) := by
  intro pins s σ H Q I h
  exact isTrue_not (ha pins s σ H (fun c H1 => Q (!c) H1) I h)
def tAndV (ta tb : TE) : TE := fun σ H Q => ta σ H fun x H1 => ∃ c, x = .bl c ∧ if c = true then tb σ H1 Q else Q (.bl false) H1
def tOrV (ta tb : TE) : TE := fun σ H Q => ta σ H fun x H1 => ∃ c, x = .bl c ∧ if c = true then Q (.bl true) H1 else tb σ H1 Q
def tNotV (ta : TE) : TE := fun σ H Q => ta σ H fun x H1 => ∃ c, x = .bl c ∧ Q (.bl (!c)) H1
theorem pe_one {op} {t : TE} (h : PE X a t) : PE X (.BoolOp op [a] pos) t := fun pins s σ H Q I hw => BoolOp_one (h pins s σ H Q I hw)
theorem pe_and (ha : PE X a ta) (hb : PE X (.BoolOp .And (b :: rest) pos) tb) : PE X (.BoolOp .And (a :: b :: rest) pos) (tAndV ta tb) := by
  intro pins s σ H Q I h
  refine BoolOp_and (thn (ha pins s σ H _ I h) fun v s1 ⟨x, H1, I1, r1, q1⟩ => ?_)
  obtain ⟨c, rfl, q1⟩ := q1
  cases r1
  refine wpAny_truthy_bool ?_
  cases c with
  | true => exact hb pins s1 σ H1 Q I1 q1
  | false => exact ⟨.bl false, H1, I1, rfl, q1⟩
theorem pe_or (ha : PE X a ta) (hb : PE X (.BoolOp .Or (b :: rest) pos) tb) : PE X (.BoolOp .Or (a :: b :: rest) pos) (tOrV ta tb) := by
  intro pins s σ H Q I h
  refine BoolOp_or (thn (ha pins s σ H _ I h) fun v s1 ⟨x, H1, I1, r1, q1⟩ => ?_)
  obtain ⟨c, rfl, q1⟩ := q1
  cases r1
  refine wpAny_truthy_bool ?_
  cases c with
  | false => exact hb pins s1 σ H1 Q I1 q1
  | true => exact ⟨.bl true, H1, I1, rfl, q1⟩
def tIf (t : TT) (ta tb : TE) : TE := fun σ H Q => t σ H fun c H1 => if c = true then ta σ H1 Q else tb σ H1 Q
end
end L2
namespace L2
open PySem PySem.Spec PyProof.Rows
def SqL (K : PySem.W.Frag) (H : Hp) (a : Addr) (xs : List V) : Prop :=
  Rd H a (.lst xs) ∨
    ∃ (o : Obj) (its : Array Value) (n : Nat), K.lookup a = some o ∧ o.cls = .type "list" ∧ o.dict = none ∧ o.data = .seq its n ∧ its.size ≤ sizeLine ∧ Vals xs its.toList
def SqT (K : PySem.W.Frag) (H : Hp) (a : Addr) (xs : List V) : Prop :=
  Rd H a (.tup xs) ∨
    ∃ (o : Obj) (its : Array Value) (n : Nat), K.lookup a = some o ∧ o.cls = .type "tuple" ∧ o.data = .seq its n ∧ its.size ≤ sizeLine ∧ Vals xs its.toList
def absV : Value → Option V
  | .none => some .non
  | .bool b => some (.bl b)
  | .int i _ => some (.int i)
  | .str x _ => some (.str x)
  | .bytes b _ => some (.byt b)
  | .float b _ => some (.flt b)
  | .ref a => some (.ref a)
  | .type n => some (.ty n)
  | _ => none
theorem RelV.abs {x : V} {u : Value} (r : RelV x u) : absV u = some x := by
  cases x with
  | non => cases r; rfl
  | bl _ => cases r; rfl
  | int _ => obtain ⟨t, rfl⟩ := r; rfl
  | str _ => obtain ⟨t, rfl⟩ := r; rfl
  | byt _ => obtain ⟨t, rfl⟩ := r; rfl
  | flt _ => obtain ⟨t, rfl⟩ := r; rfl
  | ref _ => cases r; rfl
  | ty _ => cases r; rfl
theorem RelV.inj {x y : V} {u : Value} (r : RelV x u) (q : RelV y u) : x = y := Option.some.inj (r.abs.symm.trans q.abs)
theorem Vals.inj : ∀ {xs ys : List V} {us : List Value}, Vals xs us → Vals ys us → xs = ys
  | _, _, _, .nil, .nil => rfl
  | _, _, _, .cons r t, .cons r' t' => by rw [r.inj r', Vals.inj t t']
section
variable {X : Cx} {pins : List (Addr × Obj)} {σ : St} {H : Hp} {s : Shared} {a : Addr} {xs ys : List V}
theorem SqL.of {K : PySem.W.Frag} (h : H a = some (.lst xs)) : SqL K H a xs := .inl (.inl h)
theorem SqT.of {K : PySem.W.Frag} (h : H a = some (.tup xs)) : SqT K H a xs := .inl (.inl h)
theorem Inv.list (I : Inv X pins σ H s) (h : SqL X.K H a xs) : ∃ its : List Value, Vals xs its ∧ PlainL s.heap a its.toArray ∧ xs.length ≤ sizeLine := by
  rcases h with h | ⟨o, its, n, hk, hc, hd, hs, hz, r⟩
  · obtain ⟨z, its, n, r, e⟩ := h.ok I.hok
    exact ⟨its, r, ⟨_, n, e, rfl, rfl, rfl⟩, z⟩
  · refine ⟨its.toList, r, ⟨o, n, I.kIn a o hk, hc, hd, by simpa using hs⟩, ?_⟩
    have e := r.length
    simp only [Array.length_toList] at e
    lia
theorem Inv.tuple (I : Inv X pins σ H s) (h : SqT X.K H a xs) : ∃ its : List Value, Vals xs its ∧ IsTup s.heap a its.toArray ∧ xs.length ≤ sizeLine := by
  rcases h with h | ⟨o, its, n, hk, hc, hs, hz, r⟩
  · obtain ⟨z, its, r, p⟩ := h.ok I.hok
    exact ⟨its, r, p, z⟩
  · refine ⟨its.toList, r, ⟨o, I.kIn a o hk, hc, n, by simpa using hs⟩, ?_⟩
    have e := r.length
    simp only [Array.length_toList] at e
    lia
theorem Inv.list_inj (I : Inv X pins σ H s) (h : SqL X.K H a xs) (h' : SqL X.K H a ys) : xs = ys := by
  obtain ⟨its, r, ⟨o, n, e, _, _, d⟩, _⟩ := I.list h
  obtain ⟨its', r', ⟨o', n', e', _, _, d'⟩, _⟩ := I.list h'
  rw [e] at e'; cases e'
  rw [d] at d'
  injection d' with d1 _
  have : its = its' := by simpa using congrArg Array.toList d1
  subst this
  exact r.inj r'
end
abbrev Cx.wish (X : Cx) (E : Value → Shared → Prop) : Cx := { X with xe := E }
abbrev Cx.nox (X : Cx) : Cx := X.wish fun _ _ => False
theorem Cx.Ok.wish {X : Cx} (ok : X.Ok) (E : Value → Shared → Prop) : (X.wish E).Ok :=
  ⟨ok.mod, ok.kind, ok.glob, ok.blt, ok.above, ok.inj, ok.has, ok.cab, ok.hd, ok.frames, ok.stk, ok.exf, ok.bs, ok.bsz, ok.noex, ok.exfs, ok.funs, ok.frf⟩
theorem Cx.Ok.unwish {X : Cx} {E : Value → Shared → Prop} (ok : (X.wish E).Ok) : X.Ok :=
  ⟨ok.mod, ok.kind, ok.glob, ok.blt, ok.above, ok.inj, ok.has, ok.cab, ok.hd, ok.frames, ok.stk, ok.exf, ok.bs, ok.bsz, ok.noex, ok.exfs, ok.funs, ok.frf⟩
section
variable {X : Cx} {pins : List (Addr × Obj)} {σ : St} {H : Hp} {s : Shared} {E : Value → Shared → Prop}
theorem Inv.wish (I : Inv X pins σ H s) (E : Value → Shared → Prop) : Inv (X.wish E) pins σ H s := ⟨I.ok.wish E, I.os, I.bare, I.base, I.loc, I.cell, I.free, I.freeC, I.pin, I.hok, I.len⟩
theorem Inv.unwish (I : Inv (X.wish E) pins σ H s) : Inv X pins σ H s := ⟨I.ok.unwish, I.os, I.bare, I.base, I.loc, I.cell, I.free, I.freeC, I.pin, I.hok, I.len⟩
theorem SP.unwish {D : Ends} {f : Flow} {s' : Shared} (h : SP (X.wish E) pins D f s') : SP X pins D f s' := by
  cases f with
  | next => obtain ⟨σ', H', I, q⟩ := h; exact ⟨σ', H', I.unwish, q⟩
  | brk => obtain ⟨σ', H', I, q⟩ := h; exact ⟨σ', H', I.unwish, q⟩
  | cont => obtain ⟨σ', H', I, q⟩ := h; exact ⟨σ', H', I.unwish, q⟩
  | ret u => obtain ⟨v, σ', H', I, r, q⟩ := h; exact ⟨v, σ', H', I.unwish, r, q⟩
theorem PSs.nox {st : List Stmt} {t : TS} (h : PSs X.nox st t) : PSs X st t := fun pins s σ H D I hw =>
  wpAny_mono (h pins s σ H D (I.wish _) hw) (fun _ _ q => q.unwish) fun _ _ z => False.elim z
end
section
variable {X : Cx} {st : Stmt} {rest : List Stmt} {t u : TS} {e : Expr} {te : TE} {pos : Pos}
def tNext : TS := fun D σ H => D.nx σ H
def tSeq (t u : TS) : TS := fun D σ H => t { D with nx := u D } σ H
theorem pss_nil : PSs X [] tNext := fun _ _ σ H _ I h => wpAny_execs_nil ⟨σ, H, I, h⟩
theorem pss_cons (h1 : PS X st t) (h2 : PSs X rest u) : PSs X (st :: rest) (tSeq t u) := by
  intro pins s σ H D I h
  refine wpAny_execs_cons (thn (h1 pins s σ H { D with nx := u D } I h) fun f s1 q => ?_)
  cases f with
  | next =>
    obtain ⟨σ', H', I', q⟩ := q
    exact h2 pins s1 σ' H' D I' q
  | ret v => exact q
  | brk => exact q
  | cont => exact q
theorem pss_one (h1 : PS X st t) : PSs X [st] t := by
  intro pins s σ H D I h
  refine wpAny_execs_cons (thn (h1 pins s σ H D I h) fun f s1 q => ?_)
  cases f with
  | next => exact wpAny_execs_nil q
  | ret v => exact q
  | brk => exact q
  | cont => exact q
def tBreak : TS := fun D σ H => D.bk σ H
def tCont : TS := fun D σ H => D.ct σ H
theorem Inv.quiet {pins : List (Addr × Obj)} {σ : St} {H : Hp} {s : Shared} (I : Inv X pins σ H s) : interactive X.env = false := by simp [interactive, I.ok.kind]
def tDrop (te : TE) : TS := fun D σ H => te σ H fun _ H1 => D.nx σ H1
theorem ps_expr (he : PE X e te) (hs : swapsWith e none pos.line X.env = pure false := by rfl) : PS X (.Expr e pos) (tDrop te) := by
  intro pins s σ H D I h
  exact wpAny_Expr_any (thn (he pins s σ H _ I h) fun v s1 ⟨x, H1, I1, r1, q1⟩ => ⟨σ, H1, I1, q1⟩) I.quiet hs
def tRet (te : TE) : TS := fun D σ H => te σ H D.rt
theorem ps_ret (he : PE X e te) : PS X (.Return (some e) pos) (tRet te) := by
  intro pins s σ H D I h
  exact wpAny_Return_some (thn (he pins s σ H _ I h) fun v s1 ⟨x, H1, I1, r1, q1⟩ => ⟨x, σ, H1, I1, r1, q1⟩)
def tRetN : TS := fun D _ H => D.rt .non H
def tIfS (c : TT) (t u : TS) : TS := fun D σ H => c σ H fun b H1 => if b = true then t D σ H1 else u D σ H1
theorem ps_if {c : Expr} {a b : List Stmt} {tc : TT} (hc : PT X c tc) (ha : PSs X a t) (hb : PSs X b u) : PS X (.If c a b pos) (tIfS tc t u) := by
  intro pins s σ H D I h
  refine wpAny_If (thn (hc pins s σ H _ I h) fun d s1 ⟨H1, I1, q1⟩ => ?_)
  cases d with
  | true => exact ha pins s1 σ H1 D I1 q1
  | false => exact hb pins s1 σ H1 D I1 q1
def tNever : TS := fun _ _ _ => False
theorem pss_never {sts : List Stmt} : PSs X sts tNever := fun _ _ _ _ _ _ h => h.elim
end
abbrev TG := V → St → Hp → (St → Hp → Prop) → Prop
abbrev TGs := List V → St → Hp → (St → Hp → Prop) → Prop
def PG (X : Cx) (target : Expr) (t : TG) : Prop :=
  ∀ (pins : List (Addr × Obj)) (s : Shared) (σ : St) (H : Hp) (v : V) (u : Value) (Q : St → Hp → Prop), Inv X pins σ H s → RelV v u → t v σ H Q →
    wpAny (model X.prog X.w) X.A (assign target X.env u) (fun _ s' => ∃ σ' H', Inv X pins σ' H' s' ∧ Q σ' H') X.xe s
def PGs (X : Cx) (ts : List Expr) (t : TGs) : Prop :=
  ∀ (pins : List (Addr × Obj)) (s : Shared) (σ : St) (H : Hp) (vs : List V) (us : List Value) (Q : St → Hp → Prop), Inv X pins σ H s → Vals vs us → t vs σ H Q →
    wpAny (model X.prog X.w) X.A (assignInOrder ((assignEach ts X.env).map (·.2)) us) (fun _ s' => ∃ σ' H', Inv X pins σ' H' s' ∧ Q σ' H') X.xe s
abbrev TSet := V → V → V → Hp → (Hp → Prop) → Prop
def PSet (X : Cx) (t : TSet) : Prop :=
  ∀ (pins : List (Addr × Obj)) (s : Shared) (σ : St) (H : Hp) (o i v : V) (ov iv u : Value) (Q : Hp → Prop), Inv X pins σ H s → RelV o ov → RelV i iv → RelV v u → t o i v H Q →
    wpAny (model X.prog X.w) X.A (setItem ov iv u) (fun _ s' => ∃ H', Inv X pins σ H' s' ∧ Q H') X.xe s
abbrev TIp := V → V → Hp → VK → Prop
def PIp (X : Cx) (op : Operator) (t : TIp) : Prop :=
  ∀ (pins : List (Addr × Obj)) (s : Shared) (σ : St) (H : Hp) (x y : V) (v u : Value) (Q : VK), Inv X pins σ H s → RelV x v → RelV y u → t x y H Q →
    wpAny (model X.prog X.w) X.A (inplaceOp op v u) (EP X pins σ Q) X.xe s
section
variable {X : Cx} {pos : Pos}
def gName (i : Nat) : TG := fun v σ H Q => Q (σ.set i (some v)) H
theorem pg_name {i : Nat} {x : Str} (hN : X.N.Nodup) (hi : X.N[i]? = some x) (hx : Loc X.env.scope x) (hf : X.fn x = true ∨ X.env.scope.names.lookup x = some .local := by first | exact .inl rfl | exact .inr rfl | assumption) : PG X (.Name x pos) (gName i) := by
  intro pins s σ H v u Q I r h
  exact wpAny_assign_Name (store_ok I hN hi hx r (fun s' I' => ⟨_, H, I', h⟩) hf)
def gNil : TGs := fun vs σ H Q => vs = [] ∧ Q σ H
def gCons (t : TG) (u : TGs) : TGs := fun vs σ H Q => ∃ v r, vs = v :: r ∧ t v σ H fun σ' H' => u r σ' H' Q
theorem pgs_nil : PGs X [] gNil := by
  intro pins s σ H vs us Q I r h
  obtain ⟨e, h⟩ := h
  subst e
  cases r
  exact assignInOrder_nil ⟨σ, H, I, h⟩
theorem pgs_cons {e : Expr} {es : List Expr} {t : TG} {u : TGs} (h1 : PG X e t) (h2 : PGs X es u)
    (hs : (assignEach (e :: es) X.env).map (·.2) = assign e X.env :: (assignEach es X.env).map (·.2) := by rfl) : PGs X (e :: es) (gCons t u) := by
  intro pins s σ H vs us Q I r h
  obtain ⟨v, vr, e1, h⟩ := h
  subst e1
  cases r with
  | cons r rr =>
    rw [hs]
    refine assignInOrder_cons (thn (h1 pins s σ H _ _ _ I r h) fun _ s1 ⟨σ1, H1, I1, q1⟩ => ?_)
    exact h2 pins s1 σ1 H1 _ _ Q I1 rr q1
def gTup (K : PySem.W.Frag) (n : Nat) (t : TGs) : TG := fun v σ H Q => ∃ a xs, v = .ref a ∧ SqT K H a xs ∧ xs.length = n ∧ t xs σ H Q
theorem pg_tup {es : List Expr} {k : Nat} {t : TGs} {n : Nat} (hc : X.calm = true) (h : PGs X es t)
    (hn : (assignEach es X.env).length = n := by rfl) (hst : (assignEach es X.env).findIdx? (·.1) = none := by rfl) : PG X (.Tuple es k pos) (gTup X.K n t) := by
  intro pins s σ H v u Q I r hw
  obtain ⟨a, xs, e1, hq, hl, hw⟩ := hw
  subst e1
  cases r
  obtain ⟨its, rv, ht, hz⟩ := I.tuple hq
  refine assign_Tuple_tuple (I.ok.hd hc) ht (by simp [hn, ← hl, rv.length]) hst fun h' hx => ?_
  have I1 : Inv X pins σ H { s with heap := h' } := I.kept (t' := s.toks) fun b o e => hx b o (Nat.ne_of_lt (Heap.lt_size e)) e
  exact h pins _ σ H xs _ Q I1 (by simpa using rv) hw
def gSub (to ti : TE) (t : TSet) : TG := fun v σ H Q => to σ H fun o H1 => ti σ H1 fun i H2 => t o i v H2 fun H3 => Q σ H3
def tAsg (te : TE) (g : TG) : TS := fun D σ H => te σ H fun x H1 => g x σ H1 D.nx
theorem ps_set {i : Nat} {x : Str} {e : Expr} {te : TE} {pos' : Pos} (hN : X.N.Nodup) (hi : X.N[i]? = some x) (hx : Loc X.env.scope x) (he : PE X e te) (hs : swapsWith e (some (.Name x pos')) pos.line X.env = pure false := by rfl) (hf : X.fn x = true ∨ X.env.scope.names.lookup x = some .local := by first | exact .inl rfl | exact .inr rfl | assumption) :
    PS X (.Assign [.Name x pos'] e pos) (tAsg te (gName i)) := by
  intro pins s σ H D I h
  refine wpAny_Assign_Name (thn (he pins s σ H _ I h) fun v s1 ⟨y, H1, I1, r1, q1⟩ => ?_) hs
  exact store_ok I1 hN hi hx r1 (fun s2 I2 => ⟨_, H1, I2, q1⟩) hf
def tPar (i j : Nat) (ta : TA) : TS := fun D σ H => ta σ H fun vs H1 => ∃ v w, vs = [v, w] ∧ D.nx ((σ.set i (some v)).set j (some w)) H1
def tAug (i : Nat) (te : TE) (ti : TIp) : TS := fun D σ H => ∃ x, σ[i]? = some (some x) ∧ te σ H fun y H1 => ti x y H1 fun z H2 => D.nx (σ.set i (some z)) H2
def tAugS (to ti te : TE) (tget : V → V → Hp → VK → Prop) (tip : TIp) (tset : TSet) : TS := fun D σ H => to σ H fun o H1 => ti σ H1 fun i H2 => tget o i H2 fun x H3 => te σ H3 fun y H4 => tip x y H4 fun z H5 => tset o i z H5 fun H6 => D.nx σ H6
def PGet (X : Cx) (t : V → V → Hp → VK → Prop) : Prop :=
  ∀ (pins : List (Addr × Obj)) (s : Shared) (σ : St) (H : Hp) (o i : V) (ov iv : Value) (Q : VK), Inv X pins σ H s → RelV o ov → RelV i iv → t o i H Q →
    wpAny (model X.prog X.w) X.A (getItem ov iv) (EP X pins σ Q) X.xe s
def ipI (f : Int → Int → Int) : TIp := fun x y H Q => ∃ i j, x = .int i ∧ y = .int j ∧ Q (.int (f i j)) H
end
section
variable {X : Cx} {pos : Pos}
def tWhile (c : TT) (tb : TS) : TS := fun D σ H => ∃ W : Nat → St → Hp → Prop, (∃ m, W m σ H) ∧ ∀ m σ H, W m σ H →
  c σ H fun b H1 => if b = true then ∃ N : St → Hp → Prop, (∀ σ' H', N σ' H' → ∃ m', m' < m ∧ W m' σ' H') ∧ tb { D with nx := N, ct := N, bk := D.nx } σ H1 else D.nx σ H1
theorem ps_while {c : Expr} {body : List Stmt} {tc : TT} {tb : TS} (hp : PassesOwn (model X.prog X.w) X.A X.env X.xe) (hc : PT X c tc) (hb : PSs X body tb) : PS X (.While c body [] pos) (tWhile tc tb) := by
  intro pins s σ H D I h
  obtain ⟨W, ⟨m0, w0⟩, turn⟩ := h
  refine wpAny_While (codeAny_whileLoop (fun n s' => ∃ σ' H', Inv X pins σ' H' s' ∧ W n σ' H') ?_ m0 ⟨σ, H, I, w0⟩)
  rintro n s1 ⟨σ1, H1, I1, w1⟩
  refine wpAny_passesOwn hp (thn (hc pins s1 σ1 H1 _ I1 (turn n σ1 H1 w1)) fun b s2 ⟨H2, I2, q2⟩ => ?_)
  cases b with
  | true =>
    obtain ⟨N, hN, q2⟩ := q2
    rw [if_pos rfl]
    refine wpAny_passesOwn hp (thn (hb pins s2 σ1 H2 _ I2 q2) fun f s3 q3 => ?_)
    cases f with
    | next =>
      obtain ⟨σ3, H3, I3, n3⟩ := q3
      obtain ⟨m', hm, w3⟩ := hN σ3 H3 n3
      exact ⟨m', hm, σ3, H3, I3, w3⟩
    | cont =>
      obtain ⟨σ3, H3, I3, n3⟩ := q3
      obtain ⟨m', hm, w3⟩ := hN σ3 H3 n3
      exact ⟨m', hm, σ3, H3, I3, w3⟩
    | brk => exact q3
    | ret v => exact q3
  | false =>
    rw [if_neg Bool.false_ne_true]
    exact wpAny_execs_nil ⟨σ1, H2, I2, q2⟩
end
structure It where
  go : Nat → Hp → Prop
  yld : Nat → Hp → V → Hp → Prop
  stop : Nat → Hp → Prop
def FpOk (X : Cx) (pins : List (Addr × Obj)) (H : Hp) (b : Addr) : Prop :=
  H b = none ∧ b ≠ X.env.locals ∧ b ∉ X.fs ∧ (b ∈ X.ex ∨ X.s₀.heap.objs.size ≤ b) ∧ (∀ x c, X.env.cells.lookup x = some c → c ≠ b) ∧ ∀ p ∈ X.pn ++ pins, p.1 ≠ b
theorem Inv.fpOk {X : Cx} {pins : List (Addr × Obj)} {σ : St} {H H' : Hp} {s : Shared} {b : Addr} (I : Inv X pins σ H s) (hb : s.heap.objs.size ≤ b) (hn : H' b = none) : FpOk X pins H' b := by
  refine ⟨hn, Nat.ne_of_gt (Nat.lt_of_lt_of_le I.lt hb), I.nofs hb, .inr (Nat.le_trans I.sz hb), fun x c e z => ?_, fun p hp z => ?_⟩
  · obtain ⟨v, q⟩ := I.cell x c e
    exact absurd (Nat.lt_of_lt_of_le q.lt (by rw [z]; exact hb)) (Nat.lt_irrefl _)
  · exact absurd (Nat.lt_of_lt_of_le (Heap.lt_size (I.pin p hp).1) (by rw [z]; exact hb)) (Nat.lt_irrefl _)
structure Turn (P : Program) (w : World) (K : PySem.W.Frag) (tg : Expr) (J : It) (fp : List Addr) (it : Addr) (tn : Nat → Heap → Prop) : Prop where
  mem : it ∈ fp
  obj : ∀ i h, tn i h → ∀ b ∈ fp, ∃ o, h.get? b = some o ∧ ∀ v, o.data ≠ .cell v
  keep : ∀ i h h', tn i h → (∀ b ∈ fp, ∀ o, h.get? b = some o → h'.get? b = some o) → tn i h'
  item : ∀ (X : Cx), X.prog = P → X.w = w → X.K = K → X.calm = true → ∀ (i : Nat) (pins : List (Addr × Obj)) (s : Shared) (σ : St) (H : Hp) (E : Value → Shared → Prop), Inv X pins σ H s → (∀ b ∈ fp, FpOk X pins H b) → tn i s.heap → J.go i H →
    wpAny (model P w) X.A (pyNext (.ref it)) (fun r s1 => ∃ u, r = some u ∧
      wpAny (model P w) X.A (letOwnedTupleGo tg (.ref it) u) (fun _ s2 => ∃ x H', Inv X pins σ H' s2 ∧ RelV x u ∧ J.yld i H x H' ∧ tn (i + 1) s2.heap ∧ ∀ b ∈ fp, H' b = none) E s1) E s
  done : ∀ (X : Cx), X.prog = P → X.w = w → X.K = K → X.calm = true → ∀ (i : Nat) (pins : List (Addr × Obj)) (s : Shared) (σ : St) (H : Hp) (E : Value → Shared → Prop), Inv X pins σ H s → (∀ b ∈ fp, FpOk X pins H b) → tn i s.heap → J.stop i H →
    wpAny (model P w) X.A (pyNext (.ref it)) (fun r s1 => r = none ∧ Inv X pins σ H s1) E s
  self : ∀ (A : Around) (i : Nat) (s : Shared) (Q : Value → Shared → Prop) (E : Value → Shared → Prop), tn i s.heap → Q (.ref it) s → wpAny (model P w) A (pyIter (.ref it)) Q E s
abbrev TI := St → Hp → (It → Hp → Prop) → Prop
def PIE (X : Cx) (pins : List (Addr × Obj)) (σ : St) (tg : Expr) (R : It → Hp → Prop) (itv : Value) (s2 : Shared) : Prop :=
  ∃ (it : Addr) (fp : List Addr) (tn : Nat → Heap → Prop) (J : It) (H' : Hp), itv = .ref it ∧ Inv X pins σ H' s2 ∧ Turn X.prog X.w X.K tg J fp it tn ∧ tn 0 s2.heap ∧ (∀ b ∈ fp, FpOk X pins H' b) ∧ R J H'
def PI (X : Cx) (tg iter : Expr) (wi : TI) : Prop :=
  ∀ (pins : List (Addr × Obj)) (s : Shared) (σ : St) (H : Hp) (R : It → Hp → Prop), Inv X pins σ H s → wi σ H R →
    wpAny (model X.prog X.w) X.A (eval iter X.env) (fun v s1 => wpAny (model X.prog X.w) X.A (pyIter v) (PIE X pins σ tg R) X.xe s1) X.xe s
theorem go_of {M : Model} {A : Around} {E : Value → Shared → Prop} {s : Shared} {tg : Expr} {it : Addr} {u : Value} {o : Obj} {n : String} {vs : Array Value} {Q : Unit → Shared → Prop} (ho : s.heap.get? it = some o) (hc : o.cls = .type n) (hd : o.data = .fields vs)
    (hn : ["enumerate", "zip", "dict_itemiterator", "dict_reverseitemiterator", "odict_iterator", "itertools.zip_longest", "itertools.pairwise"].contains n = false) (hQ : Q () s) : wpAny M A (letOwnedTupleGo tg (.ref it) u) Q E s := by
  unfold letOwnedTupleGo
  cases tg <;> first
    | exact wpAny_pure hQ
    | (cases u <;> first
        | exact wpAny_pure hQ
        | (refine wpAny_bind (wpAny_load ho ?_)
           rw [hc, hd]
           show wpAny M A (if (["enumerate", "zip", "dict_itemiterator", "dict_reverseitemiterator", "odict_iterator", "itertools.zip_longest", "itertools.pairwise"].contains n && vs[0]? == some (rawInt _)) = true then _ else _) Q E s
           rw [if_neg (by intro h; rw [hn, Bool.false_and] at h; cases h)]
           exact wpAny_pure hQ))
def Itl (K : PySem.W.Frag) (a : Addr) : It :=
  ⟨fun i H => ∃ xs x, SqL K H a xs ∧ xs[i]? = some x, fun i H x H' => H' = H ∧ ∀ xs, SqL K H a xs → xs[i]? = some x, fun i H => ∃ xs, SqL K H a xs ∧ xs.length ≤ i⟩
def Itt (K : PySem.W.Frag) (a : Addr) : It :=
  ⟨fun i H => ∃ xs x, SqT K H a xs ∧ xs[i]? = some x, fun i H x H' => H' = H ∧ ∀ xs, SqT K H a xs → xs[i]? = some x, fun i H => ∃ xs, SqT K H a xs ∧ xs.length ≤ i⟩
def Itr (lo : Int) (n : Nat) : It := ⟨fun i _ => i < n, fun i H x H' => H' = H ∧ x = .int (lo + i), fun i _ => n ≤ i⟩
theorem turn_list {P : Program} {w : World} {K : PySem.W.Frag} {tg : Expr} (a it : Addr) : Turn P w K tg (Itl K a) [it] it (fun i h => h.IsListIter it a i) where
  mem := by simp
  obj := fun i h st b hb => by
    have e : b = it := by simpa using hb
    subst e
    obtain ⟨o, e, c, d⟩ := st
    exact ⟨o, e, fun v z => by rw [d] at z; cases z⟩
  keep := fun i h h' st k => st.at fun o e => k it (by simp) o e
  item := by
    intro X hP hw hK hc i pins s σ H E I hf st hg
    subst hP hw hK
    obtain ⟨xs, x, hq, hx⟩ := hg
    obtain ⟨its, rv, p, hz⟩ := I.list hq
    obtain ⟨u, hu, ru⟩ := rv.get hx
    obtain ⟨f0, f1, f2, f3, f4, f5⟩ := hf it (by simp)
    refine wpAny_pyNext_list_item st p.isList (x := u) (by simpa using hu) fun h' st' sb => ?_
    have I1 : Inv X pins σ H { s with heap := h' } := I.turned (t' := s.toks) (fun b o hb e => (sb.2 b hb).trans e) f0 f1 f3 f4 f5
    obtain ⟨o, e, c, d⟩ := id st'
    exact ⟨u, rfl, go_of (s := { s with heap := h' }) e c d (by decide) ⟨x, H, I1, ru, ⟨rfl, fun ys hy => by rw [I.list_inj hy hq]; exact hx⟩, st', fun b hb => (hf b hb).1⟩⟩
  done := by
    intro X hP hw hK hc i pins s σ H E I hf st hg
    subst hP hw hK
    obtain ⟨xs, hq, hx⟩ := hg
    obtain ⟨its, rv, p, hz⟩ := I.list hq
    obtain ⟨f0, f1, f2, f3, f4, f5⟩ := hf it (by simp)
    have hl := rv.length
    exact wpAny_pyNext_list_end (I.ok.hd hc) st p.isList (by simp; lia) fun h' eb => ⟨rfl, I.turned (t' := s.toks) (fun b o hb e => eb b o hb e) f0 f1 f3 f4 f5⟩
  self := fun _ _ _ _ _ st h => wpAny_pyIter_listiter st h
end L2
namespace L2
open PySem PySem.Spec PyProof.Rows
section
variable {X : Cx} {tg : Expr}
def iList (K : PySem.W.Frag) (tl : TE) : TI := fun σ H R => tl σ H fun x H1 => ∃ a, x = .ref a ∧ (∃ xs, SqL K H1 a xs) ∧ R (Itl K a) H1
def iTup (K : PySem.W.Frag) (tl : TE) : TI := fun σ H R => tl σ H fun x H1 => ∃ a, x = .ref a ∧ (∃ xs, SqT K H1 a xs) ∧ R (Itt K a) H1
theorem pi_list {l : Expr} {tl : TE} (hl : PE X l tl) : PI X tg l (iList X.K tl) := by
  intro pins s σ H R I h
  refine thn (hl pins s σ H _ I h) fun v s1 ⟨x, H1, I1, r1, q1⟩ => ?_
  obtain ⟨a, e, ⟨xs, hq⟩, q⟩ := q1
  subst e
  cases r1
  obtain ⟨its, rv, p, hz⟩ := I1.list hq
  refine wpAny_pyIter_list p.isList ?_
  refine ⟨s1.heap.objs.size, [s1.heap.objs.size], _, _, H1, rfl, I1.kept (t' := s1.toks) fun b o e => Heap.get?_push_of_some _ e, turn_list a _, ⟨_, Heap.get?_push_size _ rfl, rfl, rfl⟩, fun b hb => ?_, q⟩
  have e : b = s1.heap.objs.size := by simpa using hb
  subst e
  exact I1.fpOk (Nat.le_refl _) (I1.hok.fresh (Nat.le_refl _))
def iRng1 (ta : TA) : TI := fun σ H R => ta σ H fun vs H1 => ∃ j : Int, vs = [.int j] ∧ -(2 ^ 62) ≤ j ∧ j < 2 ^ 62 ∧ R (Itr 0 j.toNat) H1
def iRng2 (ta : TA) : TI := fun σ H R => ta σ H fun vs H1 => ∃ i j : Int, vs = [.int i, .int j] ∧ (-(2 ^ 62) ≤ i ∧ i < 2 ^ 62 ∧ -(2 ^ 62) ≤ j ∧ j < 2 ^ 62) ∧ R (Itr i (j - i).toNat) H1
def tFor (wi : TI) (g : TG) (tb : TS) : TS := fun D σ H => wi σ H fun J H1 => ∃ W : Nat → Nat → St → Hp → Prop, (∃ m, W 0 m σ H1) ∧ ∀ i m σ H, W i m σ H →
  (J.stop i H ∧ D.nx σ H) ∨ (J.go i H ∧ ∃ N : St → Hp → Prop, (∀ σ' H', N σ' H' → ∃ m', m' < m ∧ W (i + 1) m' σ' H') ∧ ∀ x H', J.yld i H x H' → g x σ H' fun σ2 H2 => tb { D with nx := N, ct := N, bk := D.nx } σ2 H2)
def pinsAt (fp : List Addr) (h : Heap) : List (Addr × Obj) := fp.filterMap fun b => (h.get? b).map fun o => (b, o)
theorem mem_pinsAt {fp : List Addr} {h : Heap} {b : Addr} {o : Obj} (hb : b ∈ fp) (e : h.get? b = some o) : (b, o) ∈ pinsAt fp h := List.mem_filterMap.mpr ⟨b, hb, by rw [e]; rfl⟩
theorem of_pinsAt {fp : List Addr} {h : Heap} {p : Addr × Obj} (hp : p ∈ pinsAt fp h) : p.1 ∈ fp ∧ h.get? p.1 = some p.2 := by
  obtain ⟨b, hb, e⟩ := List.mem_filterMap.mp hp
  cases q : h.get? b with
  | none => rw [q] at e; cases e
  | some o =>
    rw [q] at e
    have e' : (b, o) = p := Option.some.inj e
    subst e'
    exact ⟨hb, q⟩
theorem Inv.pinned {pins : List (Addr × Obj)} {σ : St} {H : Hp} {s : Shared} {fp : List Addr} (I : Inv X pins σ H s) (hf : ∀ b ∈ fp, FpOk X pins H b) (ho : ∀ b ∈ fp, ∃ o, s.heap.get? b = some o ∧ ∀ v, o.data ≠ .cell v) : Inv X (pins ++ pinsAt fp s.heap) σ H s :=
  I.pins_of fun p hp => (List.mem_append.mp hp).elim (fun z => I.pin p (List.mem_append_right _ z)) fun z => by
    obtain ⟨hb, e⟩ := of_pinsAt z
    obtain ⟨f0, f1, f2, _⟩ := hf p.1 hb
    obtain ⟨o, e', d⟩ := ho p.1 hb
    rw [e] at e'; cases e'
    exact ⟨e, f0, f1, f2, d⟩
theorem Inv.unpinned {pins pl : List (Addr × Obj)} {σ : St} {H : Hp} {s : Shared} (I : Inv X (pins ++ pl) σ H s) : Inv X pins σ H s := I.pins_of fun p hp => I.pin p (List.mem_append_right _ (List.mem_append_left _ hp))
theorem ps_for {iter : Expr} {body : List Stmt} {wi : TI} {g : TG} {tb : TS} {pos : Pos} (hp : PassesOwn (model X.prog X.w) X.A X.env X.xe) (hc : X.calm = true) (hi : PI X tg iter wi) (hg : PG X tg g) (hb : PSs X body tb)
    (hs : ∀ x, foldedSetIterable iter X.env x = pure x := by intro _; rfl) : PS X (.For tg iter body [] pos) (tFor wi g tb) := by
  intro pins s σ H D I h
  refine wpAny_For (thn (hi pins s σ H _ I h) fun v s1 h1 => thn h1 fun itv s2 h2 => ?_) hs
  obtain ⟨it, fp, tn, J, H2, e, I2, T, st2, f2, W, ⟨m0, w0⟩, turn⟩ := h2
  subst e
  have stat : ∀ {H' : Hp}, (∀ b ∈ fp, H' b = none) → ∀ b ∈ fp, FpOk X pins H' b := fun hn b hb => ⟨hn b hb, (f2 b hb).2⟩
  refine codeAny_forLoop_any (fun n s' => ∃ i σ' H', Inv X pins σ' H' s' ∧ tn i s'.heap ∧ (∀ b ∈ fp, H' b = none) ∧ W i n σ' H') ?_ m0 ⟨0, σ, H2, I2, st2, fun b hb => (f2 b hb).1, w0⟩
  rintro n s3 ⟨i, σ3, H3, I3, st3, fr3, w3⟩
  rcases turn i n σ3 H3 w3 with ⟨stop, qn⟩ | ⟨go, N, hN, step⟩
  · refine wpAny_passesOwn hp (thn (T.done X rfl rfl rfl hc i pins s3 σ3 H3 X.xe I3 (stat fr3) st3 stop) fun r s4 ⟨hr, I4⟩ => ?_)
    subst hr
    exact wpAny_execs_nil ⟨σ3, H3, I4, qn⟩
  · refine wpAny_passesOwn hp (thn (T.item X rfl rfl rfl hc i pins s3 σ3 H3 X.xe I3 (stat fr3) st3 go) fun r s4 ⟨u, hr, h4⟩ => ?_)
    subst hr
    refine wpAny_passesOwn hp (thn h4 fun _ s5 ⟨x, H5, I5, r5, y5, st5, fr5⟩ => ?_)
    have I5' := I5.pinned (stat fr5) (T.obj _ _ st5)
    refine wpAny_passesOwn hp (thn (hg _ s5 σ3 H5 x u _ I5' r5 (step x H5 y5)) fun _ s6 ⟨σ6, H6, I6, q6⟩ => ?_)
    refine wpAny_passesOwn hp (thn (hb _ s6 σ6 H6 _ I6 q6) fun f s7 q7 => ?_)
    have again : ∀ {σ7 : St} {H7 : Hp}, Inv X (pins ++ pinsAt fp s5.heap) σ7 H7 s7 → N σ7 H7 → ∃ m, m < n ∧ ∃ i σ' H', Inv X pins σ' H' s7 ∧ tn i s7.heap ∧ (∀ b ∈ fp, H' b = none) ∧ W i m σ' H' := fun {σ7 H7} I7 n7 => by
      obtain ⟨m', hm, w7⟩ := hN σ7 H7 n7
      refine ⟨m', hm, i + 1, σ7, H7, I7.unpinned, T.keep _ _ _ st5 fun b hb o e => (I7.pin (b, o) (List.mem_append_right _ (List.mem_append_right _ (mem_pinsAt hb e)))).1, fun b hb => ?_, w7⟩
      obtain ⟨o, e, d⟩ := T.obj _ _ st5 b hb
      exact (I7.pin (b, o) (List.mem_append_right _ (List.mem_append_right _ (mem_pinsAt hb e)))).2.1
    cases f with
    | next => obtain ⟨σ7, H7, I7, n7⟩ := q7; exact again I7 n7
    | cont => obtain ⟨σ7, H7, I7, n7⟩ := q7; exact again I7 n7
    | brk => obtain ⟨σ7, H7, I7, q7⟩ := q7; exact ⟨σ7, H7, I7.unpinned, q7⟩
    | ret v => obtain ⟨x7, σ7, H7, I7, r7, q7⟩ := q7; exact ⟨x7, σ7, H7, I7.unpinned, r7, q7⟩
end
theorem for_list {K : PySem.W.Frag} {a : Addr} {xs : List V} {g : TG} {tb : TS} {D : Ends} {σ : St} {H : Hp} (Pv : Nat → St → Hp → Prop) (h0 : Pv 0 σ H) (hl : ∀ i σ H, i ≤ xs.length → Pv i σ H → SqL K H a xs)
    (hs : ∀ i x σ H, xs[i]? = some x → Pv i σ H → g x σ H fun σ2 H2 => tb { D with nx := Pv (i + 1), ct := Pv (i + 1), bk := D.nx } σ2 H2) (hd : ∀ σ H, Pv xs.length σ H → D.nx σ H) :
    ∃ W : Nat → Nat → St → Hp → Prop, (∃ m, W 0 m σ H) ∧ ∀ i m σ H, W i m σ H →
      ((Itl K a).stop i H ∧ D.nx σ H) ∨ ((Itl K a).go i H ∧ ∃ N : St → Hp → Prop, (∀ σ' H', N σ' H' → ∃ m', m' < m ∧ W (i + 1) m' σ' H') ∧ ∀ x H', (Itl K a).yld i H x H' → g x σ H' fun σ2 H2 => tb { D with nx := N, ct := N, bk := D.nx } σ2 H2) := by
  refine ⟨fun i m σ H => m = xs.length - i ∧ i ≤ xs.length ∧ Pv i σ H, ⟨xs.length, by simp, Nat.zero_le _, h0⟩, ?_⟩
  rintro i m σ H ⟨rfl, hi, p⟩
  have q := hl i σ H hi p
  by_cases hlt : i < xs.length
  · refine .inr ⟨⟨xs, xs[i], q, by simp [hlt]⟩, Pv (i + 1), fun σ' H' p' => ⟨xs.length - (i + 1), by lia, rfl, hlt, p'⟩, fun x H' y => ?_⟩
    obtain ⟨e, y⟩ := y
    subst e
    exact hs i x σ _ (y xs q) p
  · have e : i = xs.length := by lia
    subst e
    exact .inl ⟨⟨xs, q, Nat.le_refl _⟩, hd σ H p⟩
end L2
namespace L2
open PySem PySem.Spec PyProof.Rows
abbrev R2 := V → V → Hp → VK → Prop
def OpR (X : Cx) (f : Value → Value → Sem Value) (r : R2) : Prop :=
  ∀ (pins : List (Addr × Obj)) (s : Shared) (σ : St) (H : Hp) (x y : V) (v u : Value) (Q : VK), Inv X pins σ H s → RelV x v → RelV y u → r x y H Q →
    wpAny (model X.prog X.w) X.A (f v u) (EP X pins σ Q) X.xe s
def UnR (X : Cx) (f : Value → Sem Value) (r : V → Hp → VK → Prop) : Prop :=
  ∀ (pins : List (Addr × Obj)) (s : Shared) (σ : St) (H : Hp) (x : V) (v : Value) (Q : VK), Inv X pins σ H s → RelV x v → r x H Q →
    wpAny (model X.prog X.w) X.A (f v) (EP X pins σ Q) X.xe s
def CallR (X : Cx) (f : Value) (r : List V → Hp → VK → Prop) : Prop :=
  ∀ (pins : List (Addr × Obj)) (s : Shared) (σ : St) (H : Hp) (xs : List V) (us : List Value) (Q : VK), Inv X pins σ H s → Vals xs us → r xs H Q →
    wpAny (model X.prog X.w) X.A (call f us) (EP X pins σ Q) X.xe s
def TruR (X : Cx) (r : V → Hp → (Bool → Hp → Prop) → Prop) : Prop :=
  ∀ (pins : List (Addr × Obj)) (s : Shared) (σ : St) (H : Hp) (x : V) (v : Value) (Q : Bool → Hp → Prop), Inv X pins σ H s → RelV x v → r x H Q →
    wpAny (model X.prog X.w) X.A (truthy v) (TP X pins σ Q) X.xe s
def tOp (r : R2) (ta tb : TE) : TE := fun σ H Q => ta σ H fun x H1 => tb σ H1 fun y H2 => r x y H2 Q
def tUn (r : V → Hp → VK → Prop) (ta : TE) : TE := fun σ H Q => ta σ H fun x H1 => r x H1 Q
def rI (C : Int → Int → Prop) (g : Int → Int → V) : R2 := fun x y H Q => ∃ i j, x = .int i ∧ y = .int j ∧ C i j ∧ Q (g i j) H
def rI0 (g : Int → Int → V) : R2 := fun x y H Q => ∃ i j, x = .int i ∧ y = .int j ∧ Q (g i j) H
def rU (g : Int → V) : V → Hp → VK → Prop := fun x H Q => ∃ i, x = .int i ∧ Q (g i) H
section
variable {X : Cx} {a b c : Expr} {ta tb tc : TE} {pos : Pos}
theorem binT (ha : PE X a ta) (hb : PE X b tb) {pins : List (Addr × Obj)} {s : Shared} {σ : St} {H : Hp} {R : V → V → Hp → Prop} (I : Inv X pins σ H s)
    (h : ta σ H fun x H1 => tb σ H1 fun y H2 => R x y H2) {Q : Value → Shared → Prop} {f : Value → Value → Sem Value}
    (hf : ∀ v u s2 x y H2, Inv X pins σ H2 s2 → RelV x v → RelV y u → R x y H2 → wpAny (model X.prog X.w) X.A (f v u) Q X.xe s2) :
    wpAny (model X.prog X.w) X.A (eval a X.env) (fun v s₁ => wpAny (model X.prog X.w) X.A (eval b X.env) (fun u s₂ => wpAny (model X.prog X.w) X.A (f v u) Q X.xe s₂) X.xe s₁) X.xe s := by
  refine thn (ha pins s σ H _ I h) fun v s1 ⟨x, H1, I1, r1, q1⟩ => ?_
  refine thn (hb pins s1 σ H1 _ I1 q1) fun u s2 ⟨y, H2, I2, r2, q2⟩ => ?_
  exact hf v u s2 x y H2 I2 r1 r2 q2
theorem pe_op {op : Operator} {r : R2} (ho : OpR X (binaryOp op) r) (ha : PE X a ta) (hb : PE X b tb) : PE X (.BinOp a op b pos) (tOp r ta tb) := by
  intro pins s σ H Q I h
  exact wpAny_BinOp (binT ha hb I h fun v u s2 x y H2 I2 rx ry q => ho pins s2 σ H2 x y v u Q I2 rx ry q)
theorem pe_un {op : UnaryOp} {r : V → Hp → VK → Prop} (ho : UnR X (unaryOp op) r) (ha : PE X a ta) : PE X (.UnaryOp op a pos) (tUn r ta) := by
  intro pins s σ H Q I h
  exact UnaryOp_ (thn (ha pins s σ H _ I h) fun v s1 ⟨x, H1, I1, r1, q1⟩ => ho pins s1 σ H1 x v Q I1 r1 q1)
theorem opI {f : Value → Value → Sem Value} {C : Int → Int → Prop} {g : Int → Int → Int}
    (rule : ∀ (i j : Int) (t u : Tok) (s : Shared) (Q : Value → Shared → Prop) (E : Value → Shared → Prop), C i j → Q (.int (g i j) s.toks) { s with toks := s.toks + 1 } → wpAny (model X.prog X.w) X.A (f (.int i t) (.int j u)) Q E s) :
    OpR X f (rI C fun i j => .int (g i j)) := by
  intro pins s σ H x y v u Q I rx ry h
  obtain ⟨i, j, rfl, rfl, hc, q⟩ := h
  obtain ⟨t, rfl⟩ := rx
  obtain ⟨t', rfl⟩ := ry
  exact rule i j t t' s _ _ hc ⟨.int (g i j), H, I.tok _, ⟨_, rfl⟩, q⟩
theorem opI0 {f : Value → Value → Sem Value} {g : Int → Int → Int}
    (rule : ∀ (i j : Int) (t u : Tok) (s : Shared) (Q : Value → Shared → Prop) (E : Value → Shared → Prop), Q (.int (g i j) s.toks) { s with toks := s.toks + 1 } → wpAny (model X.prog X.w) X.A (f (.int i t) (.int j u)) Q E s) :
    OpR X f (rI0 fun i j => .int (g i j)) := by
  intro pins s σ H x y v u Q I rx ry h
  obtain ⟨i, j, rfl, rfl, q⟩ := h
  obtain ⟨t, rfl⟩ := rx
  obtain ⟨t', rfl⟩ := ry
  exact rule i j t t' s _ _ ⟨.int (g i j), H, I.tok _, ⟨_, rfl⟩, q⟩
theorem opB0 {f : Value → Value → Sem Value} {g : Int → Int → Bool}
    (rule : ∀ (i j : Int) (t u : Tok) (s : Shared) (Q : Value → Shared → Prop) (E : Value → Shared → Prop), Q (.bool (g i j)) s → wpAny (model X.prog X.w) X.A (f (.int i t) (.int j u)) Q E s) :
    OpR X f (rI0 fun i j => .bl (g i j)) := by
  intro pins s σ H x y v u Q I rx ry h
  obtain ⟨i, j, rfl, rfl, q⟩ := h
  obtain ⟨t, rfl⟩ := rx
  obtain ⟨t', rfl⟩ := ry
  exact rule i j t t' s _ _ ⟨.bl (g i j), H, I, rfl, q⟩
def CDiv (i j : Int) : Prop := 0 < j ∧ j < 1073741824
def CDivN (i j : Int) : Prop := j ≠ 0 ∧ j.natAbs < 1073741824
def CPow (i j : Int) : Prop := 0 ≤ j ∧ j ≤ 1000000 ∧ i.natAbs < 2 ^ 64
def CMul (i j : Int) : Prop := (-(2 ^ 64) < i ∧ i < 2 ^ 64) ∨ (-(2 ^ 64) < j ∧ j < 2 ^ 64)
theorem CMul.ok {i j : Int} (h : CMul i j) : IntMulOk i j := by
  rcases h with ⟨h1, h2⟩ | ⟨h1, h2⟩
  · exact .of_left (intBits_le_64 h1 h2)
  · exact .of_right (intBits_le_64 h1 h2)
theorem op_add : OpR X (binaryOp .Add) (rI0 fun i j => .int (i + j)) := opI0 fun _ _ _ _ _ _ _ q => add_int q
theorem op_mul : OpR X (binaryOp .Mult) (rI CMul fun i j => .int (i * j)) := opI fun _ _ _ _ _ _ _ hc q => mul_int q hc.ok
theorem op_fdiv : OpR X (binaryOp .FloorDiv) (rI CDiv fun i j => .int (i / j)) := opI fun i j _ _ _ _ _ hc q => by
  have h1 : (0 : Int) < j := hc.1
  have h2 : j < 1073741824 := hc.2
  exact floordiv_int (by lia) (by rw [Int.fdiv_eq_ediv_of_nonneg i (by lia)]; exact q) (.inl (PyProof.noPylong_small (by lia)))
theorem op_mod : OpR X (binaryOp .Mod) (rI (fun _ j => 0 < j) fun i j => .int (i % j)) := opI fun i j _ _ _ _ _ hc q => by
  have h1 : (0 : Int) < j := hc
  exact mod_int' (by lia) (by rw [Int.fmod_eq_emod_of_nonneg i (by lia)]; exact q)
theorem op_pow : OpR X (binaryOp .Pow) (rI CPow fun i j => .int (i ^ j.toNat)) := opI fun _ _ _ _ _ _ _ hc q => pow_int_small hc.1 hc.2.1 hc.2.2 q
theorem unI {f : Value → Sem Value} {g : Int → Int}
    (rule : ∀ (i : Int) (t : Tok) (s : Shared) (Q : Value → Shared → Prop) (E : Value → Shared → Prop), Q (.int (g i) s.toks) { s with toks := s.toks + 1 } → wpAny (model X.prog X.w) X.A (f (.int i t)) Q E s) :
    UnR X f (rU fun i => .int (g i)) := by
  intro pins s σ H x v Q I rx h
  obtain ⟨i, rfl, q⟩ := h
  obtain ⟨t, rfl⟩ := rx
  exact rule i t s _ _ ⟨.int (g i), H, I.tok _, ⟨_, rfl⟩, q⟩
theorem un_neg : UnR X (unaryOp .USub) (rU fun i => .int (-i)) := unI fun _ _ _ _ _ q => neg_int q
end
def scal : V → V → Bool
  | .non, .non => true | .non, .int _ => true | .int _, .non => true | .non, .bl _ => true | .bl _, .non => true | .non, .str _ => true | .str _, .non => true
  | .int _, .int _ => true | .bl _, .bl _ => true | .str _, .str _ => true | .byt _, .byt _ => true
  | .int _, .str _ => true | .str _, .int _ => true | .bl _, .str _ => true | .str _, .bl _ => true
  | _, _ => false
def rEq : R2 := fun x y H Q => scal x y = true ∧ Q (.bl (decide (x = y))) H
def rNe : R2 := fun x y H Q => scal x y = true ∧ Q (.bl (!decide (x = y))) H
theorem dec_int {i j : Int} : decide (V.int i = V.int j) = (i == j) := by
  rw [Bool.eq_iff_iff]
  simp
theorem dec_bl {i j : Bool} : decide (V.bl i = V.bl j) = (i == j) := by
  rw [Bool.eq_iff_iff]
  simp
theorem dec_str {i j : Str} : decide (V.str i = V.str j) = (i == j) := by
  rw [Bool.eq_iff_iff]
  simp
theorem dec_byt {i j : Array UInt8} : decide (V.byt i = V.byt j) = (i.toList == j.toList) := by
  rw [Bool.eq_iff_iff]
  cases i
  cases j
  simp
section
variable {X : Cx} {a b c : Expr} {ta tb tc : TE} {pos : Pos}
theorem fin_bl {pins : List (Addr × Obj)} {σ : St} {H : Hp} {s : Shared} {Q : VK} {k k' : Bool} (I : Inv X pins σ H s) (q : Q (.bl k) H) (e : k = k') : EP X pins σ Q (.bool k') s := by
  subst e
  exact ⟨.bl k, H, I, rfl, q⟩
theorem op_eq : OpR X (compareOp .Eq) rEq := by
  intro pins s σ H x y v u Q I rx ry h
  obtain ⟨hs, q⟩ := h
  cases x with
  | non =>
    cases rx
    cases y with
    | non => cases ry; exact PySem.EqNone.eq_none_none (fin_bl I q (by simp))
    | bl j => cases ry; exact PySem.EqNone.eq_none_bool (fin_bl I q (by simp))
    | int j => obtain ⟨t', rfl⟩ := ry; exact PySem.EqNone.eq_none_int (fin_bl I q (by simp))
    | str j => obtain ⟨t', rfl⟩ := ry; exact PySem.EqNone.eq_none_str (fin_bl I q (by simp))
    | _ => exact absurd (show false = true from hs) Bool.false_ne_true
  | bl i =>
    cases rx
    cases y with
    | non => cases ry; exact PySem.EqNone.eq_bool_none (fin_bl I q (by simp))
    | bl j => cases ry; exact eq_bool (fin_bl I q dec_bl)
    | str j => obtain ⟨t', rfl⟩ := ry; exact PySem.EqMixed.eq_bool_str (fin_bl I q (by simp))
    | _ => exact absurd (show false = true from hs) Bool.false_ne_true
  | int i =>
    obtain ⟨t, rfl⟩ := rx
    cases y with
    | non => cases ry; exact PySem.EqNone.eq_int_none (fin_bl I q (by simp))
    | int j => obtain ⟨t', rfl⟩ := ry; exact eq_int (fin_bl I q dec_int)
    | str j => obtain ⟨t', rfl⟩ := ry; exact PySem.EqMixed.eq_int_str (fin_bl I q (by simp))
    | _ => exact absurd (show false = true from hs) Bool.false_ne_true
  | str i =>
    obtain ⟨t, rfl⟩ := rx
    cases y with
    | non => cases ry; exact PySem.EqNone.eq_str_none (fin_bl I q (by simp))
    | bl j => cases ry; exact PySem.EqMixed.eq_str_bool (fin_bl I q (by simp))
    | int j => obtain ⟨t', rfl⟩ := ry; exact PySem.EqMixed.eq_str_int (fin_bl I q (by simp))
    | str j => obtain ⟨t', rfl⟩ := ry; exact eq_str (fin_bl I q dec_str)
    | _ => exact absurd (show false = true from hs) Bool.false_ne_true
  | byt i =>
    obtain ⟨t, rfl⟩ := rx
    cases y with
    | byt j => obtain ⟨t', rfl⟩ := ry; exact PySem.W.eq_bytes (fin_bl I q dec_byt)
    | _ => exact absurd (show false = true from hs) Bool.false_ne_true
  | _ => cases y <;> exact absurd (show false = true from hs) Bool.false_ne_true
theorem op_ne : OpR X (compareOp .NotEq) rNe := by
  intro pins s σ H x y v u Q I rx ry h
  obtain ⟨hs, q⟩ := h
  cases x with
  | non =>
    cases rx
    cases y with
    | non => cases ry; exact PySem.EqNone.ne_none_none (fin_bl I q (by simp))
    | bl j => cases ry; exact PySem.EqNone.ne_none_bool (fin_bl I q (by simp))
    | int j => obtain ⟨t', rfl⟩ := ry; exact PySem.EqNone.ne_none_int (fin_bl I q (by simp))
    | str j => obtain ⟨t', rfl⟩ := ry; exact PySem.EqNone.ne_none_str (fin_bl I q (by simp))
    | _ => exact absurd (show false = true from hs) Bool.false_ne_true
  | bl i =>
    cases rx
    cases y with
    | non => cases ry; exact PySem.EqNone.ne_bool_none (fin_bl I q (by simp))
    | bl j => cases ry; exact ne_bool (fin_bl I q (congrArg not dec_bl))
    | str j => obtain ⟨t', rfl⟩ := ry; exact PySem.EqMixed.ne_bool_str (fin_bl I q (by simp))
    | _ => exact absurd (show false = true from hs) Bool.false_ne_true
  | int i =>
    obtain ⟨t, rfl⟩ := rx
    cases y with
    | non => cases ry; exact PySem.EqNone.ne_int_none (fin_bl I q (by simp))
    | int j => obtain ⟨t', rfl⟩ := ry; exact ne_int (fin_bl I q (congrArg not dec_int))
    | str j => obtain ⟨t', rfl⟩ := ry; exact PySem.EqMixed.ne_int_str (fin_bl I q (by simp))
    | _ => exact absurd (show false = true from hs) Bool.false_ne_true
  | str i =>
    obtain ⟨t, rfl⟩ := rx
    cases y with
    | non => cases ry; exact PySem.EqNone.ne_str_none (fin_bl I q (by simp))
    | bl j => cases ry; exact PySem.EqMixed.ne_str_bool (fin_bl I q (by simp))
    | int j => obtain ⟨t', rfl⟩ := ry; exact PySem.EqMixed.ne_str_int (fin_bl I q (by simp))
    | str j => obtain ⟨t', rfl⟩ := ry; exact ne_str (fin_bl I q (congrArg not dec_str))
    | _ => exact absurd (show false = true from hs) Bool.false_ne_true
  | byt i =>
    obtain ⟨t, rfl⟩ := rx
    cases y with
    | byt j => obtain ⟨t', rfl⟩ := ry; exact PySem.W.ne_bytes (fin_bl I q (congrArg not dec_byt))
    | _ => exact absurd (show false = true from hs) Bool.false_ne_true
  | _ => cases y <;> exact absurd (show false = true from hs) Bool.false_ne_true
theorem op_lt : OpR X (compareOp .Lt) (rI0 fun i j => .bl (decide (i < j))) := opB0 fun _ _ _ _ _ _ _ q => lt_int q
theorem op_le : OpR X (compareOp .LtE) (rI0 fun i j => .bl (decide (i ≤ j))) := opB0 fun _ _ _ _ _ _ _ q => le_int q
theorem op_gt : OpR X (compareOp .Gt) (rI0 fun i j => .bl (decide (j < i))) := opB0 fun _ _ _ _ _ _ _ q => gt_int q
theorem op_in_str : OpR X (compareOp .In) (fun x y H Q => ∃ i j, x = .str i ∧ y = .str j ∧ Q (.bl (!(Builtin.Str.occurrences j i 0 j.length 1).isEmpty)) H) := by
  intro pins s σ H x y v u Q I rx ry h
  obtain ⟨i, j, rfl, rfl, q⟩ := h
  obtain ⟨t, rfl⟩ := rx
  obtain ⟨t', rfl⟩ := ry
  exact in_str (fin_bl I q rfl)
theorem op_isN : OpR X (compareOp .Is) (fun x y H Q => y = .non ∧ Q (.bl (decide (x = .non))) H) := by
  intro pins s σ H x y v u Q I rx ry h
  obtain ⟨rfl, q⟩ := h
  cases ry
  refine is_none_gen (fin_bl I q ?_)
  cases x <;> first
    | (cases rx; rfl)
    | (obtain ⟨t, rfl⟩ := rx; rfl)
def isObj : HO → Bool
  | .lst _ => true
  | .ins _ _ _ => true
  | _ => false
theorem nomark (b : Expr) {op : CmpOp} (h : op ≠ .In := by decide) (h2 : op ≠ .NotIn := by decide) : behindInMarks op b = false := by
  have e1 : (op == CmpOp.In) = false := by cases op <;> first | rfl | exact absurd rfl h
  have e2 : (op == CmpOp.NotIn) = false := by cases op <;> first | rfl | exact absurd rfl h2
  cases b <;> simp [behindInMarks, e1, e2]
theorem pe_cmpR {op : CmpOp} {r : R2} (ho : OpR X (compareOp op) r) (ha : PE X a ta) (hb : PE X b tb) (hm : behindInMarks op b = false) : PE X (.Compare a [op] [b] pos) (tOp r ta tb) := by
  intro pins s σ H Q I h
  exact wpAny_Compare1 (binT ha hb I h fun v u s2 x y H2 I2 rx ry q => ho pins s2 σ H2 x y v u Q I2 rx ry q) hm
def tTest (t : TE) : TT := fun σ H Q => t σ H fun x H' => ∃ k, x = .bl k ∧ Q k H'
theorem pt_cmpR {op : CmpOp} {r : R2} (ho : OpR X (compareOp op) r) (ha : PE X a ta) (hb : PE X b tb) (hm : behindInMarks op b = false) : PT X (.Compare a [op] [b] pos) (tTest (tOp r ta tb)) := by
  intro pins s σ H Q I h
  refine wpAny_isTrue_Compare1 (thn (ha pins s σ H _ I h) fun v s1 ⟨x, H1, I1, r1, q1⟩ => thn (hb pins s1 σ H1 _ I1 q1) fun u s2 ⟨y, H2, I2, r2, q2⟩ =>
    thn (ho pins s2 σ H2 x y v u _ I2 r1 r2 q2) fun c s3 ⟨z, H3, I3, r3, k, e, q3⟩ => ?_) hm
  subst e
  cases r3
  exact wpAny_truthy_bool ⟨H3, I3, q3⟩
def tChain (r r' : R2) (ta tb tc : TE) : TE := fun σ H Q => ta σ H fun x H1 => tb σ H1 fun y H2 => r x y H2 fun z H3 => ∃ k, z = .bl k ∧
  (if k = true then tc σ H3 fun w' H4 => r' y w' H4 Q else Q (.bl false) H3)
theorem pe_chain {op op' : CmpOp} {r r' : R2} (ho : OpR X (compareOp op) r) (ho' : OpR X (compareOp op') r') (ha : PE X a ta) (hb : PE X b tb) (hc : PE X c tc)
    (hm : lastMarks [op, op'] [b, c] = false := by with_unfolding_all rfl) : PE X (.Compare a [op, op'] [b, c] pos) (tChain r r' ta tb tc) := by
  intro pins s σ H Q I h
  refine Compare_chain (thn (ha pins s σ H _ I h) fun v s1 ⟨x, H1, I1, r1, q1⟩ => chain_link (thn (hb pins s1 σ H1 _ I1 q1) fun u s2 ⟨y, H2, I2, r2, q2⟩ =>
    thn (ho pins s2 σ H2 x y v u _ I2 r1 r2 q2) fun d s3 ⟨z, H3, I3, r3, k, e, q3⟩ => ?_)) hm
  subst e
  cases r3
  refine wpAny_truthy_bool ?_
  cases k with
  | false => exact ite_ff ⟨.bl false, H3, I3, rfl, q3⟩
  | true => exact ite_tt (chain_last (thn (hc pins s3 σ H3 _ I3 q3) fun w' s4 ⟨z', H4, I4, r4, q4⟩ => ho' pins s4 σ H4 y z' u w' Q I4 r2 r4 q4))
theorem pt_chain {op op' : CmpOp} {r r' : R2} (ho : OpR X (compareOp op) r) (ho' : OpR X (compareOp op') r') (ha : PE X a ta) (hb : PE X b tb) (hc : PE X c tc)
    (hm : lastMarks [op, op'] [b, c] = false := by with_unfolding_all rfl) : PT X (.Compare a [op, op'] [b, c] pos) (tTest (tChain r r' ta tb tc)) := by
  intro pins s σ H Q I h
  refine isTrue_chain (thn (ha pins s σ H _ I h) fun v s1 ⟨x, H1, I1, r1, q1⟩ => test_link (thn (hb pins s1 σ H1 _ I1 q1) fun u s2 ⟨y, H2, I2, r2, q2⟩ =>
    thn (ho pins s2 σ H2 x y v u _ I2 r1 r2 q2) fun d s3 ⟨z, H3, I3, r3, k, e, q3⟩ => ?_)) hm
  subst e
  cases r3
  refine wpAny_truthy_bool ?_
  cases k with
  | false =>
    obtain ⟨k', e', q'⟩ := q3
    cases e'
    exact ite_ff ⟨H3, I3, q'⟩
  | true =>
    refine ite_tt (test_last (thn (hc pins s3 σ H3 _ I3 q3) fun w' s4 ⟨z', H4, I4, r4, q4⟩ => thn (ho' pins s4 σ H4 y z' u w' _ I4 r2 r4 q4) fun d' s5 ⟨z2, H5, I5, r5, k2, e2, q5⟩ => ?_))
    subst e2
    cases r5
    exact wpAny_truthy_bool ⟨H5, I5, q5⟩
def TruV (K : PySem.W.Frag) (x : V) (H : Hp) (k : Bool) : Prop :=
  match x with
  | .non => k = false
  | .bl b => k = b
  | .int i => k = (i != 0)
  | .str y => y.length ≤ sizeLine ∧ k = ((y.length : Int) != 0)
  | .byt y => y.size ≤ sizeLine ∧ k = ((y.size : Int) != 0)
  | .ref p => (∃ xs, SqL K H p xs ∧ k = !xs.isEmpty) ∨ (∃ xs, SqT K H p xs ∧ k = !xs.isEmpty) ∨ ∃ kvs, H p = some (.dK kvs) ∧ k = !kvs.isEmpty
  | _ => False
theorem line63 : (sizeLine : Nat) < 2 ^ 63 := by rw [sizeLine_eq]; decide
theorem op_add_str : OpR X (binaryOp .Add) (fun x y H Q => ∃ i j, x = .str i ∧ y = .str j ∧ i.length + j.length ≤ sizeLine ∧ Q (.str (i ++ j)) H) := by
  intro pins s σ H x y v u Q I rx ry h
  obtain ⟨i, j, rfl, rfl, hz, q⟩ := h
  obtain ⟨t, rfl⟩ := rx
  obtain ⟨t', rfl⟩ := ry
  exact add_str (fun t' tk => ⟨.str (i ++ j), H, I.tok _, ⟨_, rfl⟩, q⟩) hz
def PlainIxT (b : Expr) : Prop := ∀ o i, subscripted b false o i = operate [o, i] (getItem o i)
theorem vals1 {x : V} {us : List Value} (r : Vals [x] us) : ∃ u, us = [u] ∧ RelV x u := by
  cases r with
  | cons r1 r2 => cases r2; exact ⟨_, rfl, r1⟩
theorem vals2 {x y : V} {us : List Value} (r : Vals [x, y] us) : ∃ u w', us = [u, w'] ∧ RelV x u ∧ RelV y w' := by
  cases r with
  | cons r1 r2 =>
    cases r2 with
    | cons r3 r4 => cases r4; exact ⟨_, _, rfl, r1, r3⟩
theorem call_max2 (hc : X.calm = true) : CallR X (.builtin "max") (fun xs H Q => ∃ i j, xs = [.int i, .int j] ∧ Q (.int (if j > i then j else i)) H) := by
  intro pins s σ H xs us Q I r h
  obtain ⟨i, j, rfl, q⟩ := h
  obtain ⟨u, w', rfl, ⟨t, rfl⟩, ⟨t', rfl⟩⟩ := vals2 r
  refine max_two_ints (I.ok.hd hc) fun h' tk k => ⟨_, H, I.kept k, ?_, q⟩
  by_cases hj : j > i
  · rw [if_pos hj, if_pos hj]; exact ⟨_, rfl⟩
  · rw [if_neg hj, if_neg hj]; exact ⟨_, rfl⟩
def LenV (K : PySem.W.Frag) (x : V) (H : Hp) (n : Nat) : Prop :=
  match x with
  | .str y => y.length ≤ sizeLine ∧ n = y.length
  | .byt y => y.size ≤ sizeLine ∧ n = y.size
  | .ref p => (∃ xs, SqL K H p xs ∧ n = xs.length) ∨ ∃ xs, SqT K H p xs ∧ n = xs.length
  | _ => False
theorem call_len : CallR X (.builtin "len") (fun xs H Q => ∃ x n, xs = [x] ∧ LenV X.K x H n ∧ Q (.int n) H) := by
  intro pins s σ H xs us Q I r h
  obtain ⟨x, n, rfl, e, q⟩ := h
  obtain ⟨u, rfl, rx⟩ := vals1 r
  have hl := line63
  have hs : sizeLine = 16777216 := sizeLine_eq
  cases x with
  | str y =>
    obtain ⟨t, rfl⟩ := rx
    obtain ⟨hy, e'⟩ : y.length ≤ sizeLine ∧ n = y.length := e
    subst e'
    exact len_str (by lia) ⟨.int _, H, I.tok _, ⟨_, rfl⟩, q⟩
  | byt y =>
    obtain ⟨t, rfl⟩ := rx
    obtain ⟨hy, e'⟩ : y.size ≤ sizeLine ∧ n = y.size := e
    subst e'
    exact PySem.W.len_bytes (by lia) ⟨.int _, H, I.tok _, ⟨_, rfl⟩, q⟩
  | ref p =>
    cases rx
    have e' : (∃ xs, SqL X.K H p xs ∧ n = xs.length) ∨ ∃ xs, SqT X.K H p xs ∧ n = xs.length := e
    rcases e' with ⟨xs, hx, e'⟩ | ⟨xs, hx, e'⟩
    · subst e'
      obtain ⟨its, r', pl, hz⟩ := I.list hx
      have hlen := r'.length
      exact Calls.call_len_list pl.isList (by simp only [List.size_toArray]; lia) ⟨.int xs.length, H, I.tok _, ⟨_, by simp only [List.size_toArray]; rw [hlen]⟩, q⟩
    · subst e'
      obtain ⟨its, r', pl, hz⟩ := I.tuple hx
      have hlen := r'.length
      exact len_tuple pl (by simp only [List.size_toArray]; lia) ⟨.int xs.length, H, I.tok _, ⟨_, by simp only [List.size_toArray]; rw [hlen]⟩, q⟩
  | _ => exact (show False from e).elim
end
end L2
namespace L2
open PySem PySem.Spec PyProof.Rows
structure ObjM (h : Heap) (x dx C : Addr) (mA : Str → Option Value) : Prop where
  obj : h.get? x = some (PySem.W.instObj C dx)
  ns : h.Ns1 dx mA
  ne : dx ≠ x
theorem lookIn_ns {h : Heap} {dx : Addr} {mA : Str → Option Value} (n : h.Ns1 dx mA) : ∃ od, h.get? dx = some od ∧ ∀ name, PySem.W.lookIn name od = some (mA name) := by
  obtain ⟨o, es, ep, ho, hd, hk, _, hm⟩ := n
  refine ⟨o, ho, fun name => ?_⟩
  have e := hm name
  unfold nsFind findBy at e
  rw [← Array.find?_toList] at e
  unfold PySem.W.lookIn
  rw [hd]
  dsimp only
  split
  · rename_i y q
    rw [q] at e
    exact congrArg some e
  · rename_i q
    rw [q] at e
    have a : es.toList.any (·.refKey) = false := by
      rw [List.any_eq_false]
      intro y hy
      obtain ⟨z, t, hkey⟩ := hk y (Array.mem_toList_iff.mp hy)
      simp [DictEntry.refKey, hkey]
    have a' : ¬ es.toList.any (·.refKey) = true := by rw [a]; exact Bool.false_ne_true
    rw [if_neg a']
    exact congrArg some e
theorem ObjM.look {h : Heap} {x dx C : Addr} {mA : Str → Option Value} (I : ObjM h x dx C mA) : ∃ od, PySem.W.InstAt h x (PySem.W.instObj C dx) C (some od) ∧ ∀ name, PySem.W.lookIn name od = some (mA name) :=
  let ⟨od, ho, hl⟩ := lookIn_ns I.ns
  ⟨od, ⟨I.obj, rfl, rfl, ho⟩, hl⟩
section
variable {prog : Program} {w : World} {A : Around} {E : Value → Shared → Prop} {s : Shared} {K : PySem.W.Frag} {x dx C f : Addr} {mA : Str → Option Value} {name : Str} {v : Value}
theorem get_map {expr : Bool} {Q : Value → Shared → Prop} (X : K.In s.heap) (I : ObjM s.heap x dx C mA) (hg : PySem.W.plainGet K C name = true) (hh : PySem.W.hasDictIn K C = true)
    (ha : PySem.W.findIn K (.ref C) name = some none) (hv : mA name = some v) (hv' : PySem.W.handedIn v = true) (h : Q v { s with toks := s.toks + 1 }) :
    wpAny (model prog w) A (getAttr (.ref x) name expr) Q E s := by
  obtain ⟨od, J, hl⟩ := I.look
  exact PySem.W.get_value X J (PySem.W.plainGet_of hg).1 (PySem.W.findObj_own hh ha rfl (by rw [hl, hv])) hv' h
theorem get_meth {pl : Sem Bool} {Q : Value × List Value → Shared → Prop} (X : K.In s.heap) (I : ObjM s.heap x dx C mA) (hg : PySem.W.plainGet K C name = true)
    (hf : PySem.W.findIn K (.ref C) name = some (some (.ref f))) (ht : PySem.W.isFn K (.ref f) = true) (hv : mA name = none) (h : Q (.ref f, [.ref x]) s) :
    wpAny (model prog w) A (getMethod (.ref x) name pl) Q E s := by
  obtain ⟨od, J, hl⟩ := I.look
  exact PySem.W.method_fn X J (PySem.W.plainGet_of hg).1 (PySem.W.plainGet_of hg).2 hf (beq_iff_eq.mp ht) (by show (PySem.W.lookIn name od).map (·.isSome) = some false; rw [hl, hv]; rfl) h
theorem set_map {ns : List Str} {Q : Unit → Shared → Prop} (X : K.In s.heap) (I : ObjM s.heap x dx C mA)
    (hs : PySem.W.findIn K (.ref C) "__setattr__" = some (some (.builtin "object.__setattr__"))) (hp : PySem.W.plainOver K C = true) (ht : PySem.W.takerIn K C name = some none) (hh : PySem.W.hasDictIn K C = true)
    (hw : PySem.Within mA ns) (hsz : ns.length ≤ sizeLine)
    (h : ∀ h', ObjM h' x dx C (fun y => if y = name then some v else mA y) → Heap.SameBut dx s.heap h' → Q () { s with heap := h', toks := s.toks + 2 }) :
    wpAny (model prog w) A (setAttr (.ref x) name v) Q E s := by
  obtain ⟨od, J, hl⟩ := I.look
  refine PySem.W.set_plain X J hs (PySem.W.osa_open (s := { s with toks := s.toks + 1 }) (r := none) X J hp ht fun b => ?_)
  obtain ⟨cd, hc, hd'⟩ := PySem.W.any_some hh
  have hx : s.heap.get? x = some ⟨.ref C, some dx, .plain, #[]⟩ := I.obj
  refine wpAny_bind (wpAny_pure (wpAny_bind (wpAny_bind (wpAny_loadPart hx (wpAny_bind (PySem.W.Looks.here (s := { s with toks := s.toks + 1 }) (PySem.W.looks_clsIn X hc) ?_))))))
  rw [hd']
  refine wpAny_pure (a := some dx) (wpAny_bind (wpAny_pure (wpAny_bind ?_)))
  refine wpAny_nsSet1 (s := { s with toks := s.toks + 1 }) I.ns fun h' hn2 hs2 => ?_
  obtain ⟨oD, esD, epD, hoD, hdD, hcD⟩ := hn2.count (PySem.Within.cons name v hw)
  refine wpAny_bind (wpAny_lookBehind hoD (by rw [hdD]; exact pastItsLine_dict (Nat.le_trans hcD (by rw [List.length_cons]; lia))) ?_)
  exact wpAny_pure (h _ ⟨(hs2.2 _ (Ne.symm I.ne)).trans I.obj, hn2, I.ne⟩ hs2)
theorem make_map {R : Result → Shared → Prop} {vs : List Value} {kw : List (Str × Value)} (X : K.In s.heap) (hm : PySem.W.makesIn K C = true)
    (hi : PySem.W.findIn K (.ref C) "__init__" = some (some (.ref f))) (hf : PySem.W.typeIn K (.ref f) = some (.type "function"))
    (h : codeAny (model prog w) (A.under (.builtin "type.__call__" ⟨.ref C :: vs, kw⟩)) (.call (.ref f) ⟨.ref (s.heap.objs.size + 1) :: vs, kw⟩) (PySem.W.InitBack (s.heap.objs.size + 1) R)
      { s with heap := (s.heap.push PySem.W.emptyDict).push (PySem.W.instObj C s.heap.objs.size) }) :
    codeAny (model prog w) A (.call (.ref C) ⟨vs, kw⟩) R s := by
  obtain ⟨hh, g, d, t, os⟩ := s
  exact PySem.W.make_core (PySem.W.makes_of X hm) (PySem.W.looks_findIn X hi) (fun self => PySem.W.bind_fn X self hf) (.inl rfl) h
end
def putF (f : Str) (v : V) : List (Str × V) → List (Str × V)
  | [] => [(f, v)]
  | (g, x) :: r => if g = f then (g, v) :: r else (g, x) :: putF f v r
theorem lookup_putF (f g : Str) (v : V) : ∀ fs : List (Str × V), (putF f v fs).lookup g = if g = f then some v else fs.lookup g
  | [] => by
    show List.lookup g [(f, v)] = _
    by_cases h : g = f
    · have hb : (g == f) = true := beq_iff_eq.mpr h
      simp only [List.lookup, hb, if_pos h]
    · have hb : (g == f) = false := beq_eq_false_iff_ne.mpr h
      simp only [List.lookup, hb, if_neg h]
  | (k, x) :: r => by
    have ih := lookup_putF f g v r
    rw [show putF f v ((k, x) :: r) = (if k = f then (k, v) :: r else (k, x) :: putF f v r) from rfl]
    by_cases hk : k = f
    · rw [if_pos hk]
      by_cases h : g = k
      · have hb : (g == k) = true := beq_iff_eq.mpr h
        simp only [List.lookup, hb, if_pos (h.trans hk)]
      · have hb : (g == k) = false := beq_eq_false_iff_ne.mpr h
        simp only [List.lookup, hb, if_neg (fun e : g = f => h (e.trans hk.symm))]
    · rw [if_neg hk]
      by_cases h : g = k
      · have hb : (g == k) = true := beq_iff_eq.mpr h
        simp only [List.lookup, hb, if_neg (fun e : g = f => hk (h.symm.trans e))]
      · have hb : (g == k) = false := beq_eq_false_iff_ne.mpr h
        simp only [List.lookup, hb]
        exact ih
theorem keys_putF (f : Str) (v : V) : ∀ fs : List (Str × V), f ∈ (putF f v fs).map (·.1) ∧ ∀ g, g ∈ fs.map (·.1) → g ∈ (putF f v fs).map (·.1)
  | [] => ⟨by simp [putF], fun g h => by simp at h⟩
  | (k, x) :: r => by
    obtain ⟨i1, i2⟩ := keys_putF f v r
    rw [show putF f v ((k, x) :: r) = (if k = f then (k, v) :: r else (k, x) :: putF f v r) from rfl]
    by_cases hk : k = f
    · rw [if_pos hk]
      subst hk
      exact ⟨by simp, fun g h => by simpa using h⟩
    · rw [if_neg hk]
      refine ⟨?_, fun g h => ?_⟩
      · rw [List.map_cons]
        exact List.mem_cons_of_mem _ i1
      · rw [List.map_cons] at h ⊢
        rcases List.mem_cons.mp h with e | e
        · exact List.mem_cons.mpr (.inl e)
        · exact List.mem_cons_of_mem _ (i2 g e)
theorem length_putF (f : Str) (v : V) : ∀ fs : List (Str × V), (putF f v fs).length ≤ fs.length + 1
  | [] => by simp [putF]
  | (k, x) :: r => by
    have ih := length_putF f v r
    rw [show putF f v ((k, x) :: r) = (if k = f then (k, v) :: r else (k, x) :: putF f v r) from rfl]
    by_cases hk : k = f
    · rw [if_pos hk, List.length_cons, List.length_cons]; lia
    · rw [if_neg hk, List.length_cons, List.length_cons]; lia
theorem RelO.some_of {v : V} {o : Option Value} (r : RelO (some v) o) : ∃ u, o = some u ∧ RelV v u := by
  cases o with
  | none => exact (show False from r).elim
  | some u => exact ⟨u, rfl, r⟩
theorem RelO.none_of {o : Option Value} (r : RelO none o) : o = none := by
  cases o with
  | none => rfl
  | some u => exact (show False from r).elim
theorem handed_of {v : V} {u : Value} (r : RelV v u) : PySem.W.handedIn u = true := by
  cases v with
  | non => cases (show u = Value.none from r); rfl
  | bl b => cases (show u = Value.bool b from r); rfl
  | int i => obtain ⟨t, e⟩ := (show ∃ t, u = Value.int i t from r); cases e; rfl
  | str x => obtain ⟨t, e⟩ := (show ∃ t, u = Value.str x t from r); cases e; rfl
  | byt b => obtain ⟨t, e⟩ := (show ∃ t, u = Value.bytes b t from r); cases e; rfl
  | flt b => obtain ⟨t, e⟩ := (show ∃ t, u = Value.float b t from r); cases e; rfl
  | ref a => cases (show u = Value.ref a from r); rfl
  | ty n => cases (show u = Value.type n from r); rfl
section
variable {P : Program} {w : World} {H H' : Hp} {h h' : Heap} {a C dx : Addr} {fs fs' : List (Str × V)}
theorem ins_get (hok : HOk P w H h) (e : H a = some (.ins C dx fs)) : ∃ mA, ObjM h a dx C mA ∧ (∀ f, RelO (fs.lookup f) (mA f)) ∧ PySem.Within mA (fs.map (·.1)) ∧ fs.length ≤ 1000 ∧ H dx = some (.own a) := by
  obtain ⟨d, z, ne, ob, mA, n, r, q⟩ := (show ObjOk P w H h a (.ins C dx fs) from hok a _ e)
  exact ⟨mA, ⟨ob, n, ne⟩, r, q, z, d⟩
end
structure Cls (K : PySem.W.Frag) (C : Addr) : Prop where
  pg : PySem.W.plainGet K C Str.empty = true
  hd : PySem.W.hasDictIn K C = true
  po : PySem.W.plainOver K C = true
  sa : PySem.W.findIn K (.ref C) "__setattr__" = some (some (.builtin "object.__setattr__"))
theorem Cls.get {K : PySem.W.Frag} {C : Addr} (c : Cls K C) (f : Str) : PySem.W.plainGet K C f = true := c.pg
def NoAttr (K : PySem.W.Frag) (C : Addr) (f : Str) : Prop := PySem.W.findIn K (.ref C) f = some none
theorem NoAttr.taker {K : PySem.W.Frag} {C : Addr} {f : Str} (n : NoAttr K C f) : PySem.W.takerIn K C f = some none := by
  unfold PySem.W.takerIn
  rw [show PySem.W.findIn K (.ref C) f = some none from n]
  rfl
structure Con (K : PySem.W.Frag) (C : Addr) (f : Str) (v : V) (u : Value) : Prop where
  at_ : PySem.W.findIn K (.ref C) f = some (some u)
  rel : RelV v u
  get : PySem.W.specialIn K u "__get__" = some none
  cp : PySem.W.copiedNames.contains f = false
structure Meth (K : PySem.W.Frag) (C : Addr) (m : Str) (f : Addr) : Prop where
  at_ : PySem.W.findIn K (.ref C) m = some (some (.ref f))
  fn : PySem.W.isFn K (.ref f) = true
  kp : PySem.W.keepIn K (.ref f) = true
section
variable {X : Cx} {pins : List (Addr × Obj)} {σ : St} {H : Hp} {s : Shared} {a C dx : Addr} {fs : List (Str × V)} {f : Str} {v : V} {A : Around} {E : Value → Shared → Prop}
theorem getattr_ok {b : Bool} {Q : Value → Shared → Prop} (I : Inv X pins σ H s) (e : H a = some (.ins C dx fs)) (c : Cls X.K C) (n : NoAttr X.K C f) (l : fs.lookup f = some v)
    (h : ∀ u s', Inv X pins σ H s' → RelV v u → Q u s') : wpAny (model X.prog X.w) A (getAttr (.ref a) f b) Q E s := by
  obtain ⟨mA, O, r, _, _, _⟩ := ins_get I.hok e
  obtain ⟨u, hu, ru⟩ := RelO.some_of (v := v) (o := mA f) (by rw [← l]; exact r f)
  exact get_map I.kIn O (c.get f) c.hd n hu (handed_of ru) (h u _ (I.tok _) ru)
theorem getmeth_ok {m : Str} {g : Addr} {pl : Sem Bool} {Q : Value × List Value → Shared → Prop} (I : Inv X pins σ H s) (e : H a = some (.ins C dx fs)) (c : Cls X.K C) (k : Meth X.K C m g) (l : fs.lookup m = none)
    (h : Q (.ref g, [.ref a]) s) : wpAny (model X.prog X.w) A (getMethod (.ref a) m pl) Q E s := by
  obtain ⟨mA, O, r, _, _, _⟩ := ins_get I.hok e
  have hn : mA m = none := RelO.none_of (by rw [← l]; exact r m)
  exact get_meth I.kIn O (c.get m) k.at_ k.fn hn h
theorem setattr_ok {y : V} {u : Value} {Q : Unit → Shared → Prop} (I : Inv X pins σ H s) (e : H a = some (.ins C dx fs)) (c : Cls X.K C) (n : NoAttr X.K C f) (hl : fs.length < 1000) (ry : RelV y u)
    (h : ∀ s', Inv X pins σ (upd H a (.ins C dx (putF f y fs))) s' → Q () s') : wpAny (model X.prog X.w) A (setAttr (.ref a) f u) Q E s := by
  obtain ⟨mA, O, r, wi, _, ho⟩ := ins_get I.hok e
  have hz : (fs.map (·.1)).length ≤ sizeLine := by rw [List.length_map, sizeLine_eq]; lia
  refine set_map I.kIn O c.sa c.po n.taker c.hd wi hz fun h' O' sb => h _ ?_
  have hd : ∃ o, h'.get? dx = some o := let ⟨o, _, _, e', _⟩ := O'.ns; ⟨o, e'⟩
  refine I.write (x := a) (e := dx) (by rw [e]; exact True.intro) (.inr ho) (fun b q hb z => (sb.2 b hb).trans z) hd ?_
  refine ⟨by rw [upd_ne O.ne]; exact ho, ?_, O.ne, O'.obj, _, O'.ns, fun g => ?_, fun g hg => ?_⟩
  · have := length_putF f y fs; lia
  · show RelO ((putF f y fs).lookup g) (if g = f then some u else mA g)
    rw [lookup_putF]
    by_cases q : g = f
    · rw [if_pos q, if_pos q]; exact ry
    · rw [if_neg q, if_neg q]; exact r g
  · by_cases q : g = f
    · rw [q]; exact (keys_putF f y fs).1
    · refine (keys_putF f y fs).2 g (wi g fun z => hg ?_)
      show (if g = f then some u else mA g) = none
      rw [if_neg q]; exact z
theorem Inv.made (I : Inv X pins σ H s) : Inv X pins σ (upd (upd H s.heap.objs.size (.own (s.heap.objs.size + 1))) (s.heap.objs.size + 1) (.ins C s.heap.objs.size []))
    { s with heap := (s.heap.push PySem.W.emptyDict).push (PySem.W.instObj C s.heap.objs.size) } := by
  have e1 : (s.heap.push PySem.W.emptyDict).get? s.heap.objs.size = some PySem.W.emptyDict := Heap.get?_push_size s.heap rfl
  have e2 : ((s.heap.push PySem.W.emptyDict).push (PySem.W.instObj C s.heap.objs.size)).get? (s.heap.objs.size + 1) = some (PySem.W.instObj C s.heap.objs.size) := by
    have := Heap.get?_push_size (s.heap.push PySem.W.emptyDict) (o := PySem.W.instObj C s.heap.objs.size) rfl
    rwa [Heap.size_push] at this
  have e3 : (s.heap.push PySem.W.emptyDict).Ns s.heap.objs.size (fun _ => none) := ⟨PySem.W.emptyDict, #[], _, e1, rfl, (fun e he => absurd he (by simp)), fun _ => rfl⟩
  have I1 := I.laid (a := s.heap.objs.size) (o := .own (s.heap.objs.size + 1)) (h' := s.heap.push PySem.W.emptyDict) (t' := s.toks) (fun b u q => Heap.get?_push_of_some _ q) (Nat.le_refl _) ⟨_, e1⟩
  refine I1.laid (a := s.heap.objs.size + 1) (o := .ins C s.heap.objs.size []) (t' := s.toks) (fun b u q => Heap.get?_push_of_some _ q) (Nat.le_of_eq (Heap.size_push _ _)) ?_
  have ne : s.heap.objs.size ≠ s.heap.objs.size + 1 := Nat.ne_of_lt (Nat.lt_succ_self _)
  refine ⟨by rw [upd_ne ne, upd_same], Nat.zero_le _, ne, e2, fun _ => none, (Heap.Ns1.of_empty e3).at fun o q => Heap.get?_push_of_some _ q, fun _ => True.intro, fun y hy => absurd rfl hy⟩
theorem attr_of {prog : Program} {w : World} {env : Env} {e : Expr} {f : Str} {pos : Pos} {s : Shared} {Q : Value → Shared → Prop} (hb : attributeBase e f env (eval e env) = eval e env)
    (h : wpAny (model prog w) A (eval e env) (fun o s₁ => wpAny (model prog w) A (getAttr o f true) Q E s₁) E s) : wpAny (model prog w) A (eval (.Attribute e f pos) env) Q E s :=
  Attribute_any_ h (by rw [arm_eval_Attribute, hb])
end
def tFld (K : PySem.W.Frag) (ta : TE) (f : Str) : TE := fun σ H Q => ta σ H fun x H1 => ∃ a C dx fs v, x = .ref a ∧ H1 a = some (.ins C dx fs) ∧ Cls K C ∧ NoAttr K C f ∧ fs.lookup f = some v ∧ Q v H1
def tCon (K : PySem.W.Frag) (ta : TE) (f : Str) : TE := fun σ H Q => ta σ H fun x H1 => ∃ a C dx fs v u, x = .ref a ∧ H1 a = some (.ins C dx fs) ∧ Cls K C ∧ Con K C f v u ∧ fs.lookup f = none ∧ Q v H1
def sFld (K : PySem.W.Frag) (ta tv : TE) (f : Str) : TS := fun D σ H => tv σ H fun y H1 => ta σ H1 fun x H2 => ∃ a C dx fs, x = .ref a ∧ H2 a = some (.ins C dx fs) ∧ Cls K C ∧ NoAttr K C f ∧ fs.length < 1000 ∧
  D.nx σ (upd H2 a (.ins C dx (putF f y fs)))
def InOp (X : Cx) (op : Operator) (rd : V → V → Hp → VK → Prop) : Prop :=
  ∀ (pins : List (Addr × Obj)) (s : Shared) (σ : St) (H : Hp) (x y : V) (u v : Value) (Q : VK), Inv X pins σ H s → RelV x u → RelV y v → rd x y H Q → wpAny (model X.prog X.w) X.A (inplaceOp op u v) (EP X pins σ Q) X.xe s
def sFldAug (K : PySem.W.Frag) (ta tv : TE) (rd : V → V → Hp → VK → Prop) (f : Str) : TS := fun D σ H => ta σ H fun x H1 => ∃ a C dx fs v, x = .ref a ∧ H1 a = some (.ins C dx fs) ∧ Cls K C ∧ NoAttr K C f ∧ fs.lookup f = some v ∧
  tv σ H1 fun y H2 => rd v y H2 fun z H3 => ∃ dx' fs', H3 a = some (.ins C dx' fs') ∧ fs'.length < 1000 ∧ D.nx σ (upd H3 a (.ins C dx' (putF f z fs')))
section
variable {X : Cx} {o e value : Expr} {f : Str} {pos pos' tpos : Pos} {ta tv : TE}
theorem pe_fld (he : PE X e ta) (hb : attributeBase e f X.env (eval e X.env) = eval e X.env) : PE X (.Attribute e f pos) (tFld X.K ta f) := by
  intro pins s σ H Q I h
  refine attr_of hb (thn (he pins s σ H _ I h) fun u s1 ⟨x, H1, I1, rx, a, C, dx, fs, v, ex, ea, c, n, l, q⟩ => ?_)
  subst ex
  obtain rfl : u = Value.ref a := rx
  exact getattr_ok I1 ea c n l fun u' s2 I2 ru => ⟨v, H1, I2, ru, q⟩
theorem ps_fld (ha : PE X o ta) (hv : PE X value tv) (hs : swapsWith value (some (.Attribute o f pos')) pos.line X.env = pure false) : PS X (.Assign [.Attribute o f pos'] value pos) (sFld X.K ta tv f) := by
  intro pins s σ H D I h
  refine plainObj_wpAny_Assign_Attribute (thn (hv pins s σ H _ I h) fun u s1 ⟨y, H1, I1, ry, q⟩ => thn (ha pins s1 σ H1 _ I1 q) fun ov s2 ⟨x, H2, I2, rx, a, C, dx, fs, ex, ea, c, n, l, q2⟩ => ?_) hs
  subst ex
  obtain rfl : ov = Value.ref a := rx
  exact setattr_ok I2 ea c n l ry fun s3 I3 => ⟨σ, _, I3, q2⟩
def rAdd : V → V → Hp → VK → Prop := fun x y H Q => ∃ i j, x = .int i ∧ y = .int j ∧ Q (.int (i + j)) H
def rSub : V → V → Hp → VK → Prop := fun x y H Q => ∃ i j, x = .int i ∧ y = .int j ∧ Q (.int (i - j)) H
end
section
variable {X : Cx} {pins : List (Addr × Obj)} {σ : St} {H : Hp} {s : Shared} {A : Around} {E : Value → Shared → Prop} {Q : Value → Shared → Prop} {c : Value} {b : Bool}
inductive TyOf (K : PySem.W.Frag) (H : Hp) : V → Value → Prop where
  | non : TyOf K H .non (.type "NoneType")
  | bl (x : Bool) : TyOf K H (.bl x) (.type "bool")
  | int (i : Int) : TyOf K H (.int i) (.type "int")
  | str (x : Str) : TyOf K H (.str x) (.type "str")
  | flt (x : UInt64) : TyOf K H (.flt x) (.type "float")
  | lst {a : Addr} {xs : List V} (e : H a = some (.lst xs)) : TyOf K H (.ref a) (.type "list")
  | frz {a : Addr} {o : Obj} {xs : List V} (e : H a = some (.frz o (.lst xs))) : TyOf K H (.ref a) (.type "list")
  | tup {a : Addr} {xs : List V} (e : H a = some (.tup xs)) : TyOf K H (.ref a) (.type "tuple")
  | dK {a : Addr} {kvs : List (Key × V)} (e : H a = some (.dK kvs)) : TyOf K H (.ref a) (.type "dict")
  | dT {a : Addr} {kvs : List (List Key × V)} (e : H a = some (.dT kvs)) : TyOf K H (.ref a) (.type "dict")
  | ins {a C dx : Addr} {fs : List (Str × V)} (e : H a = some (.ins C dx fs)) (cl : Cls K C) (ha : PySem.W.findIn K (.ref C) "__class__" = some (some (.builtin "object.__class__")))
      (hn : PySem.W.specialIn K (.builtin "object.__class__") "__get__" = some (some (.builtin "getset_descriptor.__get__"))) (htk : PySem.W.takesIn K (.builtin "object.__class__") = some true)
      (hm : PySem.W.mroIn K C (.type "object") = some true) : TyOf K H (.ref a) (.ref C)
theorem isinst_ok {x : V} {u t : Value} (I : Inv X pins σ H s) (rx : RelV x u) (ty : TyOf X.K H x t) (e : PySem.W.kitOne X.K t c = some b) (h : ∀ tk, Q (.bool b) { s with toks := tk }) :
    wpAny (model X.prog X.w) A (call (.builtin "isinstance") [u, c]) Q E s := by
  cases ty with
  | non => cases (show u = Value.none from rx); exact PySem.W.kia_one PySem.W.kitx_none I.kIn True.intro e (fun z => nomatch z) h
  | bl y => cases (show u = Value.bool y from rx); exact PySem.W.kia_one PySem.W.kitx_bool I.kIn True.intro e (fun z => nomatch z) h
  | int i => obtain ⟨t, q⟩ := (show ∃ t, u = Value.int i t from rx); cases q; exact PySem.W.kia_one PySem.W.kitx_int I.kIn True.intro e (fun z => nomatch z) h
  | str y => obtain ⟨t, q⟩ := (show ∃ t, u = Value.str y t from rx); cases q; exact PySem.W.kia_one PySem.W.kitx_str I.kIn True.intro e (fun z => nomatch z) h
  | flt y => obtain ⟨t, q⟩ := (show ∃ t, u = Value.float y t from rx); cases q; exact PySem.W.kia_one PySem.W.kitx_float I.kIn True.intro e (fun z => nomatch z) h
  | @lst a xs ea =>
    cases (show u = Value.ref a from rx)
    obtain ⟨_, _, n, _, h1⟩ := (show ObjOk X.prog X.w H s.heap a (.lst xs) from I.hok a _ ea)
    exact PySem.W.kia_one PySem.W.kitx_list I.kIn ⟨_, h1, rfl⟩ e (fun z => nomatch z) h
  | @frz a ob xs ea =>
    cases (show u = Value.ref a from rx)
    obtain ⟨_, _, _, n, _, h1⟩ := (show ObjOk X.prog X.w H s.heap a (.frz ob (.lst xs)) from I.hok a _ ea)
    exact PySem.W.kia_one PySem.W.kitx_list I.kIn ⟨_, h1, rfl⟩ e (fun z => nomatch z) h
  | @tup a xs ea =>
    cases (show u = Value.ref a from rx)
    obtain ⟨_, _, _, p⟩ := (show ObjOk X.prog X.w H s.heap a (.tup xs) from I.hok a _ ea)
    obtain ⟨o, h1, h2, _⟩ := p
    exact PySem.W.kia_one PySem.W.kitx_tuple I.kIn ⟨o, h1, h2⟩ e (fun z => nomatch z) h
  | @dK a kvs ea =>
    cases (show u = Value.ref a from rx)
    obtain ⟨_, _, vs, _, p⟩ := (show ObjOk X.prog X.w H s.heap a (.dK kvs) from I.hok a _ ea)
    obtain ⟨o, es, ep, h1, h2, _⟩ := p
    exact PySem.W.kia_one PySem.W.kitx_dict I.kIn ⟨o, h1, h2.1⟩ e (fun z => nomatch z) h
  | @dT a kvs ea =>
    cases (show u = Value.ref a from rx)
    obtain ⟨_, _, xs, _, o, es, ep, h1, h2, _⟩ := (show ObjOk X.prog X.w H s.heap a (.dT kvs) from I.hok a _ ea)
    exact PySem.W.kia_one PySem.W.kitx_dict I.kIn ⟨o, h1, h2.1⟩ e (fun z => nomatch z) h
  | @ins a C dx fs ea cl ha hn htk hm =>
    cases (show u = Value.ref a from rx)
    obtain ⟨mA, O, _⟩ := ins_get I.hok ea
    obtain ⟨od, J, _⟩ := O.look
    exact PySem.W.kia_one (PySem.W.kitx_own (cl.get _) cl.hd ha hn htk hm) I.kIn J e (fun z => nomatch z) h
end
end L2
namespace L2
open PySem PySem.Spec PyProof.Rows
structure Room (k : Nat) (A : Around) : Prop where
  hd : A.handled = none
  dp : A.depth + 3 * k + 5 < recursionLimit
  un : A.units + 16 * k + 200 < cLine
theorem Room.mono {j k : Nat} {A : Around} (r : Room k A) (h : j ≤ k) : Room j A := ⟨r.hd, by have := r.dp; lia, by have := r.un; lia⟩
theorem Room.deeper {k : Nat} {A : Around} (r : Room (k + 1) A) (env : Env) : Room k (A.deeper env) :=
  ⟨r.hd, by have := r.dp; show A.depth + 1 + 3 * k + 5 < _; lia, by have := r.un; show A.units + 3 + 16 * k + 200 < _; lia⟩
theorem Room.in1 {k : Nat} {A : Around} (r : Room (k + 1) A) : Room k A.in1 :=
  ⟨r.hd, by have := r.dp; show A.depth + 3 * k + 5 < _; lia, by have := r.un; show A.units + 1 + 16 * k + 200 < _; lia⟩
theorem make_depth {A : Around} {C : Addr} {us : List Value} {kw : List (Str × Value)} : (A.under (.builtin "type.__call__" ⟨.ref C :: us, kw⟩)).depth = A.depth + 1 := by
  first | rfl | simp [Around.under, Code.weight, Code.isCreation, Code.isGuard, Code.isCaller, Code.frames, Code.isFrame, guardIds]
theorem make_units {A : Around} {C : Addr} {us : List Value} {kw : List (Str × Value)} : (A.under (.builtin "type.__call__" ⟨.ref C :: us, kw⟩)).units = A.units + 1 := by
  first | rfl | simp [Around.under, Code.cUnits, Code.frames, Code.isFrame]
theorem Room.make {k : Nat} {A : Around} (r : Room (k + 1) A) (C : Addr) (us : List Value) (kw : List (Str × Value)) : Room k (A.under (.builtin "type.__call__" ⟨.ref C :: us, kw⟩)) :=
  ⟨r.hd, by have := r.dp; rw [make_depth]; lia, by have := r.un; rw [make_units]; lia⟩
theorem Room.depth {k : Nat} {A : Around} (r : Room k A) : A.depth < recursionLimit := by have := r.dp; lia
theorem Room.units {k : Nat} {A : Around} (r : Room k A) : A.units + 64 < cLine := by have := r.un; lia
theorem Room.units0 {k : Nat} {A : Around} (r : Room k A) : A.units < cLine := by have := r.un; lia
def tNil : TA := fun _ H Q => Q [] H
def tCons (ta : TE) (tr : TA) : TA := fun σ H Q => ta σ H fun x H1 => tr σ H1 fun xs H2 => Q (x :: xs) H2
section
variable {X : Cx} {e : Expr} {es : List Expr} {te : TE} {t : TA} {pos : Pos}
theorem pa_nil : PA X [] tNil := fun _ _ _ _ H Q I h => Calls.spliced_nil ⟨[], H, I, .nil, h⟩
theorem pa_cons (ha : PE X e te) (hr : PA X es t) (hs : starEach (e :: es) X.env = (false, eval e X.env) :: starEach es X.env := by rfl) : PA X (e :: es) (tCons te t) := by
  intro pos pins s σ H Q I h
  rw [hs]
  show wpAny _ _ (spliced ((false, eval e X.env) :: backTo pos (starEach es X.env))) _ _ s
  refine Calls.spliced_cons (thn (ha pins s σ H _ I h) fun u s1 ⟨x, H1, I1, r1, q1⟩ => ?_)
  exact thn (hr pos pins s1 σ H1 _ I1 q1) fun us s2 ⟨xs, H2, I2, r2, q2⟩ => ⟨x :: xs, H2, I2, .cons r1 r2, q2⟩
def tTup (t : TA) : TE := fun σ H Q => t σ H fun xs H1 => xs.length ≤ sizeLine ∧ ∀ p, H1 p = none → Q (.ref p) (upd H1 p (.tup xs))
def tLst (t : TA) : TE := fun σ H Q => t σ H fun xs H1 => xs.length ≤ sizeLine ∧ ∀ p, H1 p = none → Q (.ref p) (upd H1 p (.lst xs))
theorem pe_tup {x1} (h : PA X es t) : PE X (.Tuple es x1 pos) (tTup t) := by
  intro pins s σ H Q I hq
  refine wpAny_Tuple_spliced (thn (h pos pins s σ H _ I hq) fun us s1 ⟨xs, H1, I1, r, z, q⟩ => ⟨by rw [← r.length]; exact z, ?_⟩)
  have hf : H1 s1.heap.objs.size = none := I1.hok.fresh (Nat.le_refl _)
  refine ⟨.ref s1.heap.objs.size, upd H1 s1.heap.objs.size (.tup xs), I1.laid (t' := s1.toks) (fun b u e => Heap.get?_push_of_some _ e) (Nat.le_refl _) ?_, rfl, q _ hf⟩
  exact ⟨z, us, r, ⟨_, Heap.get?_push_size _ rfl, rfl, _, rfl⟩⟩
theorem pe_lst (h : PA X es t) : PE X (.List es pos) (tLst t) := by
  intro pins s σ H Q I hq
  refine wpAny_List_spliced (thn (h pos pins s σ H _ I hq) fun us s1 ⟨xs, H1, I1, r, z, q⟩ => ⟨by rw [← r.length]; exact z, ?_⟩)
  have hf : H1 s1.heap.objs.size = none := I1.hok.fresh (Nat.le_refl _)
  refine ⟨.ref s1.heap.objs.size, upd H1 s1.heap.objs.size (.lst xs), I1.laid (t' := s1.toks) (fun b u e => Heap.get?_push_of_some _ e) (Nat.le_refl _) ?_, rfl, q _ hf⟩
  exact ⟨z, us, 0, r, Heap.get?_push_size _ rfl⟩
end
abbrev Sp := List V → Hp → VK → XK → Prop
abbrev CXT := List Env → Hp → Shared → XK → Value → Shared → Prop
structure Env0 (P : Program) (w : World) (K : PySem.W.Frag) (mg : Str → Option Value) (base : Heap) (A : Around) (outer : List Env) (s : Shared) (H : Hp) : Prop where
  frames : A.frames = some outer
  mod : Mod K mg base
  bs : ∀ b o, base.get? b = some o → s.heap.get? b = some o ∧ H b = none
  bsz : base.objs.size ≤ s.heap.objs.size
  funs : s.heap.FunFrames base outer
  frf : ∀ b ∈ frs outer, H b = none
  hok : HOk P w H s.heap
  bare : AllBare s.gens
def CE (outer : List Env) (P : Program) (w : World) (H : Hp) (s : Shared) (Q : VK) (u : Value) (s' : Shared) : Prop :=
  ∃ v H', s'.os = s.os ∧ AllBare s'.gens ∧ Un (frs outer) [] H H' s.heap s'.heap ∧ HOk P w H' s'.heap ∧ RelV v u ∧ Q v H'
def CR (CX : CXT) (outer : List Env) (P : Program) (w : World) (H : Hp) (s : Shared) (Q : VK) (E : XK) (r : Result) (s' : Shared) : Prop :=
  match r with
  | .ok (.ret u) => CE outer P w H s Q u s'
  | .ok _ => False
  | .error e => CX outer H s E e s'
structure FnOk (P : Program) (w : World) (K : PySem.W.Frag) (mg : Str → Option Value) (base : Heap) (CX : CXT) (k : Nat) (f : Addr) (fd : FuncData) (ps : List Str) (sp : Sp) : Prop where
  len : ∀ vs H Q E, sp vs H Q E → vs.length = ps.length
  run : ∀ (A : Around) (outer : List Env) (s : Shared) (H : Hp) (args : Args) (us : List Value) (vs : List V) (Q : VK) (E : XK), Room k A → Env0 P w K mg base A outer s H → BindsTo s fd args (ps.zip us) → Vals vs us → sp vs H Q E →
    codeAny (model P w) A (.call (.ref f) args) (CR CX outer P w H s Q E) s
theorem FnOk.imp {P : Program} {w : World} {K : PySem.W.Frag} {mg : Str → Option Value} {base : Heap} {CX : CXT} {k : Nat} {f : Addr} {fd : FuncData} {ps : List Str} {sp sp' : Sp} (F : FnOk P w K mg base CX k f fd ps sp)
    (h : ∀ vs H Q E, sp' vs H Q E → sp vs H Q E) : FnOk P w K mg base CX k f fd ps sp' :=
  ⟨fun vs H Q E q => F.len vs H Q E (h _ _ _ _ q), fun A outer s H args us vs Q E hr he hb hv hs => F.run A outer s H args us vs Q E hr he hb hv (h _ _ _ _ hs)⟩
theorem Env0.make {P : Program} {w : World} {K : PySem.W.Frag} {mg : Str → Option Value} {base : Heap} {A : Around} {outer : List Env} {s : Shared} {H : Hp} (e : Env0 P w K mg base A outer s H) (C : Addr) (us : List Value) (kw : List (Str × Value)) :
    Env0 P w K mg base (A.under (.builtin "type.__call__" ⟨.ref C :: us, kw⟩)) outer s H := ⟨by first | exact e.frames | (simpa [Around.under, Code.envs, Code.isFrame, pushEnvs] using e.frames), e.mod, e.bs, e.bsz, e.funs, e.frf, e.hok, e.bare⟩
section
variable {X : Cx} {pins : List (Addr × Obj)} {σ : St} {H : Hp} {s s' : Shared}
theorem Inv.env0 (I : Inv X pins σ H s) : Env0 X.prog X.w X.K X.mg X.base X.A X.stack s H :=
  ⟨I.ok.frames, I.ok.mod, I.bs, Nat.le_trans I.ok.bsz I.sz, I.stack, I.stkFree, I.hok, I.bare⟩
theorem Inv.after {Q : VK} {u : Value} (I : Inv X pins σ H s) (h : CE X.stack X.prog X.w H s Q u s') : EP X pins σ Q u s' := by
  obtain ⟨v, H', os, bare, un, hok, r, q⟩ := h
  obtain ⟨hh, g, d, t, os'⟩ := s'
  obtain rfl : os' = s.os := os
  exact ⟨v, H', I.call (h' := hh) (g' := g) (d' := d) (t' := t) (ch := []) un hok bare (fun b z => absurd z (by simp)), r, q⟩
end
def tCall (sp : Sp) (dvs : List V) (E : XK) (t : TA) : TE := fun σ H Q => t σ H fun vs H1 => sp (vs ++ dvs) H1 Q E
def tMeth (C : Addr) (m : Str) (sp : Sp) (dvs : List V) (E : XK) (ta : TE) (t : TA) : TE := fun σ H Q => ta σ H fun x H1 => ∃ a dx fs, x = .ref a ∧ H1 a = some (.ins C dx fs) ∧ fs.lookup m = none ∧
  t σ H1 fun vs H2 => sp (x :: (vs ++ dvs)) H2 Q E
def tMake (C : Addr) (sp : Sp) (dvs : List V) (E : XK) (t : TA) : TE := fun σ H Q => t σ H fun vs H1 => ∀ x dx, H1 x = none → H1 dx = none → dx ≠ x →
  sp (.ref x :: (vs ++ dvs)) (upd (upd H1 dx (.own x)) x (.ins C dx [])) (fun v H2 => v = .non ∧ Q (.ref x) H2) E
def Binds (K : PySem.W.Frag) (fd : FuncData) (ps : List Str) (ds : List Value) : Prop :=
  ∀ (s : Shared) (us : List Value), K.In s.heap → (us ++ ds).length = ps.length → BindsTo s fd ⟨us, []⟩ (ps.zip (us ++ ds))
theorem Binds.all {K : PySem.W.Frag} {fd : FuncData} {ps : List Str} (h : ∀ us : List Value, us.length = ps.length → bindArgs fd ⟨us, []⟩ = pure (ps.zip us)) : Binds K fd ps [] := fun s us _ hl => by
  rw [List.append_nil] at hl ⊢
  exact .of_eq (h us hl)
def Passes (CX : CXT) (X : Cx) (E : XK) : Prop := ∀ (pins : List (Addr × Obj)) (σ : St) (H : Hp) (s : Shared) (e : Value) (s' : Shared), Inv X pins σ H s → CX X.stack H s E e s' → X.xe e s'
section
variable {X : Cx} {CX : CXT} {k : Nat} {f C : Addr} {fd : FuncData} {ps : List Str} {sp : Sp} {dvs : List V} {ds : List Value} {E : XK} {x m : Str} {p pos apos : Pos} {e o : Expr} {es : List Expr} {ta : TE} {t : TA}
theorem run_fn {pins : List (Addr × Obj)} {σ : St} {H : Hp} {s : Shared} {Q : VK} {us : List Value} {vs : List V} (F : FnOk X.prog X.w X.K X.mg X.base CX k f fd ps sp) (hr : Room k X.A) (hb : Binds X.K fd ps ds) (hd : Vals dvs ds) (hx : Passes CX X E)
    (I : Inv X pins σ H s) (r : Vals vs us) (h : sp (vs ++ dvs) H Q E) : wpAny (model X.prog X.w) X.A (call (.ref f) us) (EP X pins σ Q) X.xe s := by
  have r2 : Vals (vs ++ dvs) (us ++ ds) := r.append hd
  have hl : (us ++ ds).length = ps.length := by rw [← r2.length]; exact F.len _ _ _ _ h
  refine wpAny_call (codeAny_mono (F.run X.A X.stack s H ⟨us, []⟩ (us ++ ds) (vs ++ dvs) Q E hr I.env0 (hb s us I.kIn hl) r2 h) fun r s' hq => ?_)
  cases r with
  | error e => exact hx pins σ H s e s' I hq
  | ok fl =>
    cases fl with
    | ret u => exact I.after hq
    | next => exact False.elim hq
    | brk => exact False.elim hq
    | cont => exact False.elim hq
theorem pe_call (F : FnOk X.prog X.w X.K X.mg X.base CX k f fd ps sp) (hr : Room k X.A) (hg : Gl X x) (hm : X.mg x = some (.ref f)) (hk : PySem.W.keepIn X.K (.ref f) = true) (hb : Binds X.K fd ps ds) (hd : Vals dvs ds) (hx : Passes CX X E)
    (ha : PA X (e :: es) t) (hdb : (x == ("__debug__" : Str)) = false := by decide) (he : starEach (e :: es) X.env = (false, eval e X.env) :: starEach es X.env := by rfl) (hpl : (backTo pos (starEach es X.env)).any (·.1) = false := by rfl) :
    PE X (.Call (.Name x p) (e :: es) [] pos) (tCall sp dvs E t) := by
  intro pins s σ H Q I h
  refine wpAny_Call_Name_kw (ld_glob I hg hm ?_ hdb)
  refine PySem.W.callWith_K (h₀ := X.base) I.ok.mod.kin hk (thn (ha pos pins s σ H _ I h) fun us s1 ⟨vs, H1, I1, r, q⟩ => ⟨I1.kIn, ?_⟩) he hpl
  exact run_fn F hr hb hd hx I1 r q
theorem pe_meth {pl : Sem Bool} (he : PE X o ta) (c : Cls X.K C) (hm : Meth X.K C m f) (F : FnOk X.prog X.w X.K X.mg X.base CX k f fd ps sp) (hr : Room k X.A) (hb : Binds X.K fd ps ds) (hd : Vals dvs ds) (hx : Passes CX X E) (ha : PA X (e :: es) t)
    (hst : starEach (e :: es) X.env = (false, eval e X.env) :: starEach es X.env := by rfl) (hpl : (backTo pos (starEach es X.env)).any (·.1) = false := by rfl)
    (ht : eval (.Call (.Attribute o m apos) (e :: es) [] pos) X.env = (do
      let ov ← eval o X.env
      standAt apos.atName
      let (f, first) ← holding [ov] (getMethod ov m pl)
      callWith pos f first (backTo pos (starEach (e :: es) X.env)) (backToKw pos (keywordEach [] X.env))) := by rfl) :
    PE X (.Call (.Attribute o m apos) (e :: es) [] pos) (tMeth C m sp dvs E ta t) := by
  intro pins s σ H Q I h
  refine PySem.W.methodCall_KW (pl := pl) (thn (he pins s σ H _ I h) fun u s1 ⟨x, H1, I1, rx, a, dx, fs, ex, ea, l, q⟩ => ?_) ht
  subst ex
  obtain rfl : u = Value.ref a := rx
  refine getmeth_ok I1 ea c hm l ?_
  refine PySem.W.callWith_K (first := [.ref a]) (h₀ := X.base) I.ok.mod.kin hm.kp (thn (ha pos pins s1 σ H1 _ I1 q) fun us s2 ⟨vs, H2, I2, r, q2⟩ => ⟨I2.kIn, ?_⟩) hst hpl
  exact run_fn (us := .ref a :: us) (vs := .ref a :: vs) F hr hb hd hx I2 (.cons rfl r) q2
theorem pe_meth0 {pl : Sem Bool} (he : PE X o ta) (c : Cls X.K C) (hm : Meth X.K C m f) (F : FnOk X.prog X.w X.K X.mg X.base CX k f fd ps sp) (hr : Room k X.A) (hb : Binds X.K fd ps ds) (hd : Vals dvs ds) (hx : Passes CX X E)
    (ht : eval (.Call (.Attribute o m apos) [] [] pos) X.env = (do
      let ov ← eval o X.env
      standAt apos.atName
      let (f, first) ← holding [ov] (getMethod ov m pl)
      callWith pos f first (backTo pos (starEach [] X.env)) (backToKw pos (keywordEach [] X.env))) := by rfl) :
    PE X (.Call (.Attribute o m apos) [] [] pos) (tMeth C m sp dvs E ta tNil) := by
  intro pins s σ H Q I h
  refine PySem.W.methodCall_KW (pl := pl) (thn (he pins s σ H _ I h) fun u s1 ⟨x, H1, I1, rx, a, dx, fs, ex, ea, l, q⟩ => ?_) ht
  subst ex
  obtain rfl : u = Value.ref a := rx
  refine getmeth_ok I1 ea c hm l ?_
  exact PySem.W.callWith_K0 (first := [.ref a]) I1.kIn hm.kp (run_fn (us := [.ref a]) (vs := [.ref a]) F hr hb hd hx I1 (.cons rfl .nil) q)
structure Mk (K : PySem.W.Frag) (C f : Addr) : Prop where
  makes : PySem.W.makesIn K C = true
  init : PySem.W.findIn K (.ref C) "__init__" = some (some (.ref f))
  fn : PySem.W.isFn K (.ref f) = true
  kp : PySem.W.keepIn K (.ref C) = true
theorem run_make {pins : List (Addr × Obj)} {σ : St} {H : Hp} {s : Shared} {Q : VK} {us : List Value} {vs : List V} (M : Mk X.K C f) (F : FnOk X.prog X.w X.K X.mg X.base CX k f fd ps sp) (hr : Room (k + 1) X.A) (hb : Binds X.K fd ps ds) (hd : Vals dvs ds)
    (hx : Passes CX X E) (I : Inv X pins σ H s) (r : Vals vs us)
    (h : ∀ x dx, H x = none → H dx = none → dx ≠ x → sp (.ref x :: (vs ++ dvs)) (upd (upd H dx (.own x)) x (.ins C dx [])) (fun v H2 => v = .non ∧ Q (.ref x) H2) E) :
    wpAny (model X.prog X.w) X.A (call (.ref C) us) (EP X pins σ Q) X.xe s := by
  have hq := h (s.heap.objs.size + 1) s.heap.objs.size (I.hok.fresh (Nat.le_succ _)) (I.hok.fresh (Nat.le_refl _)) (Nat.ne_of_lt (Nat.lt_succ_self _))
  have I2 := Inv.made (C := C) I
  have r2 : Vals (V.ref (s.heap.objs.size + 1) :: (vs ++ dvs)) (Value.ref (s.heap.objs.size + 1) :: (us ++ ds)) := .cons rfl (r.append hd)
  have hl : (Value.ref (s.heap.objs.size + 1) :: us ++ ds).length = ps.length := by
    have e := r2.length
    rw [F.len _ _ _ _ hq] at e
    exact e.symm
  refine wpAny_call (make_map (f := f) I.kIn M.makes M.init (beq_iff_eq.mp M.fn) (codeAny_mono (F.run _ X.stack _ _ ⟨Value.ref (s.heap.objs.size + 1) :: us, []⟩ (Value.ref (s.heap.objs.size + 1) :: (us ++ ds)) _ _ E (hr.make C us [])
    (I2.env0.make C us []) (hb _ (Value.ref (s.heap.objs.size + 1) :: us) I2.kIn hl) r2 hq) fun r s' hq' => ?_))
  cases r with
  | error e => exact hx pins σ _ _ e s' I2 hq'
  | ok fl =>
    cases fl with
    | ret u =>
      obtain ⟨v, H', I3, rv, ev, q3⟩ := I2.after hq'
      subst ev
      exact ⟨rv, ⟨V.ref (s.heap.objs.size + 1), H', I3, rfl, q3⟩⟩
    | next => exact False.elim hq'
    | brk => exact False.elim hq'
    | cont => exact False.elim hq'
theorem pe_make (M : Mk X.K C f) (F : FnOk X.prog X.w X.K X.mg X.base CX k f fd ps sp) (hr : Room (k + 1) X.A) (hg : Gl X x) (hm : X.mg x = some (.ref C)) (hb : Binds X.K fd ps ds) (hd : Vals dvs ds) (hx : Passes CX X E)
    (ha : PA X (e :: es) t) (hdb : (x == ("__debug__" : Str)) = false := by decide) (he : starEach (e :: es) X.env = (false, eval e X.env) :: starEach es X.env := by rfl) (hpl : (backTo pos (starEach es X.env)).any (·.1) = false := by rfl) :
    PE X (.Call (.Name x p) (e :: es) [] pos) (tMake C sp dvs E t) := by
  intro pins s σ H Q I h
  refine wpAny_Call_Name_kw (ld_glob I hg hm ?_ hdb)
  refine PySem.W.callWith_K (h₀ := X.base) I.ok.mod.kin M.kp (thn (ha pos pins s σ H _ I h) fun us s1 ⟨vs, H1, I1, r, q⟩ => ⟨I1.kIn, ?_⟩) he hpl
  exact run_make M F hr hb hd hx I1 r q
end
def PK (X : Cx) (kws : List Keyword) (t : TA) : Prop :=
  ∀ (pos : Pos) (pins : List (Addr × Obj)) (s : Shared) (σ : St) (H : Hp) (Q : List V → Hp → Prop), Inv X pins σ H s → t σ H Q → wpAny (model X.prog X.w) X.A (evalAll ((backToKw pos (keywordEach kws X.env)).map (·.2))) (AP X pins σ Q) X.xe s
section
variable {X : Cx} {CX : CXT} {k : Nat} {f C : Addr} {fd : FuncData} {ps ks : List Str} {sp : Sp} {E : XK} {x m : Str} {p pos apos kpos : Pos} {e o : Expr} {es : List Expr} {kws : List Keyword} {te ta : TE} {t tk : TA} {nm : Option Str}
structure KBinds (K : PySem.W.Frag) (fd : FuncData) (ps ks : List Str) (g : List Value → List Value → List Value) (gV : List V → List V → List V) : Prop where
  to : ∀ (s : Shared) (us ws : List Value), K.In s.heap → (g us ws).length = ps.length → BindsTo s fd ⟨us, ks.zip ws⟩ (ps.zip (g us ws))
  rel : ∀ {vs : List V} {us : List Value} {zs : List V} {ws : List Value}, Vals vs us → Vals zs ws → Vals (gV vs zs) (g us ws)
def tCallK (sp : Sp) (gV : List V → List V → List V) (E : XK) (t tk : TA) : TE := fun σ H Q => t σ H fun vs H1 => tk σ H1 fun zs H2 => sp (gV vs zs) H2 Q E
variable {g : List Value → List Value → List Value} {gV : List V → List V → List V}
end
structure FnScope (N P : List Str) (sc : Scope) : Prop where
  kind : sc.kind = .function
  co : sc.isCoroutine = false
  gen : sc.isGenerator = false
  nd : N.Nodup
  pre : N.take P.length = P
  par : ∀ x ∈ P, sc.names.lookup x = some .local ∨ sc.names.lookup x = some .cell
  nofree : ∀ y ∈ sc.names, y.2 ≠ .free
theorem bindL_out {kindOf : Str → Option NameKind} {x : Str} : ∀ {binds : List (Str × Value)} {m : Str → Option Value}, (∀ v, (x, v) ∉ binds) → bindL kindOf binds m x = m x
  | [], _, _ => rfl
  | (n, v) :: r, m, h => by
    unfold bindL
    rw [bindL_out fun w hw => h w (List.mem_cons_of_mem _ hw)]
    split
    · have : x ≠ n := by rintro rfl; exact h v List.mem_cons_self
      simp [this]
    · rfl
theorem bindC_out {kindOf : Str → Option NameKind} {x : Str} : ∀ {binds : List (Str × Value)} {m : Str → Option Value}, (∀ v, (x, v) ∉ binds) → bindC kindOf binds m x = m x
  | [], _, _ => rfl
  | (n, v) :: r, m, h => by
    unfold bindC
    rw [bindC_out fun w hw => h w (List.mem_cons_of_mem _ hw)]
    split
    · rfl
    · have : x ≠ n := by rintro rfl; exact h v List.mem_cons_self
      simp [this]
theorem bindL_get {kindOf : Str → Option NameKind} {x : Str} {v : Value} : ∀ {P : List Str} {vs : List Value} {i : Nat} {m : Str → Option Value}, P.Nodup → P[i]? = some x → vs[i]? = some v → kindOf x = some .local →
    bindL kindOf (P.zip vs) m x = some v
  | [], _, _, _, _, h, _, _ => by simp at h
  | _ :: _, [], _, _, _, _, h, _ => by simp at h
  | p :: P, w :: vs, 0, m, nd, h1, h2, hk => by
    simp at h1 h2; subst h1; subst h2
    show bindL kindOf ((p, w) :: P.zip vs) m p = _
    unfold bindL
    rw [bindL_out fun v hv => (List.nodup_cons.mp nd).1 (List.of_mem_zip hv).1, if_pos hk]
    simp
  | p :: P, w :: vs, i + 1, m, nd, h1, h2, hk => by
    show bindL kindOf ((p, w) :: P.zip vs) m x = _
    unfold bindL
    exact bindL_get (i := i) (List.nodup_cons.mp nd).2 (by simpa using h1) (by simpa using h2) hk
theorem bindC_get {kindOf : Str → Option NameKind} {x : Str} {v : Value} : ∀ {P : List Str} {vs : List Value} {i : Nat} {m : Str → Option Value}, P.Nodup → P[i]? = some x → vs[i]? = some v → kindOf x ≠ some .local →
    bindC kindOf (P.zip vs) m x = some v
  | [], _, _, _, _, h, _, _ => by simp at h
  | _ :: _, [], _, _, _, _, h, _ => by simp at h
  | p :: P, w :: vs, 0, m, nd, h1, h2, hk => by
    simp at h1 h2; subst h1; subst h2
    show bindC kindOf ((p, w) :: P.zip vs) m p = _
    unfold bindC
    rw [bindC_out fun v hv => (List.nodup_cons.mp nd).1 (List.of_mem_zip hv).1, if_neg hk]
    simp
  | p :: P, w :: vs, i + 1, m, nd, h1, h2, hk => by
    show bindC kindOf ((p, w) :: P.zip vs) m x = _
    unfold bindC
    exact bindC_get (i := i) (List.nodup_cons.mp nd).2 (by simpa using h1) (by simpa using h2) hk
def start (N : List Str) (vs : List V) : St := vs.map some ++ List.replicate (N.length - vs.length) none
def cxOf (CX : CXT) (P : Program) (w : World) (K : PySem.W.Frag) (mg : Str → Option Value) (base : Heap) (N : List Str) (qual : Str) (scope : Scope) (f : Addr) (cd : Value) (A : Around) (outer : List Env) (s : Shared) (H : Hp) (E : XK) : Cx where
  prog := P
  w := w
  K := K
  mg := mg
  base := base
  A := A.deeper (envOfC qual scope s.heap.objs.size f cd)
  N := N
  s₀ := s
  H₀ := H
  env := envOfC qual scope s.heap.objs.size f cd
  outer := outer
  stack := envOfC qual scope s.heap.objs.size f cd :: outer
  ex := []
  calm := true
  fn := fun _ => true
  pn := []
  xe := fun e s' => wpAny (model P w) (A.deeper (envOfC qual scope s.heap.objs.size f cd)) («leaving» (envOfC qual scope s.heap.objs.size f cd) e) (fun _ s'' => CX outer H s E e s'') (fun e' s'' => CX outer H s E e' s'') s'
theorem cell_has {sc : Scope} {n : Nat} {x : Str} (h : sc.names.lookup x = some .cell) : ∃ c, (cellsFrom n sc.names []).lookup x = some c := by
  have q := PySem.W.cellsFrom_some sc.names n [] (.inl h)
  exact Option.isSome_iff_exists.mp q
theorem inv_start {CX : CXT} {P : Program} {w : World} {K : PySem.W.Frag} {mg : Str → Option Value} {base : Heap} {N ps : List Str} {qual : Str} {scope : Scope} {f : Addr} {cd : Value} {A : Around} {outer : List Env} {s s1 : Shared} {H : Hp} {E : XK} {us : List Value} {vs : List V}
    (S : FnScope N ps scope) (hd : A.handled = none) (e0 : Env0 P w K mg base A outer s H) (hl : vs.length = ps.length) (r : Vals vs us)
    (x : InCallC s s.heap.objs.size (bindL (envOfC qual scope s.heap.objs.size f cd).kindOf (ps.zip us) fun _ => none) (cellsFrom (s.heap.objs.size + 1) scope.names []) (bindC (envOfC qual scope s.heap.objs.size f cd).kindOf (ps.zip us) fun _ => none) s1) :
    Inv (cxOf CX P w K mg base N qual scope f cd A outer s H E) [] (start N vs) H s1 := by
  have hpl : ps.length ≤ N.length := by have := congrArg List.length S.pre; rw [List.length_take] at this; lia
  obtain ⟨h1, tk, rfl, hk⟩ := x.done
  have noA : ∀ b : Addr, b ∉ (cxOf CX P w K mg base N qual scope f cd A outer s H E).ex := fun b z => absurd (show b ∈ ([] : List Addr) from z) (by simp)
  refine ⟨⟨e0.mod, S.kind, rfl, rfl, Nat.le_refl _, fun y z c h1 h2 => ?_, fun y hy => ?_, fun y c _ h => ?_, fun _ => hd, Around.frames_deeper e0.frames, .inr ⟨rfl, rfl⟩, fun b z => absurd z (noA b), e0.bs, e0.bsz, fun b _ _ => noA b, fun b z => absurd z (noA b), e0.funs, e0.frf⟩,
    rfl, e0.bare, Un.kept hk, ⟨_, x.toInCall.ns, fun i y v h1 h2 h3 => ?_⟩, fun y c h => ⟨_, x.cell y c h⟩, e0.hok.fresh (Nat.le_refl _), fun y c h => ?_, fun p hp => absurd (show p ∈ ([] : List (Addr × Obj)) from hp) (by simp), e0.hok.kept hk, ?_⟩
  · exact name_of_addr x.apart (PySem.mem_of_lookup h1) (PySem.mem_of_lookup h2)
  · have hy : scope.names.lookup y = some .cell ∨ scope.names.lookup y = some .free := hy
    rcases hy with hy | hy
    · exact cell_has hy
    · exact absurd rfl (S.nofree _ (PySem.mem_of_lookup hy))
  · exact Nat.le_of_lt (x.above y c (PySem.mem_of_lookup h))
  · have hi : i < vs.length := by
      unfold start at h2
      by_cases hi : i < vs.length
      · exact hi
      · rw [List.getElem?_append_right (by simpa using hi)] at h2
        rw [List.getElem?_replicate] at h2
        split at h2 <;> cases h2
    have ha : vs[i]? = some v := by
      unfold start at h2
      rw [List.getElem?_append_left (by simpa using hi), List.getElem?_map] at h2
      cases e : vs[i]? with
      | none => rw [e] at h2; cases h2
      | some a => rw [e] at h2; cases h2; rfl
    obtain ⟨u, hu, rv⟩ := r.get ha
    have hp : ps[i]? = some y := by
      rw [← S.pre, List.getElem?_take_of_lt (by lia)]; exact h1
    have ndP : ps.Nodup := by rw [← S.pre]; exact S.nd.sublist (List.take_sublist _ _)
    refine ⟨u, rv, ?_⟩
    rcases S.par y (List.mem_of_getElem? hp) with k | k
    · exact .inl ⟨k, bindL_get ndP hp hu k⟩
    · obtain ⟨c, e⟩ := cell_has (n := s.heap.objs.size + 1) k
      refine .inr ⟨.inl k, c, e, ?_⟩
      have q := x.cell y c e
      rw [bindC_get ndP hp hu (by show scope.names.lookup y ≠ _; rw [k]; decide)] at q
      exact q
  · exact e0.hok.fresh (Nat.le_of_lt (x.above y c (PySem.mem_of_lookup h)))
  · unfold start
    show _ = N.length
    rw [List.length_append, List.length_map, List.length_replicate]
    lia
theorem fn_of {CX : CXT} {P : Program} {w : World} {K : PySem.W.Frag} {mg : Str → Option Value} {base : Heap} {k : Nat} {f : Addr} {name qual : Str} {params : Arguments} {body : List Stmt} {scope : Scope} {dV kV doc pm cdv ct oc : Value} {an od : Option Addr}
    {osl : Array (Option Value)} {N ps : List Str} {sp : Sp} (lk : K.lookup f = some ⟨oc, od, .func (PySem.W.fnOf name qual params body scope dV kV doc pm an cdv ct), osl⟩) (hcd : PySem.W.codeIn K cdv qual = true) (S : FnScope N ps scope)
    (len : ∀ vs H Q E, sp vs H Q E → vs.length = ps.length)
    (hbody : ∀ (A : Around) (outer : List Env) (s : Shared) (H : Hp) (vs : List V) (Q : VK) (E : XK), Room k (A.deeper (envOfC qual scope s.heap.objs.size f cdv)) → sp vs H Q E →
      ∃ t, PSs (cxOf CX P w K mg base N qual scope f cdv A outer s H E) body t ∧ t { nx := fun _ H' => Q .non H', rt := Q } (start N vs) H) :
    FnOk P w K mg base CX (k + 1) f (PySem.W.fnOf name qual params body scope dV kV doc pm an cdv ct) ps sp := by
  refine ⟨len, fun A outer s H args us vs Q E hr e0 hb r hsp => ?_⟩
  have hl := len _ _ _ _ hsp
  have KX : K.In s.heap := e0.mod.kin.keeps fun b o e => (e0.bs b o e).1
  have lim : s.heap.NoLimit := e0.mod.nolimit.keeps fun b o e => (e0.bs b o e).1
  have hkind : ∀ y ∈ ps.zip us, scope.names.lookup y.1 = some .local ∨ (scope.names.lookup y.1 = some .cell ∧ ((cellsFrom (s.heap.objs.size + 1) scope.names []).lookup y.1).isSome = true) := fun ⟨n, v⟩ hy => by
    rcases S.par n (List.of_mem_zip hy).1 with q | q
    · exact .inl q
    · exact .inr ⟨q, PySem.W.cellsFrom_some _ _ _ (.inl q)⟩
  refine codeAny_call_function hr.depth (KX _ _ lk) rfl S.co S.gen rfl (PySem.W.codeRec_of KX hcd) (hb _ _ _ _ ?_)
  refine wpAny_newFunctionEnv_cells S.kind hkind fun env he s1 x => ?_
  subst he
  refine ⟨lim.keeps x.toInCall.keep, codeAny_func ?_⟩
  obtain ⟨t, ht, hq⟩ := hbody A outer s H vs Q E (hr.deeper _) hsp
  have I : Inv (cxOf CX P w K mg base N qual scope f cdv A outer s H E) [] (start N vs) H s1 := inv_start S hr.hd e0 hl r x
  refine wpAny_mono (ht [] s1 (start N vs) H _ I hq) (fun fl s' hs => ?_) fun e s' hs => hs
  have fin : ∀ {σ' : St} {H' : Hp} {v : V} {u : Value}, Inv (cxOf CX P w K mg base N qual scope f cdv A outer s H E) [] σ' H' s' → RelV v u → Q v H' → CE outer P w H s Q u s' :=
    fun {σ' H' v u} J rv q => ⟨v, H', J.os, J.bare, J.base, J.hok, rv, q⟩
  cases fl with
  | ret u =>
    obtain ⟨v, σ', H', J, rv, q⟩ := hs
    exact fin J rv q
  | next =>
    obtain ⟨σ', H', J, q⟩ := hs
    exact fin (v := V.non) (u := Value.none) J rfl q
  | brk =>
    obtain ⟨_, _, _, q⟩ := hs
    exact False.elim q
  | cont =>
    obtain ⟨_, _, _, q⟩ := hs
    exact False.elim q
end L2
namespace L2
open PySem PySem.Spec PyProof.Rows
section
variable {X : Cx} {x : Str} {p pos : Pos} {e : Expr} {es : List Expr} {t : TA} {id T : String} {r : List V → Hp → VK → Prop}
def tCB (r : List V → Hp → VK → Prop) (t : TA) : TE := fun σ H Q => t σ H fun vs H1 => r vs H1 Q
theorem pe_callB (hc : CallR X (.builtin id) r) (hg : Gl X x) (hm : X.mg x = none) (hv : bootBuiltins x = some (.builtin id)) (ha : PA X (e :: es) t) (hn : x ≠ "__name__" := by decide) (hdb : (x == ("__debug__" : Str)) = false := by decide)
    (he : starEach (e :: es) X.env = (false, eval e X.env) :: starEach es X.env := by rfl) (hpl : (backTo pos (starEach es X.env)).any (·.1) = false := by rfl) : PE X (.Call (.Name x p) (e :: es) [] pos) (tCB r t) := by
  intro pins s σ H Q I h
  refine wpAny_Call_Name_kw (ld_blt I hg hm hv ?_ hn hdb)
  exact PyProof.Rows.callWith_builtin1 (thn (ha pos pins s σ H _ I h) fun us s1 ⟨vs, H1, I1, r1, q1⟩ => hc pins s1 σ H1 vs us Q I1 r1 q1) he hpl
theorem pe_callTy (hc : CallR X (.type T) r) (hg : Gl X x) (hm : X.mg x = none) (hv : bootBuiltins x = some (.type T)) (ha : PA X (e :: es) t) (hn : x ≠ "__name__" := by decide) (hdb : (x == ("__debug__" : Str)) = false := by decide)
    (he : starEach (e :: es) X.env = (false, eval e X.env) :: starEach es X.env := by rfl) (hpl : (backTo pos (starEach es X.env)).any (·.1) = false := by rfl) : PE X (.Call (.Name x p) (e :: es) [] pos) (tCB r t) := by
  intro pins s σ H Q I h
  refine wpAny_Call_Name_kw (ld_blt I hg hm hv ?_ hn hdb)
  exact PyProof.Rows.callWith_type1 (thn (ha pos pins s σ H _ I h) fun us s1 ⟨vs, H1, I1, r1, q1⟩ => hc pins s1 σ H1 vs us Q I1 r1 q1) he hpl
end
end L2
namespace HT
open PySem PyProof.Rows
def lexLt : List Int → List Int → Bool
  | [], [] => false
  | [], _ :: _ => true
  | _ :: _, [] => false
  | x :: xs, y :: ys => if x = y then lexLt xs ys else decide (x < y)
section
open PySem.SeqAt
open PySem.AutoSeq1 (wpAny_loadPart')
open PySem.MeetsSeq PySem.MeetsSeq2 PySem.MeetsSeq3
end
section
variable {prog : Program} {w : World} {A : Around} {E : Value → Shared → Prop} {s : Shared}
def sIx (n d : Nat) : Option Int → Nat
  | none => d
  | some v => if v < 0 then (v + (n : Int)).toNat else min v.toNat n
theorem sIx_none (n d : Nat) : sIx n d none = d := rfl
theorem sIx_nat (n d k : Nat) : sIx n d (some (k : Int)) = min k n := by
  show (if (k : Int) < 0 then ((k : Int) + (n : Int)).toNat else min (k : Int).toNat n) = min k n
  rw [if_neg (by lia), Int.toNat_natCast]
end
end HT
namespace L2
open PySem PySem.Spec PyProof.Rows
abbrev TO := St → Hp → (Option Int → Hp → Prop) → Prop
def PO (X : Cx) (e : Option Expr) (t : TO) : Prop :=
  ∀ (pins : List (Addr × Obj)) (s : Shared) (σ : St) (H : Hp) (Q : Option Int → Hp → Prop), Inv X pins σ H s → t σ H Q →
    wpAny (model X.prog X.w) X.A (evalPart e X.env) (fun u s' => ∃ o H', Inv X pins σ H' s' ∧ IsPart u o ∧ Q o H') X.xe s
def tNoPart : TO := fun _ H Q => Q none H
def tPart (t : TE) : TO := fun σ H Q => t σ H fun x H1 => ∃ i, x = .int i ∧ Q (some i) H1
section
variable {X : Cx} {e : Expr} {te : TE} {lo hi : Option Expr} {tl th : TO} {pos p2 : Pos}
theorem po_none : PO X none tNoPart := by
  intro pins s σ H Q I h
  rw [evalPart_none]
  exact wpAny_pure ⟨none, H, I, .none, h⟩
theorem po_some (h : PE X e te) : PO X (some e) (tPart te) := by
  intro pins s σ H Q I hw
  rw [evalPart_some]
  refine thn (h pins s σ H _ I hw) fun u s1 ⟨x, H1, I1, r1, q1⟩ => ?_
  obtain ⟨i, rfl, q⟩ := q1
  obtain ⟨t, rfl⟩ := r1
  exact ⟨some i, H1, I1, .int i t, q⟩
def SlR (X : Cx) (r : V → Option Int → Option Int → Hp → VK → Prop) : Prop :=
  ∀ (pins : List (Addr × Obj)) (s : Shared) (σ : St) (H : Hp) (x : V) (v vl vu : Value) (lo hi : Option Int) (sl : Addr) (Q : VK), Inv X pins σ H s → RelV x v → s.heap.IsSliceOf sl vl vu .none → IsPart vl lo → IsPart vu hi → r x lo hi H Q →
    ∃ T id, typeLookup (.type T) "__getitem__" = pure (some (.builtin id)) ∧ s.TypeIs v T ∧ wpAny (model X.prog X.w) X.A (getItem v (.ref sl)) (EP X pins σ Q) X.xe s
def tSl (r : V → Option Int → Option Int → Hp → VK → Prop) (te : TE) (tl th : TO) : TE := fun σ H Q => te σ H fun x H1 => tl σ H1 fun l H2 => th σ H2 fun u H3 => r x l u H3 Q
theorem pe_slice {r : V → Option Int → Option Int → Hp → VK → Prop} (hr : SlR X r) (he : PE X e te) (hl : PO X lo tl) (hu : PO X hi th) : PE X (.Subscript e (.Slice lo hi none p2) pos) (tSl r te tl th) := by
  intro pins s σ H Q I h
  refine Subscript_ (thn (he pins s σ H _ I h) fun v s1 ⟨x, H1, I1, r1, q1⟩ => ?_)
  refine wpAny_Slice (thn (hl pins s1 σ H1 _ I1 q1) fun vl s2 ⟨l, H2, I2, pl, q2⟩ => thn (hu pins s2 σ H2 _ I2 q2) fun vu s3 ⟨u, H3, I3, pu, q3⟩ => ?_)
  rw [evalPart_none]
  refine wpAny_pure ?_
  have I4 : Inv X pins σ H3 { s3 with heap := s3.heap.push { cls := .type "slice", data := .fields #[vl, vu, .none] } } := I3.kept (t' := s3.toks) fun b ob q => Heap.get?_push_of_some _ q
  obtain ⟨T, id, hT, ht, hg⟩ := hr pins { s3 with heap := s3.heap.push { cls := .type "slice", data := .fields #[vl, vu, .none] } } σ H3 x v vl vu l u s3.heap.objs.size Q I4 r1 (Heap.IsSliceOf.new ..) pl pu q3
  show wpAny (model X.prog X.w) X.A (subscriptTail e (.Slice lo hi none p2) v (.ref s3.heap.objs.size)) (EP X pins σ Q) X.xe { s3 with heap := s3.heap.push { cls := .type "slice", data := .fields #[vl, vu, .none] } }
  exact tail_any (ops := [.ref s3.heap.objs.size, v]) ht hT hg (by with_unfolding_all rfl)
def cutV (xs : List V) (lo hi : Option Int) : List V := (xs.drop (HT.sIx xs.length 0 lo)).take (HT.sIx xs.length xs.length hi - HT.sIx xs.length 0 lo)
theorem cutV_length (xs : List V) (lo hi : Option Int) : (cutV xs lo hi).length ≤ xs.length := by
  unfold cutV
  rw [List.length_take, List.length_drop]
  lia
def rSlT (K : PySem.W.Frag) : V → Option Int → Option Int → Hp → VK → Prop := fun x lo hi H Q => ∃ a xs, x = .ref a ∧ SqT K H a xs ∧
  ¬ (HT.sIx xs.length 0 lo = 0 ∧ HT.sIx xs.length xs.length hi = xs.length) ∧ ∀ p, H p = none → Q (.ref p) (upd H p (.tup (cutV xs lo hi)))
def rLtT (K : PySem.W.Frag) : R2 := fun x y H Q => ∃ a b ns ms, x = .ref a ∧ y = .ref b ∧ SqT K H a (ns.map V.int) ∧ SqT K H b (ms.map V.int) ∧ Q (.bl (HT.lexLt ns ms)) H
def rCatT (K : PySem.W.Frag) : R2 := fun x y H Q => ∃ a b xs ys, x = .ref a ∧ y = .ref b ∧ SqT K H a xs ∧ SqT K H b ys ∧ xs ≠ [] ∧ xs.length + ys.length ≤ sizeLine ∧
  (ys = [] → Q (.ref a) H) ∧ (ys ≠ [] → ∀ p, H p = none → Q (.ref p) (upd H p (.tup (xs ++ ys))))
end
end L2
namespace L2
open PySem PySem.Spec PyProof.Rows
def ixN (n : Nat) (i : Int) : Option Nat := if 0 ≤ i then (if i < n then some i.toNat else none) else if -(n : Int) ≤ i then some (i + n).toNat else none
def atI {α : Type} (xs : List α) (i : Int) : Option α := (ixN xs.length i).bind fun j => xs[j]?
theorem ixN_seq {n : Nat} {i : Int} {j : Nat} (h : ixN n i = some j) : seqIndex? i n = some j ∧ j < n ∧ -(n : Int) ≤ i ∧ i < n := by
  unfold ixN at h
  by_cases h0 : 0 ≤ i
  · rw [if_pos h0] at h
    by_cases h1 : i < n
    · rw [if_pos h1] at h
      have e : i.toNat = j := Option.some.inj h
      exact ⟨by rw [seqIndex_of h0 h1, e], by lia, by lia, h1⟩
    · rw [if_neg h1] at h; cases h
  · rw [if_neg h0] at h
    by_cases h1 : -(n : Int) ≤ i
    · rw [if_pos h1] at h
      have e : (i + n).toNat = j := Option.some.inj h
      exact ⟨by rw [seqIndex_neg (by lia) h1, e], by lia, h1, by lia⟩
    · rw [if_neg h1] at h; cases h
theorem atI_get {α : Type} {xs : List α} {i : Int} {v : α} (h : atI xs i = some v) : ∃ j, seqIndex? i xs.length = some j ∧ xs[j]? = some v ∧ j < xs.length ∧ -(xs.length : Int) ≤ i ∧ i < xs.length := by
  unfold atI at h
  cases e : ixN xs.length i with
  | none => rw [e] at h; cases h
  | some j =>
    rw [e] at h
    obtain ⟨h1, h2, h3, h4⟩ := ixN_seq e
    exact ⟨j, h1, h, h2, h3, h4⟩
theorem atI_nat {α : Type} {xs : List α} {j : Nat} {v : α} (h : xs[j]? = some v) : atI xs (j : Int) = some v := by
  have hj : j < xs.length := (List.getElem?_eq_some_iff.mp h).1
  have e : ixN xs.length (j : Int) = some j := by
    unfold ixN
    rw [if_pos (by lia), if_pos (by lia)]; simp
  unfold atI; rw [e]; exact h
def PlainIx (b : Expr) : Prop := ∀ o i, subscripted b false o i = operate [o, i] (getItem o i)
def IxR (X : Cx) (r : R2) : Prop :=
  ∀ (value slice : Expr) (pins : List (Addr × Obj)) (s : Shared) (σ : St) (H : Hp) (x y : V) (v u : Value) (Q : VK), Inv X pins σ H s → RelV x v → RelV y u → r x y H Q →
    subscripted slice false v u = operate [v, u] (getItem v u) → wpAny (model X.prog X.w) X.A (subscriptTail value slice v u) (EP X pins σ Q) X.xe s
def MtR (X : Cx) (id : String) (r : V → List V → Hp → VK → Prop) : Prop :=
  ∀ (pins : List (Addr × Obj)) (s : Shared) (σ : St) (H : Hp) (x : V) (xs : List V) (v : Value) (us : List Value) (Q : VK), Inv X pins σ H s → RelV x v → Vals xs us → r x xs H Q →
    wpAny (model X.prog X.w) X.A (call (.builtin id) (v :: us)) (EP X pins σ Q) X.xe s
section
variable {X : Cx} {a b : Expr} {ta tb : TE} {pos : Pos}
theorem pe_ix {r : R2} (hr : IxR X r) (ha : PE X a ta) (hb : PE X b tb) (hs : PlainIx b) : PE X (.Subscript a b pos) (tOp r ta tb) := by
  intro pins s σ H Q I h
  exact Subscript_ (binT ha hb I h fun v u s2 x y H2 I2 rx ry q => hr a b pins s2 σ H2 x y v u Q I2 rx ry q (hs _ _))
def rIxL (K : PySem.W.Frag) : R2 := fun x y H Q => ∃ p xs i v, x = .ref p ∧ y = .int i ∧ SqL K H p xs ∧ atI xs i = some v ∧ Q v H
def rIxT (K : PySem.W.Frag) : R2 := fun x y H Q => ∃ p xs i v, x = .ref p ∧ y = .int i ∧ SqT K H p xs ∧ atI xs i = some v ∧ Q v H
def rIxS : R2 := fun x y H Q => ∃ z i c, x = .str z ∧ y = .int i ∧ z.length ≤ sizeLine ∧ atI z.cps.toList i = some c ∧ Q (.str ⟨#[c]⟩) H
theorem ix_list : IxR X (rIxL X.K) := by
  intro value slice pins s σ H x y v u Q I rx ry h hs
  obtain ⟨p, xs, i, z, rfl, rfl, hq, he, q⟩ := h
  cases rx
  obtain ⟨t, rfl⟩ := ry
  obtain ⟨its, r, pl, hz⟩ := I.list hq
  obtain ⟨j, h1, h2, h3, h4, h5⟩ := atI_get he
  obtain ⟨w, ew, rw'⟩ := r.get h2
  have hl := r.length
  have hn := line63
  have fin : EP X pins σ Q w s := ⟨z, H, I, rw', q⟩
  by_cases h0 : 0 ≤ i
  · have hj : i.toNat = j := by
      rw [seqIndex_of h0 h5] at h1
      exact Option.some.inj h1
    exact item_listR pl.isList h0 (by lia) (by rw [hj]; simpa using ew) fin hs
  · have hj : (i + (its.toArray.size : Int)).toNat = j := by
      rw [seqIndex_neg (by lia) h4] at h1
      rw [List.size_toArray, ← hl]
      exact Option.some.inj h1
    exact subscriptTail_builtinR (x := w) pl.isList.typeIs slot_list_getitem.lookup
      (wpAny_getItem_list_neg (Q := fun r s' => r = w ∧ EP X pins σ Q r s') pl.isList (by lia) (by rw [List.size_toArray] <;> lia) (by lia) (by rw [hj]; simpa using ew) ⟨rfl, fin⟩) hs
theorem ix_tup : IxR X (rIxT X.K) := by
  intro value slice pins s σ H x y v u Q I rx ry h hs
  obtain ⟨p, xs, i, z, rfl, rfl, hq, he, q⟩ := h
  cases rx
  obtain ⟨t, rfl⟩ := ry
  obtain ⟨its, r, pl, hz⟩ := I.tuple hq
  obtain ⟨j, h1, h2, h3, h4, h5⟩ := atI_get he
  obtain ⟨w, ew, rw'⟩ := r.get h2
  have hl := r.length
  have hn := line63
  have fin : EP X pins σ Q w s := ⟨z, H, I, rw', q⟩
  exact subscriptTail_builtinR (x := w) pl.typeIs slot_tuple_getitem.lookup
    (getItem_tuple (j := j) (Q := fun r s' => r = w ∧ EP X pins σ Q r s') pl (by lia) (by lia) (by rw [List.size_toArray, ← hl]; exact h1) (by simpa using ew) ⟨rfl, fin⟩) hs
theorem ix_str : IxR X rIxS := by
  intro value slice pins s σ H x y v u Q I rx ry h hs
  obtain ⟨z, i, c, rfl, rfl, hz, he, q⟩ := h
  obtain ⟨t, rfl⟩ := rx
  obtain ⟨t', rfl⟩ := ry
  obtain ⟨j, h1, h2, h3, h4, h5⟩ := atI_get he
  have hl : z.cps.toList.length = z.length := by simp [Str.length]
  rw [hl] at h1 h4 h5
  have hn := line63
  exact tail_any (typeIs_str s z t) slot_str_getitem.lookup (getItem_str (c := c) (by
    have e1 : decide (i < -(2 ^ 63 : Int)) = false := decide_eq_false (by lia)
    have e2 : decide (i ≥ 2 ^ 63) = false := decide_eq_false (by lia)
    rw [e1, e2, Bool.or_false]) (by rw [h1]; simpa using h2) ⟨.str ⟨#[c]⟩, H, I.tok _, ⟨_, rfl⟩, q⟩) hs
def rIx (K : PySem.W.Frag) : R2 := fun x y H Q => rIxL K x y H Q ∨ rIxT K x y H Q ∨ rIxS x y H Q
def rSetL : V → V → V → Hp → (Hp → Prop) → Prop := fun o i v H Q => ∃ p xs k j, o = .ref p ∧ i = .int k ∧ H p = some (.lst xs) ∧ ixN xs.length k = some j ∧ Q (upd H p (.lst (xs.set j v)))
theorem slice_bounds (lo hi : Option Int) (n : Nat) : (sliceBounds lo hi none n).1 = ((HT.sIx n 0 lo : Nat) : Int) ∧ (sliceBounds lo hi none n).2.1 = ((HT.sIx n n hi : Nat) : Int) ∧ (sliceBounds lo hi none n).2.2 = 1 := by
  refine ⟨?_, ?_, rfl⟩
  · cases lo with
    | none => simp [sliceBounds, HT.sIx]
    | some i =>
      simp only [sliceBounds, HT.sIx, Option.getD_none, show (1 : Int) > 0 by decide, if_true]
      by_cases h : i < 0
      · simp only [h, if_true] <;> lia
      · simp only [h, if_false] <;> lia
  · cases hi with
    | none => simp [sliceBounds, HT.sIx]
    | some i =>
      simp only [sliceBounds, HT.sIx, Option.getD_none, show (1 : Int) > 0 by decide, if_true]
      by_cases h : i < 0
      · simp only [h, if_true] <;> lia
      · simp only [h, if_false] <;> lia
theorem slicePick_cut (its : List Value) (lo hi : Option Int) : slicePick its.toArray lo hi none = ((its.drop (HT.sIx its.length 0 lo)).take (HT.sIx its.length its.length hi - HT.sIx its.length 0 lo)).toArray := by
  obtain ⟨h1, h2, h3⟩ := slice_bounds lo hi its.toArray.size
  unfold slicePick
  rw [h1, h2, h3]
  simp only [sliceRange_one, pick_run, List.size_toArray] <;> rfl
def rSlL (K : PySem.W.Frag) : V → Option Int → Option Int → Hp → VK → Prop := fun x lo hi H Q => ∃ a xs, x = .ref a ∧ SqL K H a xs ∧ ∀ p, H p = none → Q (.ref p) (upd H p (.lst (cutV xs lo hi)))
theorem sl_list : SlR X (rSlL X.K) := by
  intro pins s σ H x v vl vu lo hi sl Q I rx hs pl pu h
  obtain ⟨a, xs, rfl, hx, q⟩ := h
  cases rx
  obtain ⟨its, r, ht, hz⟩ := I.list hx
  have hlen := r.length
  refine ⟨"list", _, slot_list_getitem.lookup, ht.isList.typeIs, ?_⟩
  refine wpAny_getItem_list_slice ht.isList hs pl pu .none (by simp) ?_ (by rw [List.size_toArray] <;> lia)
  rw [slicePick_cut, ← hlen]
  refine ⟨.ref s.heap.objs.size, _, I.laid (t' := s.toks) (o := .lst (cutV xs lo hi)) (fun b ob q => Heap.get?_push_of_some _ q) (Nat.le_refl _) ?_, rfl, q _ (I.hok.fresh (Nat.le_refl _))⟩
  exact ⟨Nat.le_trans (cutV_length xs lo hi) hz, _, 0, (r.drop (HT.sIx xs.length 0 lo)).take (HT.sIx xs.length xs.length hi - HT.sIx xs.length 0 lo), Heap.get?_push_size _ rfl⟩
def flatV : V → Bool
  | .non => true
  | .bl _ => true
  | .int _ => true
  | .str _ => true
  | _ => false
def eqV : V → V → Bool
  | .non, .non => true
  | .bl a, .bl b => a == b
  | .bl a, .int b => (if a then 1 else 0) == b
  | .int a, .bl b => a == (if b then 1 else 0)
  | .int a, .int b => a == b
  | .str a, .str b => a == b
  | _, _ => false
theorem eqAt_V {A : Around} {s : Shared} {y x : V} {u v : Value} (ry : RelV y u) (rx : RelV x v) (fy : flatV y = true) (fx : flatV x = true) : SeqAt.EqAt A s u v (eqV y x) := by
  cases y with
  | non =>
    cases ry
    cases x with
    | non => cases rx; exact SeqAt.EqAt.same _
    | bl b => cases rx; exact SeqAt.EqAt.none_bool b
    | int b => obtain ⟨t, rfl⟩ := rx; exact SeqAt.EqAt.none_int b t
    | str b => obtain ⟨t, rfl⟩ := rx; exact SeqAt.EqAt.none_str b t
    | _ => exact absurd (show false = true from fx) Bool.false_ne_true
  | bl a =>
    cases ry
    cases x with
    | non => cases rx; exact SeqAt.EqAt.bool_none a
    | bl b => cases rx; exact SeqAt.EqAt.bool_bool a b
    | int b => obtain ⟨t, rfl⟩ := rx; exact SeqAt.EqAt.bool_int a b t
    | str b => obtain ⟨t, rfl⟩ := rx; exact SeqAt.EqAt.bool_str a b t
    | _ => exact absurd (show false = true from fx) Bool.false_ne_true
  | int a =>
    obtain ⟨t', rfl⟩ := ry
    cases x with
    | non => cases rx; exact SeqAt.EqAt.int_none a t'
    | bl b => cases rx; exact SeqAt.EqAt.int_bool a t' b
    | int b => obtain ⟨t, rfl⟩ := rx; exact SeqAt.EqAt.int_int a t' b t
    | str b => obtain ⟨t, rfl⟩ := rx; exact SeqAt.EqAt.int_str a t' b t
    | _ => exact absurd (show false = true from fx) Bool.false_ne_true
  | str a =>
    obtain ⟨t', rfl⟩ := ry
    cases x with
    | non => cases rx; exact SeqAt.EqAt.str_none a t'
    | bl b => cases rx; exact SeqAt.EqAt.str_bool a t' b
    | int b => obtain ⟨t, rfl⟩ := rx; exact SeqAt.EqAt.str_int a t' b t
    | str b => obtain ⟨t, rfl⟩ := rx; exact SeqAt.EqAt.str_str a t' b t
    | _ => exact absurd (show false = true from fx) Bool.false_ne_true
  | _ => exact absurd (show false = true from fy) Bool.false_ne_true
def eqU (x : V) (u : Value) : Bool := match u with
  | .none => eqV .non x
  | .bool b => eqV (.bl b) x
  | .int i _ => eqV (.int i) x
  | .str z _ => eqV (.str z) x
  | _ => false
theorem eqU_of {x y : V} {u : Value} (r : RelV y u) (f : flatV y = true) : eqU x u = eqV y x := by
  cases y with
  | non => cases r; rfl
  | bl b => cases r; rfl
  | int i => obtain ⟨t, rfl⟩ := r; rfl
  | str z => obtain ⟨t, rfl⟩ := r; rfl
  | _ => exact absurd (show false = true from f) Bool.false_ne_true
theorem any_eqU {x : V} : ∀ {xs : List V} {us : List Value}, Vals xs us → xs.all flatV = true → us.any (eqU x) = xs.any fun y => eqV y x
  | _, _, .nil, _ => rfl
  | y :: xs, u :: us, .cons r t, f => by
    rw [List.all_cons, Bool.and_eq_true] at f
    rw [List.any_cons, List.any_cons, eqU_of r f.1, any_eqU t f.2]
theorem mem_eqAt {A : Around} {s : Shared} {x : V} {v : Value} (rx : RelV x v) (fx : flatV x = true) : ∀ {xs : List V} {us : List Value}, Vals xs us → xs.all flatV = true → ∀ u ∈ us, SeqAt.EqAt A s u v (eqU x u)
  | _, _, .nil, _ => fun u hu => by cases hu
  | y :: xs, u :: us, .cons r t, f => fun u' hu => by
    rw [List.all_cons, Bool.and_eq_true] at f
    rcases List.mem_cons.mp hu with rfl | hu
    · rw [eqU_of r f.1]; exact eqAt_V r rx f.1 fx
    · exact mem_eqAt rx fx t f.2 u' hu
def inV (x : V) (xs : List V) : Bool := xs.any fun y => eqV y x
def rIn (K : PySem.W.Frag) (neg : Bool) : R2 := fun x y H Q => ∃ p xs, y = .ref p ∧ (SqL K H p xs ∨ SqT K H p xs) ∧ flatV x = true ∧ xs.all flatV = true ∧ Q (.bl (if neg then !inV x xs else inV x xs)) H
theorem op_notIn_seq : OpR X (compareOp .NotIn) (rIn X.K true) := by
  intro pins s σ H x y v u Q I rx ry h
  obtain ⟨p, xs, rfl, hq, fx, fs, q⟩ := h
  cases ry
  rcases hq with hq | hq
  · obtain ⟨its, r, pl, hz⟩ := I.list hq
    refine SeqAt.notIn_listAt (eqU x) pl.isList (fun w hw => mem_eqAt rx fx r fs w (by simpa using hw)) ⟨.bl _, H, I, rfl, ?_⟩
    rw [show its.toArray.any (eqU x) = its.any (eqU x) by simp, any_eqU r fs]
    exact q
  · obtain ⟨its, r, pl, hz⟩ := I.tuple hq
    refine SeqAt.notIn_tupleAt (eqU x) pl (fun w hw => mem_eqAt rx fx r fs w (by simpa using hw)) ⟨.bl _, H, I, rfl, ?_⟩
    rw [show its.toArray.any (eqU x) = its.any (eqU x) by simp, any_eqU r fs]
    exact q
theorem op_notIn_str : OpR X (compareOp .NotIn) (fun x y H Q => ∃ i j, x = .str i ∧ y = .str j ∧ Q (.bl (!(!(Builtin.Str.occurrences j i 0 j.length 1).isEmpty))) H) := by
  intro pins s σ H x y v u Q I rx ry h
  obtain ⟨i, j, rfl, rfl, q⟩ := h
  obtain ⟨t, rfl⟩ := rx
  obtain ⟨t', rfl⟩ := ry
  exact notIn_str ⟨.bl _, H, I, rfl, q⟩
theorem call_list_of : CallR X (.type "list") (fun xs H Q => ∃ p ys, xs = [.ref p] ∧ (SqL X.K H p ys ∨ SqT X.K H p ys) ∧ ∀ l, H l = none → Q (.ref l) (upd H l (.lst ys))) := by
  intro pins s σ H xs us Q I r h
  obtain ⟨p, ys, rfl, hq, q⟩ := h
  obtain ⟨u, rfl, rx⟩ := vals1 r
  cases rx
  have fin : ∀ (its : List Value), Vals ys its → ys.length ≤ sizeLine → ∀ (h' : Heap) (c' : Nat), (∀ b o', s.heap.get? b = some o' → h'.get? b = some o') →
      h'.get? s.heap.objs.size = some { cls := .type "list", dict := none, data := .seq its.toArray c', slots := #[] } → EP X pins σ Q (.ref s.heap.objs.size) { s with heap := h' } := fun its r' hz h' c' kp e =>
    ⟨.ref s.heap.objs.size, _, I.laid (t' := s.toks) kp (Nat.le_refl _) (show ObjOk X.prog X.w _ h' _ (.lst ys) from ⟨hz, its, c', r', e⟩), rfl, q _ (I.hok.fresh (Nat.le_refl _))⟩
  rcases hq with hq | hq
  · obtain ⟨its, r', pl, hz⟩ := I.list hq
    have hlen := r'.length
    obtain ⟨o, ho, hc, n, hd⟩ := pl.isList
    exact call_list_seq p (.inl rfl) ho hc hd (fun h' c' kp e => fin its r' hz h' c' kp e) (by simp only [List.size_toArray] <;> lia)
  · obtain ⟨its, r', pl, hz⟩ := I.tuple hq
    have hlen := r'.length
    obtain ⟨o, ho, hc, n, hd⟩ := pl
    exact call_list_seq p (.inr rfl) ho hc hd (fun h' c' kp e => fin its r' hz h' c' kp e) (by simp only [List.size_toArray] <;> lia)
theorem call_tuple_of : CallR X (.type "tuple") (fun xs H Q => ∃ p ys, xs = [.ref p] ∧ ((SqL X.K H p ys ∧ ∀ l, H l = none → Q (.ref l) (upd H l (.tup ys))) ∨ (SqT X.K H p ys ∧ Q (.ref p) H))) := by
  intro pins s σ H xs us Q I r h
  obtain ⟨p, ys, rfl, h⟩ := h
  obtain ⟨u, rfl, rx⟩ := vals1 r
  cases rx
  rcases h with ⟨hq, q⟩ | ⟨hq, q⟩
  · obtain ⟨its, r', pl, hz⟩ := I.list hq
    have hlen := r'.length
    refine call_tuple_list pl.isList (fun h' kp => ?_) (by simp only [List.size_toArray] <;> lia)
    have I1 : Inv X pins σ H { s with heap := h' } := I.kept (t' := s.toks) kp
    have I2 : Inv X pins σ (upd H h'.objs.size (.tup ys)) { s with heap := h'.push { cls := .type "tuple", data := .seq its.toArray } } :=
      I1.laid (t' := s.toks) (fun b o e => Heap.get?_push_of_some _ e) (Nat.le_refl _) (show ObjOk X.prog X.w _ _ _ (.tup ys) from ⟨hz, its, r', IsTup.new _ _⟩)
    exact ⟨.ref h'.objs.size, _, I2, rfl, q _ (I1.hok.fresh (Nat.le_refl _))⟩
  · obtain ⟨its, r', pl, hz⟩ := I.tuple hq
    exact call_tuple_same pl ⟨.ref p, H, I, rfl, q⟩
def tyV (K : PySem.W.Frag) (T : String) (x : V) (H : Hp) : Prop := match x with
  | .str _ => T = "str"
  | .int _ => T = "int"
  | .ref p => (T = "list" ∧ ∃ xs, SqL K H p xs) ∨ (T = "tuple" ∧ ∃ o, K.lookup p = some o ∧ o.cls = .type "tuple" ∧ o.dict = none) ∨
      (T = "dict" ∧ ((∃ kvs, H p = some (.dK kvs)) ∨ ∃ kvs, H p = some (.dT kvs))) ∨ (T = "set" ∧ ∃ S n, H p = some (.set S n))
  | _ => False
theorem tyV_is {pins : List (Addr × Obj)} {σ : St} {H : Hp} {s : Shared} {T : String} {x : V} {v : Value} (I : Inv X pins σ H s) (r : RelV x v) (ty : tyV X.K T x H) :
    s.TypeIs v T ∧ ∀ a, v = .ref a → ∃ ob, s.heap.get? a = some ob ∧ ob.dict = none := by
  cases x with
  | str z =>
    obtain ⟨t, rfl⟩ := r
    cases (show T = "str" from ty)
    exact ⟨typeIs_str s z t, fun _ e => nomatch e⟩
  | int i =>
    obtain ⟨t, rfl⟩ := r
    cases (show T = "int" from ty)
    exact ⟨typeIs_int s i t, fun _ e => nomatch e⟩
  | ref p =>
    cases r
    rcases ty with ⟨rfl, xs, hq⟩ | ⟨rfl, o, hk, hc, hd⟩ | ⟨rfl, hk⟩ | ⟨rfl, S, n, hk⟩
    · obtain ⟨its, _, pl, _⟩ := I.list hq
      refine ⟨pl.isList.typeIs, fun a e => ?_⟩
      cases e
      obtain ⟨o, n, e, c, hd, _⟩ := pl
      exact ⟨o, e, hd⟩
    · refine ⟨⟨o, I.kIn p o hk, hc⟩, fun a e => ?_⟩
      cases e
      exact ⟨o, I.kIn _ o hk, hd⟩
    · have z : ∃ o, s.heap.get? p = some o ∧ o.ExactDict := by
        rcases hk with ⟨kvs, hk⟩ | ⟨kvs, hk⟩
        · obtain ⟨_, _, _, _, o, _, _, e, ex, _⟩ := I.hok p _ hk
          exact ⟨o, e, ex⟩
        · obtain ⟨_, _, _, _, o, _, _, e, ex, _⟩ := I.hok p _ hk
          exact ⟨o, e, ex⟩
      obtain ⟨o, e, ex⟩ := z
      refine ⟨⟨o, e, ex.1⟩, fun a e2 => ?_⟩
      cases e2
      exact ⟨o, e, ex.2.1⟩
    · obtain ⟨o, _, _, _, e, ex, _⟩ := I.hok p _ hk
      refine ⟨⟨o, e, ex.1⟩, fun a e2 => ?_⟩
      cases e2
      exact ⟨o, e, ex.2.1⟩
  | _ => exact False.elim ty
def tBM0 (K : PySem.W.Frag) (T : String) (r : V → List V → Hp → VK → Prop) (to : TE) : TE := fun σ H Q => to σ H fun x H1 => tyV K T x H1 ∧ r x [] H1 Q
def tBM (K : PySem.W.Frag) (T : String) (r : V → List V → Hp → VK → Prop) (to : TE) (t : TA) : TE := fun σ H Q => to σ H fun x H1 => tyV K T x H1 ∧ t σ H1 fun xs H2 => r x xs H2 Q
variable {o e : Expr} {es : List Expr} {to : TE} {t : TA} {name : Str} {apos cpos : Pos} {T id : String} {r : V → List V → Hp → VK → Prop}
theorem pe_bm (pa : PlainAttrs T) (slot : Slot T name id) (hty : typeOf (.builtin id) = pure (.type "method_descriptor")) (hm : MtR X id r) (ho : PE X o to) (ha : PA X (e :: es) t)
    (hbase : attributeBase o name X.env (eval o X.env) = eval o X.env := by rfl)
    (hfew : ((backTo cpos (starEach (e :: es) X.env)).all (fun x => !x.1) && (backToKw cpos (keywordEach [] X.env)).all (fun x => x.1.isSome)
      && decide ((e :: es).length + ([] : List Keyword).length + (if ([] : List Keyword).isEmpty then 0 else 1) < 30)) = true := by rfl)
    (hline : (apos.endLine == cpos.line) = true := by rfl) (hs : starEach (e :: es) X.env = (false, eval e X.env) :: starEach es X.env := by rfl) (hplain : (backTo cpos (starEach es X.env)).any (·.1) = false := by rfl) :
    PE X (.Call (.Attribute o name apos) (e :: es) [] cpos) (tBM X.K T r to t) := by
  intro pins s σ H Q I h
  refine wpAny_Call_method_late hbase hfew hline rfl (thn (ho pins s σ H _ I h) fun v s1 ⟨x, H1, I1, r1, ty, q1⟩ => ?_)
  obtain ⟨h1, h2⟩ := tyV_is I1 r1 ty
  refine ⟨T, id, pa, slot, hty, h1, h2, ?_⟩
  have hA := ha cpos pins s1 σ H1 _ I1 q1
  rw [hs] at hA ⊢
  refine Calls.callWith_builtin (by show (false || (backTo cpos (starEach es X.env)).any (·.1)) = false; rw [hplain] <;> rfl) (Calls.evalArgs_plain ?_)
  exact thn hA fun us s2 ⟨vs, H2, I2, r2, q2⟩ => hm pins s2 σ H2 x vs v us Q I2 r1 r2 q2
end
end L2
namespace L2
open PySem PySem.Spec PyProof.Rows
def MtM (X : Cx) (id : String) (r : V → List V → Hp → VK → Prop) : Prop :=
  ∀ (pins : List (Addr × Obj)) (s : Shared) (σ : St) (H : Hp) (x : V) (xs : List V) (v : Value) (us : List Value) (Q : VK), Inv X pins σ H s → RelV x v → Vals xs us → r x xs H Q →
    wpAny (model X.prog X.w) X.A (call (.builtin id) (v :: us)) (EP X pins σ Q) X.xe s
theorem Vals.one : ∀ {x : V} {us : List Value}, Vals [x] us → ∃ u, us = [u] ∧ RelV x u
  | _, _, .cons r .nil => ⟨_, rfl, r⟩
theorem Vals.eraseIdx : ∀ {xs : List V} {us : List Value} (i : Nat), Vals xs us → Vals (xs.eraseIdx i) (us.eraseIdx i)
  | _, _, _, .nil => .nil
  | _, _, 0, .cons _ t => t
  | _, _, i + 1, .cons r t => .cons r (Vals.eraseIdx i t)
theorem len_erase {α : Type} : ∀ (l : List α) (i : Nat), (l.eraseIdx i).length ≤ l.length
  | [], _ => Nat.le_refl _
  | _ :: _, 0 => Nat.le_succ _
  | _ :: r, i + 1 => Nat.succ_le_succ (len_erase r i)
section
variable {X : Cx} {pins : List (Addr × Obj)} {σ : St} {H : Hp} {s : Shared} {l b : Addr} {xs ys zs : List V}
theorem Inv.lset {its its' : List Value} {n : Nat} {f : Array Value → Array Value} {t' : Nat} (I : Inv X pins σ H s) (hH : H l = some (.lst xs))
    (e : s.heap.get? l = some { cls := .type "list", data := .seq its.toArray n }) (hf : f its.toArray = its'.toArray) (hv : Vals ys its') (hz : ys.length ≤ sizeLine) :
    Inv X pins σ (upd H l (.lst ys)) { s with heap := s.heap.update l (Obj.mapSeq f), toks := t' } := by
  have q := PySem.IsL.update e f
  rw [hf] at q
  refine I.write (x := l) (e := l) (by rw [hH]; exact trivial) (.inl rfl) (fun b' u hb hu => (Heap.get?_update_other s.heap (Obj.mapSeq f) (Ne.symm hb)).trans hu) ⟨_, q⟩ ?_
  exact ⟨hz, its', _, hv, q⟩
theorem Inv.lnew {its : List Value} {t' : Nat} (I : Inv X pins σ H s) (hv : Vals ys its) (hz : ys.length ≤ sizeLine) :
    Inv X pins σ (upd H s.heap.objs.size (.lst ys)) { s with heap := s.heap.push { cls := .type "list", data := .seq its.toArray }, toks := t' } :=
  I.laid (fun _ _ q => Heap.get?_push_of_some _ q) (Nat.le_refl _) ⟨hz, its, 0, hv, Heap.get?_push_size _ rfl⟩
theorem Inv.fresh (I : Inv X pins σ H s) : H s.heap.objs.size = none := I.hok.fresh (Nat.le_refl _)
theorem Inv.lstM (I : Inv X pins σ H s) (hH : H l = some (.lst xs)) : xs.length ≤ sizeLine ∧ ∃ (its : List Value) (n : Nat), Vals xs its ∧ xs.length = its.length ∧ s.heap.get? l = some { cls := .type "list", data := .seq its.toArray n } := by
  obtain ⟨z, its, n, r, e⟩ := I.hok l _ hH
  exact ⟨z, its, n, r, r.length, e⟩
theorem notLongL {n : Nat} (h : n ≤ sizeLine) : Builtin.List.listTooLong n = false := by
  unfold Builtin.List.listTooLong
  exact decide_eq_false (by lia)
end
section
variable {X : Cx}
def rAppend : V → List V → Hp → VK → Prop := fun x vs H Q => ∃ l xs y, x = .ref l ∧ vs = [y] ∧ H l = some (.lst xs) ∧ xs.length < sizeLine ∧ Q .non (upd H l (.lst (xs ++ [y])))
theorem mt_append : MtM X "list.append" rAppend := by
  intro pins s σ H x vs v us Q I rx rv h
  obtain ⟨l, xs, y, rfl, rfl, hH, hz, q⟩ := h
  cases rx
  obtain ⟨u, rfl, ru⟩ := rv.one
  obtain ⟨z, its, n, r, hl, e⟩ := I.lstM hH
  refine call_meets F.slot_list_append ⟨_, e, rfl⟩ F.entry_list_append (F.args_list_append_2 _ _) (PySem.list_append l its.toArray n u (by rw [List.size_toArray]; lia)) ⟨e, ?_⟩
  refine ⟨.non, _, I.lset (its' := its ++ [u]) hH e (by simp) (r.append (.cons ru .nil)) ?_, rfl, q⟩
  rw [List.length_append, List.length_singleton]
  lia
def rExtend : V → List V → Hp → VK → Prop := fun x vs H Q => ∃ l b xs zs, x = .ref l ∧ vs = [.ref b] ∧ H l = some (.lst xs) ∧ H b = some (.lst zs) ∧ xs.length + zs.length ≤ sizeLine ∧ Q .non (upd H l (.lst (xs ++ zs)))
theorem mt_extend : MtM X "list.extend" rExtend := by
  intro pins s σ H x vs v us Q I rx rv h
  obtain ⟨l, b, xs, zs, rfl, rfl, hH, hB, hz, q⟩ := h
  cases rx
  obtain ⟨u, rfl, ru⟩ := rv.one
  cases ru
  obtain ⟨z, its, n, r, hl, e⟩ := I.lstM hH
  obtain ⟨z2, its2, n2, r2, hl2, e2⟩ := I.lstM hB
  have hsz : its.toArray.size + its2.toArray.size ≤ sizeLine := by rw [List.size_toArray, List.size_toArray]; lia
  have hlong : ¬ (!its.toArray.isEmpty && Builtin.List.listTooLong (its.toArray.size + its2.toArray.size)) = true := by
    rw [notLongL hsz, Bool.and_false]
    exact Bool.false_ne_true
  refine call_meets F.slot_list_extend ⟨_, e, rfl⟩ F.entry_list_extend (F.args_list_extend_2 _ _)
    (AutoSeq1.list_extend_list_list_0 l its.toArray n b its2.toArray n2 hlong (by rw [List.size_toArray]; lia) (by lia)) ⟨e, e2, ?_⟩
  refine ⟨.non, _, I.lset (its' := its ++ its2) hH e (by simp) (r.append r2) ?_, rfl, q⟩
  rw [List.length_append]
  lia
def rPop : V → List V → Hp → VK → Prop := fun x vs H Q => ∃ l xs y, x = .ref l ∧ vs = [] ∧ H l = some (.lst xs) ∧ xs[xs.length - 1]? = some y ∧ Q y (upd H l (.lst xs.dropLast))
def rPopAt : V → List V → Hp → VK → Prop := fun x vs H Q => ∃ l xs i k y, x = .ref l ∧ vs = [.int i] ∧ H l = some (.lst xs) ∧ -(2 ^ 63) ≤ i ∧ i < 2 ^ 63 ∧ seqIndex? i xs.length = some k ∧ xs[k]? = some y ∧ Q y (upd H l (.lst (xs.eraseIdx k)))
theorem mt_popAt : MtM X "list.pop" rPopAt := by
  intro pins s σ H x vs v us Q I rx rv h
  obtain ⟨l, xs, i, k, y, rfl, rfl, hH, h1, h2, hk, hy, q⟩ := h
  cases rx
  obtain ⟨u, rfl, ru⟩ := rv.one
  obtain ⟨t, rfl⟩ := ru
  obtain ⟨z, its, n, r, hl, e⟩ := I.lstM hH
  obtain ⟨w, hw, rw'⟩ := r.get hy
  refine call_meets F.slot_list_pop ⟨_, e, rfl⟩ F.entry_list_pop (F.args_list_pop_2 _ _)
    (MeetsSeq.list_pop_at l its.toArray n i t k w (fitsIndex_both h1 h2) (by rw [List.size_toArray, ← hl]; exact hk) (by rw [← Array.getElem?_toList]; exact hw) (by rw [List.size_toArray]; lia)) ⟨e, ?_⟩
  refine ⟨y, _, I.lset (its' := its.eraseIdx k) hH e ?_ (r.eraseIdx k) ?_, rw', q⟩
  · show its.toArray.eraseIdxIfInBounds k = (its.eraseIdx k).toArray
    rw [List.eraseIdxIfInBounds_toArray]
  · have := len_erase xs k
    lia
def rReverse : V → List V → Hp → VK → Prop := fun x vs H Q => ∃ l xs, x = .ref l ∧ vs = [] ∧ H l = some (.lst xs) ∧ Q .non (upd H l (.lst xs.reverse))
def rClear : V → List V → Hp → VK → Prop := fun x vs H Q => ∃ l xs, x = .ref l ∧ vs = [] ∧ H l = some (.lst xs) ∧ Q .non (upd H l (.lst []))
def rCat : R2 := fun x y H Q => ∃ l b xs zs, x = .ref l ∧ y = .ref b ∧ H l = some (.lst xs) ∧ H b = some (.lst zs) ∧ xs.length + zs.length ≤ sizeLine ∧ ∀ p, H p = none → Q (.ref p) (upd H p (.lst (xs ++ zs)))
theorem op_cat : OpR X (binaryOp .Add) rCat := by
  intro pins s σ H x y v u Q I rx ry h
  obtain ⟨l, b, xs, zs, rfl, rfl, hH, hB, hz, q⟩ := h
  cases rx
  cases ry
  obtain ⟨z, its, n, r, hl, e⟩ := I.lstM hH
  obtain ⟨z2, its2, n2, r2, hl2, e2⟩ := I.lstM hB
  refine PySem.P.add_list e e2 ?_ (by rw [List.size_toArray, List.size_toArray]; lia)
  have ea : its.toArray ++ its2.toArray = (its ++ its2).toArray := by simp
  rw [ea]
  exact ⟨.ref _, _, I.lnew (t' := s.toks) (r.append r2) (by rw [List.length_append]; lia), rfl, q _ I.fresh⟩
def rRep : R2 := fun x y H Q => ∃ l k xs, x = .ref l ∧ y = .int k ∧ H l = some (.lst xs) ∧ -(2 ^ 63) ≤ k ∧ k < 2 ^ 63 ∧ xs.length * k.toNat ≤ sizeLine ∧
  ∀ p, H p = none → Q (.ref p) (upd H p (.lst (List.replicate k.toNat xs).flatten))
end
section
variable {prog : Program} {w : World} {A : Around} {E : Value → Shared → Prop} {s : Shared}
end
section
variable {X : Cx}
end
end L2
namespace L2
open PySem PySem.Spec PyProof.Rows
section
variable {κ : Type} [DecidableEq κ]
def valV (kvs : List (κ × V)) (k : κ) : Option V := (kvs.find? fun kv => decide (kv.1 = k)).map (·.2)
def putK (kvs : List (κ × V)) (k : κ) (v : V) : List (κ × V) :=
  if (kvs.any fun kv => decide (kv.1 = k)) = true then kvs.map (fun kv => if kv.1 = k then (kv.1, v) else kv) else kvs ++ [(k, v)]
def dropK (kvs : List (κ × V)) (k : κ) : List (κ × V) := kvs.filter fun kv => decide (kv.1 ≠ k)
theorem valV_pos {p : κ × V} {r : List (κ × V)} {k : κ} (e : p.1 = k) : valV (p :: r) k = some p.2 := by simp [valV, List.find?_cons, e]
theorem valV_neg {p : κ × V} {r : List (κ × V)} {k : κ} (e : ¬ p.1 = k) : valV (p :: r) k = valV r k := by simp [valV, List.find?_cons, e]
theorem valV_any (k : κ) : ∀ kvs : List (κ × V), (kvs.any fun kv => decide (kv.1 = k)) = (valV kvs k).isSome
  | [] => rfl
  | p :: r => by
    rw [List.any_cons]
    by_cases e : p.1 = k
    · simp only [valV_pos e, decide_eq_true e, Bool.true_or, Option.isSome_some]
    · rw [valV_neg e, decide_eq_false e, Bool.false_or]; exact valV_any k r
theorem length_putK (kvs : List (κ × V)) (k : κ) (v : V) : (putK kvs k v).length ≤ kvs.length + 1 := by
  unfold putK
  split
  · rw [List.length_map]; lia
  · rw [List.length_append, List.length_cons, List.length_nil]; lia
theorem putK_new {kvs : List (κ × V)} {k : κ} (v : V) (h : valV kvs k = none) : putK kvs k v = kvs ++ [(k, v)] := by
  unfold putK
  rw [valV_any, h]
  exact if_neg (by decide)
theorem RelO.isSome_eq {o : Option V} {u : Option Value} (r : RelO o u) : o.isSome = u.isSome := by
  cases o with
  | none => cases u with
    | none => rfl
    | some _ => exact (show False from r).elim
  | some _ => cases u with
    | none => exact (show False from r).elim
    | some _ => rfl
theorem KV.val {kvs : List (κ × V)} {vs : List (κ × Value)} (r : KV kvs vs) (k : κ) : RelO (valV kvs k) (valueAt vs k) := by
  unfold KV at r
  induction r with
  | nil => exact True.intro
  | @cons p q ps qs h t ih =>
    obtain ⟨h1, h2⟩ := h
    by_cases e : p.1 = k
    · have e' : q.1 = k := h1.symm.trans e
      have b : valueAt (q :: qs) k = some q.2 := by simp [valueAt, List.find?_cons, e']
      rw [valV_pos e, b]; exact h2
    · have e' : ¬ q.1 = k := fun z => e (h1.trans z)
      have b : valueAt (q :: qs) k = valueAt qs k := by simp [valueAt, List.find?_cons, e']
      rw [valV_neg e, b]; exact ih
theorem KV.any {kvs : List (κ × V)} {vs : List (κ × Value)} (r : KV kvs vs) (k : κ) : (kvs.any fun kv => decide (kv.1 = k)) = vs.any fun kv => decide (kv.1 = k) := by
  unfold KV at r
  induction r with
  | nil => rfl
  | cons h t ih => rw [List.any_cons, List.any_cons, ih, h.1]
theorem KV.repl {kvs : List (κ × V)} {vs : List (κ × Value)} (r : KV kvs vs) (k : κ) {y : V} {u : Value} (ry : RelV y u) :
    KV (kvs.map fun kv => if kv.1 = k then (kv.1, y) else kv) (vs.map fun kv => if kv.1 = k then (kv.1, u) else kv) := by
  unfold KV at r ⊢
  induction r with
  | nil => exact .nil
  | @cons p q ps qs h t ih =>
    rw [List.map_cons, List.map_cons]
    refine .cons ?_ ih
    obtain ⟨h1, h2⟩ := h
    by_cases e : p.1 = k
    · rw [if_pos e, if_pos (h1.symm.trans e)]; exact ⟨h1, ry⟩
    · rw [if_neg e, if_neg (fun z => e (h1.trans z))]; exact ⟨h1, h2⟩
theorem KV.put {kvs : List (κ × V)} {vs : List (κ × Value)} (r : KV kvs vs) (k : κ) {y : V} {u : Value} (ry : RelV y u) : KV (putK kvs k y) (stored vs k u) := by
  unfold putK stored
  rw [r.any k]
  by_cases e : (vs.any fun kv => decide (kv.1 = k)) = true
  · rw [if_pos e, if_pos e]; exact r.repl k ry
  · rw [if_neg e, if_neg e]; exact Paired.snoc r ⟨rfl, ry⟩
theorem KV.keys {kvs : List (κ × V)} {vs : List (κ × Value)} (r : KV kvs vs) : kvs.map (·.1) = vs.map (·.1) := by
  unfold KV at r
  induction r with
  | nil => rfl
  | cons h t ih => rw [List.map_cons, List.map_cons, ih, h.1]
theorem KV.length {kvs : List (κ × V)} {vs : List (κ × Value)} (r : KV kvs vs) : kvs.length = vs.length := Paired.length r
end
theorem kV_is {P : Program} {w : World} {k : Key} {u : Value} (r : RelV (kV k) u) : (mixKind P w).is k u = true := by
  cases k with
  | inl i => obtain ⟨t, e⟩ := (show ∃ t, u = Value.int i t from r); subst e; exact mixKind_int P w i t
  | inr x => obtain ⟨t, e⟩ := (show ∃ t, u = Value.str x t from r); subst e; exact mixKind_str P w x t
theorem items_are {P : Program} {w : World} : ∀ {ks : List Key} {us : List Value}, Vals (ks.map kV) us → ItemsAre (mixKind P w) ks us
  | [], _, r => by rw [List.map_nil] at r; cases r; exact .nil
  | k :: ks, _, r => by
    rw [List.map_cons] at r
    cases r with
    | cons h t => exact .cons (kV_is h) (items_are t)
abbrev KT (H : Hp) : List (List Key × V) → List (List Key × Addr × Value) → Prop := Paired fun p q => p.1 = q.1 ∧ H q.2.1 = some (.tup (p.1.map kV)) ∧ RelV p.2 q.2.2
theorem KT.val {H : Hp} {kvs : List (List Key × V)} {xs : List (List Key × Addr × Value)} (r : KT H kvs xs) (k : List Key) : RelO (valV kvs k) ((atKey xs k).map (·.2)) := by
  induction r with
  | nil => exact True.intro
  | @cons p q ps qs h t ih =>
    obtain ⟨h1, _, h2⟩ := h
    by_cases e : p.1 = k
    · have e' : q.1 = k := h1.symm.trans e
      have b : atKey (q :: qs) k = some q.2 := by simp [atKey, List.find?_cons, e']
      rw [valV_pos e, b]; exact h2
    · have e' : ¬ q.1 = k := fun z => e (h1.trans z)
      have b : atKey (q :: qs) k = atKey qs k := by simp [atKey, List.find?_cons, e']
      rw [valV_neg e, b]; exact ih
theorem KT.repl {H : Hp} {kvs : List (List Key × V)} {xs : List (List Key × Addr × Value)} (r : KT H kvs xs) (k : List Key) {y : V} {u : Value} (ry : RelV y u) :
    KT H (kvs.map fun kv => if kv.1 = k then (kv.1, y) else kv) (xs.map (putAt k u)) := by
  induction r with
  | nil => exact .nil
  | @cons p q ps qs h t ih =>
    rw [List.map_cons, List.map_cons]
    refine .cons ?_ ih
    obtain ⟨h1, h2, h3⟩ := h
    unfold putAt
    by_cases e : p.1 = k
    · rw [if_pos e, if_pos (h1.symm.trans e)]; exact ⟨h1, h2, ry⟩
    · rw [if_neg e, if_neg (fun z => e (h1.trans z))]; exact ⟨h1, h2, h3⟩
theorem KT.put {H : Hp} {kvs : List (List Key × V)} {xs : List (List Key × Addr × Value)} (r : KT H kvs xs) (k : List Key) {b : Addr} {y : V} {u : Value} (hb : H b = some (.tup (k.map kV))) (ry : RelV y u) :
    KT H (putK kvs k y) (storedH xs k b u) := by
  have e : (kvs.any fun kv => decide (kv.1 = k)) = (atKey xs k).isSome := by
    rw [valV_any, (r.val k).isSome_eq, Option.isSome_map]
  unfold putK storedH
  rw [e]
  by_cases q : (atKey xs k).isSome = true
  · rw [if_pos q, if_pos q]; exact r.repl k ry
  · rw [if_neg q, if_neg q]; exact Paired.snoc r ⟨rfl, hb, ry⟩
theorem KT.keeps {H H' : Hp} {kvs : List (List Key × V)} {xs : List (List Key × Addr × Value)} (r : KT H kvs xs) (ht : ∀ b ys, H b = some (.tup ys) → H' b = some (.tup ys)) : KT H' kvs xs :=
  Paired.mapP r fun _ _ z => ⟨z.1, ht _ _ z.2.1, z.2.2⟩
section
variable {P : Program} {w : World} {H : Hp} {h : Heap} {a : Addr}
theorem rd_of {u : HO} (ok : HOk P w H h) (e : Rd H a u) : ObjOk P w H h a u := e.ok ok
theorem dk_rd {kvs : List (Key × V)} (ok : HOk P w H h) (e : Rd H a (.dK kvs)) : kvs.length ≤ sizeLine ∧ (a == sysModules) = false ∧ ∃ vs, KV kvs vs ∧ h.DictOf (mixKind P w) a vs :=
  show ObjOk P w H h a (.dK kvs) from rd_of ok e
theorem dk_of {kvs : List (Key × V)} (ok : HOk P w H h) (e : H a = some (.dK kvs)) : kvs.length ≤ sizeLine ∧ (a == sysModules) = false ∧ ∃ vs, KV kvs vs ∧ h.DictOf (mixKind P w) a vs := dk_rd ok (.inl e)
theorem key_of {ks : List Key} (ok : HOk P w H h) (e : H a = some (.tup (ks.map kV))) : (tupleKind (mixKind P w)).is h ks a := by
  obtain ⟨_, its, r, o, h1, h2, n, h3⟩ := (show ObjOk P w H h a (.tup (ks.map kV)) from ok a _ e)
  exact ⟨o, its.toArray, n, h1, h2, h3, by simpa using items_are r⟩
theorem dt_rd {kvs : List (List Key × V)} (ok : HOk P w H h) (e : Rd H a (.dT kvs)) : kvs.length ≤ sizeLine ∧ (a == sysModules) = false ∧
    ∃ xs, KT H kvs xs ∧ h.DictOfH (tupleKind (mixKind P w)) a xs := by
  obtain ⟨z, y, xs, r, o, es, ep, h1, h2, h3, h4, h5⟩ := (show ObjOk P w H h a (.dT kvs) from rd_of ok e)
  refine ⟨z, y, xs, r, o, es, ep, h1, h2, h3, h4, fun x hx => ?_, h5⟩
  have all : ∀ {l : List (List Key × V)} {m : List (List Key × Addr × Value)}, KT H l m → ∀ x ∈ m, (tupleKind (mixKind P w)).is h x.1 x.2.1 := by
    intro l m q
    induction q with
    | nil => intro x hx; exact nomatch hx
    | @cons p q ps qs hq t ih =>
      intro x hx
      rcases List.mem_cons.mp hx with e | hx
      · subst e
        exact key_of ok (by rw [← hq.1]; exact hq.2.1)
      · exact ih x hx
  exact all r x hx
theorem dt_of {kvs : List (List Key × V)} (ok : HOk P w H h) (e : H a = some (.dT kvs)) : kvs.length ≤ sizeLine ∧ (a == sysModules) = false ∧
    ∃ xs, KT H kvs xs ∧ h.DictOfH (tupleKind (mixKind P w)) a xs := dt_rd ok (.inl e)
end
def DGet (H : Hp) (a : Addr) (y : V) (r : Option V) : Prop :=
  (∃ kvs k, Rd H a (.dK kvs) ∧ y = kV k ∧ r = valV kvs k) ∨ ∃ kvs k b, Rd H a (.dT kvs) ∧ y = .ref b ∧ H b = some (.tup (k.map kV)) ∧ r = valV kvs k
def DPut (H : Hp) (a : Addr) (y v : V) (H' : Hp) : Prop :=
  (∃ kvs k, H a = some (.dK kvs) ∧ y = kV k ∧ kvs.length < sizeLine ∧ H' = upd H a (.dK (putK kvs k v))) ∨
  ∃ kvs k b, H a = some (.dT kvs) ∧ y = .ref b ∧ H b = some (.tup (k.map kV)) ∧ kvs.length < sizeLine ∧ H' = upd H a (.dT (putK kvs k v))
theorem DGet.k {H : Hp} {a : Addr} {kvs : List (Key × V)} {k : Key} (e : H a = some (.dK kvs)) : DGet H a (kV k) (valV kvs k) := .inl ⟨kvs, k, .inl e, rfl, rfl⟩
theorem DPut.k {H : Hp} {a : Addr} {kvs : List (Key × V)} {k : Key} {v : V} (e : H a = some (.dK kvs)) (hl : kvs.length < sizeLine) : DPut H a (kV k) v (upd H a (.dK (putK kvs k v))) := .inl ⟨kvs, k, e, rfl, hl, rfl⟩
section
variable {X : Cx} {pins : List (Addr × Obj)} {σ : St} {H : Hp} {s : Shared} {a : Addr} {y v : V} {u r : Value} {o : Option V} {A : Around} {E : Value → Shared → Prop}
theorem Inv.big (I : Inv X pins σ H s) : sysModules < s.heap.objs.size := by
  have h : mainGlobals < s.heap.objs.size := (I.mod.glob.keeps I.bk).lt
  exact Nat.lt_trans (by decide) h
theorem d_getItem {Q : Value → Shared → Prop} (hu : A.units + 1 < cLine) (I : Inv X pins σ H s) (g : DGet H a y (some v)) (ry : RelV y u) (h : ∀ w' s', Inv X pins σ H s' → RelV v w' → Q w' s') :
    wpAny (model X.prog X.w) A (getItem (.ref a) u) Q E s := by
  rcases g with ⟨kvs, k, e, ey, l⟩ | ⟨kvs, k, b, e, ey, eb, l⟩
  · subst ey
    obtain ⟨z, hd, vs, rel, dd⟩ := dk_rd I.hok e
    obtain ⟨w', hw, rw'⟩ := RelO.some_of (v := v) (o := valueAt vs k) (by rw [l]; exact rel.val k)
    exact wpAny_getItem_of (kV_is ry) dd.mapOf hw (h w' _ (I.tok _) rw')
  · subst ey
    cases (show u = Value.ref b from ry)
    obtain ⟨z, hd, xs, rel, dd⟩ := dt_rd I.hok e
    obtain ⟨w', hw, rw'⟩ := RelO.some_of (v := v) (o := (atKey xs k).map (·.2)) (by rw [l]; exact rel.val k)
    obtain ⟨p, hp, hp2⟩ := Option.map_eq_some_iff.mp hw
    refine wpAny_getItem_heap (tupleKind_room_in1 hu) (key_of I.hok eb) dd hp ?_
    rw [hp2]
    exact h w' _ (I.tok _) rw'
theorem d_notIn {Q : Value → Shared → Prop} (hu : A.units + 1 < cLine) (I : Inv X pins σ H s) (g : DGet H a y o) (ry : RelV y u) (h : ∀ s', Inv X pins σ H s' → Q (.bool (!o.isSome)) s') :
    wpAny (model X.prog X.w) A (compareOp .NotIn u (.ref a)) Q E s := by
  rcases g with ⟨kvs, k, e, ey, l⟩ | ⟨kvs, k, b, e, ey, eb, l⟩
  · subst ey
    obtain ⟨z, hd, vs, rel, dd⟩ := dk_rd I.hok e
    refine wpAny_notIn_of (kV_is ry) hd dd.mapOf ?_
    rw [← (rel.val k).isSome_eq, ← l]
    exact h _ (I.tok _)
  · subst ey
    cases (show u = Value.ref b from ry)
    obtain ⟨z, hd, xs, rel, dd⟩ := dt_rd I.hok e
    refine wpAny_notIn_heap (tupleKind_room_in1 hu) (key_of I.hok eb) hd dd ?_
    have q := (rel.val k).isSome_eq
    rw [Option.isSome_map] at q
    rw [← q, ← l]
    exact h _ (I.tok _)
theorem d_write {h' : Heap} {t' : Nat} {ob : HO} (I : Inv X pins σ H s) (mu : Mut (H a)) (hs : Heap.SameBut a s.heap h') (he : ∃ q, h'.get? a = some q) (new : ObjOk X.prog X.w (upd H a ob) h' a ob) :
    Inv X pins σ (upd H a ob) { s with heap := h', toks := t' } :=
  I.write (x := a) (e := a) mu (.inl rfl) (fun b q hb z => (hs.2 b hb).trans z) he new
theorem dk_new {P : Program} {w : World} {H' : Hp} {h' : Heap} {kvs : List (Key × V)} {vs : List (Key × Value)} (z : kvs.length ≤ sizeLine) (hd : (a == sysModules) = false) (rel : KV kvs vs) (dd : h'.DictOf (mixKind P w) a vs) :
    ObjOk P w H' h' a (.dK kvs) := ⟨z, hd, vs, rel, dd⟩
theorem d_setItem {H' : Hp} {Q : Unit → Shared → Prop} (hu : A.units + 1 < cLine) (I : Inv X pins σ H s) (g : DPut H a y v H') (ry : RelV y u) (rv : RelV v r) (h : ∀ s', Inv X pins σ H' s' → Q () s') :
    wpAny (model X.prog X.w) A (setItem (.ref a) u r) Q E s := by
  rcases g with ⟨kvs, k, e, ey, l, eH⟩ | ⟨kvs, k, b, e, ey, eb, l, eH⟩
  · subst ey eH
    obtain ⟨z, hd, vs, rel, dd⟩ := dk_of I.hok e
    have hz : vs.length ≤ sizeLine := by rw [← rel.length]; exact z
    have hl : (putK kvs k v).length ≤ sizeLine := by have := length_putK kvs k v; lia
    refine wpAny_setItem_pairs (hsz := hz) (kV_is ry) dd fun h' dd' hs => h _ ?_
    have he : ∃ q, h'.get? a = some q := let ⟨q, _, _, hq, _⟩ := dd'; ⟨q, hq⟩
    exact d_write I (by rw [e]; exact True.intro) hs he (dk_new hl hd (rel.put k rv) dd')
  · subst ey eH
    cases (show u = Value.ref b from ry)
    obtain ⟨z, hd, xs, rel, dd⟩ := dt_of I.hok e
    have hz : xs.length ≤ sizeLine := by rw [← Paired.length rel]; exact z
    have hl : (putK kvs k v).length ≤ sizeLine := by have := length_putK kvs k v; lia
    refine wpAny_setItem_heap (hsz := hz) (tupleKind_room_in1 hu) (key_of I.hok eb) dd fun h' dd' hs => h _ ?_
    obtain ⟨q, es, ep, hq, h2, h3, h4, _, h5⟩ := dd'
    refine d_write I (by rw [e]; exact True.intro) hs ⟨q, hq⟩ ⟨hl, hd, _, (rel.put k eb rv).keeps fun c ys ec => ?_, q, es, ep, hq, h2, h3, h4, h5⟩
    rw [upd_ne (ne_of ec e (fun z => nomatch z))]
    exact ec
end
section
variable {X : Cx} {pins : List (Addr × Obj)} {σ : St} {H : Hp} {s : Shared} {a : Addr} {kvs : List (Key × V)} {k : Key} {u : Value} {A : Around} {E : Value → Shared → Prop}
end
def NoSl (i : Expr) : Prop := ∀ ov iv, subscripted i false ov iv = operate [ov, iv] (getItem ov iv)
theorem subD_of {prog : Program} {w : World} {A : Around} {E : Value → Shared → Prop} {s : Shared} {env : Env} {value slice : Expr} {pos : Pos} {T id : String} {Q : Value → Shared → Prop}
    (hl : typeLookup (.type T) "__getitem__" = pure (some (.builtin id))) (hs : NoSl slice)
    (h : wpAny (model prog w) A (eval value env) (fun o s₁ => wpAny (model prog w) A (eval slice env) (fun i s₂ => s₂.TypeIs o T ∧ wpAny (model prog w) A (getItem o i) Q E s₂) E s₁) E s) :
    wpAny (model prog w) A (eval (.Subscript value slice pos) env) Q E s := by
  refine Subscript_ (wpAny_mono h (fun o s₁ h₁ => wpAny_mono h₁ (fun i s₂ h₂ => ?_) fun _ _ x => x) fun _ _ x => x)
  obtain ⟨hT, h₂⟩ := h₂
  unfold subscriptTail
  refine wpAny_bind ?_
  rw [getitemInPython_of_ne hT.not_modules]
  refine wpAny_bind (wpAny_specialOf hT hl ?_)
  have fin : wpAny (model prog w) A (subscripted slice false o i) (fun r s₃ => wpAny (model prog w) A (letTemporaryGo value o r >>= fun _ => pure r) Q E s₃) E s₂ := by
    rw [hs o i]
    exact wpAny_operating (wpAny_mono h₂ (fun r s₃ h₃ => wpAny_bind (wpAny_letTemporaryGo (wpAny_pure h₃))) fun _ _ x => x)
  first
    | exact wpAny_pure (wpAny_bind fin)
    | exact wpAny_bind (wpAny_pure (wpAny_bind fin))
    | exact wpAny_bind fin
theorem dict_typeIs {X : Cx} {pins : List (Addr × Obj)} {σ : St} {H : Hp} {s : Shared} {a : Addr} {y : V} {o : Option V} (I : Inv X pins σ H s) (g : DGet H a y o) : s.TypeIs (.ref a) "dict" := by
  rcases g with ⟨kvs, k, e, _, _⟩ | ⟨kvs, k, b, e, _, _, _⟩
  · obtain ⟨_, _, vs, _, dd⟩ := dk_rd I.hok e
    exact dd.typeIs
  · obtain ⟨_, _, xs, _, dd⟩ := dt_rd I.hok e
    exact dd.typeIs
def tDGet (td ty : TE) : TE := fun σ H Q => td σ H fun x H1 => ty σ H1 fun y H2 => ∃ a v, x = .ref a ∧ DGet H2 a y (some v) ∧ Q v H2
def tDIn (ty td : TE) : TE := fun σ H Q => ty σ H fun y H1 => td σ H1 fun x H2 => ∃ a o, x = .ref a ∧ DGet H2 a y o ∧ Q (.bl o.isSome) H2
def tDNotIn (ty td : TE) : TE := fun σ H Q => ty σ H fun y H1 => td σ H1 fun x H2 => ∃ a o, x = .ref a ∧ DGet H2 a y o ∧ Q (.bl (!o.isSome)) H2
def sDPut (td ty tv : TE) : TS := fun D σ H => tv σ H fun v H1 => td σ H1 fun x H2 => ty σ H2 fun y H3 => ∃ a H4, x = .ref a ∧ DPut H3 a y v H4 ∧ D.nx σ H4
def sDAug (td ty tv : TE) (rd : V → V → Hp → VK → Prop) : TS := fun D σ H => td σ H fun x H1 => ty σ H1 fun y H2 => ∃ a v, x = .ref a ∧ DGet H2 a y (some v) ∧
  tv σ H2 fun y2 H3 => rd v y2 H3 fun z H4 => ∃ H5, DPut H4 a y z H5 ∧ D.nx σ H5
def sDDel (td ty : TE) : TS := fun D σ H => td σ H fun x H1 => ty σ H1 fun y H2 => ∃ a kvs k, x = .ref a ∧ H2 a = some (.dK kvs) ∧ y = kV k ∧ (valV kvs k).isSome = true ∧ D.nx σ (upd H2 a (.dK (dropK kvs k)))
section
variable {X : Cx} {o i e value : Expr} {pos pos' tpos : Pos} {td ty tv : TE}
theorem pe_dget (hu : X.A.units + 1 < cLine) (ho : PE X o td) (hi : PE X i ty) (hs : NoSl i) : PE X (.Subscript o i pos) (tDGet td ty) := by
  intro pins s σ H Q I h
  refine subD_of PySem.F.slot_dict_getitem.lookup hs (thn (ho pins s σ H _ I h) fun u s1 ⟨x, H1, I1, rx, q1⟩ => thn (hi pins s1 σ H1 _ I1 q1) fun iv s2 ⟨y, H2, I2, ry, a, v, ex, g, q2⟩ => ?_)
  subst ex
  obtain rfl : u = Value.ref a := rx
  exact ⟨dict_typeIs I2 g, d_getItem hu I2 g ry fun w' s3 I3 rw' => ⟨v, H2, I3, rw', q2⟩⟩
theorem pc_dnotin (hu : X.A.units + 1 < cLine) (hi : PE X i ty) (ho : PE X o td) : PC X .NotIn i o (tDNotIn ty td) := by
  intro pins s σ H Q I h
  refine thn (hi pins s σ H _ I h) fun iv s1 ⟨y, H1, I1, ry, q1⟩ => thn (ho pins s1 σ H1 _ I1 q1) fun u s2 ⟨x, H2, I2, rx, a, ov, ex, g, q2⟩ => ?_
  subst ex
  obtain rfl : u = Value.ref a := rx
  exact d_notIn hu I2 g ry fun s3 I3 => ⟨.bl (!ov.isSome), H2, I3, rfl, q2⟩
theorem ps_dput (hu : X.A.units + 1 < cLine) (ho : PE X o td) (hi : PE X i ty) (hv : PE X value tv) (hs : swapsWith value (some (.Subscript o i pos')) pos.line X.env = pure false) :
    PS X (.Assign [.Subscript o i pos'] value pos) (sDPut td ty tv) := by
  intro pins s σ H D I h
  refine wpAny_Assign_Subscript (thn (hv pins s σ H _ I h) fun r s1 ⟨v, H1, I1, rv, q1⟩ => thn (ho pins s1 σ H1 _ I1 q1) fun u s2 ⟨x, H2, I2, rx, q2⟩ => thn (hi pins s2 σ H2 _ I2 q2) fun iv s3 ⟨y, H3, I3, ry, a, H4, ex, g, q3⟩ => ?_) hs
  subst ex
  obtain rfl : u = Value.ref a := rx
  exact d_setItem hu I3 g ry rv fun s4 I4 => ⟨σ, H4, I4, q3⟩
end
theorem dk_empty {P : Program} {w : World} {H : Hp} (h : Heap) (hb : sysModules < h.objs.size) : ObjOk P w H (h.push { cls := .type "dict", data := .dict #[] }) h.objs.size (.dK []) :=
  ⟨Nat.zero_le _, beq_eq_false_iff_ne.mpr (Ne.symm (Nat.ne_of_lt hb)), [], .nil, Heap.DictOf.new h⟩
def tDNewK : TE := fun _ H Q => ∀ p, H p = none → Q (.ref p) (upd H p (.dK []))
def tDNewT : TE := fun _ H Q => ∀ p, H p = none → Q (.ref p) (upd H p (.dT []))
section
variable {X : Cx} {pos : Pos}
theorem pe_dnewK : PE X (.Dict [] [] pos) tDNewK := fun pins s σ H Q I h =>
  wpAny_Dict_empty ⟨.ref s.heap.objs.size, _, I.laid (a := s.heap.objs.size) (o := .dK []) (t' := s.toks) (fun _ _ q => Heap.get?_push_of_some _ q) (Nat.le_refl _) (dk_empty s.heap I.big), rfl, h _ (I.hok.fresh (Nat.le_refl _))⟩
end
def tPairs : List (TE × TE) → St → Hp → (List (V × V) → Hp → Prop) → Prop
  | [], _, H, Q => Q [] H
  | (tk, tv) :: r, σ, H, Q => tk σ H fun x H1 => tv σ H1 fun y H2 => tPairs r σ H2 fun ps H3 => Q ((x, y) :: ps) H3
abbrev VV : List (V × V) → List (Value × Value) → Prop := Paired fun p q => RelV p.1 q.1 ∧ RelV p.2 q.2
def PPs (X : Cx) (pos : Pos) (keys : List (Option Expr)) (values : List Expr) (trs : List (TE × TE)) : Prop :=
  ∀ (pins : List (Addr × Obj)) (s : Shared) (σ : St) (H : Hp) (Q : List (V × V) → Hp → Prop), Inv X pins σ H s → tPairs trs σ H Q →
    wpAny (model X.prog X.w) X.A (evalPairs (pairTrees keys values X.env pos)) (fun vs s' => ∃ ps H', Inv X pins σ H' s' ∧ VV ps vs ∧ Q ps H') X.xe s
def mergeK (kvs more : List (Key × V)) : List (Key × V) := more.foldl (fun acc kv => putK acc kv.1 kv.2) kvs
def tDisp (trs : List (TE × TE)) : TE := fun σ H Q => ∀ p, H p = none → tPairs trs σ (upd H p (.dK [])) fun ps H2 => H2 p = some (.dK []) ∧ ∃ kvs : List (Key × V), ps = kvs.map (fun kv => (kV kv.1, kv.2)) ∧ kvs.length ≤ 15 ∧ Q (.ref p) (upd H2 p (.dK (mergeK [] kvs)))
structure M1 (X : Cx) (o : Expr) (m : Str) (apos : Pos) (e : Expr) (cpos : Pos) : Prop where
  base : attributeBase o m X.env (eval o X.env) = eval o X.env
  few : ((backTo cpos (starEach [e] X.env)).all (fun x => !x.1) && (backToKw cpos (keywordEach [] X.env)).all (fun x => x.1.isSome)
    && decide (([e] : List Expr).length + ([] : List Keyword).length + (if ([] : List Keyword).isEmpty then 0 else 1) < 30)) = true
  line : (apos.endLine == cpos.line) = true
  trees : backTo cpos (starEach [e] X.env) = [(false, eval e X.env)]
structure M2 (X : Cx) (o : Expr) (m : Str) (apos : Pos) (e f : Expr) (cpos : Pos) : Prop where
  base : attributeBase o m X.env (eval o X.env) = eval o X.env
  few : ((backTo cpos (starEach [e, f] X.env)).all (fun x => !x.1) && (backToKw cpos (keywordEach [] X.env)).all (fun x => x.1.isSome)
    && decide (([e, f] : List Expr).length + ([] : List Keyword).length + (if ([] : List Keyword).isEmpty then 0 else 1) < 30)) = true
  line : (apos.endLine == cpos.line) = true
  trees : backTo cpos (starEach [e, f] X.env) = [(false, eval e X.env), (false, eval f X.env)]
def IsD (H : Hp) (a : Addr) : Prop := (∃ kvs, Rd H a (.dK kvs)) ∨ ∃ kvs, Rd H a (.dT kvs)
section
variable {X : Cx} {pins : List (Addr × Obj)} {σ : St} {H : Hp} {s : Shared} {a : Addr} {y d : V} {u r : Value} {o : Option V} {A : Around} {E : Value → Shared → Prop}
end
def tDGet1 (td ty : TE) : TE := fun σ H Q => td σ H fun x H1 => ∃ a, x = .ref a ∧ IsD H1 a ∧ ty σ H1 fun y H2 => ∃ o, DGet H2 a y o ∧ Q (o.getD .non) H2
def tDGet2 (td ty tx : TE) : TE := fun σ H Q => td σ H fun x H1 => ∃ a, x = .ref a ∧ IsD H1 a ∧ ty σ H1 fun y H2 => tx σ H2 fun z H3 => ∃ o, DGet H3 a y o ∧ Q (o.getD z) H3
def tDPop1 (td ty : TE) : TE := fun σ H Q => td σ H fun x H1 => ∃ a, x = .ref a ∧ IsD H1 a ∧ ty σ H1 fun y H2 => ∃ kvs k v, H2 a = some (.dK kvs) ∧ y = kV k ∧ valV kvs k = some v ∧ Q v (upd H2 a (.dK (dropK kvs k)))
def tDPop2 (td ty tx : TE) : TE := fun σ H Q => td σ H fun x H1 => ∃ a, x = .ref a ∧ IsD H1 a ∧ ty σ H1 fun y H2 => tx σ H2 fun z H3 => ∃ kvs k, H3 a = some (.dK kvs) ∧ y = kV k ∧
  (∀ v, valV kvs k = some v → Q v (upd H3 a (.dK (dropK kvs k)))) ∧ (valV kvs k = none → Q z H3)
section
variable {X : Cx} {o e f : Expr} {apos cpos : Pos} {td ty tx : TE}
end
section
variable {X : Cx} {pins : List (Addr × Obj)} {σ : St} {H : Hp} {s : Shared} {a : Addr} {kvs : List (Key × V)} {A : Around} {E : Value → Shared → Prop}
end
section
variable {X : Cx} {pins : List (Addr × Obj)} {σ : St} {H : Hp} {s : Shared} {a : Addr} {y : V} {u : Value} {A : Around} {E : Value → Shared → Prop}
end
end L2
namespace Att
open PySem PySem.W PySem.Calls PyProof.Rows
theorem ints_of_wellAll {P : Params} {h : Heap} : ∀ (ns : List Int) (vs : List Value), WellAll P h vs (ns.map WData.int) → IntsAre vs ns := by
  intro ns
  induction ns with
  | nil =>
    intro vs w
    rw [List.map_nil] at w
    cases w
    exact .nil
  | cons n ns ih =>
    intro vs w
    rw [List.map_cons] at w
    cases w with
    | cons a b =>
      cases a
      exact .cons _ _ (ih _ b)
theorem script_of {l : OpenLaw} {n : Nat} (hn : l.most = some n) {P : Params} {h : Heap} {args : List WData} {vals : List Value}
    (hpre : l.row.toRowW.claim.pre args = true) (hwl : WellAll P h vals args) :
    ∃ a vs ns, vals = [Value.ref a] ∧ args = [WData.list (ns.map WData.int)] ∧ h.get? a = some { cls := .type "list", data := .seq vs.toArray } ∧ IntsAre vs ns ∧ ns.length ≤ n := by
  have hsh : WShape.hasAll [] args [.list .int] = true := (pre_splitW hpre).1
  have hc : l.pre.holds [] { args := args } = true := (pre_splitW hpre).2
  obtain ⟨d, r, rfl, h1, h2⟩ := hasAllW_cons hsh
  obtain rfl := hasAllW_nil h2
  obtain ⟨xs, rfl, h3⟩ := hasW_list h1
  obtain ⟨ns, rfl⟩ := items_int h3
  have hlen : ns.length ≤ n := by
    unfold OpenLaw.pre at hc
    have h4 : (WTm.not (.lt (.lit (.int (n : Int))) (.len (.arg 0)))).holds [] { args := [.list (ns.map .int)] } = true := by
      have h4 := (holds_andW hc).1
      rw [hn] at h4
      exact h4
    have h5 := condW_of h4 (w_not (w_lt w_lit (w_len_list (w_arg rfl))))
    rw [List.length_map] at h5
    refine Nat.le_of_not_lt fun q => ?_
    have q' : (n : Int) < ((ns.length : Nat) : Int) := by lia
    first
      | (rw [decide_eq_true q'] at h5; exact absurd h5 (by decide))
      | (simp at h5; lia)
  cases hwl with
  | cons w1 w2 =>
    cases w2
    cases w1 with
    | list ho hall => exact ⟨_, _, ns, rfl, rfl, ho, ints_of_wellAll ns _ hall, hlen⟩
theorem post_true (l : OpenLaw) (args : List WData) : l.row.toRowW.claim.post args (.bool true) args = true :=
  postW_of (r := l.row.toRowW) (X := (true == true))
    (show WShape.has [] (.bool true) .bool = true by first | rfl | decide | simp [WShape.has, WShape.arms, WShape.armsAll])
    (show (WTm.eq .res (.lit (.bool true))).value [] { args := args, res := some (.bool true), after := args } = some (.bool (true == true)) from w_eq_bool (w_res rfl) w_lit) rfl
theorem attach_call {l : OpenLaw} {n : Nat} {q : Program} {loose : List Str} {XP : (Str → Option Value) → Heap → Prop} {YP : World → Heap → Prop} {d : DefRec}
    (hn : l.most = some n) (hdf : d.params.defaults = [])
    (call : ∀ (w : World) (s₀ s₁ : Shared) (mg mb : Str → Option Value) (fa : Addr) (o : Obj) (pm cd doc : Value) (a : Addr) (vs : List Value) (ns : List Int),
      Ground q loose [] XP w s₀ mg mb s₁.heap → YP w s₁.heap →
      s₁.heap.get? fa = some o → o.data = .func (docDef d.name d.params d.body d.scope pm cd doc) → s₁.heap.CodeRec cd d.name → mg d.name = some (.ref fa) →
      s₁.heap.get? a = some { cls := .type "list", data := .seq vs.toArray } → IntsAre vs ns → ns.length ≤ n → s₁.gens = #[] →
      codeAny (model l.prog w) callerA (.call (.ref fa) ⟨[.ref a], []⟩) (fun r s' => r = .ok (.ret (.bool true)) ∧ OldK s₁.heap s'.heap ∧ s'.os = s₁.os ∧ AllBare s'.gens) s₁) :
    WalkO q loose XP YP l.row.toRowW d [] (fun f vs => PySem.call f vs) := by
  intro w s₀ s₁ mg mb G Y fa o pm cd doc dV kV ho hd hcd hD hmg hg args vals as hpre hlay hrd hwl hlo
  obtain rfl : dV = .none := Dflts.none hD hdf
  obtain rfl : kV = .none := Dflts.noKw hD
  obtain ⟨a, vs, ns, rfl, rfl, hobj, hints, hlen⟩ := script_of hn hpre hwl
  refine enter_call (codeAny_mono (call w s₀ s₁ mg mb fa o pm cd doc a vs ns G Y ho (fd_plain hd) hcd hmg hobj hints hlen hg) fun r s' hq => ?_)
  obtain ⟨rfl, h2, h3, h4⟩ := hq
  exact ⟨.inl ⟨.bool true, .bool true, [], rfl, fun _ => rfl, .bool true, post_true l _, fun _ => ⟨List.Pairwise.nil, fun _ hm => (nomatch hm)⟩⟩, h2, h3, h4⟩
section
variable {prog : Program} {w : World} {A : Around} {E : Value → Shared → Prop} {s : Shared} {K : Frag}
def noObjs (h : Heap) : Heap := { h with objs := #[] }
def ledger (h : Heap) (L d : Addr) : List (Addr × Obj) := (List.range h.objs.size).filterMap fun a => if a = L ∨ a = d then none else (h.get? a).map fun o => (a, o)
end
end Att
namespace L2
open PySem PySem.Spec PyProof.Rows
theorem vals_ints : ∀ {vs : List Value} {ns : List Int}, IntsAre vs ns → Vals (ns.map V.int) vs
  | _, _, .nil => .nil
  | _, _, .cons n t h => .cons ⟨t, rfl⟩ (vals_ints h)
def Only (H : Hp) : Prop := ∀ b, H b = none ∨ ∃ o xs, H b = some (.frz o (.lst xs))
theorem law_call {P : Program} {w : World} {K : PySem.W.Frag} {mg mb : Str → Option Value} {CX : CXT} {k : Nat} {fa a : Addr} {fd : FuncData} {x : Str} {sp : Sp} {s₁ : Shared} {vs : List Value} {ns : List Int}
    (KX : K.In s₁.heap) (hns : s₁.heap.Ns mainGlobals mg) (hb : s₁.heap.Ns builtinsNs mb) (hbb : ∀ x : Str, x ≠ "__name__" → mb x = bootBuiltins x) (hlim : s₁.heap.NoLimit) (hg : s₁.gens = #[])
    (ha : s₁.heap.get? a = some { cls := .type "list", data := .seq vs.toArray }) (hi : IntsAre vs ns) (hl : ns.length ≤ sizeLine) (hr : Room k callerA)
    (F : ∀ base : Heap, K.In base → base.Ns mainGlobals mg → FnOk P w K mg base CX k fa fd [x] sp) (hbind : ∀ (s : Shared) (u : Value), BindsTo s fd ⟨[u], []⟩ [(x, u)])
    (hsp : ∀ H : Hp, Only H → SqL K H a (ns.map V.int) → sp [.ref a] H (fun v _ => v = .bl true) fun _ _ _ => False)
    (hCX : ∀ H e s', CX [] H s₁ (fun _ _ _ => False) e s' → False) :
    codeAny (model P w) callerA (.call (.ref fa) ⟨[.ref a], []⟩) (fun r s' => r = .ok (.ret (.bool true)) ∧ OldK s₁.heap s'.heap ∧ s'.os = s₁.os ∧ AllBare s'.gens) s₁ := by
  have rv := vals_ints hi
  have lenV := hi.length
  have core : ∀ H : Hp, Only H → SqL K H a (ns.map V.int) → HOk P w H s₁.heap → (∀ b, H b ≠ none → b = a) → (H a ≠ none → K.lookup a = none) →
      codeAny (model P w) callerA (.call (.ref fa) ⟨[.ref a], []⟩) (fun r s' => r = .ok (.ret (.bool true)) ∧ OldK s₁.heap s'.heap ∧ s'.os = s₁.os ∧ AllBare s'.gens) s₁ := by
    intro H hO hS hok hA hK
    have base_of : ∀ {b : Addr} {o : Obj}, s₁.heap.get? b = some o → H b = none → (hidT s₁.heap H).get? b = some o := fun e n => hidT_get e n
    have noA : ∀ {b : Addr} {o : Obj} {es : Array DictEntry} {ep : Nat}, s₁.heap.get? b = some o → o.data = .dict es ep → H b = none := fun {b o es ep} e d => by
      cases q : H b with
      | none => rfl
      | some u =>
        have e' : b = a := hA b (by rw [q]; simp)
        subst e'
        rw [ha] at e; cases e
        have d' : Data.seq vs.toArray _ = Data.dict es ep := d
        cases d'
    have nsK : ∀ {b : Addr} {m : Str → Option Value}, s₁.heap.Ns b m → (hidT s₁.heap H).Ns b m := fun {b m} ⟨o, es, ep, e, d, r⟩ => ⟨o, es, ep, base_of e (noA e d), d, r⟩
    have hKb : K.In (hidT s₁.heap H) := fun b o e => base_of (KX b o e) (by
      cases q : H b with
      | none => rfl
      | some u =>
        have e' : b = a := hA b (by rw [q]; simp)
        subst e'
        rw [hK (by rw [q]; simp)] at e; cases e)
    have hM : Mod K mg (hidT s₁.heap H) := ⟨hKb, nsK hns, ⟨mb, nsK hb, hbb⟩, let ⟨mc, h1, h2⟩ := hlim; ⟨mc, nsK h1, h2⟩⟩
    have e0 : Env0 P w K mg (hidT s₁.heap H) callerA [] s₁ H := ⟨rfl, hM, fun b o e => of_hidT e, Nat.le_of_eq (hidT_size _ _), trivial, fun b hb => absurd (show b ∈ ([] : List Addr) from hb) (by simp), hok, .of_eq hg⟩
    refine codeAny_mono ((F _ hKb (nsK hns)).run callerA [] s₁ H ⟨[.ref a], []⟩ [.ref a] [.ref a] _ _ hr e0 (hbind s₁ (.ref a)) (.cons rfl .nil) (hsp H hO hS)) fun r s' h => ?_
    cases r with
    | error e => exact (hCX H e s' h).elim
    | ok fl =>
      cases fl with
      | next => exact False.elim h
      | brk => exact False.elim h
      | cont => exact False.elim h
      | ret u =>
        obtain ⟨v, H', os, bare, un, hok', r', q⟩ := h
        have q' : v = .bl true := q
        subst q'
        obtain rfl : u = Value.bool true := r'
        refine ⟨rfl, OldK.of_keep fun b o e => ?_, os, bare⟩
        cases q : H b with
        | none => exact un.keep b o e q (by intro z; exact absurd (show b ∈ ([] : List Addr) from z) (by simp)) (by simp)
        | some u =>
          rcases hO b with z | ⟨ob, xs, z⟩
          · rw [q] at z; cases z
          · have z2 := un.frzs b ob _ z
            obtain ⟨e1, _⟩ := hok b _ z
            obtain ⟨e2, _⟩ := hok' b _ z2
            rw [e] at e1; cases e1
            exact e2
  cases hk : K.lookup a with
  | some o =>
    have e := KX a o hk
    rw [ha] at e
    cases e
    refine core (fun _ => none) (fun _ => .inl rfl) (.inr ⟨_, vs.toArray, _, hk, rfl, rfl, rfl, by rw [List.size_toArray, lenV]; exact hl, by simpa using rv⟩) (fun b u z => by have z' : (none : Option HO) = some u := z; cases z') (fun b z => absurd rfl z) fun z => absurd rfl z
  | none =>
    refine core (fun b => if b = a then some (.frz { cls := .type "list", data := .seq vs.toArray } (.lst (ns.map V.int))) else none) (fun b => ?_) (.inl (.inr ⟨{ cls := .type "list", data := .seq vs.toArray }, if_pos rfl⟩)) (fun b u z => ?_) (fun b z => ?_) fun _ => hk
    · by_cases hb : b = a
      · exact .inr ⟨_, _, if_pos hb⟩
      · exact .inl (if_neg hb)
    · by_cases hb : b = a
      · have z' := (if_pos hb).symm.trans z
        cases z'
        subst hb
        exact ⟨ha, by rw [List.length_map]; exact hl, vs, _, rv, ha⟩
      · have z' := (if_neg hb).symm.trans z
        cases z'
    · by_cases hb : b = a
      · exact hb
      · exact absurd (if_neg hb) z
end L2
namespace L2
open PySem PySem.Spec PyProof.Rows
abbrev KOf {K : PySem.W.Frag} {h : Heap} (_ : K.In h) : PySem.W.Frag := K
theorem walk_of {l : PySem.W.OpenLaw} {n k : Nat} {q : Program} {loose : List Str} {XP : (Str → Option Value) → Heap → Prop} {YP : World → Heap → Prop} {d : DefRec} {K : Params → PySem.W.Frag} {CX : World → CXT} {sp : World → Sp} {x : Str}
    (hn : l.most = some n) (hn2 : n ≤ sizeLine) (hdf : d.params.defaults = []) (hr : Room k callerA)
    (hY : ∀ (w : World) (h : Heap), YP w h → (K w.params).In h)
    (F : ∀ (w : World) (mg : Str → Option Value) (fa : Addr) (h : Heap), (K w.params).In h → h.Ns mainGlobals mg → mg d.name = some (.ref fa) →
      ∃ fd : FuncData, (∀ (s : Shared) (u : Value), BindsTo s fd ⟨[u], []⟩ [(x, u)]) ∧
        ∀ base : Heap, (K w.params).In base → base.Ns mainGlobals mg → FnOk l.prog w (K w.params) mg base (CX w) k fa fd [x] (sp w))
    (hsp : ∀ (w : World) (H : Hp) (a : Addr) (ns : List Int), ns.length ≤ n → Only H → SqL (K w.params) H a (ns.map V.int) → sp w [.ref a] H (fun v _ => v = .bl true) fun _ _ _ => False)
    (hCX : ∀ (w : World) (H : Hp) (s : Shared) (e : Value) (s' : Shared), CX w [] H s (fun _ _ _ => False) e s' → False) :
    PySem.W.WalkO q loose XP YP l.row.toRowW d [] (fun f vs => PySem.call f vs) := by
  refine Att.attach_call hn hdf fun w s₀ s₁ mg mb fa o pm cd doc a vs ns G Y ho hd hcd hmg hobj hints hlen hg => ?_
  have KX := hY w _ Y
  obtain ⟨fd, hb, hF⟩ := F w mg fa _ KX G.T.g hmg
  exact law_call KX G.T.g G.T.b G.T.builtins G.T.nolimit hg hobj hints (Nat.le_trans hlen hn2) hr hF hb (fun H hO hS => hsp w H a ns hlen hO hS) fun H e s' => hCX w H s₁ e s'
end L2
namespace L2
open PySem PySem.Spec PyProof.Rows
def inClass (s : Stmt) (j : Nat) : Stmt := match s with
  | .ClassDef _ _ _ body _ _ _ _ _ _ _ => body.getD j (.Pass ⟨0, 0, 0, 0⟩)
  | _ => .Pass ⟨0, 0, 0, 0⟩
def defArgs (s : Stmt) : Arguments := match s with
  | .FunctionDef _ a _ _ _ _ _ _ _ _ => a
  | _ => { posonlyargs := [], args := [], vararg := none, kwonlyargs := [], kw_defaults := [], kwarg := none, defaults := [] }
def defBody (s : Stmt) : List Stmt := match s with
  | .FunctionDef _ _ b _ _ _ _ _ _ _ => b
  | _ => []
def defScope (s : Stmt) : Scope := match s with
  | .FunctionDef _ _ _ _ _ _ sc _ _ _ => sc
  | _ => { kind := .function, names := [], isGenerator := false, isCoroutine := false }
abbrev CX0 : CXT := fun _ _ _ _ _ _ => False
abbrev E0 : XK := fun _ _ _ => False
theorem pass0 {X : Cx} : Passes CX0 X E0 := fun _ _ _ _ _ _ _ h => h.elim
structure Fun (K : PySem.W.Frag) (x qual : Str) (st : Stmt) (f : Addr) (fd : FuncData) : Prop where
  ex : ∃ (oc : Value) (od : Option Addr) (kV doc pm : Value) (an : Option Addr) (cdv ct : Value) (osl : Array (Option Value)),
    fd = PySem.W.fnOf x qual (defArgs st) (defBody st) (defScope st) .none kV doc pm an cdv ct ∧ K.lookup f = some ⟨oc, od, .func fd, osl⟩ ∧ PySem.W.codeIn K cdv qual = true
  kp : PySem.W.keepIn K (.ref f) = true
section
variable {P : Program} {w : World} {K : PySem.W.Frag} {mg : Str → Option Value} {base : Heap}
theorem Fun.ok {x qual : Str} {st : Stmt} {f : Addr} {fd : FuncData} {N ps : List Str} {k : Nat} {sp : Sp} (F : Fun K x qual st f fd) (S : FnScope N ps (defScope st)) (len : ∀ vs H Q E, sp vs H Q E → vs.length = ps.length)
    (hbody : ∀ (cdv : Value) (A : Around) (outer : List Env) (s : Shared) (H : Hp) (vs : List V) (Q : VK) (E : XK), Room k (A.deeper (envOfC qual (defScope st) s.heap.objs.size f cdv)) → sp vs H Q E →
      ∃ t, PSs (cxOf CX0 P w K mg base N qual (defScope st) f cdv A outer s H E).nox (defBody st) t ∧ t { nx := fun _ H' => Q .non H', rt := Q } (start N vs) H) : FnOk P w K mg base CX0 (k + 1) f fd ps sp := by
  obtain ⟨oc, od, kV, doc, pm, an, cdv, ct, osl, rfl, lk, hcd⟩ := F.ex
  refine fn_of lk hcd S len fun A outer s H vs Q E hr hsp => ?_
  obtain ⟨t, h, q⟩ := hbody cdv A outer s H vs Q E hr hsp
  exact ⟨t, h.nox, q⟩
theorem Fun.binds {x qual : Str} {st : Stmt} {f : Addr} {fd : FuncData} {ps : List Str} (F : Fun K x qual st f fd)
    (h : ∀ (kV doc pm : Value) (an : Option Addr) (cdv ct : Value) (us : List Value), us.length = ps.length → bindArgs (PySem.W.fnOf x qual (defArgs st) (defBody st) (defScope st) .none kV doc pm an cdv ct) ⟨us, []⟩ = pure (ps.zip us)) : Binds K fd ps [] := by
  obtain ⟨oc, od, kV, doc, pm, an, cdv, ct, osl, rfl, lk, hcd⟩ := F.ex
  exact .all (h kV doc pm an cdv ct)
theorem fun_mk {x qual : Str} {st : Stmt} {f : Addr} {oc : Value} {od an : Option Addr} {osl : Array (Option Value)} {kV doc pm cdv ct : Value} (l : K.lookup f = some ⟨oc, od, .func (PySem.W.fnOf x qual (defArgs st) (defBody st) (defScope st) .none kV doc pm an cdv ct), osl⟩)
    (c : PySem.W.codeIn K cdv qual = true) (k : PySem.W.keepIn K (.ref f) = true) : Fun K x qual st f (PySem.W.fnOf x qual (defArgs st) (defBody st) (defScope st) .none kV doc pm an cdv ct) := ⟨⟨oc, od, kV, doc, pm, an, cdv, ct, osl, rfl, l, c⟩, k⟩
end
theorem hu_of {A : Around} {k : Nat} (hr : Room k A) : A.units + 1 < cLine := Nat.lt_of_le_of_lt (Nat.add_le_add_left (by decide : 1 ≤ 64) _) hr.units
theorem small1000 {n : Nat} (h : n ≤ 1000) : n < sizeLine := Nat.lt_of_le_of_lt h (by decide)
section
variable {X : Cx}
theorem pv (i : Nat) {x : Str} {pos : Pos} (hN : X.N[i]? = some x := by rfl) (hv : Vis X.env.scope x := by first | exact Or.inl rfl | exact Or.inr (Or.inl rfl) | exact Or.inr (Or.inr rfl)) (hd : (x == ("__debug__" : Str)) = false := by decide)
    (hcd : (x == ("__classdict__" : Str)) = false := by decide) : PE X (.Name x pos) (tVar i) := pe_var hN hv hd hcd
end
theorem iteF {A B : Prop} (h : B) : if false = true then A else B := by
  rw [if_neg Bool.false_ne_true]
  exact h
theorem iteT {A B : Prop} (h : A) : if true = true then A else B := by
  rw [if_pos rfl]
  exact h
theorem ite2 {c A B : Prop} [Decidable c] (h1 : c → A) (h2 : ¬ c → B) : if c then A else B := by
  by_cases h : c
  · rw [if_pos h]
    exact h1 h
  · rw [if_neg h]
    exact h2 h
def Same (H H' : Hp) : Prop := ∀ b o, H b = some o → H' b = some o
theorem Same.refl (H : Hp) : Same H H := fun _ _ h => h
theorem Same.trans {H H1 H2 : Hp} (a : Same H H1) (b : Same H1 H2) : Same H H2 := fun c o h => b c o (a c o h)
theorem Same.free {H H' : Hp} (e : Same H H') {l : Addr} (h : H' l = Option.none) : H l = Option.none := by
  cases q : H l with
  | none => rfl
  | some o =>
    rw [e l o q] at h
    cases h
theorem Same.seq {K : PySem.W.Frag} {H H' : Hp} {a : Addr} {xs : List V} (e : Same H H') (h : SqL K H a xs) : SqL K H' a xs := by
  rcases h with (h | ⟨o, h⟩) | h
  · exact .inl (.inl (e _ _ h))
  · exact .inl (.inr ⟨o, e _ _ h⟩)
  · exact .inr h
end L2
namespace L2
open PySem PySem.Spec PyProof.Rows
section
variable {X : Cx}
end
section
variable {κ : Type} [DecidableEq κ]
theorem valV_in {kvs : List (κ × V)} {k : κ} {v : V} (h : valV kvs k = some v) : k ∈ kvs.map (·.1) := by
  have q : (kvs.any fun kv => decide (kv.1 = k)) = true := by
    rw [valV_any, h]
    all_goals rfl
  obtain ⟨p, hp, e⟩ := List.any_eq_true.mp q
  exact List.mem_map.mpr ⟨p, hp, of_decide_eq_true e⟩
end
end L2
end
/-! UfComp -/
section
set_option Elab.async false
set_option linter.all false
set_option maxRecDepth 100000
set_option maxHeartbeats 4000000
namespace L2
open PySem PySem.Spec PyProof.Rows
def clOf (env : Env) : List (Str × NameKind) → List (Str × Addr) → List (Str × Addr)
  | [], cs => cs
  | (n, k) :: r, cs => clOf env r (if k == .free then (n, (env.cells.lookup n).getD 0) :: cs else cs)
theorem closure_go {env : Env} : ∀ (names : List (Str × NameKind)) (cs : List (Str × Addr)), (∀ x ∈ names, x.2 = .free → ∃ c, env.cells.lookup x.1 = some c) →
    (forIn (m := Sem) names cs fun x r => if (x.2 == NameKind.free) = true then do let a ← cellOf env x.1; pure (ForInStep.yield ((x.1, a) :: r)) else pure (ForInStep.yield r)) = pure (clOf env names cs)
  | [], cs, _ => rfl
  | (n, k) :: r, cs, h => by
    have hr := fun cs' => closure_go (env := env) r cs' fun x hx => h x (List.mem_cons_of_mem _ hx)
    rw [List.forIn_cons]
    by_cases hk : k = .free
    · subst hk
      obtain ⟨c, hc⟩ := h (n, .free) List.mem_cons_self rfl
      have e1 : cellOf env n = pure c := by unfold cellOf; rw [hc]
      simp only [beq_self_eq_true, if_true, e1, pure_bind, hr, clOf, hc, Option.getD_some]
    · have hb : (k == NameKind.free) = false := by simpa using hk
      simp only [hb, Bool.false_eq_true, if_false, pure_bind, hr, clOf]
theorem closure_is {env : Env} {sc : Scope} (h : ∀ x ∈ sc.names, x.2 = .free → ∃ c, env.cells.lookup x.1 = some c) : closureFor sc env = pure (clOf env sc.names []) := by
  unfold closureFor
  have e := closure_go (env := env) sc.names [] h
  simp only [bind_pure]
  exact e
theorem clOf_sound {env : Env} : ∀ (names : List (Str × NameKind)) (cs : List (Str × Addr)), (∀ x ∈ names, x.2 = .free → ∃ c, env.cells.lookup x.1 = some c) →
    (∀ x c, cs.lookup x = some c → env.cells.lookup x = some c) → ∀ x c, (clOf env names cs).lookup x = some c → env.cells.lookup x = some c
  | [], cs, _, h => h
  | (n, k) :: r, cs, hf, h => by
    intro x c e
    unfold clOf at e
    refine clOf_sound r _ (fun y hy => hf y (List.mem_cons_of_mem _ hy)) ?_ x c e
    intro y d q
    by_cases hk : (k == NameKind.free) = true
    · rw [if_pos hk] at q
      obtain ⟨c', hc'⟩ := hf (n, k) List.mem_cons_self (by simpa using hk)
      have hc' : env.cells.lookup n = some c' := hc'
      rw [List.lookup_cons] at q
      by_cases hy : y = n
      · subst hy
        simp only [beq_self_eq_true] at q
        rw [hc'] at q ⊢
        exact q
      · have : (y == n) = false := by simpa using hy
        rw [this] at q
        exact h y d q
    · rw [if_neg hk] at q
      exact h y d q
theorem clOf_keeps {env : Env} {x : Str} : ∀ (names : List (Str × NameKind)) (cs : List (Str × Addr)), (∃ c, cs.lookup x = some c) → ∃ c, (clOf env names cs).lookup x = some c
  | [], cs, h => h
  | (n, k) :: r, cs, h => by
    unfold clOf
    refine clOf_keeps r _ ?_
    by_cases hk : (k == NameKind.free) = true
    · rw [if_pos hk, List.lookup_cons]
      cases hy : x == n with
      | true => exact ⟨_, rfl⟩
      | false => exact h
    · rw [if_neg hk]; exact h
theorem clOf_has {env : Env} {x : Str} : ∀ (names : List (Str × NameKind)) (cs : List (Str × Addr)), (x, NameKind.free) ∈ names → ∃ c, (clOf env names cs).lookup x = some c
  | [], cs, h => by simp at h
  | (n, k) :: r, cs, h => by
    unfold clOf
    rcases List.mem_cons.mp h with e | h
    · cases e
      refine clOf_keeps r _ ?_
      rw [if_pos (by rfl), List.lookup_cons]
      simp
    · exact clOf_has r _ h
theorem lookup_relabel {env : Env} : ∀ {names : List (Str × NameKind)} {x : Str} {k : NameKind},
    (names.map fun (n, k) => if (k == NameKind.free && env.scope.kind == .function && env.kindOf n == some .cell) then (n, NameKind.cell) else (n, k)).lookup x = some k →
      ∃ k', (x, k') ∈ names ∧ (k = k' ∨ (k = .cell ∧ k' = .free))
  | [], _, _, h => by simp at h
  | (n, k₀) :: r, x, k, h => by
    rw [List.map_cons] at h
    by_cases hc : (k₀ == NameKind.free && env.scope.kind == .function && env.kindOf n == some .cell) = true
    · simp only [hc, if_true, List.lookup_cons] at h
      cases hx : x == n with
      | true =>
        rw [hx] at h
        have : x = n := by simpa using hx
        subst this
        have hf : k₀ = .free := by
          have h1 := (Bool.and_eq_true_iff.mp (Bool.and_eq_true_iff.mp hc).1).1
          simpa using h1
        subst hf
        cases h
        exact ⟨_, List.mem_cons_self, .inr ⟨rfl, rfl⟩⟩
      | false =>
        rw [hx] at h
        obtain ⟨k', m, q⟩ := lookup_relabel (env := env) h
        exact ⟨k', List.mem_cons_of_mem _ m, q⟩
    · simp only [if_neg hc, List.lookup_cons] at h
      cases hx : x == n with
      | true =>
        rw [hx] at h
        have : x = n := by simpa using hx
        subst this
        cases h
        exact ⟨_, List.mem_cons_self, .inl rfl⟩
      | false =>
        rw [hx] at h
        obtain ⟨k', m, q⟩ := lookup_relabel (env := env) h
        exact ⟨k', List.mem_cons_of_mem _ m, q⟩
theorem lookup_relabel_free {env : Env} : ∀ {names : List (Str × NameKind)} {x : Str}, names.lookup x = some .free →
    (names.map fun (n, k) => if (k == NameKind.free && env.scope.kind == .function && env.kindOf n == some .cell) then (n, NameKind.cell) else (n, k)).lookup x = some .cell ∨
    (names.map fun (n, k) => if (k == NameKind.free && env.scope.kind == .function && env.kindOf n == some .cell) then (n, NameKind.cell) else (n, k)).lookup x = some .free
  | [], _, h => by simp at h
  | (n, k₀) :: r, x, h => by
    rw [List.map_cons]
    rw [List.lookup_cons] at h
    by_cases hc : (k₀ == NameKind.free && env.scope.kind == .function && env.kindOf n == some .cell) = true
    · simp only [hc, if_true, List.lookup_cons]
      cases hx : x == n with
      | true => exact .inl rfl
      | false => rw [hx] at h; exact lookup_relabel_free (env := env) h
    · simp only [if_neg hc, List.lookup_cons]
      cases hx : x == n with
      | true => rw [hx] at h; exact .inr h
      | false => rw [hx] at h; exact lookup_relabel_free (env := env) h
structure BX where
  C : Addr
  s : Shared
  H : Hp
  fp : List Addr
abbrev cxB (X : Cx) (sc : Scope) (N : List Str) (z : BX) : Cx :=
  { prog := X.prog, w := X.w, K := X.K, mg := X.mg, base := X.base, A := X.A, N := N, s₀ := z.s, H₀ := z.H, env := compEnvC sc (clOf X.env sc.names []) z.C X.env, outer := X.stack, stack := X.stack, ex := z.fp, fn := fun _ => false,
    calm := X.calm, pn := [], xe := fun _ _ => False }
structure CompScope (X : Cx) (N : List Str) (n : Nat) (ci : List Nat) (sc : Scope) : Prop where
  kind : sc.kind = .function
  nocell : ∀ y ∈ sc.names, y.2 ≠ .cell
  loc : ∀ y ∈ sc.names, y.2 = .local → sc.names.lookup y.1 = some .local
  fr : ∀ y ∈ sc.names, y.2 = .free → X.env.scope.names.lookup y.1 = some .cell ∨ X.env.scope.names.lookup y.1 = some .free
  len : N.length = n + ci.length
  caps : ∀ (j i : Nat), ci[j]? = some i → ∃ x, N[n + j]? = some x ∧ X.N[i]? = some x ∧ sc.names.lookup x = some NameKind.free
def blk (n : Nat) (ci : List Nat) (σ : St) : St := List.replicate n none ++ ci.map fun i => (σ[i]?).getD none
theorem blk_len (n : Nat) (ci : List Nat) (σ : St) : (blk n ci σ).length = n + ci.length := by simp [blk]
section
variable {X : Cx} {N : List Str} {n : Nat} {ci : List Nat} {sc : Scope} {pins : List (Addr × Obj)} {σ : St} {H : Hp} {s : Shared} {fp : List Addr}
theorem CompScope.hasC (S : CompScope X N n ci sc) (ok : X.Ok) : ∀ x ∈ sc.names, x.2 = .free → ∃ c, X.env.cells.lookup x.1 = some c := fun x hx hf => ok.has x.1 (S.fr x hx hf)
theorem cxB_ok (S : CompScope X N n ci sc) (I : Inv X pins σ H s) (hf : ∀ b ∈ fp, FpOk X pins H b) (ho : ∀ b ∈ fp, ∃ o, s.heap.get? b = some o) : (cxB X sc N ⟨s.heap.objs.size, s, H, fp⟩).Ok where
  mod := I.ok.mod
  kind := S.kind
  glob := I.ok.glob
  blt := I.ok.blt
  above := Nat.le_refl _
  inj := fun x y c h1 h2 => I.ok.inj x y c (clOf_sound _ _ (S.hasC I.ok) (by simp) x c h1) (clOf_sound _ _ (S.hasC I.ok) (by simp) y c h2)
  has := fun x hx => by
    have key : ∀ k, (relabel sc X.env).names.lookup x = some k → (k = .cell ∨ k = .free) → ∃ c, (clOf X.env sc.names []).lookup x = some c := fun k hk hkk => by
      obtain ⟨k', m, q⟩ := lookup_relabel hk
      have hfree : k' = .free := by
        rcases q with rfl | ⟨_, q⟩
        · rcases hkk with e | e
          · exact absurd e (S.nocell _ m)
          · exact e
        · exact q
      subst hfree
      exact clOf_has _ _ m
    rcases hx with hx | hx
    · exact key _ hx (.inl rfl)
    · exact key _ hx (.inr rfl)
  cab := fun x c h => by cases h
  hd := fun h => I.ok.hd h
  frames := I.ok.frames
  stk := .inl rfl
  exf := fun b hb => by
    obtain ⟨o, e⟩ := ho b hb
    refine ⟨Nat.ne_of_lt (Heap.lt_size e), fun x c h => ?_⟩
    exact (hf b hb).2.2.2.2.1 x c (clOf_sound _ _ (S.hasC I.ok) (by simp) x c h)
  bs := I.bs
  bsz := Nat.le_trans I.ok.bsz I.sz
  noex := fun b o e hb => by
    rcases (hf b hb).2.2.2.1 with z | z
    · exact I.ok.noex b o e z
    · exact absurd (Nat.lt_of_lt_of_le (Heap.lt_size e) (Nat.le_trans I.ok.bsz z)) (Nat.lt_irrefl _)
  exfs := fun b hb z => by
    obtain ⟨_, f1, f2, _⟩ := hf b hb
    rcases List.mem_cons.mp (I.stkSub b z) with e | e
    · exact f1 e
    · exact f2 e
  funs := I.stack
  frf := I.stkFree
theorem blk_look {h' : Heap} {m : Str → Option Value} {C : Addr} (S : CompScope X N n ci sc) (I : Inv X pins σ H s) (hk : ∀ x c v, X.env.cells.lookup x = some c → s.heap.IsCell c v → h'.IsCell c v)
    (i : Nat) (x : Str) (v : V) (e1 : N[i]? = some x) (e2 : (blk n ci σ)[i]? = some (some v)) : ∃ u, RelV v u ∧ Look (compEnvC sc (clOf X.env sc.names []) C X.env) h' m x u := by
  have hi : n ≤ i := by
    by_cases hi : i < n
    · unfold blk at e2
      rw [List.getElem?_append_left (by simpa using hi), List.getElem?_replicate, if_pos hi] at e2
      cases e2
    · lia
  obtain ⟨j, rfl⟩ := Nat.exists_eq_add_of_le hi
  have e2' : (ci.map fun i => (σ[i]?).getD none)[j]? = some (some v) := by
    unfold blk at e2
    rw [List.getElem?_append_right (by simp)] at e2
    simpa using e2
  rw [List.getElem?_map] at e2'
  cases ej : ci[j]? with
  | none => rw [ej] at e2'; cases e2'
  | some k =>
    rw [ej] at e2'
    obtain ⟨y, c1, c2, c3⟩ := S.caps j k ej
    rw [c1] at e1
    cases e1
    have ev : σ[k]? = some (some v) := by
      cases q : σ[k]? with
      | none => simp [q] at e2'
      | some w => simp [q] at e2'; rw [e2']
    obtain ⟨m0, _, hl⟩ := I.loc
    have c4 : (x, NameKind.free) ∈ sc.names := PySem.mem_of_lookup c3
    have kf := S.fr _ c4 rfl
    have vis : Vis X.env.scope x := .inr kf
    obtain ⟨u, ru, lk⟩ := hl k x v c2 ev vis
    refine ⟨u, ru, .inr ⟨lookup_relabel_free (env := X.env) c3, ?_⟩⟩
    rcases lk with ⟨l1, _⟩ | ⟨_, c, hc, hcell⟩
    · rcases kf with kf | kf <;> (rw [show X.env.kindOf x = _ from kf] at l1; cases l1)
    · obtain ⟨c', hc'⟩ := clOf_has (env := X.env) sc.names [] c4
      have := clOf_sound _ _ (S.hasC I.ok) (by simp) x c' hc'
      rw [hc] at this
      cases this
      exact ⟨c, hc', hk x c _ hc hcell⟩
theorem inv_block {h' : Heap} {t' : Nat} {m : Str → Option Value} (S : CompScope X N n ci sc) (I : Inv X pins σ H s) (hf : ∀ b ∈ fp, FpOk X pins H b) (ho : ∀ b ∈ fp, ∃ o, s.heap.get? b = some o)
    (hk : ∀ b o, s.heap.get? b = some o → h'.get? b = some o) (hn : h'.Ns s.heap.objs.size m) : Inv (cxB X sc N ⟨s.heap.objs.size, s, H, fp⟩) [] (blk n ci σ) H { s with heap := h', toks := t' } where
  ok := cxB_ok S I hf ho
  os := rfl
  bare := I.bare
  base := Un.kept hk
  loc := ⟨m, hn, fun i x v e1 e2 _ => blk_look S I (fun x c v _ ⟨o, e, d⟩ => ⟨o, hk _ _ e, d⟩) i x v e1 e2⟩
  cell := fun x c e => by
    obtain ⟨v, o, e1, d⟩ := I.cell x c (clOf_sound _ _ (S.hasC I.ok) (by simp) x c e)
    exact ⟨v, o, hk _ _ e1, d⟩
  free := I.hok.fresh (Nat.le_refl _)
  freeC := fun x c e => I.freeC x c (clOf_sound _ _ (S.hasC I.ok) (by simp) x c e)
  pin := fun p hp => absurd hp (by simp)
  hok := I.hok.kept hk
  len := by rw [blk_len]; exact S.len.symm
theorem keep_blk {H' : Hp} {s' : Shared} {σ' : St} {pins' : List (Addr × Obj)} (S : CompScope X N n ci sc) (I : Inv X pins σ H s) (hf : ∀ b ∈ fp, FpOk X pins H b)
    (J : Inv (cxB X sc N ⟨s.heap.objs.size, s, H, fp⟩) pins' σ' H' s') : Inv (cxB X sc N ⟨s.heap.objs.size, s, H, fp⟩) pins' (blk n ci σ) H' s' where
  ok := J.ok
  os := J.os
  bare := J.bare
  base := J.base
  loc := by
    obtain ⟨m, hn, _⟩ := J.loc
    refine ⟨m, hn, fun i x v e1 e2 _ => blk_look S I (fun x c v e ⟨o, ho, d⟩ => ?_) i x v e1 e2⟩
    have nf : c ∉ fp := fun z => (hf c z).2.2.2.2.1 x c e rfl
    obtain ⟨sl, q⟩ := J.base.any ho (I.freeC x c e) nf
    exact ⟨_, q, d⟩
  cell := J.cell
  free := J.free
  freeC := J.freeC
  pin := J.pin
  hok := J.hok
  len := by rw [blk_len]; exact S.len.symm
end
section
variable {prog : Program} {w : World} {A : Around} {R : Result → Shared → Prop} {s : Shared}
theorem comp_loop_own {elt target iter : Expr} {ifs : List Expr} {scope : Scope} {pos : Pos} {it acc : Value} {env : Env} (I : Nat → Shared → Prop)
    (turn : ∀ n s, I n s → wpAny (model prog w) A (pyNext it) (fun r s₁ => match r with
      | none => R (.ok .next) s₁
      | some v => wpAny (model prog w) A (letOwnedTupleGo target it v) (fun _ s₀ => wpAny (model prog w) A (assign target env v) (fun _ s₂ =>
          wpAny (model prog w) A (forIn ifs true fun c r => if r = true then do let ok ← isTrue c env (eval c env); pure (ForInStep.yield ok) else pure (ForInStep.yield r)) (fun ok s₃ =>
            if ok = true then wpAny (model prog w) A (eval elt env) (fun x s₄ =>
              wpAny (model prog w) A (call (.builtin "list.append") [acc, x]) (fun _ s₅ => ∃ m, m < n ∧ I m s₅) (fun _ _ => False) s₄) (fun _ _ => False) s₃
            else ∃ m, m < n ∧ I m s₃) (fun _ _ => False) s₂) (fun _ _ => False) s₀) (fun _ _ => False) s₁) (fun _ _ => False) s)
    (n : Nat) (h : I n s) :
    codeAny (model prog w) A (.compLoop (.ListComp elt [⟨target, iter, ifs, 0⟩] scope pos) 0 it acc env) R s := by
  refine codeAny_loop rfl I (fun n s hI => ?_) n h
  show wpAny _ A ((compTurn (.ListComp elt [⟨target, iter, ifs, 0⟩] scope pos) 0 it acc env).onRaise (fun x => do noteFrame x env; theTreesLotGoes x)) _ _ s
  refine wpAny_noted ?_
  rw [compTurn_list]
  refine wpAny_bind (wpAny_standAt (wpAny_bind (wpAny_mono (turn n s hI) (fun r s₁ h₁ => ?_) fun _ _ h' => h'.elim)))
  cases r with
  | none => exact wpAny_pure h₁
  | some v =>
    refine wpAny_bind (wpAny_mono h₁ (fun _ s₀ h₀ => ?_) fun _ _ h' => h'.elim)
    refine wpAny_bind (wpAny_mono h₀ (fun _ s₂ h₂ => wpAny_bind (wpAny_mono h₂ (fun ok s₃ h₃ => ?_) fun _ _ h' => h'.elim)) fun _ _ h' => h'.elim)
    cases ok with
    | false => exact wpAny_pure ⟨rfl, h₃⟩
    | true =>
      exact wpAny_bind (wpAny_bind (wpAny_mono h₃ (fun x s₄ h₄ => wpAny_bind (wpAny_mono h₄ (fun _ s₅ h₅ => wpAny_pure (wpAny_pure ⟨rfl, h₅⟩)) fun _ _ h' => h'.elim)) fun _ _ h' => h'.elim))
end
def PTs (X : Cx) (ifs : List Expr) (t : TT) : Prop :=
  ∀ (pins : List (Addr × Obj)) (s : Shared) (σ : St) (H : Hp) (Q : Bool → Hp → Prop), Inv X pins σ H s → t σ H Q →
    wpAny (model X.prog X.w) X.A (forIn ifs true fun c r => if r = true then do let ok ← isTrue c X.env (eval c X.env); pure (ForInStep.yield ok) else pure (ForInStep.yield r)) (TP X pins σ Q) X.xe s
def tYes : TT := fun _ H Q => Q true H
theorem pts_nil {X : Cx} : PTs X [] tYes := fun pins s σ H Q I h => wpAny_tests_nil ⟨H, I, h⟩
theorem pts_one {X : Cx} {c : Expr} {t : TT} (h : PT X c t) : PTs X [c] t := fun pins s σ H Q I hq => wpAny_tests_one (h pins s σ H Q I hq)
def CompG (n : Nat) (ci : List Nat) (J : It) (g : TG) (tt : TT) (te : TE) (σ : St) (H1 : Hp) (D : Addr) (Q : VK) : Prop :=
  ∃ (M : Nat) (W : Nat → List V → Hp → Prop), W 0 [] (upd H1 D (.lst [])) ∧ ∀ i ys H, i ≤ M → W i ys H →
    (J.stop i H ∧ Q (.ref D) H) ∨ (i < M ∧ J.go i H ∧ ∀ x H', J.yld i H x H' → g x (blk n ci σ) H' fun σ2 H2 => tt σ2 H2 fun b H3 =>
      if b = true then te σ2 H3 fun y H4 => H4 D = some (.lst ys) ∧ ys.length < sizeLine ∧ W (i + 1) (ys ++ [y]) (upd H4 D (.lst (ys ++ [y])))
      else W (i + 1) ys H3)
def tComp (n : Nat) (ci : List Nat) (wi : TI) (g : BX → TG) (tt : BX → TT) (te : BX → TE) : TE := fun σ H Q => wi σ H fun J H1 => ∀ (z : BX) (D : Addr), H1 D = none → CompG n ci J (g z) (tt z) (te z) σ H1 D Q
section
variable {X : Cx} {N : List Str} {n : Nat} {ci : List Nat} {sc : Scope}
theorem inv_behind {pins : List (Addr × Obj)} {σ σ' : St} {H H' : Hp} {s s' : Shared} {fp : List Addr} {h' : Heap} (I : Inv X pins σ H s) (hf : ∀ b ∈ fp, FpOk X pins H b)
    (J : Inv (cxB X sc N ⟨s.heap.objs.size, s, H, fp⟩) [] σ' H' s') (hs : Heap.SameBut s.heap.objs.size s'.heap h') : Inv X pins σ H' { s' with heap := h' } := by
  have up : ∀ b o, b ≠ s.heap.objs.size → s'.heap.get? b = some o → h'.get? b = some o := fun b o hb e => (hs.2 b hb).trans e
  have lt : ∀ b o, s.heap.get? b = some o → b ≠ s.heap.objs.size := fun b o e => Nat.ne_of_lt (Heap.lt_size e)
  have u0 := J.base
  have un : Un (frs X.stack) fp H H' s.heap h' := by
    refine ⟨fun b o e n hb hx => up b o (lt b o e) (u0.keep b o e n hb hx), fun b o e n hb hx => ?_, fun b o e n hx => u0.free b o e n hx, fun b o e hx => ?_, u0.tups, u0.frzs, u0.tbls⟩
    · obtain ⟨sl, q⟩ := u0.slot b o e n hb hx
      exact ⟨sl, up b _ (lt b o e) q⟩
    · obtain ⟨o', q⟩ := u0.there b o e hx
      exact ⟨o', up b _ (lt b o e) q⟩
  have fr : H' s.heap.objs.size = none := J.free
  have hok : HOk X.prog X.w H' h' := fun b u e => by
    refine (J.hok b u e).stay (fun c v hc q => up c v ?_ q) (fun _ q => q) fun _ _ q => q
    rintro rfl
    rcases hc with hc | hc
    · rw [← hc, fr] at e; cases e
    · rw [fr] at hc; cases hc
  refine I.call' (s' := { s' with heap := h' }) (ch := fp) J.os un hok J.bare fun b hb => ?_
  obtain ⟨_, f1, _, f3, f4, f5⟩ := hf b hb
  exact ⟨f3, f1, f4, f5⟩
theorem comp_run {elt tg iter : Expr} {ifs : List Expr} {pos : Pos} {g : BX → TG} {tt : BX → TT} {te : BX → TE} {z : BX} {it D : Addr} {fp : List Addr} {tn : Nat → Heap → Prop} {J : It} {σ0 : St} {H4 : Hp} {s4 : Shared} {Q : VK} {R : Result → Shared → Prop} {W : Nat → List V → Hp → Prop} {M : Nat}
    (hc : X.calm = true) (T : Turn X.prog X.w X.K tg J fp it tn) (bg : PG (cxB X sc N z) tg (g z)) (bt : PTs (cxB X sc N z) ifs (tt z)) (be : PE (cxB X sc N z) elt (te z))
    (keep : ∀ {pins : List (Addr × Obj)} {σ' : St} {H' : Hp} {s' : Shared}, Inv (cxB X sc N z) pins σ' H' s' → Inv (cxB X sc N z) pins σ0 H' s')
    (stat : ∀ {H' : Hp}, (∀ b ∈ fp, H' b = none) → ∀ b ∈ fp, FpOk (cxB X sc N z) [] H' b)
    (I4 : Inv (cxB X sc N z) [] σ0 H4 s4) (st4 : tn 0 s4.heap) (fr4 : ∀ b ∈ fp, H4 b = none) (w0 : W 0 [] H4)
    (turn : ∀ i ys H, i ≤ M → W i ys H → (J.stop i H ∧ Q (.ref D) H) ∨ (i < M ∧ J.go i H ∧ ∀ x H', J.yld i H x H' → g z x σ0 H' fun σ2 H2 => tt z σ2 H2 fun b H3 =>
      if b = true then te z σ2 H3 fun y H4 => H4 D = some (.lst ys) ∧ ys.length < sizeLine ∧ W (i + 1) (ys ++ [y]) (upd H4 D (.lst (ys ++ [y])))
      else W (i + 1) ys H3))
    (hR : ∀ σ' H' s', Inv (cxB X sc N z) [] σ' H' s' → Q (.ref D) H' → R (.ok .next) s') :
    codeAny (model X.prog X.w) X.A (.compLoop (.ListComp elt [⟨tg, iter, ifs, 0⟩] sc pos) 0 (.ref it) (.ref D) (cxB X sc N z).env) R s4 := by
  refine comp_loop_own (fun n s' => ∃ i ys H', n = M - i ∧ i ≤ M ∧ Inv (cxB X sc N z) [] σ0 H' s' ∧ tn i s'.heap ∧ (∀ b ∈ fp, H' b = none) ∧ W i ys H') ?_ M ⟨0, [], H4, rfl, Nat.zero_le _, I4, st4, fr4, w0⟩
  rintro n s3 ⟨i, ys, H3, rfl, hiM, I3, st3, fr3, w3⟩
  rcases turn i ys H3 hiM w3 with ⟨stop, qn⟩ | ⟨hlt, go, step⟩
  · refine thn (T.done (cxB X sc N z) rfl rfl rfl hc i [] s3 σ0 H3 (fun _ _ => False) I3 (stat fr3) st3 stop) fun r s4 ⟨hr, I4⟩ => ?_
    subst hr
    exact hR σ0 H3 s4 I4 qn
  · refine thn (T.item (cxB X sc N z) rfl rfl rfl hc i [] s3 σ0 H3 (fun _ _ => False) I3 (stat fr3) st3 go) fun r s4 ⟨u, hr, h4⟩ => ?_
    subst hr
    refine thn h4 fun _ s5 ⟨x, H5, I5, r5, y5, st5, fr5⟩ => ?_
    have I5' := I5.pinned (stat fr5) (T.obj _ _ st5)
    refine thn (bg _ s5 σ0 H5 x u _ I5' r5 (step x H5 y5)) fun _ s6 ⟨σ6, H6, I6, q6⟩ => ?_
    refine thn (bt _ s6 σ6 H6 _ I6 q6) fun b s7 ⟨H7, I7, q7⟩ => ?_
    have again : ∀ {ys' : List V} {H8 : Hp} {s8 : Shared}, Inv (cxB X sc N z) ([] ++ pinsAt fp s5.heap) σ6 H8 s8 → W (i + 1) ys' H8 → ∃ m, m < M - i ∧ ∃ i ys H', m = M - i ∧ i ≤ M ∧ Inv (cxB X sc N z) [] σ0 H' s8 ∧ tn i s8.heap ∧ (∀ b ∈ fp, H' b = none) ∧ W i ys H' := fun {ys' H8 s8} I8 w8 => by
      refine ⟨M - (i + 1), by lia, i + 1, ys', H8, rfl, hlt, keep I8.unpinned, T.keep _ _ _ st5 fun b hb o e => (I8.pin (b, o) (List.mem_append_right _ (List.mem_append_right _ (mem_pinsAt hb e)))).1, fun b hb => ?_, w8⟩
      obtain ⟨o, e, d⟩ := T.obj _ _ st5 b hb
      exact (I8.pin (b, o) (List.mem_append_right _ (List.mem_append_right _ (mem_pinsAt hb e)))).2.1
    cases b with
    | false =>
      rw [if_neg (by decide)]
      rw [if_neg (by decide)] at q7
      exact again I7 q7
    | true =>
      rw [if_pos rfl]
      rw [if_pos rfl] at q7
      refine thn (be _ s7 σ6 H7 _ I7 q7) fun yu s8 ⟨y, H8, I8, r8, hD, hz, q8⟩ => ?_
      exact thn (mt_append _ s8 σ6 H8 (.ref D) [y] (.ref D) [yu] (fun _ H9 => H9 = upd H8 D (.lst (ys ++ [y]))) I8 rfl (.cons r8 .nil) ⟨D, ys, y, rfl, rfl, hD, hz, rfl⟩) fun _ s9 ⟨_, H9, I9, _, e9⟩ => by
        subst e9
        exact again I9 q8
theorem pe_comp {elt tg iter : Expr} {ifs : List Expr} {pos : Pos} {wi : TI} {g : BX → TG} {tt : BX → TT} {te : BX → TE} (hc : X.calm = true) (hi : PI X tg iter wi) (S : CompScope X N n ci sc)
    (hb : ∀ z : BX, PG (cxB X sc N z) tg (g z) ∧ PTs (cxB X sc N z) ifs (tt z) ∧ PE (cxB X sc N z) elt (te z))
    (hs : ∀ x, foldedSetIterable iter X.env x = pure x := by intro _; rfl) : PE X (.ListComp elt [⟨tg, iter, ifs, 0⟩] sc pos) (tComp n ci wi g tt te) := by
  intro pins s σ H Q I h
  rw [eval_ListComp]
  refine wpAny_comprehension_free (use := none) rfl hs (closure_is (S.hasC I.ok)) S.kind S.loc (thn (hi pins s σ H _ I h) fun v s1 h1 => thn h1 fun itv s2 h2 => ?_)
  obtain ⟨it, fp, tn, J, H2, e, I2, T, st2, f2, rd⟩ := h2
  subst e
  refine wpAny_newObj_type (wpAny_newFunctionEnv S.nocell (by intro y hy; simp at hy) (fun h₁ hns₁ hsb₁ => ?_) S.kind)
  dsimp only at hns₁ hsb₁ ⊢
  have hD : H2 s2.heap.objs.size = none := I2.hok.fresh (Nat.le_refl _)
  have I3 : Inv X pins σ (upd H2 s2.heap.objs.size (.lst [])) { s2 with heap := s2.heap.push { cls := .type "list", data := .seq ([] : List Value).toArray } } := I2.lnew (t' := s2.toks) (ys := []) (its := []) .nil (Nat.zero_le _)
  have ob2 : ∀ b ∈ fp, ∃ o, s2.heap.get? b = some o := fun b hb => let ⟨o, e, _⟩ := T.obj _ _ st2 b hb; ⟨o, e⟩
  have neD : ∀ b ∈ fp, b ≠ s2.heap.objs.size := fun b hb => let ⟨o, e⟩ := ob2 b hb; Nat.ne_of_lt (Heap.lt_size e)
  have f3 : ∀ b ∈ fp, FpOk X pins (upd H2 s2.heap.objs.size (.lst [])) b := fun b hb => ⟨by rw [upd_ne (neD b hb)]; exact (f2 b hb).1, (f2 b hb).2⟩
  have ob3 : ∀ b ∈ fp, ∃ o, (s2.heap.push { cls := .type "list", data := .seq ([] : List Value).toArray }).get? b = some o := fun b hb => let ⟨o, e⟩ := ob2 b hb; ⟨o, Heap.get?_push_of_some _ e⟩
  have k3 : ∀ b o, (s2.heap.push { cls := .type "list", data := .seq ([] : List Value).toArray }).get? b = some o → h₁.get? b = some o := fun b o e =>
    hsb₁.extBut b o (Nat.ne_of_lt (Heap.lt_size e)) (Heap.get?_push_of_some _ e)
  have I4 : Inv (cxB X sc N ⟨_, { s2 with heap := s2.heap.push { cls := .type "list", data := .seq ([] : List Value).toArray } }, upd H2 s2.heap.objs.size (.lst []), fp⟩) [] (blk n ci σ) (upd H2 s2.heap.objs.size (.lst []))
      { s2 with heap := h₁, toks := s2.toks + ([] : List (Str × Value)).length } := inv_block (s := { s2 with heap := s2.heap.push { cls := .type "list", data := .seq ([] : List Value).toArray } }) S I3 f3 ob3 k3 hns₁
  have st4 : tn 0 h₁ := T.keep _ _ _ st2 fun b hb o e => k3 b o (Heap.get?_push_of_some _ e)
  obtain ⟨M, W, w0, turn⟩ := rd ⟨_, { s2 with heap := s2.heap.push { cls := .type "list", data := .seq ([] : List Value).toArray } }, upd H2 s2.heap.objs.size (.lst []), fp⟩ s2.heap.objs.size hD
  obtain ⟨bg, bt, be⟩ := hb ⟨_, { s2 with heap := s2.heap.push { cls := .type "list", data := .seq ([] : List Value).toArray } }, upd H2 s2.heap.objs.size (.lst []), fp⟩
  have ok3 := cxB_ok S I3 f3 ob3
  have stat : ∀ {H' : Hp}, (∀ b ∈ fp, H' b = none) → ∀ b ∈ fp, FpOk (cxB X sc N ⟨_, { s2 with heap := s2.heap.push { cls := .type "list", data := .seq ([] : List Value).toArray } }, upd H2 s2.heap.objs.size (.lst []), fp⟩) [] H' b := fun hn b hb => by
    obtain ⟨_, f1, f2', _, f4, _⟩ := f3 b hb
    refine ⟨hn b hb, ?_, ok3.exfs b hb, .inl hb, fun x c e => ?_, fun p hp => absurd hp (by simp)⟩
    · exact Nat.ne_of_lt (let ⟨o, e⟩ := ob3 b hb; Heap.lt_size e)
    · exact f4 x c (clOf_sound _ _ (S.hasC I3.ok) (by simp) x c e)
  have loop : codeAny (model X.prog X.w) X.A (.compLoop (.ListComp elt [⟨tg, iter, ifs, 0⟩] sc pos) 0 (.ref it) (.ref s2.heap.objs.size) (compEnvC sc (clOf X.env sc.names []) (s2.heap.push { cls := .type "list", data := .seq ([] : List Value).toArray }).objs.size X.env))
      (compPost (model X.prog X.w) X.A X.xe none (EP X pins σ Q) (.ref s2.heap.objs.size) (s2.heap.push { cls := .type "list", data := .seq ([] : List Value).toArray }).objs.size) { s2 with heap := h₁, toks := s2.toks + ([] : List (Str × Value)).length } := by
    refine comp_run (W := W) (M := M) (σ0 := blk n ci σ) (Q := Q) hc T bg bt be (fun {pins' σ' H' s'} J' => ?_) stat I4 st4 (fun b hb => (f3 b hb).1) w0 turn fun σ' H' s' J' q => ?_
    · exact keep_blk S I3 f3 J'
    · obtain ⟨m', hn', _⟩ := J'.loc
      refine ⟨m', hn', fun h' hs' => ?_⟩
      exact ⟨.ref s2.heap.objs.size, H', inv_behind (s := { s2 with heap := s2.heap.push { cls := .type "list", data := .seq ([] : List Value).toArray } }) I3 f3 J' hs', rfl, q⟩
  exact codeAny_compStart_list loop (T.self _ 0 _ _ _ st4 loop)
end
structure CSc (so : Scope) (N0 N : List Str) (n : Nat) (ci : List Nat) (sc : Scope) : Prop where
  kind : sc.kind = .function
  nocell : ∀ y ∈ sc.names, y.2 ≠ .cell
  loc : ∀ y ∈ sc.names, y.2 = .local → sc.names.lookup y.1 = some .local
  fr : ∀ y ∈ sc.names, y.2 = .free → so.names.lookup y.1 = some .cell ∨ so.names.lookup y.1 = some .free
  len : N.length = n + ci.length
  caps : N.drop n = ci.map fun i => N0.getD i ⟨#[]⟩
  ins : ∀ i ∈ ci, i < N0.length
  frs : ∀ x ∈ N.drop n, sc.names.lookup x = some .free
theorem CSc.of {X : Cx} {so sc : Scope} {N0 N : List Str} {n : Nat} {ci : List Nat} (h : CSc so N0 N n ci sc) (e1 : X.env.scope = so := by rfl) (e2 : X.N = N0 := by rfl) : CompScope X N n ci sc where
  kind := h.kind
  nocell := h.nocell
  loc := h.loc
  fr := fun y hy hf => by rw [e1]; exact h.fr y hy hf
  len := h.len
  caps := fun j i e => by
    have hm : i ∈ ci := List.mem_of_getElem? e
    have hi := h.ins i hm
    have q : (N.drop n)[j]? = some (N0.getD i ⟨#[]⟩) := by rw [h.caps, List.getElem?_map, e]; rfl
    refine ⟨N0.getD i ⟨#[]⟩, ?_, ?_, ?_⟩
    · rw [List.getElem?_drop] at q; exact q
    · rw [e2, List.getD_eq_getElem?_getD, List.getElem?_eq_getElem hi]; rfl
    · exact h.frs _ (List.mem_of_getElem? q)
end L2
end
/-! UfSet1 -/
section
set_option Elab.async false
set_option linter.all false
set_option maxRecDepth 100000
set_option maxHeartbeats 4000000
namespace UfSet
open PySem
def byText (w : World) : Bool := w.params.followText "set-order"
abbrev Ents (w : World) : List Str → List (Int × Value) → Prop := Paired fun k e => e.1 = hashStr w k ∧ ∃ tk, e.2 = .str k tk
def IsSet (w : World) (h : Heap) (a : Addr) (ks : List Str) : Prop :=
  ∃ o es ep t ks', h.get? a = some o ∧ o.ExactSet ∧ o.data = .set es ep t ∧ Ents w ks' es.toList ∧ ks'.Perm ks ∧ ks.Nodup ∧
    es.size < scanBound ∧ t.fits es.size = true ∧ (t.plain = true → es.size = 0) ∧ t.led = !byText w
theorem Ents.elems {prog : Program} {w : World} : ∀ {ks : List Str} {es : List (Int × Value)}, Ents w ks es → ElemsOf (strKind prog w) es
  | _, _, .nil => fun e he => by simp at he
  | _, _, .cons (a := k) (b := e) h t => fun x hx => by
    rcases List.mem_cons.mp hx with rfl | hx
    · obtain ⟨h1, tk, h2⟩ := h
      refine ⟨⟨k, ?_, h1⟩, ?_⟩
      · show Value.isStrOf k x.2 = true
        rw [h2]; simp [Value.isStrOf]
      · rw [h2]; rfl
    · exact Ents.elems (prog := prog) t x hx
theorem Ents.mem {w : World} {k : Str} : ∀ {ks : List Str} {es : List (Int × Value)}, Ents w ks es → (k ∈ ks ↔ ∃ e ∈ es, Value.isStrOf k e.2 = true)
  | _, _, .nil => by simp
  | _, _, .cons (a := j) (b := e) h t => by
    obtain ⟨h1, tk, h2⟩ := h
    have ih := Ents.mem (k := k) t
    have hd : Value.isStrOf k e.2 = true ↔ k = j := by
      rw [h2]
      constructor
      · intro q
        obtain ⟨u, hu⟩ := Value.isStrOf_shape q
        injection hu with hx _
        exact hx.symm
      · rintro rfl; simp [Value.isStrOf]
    rw [List.mem_cons, ih]
    constructor
    · rintro (q | ⟨x, hx, q⟩)
      · exact ⟨e, List.mem_cons_self, hd.mpr q⟩
      · exact ⟨x, List.mem_cons_of_mem _ hx, q⟩
    · rintro ⟨x, hx, q⟩
      rcases List.mem_cons.mp hx with rfl | hx
      · exact .inl (hd.mp q)
      · exact .inr ⟨x, hx, q⟩
theorem Ents.perm {w : World} {es es' : List (Int × Value)} (p : List.Perm es' es) : ∀ {ks : List Str}, Ents w ks es → ∃ ks', Ents w ks' es' ∧ ks'.Perm ks := by
  have back : ∀ {es es' : List (Int × Value)}, List.Perm es es' → ∀ {ks : List Str}, Ents w ks es → ∃ ks', Ents w ks' es' ∧ ks'.Perm ks := by
    intro es es' p
    induction p with
    | nil => intro ks h; exact ⟨ks, h, .refl _⟩
    | cons x _ ih =>
      intro ks h
      cases h with
      | cons h t =>
        obtain ⟨ks', h', q⟩ := ih t
        exact ⟨_ :: ks', .cons h h', q.cons _⟩
    | swap x y l =>
      intro ks h
      cases h with
      | cons h t =>
        cases t with
        | cons h2 t => exact ⟨_, .cons h2 (.cons h t), .swap _ _ _⟩
    | trans _ _ ih1 ih2 =>
      intro ks h
      obtain ⟨k1, h1, q1⟩ := ih1 h
      obtain ⟨k2, h2, q2⟩ := ih2 h1
      exact ⟨k2, h2, q2.trans q1⟩
  intro ks h
  exact back p.symm h
theorem Ents.snoc {w : World} {k : Str} {tk : Tok} : ∀ {ks : List Str} {es : List (Int × Value)}, Ents w ks es → Ents w (ks ++ [k]) (es ++ [(hashStr w k, Value.str k tk)])
  | _, _, .nil => .cons ⟨rfl, tk, rfl⟩ .nil
  | _, _, .cons h t => .cons h (Ents.snoc t)
theorem Ents.len {w : World} {ks : List Str} {es : List (Int × Value)} (h : Ents w ks es) : ks.length = es.length := Paired.length h
theorem led_layNew (t : SetTable) (es : Array (Int × Value)) (h : Int) (x : Value) : (layNew t es h x).2.1.led = t.led := by
  unfold layNew
  split
  · show (SetTable.orStandIn _ _).led = _
    unfold SetTable.orStandIn
    split <;> rfl
  · rfl
theorem plain_layNew (t : SetTable) (es : Array (Int × Value)) (h : Int) (x : Value) : (layNew t es h x).2.1.plain = true → t.plain = true := by
  unfold layNew
  split
  · show (SetTable.orStandIn _ _).plain = true → _
    unfold SetTable.orStandIn
    split
    · exact id
    · intro q; cases q
  · intro q; cases q
theorem led_relayAll (t : SetTable) (es : Array (Int × Value)) (n : Nat) : (relayAll t es n).2.1.led = t.led := by
  unfold relayAll
  split
  · rename_i t' order hr
    dsimp only
    split
    · unfold SetTable.relaid SetTable.laid at hr
      simp only [Option.bind_eq_bind, Option.bind_eq_some_iff] at hr
      obtain ⟨ow, _, hr⟩ := hr
      cases hr
      rfl
    · rfl
  · rfl
theorem plain_relayAll (t : SetTable) (es : Array (Int × Value)) (n : Nat) : (relayAll t es n).2.1.plain = true → t.plain = true := by
  unfold relayAll
  split
  · rename_i t' order hr
    dsimp only
    split
    · unfold SetTable.relaid SetTable.laid at hr
      simp only [Option.bind_eq_bind, Option.bind_eq_some_iff] at hr
      obtain ⟨ow, _, hr⟩ := hr
      cases hr
      exact id
    · intro q; cases q
  · intro q; cases q
section
variable {prog : Program} {w : World} {A : Around} {E : Value → Shared → Prop} {s : Shared}
theorem put_at {h : Heap} {a : Addr} {o : Obj} {es es' : Array (Int × Value)} {ep : Nat} {t t' : SetTable} (ho : h.get? a = some o) (hd : o.data = .set es ep t) :
    (h.update a (Obj.putSet es' t')).get? a = some { o with data := .set es' (ep + 1) t' } := by
  have q := Heap.get?_update_self (Obj.putSet es' t') ho (by rw [putSet_of es' t' hd]; rfl)
  rw [putSet_of es' t' hd] at q
  exact q
theorem add_end {g : Bool → Sem Unit} (hg : ∀ (b : Bool) (s₁ : Shared) (Q' : Unit → Shared → Prop), Q' () s₁ → wpAny (model prog w) A (g b) Q' E s₁) {a : Addr} {o : Obj} {es es1 : Array (Int × Value)} {ep : Nat} {t t2 : SetTable}
    {ks ks1 : List Str} {dm : Bool} {R : Option Bool → Shared → Prop} (ho : s.heap.get? a = some o) (hex : o.ExactSet) (hd : o.data = .set es ep t) (he : Ents w ks1 es1.toList) (hp : ks1.Perm ks) (hn : ks.Nodup)
    (hb : es1.size < scanBound) (hf : t2.fits es1.size = true) (hpl : t2.plain = false) (hle : t2.led = !byText w)
    (h : ∀ h', Heap.SameBut a s.heap h' → IsSet w h' a ks → R (some true) { s with heap := h' }) :
    wpAny (model prog w) A (do
        storeSet a es1 t2
        if (!dm && t2.tooFull) = true then do
            g (relayAll t2 es1 (SetTable.grown es1.size)).2.2
            storeSet a (relayAll t2 es1 (SetTable.grown es1.size)).1 (relayAll t2 es1 (SetTable.grown es1.size)).2.1
            pure (some true)
          else pure (some true)) R E s := by
  refine wpAny_bind (wpAny_storeSet_of ho hd ?_ (fits_of_scanBound hb))
  have ho1 := put_at (es' := es1) (t' := t2) ho hd
  have sb1 := Heap.SameBut.update s.heap a (Obj.putSet es1 t2)
  by_cases hc : (!dm && t2.tooFull) = true
  · rw [if_pos hc]
    have q1 := relayAll_perm t2 es1 (SetTable.grown es1.size)
    have q2 := relayAll_fits t2 es1 (SetTable.grown es1.size)
    have q3 := led_relayAll t2 es1 (SetTable.grown es1.size)
    have q4 := plain_relayAll t2 es1 (SetTable.grown es1.size)
    generalize relayAll t2 es1 (SetTable.grown es1.size) = L at q1 q2 q3 q4 ⊢
    obtain ⟨es2, t3, gave⟩ := L
    dsimp only at q1 q2 q3 q4 ⊢
    have zs : es2.size = es1.size := by rw [← Array.length_toList, q1.length_eq, Array.length_toList]
    refine wpAny_bind (hg _ _ _ ?_)
    refine wpAny_bind (wpAny_storeSet_of ho1 rfl ?_ (fits_of_scanBound (by rw [zs]; exact hb)))
    have ho2 := put_at (es' := es2) (t' := t3) ho1 rfl
    obtain ⟨ks2, e2, p2⟩ := he.perm q1
    refine wpAny_pure (h _ (sb1.trans (Heap.SameBut.update _ a _)) ⟨_, es2, ep + 1 + 1, t3, ks2, ho2, hex, rfl, e2, p2.trans hp, hn, by rw [zs]; exact hb, q2, fun z => ?_, q3.trans hle⟩)
    rw [hpl] at q4
    exact absurd (q4 z) Bool.false_ne_true
  · rw [if_neg hc]
    exact wpAny_pure (h _ sb1 ⟨_, es1, ep + 1, t2, ks1, ho1, hex, rfl, he, hp, hn, hb, hf, fun z => (by rw [hpl] at z; cases z), hle⟩)
def addK (ks : List Str) (k : Str) : List Str := if k ∈ ks then ks else ks ++ [k]
theorem addK_nodup {ks : List Str} {k : Str} (h : ks.Nodup) : (addK ks k).Nodup := by
  unfold addK
  split
  · exact h
  · rename_i q
    refine List.nodup_append.mpr ⟨h, by simp, fun a ha b hb => ?_⟩
    have : b = k := by simpa using hb
    subst this
    rintro rfl
    exact q ha
theorem addK_length (ks : List Str) (k : Str) : (addK ks k).length ≤ ks.length + 1 := by
  unfold addK
  split
  · lia
  · simp
theorem add_hashed {a : Addr} {ks : List Str} {k : Str} {tk : Tok} {Q : Bool → Shared → Prop} (hS : IsSet w s.heap a ks) (hroom : ks.length + 1 < scanBound)
    (h : ∀ (h' : Heap) (b : Bool), Heap.SameBut a s.heap h' → IsSet w h' a (addK ks k) → Q b { s with heap := h' }) : wpAny (model prog w) A (setAddHashed a (.str k tk) (hashStr w k)) Q E s := by
  obtain ⟨o, es, ep, t, ks', ho, hex, hd, he, hp, hn, hb, hf, hpl, hle⟩ := hS
  have hel : ElemsOf (strKind prog w) es.toList := he.elems
  have hkey : (strKind prog w).is k (.str k tk) = true := by simp [strKind, Value.isStrOf]
  have hsc : (Value.str k tk).scannable = true := rfl
  have szl : es.size = ks.length := by rw [← hp.length_eq, he.len, Array.length_toList]
  unfold setAddHashed setAddHashedIn
  refine wpAny_holding (wpAny_bind (wpAny_setState_of ho hd hf ?_))
  dsimp only
  rw [byScan_of hsc hb hel]
  simp only [↓reduceIte]
  unfold setAddByScan
  refine wpAny_bind ?_
  refine wpAny_bind (wpAny_rule ?_)
  refine wpAny_bind (wpAny_setScan_of (knd := strKind prog w) hkey ho hd hf hel ?_)
  cases hr : List.findIdx? (fun e => (strKind prog w).is k e.2) es.toList with
  | some j =>
    dsimp only
    obtain ⟨hj, hpj, _⟩ := List.findIdx?_eq_some_iff_getElem.mp hr
    have hin : k ∈ ks := hp.mem_iff.mp (he.mem.mpr ⟨es.toList[j], List.getElem_mem hj, hpj⟩)
    refine wpAny_pure (wpAny_pure ?_)
    have e : s = { s with heap := s.heap } := by cases s; rfl
    rw [e]
    refine h s.heap _ (Heap.SameBut.refl a s.heap) ?_
    unfold addK
    rw [if_pos hin]
    exact ⟨o, es, ep, t, ks', ho, hex, hd, he, hp, hn, hb, hf, hpl, hle⟩
  | none =>
    dsimp only
    have hout : ¬ k ∈ ks := fun z => by
      obtain ⟨e, he', q⟩ := he.mem.mp (hp.mem_iff.mpr z)
      have := List.findIdx?_eq_none_iff.mp hr e he'
      rw [show (strKind prog w).is k e.2 = Value.isStrOf k e.2 from rfl, q] at this
      cases this
    have gw : ∀ (b : Bool) {s₁ : Shared} {Q' : Unit → Shared → Prop}, Q' () s₁ → wpAny (model prog w) A (match b with | true => rule "set.scan.the-table-gave-way" | false => pure ()) Q' E s₁ := fun b s₁ Q' hq => by
      cases b with
      | true => exact wpAny_rule hq
      | false => exact wpAny_pure hq
    have q1 := layNew_perm t es (hashStr w k) (.str k tk)
    have q2 := layNew_fits t es (hashStr w k) (.str k tk)
    have q3 := led_layNew t es (hashStr w k) (.str k tk)
    have q4 := plain_layNew t es (hashStr w k) (.str k tk)
    have hsame : (strKind prog w).hash k = hashStr w k := rfl
    generalize layNew t es (hashStr w k) (.str k tk) = L at q1 q2 q3 q4 ⊢
    obtain ⟨es1, t1, dm, gave⟩ := L
    dsimp only at q1 q2 q3 q4 ⊢
    rw [Array.toList_push] at q1
    obtain ⟨ks1, e1, p1⟩ := (he.snoc (k := k) (tk := tk)).perm q1
    have p2 : ks1.Perm (addK ks k) := by
      unfold addK
      rw [if_neg hout]
      exact p1.trans (hp.append_right _)
    have z1 : es1.size = ks.length + 1 := by rw [← Array.length_toList, ← e1.len, p1.length_eq, List.length_append, hp.length_eq]; rfl
    have b1 : es1.size < scanBound := by rw [z1]; exact hroom
    refine wpAny_bind (gw _ ?_)
    by_cases hpt : t1.plain = true
    · rw [if_pos hpt]
      refine wpAny_bind ?_
      rw [hashByValue_scannable 8 hsc]
      refine wpAny_pure ?_
      refine add_end (o := o) (ks := addK ks k) ?_ ho hex hd e1 p2 (addK_nodup hn) b1 ?_ ?_ ?_ ?_
      · intro b s₁ Q' hq; exact gw b hq
      · exact SetTable.fits_plain_off q2
      · rfl
      · exact q3.trans hle
      · intro h' sb hS'; dsimp only; exact wpAny_pure (h h' _ sb hS')
    · rw [if_neg hpt]
      refine wpAny_bind (wpAny_pure ?_)
      simp only [↓reduceIte]
      refine add_end (o := o) (ks := addK ks k) ?_ ho hex hd e1 p2 (addK_nodup hn) b1 q2 (by simpa using hpt) (q3.trans hle) ?_
      · intro b s₁ Q' hq; exact gw b hq
      · intro h' sb hS'; dsimp only; exact wpAny_pure (h h' _ sb hS')
end
end UfSet
end
/-! UfSetF -/
section
set_option Elab.async false
set_option linter.all false
set_option maxRecDepth 100000
set_option maxHeartbeats 4000000
namespace UfSet
open PySem
theorem slot_si_next : Slot "set_iterator" "__next__" "set_iterator.__next__" :=
  .of (owner := "set_iterator") (n := "__next__") (by rw [typeLookup_type, builtinLookup_eq_fast]; kernel_rfl) (by decide +kernel) (by decide +kernel) (by decide +kernel)
    (by first | exact .inl (by decide +kernel) | exact .inr (by decide +kernel)) (by rw [isSubtype_type]; kernel_rfl)
theorem slot_si_iter : Slot "set_iterator" "__iter__" "set_iterator.__iter__" :=
  .of (owner := "set_iterator") (n := "__iter__") (by rw [typeLookup_type, builtinLookup_eq_fast]; kernel_rfl) (by decide +kernel) (by decide +kernel) (by decide +kernel)
    (by first | exact .inl (by decide +kernel) | exact .inr (by decide +kernel)) (by rw [isSubtype_type]; kernel_rfl)
theorem entry_si_next : entryFor table "set_iterator.__next__" = some Builtin.«set_iterator.__next__» := entryFor_of_fast (by kernel_rfl)
theorem entry_si_iter : entryFor table "set_iterator.__iter__" = some Builtin.«dict_keyiterator.__iter__» :=
  entryFor_alias (id' := "dict_keyiterator.__iter__") (by kernel_rfl) rfl (by decide +kernel) (by kernel_rfl)
theorem args_si_next (a : Value) : argsOk "set_iterator.__next__" ⟨[a], []⟩ := by unfold argsOk; kernel_rfl
theorem args_si_iter (a : Value) : argsOk "set_iterator.__iter__" ⟨[a], []⟩ := by unfold argsOk; kernel_rfl
theorem entry_s_iter : entryFor table "set.__iter__" = some Builtin.«frozenset.__iter__» :=
  entryFor_alias (id' := "frozenset.__iter__") (by kernel_rfl) rfl (by decide +kernel) (by kernel_rfl)
end UfSet
end
/-! UfSet2 -/
section
set_option Elab.async false
set_option linter.all false
set_option maxRecDepth 100000
set_option maxHeartbeats 4000000
namespace UfSet
open PySem
theorem erase_perm {α : Type} : ∀ (xs : List α) (i : Nat) (h : i < xs.length), (xs[i] :: xs.eraseIdx i).Perm xs
  | [], i, h => absurd h (by simp)
  | x :: xs, 0, h => .refl _
  | x :: xs, i + 1, h => by
    have ih := erase_perm xs i (by simpa using h)
    show ((xs[i]'(by simpa using h)) :: x :: xs.eraseIdx i).Perm (x :: xs)
    exact (List.Perm.swap _ _ _).trans (ih.cons x)
def itObj (a : Addr) (n ep : Nat) (first : Value) (i : Nat) : Obj := { cls := .type "set_iterator", data := .fields #[first, .int i 0, .ref a, .int n 0, .int ep 0] }
section
variable {prog : Program} {w : World} {A : Around} {E : Value → Shared → Prop} {s : Shared}
theorem choose_any {src : Source} {n : Nat} {Q : Nat → Shared → Prop} (hn : n ≠ 0) (h : ∀ x d, x < n → Q x { s with drawn := d }) : wpAny (model prog w) A (choose src n) Q E s := by
  intro Γ p _
  show Sem.wp _ Γ (.choose src n .pure) _ _ p s
  rw [Sem.wp_choose]
  refine ⟨hn, ?_⟩
  simp only [Sem.wp_pure]
  exact h _ _ (Nat.mod_lt _ (Nat.pos_of_ne_zero hn))
theorem draw_any {α : Type} : ∀ (n : Nat) (xs : List α) (s : Shared) {Q : List α → Shared → Prop}, xs.length = n → (∀ ys d, ys.Perm xs → Q ys { s with drawn := d }) → wpAny (model prog w) A (drawOrder n xs) Q E s
  | 0, xs, s, Q, hl, h => by
    have : xs = [] := List.eq_nil_of_length_eq_zero hl
    subst this
    exact wpAny_pure (h [] s.drawn (.refl _))
  | n + 1, [], s, Q, hl, h => by simp at hl
  | n + 1, x :: xs, s, Q, hl, h => by
    show wpAny _ _ (choose .order (x :: xs).length >>= fun i => match (x :: xs)[i]? with | some y => (do return y :: (← drawOrder n ((x :: xs).eraseIdx i))) | none => unsupported "internal:drawOrder") _ _ s
    refine wpAny_bind (choose_any (by simp) fun i d hi => ?_)
    have e : (x :: xs)[i]? = some (x :: xs)[i] := List.getElem?_eq_getElem hi
    rw [e]
    dsimp only
    refine wpAny_bind (draw_any n _ _ (by rw [List.length_eraseIdx, if_pos hi]; lia) fun ys d' p => wpAny_pure ?_)
    exact h _ d' ((p.cons _).trans (erase_perm _ _ hi))
theorem si_yield {it a : Addr} {n ep i : Nat} {first : Value} {x : Value} {Q : Option Value → Shared → Prop} (ho : s.heap.get? it = some (itObj a n ep first i))
    (h : wpAny (model prog w) A.in1 (Builtin.«set_iterator.__next__» ⟨[.ref it], []⟩) (fun fin s' => fin = .done (.ret x) ∧ Q (some x) s') (fun _ _ => False) s) : wpAny (model prog w) A (pyNext (.ref it)) Q E s := by
  have hT : s.TypeIs (.ref it) "set_iterator" := ⟨_, ho, rfl⟩
  unfold pyNext
  refine wpAny_bind (wpAny_attempt (wpAny_callSpecial?_slot (name := Str.ofString "__next__") hT slot_si_next (wpAny_call_entry slot_si_next hT entry_si_next ?_ (args_si_next _))))
  refine wpAny_mono h (fun fin s' hq => ?_) fun _ _ z => z.elim
  obtain ⟨rfl, hq⟩ := hq
  exact ⟨x, rfl, wpAny_pure hq⟩
theorem fields_at {h : Heap} {it a : Addr} {n ep i : Nat} {first : Value} {k : Nat} {x : Value} (ho : h.get? it = some (itObj a n ep first i)) :
    (h.update it (Obj.mapFields (·.setIfInBounds k x))).get? it = some { itObj a n ep first i with data := .fields ((#[first, .int i 0, .ref a, .int n 0, .int ep 0] : Array Value).setIfInBounds k x) } :=
  Heap.get?_update_self _ ho rfl
theorem si_done {it a : Addr} {n ep i : Nat} {first : Value} {Q : Option Value → Shared → Prop} (hh : A.handled = none) (ho : s.heap.get? it = some (itObj a n ep first i))
    (h : ∀ {Q' : Fin → Shared → Prop} {E' : Value → Shared → Prop}, (∀ h', Heap.SameBut it s.heap h' → wpAny (model prog w) A.in1 (do raiseNew (← newExc (.type "StopIteration") [])) Q' E' { s with heap := h' }) →
      wpAny (model prog w) A.in1 (Builtin.«set_iterator.__next__» ⟨[.ref it], []⟩) Q' E' s)
    (hQ : ∀ h', Heap.ExtBut it s.heap h' → Q none { s with heap := h' }) : wpAny (model prog w) A (pyNext (.ref it)) Q E s := by
  have hT : s.TypeIs (.ref it) "set_iterator" := ⟨_, ho, rfl⟩
  unfold pyNext
  refine wpAny_bind (wpAny_attempt (wpAny_callSpecial?_slot (name := Str.ofString "__next__") hT slot_si_next (wpAny_call_entry slot_si_next hT entry_si_next ?_ (args_si_next _))))
  refine h fun h1 sb => ?_
  refine wpAny_bind ?_
  simp only [newExc, newTuple]
  refine wpAny_bind (wpAny_newObj_type ?_ (by size_fits))
  refine wpAny_bind (m := firstArgMember _ _) (wpAny_of_eq (a := Value.none) (by first | rfl | (simp only [firstArgMember]; rfl)) ?_)
  refine wpAny_newObj_type ?_ (by size_fits)
  simp only [raiseNew]
  refine wpAny_bind (wpAny_handled ?_)
  have hh1 : A.in1.handled = none := hh
  rw [hh1]
  refine wpAny_bind (wpAny_pure (wpAny_throw ?_))
  refine wpAny_bind (wpAny_isInstance (T := "StopIteration") (b := true) ⟨_, Heap.get?_push_size _ rfl, rfl⟩ isSubtype_stop ?_)
  exact wpAny_pure (hQ _ ((sb.extBut.push _).push _))
section
variable {it a T : Addr} {o oT : Obj} {es : Array (Int × Value)} {ep i : Nat} {t : SetTable} {pl : List Nat} {c : Nat}
theorem next_drawn {p : Nat} {hx : Int} {x : Value} {Q : Option Value → Shared → Prop} (ho : s.heap.get? it = some (itObj a es.size ep (.ref T) i)) (ha : s.heap.get? a = some o) (hd : o.data = .set es ep t) (hf : t.fits es.size = true)
    (hT : s.heap.get? T = some oT) (hTd : oT.data = .seq (pl.map fun (j : Nat) => Value.int j 0).toArray c) (hp : pl[i]? = some p) (hx : es[p]? = some (hx, x))
    (h : ∀ h', h'.get? it = some (itObj a es.size ep (.ref T) (i + 1)) → Heap.SameBut it s.heap h' → Q (some x) { s with heap := h' }) : wpAny (model prog w) A (pyNext (.ref it)) Q E s := by
  refine si_yield (x := x) ho ?_
  unfold Builtin.«set_iterator.__next__»
  show wpAny _ _ (fieldsOf (.ref it) >>= _) _ _ s
  refine wpAny_bind (wpAny_fieldsOf ho rfl ?_)
  dsimp only
  refine wpAny_bind (wpAny_setEntries_of ha hd hf ?_)
  rw [if_neg (by simp)]
  show wpAny _ _ (seqItems? (.ref T) >>= _) _ _ s
  refine wpAny_bind (wpAny_seqItems hT hTd ?_)
  dsimp only
  have e1 : ((pl.map fun (j : Nat) => Value.int j 0).toArray)[i]? = some (.int p 0) := by simp [hp]
  simp only [Int.toNat_natCast, e1]
  unfold setNextDrawn
  refine wpAny_bind (wpAny_bind (wpAny_setState_of ha hd hf ?_))
  dsimp only
  rw [if_neg (by simp)]
  simp only [hx]
  refine wpAny_pure ?_
  refine wpAny_bind (wpAny_setField ho rfl (by simp) (wpAny_pure ⟨rfl, h _ ?_ (Heap.SameBut.update ..)⟩))
  rw [fields_at ho]
  simp [itObj, rawInt]
theorem end_drawn {Q : Option Value → Shared → Prop} (hh : A.handled = none) (ho : s.heap.get? it = some (itObj a es.size ep (.ref T) i)) (ha : s.heap.get? a = some o) (hd : o.data = .set es ep t) (hf : t.fits es.size = true)
    (hT : s.heap.get? T = some oT) (hTd : oT.data = .seq (pl.map fun (j : Nat) => Value.int j 0).toArray c) (hp : pl[i]? = none)
    (h : ∀ h', Heap.ExtBut it s.heap h' → Q none { s with heap := h' }) : wpAny (model prog w) A (pyNext (.ref it)) Q E s := by
  refine si_done hh ho (fun {Q' E'} hq => ?_) h
  unfold Builtin.«set_iterator.__next__»
  show wpAny _ _ (fieldsOf (.ref it) >>= _) _ _ s
  refine wpAny_bind (wpAny_fieldsOf ho rfl ?_)
  dsimp only
  refine wpAny_bind (wpAny_setEntries_of ha hd hf ?_)
  rw [if_neg (by simp)]
  show wpAny _ _ (seqItems? (.ref T) >>= _) _ _ s
  refine wpAny_bind (wpAny_seqItems hT hTd ?_)
  dsimp only
  have e1 : ((pl.map fun (j : Nat) => Value.int j 0).toArray)[i]? = none := by simpa using hp
  simp only [Int.toNat_natCast, e1]
  refine wpAny_bind (wpAny_setField ho rfl (by simp) ?_)
  refine wpAny_bind (wpAny_setField (fields_at ho) rfl (by simp) ?_)
  exact hq _ ((Heap.SameBut.update ..).trans (Heap.SameBut.update ..))
end
theorem pick_go {α : Type} {next : Nat → Nat} : ∀ (n k : Nat) (left : List α) (out : Array α), left.length = n → ∃ ys : List α, ys.Perm left ∧ (pickOrder.go next n k left out).toList = out.toList ++ ys
  | 0, k, left, out, hl => by
    have : left = [] := List.eq_nil_of_length_eq_zero hl
    subst this
    exact ⟨[], .refl _, by simp [pickOrder.go]⟩
  | n + 1, k, left, out, hl => by
    have hlt : next k % left.length < left.length := Nat.mod_lt _ (by lia)
    obtain ⟨ys, q1, q2⟩ := pick_go (next := next) n (k + 1) (left.eraseIdx (next k % left.length)) (out.push left[next k % left.length]) (by rw [List.length_eraseIdx, if_pos hlt]; lia)
    refine ⟨left[next k % left.length] :: ys, (q1.cons _).trans (erase_perm _ _ hlt), ?_⟩
    unfold pickOrder.go
    rw [List.getElem?_eq_getElem hlt]
    dsimp only
    rw [q2, Array.toList_push, List.append_assoc]
    rfl
theorem pick_perm {α : Type} (next : Nat → Nat) (xs : Array α) : (pickOrder next xs).toList.Perm xs.toList := by
  obtain ⟨ys, q1, q2⟩ := pick_go (next := next) xs.size 0 xs.toList #[] (by simp)
  unfold pickOrder
  rw [q2]
  simpa using q1
section
variable {it a : Addr} {o : Obj} {es : Array (Int × Value)} {ep i : Nat} {t : SetTable}
theorem set_next_text {Q : Option (Value × Nat) → Shared → Prop} {sl g : Nat} (hb : byText w = true) (ha : s.heap.get? a = some o) (hd : o.data = .set es ep t) (hf : t.fits es.size = true)
    (h : Q (((pickOrder (w.params.setOrder a ep) es)[g]?).map fun e => (e.2, sl)) s) : wpAny (model prog w) A (setNext a sl g ep) Q E s := by
  unfold setNext
  refine wpAny_bind (wpAny_setState_of ha hd hf ?_)
  dsimp only
  refine wpAny_bind ?_
  unfold setsByText
  refine wpAny_bind (wpAny_askSetting (wpAny_pure ?_))
  have key : ∀ {α : Type} (x y : Sem α), (if (⟨(model prog w).prog, (model prog w).w.params⟩ : Setting).params.followText "set-order" = true then x else y) = x := fun x y => if_pos hb
  rw [key, if_neg (by simp)]
  refine wpAny_bind ?_
  unfold setWalk
  refine wpAny_bind (wpAny_setState_of ha hd hf ?_)
  dsimp only
  refine wpAny_bind ?_
  unfold setsByText
  refine wpAny_bind (wpAny_askSetting (wpAny_pure ?_))
  rw [key]
  refine wpAny_bind (wpAny_askSetting (wpAny_pure ?_))
  exact wpAny_pure h
theorem next_text {hx : Int} {x : Value} {Q : Option Value → Shared → Prop} (hb : byText w = true) (ho : s.heap.get? it = some (itObj a es.size ep (.int 0 0) i)) (ha : s.heap.get? a = some o) (hd : o.data = .set es ep t) (hf : t.fits es.size = true)
    (hp : (pickOrder (w.params.setOrder a ep) es)[i]? = some (hx, x))
    (h : ∀ h', h'.get? it = some (itObj a es.size ep (.int 0 0) (i + 1)) → Heap.SameBut it s.heap h' → Q (some x) { s with heap := h' }) : wpAny (model prog w) A (pyNext (.ref it)) Q E s := by
  refine si_yield (x := x) ho ?_
  unfold Builtin.«set_iterator.__next__»
  show wpAny _ _ (fieldsOf (.ref it) >>= _) _ _ s
  refine wpAny_bind (wpAny_fieldsOf ho rfl ?_)
  dsimp only
  refine wpAny_bind (wpAny_setEntries_of ha hd hf ?_)
  rw [if_neg (by simp)]
  refine wpAny_bind (set_next_text (sl := 0) (g := i) hb ha hd hf ?_)
  rw [Int.toNat_natCast, hp]
  dsimp only [Option.map]
  refine wpAny_bind (wpAny_setField ho rfl (by simp) ?_)
  refine wpAny_bind (wpAny_setField (fields_at ho) rfl (by simp) (wpAny_pure ⟨rfl, h _ ?_ ((Heap.SameBut.update ..).trans (Heap.SameBut.update ..))⟩))
  rw [Heap.get?_update_self _ (fields_at ho) rfl]
  simp [itObj, rawInt, Obj.mapFields]
theorem end_text {Q : Option Value → Shared → Prop} (hh : A.handled = none) (hb : byText w = true) (ho : s.heap.get? it = some (itObj a es.size ep (.int 0 0) i)) (ha : s.heap.get? a = some o) (hd : o.data = .set es ep t) (hf : t.fits es.size = true)
    (hp : (pickOrder (w.params.setOrder a ep) es)[i]? = none)
    (h : ∀ h', Heap.ExtBut it s.heap h' → Q none { s with heap := h' }) : wpAny (model prog w) A (pyNext (.ref it)) Q E s := by
  refine si_done hh ho (fun {Q' E'} hq => ?_) h
  unfold Builtin.«set_iterator.__next__»
  show wpAny _ _ (fieldsOf (.ref it) >>= _) _ _ s
  refine wpAny_bind (wpAny_fieldsOf ho rfl ?_)
  dsimp only
  refine wpAny_bind (wpAny_setEntries_of ha hd hf ?_)
  rw [if_neg (by simp)]
  refine wpAny_bind (set_next_text (sl := 0) (g := i) hb ha hd hf ?_)
  rw [Int.toNat_natCast, hp]
  dsimp only [Option.map]
  refine wpAny_bind (wpAny_setField ho rfl (by simp) ?_)
  exact hq _ (Heap.SameBut.update ..)
end
section
variable {it a : Addr} {o : Obj} {es : Array (Int × Value)} {ep i sl : Nat} {t : SetTable}
theorem set_next_one {Q : Option (Value × Nat) → Shared → Prop} {g : Nat} (hb : byText w = false) (hl : t.led = true) (h1 : es.size ≤ 1) (ha : s.heap.get? a = some o) (hd : o.data = .set es ep t) (hf : t.fits es.size = true)
    (h : Q (match es[SetTable.below t.place sl]?, t.place[SetTable.below t.place sl]? with | some (_, x), some j => some (x, j + 1) | _, _ => none) s) : wpAny (model prog w) A (setNext a sl g ep) Q E s := by
  unfold setNext
  refine wpAny_bind (wpAny_setState_of ha hd hf ?_)
  dsimp only
  refine wpAny_bind ?_
  unfold setsByText
  refine wpAny_bind (wpAny_askSetting (wpAny_pure ?_))
  have hb' : w.params.followText "set-order" = false := hb
  have h2 : ¬ es.size > 1 := by lia
  simp only [model, hb', Bool.false_eq_true, if_false]
  rw [if_neg (by show ¬ ((!t.plain && decide (es.size > 1)) = true); simp [h2])]
  refine wpAny_bind ?_
  show wpAny _ _ (if (!t.led && !es.isEmpty) = true then unsupported "set:maker-not-led" else pure ()) _ _ s
  rw [hl]
  exact wpAny_pure (wpAny_pure h)
theorem one_place (hf : t.fits es.size = true) (h1 : es.size = 1) : ∃ j, t.place = #[j] := by
  have q : t.place.size = 1 := by
    have := (Bool.and_eq_true_iff.mp (show (t.place.size == es.size && decide (t.fill ≤ t.mask)) = true from hf)).1
    rw [h1] at this
    simpa using this
  generalize t.place = pl at q
  obtain ⟨l⟩ := pl
  have q' : l.length = 1 := q
  match l, q' with
  | [j], _ => exact ⟨j, rfl⟩
theorem below_first (j : Nat) : SetTable.below #[j] 0 = 0 := by
  unfold SetTable.below
  simp [SetTable.below.go]
theorem below_last (j : Nat) : SetTable.below #[j] (j + 1) = 1 := by
  unfold SetTable.below
  simp [SetTable.below.go]
def OneAt (t : SetTable) (n i sl : Nat) : Prop := (i = 0 ∧ sl = 0) ∨ (i = 1 ∧ n = 1 ∧ ∃ j, t.place = #[j] ∧ sl = j + 1)
theorem next_one {hx : Int} {x : Value} {Q : Option Value → Shared → Prop} (hb : byText w = false) (hl : t.led = true) (h1 : es.size = 1) (ho : s.heap.get? it = some (itObj a es.size ep (.int 0 0) 0)) (ha : s.heap.get? a = some o) (hd : o.data = .set es ep t) (hf : t.fits es.size = true)
    (hp : es[0]? = some (hx, x))
    (h : ∀ h' sl, OneAt t es.size 1 sl → h'.get? it = some (itObj a es.size ep (.int sl 0) 1) → Heap.SameBut it s.heap h' → Q (some x) { s with heap := h' }) : wpAny (model prog w) A (pyNext (.ref it)) Q E s := by
  obtain ⟨j, hj⟩ := one_place hf h1
  refine si_yield (x := x) ho ?_
  unfold Builtin.«set_iterator.__next__»
  show wpAny _ _ (fieldsOf (.ref it) >>= _) _ _ s
  refine wpAny_bind (wpAny_fieldsOf ho rfl ?_)
  dsimp only
  refine wpAny_bind (wpAny_setEntries_of ha hd hf ?_)
  rw [if_neg (by simp)]
  refine wpAny_bind (set_next_one (sl := 0) (g := 0) hb hl (by lia) ha hd hf ?_)
  rw [hj, below_first, hp]
  show wpAny _ _ (setField (.ref it) 0 (rawInt ((j + 1 : Nat) : Int)) >>= fun _ => setField (.ref it) 1 (rawInt (((0 : Nat) : Int) + 1)) >>= fun _ => ret x) _ _ s
  refine wpAny_bind (wpAny_setField ho rfl (by simp) ?_)
  refine wpAny_bind (wpAny_setField (fields_at ho) rfl (by simp) (wpAny_pure ⟨rfl, h _ (j + 1) (.inr ⟨rfl, h1, j, hj, rfl⟩) ?_ ((Heap.SameBut.update ..).trans (Heap.SameBut.update ..))⟩))
  rw [Heap.get?_update_self _ (fields_at ho) rfl]
  simp [itObj, rawInt, Obj.mapFields]
theorem end_one {Q : Option Value → Shared → Prop} (hh : A.handled = none) (hb : byText w = false) (hl : t.led = true) (h1 : es.size ≤ 1) (hat : OneAt t es.size i sl) (hi : es.size ≤ i) (ho : s.heap.get? it = some (itObj a es.size ep (.int sl 0) i)) (ha : s.heap.get? a = some o) (hd : o.data = .set es ep t)
    (hf : t.fits es.size = true) (h : ∀ h', Heap.ExtBut it s.heap h' → Q none { s with heap := h' }) : wpAny (model prog w) A (pyNext (.ref it)) Q E s := by
  refine si_done hh ho (fun {Q' E'} hq => ?_) h
  unfold Builtin.«set_iterator.__next__»
  show wpAny _ _ (fieldsOf (.ref it) >>= _) _ _ s
  refine wpAny_bind (wpAny_fieldsOf ho rfl ?_)
  dsimp only
  refine wpAny_bind (wpAny_setEntries_of ha hd hf ?_)
  rw [if_neg (by simp)]
  refine wpAny_bind (set_next_one (sl := sl) (g := i) hb hl h1 ha hd hf ?_)
  have key : (match es[SetTable.below t.place sl]?, t.place[SetTable.below t.place sl]? with | some (_, x), some j => some (x, j + 1) | _, _ => none) = (none : Option (Value × Nat)) := by
    rcases hat with ⟨rfl, rfl⟩ | ⟨rfl, hn, j, hj, rfl⟩
    · have e0 : es = #[] := by
        have : es.size = 0 := by lia
        exact Array.eq_empty_of_size_eq_zero this
      subst e0
      simp
    · rw [hj, below_last]
      simp
  rw [key]
  dsimp only
  refine wpAny_bind (wpAny_setField ho rfl (by simp) ?_)
  exact hq _ (Heap.SameBut.update ..)
end
end
end UfSet
end
/-! UfSet3 -/
section
set_option Elab.async false
set_option linter.all false
set_option maxRecDepth 100000
set_option maxHeartbeats 4000000
namespace UfSet
open PySem
theorem Ents.get {w : World} : ∀ {ks : List Str} {es : List (Int × Value)} {i : Nat}, Ents w ks es → i < es.length → ∃ hx k tk, es[i]? = some (hx, Value.str k tk) ∧ ks[i]? = some k
  | _, _, _, .nil, h => absurd h (by simp)
  | _, _, 0, .cons (a := k) (b := e) h t, _ => by
    obtain ⟨h1, tk, h2⟩ := h
    obtain ⟨e1, e2⟩ := e
    have h2 : e2 = Value.str k tk := h2
    subst h2
    exact ⟨e1, k, tk, rfl, rfl⟩
  | _, _, i + 1, .cons h t, hl => by
    obtain ⟨hx, k, tk, q1, q2⟩ := Ents.get (i := i) t (by simpa using hl)
    exact ⟨hx, k, tk, by simpa using q1, by simpa using q2⟩
def At (ord : List Str) (i : Nat) (v : Value) : Prop := ∃ k tk, ord[i]? = some k ∧ v = Value.str k tk
section
variable {prog : Program} {w : World} {A : Around} {E : Value → Shared → Prop} {s : Shared}
theorem self_si {it a : Addr} {n ep i : Nat} {first : Value} {Q : Value → Shared → Prop} (ho : s.heap.get? it = some (itObj a n ep first i)) (h : Q (.ref it) s) : wpAny (model prog w) A (pyIter (.ref it)) Q E s := by
  have hT : s.TypeIs (.ref it) "set_iterator" := ⟨_, ho, rfl⟩
  refine wpAny_pyIter_slot hT slot_si_iter (wpAny_call_entry slot_si_iter hT entry_si_iter ?_ (args_si_iter _))
  show wpAny _ _ (ret (.ref it)) _ _ s
  exact wpAny_pure ⟨_, rfl, "set_iterator", _, hT, slot_si_next.lookup, h⟩
theorem walks_drawn {it a T : Addr} {o oT : Obj} {es : Array (Int × Value)} {ep c : Nat} {t : SetTable} {pl : List Nat} {ks ord : List Str} (hh : A.handled = none) (ha : a ≠ it) (hTi : T ≠ it) (hd : o.data = .set es ep t) (hf : t.fits es.size = true) (he : Ents w ks es.toList)
    (hTd : oT.data = .seq (pl.map fun (j : Nat) => Value.int j 0).toArray c) (hpl : ∀ (i p : Nat), pl[i]? = some p → p < es.size ∧ ord[i]? = ks[p]?) (hlen : pl.length = ord.length) :
    Walks prog w A it [it, a, T] [it] ord.length (At ord) (fun i h => h.get? it = some (itObj a es.size ep (.ref T) i) ∧ h.get? a = some o ∧ h.get? T = some oT) where
  sub := fun b hb => by simp at hb; simp [hb]
  frame := fun i h h' st k => ⟨k it (by simp) _ st.1, k a (by simp) _ st.2.1, k T (by simp) _ st.2.2⟩
  item := fun i s Q E hi st hQ => by
    obtain ⟨s1, s2, s3⟩ := st
    have hip : i < pl.length := by lia
    have hp : pl[i]? = some pl[i] := List.getElem?_eq_getElem hip
    obtain ⟨hlt, hord⟩ := hpl i _ hp
    obtain ⟨hx, k, tk, q1, q2⟩ := he.get (i := pl[i]) (by simpa using hlt)
    refine next_drawn s1 s2 hd hf s3 hTd hp (by rw [← Array.getElem?_toList]; exact q1) fun h' st' sb => ?_
    exact hQ _ h' s.toks ⟨k, tk, hord.trans q2, rfl⟩ ⟨st', sb.extBut _ _ ha s2, sb.extBut _ _ hTi s3⟩ fun b o hb e => sb.extBut b o (fun z => hb (by simp [z])) e
  done := fun s Q E st hQ => by
    obtain ⟨s1, s2, s3⟩ := st
    exact end_drawn hh s1 s2 hd hf s3 hTd (List.getElem?_eq_none (by lia)) fun h' eb => hQ h' s.toks fun b o hb e => eb b o (fun z => hb (by simp [z])) e
  self := fun _ _ _ _ st hQ => self_si st.1 hQ
theorem walks_text {it a : Addr} {o : Obj} {es : Array (Int × Value)} {ep : Nat} {t : SetTable} {ord : List Str} (hh : A.handled = none) (hb : byText w = true) (ha : a ≠ it) (hd : o.data = .set es ep t) (hf : t.fits es.size = true)
    (he : Ents w ord (pickOrder (w.params.setOrder a ep) es).toList) :
    Walks prog w A it [it, a] [it] ord.length (At ord) (fun i h => h.get? it = some (itObj a es.size ep (.int 0 0) i) ∧ h.get? a = some o) where
  sub := fun b hb => by simp at hb; simp [hb]
  frame := fun i h h' st k => ⟨k it (by simp) _ st.1, k a (by simp) _ st.2⟩
  item := fun i s Q E hi st hQ => by
    obtain ⟨s1, s2⟩ := st
    obtain ⟨hx, k, tk, q1, q2⟩ := he.get (i := i) (by rw [← he.len]; exact hi)
    refine next_text hb s1 s2 hd hf (by rw [← Array.getElem?_toList]; exact q1) fun h' st' sb => ?_
    exact hQ _ h' s.toks ⟨k, tk, q2, rfl⟩ ⟨st', sb.extBut _ _ ha s2⟩ fun b o hb e => sb.extBut b o (fun z => hb (by simp [z])) e
  done := fun s Q E st hQ => by
    obtain ⟨s1, s2⟩ := st
    refine end_text hh hb s1 s2 hd hf ?_ fun h' eb => hQ h' s.toks fun b o hb e => eb b o (fun z => hb (by simp [z])) e
    rw [← Array.getElem?_toList]
    exact List.getElem?_eq_none (by rw [← he.len]; exact Nat.le_refl _)
  self := fun _ _ _ _ st hQ => self_si st.1 hQ
theorem walks_one {it a : Addr} {o : Obj} {es : Array (Int × Value)} {ep : Nat} {t : SetTable} {ord : List Str} (hh : A.handled = none) (hb : byText w = false) (hl : t.led = true) (h1 : es.size ≤ 1) (ha : a ≠ it) (hd : o.data = .set es ep t) (hf : t.fits es.size = true)
    (he : Ents w ord es.toList) :
    Walks prog w A it [it, a] [it] ord.length (At ord) (fun i h => (∃ sl, OneAt t es.size i sl ∧ h.get? it = some (itObj a es.size ep (.int sl 0) i)) ∧ h.get? a = some o) where
  sub := fun b hb => by simp at hb; simp [hb]
  frame := fun i h h' st k => by
    obtain ⟨⟨sl, q1, q2⟩, q3⟩ := st
    exact ⟨⟨sl, q1, k it (by simp) _ q2⟩, k a (by simp) _ q3⟩
  item := fun i s Q E hi st hQ => by
    obtain ⟨⟨sl, q1, q2⟩, q3⟩ := st
    have hlen : ord.length = es.size := by have := he.len; have el : es.toList.length = es.size := by simp
                                           lia
    have h0 : es.size = 1 := by lia
    rcases q1 with ⟨rfl, rfl⟩ | ⟨rfl, _⟩
    · obtain ⟨hx, k, tk, e1, e2⟩ := he.get (i := 0) (by simp; lia)
      refine next_one hb hl h0 q2 q3 hd hf (by rw [← Array.getElem?_toList]; exact e1) fun h' sl' oa st' sb => ?_
      exact hQ _ h' s.toks ⟨k, tk, e2, rfl⟩ ⟨⟨sl', oa, st'⟩, sb.extBut _ _ ha q3⟩ fun b o hb e => sb.extBut b o (fun z => hb (by simp [z])) e
    · lia
  done := fun s Q E st hQ => by
    obtain ⟨⟨sl, q1, q2⟩, q3⟩ := st
    have hlen : ord.length = es.size := by have := he.len; have el : es.toList.length = es.size := by simp
                                           lia
    exact end_one hh hb hl h1 q1 (by lia) q2 q3 hd hf fun h' eb => hQ h' s.toks fun b o hb e => eb b o (fun z => hb (by simp [z])) e
  self := fun _ _ _ _ st hQ => by
    obtain ⟨⟨sl, q1, q2⟩, q3⟩ := st
    exact self_si q2 hQ
theorem iter_set {a : Addr} {ks : List Str} {Q : Value → Shared → Prop} (hS : IsSet w s.heap a ks)
    (h : ∀ (I : Addr) (h' : Heap) (d : Drawn) (ord : List Str) (fp : List Addr) (St : Nat → Heap → Prop), ord.Perm ks → (∀ A' : Around, A'.handled = none → Walks prog w A' I fp [I] ord.length (At ord) St) → St 0 h' → I ∈ fp → s.heap.objs.size ≤ I →
      (∀ b o, s.heap.get? b = some o → h'.get? b = some o) → (∀ b ∈ fp, b < h'.objs.size ∧ (b = a ∨ s.heap.objs.size ≤ b)) → Q (.ref I) { s with heap := h', drawn := d }) :
    wpAny (model prog w) A (pyIter (.ref a)) Q E s := by
  obtain ⟨o, es, ep, t, ks', ho, hex, hd, he, hp, hn, hb, hf, hpl, hle⟩ := hS
  have hT : s.TypeIs (.ref a) "set" := ⟨_, ho, hex.1⟩
  have alt : a < s.heap.objs.size := Heap.lt_size ho
  refine wpAny_pyIter_slot hT PySem.F.slot_set_iter (wpAny_call_entry PySem.F.slot_set_iter hT entry_s_iter ?_ (PySem.F.args_set_iter_1 _))
  show wpAny _ _ (Builtin.Frozenset.sizeOf a >>= _) _ _ s
  refine wpAny_bind ?_
  unfold Builtin.Frozenset.sizeOf
  refine wpAny_bind (wpAny_setEntries_of ho hd hf (wpAny_pure ?_))
  refine wpAny_bind ?_
  unfold setDrawn
  refine wpAny_bind (wpAny_setState_of ho hd hf ?_)
  dsimp only
  refine wpAny_bind ?_
  unfold setsByText
  refine wpAny_bind (wpAny_askSetting (wpAny_pure (wpAny_pure ?_)))
  have key : (!(⟨(model prog w).prog, (model prog w).w.params⟩ : Setting).params.followText "set-order" && (!t.plain && decide (es.size > 1))) = (!byText w && (!t.plain && decide (es.size > 1))) := rfl
  show wpAny _ _ (do
    let first ← if (!(⟨(model prog w).prog, (model prog w).w.params⟩ : Setting).params.followText "set-order" && (!t.plain && decide (es.size > 1))) = true then newTuple ((← drawOrder es.size (List.range es.size)).map fun (i : Nat) => rawInt i) else pure (rawInt 0)
    ret (← newFields "set_iterator" [first, rawInt 0, .ref a, rawInt es.size, rawInt (← setEpoch a)])) _ _ s
  rw [key]
  by_cases hdr : (!byText w && (!t.plain && decide (es.size > 1))) = true
  · rw [if_pos hdr]
    have zs : es.size ≤ sizeLine := fits_of_scanBound hb
    refine wpAny_bind (draw_any es.size (List.range es.size) s (by simp) fun pl d hpp => ?_)
    have hl : pl.length = es.size := by rw [hpp.length_eq]; simp
    refine wpAny_bind (wpAny_newObj_type ?_ (by show (pl.map fun (i : Nat) => rawInt i).toArray.size ≤ sizeLine; simp; lia))
    refine wpAny_bind (wpAny_setEpoch_of (o := o) (es := es) (t := t) (ep := ep) (Heap.get?_push_of_some _ ho) hd hf ?_)
    refine wpAny_bind (wpAny_newObj_type (wpAny_pure ⟨_, rfl, "set_iterator", _, ⟨_, Heap.get?_push_size _ rfl, rfl⟩, slot_si_next.lookup, ?_⟩) (by size_fits))
    dsimp only
    have e1 : (s.heap.push { cls := .type "tuple", data := .seq (pl.map fun (i : Nat) => rawInt i).toArray }).objs.size = s.heap.objs.size + 1 := by rw [Heap.size_push]
    have f : ∀ p, p < es.size → ∃ k, ks'[p]? = some k := fun p hp' => by
      obtain ⟨_, k, _, _, q⟩ := he.get (i := p) (by simpa using hp')
      exact ⟨k, q⟩
    refine h _ _ d (pl.map fun p => ks'.getD p ⟨#[]⟩) [_, a, s.heap.objs.size] _ ?_ (fun A' hh' => walks_drawn (T := s.heap.objs.size) (oT := { cls := .type "tuple", data := .seq (pl.map fun (i : Nat) => rawInt i).toArray }) (pl := pl) hh' ?_ ?_ hd hf he rfl (fun i p hip => ?_) (by simp)) ⟨Heap.get?_push_size _ rfl, Heap.get?_push_of_some _ (Heap.get?_push_of_some _ ho), Heap.get?_push_of_some _ (Heap.get?_push_size _ rfl)⟩ (by simp) (by rw [e1]; lia) (fun b ob e => Heap.get?_push_of_some _ (Heap.get?_push_of_some _ e)) fun b hb' => ?_
    · have q := hpp.map (fun p => ks'.getD p ⟨#[]⟩)
      have e2 : (List.range es.size).map (fun p => ks'.getD p ⟨#[]⟩) = ks' := by
        have hk : ks'.length = es.size := by rw [he.len]; simp
        rw [← hk]
        refine List.ext_getElem (by simp) fun i h1 h2 => ?_
        simp [List.getD_eq_getElem?_getD, List.getElem?_eq_getElem h2]
      rw [e2] at q
      exact q.trans hp
    · rw [e1]; exact Nat.ne_of_lt (Nat.lt_succ_of_lt alt)
    · rw [e1]; exact Nat.ne_of_lt (Nat.lt_succ_self _)
    · have hm : p ∈ List.range es.size := hpp.mem_iff.mp (List.mem_of_getElem? hip)
      have hlt : p < es.size := by simpa using hm
      refine ⟨hlt, ?_⟩
      obtain ⟨k, hk⟩ := f p hlt
      rw [List.getElem?_map, hip, hk]
      simp [List.getD_eq_getElem?_getD, hk]
    · simp only [List.mem_cons, List.not_mem_nil, or_false] at hb'
      rw [Heap.size_push]
      rcases hb' with rfl | rfl | rfl
      · exact ⟨Nat.lt_succ_self _, .inr (by rw [e1]; exact Nat.le_succ _)⟩
      · exact ⟨by rw [e1]; exact Nat.lt_succ_of_lt (Nat.lt_succ_of_lt alt), .inl rfl⟩
      · exact ⟨by rw [e1]; exact Nat.lt_succ_of_lt (Nat.lt_succ_self _), .inr (Nat.le_refl _)⟩
  · rw [if_neg hdr]
    refine wpAny_bind (wpAny_pure ?_)
    refine wpAny_bind (wpAny_setEpoch_of (o := o) (es := es) (t := t) (ep := ep) ho hd hf ?_)
    refine wpAny_bind (wpAny_newObj_type (wpAny_pure ⟨_, rfl, "set_iterator", _, ⟨_, Heap.get?_push_size _ rfl, rfl⟩, slot_si_next.lookup, ?_⟩) (by size_fits))
    have old : ∀ b ob, s.heap.get? b = some ob → (s.heap.push { cls := .type "set_iterator", data := .fields [rawInt 0, rawInt 0, Value.ref a, rawInt (es.size : Int), rawInt (ep : Int)].toArray }).get? b = some ob := fun b ob e => Heap.get?_push_of_some _ e
    have own : ∀ b ∈ [s.heap.objs.size, a], b < (s.heap.push { cls := .type "set_iterator", data := .fields [rawInt 0, rawInt 0, Value.ref a, rawInt (es.size : Int), rawInt (ep : Int)].toArray }).objs.size ∧ (b = a ∨ s.heap.objs.size ≤ b) := fun b hb' => by
      simp only [List.mem_cons, List.not_mem_nil, or_false] at hb'
      rw [Heap.size_push]
      rcases hb' with rfl | rfl
      · exact ⟨Nat.lt_succ_self _, .inr (Nat.le_refl _)⟩
      · exact ⟨Nat.lt_succ_of_lt alt, .inl rfl⟩
    cases hbt : byText w with
    | true =>
      obtain ⟨ord, q1, q2⟩ := he.perm (pick_perm (w.params.setOrder a ep) es)
      exact h _ _ s.drawn ord [s.heap.objs.size, a] _ (q2.trans hp) (fun A' hh' => walks_text hh' hbt (Nat.ne_of_lt alt) hd hf q1) ⟨Heap.get?_push_size _ rfl, Heap.get?_push_of_some _ ho⟩ (by simp) (Nat.le_refl _) old own
    | false =>
      have h1 : es.size ≤ 1 := by
        rw [hbt] at hdr
        cases hpt : t.plain with
        | true => have := hpl hpt; lia
        | false =>
          rw [hpt] at hdr
          by_cases hz : es.size > 1
          · exact absurd (by simp [hz]) hdr
          · lia
      rw [hbt] at hle
      exact h _ _ s.drawn ks' [s.heap.objs.size, a] _ hp (fun A' hh' => walks_one hh' hbt hle h1 (Nat.ne_of_lt alt) hd hf he) ⟨⟨0, .inl ⟨rfl, rfl⟩, Heap.get?_push_size _ rfl⟩, Heap.get?_push_of_some _ ho⟩ (by simp) (Nat.le_refl _) old own
end
end UfSet
end
/-! UfSet4 -/
section
set_option Elab.async false
set_option linter.all false
set_option maxRecDepth 100000
set_option maxHeartbeats 4000000
namespace UfSet
open PySem
theorem len_look : typeLookup (.type "set") "__len__" = pure (some (.builtin "set.__len__")) := by rw [typeLookup_type, builtinLookup_eq_fast]; kernel_rfl
theorem set_sub : isSubtype (.type "set") (.type "set") = pure true := by rw [isSubtype_type]; kernel_rfl
theorem len_split : splitId "set.__len__" = some ("set", "__len__") := by decide +kernel
theorem moved_is {wr : List Addr} : ∀ {s s' : Shared}, Moved wr (fun a b => b = a) s s' → s' = { s with heap := s'.heap, toks := s'.toks }
  | ⟨h, g, d, t, o⟩, ⟨h', g', d', t', o'⟩, hm => by
    have e1 : g' = g := hm.gens
    have e2 : d' = d := hm.drawn
    have e3 : o' = o := hm.os
    subst e1 e2 e3
    rfl
section
variable {prog : Program} {w : World} {A : Around} {E : Value → Shared → Prop} {s : Shared}
theorem hint_set {r : Addr} {Q : Bool → Shared → Prop} (hT : s.TypeIs (.ref r) "set") (h : Q false s) : wpAny (model prog w) A (Builtin.List.listLengthHint (.ref r)) Q E s := by
  unfold Builtin.List.listLengthHint
  refine wpAny_bind (wpAny_specialOf hT len_look ?_)
  dsimp only
  rw [len_split]
  dsimp only
  refine wpAny_bind (wpAny_isInstance (T := "set") (b := true) hT set_sub ?_)
  refine wpAny_ite_split (fun z => absurd z (by decide)) (fun _ => ?_)
  refine wpAny_ite_split (fun _ => ?_) (fun z => absurd (by decide +kernel) z)
  refine wpAny_bind (wpAny_typeOf hT ?_)
  exact wpAny_pure h
theorem collect_any {r : Addr} {T : String} {OK : Heap → Prop} {R : Nat → (Nat → Value → Prop) → Prop} {Q : List Value → Shared → Prop} (hh : A.handled = none) (hok : OK s.heap)
    (keep : ∀ h h' : Heap, OK h → (∀ b o, h.get? b = some o → h'.get? b = some o) → OK h') (hty : ∀ s' : Shared, OK s'.heap → s'.TypeIs (.ref r) T) (hlt : ∀ h, OK h → r < h.objs.size)
    (nl : (Value.type T == Value.type "list") = false) (nt : (Value.type T == Value.type "tuple") = false)
    (hint : ∀ (A' : Around) (E' : Value → Shared → Prop) (s' : Shared) (Q' : Bool → Shared → Prop), OK s'.heap → Q' false s' → wpAny (model prog w) A' (Builtin.List.listLengthHint (.ref r)) Q' E' s')
    (iter : ∀ (A' : Around) (E' : Value → Shared → Prop) (s' : Shared) (Q' : Value → Shared → Prop), OK s'.heap → (∀ (I : Addr) (h' : Heap) (d : Drawn) (n : Nat) (P : Nat → Value → Prop) (fp : List Addr) (St : Nat → Heap → Prop), R n P → n ≤ sizeLine →
      (∀ A2 : Around, A2.handled = none → Walks prog w A2 I fp [I] n P St) → St 0 h' → s'.heap.objs.size ≤ I → (∀ b o, s'.heap.get? b = some o → h'.get? b = some o) → (∀ b ∈ fp, b = r ∨ s'.heap.objs.size ≤ b) → Q' (.ref I) { s' with heap := h', drawn := d }) →
      wpAny (model prog w) A' (pyIter (.ref r)) Q' E' s')
    (h : ∀ (h' : Heap) (tk : Nat) (d : Drawn) (n : Nat) (P : Nat → Value → Prop) (vs : List Value), R n P → vs.length = n → (∀ (j : Nat) v, vs[j]? = some v → P j v) → (∀ b o, s.heap.get? b = some o → h'.get? b = some o) → s.heap.objs.size ≤ h'.objs.size → Q vs { s with heap := h', toks := tk, drawn := d }) :
    wpAny (model prog w) A (collect (.ref r)) Q E s := by
  unfold collect
  refine wpAny_bind (wpAny_runValue (codeAny_builtin PySem.F.entry_proto_collect ?_))
  rw [Around.under_plainId PySem.F.plain_proto_collect _]
  show wpAny _ A.in1 (newList [] >>= fun l => again (.builtin "list.__iadd__" ⟨[l, .ref r], []⟩)) _ _ s
  refine wpAny_bind (wpAny_newObj_type ?_)
  refine wpAny_pure ⟨plainId_quiet PySem.F.plain_list_iadd _, codeAny_builtin PySem.F.entry_list_iadd ?_⟩
  rw [Around.under_plainId PySem.F.plain_list_iadd _]
  generalize hs1 : (s.heap.push { cls := .type "list", data := .seq ([] : List Value).toArray }) = h1
  have S1 : h1.get? s.heap.objs.size = some { cls := .type "list", data := .seq #[] } := by rw [← hs1]; exact Heap.get?_push_size _ rfl
  have k1 : ∀ b ob, s.heap.get? b = some ob → h1.get? b = some ob := fun b ob e => by rw [← hs1]; exact Heap.get?_push_of_some _ e
  have z1 : h1.objs.size = s.heap.objs.size + 1 := by rw [← hs1, Heap.size_push]
  have alt : r < s.heap.objs.size := hlt _ hok
  have ok1 : OK h1 := keep _ _ hok k1
  show wpAny _ A.in1 (Builtin.List.listExtendWith (.ref s.heap.objs.size) (.ref r) (.ref s.heap.objs.size)) _ _ { s with heap := h1 }
  unfold Builtin.List.listExtendWith
  refine wpAny_bind (wpAny_typeOf (T := T) (hty { s with heap := h1 } ok1) ?_)
  have e1 : Builtin.List.listSameRef (.ref s.heap.objs.size) (.ref r) = false := by simp [Builtin.List.listSameRef, Nat.ne_of_gt alt]
  simp only [e1, nl, nt, Bool.or_false, Bool.false_eq_true, if_false]
  refine wpAny_bind (iter _ _ { s with heap := h1 } _ ok1 fun I h2 d n P fp St hR zo W st hIz k2 hfp => ?_)
  have S2 := k2 _ _ S1
  refine wpAny_bind (wpAny_holding (hint _ _ _ _ (keep _ _ ok1 k2) ?_))
  have nfp : s.heap.objs.size ∉ fp := fun hm => by
    rcases hfp _ hm with z | z
    · exact absurd z (Nat.ne_of_gt alt)
    · have z' : h1.objs.size ≤ s.heap.objs.size := z
      rw [z1] at z'
      exact absurd z' (Nat.not_succ_le_self _)
  have key : ∀ (h3 : Heap) (c tk : Nat), St 0 h3 → (∀ b ob, b ≠ s.heap.objs.size → h2.get? b = some ob → h3.get? b = some ob) → h3.get? s.heap.objs.size = some { cls := .type "list", data := .seq #[] c } →
      codeAny (model prog w) A (.builtin "list.extend.loop" ⟨[.ref s.heap.objs.size, .ref I, .ref s.heap.objs.size], []⟩)
        (fun r s' => match r with | .ok (.ret v) => wpAny (model prog w) A (match v with | .ref b => (load b >>= fun ob => (match ob.data with | .seq xs _ => pure xs.toList | _ => unsupported "internal:collect")) | _ => unsupported "internal:collect") Q E s' | .ok _ => False | .error e => E e s') { s with heap := h3, toks := tk, drawn := d } := by
    intro h3 c tk st3 k3 S3
    refine codeAny_extend_loopS (W A.in1 hh).toS zo s.heap.objs.size nfp _ n 0 _ #[] c rfl (Nat.zero_le _) st3 S3 (ItemsOf.nil _) fun s' acc c' hm S' hacc => ?_
    dsimp only
    refine wpAny_bind (wpAny_load S' (wpAny_pure ?_))
    rw [moved_is hm]
    refine h s'.heap s'.toks d n P acc.toList hR (by rw [← hacc.1]; simp) (fun j v e => hacc.2 j v (by rw [← Array.getElem?_toList]; exact e)) (fun b ob e => ?_) (Nat.le_of_lt (Heap.lt_size S'))
    have nb : b ≠ s.heap.objs.size := Nat.ne_of_lt (Heap.lt_size e)
    refine hm.heap b ob (fun hmem => ?_) (k3 b ob nb (k2 b ob (k1 b ob e)))
    rcases List.mem_cons.mp hmem with z | z
    · exact nb z
    · have z' : b = I := by simpa using z
      subst z'
      have z2 : h1.objs.size ≤ b := hIz
      rw [z1] at z2
      exact absurd (Nat.lt_of_lt_of_le (Heap.lt_size e) (Nat.le_of_succ_le z2)) (Nat.lt_irrefl _)
  refine wpAny_ite_split (fun _ => ?_) (fun _ => wpAny_pure ⟨plainId_quiet PySem.F.plain_extend_loop _, key _ 0 _ st (fun b ob _ e => e) S2⟩)
  refine wpAny_bind (wpAny_rule ?_)
  refine wpAny_bind ?_
  show wpAny _ _ (updateSeq s.heap.objs.size (·.push .none) >>= fun _ => updateSeq s.heap.objs.size (·.pop)) _ _ _
  refine wpAny_bind (wpAny_updateSeq S2 rfl ?_)
  have S3 := Heap.get?_update_self (Obj.mapSeq (·.push Value.none)) S2 rfl
  refine wpAny_updateSeq (hz := by seq_fits) S3 rfl ?_
  have S4 := Heap.get?_update_self (Obj.mapSeq (·.pop)) S3 rfl
  have oth : ∀ b ob, b ≠ s.heap.objs.size → h2.get? b = some ob → ((h2.update s.heap.objs.size (Obj.mapSeq (·.push Value.none))).update s.heap.objs.size (Obj.mapSeq (·.pop))).get? b = some ob := fun b ob nb e =>
    (Heap.get?_update_other _ _ (Ne.symm nb)).trans ((Heap.get?_update_other _ _ (Ne.symm nb)).trans e)
  exact wpAny_pure ⟨plainId_quiet PySem.F.plain_extend_loop _, key _ _ _ ((W A.in1 hh).frame 0 _ _ st fun b hb' ob e => oth b ob (fun z => nfp (z ▸ hb')) e) oth S4⟩
theorem collect_set {a : Addr} {ks : List Str} {Q : List Value → Shared → Prop} (hh : A.handled = none) (hS : IsSet w s.heap a ks)
    (h : ∀ (h' : Heap) (tk : Nat) (d : Drawn) (ord : List Str) (vs : List Value), ord.Perm ks → vs.length = ord.length → (∀ (j : Nat) v, vs[j]? = some v → At ord j v) → (∀ b o, s.heap.get? b = some o → h'.get? b = some o) → s.heap.objs.size ≤ h'.objs.size → Q vs { s with heap := h', toks := tk, drawn := d }) :
    wpAny (model prog w) A (collect (.ref a)) Q E s := by
  have kp : ∀ h h' : Heap, IsSet w h a ks → (∀ b o, h.get? b = some o → h'.get? b = some o) → IsSet w h' a ks := fun h1 h2 x k => by
    obtain ⟨o, es, ep, t, ks', ho, r⟩ := x
    exact ⟨o, es, ep, t, ks', k _ _ ho, r⟩
  have ty : ∀ s' : Shared, IsSet w s'.heap a ks → s'.TypeIs (.ref a) "set" := fun s' x => by
    obtain ⟨o, es, ep, t, ks', ho, hex, _⟩ := x
    exact ⟨o, ho, hex.1⟩
  have zs : ks.length ≤ sizeLine := by
    obtain ⟨o, es, ep, t, ks', ho, hex, hd, he, hp, hn, hb, _⟩ := hS
    rw [← hp.length_eq, he.len]
    have el : es.toList.length = es.size := by simp
    rw [el]
    exact fits_of_scanBound hb
  refine collect_any (T := "set") (OK := fun h => IsSet w h a ks) (R := fun n P => ∃ ord : List Str, ord.Perm ks ∧ n = ord.length ∧ P = At ord) hh hS kp ty (fun h1 x => ?_) (by decide) (by decide) (fun A' E' s' Q' x q => hint_set (ty s' x) q) (fun A' E' s' Q' x q => ?_) ?_
  · obtain ⟨o, _, _, _, _, ho, _⟩ := x
    exact Heap.lt_size ho
  · exact iter_set x fun I h' d ord fp St hp W st hI hIz k2 hfp => q I h' d ord.length (At ord) fp St ⟨ord, hp, rfl, rfl⟩ (by rw [hp.length_eq]; exact zs) W st hIz k2 fun b hb => (hfp b hb).2
  · rintro h' tk d n P vs ⟨ord, hp, rfl, rfl⟩ hl hat hk hz
    exact h h' tk d ord vs hp hl hat hk hz
end
end UfSet
end
/-! UfSrt -/
section
set_option Elab.async false
set_option linter.all false
set_option maxHeartbeats 4000000
namespace UfSrt
open PySem PySem.Spec PyProof.Rows
def le (a b : Str) : Prop := a.cps.toList ≤ b.cps.toList
def leB (a b : Str) : Bool := decide (a.cps.toList ≤ b.cps.toList)
theorem leB_iff {a b : Str} : leB a b = true ↔ le a b := by simp [leB, le]
theorem cps_inj {a b : Str} (h : a.cps.toList = b.cps.toList) : a = b := by
  obtain ⟨x⟩ := a
  obtain ⟨y⟩ := b
  have : x = y := Array.toList_inj.mp h
  rw [this]
theorem le_anti {a b : Str} (h1 : le a b) (h2 : le b a) : a = b := cps_inj (List.le_antisymm h1 h2)
theorem le_tr {a b c : Str} (h1 : le a b) (h2 : le b c) : le a c := List.le_trans h1 h2
theorem le_tot (a b : Str) : le a b ∨ le b a := List.le_total _ _
def srt (xs : List Str) : List Str := xs.mergeSort leB
theorem srt_perm (xs : List Str) : (srt xs).Perm xs := List.mergeSort_perm _ _
theorem srt_pw (xs : List Str) : (srt xs).Pairwise le := by
  have h := List.pairwise_mergeSort (le := leB) (fun a b c h1 h2 => leB_iff.mpr (le_tr (leB_iff.mp h1) (leB_iff.mp h2))) (fun a b => by
    rcases le_tot a b with h | h
    · rw [leB_iff.mpr h]; rfl
    · rw [leB_iff.mpr h, Bool.or_true]) xs
  exact h.imp fun h => leB_iff.mp h
theorem pw_unique {xs ys : List Str} (h1 : xs.Pairwise le) (h2 : ys.Pairwise le) (p : xs.Perm ys) : xs = ys :=
  List.Perm.eq_of_pairwise (fun a b _ _ => le_anti) h1 h2 p
theorem srt_eq {xs ys : List Str} (h : xs.Pairwise le) (p : xs.Perm ys) : xs = srt ys := pw_unique h (srt_pw ys) (p.trans (srt_perm ys).symm)
theorem srt_mem {xs : List Str} {x : Str} : x ∈ srt xs ↔ x ∈ xs := (srt_perm xs).mem_iff
theorem srt_len (xs : List Str) : (srt xs).length = xs.length := (srt_perm xs).length_eq
theorem rising_pw : ∀ {p : Str} {l : List Str}, risingS p l = true → (p :: l).Pairwise le
  | p, [], _ => by simp
  | p, x :: r, h => by
    have h' : (!ltCps x.cps.toList p.cps.toList && risingS x r) = true := h
    obtain ⟨h1, h2⟩ := Bool.and_eq_true_iff.mp h'
    have ih := rising_pw h2
    have hpx : le p x := by
      rw [ltCps_eq] at h1
      exact List.not_lt.mp (by simpa using h1)
    refine List.pairwise_cons.mpr ⟨fun b hb => ?_, ih⟩
    rcases List.mem_cons.mp hb with rfl | hb
    · exact hpx
    · exact le_tr hpx ((List.pairwise_cons.mp ih).1 b hb)
theorem sorted_pw : ∀ {l : List Str}, sortedS l = true → l.Pairwise le
  | [], _ => .nil
  | x :: r, h => rising_pw h
end UfSrt
end
/-! UfSort -/
section
set_option Elab.async false
set_option linter.all false
set_option maxRecDepth 100000
set_option maxHeartbeats 4000000
namespace UfSort
open PySem PySem.Spec PyProof.Rows UfSrt
theorem strs_len : ∀ {vs : List Value} {ss : List Str}, StrsAre vs ss → vs.length = ss.length
  | _, _, .nil => rfl
  | _, _, .cons _ _ h => by rw [List.length_cons, List.length_cons, strs_len h]
structure Left (h h' : Heap) (D : Addr) (ss : List Str) : Prop where
  keep : ∀ b o, h.get? b = some o → h'.get? b = some o
  new : h.objs.size ≤ D
  at' : ∃ vs n, h'.get? D = some { cls := .type "list", data := .seq (List.toArray vs) n } ∧ StrsAre vs (srt ss)
section
variable {prog : Program} {w : World} {A : Around} {E : Value → Shared → Prop} {s : Shared}
theorem sorted_by {r : Value} {ss : List Str} {Q : Value → Shared → Prop}
    (hc : ∀ {Q' : List Value → Shared → Prop}, (∀ h' tk d vs ss', (∀ b o, s.heap.get? b = some o → h'.get? b = some o) → s.heap.objs.size ≤ h'.objs.size → StrsAre vs ss' → ss'.Perm ss → Q' vs { s with heap := h', toks := tk, drawn := d }) → wpAny (model prog w) A.in1 (collect r) Q' E s)
    (h64 : ss.length < 64) (h : ∀ h' tk d D, Left s.heap h' D ss → Q (.ref D) { s with heap := h', toks := tk, drawn := d }) : wpAny (model prog w) A (call (.builtin "sorted") [r]) Q E s := by
  refine Calls.call_function_entry kind_sorted plain_sorted entry_sorted (args_sorted1 _) ?_
  unfold Builtin.«sorted»
  refine wpAny_bind (m := checkCount "sorted" 1 1 _) (wpAny_pure ?_)
  refine wpAny_bind (hc fun h1 tk d vs ss1 k1 z1 hS hp => ?_)
  have hl : vs.length = ss.length := by rw [strs_len hS, hp.length_eq]
  refine wpAny_bind (wpAny_newList ?_ (by rw [sizeLine_eq]; lia))
  have hoL : (h1.push (seqObj "list" vs.toArray 0)).get? h1.objs.size = some (seqObj "list" vs.toArray 0) := Heap.get?_push_size _ rfl
  refine wpAny_bind (wpAny_holding (wpAny_call_entry slot_list_sort ⟨_, hoL, rfl⟩ entry_list_sort (list_sort_treeK strKind_oneLt hoL hS.keysOf (fun v₁ v₂ rest e => keyKind_strs (by rw [← e]; exact hS)) (by lia) fun st' a1 a2 => ⟨_, rfl, ?_⟩) (args_list_sort _)))
  obtain ⟨ss', q1, q2, q3⟩ := sorted_out_str hS a1 a2
  obtain ⟨e, he⟩ := sortedHeap_at (h := h1.push (seqObj "list" vs.toArray 0)) (a := h1.objs.size) (vs := vs) (n := 0) (out := (arrOf st').map (·.2)) hoL
  refine wpAny_pure ⟨_, rfl, h _ tk d _ ⟨fun b o hb => ?_, ?_, ((arrOf st').map (·.2)).toList, e, by rw [Array.toArray_toList]; exact he, ?_⟩⟩
  · have hb1 := k1 b o hb
    rw [sortedHeap_old (Nat.ne_of_lt (Heap.lt_size hb1)) (by rw [size_push']; exact Nat.lt_succ_of_lt (Heap.lt_size hb1))]
    exact Heap.get?_push_of_some _ hb1
  · exact z1
  · have : ss' = srt ss := srt_eq (sorted_pw q3) (q2.trans hp)
    rw [← this]
    exact q1
theorem strs_at {ord : List Str} : ∀ {vs : List Value} {j : Nat}, vs.length + j = ord.length → (∀ (i : Nat) v, vs[i]? = some v → UfSet.At ord (j + i) v) → StrsAre vs (ord.drop j)
  | [], j, hl, _ => by
    rw [List.drop_of_length_le (by simp at hl; lia)]
    exact .nil
  | v :: vs, j, hl, h => by
    obtain ⟨k, tk, e, hv⟩ := h 0 v rfl
    subst hv
    have hj : j < ord.length := by simp at hl; lia
    have ej : ord[j] = k := by
      rw [Nat.add_zero, List.getElem?_eq_getElem hj] at e
      exact Option.some.inj e
    rw [List.drop_eq_getElem_cons hj, ej]
    exact .cons k tk (strs_at (j := j + 1) (by simp at hl; lia) fun i v e => by
      have := h (i + 1) v (by simpa using e)
      rw [show j + 1 + i = j + (i + 1) by lia]
      exact this)
theorem sorted_set {a : Addr} {ks : List Str} {Q : Value → Shared → Prop} (hh : A.handled = none) (hS : UfSet.IsSet w s.heap a ks) (h64 : ks.length < 64)
    (h : ∀ h' tk d D, Left s.heap h' D ks → Q (.ref D) { s with heap := h', toks := tk, drawn := d }) : wpAny (model prog w) A (call (.builtin "sorted") [.ref a]) Q E s :=
  sorted_by (fun {Q'} hq => UfSet.collect_set (A := A.in1) hh hS fun h' tk d ord vs hp hl hat hk hz => hq h' tk d vs ord hk hz (by
    have := strs_at (ord := ord) (vs := vs) (j := 0) (by lia) (fun i v e => by rw [Nat.zero_add]; exact hat i v e)
    simpa using this) hp) h64 h
theorem sorted_list {l : Addr} {vs : List Value} {ss : List Str} {Q : Value → Shared → Prop} (hl : s.heap.IsList l vs.toArray) (hS : StrsAre vs ss) (h64 : ss.length < 64)
    (h : ∀ h' tk d D, Left s.heap h' D ss → Q (.ref D) { s with heap := h', toks := tk, drawn := d }) : wpAny (model prog w) A (call (.builtin "sorted") [.ref l]) Q E s :=
  sorted_by (fun {Q'} hq => collect_list (A := A.in1) hl (hq _ s.toks s.drawn vs ss (fun b o e => by
    rw [Heap.get?_update_other _ _ (Nat.ne_of_gt (Heap.lt_size e))]
    exact Heap.get?_push_of_some _ e) (by rw [Heap.size_update, size_push']; exact Nat.le_succ _) hS (.refl _)) (by rw [sizeLine_eq, strs_len hS]; lia)) h64 h
end
end UfSort
end
/-! UfSet5 -/
section
set_option Elab.async false
set_option linter.all false
set_option maxRecDepth 100000
set_option maxHeartbeats 4000000
namespace UfSet
open PySem PyProof.Rows
def dd (xs : List Str) : List Str := xs.foldl addK []
theorem addK_mem {ks : List Str} {k x : Str} : x ∈ addK ks k ↔ x ∈ ks ∨ x = k := by
  unfold addK
  split
  · rename_i h
    constructor
    · exact .inl
    · rintro (q | rfl)
      · exact q
      · exact h
  · simp
theorem fold_mem {x : Str} : ∀ {xs acc : List Str}, x ∈ xs.foldl addK acc ↔ x ∈ acc ∨ x ∈ xs
  | [], acc => by simp
  | y :: xs, acc => by
    rw [List.foldl_cons, fold_mem, addK_mem, List.mem_cons, or_assoc]
theorem fold_nodup : ∀ {xs acc : List Str}, acc.Nodup → (xs.foldl addK acc).Nodup
  | [], _, h => h
  | y :: xs, acc, h => fold_nodup (xs := xs) (addK_nodup h)
theorem fold_len : ∀ {xs acc : List Str}, (xs.foldl addK acc).length ≤ acc.length + xs.length
  | [], acc => by simp
  | y :: xs, acc => by
    have h1 := fold_len (xs := xs) (acc := addK acc y)
    have h2 := addK_length acc y
    rw [List.foldl_cons, List.length_cons]
    lia
theorem dd_mem {xs : List Str} {x : Str} : x ∈ dd xs ↔ x ∈ xs := by unfold dd; rw [fold_mem]; simp
theorem dd_nodup (xs : List Str) : (dd xs).Nodup := fold_nodup .nil
theorem dd_len (xs : List Str) : (dd xs).length ≤ xs.length := by have := fold_len (xs := xs) (acc := []); rw [List.length_nil, Nat.zero_add] at this; exact this
theorem fold_of_nodup : ∀ {xs acc : List Str}, (acc ++ xs).Nodup → xs.foldl addK acc = acc ++ xs
  | [], acc, _ => by simp
  | y :: xs, acc, h => by
    have hy : ¬ y ∈ acc := fun z => by
      rw [List.nodup_append] at h
      exact h.2.2 y z y List.mem_cons_self rfl
    rw [List.foldl_cons, show addK acc y = acc ++ [y] by unfold addK; rw [if_neg hy], fold_of_nodup (by rw [List.append_assoc]; exact h), List.append_assoc]
    rfl
theorem dd_of_nodup {xs : List Str} (h : xs.Nodup) : dd xs = xs := by unfold dd; rw [fold_of_nodup (by simpa using h)]; rfl
theorem fold_full : ∀ {xs acc : List Str}, acc.Nodup → (xs.foldl addK acc).length = acc.length + xs.length → (acc ++ xs).Nodup
  | [], acc, h, _ => by simpa using h
  | y :: xs, acc, h, hl => by
    rw [List.foldl_cons, List.length_cons] at hl
    by_cases hy : y ∈ acc
    · rw [show addK acc y = acc by unfold addK; rw [if_pos hy]] at hl
      have := fold_len (xs := xs) (acc := acc)
      lia
    · have e : addK acc y = acc ++ [y] := by unfold addK; rw [if_neg hy]
      rw [e] at hl
      have q := fold_full (xs := xs) (acc := acc ++ [y]) (by rw [← e]; exact addK_nodup h) (by rw [List.length_append, List.length_singleton]; lia)
      rw [List.append_assoc] at q
      exact q
theorem dd_len_iff {xs : List Str} : (dd xs).length = xs.length ↔ xs.Nodup := by
  constructor
  · intro h
    have := fold_full (xs := xs) (acc := []) .nil (by rw [List.length_nil, Nat.zero_add]; exact h)
    simpa using this
  · intro h
    rw [dd_of_nodup h]
section
variable {prog : Program} {w : World} {A : Around} {R : Result → Shared → Prop} {I : Addr} {fp wr : List Addr} {G : Array GenState → Array GenState → Prop} {St : Nat → Shared → Prop}
theorem IsSet.keeps {w : World} {h h' : Heap} {a : Addr} {ks : List Str} (x : IsSet w h a ks) (k : ∀ o, h.get? a = some o → h'.get? a = some o) : IsSet w h' a ks := by
  obtain ⟨o, es, ep, t, ks', ho, r⟩ := x
  exact ⟨o, es, ep, t, ks', k _ ho, r⟩
theorem upd_loop {xs : List Str} (W : WalksS prog w A.in1 I fp wr G xs.length (At xs) St) (S : Addr) (hSf : S ∉ fp) (hb : xs.length + 1 < scanBound) : ∀ (k i : Nat) (s : Shared) (acc : List Str), xs.length - i = k → i ≤ xs.length → St i s → IsSet w s.heap S acc → acc.length ≤ i →
    (∀ s', Moved (S :: wr) G s s' → IsSet w s'.heap S ((xs.drop i).foldl addK acc) → R (.ok (.ret .none)) s') → codeAny (model prog w) A (.builtin "set.update.loop" ⟨[.ref S, .ref I], []⟩) R s := by
  have nSw : S ∉ wr := fun z => hSf (W.sub _ z)
  have sub : ∀ b ∈ wr, b ∈ S :: wr := fun b z => List.mem_cons_of_mem _ z
  intro k
  induction k with
  | zero =>
    intro i s acc hk hi st hS ha hR
    have e : i = xs.length := by lia
    subst e
    refine codeAny_builtin PyProof.Rows.F.entry_set_update_loop ?_
    rw [Around.under_plainId PyProof.Rows.F.plain_set_update_loop _]
    show wpAny _ A.in1 (pyNext (.ref I) >>= _) _ _ s
    refine wpAny_bind (W.done s _ _ st fun s' hm => ?_)
    show wpAny _ A.in1 (ret Value.none) _ _ s'
    refine wpAny_pure (hR s' (hm.mono sub) ?_)
    rw [List.drop_of_length_le (Nat.le_refl _)]
    exact hS.keeps fun o ho => hm.heap S _ nSw ho
  | succ k ih =>
    intro i s acc hk hi st hS ha hR
    have hlt : i < xs.length := by lia
    refine codeAny_builtin PyProof.Rows.F.entry_set_update_loop ?_
    rw [Around.under_plainId PyProof.Rows.F.plain_set_update_loop _]
    show wpAny _ A.in1 (pyNext (.ref I) >>= _) _ _ s
    refine wpAny_bind (W.item i s _ _ hlt st fun v s' hP st' hm => ?_)
    obtain ⟨x, tk, ex, rfl⟩ := hP
    have hS' : IsSet w s'.heap S acc := hS.keeps fun o ho => hm.heap S _ nSw ho
    show wpAny _ A.in1 (holding [Value.str x tk] (setAdd S (.str x tk)) >>= _) _ _ s'
    refine wpAny_bind (wpAny_holding ?_)
    unfold setAdd
    refine wpAny_holding ?_
    refine wpAny_bind ((strKind prog w).pyHash (k := x) (by simp [PySem.strKind, Value.isStrOf]) ?_)
    refine add_hashed (s := { s' with toks := s'.toks + 1 }) hS' (by lia) fun h' b sb hS2 => ?_
    have hd : xs.drop i = x :: xs.drop (i + 1) := by
      rw [List.drop_eq_getElem_cons hlt]
      rw [List.getElem?_eq_getElem hlt] at ex
      rw [Option.some.inj ex]
    refine wpAny_pure ⟨plainId_quiet PyProof.Rows.F.plain_set_update_loop _, ih (i + 1) _ (addK acc x) (by lia) hlt (W.frame _ s' _ _ st' (Nat.le_succ _) fun b hb' o e => ?_) hS2 (by have := addK_length acc x; lia) fun s'' hm2 hS3 => ?_⟩
    · rw [sb.2 b (fun z : b = S => hSf (by rw [← z]; exact hb'))]; exact e
    · refine hR s'' (Moved.trans W.gtrans ((hm.mono sub).then_heap (Nat.le_succ _) fun b o hb' e => ?_) hm2) ?_
      · rw [sb.2 b (fun z : b = S => hb' (by rw [z]; exact List.mem_cons_self))]; exact e
      · rw [hd, List.foldl_cons]
        exact hS3
end
end UfSet
end
/-! UfSet6 -/
section
set_option Elab.async false
set_option linter.all false
set_option maxRecDepth 100000
set_option maxHeartbeats 8000000
namespace UfSet
open PySem PyProof.Rows
abbrev emptySet (w : World) : Obj := { cls := .type "set", dict := none, data := .set #[] 0 (.fresh 0 0 (!byText w)) }
theorem isSet_new {w : World} {h : Heap} {a : Addr} (ho : h.get? a = some (emptySet w)) : IsSet w h a [] :=
  ⟨_, #[], 0, _, [], ho, ⟨rfl, rfl, rfl⟩, rfl, .nil, .refl _, .nil, by show 0 < scanBound; unfold scanBound; lia, by rfl, fun _ => rfl, rfl⟩
theorem strs_len : ∀ {vs : List Value} {ss : List Str}, StrsAre vs ss → vs.length = ss.length
  | _, _, .nil => rfl
  | _, _, .cons _ _ h => by rw [List.length_cons, List.length_cons, strs_len h]
theorem strs_get : ∀ {vs : List Value} {ss : List Str} {i : Nat} {v : Value}, StrsAre vs ss → vs[i]? = some v → At ss i v
  | _, _, _, _, .nil, e => by simp at e
  | _, _, 0, v, .cons x t h, e => by
    have : Value.str x t = v := by simpa using e
    exact ⟨x, t, rfl, this.symm⟩
  | _, _, i + 1, _, .cons x t h, e => by
    obtain ⟨k, tk, q1, q2⟩ := strs_get (i := i) h (by simpa using e)
    exact ⟨k, tk, by simpa using q1, q2⟩
theorem _root_.PySem.Walks.imp {prog : Program} {w : World} {A : Around} {I : Addr} {fp wr : List Addr} {n : Nat} {P P' : Nat → Value → Prop} {St : Nat → Heap → Prop} (W : Walks prog w A I fp wr n P St) (h : ∀ i v, P i v → P' i v) : Walks prog w A I fp wr n P' St where
  sub := W.sub
  frame := W.frame
  item := fun i s Q E hi st hQ => W.item i s Q E hi st fun v h' tk hP => hQ v h' tk (h i v hP)
  done := W.done
  self := W.self
section
variable {prog : Program} {w : World} {A : Around} {E : Value → Shared → Prop} {s : Shared}
theorem set_made (x : Value) {Q : Value → Shared → Prop} (hq : Q (.ref s.heap.objs.size) { s with heap := s.heap.push (emptySet w) }) :
    codeAny (model prog w) A (.call (.builtin "set.__new__") ⟨[.type "set", x], []⟩) (wants Q E) s := by
  refine codeAny_of_tree ?_
  show wpAny _ A.in1 (checkBuiltinCall "set.__new__" ⟨[.type "set", x], []⟩ >>= fun _ => again (.builtin "set.__new__" ⟨[.type "set", x], []⟩)) _ _ s
  refine wpAny_bind (wpAny_of_eq (PySem.F.newCall_set_1 x) (wpAny_pure ⟨plainId_quiet PySem.F.plain_set_new _, codeAny_builtin PySem.F.entry_set_new ?_⟩))
  rw [Around.under_plainId PySem.F.plain_set_new _]
  unfold Builtin.«set.__new__» Builtin.Frozenset.newClass
  have f1 := sub_set_self
  obtain ⟨hp, g, d, tk, os⟩ := s
  dsimp only
  wp_walk
  refine wpAny_askSetting (wpAny_pure ?_)
  dsimp only
  simp only [newObj]
  refine wpAny_bind (wpAny_alloc (wpAny_pure ?_))
  exact wpAny_pure hq
theorem set_of_list {l : Addr} {its : List Value} {xs : List Str} {Q : Value → Shared → Prop} (hh : A.handled = none) (hl : s.heap.IsList l its.toArray) (hx : StrsAre its xs) (hb : xs.length + 1 < scanBound)
    (h : ∀ (h' : Heap) (tk : Nat), IsSet w h' s.heap.objs.size (dd xs) → (∀ b o, s.heap.get? b = some o → h'.get? b = some o) → Q (.ref s.heap.objs.size) { s with heap := h', toks := tk }) :
    wpAny (model prog w) A (call (.type "set") [.ref l]) Q E s := by
  obtain ⟨c, tl, g1⟩ := PySem.F.called_set.mro
  have g2 := PySem.F.called_set.made
  have g3 := PySem.F.called_set.sub
  refine wpAny_call (codeAny_of_tree ?_)
  show wpAny _ _ (callAny (.type "set") _) _ _ _
  refine wpAny_pure ⟨Code.quiet_builtin _ (by decide +kernel), codeAny_builtin PySem.F.entry_type_call ?_⟩
  rw [Around.under_plain (weight_type_call_type "set" [.ref l] []) rfl]
  have g4 := PySem.F.called_set.notType
  have g5 := PySem.F.called_set.canCreate
  have g6 := PySem.F.typeCall_set_1 (.ref l)
  repeat (any_goals (first | assumption | wp_step))
  refine codeAny_mono (set_made (.ref l) (E := E) (Q := fun obj s₁ => obj = .ref s.heap.objs.size ∧ s₁ = { s with heap := s.heap.push (emptySet w) }) ⟨rfl, rfl⟩) fun r s₁ hr => ?_
  cases r with
  | error e => exact hr
  | ok fl =>
    cases fl with
    | ret obj =>
      obtain ⟨rfl, rfl⟩ := hr
      have o1 : (s.heap.push (emptySet w)).get? s.heap.objs.size = some (emptySet w) := Heap.get?_push_size _ rfl
      have T1 : Shared.TypeIs { s with heap := s.heap.push (emptySet w) } (.ref s.heap.objs.size) "set" := ⟨_, o1, rfl⟩
      have g7 := PySem.F.called_set.init.lookup
      have g8 := PySem.F.called_set.init.bind (.ref s.heap.objs.size)
      repeat (any_goals (first | assumption | wp_step))
      refine codeAny_mono (codeAny_call_builtin (R := wants (fun r s₂ => r = .none ∧ ∃ h' tk, s₂ = { s with heap := h', toks := tk } ∧ IsSet w h' s.heap.objs.size (dd xs) ∧ (∀ b o, s.heap.get? b = some o → h'.get? b = some o)) E) PySem.F.called_set.init.plain PySem.F.entry_set_init (check_set_init_1 T1 ?_)) fun r₂ s₂ hr₂ => ?_
      · obtain ⟨ol, hol, hcl, nl, hdl⟩ := hl
        obtain ⟨ocls, odict, odata, oslots⟩ := ol
        simp only at hcl hdl
        subst hcl; subst hdl
        have hol' : (s.heap.push (emptySet w)).get? l = some { cls := .type "list", dict := odict, data := .seq its.toArray nl, slots := oslots } := Heap.get?_push_of_some _ hol
        have n1 := PySem.F.sub_list_set
        have n2 := PySem.F.sub_list_frozenset
        have n3 : (Value.type "list" == Value.type "dict") = false := by decide
        have l1 : (s.heap.push (emptySet w)).IsList l its.toArray := ⟨_, hol', rfl, nl, rfl⟩
        unfold Builtin.«set.__init__» noKeywords Builtin.Frozenset.updateFrom
        generalize hPI : pyIter = PI
        wp_walk
        subst hPI
        refine wpAny_pyIter_list l1 ?_
        refine wpAny_bind (wpAny_runValue ?_)
        have lt : l < s.heap.objs.size := Heap.lt_size hol
        have h3 : A.in1.in1.in1.handled = none := by simp [hh]
        have neI : l ≠ (s.heap.push (emptySet w)).objs.size := by rw [Heap.size_push]; exact Nat.ne_of_lt (Nat.lt_succ_of_lt lt)
        have nf : s.heap.objs.size ∉ [(s.heap.push (emptySet w)).objs.size, l] := by
          rw [Heap.size_push]
          simp only [List.mem_cons, List.not_mem_nil, or_false, not_or]
          exact ⟨Nat.ne_of_lt (Nat.lt_succ_self _), Nat.ne_of_gt lt⟩
        have hat : ∀ (i : Nat) (v : Value), its.toArray[i]? = some v → At xs i v := fun i v e => by
          have e' : its[i]? = some v := by simpa using e
          exact strs_get hx e'
        have hsz : its.toArray.size = xs.length := by rw [List.size_toArray]; exact strs_len hx
        have W0 := (Walks.list (prog := prog) (w := w) h3 (s.heap.push (emptySet w)).objs.size l neI its.toArray).imp hat
        rw [hsz] at W0
        refine upd_loop W0.toS s.heap.objs.size nf hb xs.length 0 _ [] (by lia) (Nat.zero_le _) ⟨⟨_, Heap.get?_push_size _ rfl, rfl, rfl⟩, (l1.push _)⟩ (isSet_new (Heap.get?_push_of_some _ o1)) (Nat.le_refl _) ?_
        intro s' hm hS'
        rw [List.drop_zero] at hS'
        rw [moved_is hm]
        show wpAny _ _ _ _ _ _
        refine wpAny_pure ?_
        show wpAny _ _ (ret Value.none) _ _ _
        refine wpAny_pure ⟨rfl, s'.heap, s'.toks, rfl, hS', fun b o e => ?_⟩
        have lb := Heap.lt_size e
        refine hm.heap b o (fun z => ?_) (Heap.get?_push_of_some _ (Heap.get?_push_of_some _ e))
        simp only [List.mem_cons, List.not_mem_nil, or_false] at z
        rcases z with z | z
        · exact absurd z (Nat.ne_of_lt lb)
        · rw [Heap.size_push] at z
          exact absurd z (Nat.ne_of_lt (Nat.lt_succ_of_lt lb))
      · cases r₂ with
        | error e => exact hr₂
        | ok fl₂ =>
          cases fl₂ with
          | ret r =>
            obtain ⟨rfl, h', tk, rfl, q1, q2⟩ := hr₂
            repeat (any_goals (first | assumption | wp_step))
            exact h _ _ q1 q2
          | _ => exact hr₂.elim
    | _ => exact hr.elim
end
end UfSet
end
/-! UfRules -/
section
set_option Elab.async false
set_option linter.all false
set_option maxRecDepth 100000
set_option maxHeartbeats 4000000
namespace L2
open PySem PySem.Spec PyProof.Rows UfSrt
section
variable {X : Cx} {pins : List (Addr × Obj)} {σ : St} {H : Hp} {s : Shared}
theorem Inv.draw (I : Inv X pins σ H s) (d : Drawn) : Inv X pins σ H { s with drawn := d } :=
  ⟨I.ok, I.os, I.bare, I.base, I.loc, I.cell, I.free, I.freeC, I.pin, I.hok, I.len⟩
def txs (ss : List Str) : List V := ss.map V.str
theorem strs_of : ∀ {ss : List Str} {us : List Value}, Vals (txs ss) us → StrsAre us ss
  | [], _, .nil => .nil
  | x :: ss, _, .cons r t => by
    obtain ⟨tk, rfl⟩ := r
    exact .cons x tk (strs_of t)
theorem of_strs : ∀ {ss : List Str} {us : List Value}, StrsAre us ss → Vals (txs ss) us
  | _, _, .nil => .nil
  | _, _, .cons x tk h => .cons ⟨tk, rfl⟩ (of_strs h)
theorem strs_length (ss : List Str) : (txs ss).length = ss.length := List.length_map _
def SetO (w : World) (a : Addr) (ks : List Str) : HO := .ext fun h => UfSet.IsSet w h a ks
theorem set_ok {P : Program} {w : World} {H' : Hp} {h : Heap} {a : Addr} {ks : List Str} (x : UfSet.IsSet w h a ks) : ObjOk P w H' h a (SetO w a ks) := by
  refine ⟨x, ?_, fun h1 h2 p k => p.keeps k⟩
  obtain ⟨o, _, _, _, _, e, _⟩ := x
  exact ⟨o, e⟩
theorem set_at {a : Addr} {ks : List Str} (I : Inv X pins σ H s) (e : H a = some (SetO X.w a ks)) : UfSet.IsSet X.w s.heap a ks := (I.hok a _ e).1
def rSetOf (K : PySem.W.Frag) (w : World) : List V → Hp → VK → Prop := fun xs H Q => ∃ l ss, xs = [.ref l] ∧ SqL K H l (txs ss) ∧ ss.length ≤ 1000 ∧ ∀ p, H p = none → Q (.ref p) (upd H p (SetO w p (UfSet.dd ss)))
theorem call_set (hc : X.calm = true) : CallR X (.type "set") (rSetOf X.K X.w) := by
  intro pins s σ H xs us Q I r h
  obtain ⟨l, ss, rfl, hl, hz, q⟩ := h
  obtain ⟨u, rfl, ru⟩ := vals1 r
  cases ru
  obtain ⟨its, rv, pl, _⟩ := I.list hl
  have hS := strs_of rv
  have hf : H s.heap.objs.size = none := I.hok.fresh (Nat.le_refl _)
  refine UfSet.set_of_list (I.ok.hd hc) pl.isList hS (by show ss.length + 1 < 4096; lia) fun h' tk hset hk => ?_
  exact ⟨.ref s.heap.objs.size, _, I.laid (t' := tk) hk (Nat.le_refl _) (set_ok hset), rfl, q _ hf⟩
theorem call_lenS : CallR X (.builtin "len") (fun xs H Q => ∃ a ks, xs = [V.ref a] ∧ H a = some (SetO X.w a ks) ∧ Q (.int ks.length) H) := by
  intro pins s σ H xs us Q I r h
  obtain ⟨a, ks, rfl, ha, q⟩ := h
  obtain ⟨u, rfl, ru⟩ := vals1 r
  cases ru
  obtain ⟨o, es, ep, t, ks', ho, hex, hd, he, hp, hn, hb, hf, _⟩ := set_at I ha
  have el : es.size = ks.length := by rw [← hp.length_eq, he.len]; simp
  have hb' : es.size < 4096 := hb
  refine call_len_set ho hex hd hf (by lia) ⟨.int ks.length, H, I.tok _, ⟨_, by rw [el]⟩, q⟩
theorem left_inv {h' : Heap} {tk : Nat} {d : Drawn} {D : Addr} {ss : List Str} (I : Inv X pins σ H s) (L : UfSort.Left s.heap h' D ss) (hz : ss.length ≤ 1000) : Inv X pins σ (upd H D (.lst (txs (srt ss)))) { s with heap := h', toks := tk, drawn := d } := by
  obtain ⟨vs, n, e, hS⟩ := L.at'
  have hl : (txs (srt ss)).length ≤ sizeLine := by
    rw [strs_length, srt_len, sizeLine_eq]
    lia
  exact (I.laid (o := .lst (txs (srt ss))) (t' := tk) L.keep L.new (show ObjOk X.prog X.w _ h' D (.lst (txs (srt ss))) from ⟨hl, vs, n, of_strs hS, e⟩)).draw d
def rSortL (K : PySem.W.Frag) : List V → Hp → VK → Prop := fun xs H Q => ∃ l ss, xs = [.ref l] ∧ SqL K H l (txs ss) ∧ ss.length < 64 ∧ ∀ p, H p = none → Q (.ref p) (upd H p (.lst (txs (srt ss))))
theorem call_sortL : CallR X (.builtin "sorted") (rSortL X.K) := by
  intro pins s σ H xs us Q I r h
  obtain ⟨l, ss, rfl, hl, hz, q⟩ := h
  obtain ⟨u, rfl, ru⟩ := vals1 r
  cases ru
  obtain ⟨its, rv, pl, _⟩ := I.list hl
  refine UfSort.sorted_list pl.isList (strs_of rv) hz fun h' tk d D L => ?_
  exact ⟨.ref D, _, left_inv I L (by lia), rfl, q _ (I.hok.fresh L.new)⟩
def rSortS (w : World) : List V → Hp → VK → Prop := fun xs H Q => ∃ a ks, xs = [.ref a] ∧ H a = some (SetO w a ks) ∧ ks.length < 64 ∧ ∀ p, H p = none → Q (.ref p) (upd H p (.lst (txs (srt ks))))
theorem call_sortS (hc : X.calm = true) : CallR X (.builtin "sorted") (rSortS X.w) := by
  intro pins s σ H xs us Q I r h
  obtain ⟨a, ks, rfl, ha, hz, q⟩ := h
  obtain ⟨u, rfl, ru⟩ := vals1 r
  cases ru
  refine UfSort.sorted_set (I.ok.hd hc) (set_at I ha) hz fun h' tk d D L => ?_
  exact ⟨.ref D, _, left_inv I L (by lia), rfl, q _ (I.hok.fresh L.new)⟩
theorem bl_get : ∀ {bs : List Bool} {us : List Value} {i : Nat} {v : Value}, Vals (bs.map V.bl) us → us[i]? = some v → v = .bool (bs.getD i true) ∧ i < bs.length
  | [], _, _, _, .nil, e => by simp at e
  | b :: bs, _, 0, v, .cons r t, e => by
    simp at e
    subst e
    exact ⟨r, by simp⟩
  | b :: bs, _, i + 1, v, .cons r t, e => by
    obtain ⟨h1, h2⟩ := bl_get (i := i) t (by simpa using e)
    exact ⟨by simpa using h1, by simpa using h2⟩
theorem all_range (bs : List Bool) : (List.range bs.length).all (fun i => bs.getD i true) = bs.all id := by
  induction bs with
  | nil => rfl
  | cons b bs ih =>
    rw [List.length_cons, List.range_succ_eq_map, List.all_cons, List.all_map, List.all_cons]
    have e : (List.range bs.length).all ((fun i => (b :: bs).getD i true) ∘ Nat.succ) = (List.range bs.length).all (fun i => bs.getD i true) := by
      congr 1
    rw [e, ih]
    rfl
theorem walk_bools {A : Around} {l : Addr} {bs : List Bool} {its : List Value} (hh : A.handled = none) (rv : Vals (bs.map V.bl) its) (I : Addr) (hne : l ≠ I) :
    Walks X.prog X.w A I [I, l] [I] bs.length (fun i v => v = .bool (bs.getD i true)) (fun i h => h.IsListIter I l i ∧ h.IsList l its.toArray) := by
  have el : its.toArray.size = bs.length := by
    have := rv.length
    rw [List.length_map] at this
    simp [this]
  have W := (Walks.list (prog := X.prog) (w := X.w) hh I l hne its.toArray).imp (P' := fun i v => v = .bool (bs.getD i true)) fun i v e => (bl_get rv (by simpa using e)).1
  rw [el] at W
  exact W
def rAll (K : PySem.W.Frag) : List V → Hp → VK → Prop := fun xs H Q => ∃ (l : Addr) (bs : List Bool), xs = [.ref l] ∧ SqL K H l (bs.map V.bl) ∧ Q (.bl (bs.all id)) H
def rAny (K : PySem.W.Frag) : List V → Hp → VK → Prop := fun xs H Q => ∃ (l : Addr) (bs : List Bool), xs = [.ref l] ∧ SqL K H l (bs.map V.bl) ∧ Q (.bl (bs.any id)) H
theorem call_all (hc : X.calm = true) : CallR X (.builtin "all") (rAll X.K) := by
  intro pins s σ H xs us Q I r h
  obtain ⟨l, bs, rfl, hl, q⟩ := h
  obtain ⟨u, rfl, ru⟩ := vals1 r
  cases ru
  obtain ⟨its, rv, pl, _⟩ := I.list hl
  have hh : X.A.in1.handled = none := I.ok.hd hc
  have lt : l < s.heap.objs.size := let ⟨o, _, e, _⟩ := pl; Heap.lt_size e
  refine call_all_walk (wpAny_pyIter_list pl.isList ⟨_, _, _, _, _, _, fun i => bs.getD i true, rfl, walk_bools hh rv _ (Nat.ne_of_lt lt), ⟨⟨_, Heap.get?_push_size _ rfl, rfl, rfl⟩, pl.isList.push _⟩, fun i v s Q E hv hQ => ?_, fun h' tk hk => ?_⟩)
  · subst hv
    exact wpAny_truthy_bool hQ
  · rw [all_range]
    refine ⟨.bl (bs.all id), H, I.kept (t' := tk) fun b o e => hk b o (fun z => ?_) (Heap.get?_push_of_some _ e), rfl, q⟩
    have z' : b = s.heap.objs.size := by simpa using z
    exact absurd (Heap.lt_size e) (by rw [z']; exact Nat.lt_irrefl _)
def sign (c : Nat) : V := .str ⟨#[c]⟩
def Its (x : Str) : It := ⟨fun i _ => i < x.cps.size, fun i H v H' => H' = H ∧ ∃ c, x.cps[i]? = some c ∧ v = sign c, fun i _ => i = x.cps.size⟩
end
theorem turn_str {P : Program} {w : World} {K : PySem.W.Frag} {tg : Expr} {x : Str} {it : Addr} {St : Nat → Heap → Prop} (W : ∀ A' : Around, A'.handled = none → Walks P w A' it [it] [it] x.cps.size (SignAt x) St)
    (ho : ∀ i h, St i h → ∃ o nm vs, h.get? it = some o ∧ o.cls = .type nm ∧ o.data = .fields vs ∧ ["enumerate", "zip", "dict_itemiterator", "dict_reverseitemiterator", "odict_iterator", "itertools.zip_longest", "itertools.pairwise"].contains nm = false)
    (hs : ∀ (A : Around) (i : Nat) (s : Shared) (Q : Value → Shared → Prop) (E : Value → Shared → Prop), St i s.heap → Q (.ref it) s → wpAny (model P w) A (pyIter (.ref it)) Q E s) : Turn P w K tg (Its x) [it] it St where
  mem := by simp
  obj := fun i h st b hb => by
    have e : b = it := by simpa using hb
    subst e
    obtain ⟨o, nm, vs, e, _, d, _⟩ := ho i h st
    exact ⟨o, e, fun v z => by rw [d] at z; cases z⟩
  keep := fun i h h' st k => (W ⟨none, 0, none, none, 1⟩ rfl).frame i h h' st fun b hb o e => k b hb o e
  item := by
    intro X hP hw hK hc i pins s σ H E I hf st hg
    subst hP hw hK
    obtain ⟨f0, f1, f2, f3, f4, f5⟩ := hf it (by simp)
    refine (W X.A (I.ok.hd hc)).item i s _ _ hg st fun v h' tk hP st' kk => ?_
    obtain ⟨c, u, hx, rfl⟩ := hP
    have I1 : Inv X pins σ H { s with heap := h', toks := tk } := I.turned (fun b o hb e => kk b o (by simpa using hb) e) f0 f1 f3 f4 f5
    obtain ⟨o, nm, vs, e, c1, d, hn⟩ := ho _ _ st'
    exact ⟨_, rfl, go_of (s := { s with heap := h', toks := tk }) e c1 d hn ⟨sign c, H, I1, ⟨u, rfl⟩, ⟨rfl, c, hx, rfl⟩, st', fun b hb => (hf b hb).1⟩⟩
  done := by
    intro X hP hw hK hc i pins s σ H E I hf st hg
    subst hP hw hK
    obtain ⟨f0, f1, f2, f3, f4, f5⟩ := hf it (by simp)
    have e : i = x.cps.size := hg
    subst e
    exact (W X.A (I.ok.hd hc)).done s _ _ st fun h' tk kk => ⟨rfl, I.turned (fun b o hb e => kk b o (by simpa using hb) e) f0 f1 f3 f4 f5⟩
  self := hs
section
variable {X : Cx} {tg : Expr}
def iStr (tl : TE) : TI := fun σ H R => tl σ H fun v H1 => ∃ x, v = .str x ∧ R (Its x) H1
theorem pi_str {l : Expr} {tl : TE} (hl : PE X l tl) : PI X tg l (iStr tl) := by
  intro pins s σ H R I h
  refine thn (hl pins s σ H _ I h) fun v s1 ⟨y, H1, I1, r1, q1⟩ => ?_
  obtain ⟨x, e, q⟩ := q1
  subst e
  obtain ⟨t, rfl⟩ := r1
  have fp : ∀ b ∈ [s1.heap.objs.size], FpOk X pins H1 b := fun b hb => by
    have e : b = s1.heap.objs.size := by simpa using hb
    subst e
    exact I1.fpOk (Nat.le_refl _) (I1.hok.fresh (Nat.le_refl _))
  cases ha : x.cps.all (· < 128) with
  | false =>
    refine wpAny_pyIter_wide ha ?_
    refine ⟨s1.heap.objs.size, [s1.heap.objs.size], fun i h => h.IsStrIter s1.heap.objs.size "str_iterator" x t i, Its x, H1, rfl, I1.kept (t' := s1.toks) fun b o e => Heap.get?_push_of_some _ e, turn_str (fun A' hA => Walks.strWide hA _ x t) (fun i h st => ?_) (fun A i s Q E st hq => wpAny_pyIter_striter_wide st hq), ⟨_, Heap.get?_push_size _ rfl, rfl, rfl⟩, fp, q⟩
    obtain ⟨o, e1, e2, e3⟩ := st
    exact ⟨o, _, _, e1, e2, e3, by decide⟩
  | true =>
    refine wpAny_pyIter_ascii ha ?_
    refine ⟨s1.heap.objs.size, [s1.heap.objs.size], fun i h => h.IsStrIter s1.heap.objs.size "str_ascii_iterator" x t i, Its x, H1, rfl, I1.kept (t' := s1.toks) fun b o e => Heap.get?_push_of_some _ e, turn_str (fun A' hA => Walks.strAscii hA _ x t) (fun i h st => ?_) (fun A i s Q E st hq => wpAny_pyIter_striter_ascii st hq), ⟨_, Heap.get?_push_size _ rfl, rfl, rfl⟩, fp, q⟩
    obtain ⟨o, e1, e2, e3⟩ := st
    exact ⟨o, _, _, e1, e2, e3, by decide⟩
end
section
variable {K : PySem.W.Frag} {n : Nat} {ci : List Nat} {g : TG} {tt : TT} {te : TE} {σ : St} {H : Hp} {D : Addr} {Q : VK}
theorem comp_list {a : Addr} {xs : List V} (Pv : Nat → List V → Hp → Prop) (h0 : Pv 0 [] (upd H D (.lst []))) (hl : ∀ i ys H, i ≤ xs.length → Pv i ys H → SqL K H a xs)
    (hs : ∀ i x ys H, xs[i]? = some x → Pv i ys H → g x (blk n ci σ) H fun σ2 H2 => tt σ2 H2 fun b H3 => if b = true then te σ2 H3 fun y H4 => H4 D = some (.lst ys) ∧ ys.length < sizeLine ∧ Pv (i + 1) (ys ++ [y]) (upd H4 D (.lst (ys ++ [y]))) else Pv (i + 1) ys H3)
    (hd : ∀ ys H, Pv xs.length ys H → Q (.ref D) H) :
    CompG n ci (Itl K a) g tt te σ H D Q := by
  unfold CompG
  refine ⟨xs.length, Pv, h0, fun i ys H hi p => ?_⟩
  have q := hl i ys H hi p
  by_cases hlt : i < xs.length
  · refine .inr ⟨hlt, ⟨xs, xs[i], q, by simp [hlt]⟩, fun x H' y => ?_⟩
    obtain ⟨e, y⟩ := y
    subst e
    exact hs i x ys _ (y xs q) p
  · have e : i = xs.length := by lia
    subst e
    exact .inl ⟨⟨xs, q, Nat.le_refl _⟩, hd ys H p⟩
theorem comp_str {x : Str} (Pv : Nat → List V → Hp → Prop) (h0 : Pv 0 [] (upd H D (.lst [])))
    (hs : ∀ i c ys H, x.cps[i]? = some c → Pv i ys H → g (sign c) (blk n ci σ) H fun σ2 H2 => tt σ2 H2 fun b H3 => if b = true then te σ2 H3 fun y H4 => H4 D = some (.lst ys) ∧ ys.length < sizeLine ∧ Pv (i + 1) (ys ++ [y]) (upd H4 D (.lst (ys ++ [y]))) else Pv (i + 1) ys H3)
    (hd : ∀ ys H, Pv x.cps.size ys H → Q (.ref D) H) :
    CompG n ci (Its x) g tt te σ H D Q := by
  unfold CompG
  refine ⟨x.cps.size, Pv, h0, fun i ys H hi p => ?_⟩
  by_cases hlt : i < x.cps.size
  · refine .inr ⟨hlt, hlt, fun v H' y => ?_⟩
    obtain ⟨e, c, hc, rfl⟩ := y
    subst e
    exact hs i c ys _ hc p
  · have e : i = x.cps.size := by lia
    subst e
    exact .inl ⟨rfl, hd ys H p⟩
end
end L2
end
/-! UfNet1 -/
section
set_option Elab.async false
set_option linter.all false
set_option maxRecDepth 100000
set_option maxHeartbeats 4000000
namespace Uf
open PySem L2 UfSrt
def top (i : Nat) : Stmt := PySem.Challenge.pw_unfoldnet_k16_texts_refused.main.body.getD i (.Pass ⟨0, 0, 0, 0⟩)
abbrev sIsName : Stmt := top 17
abbrev sUnlike : Stmt := top 24
abbrev sIsMove : Stmt := top 25
abbrev sPlaces : Stmt := top 26
abbrev sMakes : Stmt := top 27
theorem b_all : bootBuiltins "all" = some (.builtin "all") := by decide +kernel
theorem b_len : bootBuiltins "len" = some (.builtin "len") := by decide +kernel
theorem b_set : bootBuiltins "set" = some (.type "set") := by decide +kernel
theorem b_list : bootBuiltins "list" = some (.type "list") := by decide +kernel
theorem b_tuple : bootBuiltins "tuple" = some (.type "tuple") := by decide +kernel
theorem b_str : bootBuiltins "str" = some (.type "str") := by decide +kernel
theorem b_sorted : bootBuiltins "sorted" = some (.builtin "sorted") := by decide +kernel
theorem b_isi : bootBuiltins "isinstance" = some (.builtin "isinstance") := by decide +kernel
def abc : Str := "abcdefghijklmnopqrstuvwxyz"
def isNm (x : Str) : Bool := decide (1 ≤ x.length) && (decide (x.length ≤ 8) && x.cps.toList.all fun c => decide (c ∈ abc.cps.toList))
structure Txt (K : PySem.W.Frag) (mg : Str → Option Value) : Prop where
  all : mg "all" = none
  len : mg "len" = none
  set : mg "set" = none
  lst : mg "list" = none
  tup : mg "tuple" = none
  str : mg "str" = none
  srt : mg "sorted" = none
  isi : mg "isinstance" = none
  letters : ∃ tk, mg "LETTERS" = some (.str abc tk)
  longest : ∃ tk, mg "LONGEST_NAME" = some (.int 8 tk)
  mostP : ∃ tk, mg "MOST_PLACES" = some (.int 12 tk)
  mostM : ∃ tk, mg "MOST_MOVES" = some (.int 12 tk)
  leastT : ∃ tk, mg "LEAST_TAKEN" = some (.int 1 tk)
  mostT : ∃ tk, mg "MOST_TAKEN" = some (.int 4 tk)
  mostG : ∃ tk, mg "MOST_GIVEN" = some (.int 4 tk)
theorem same_new {H : Hp} {D : Addr} {o : HO} (h : H D = none) : Same H (upd H D o) := fun b u e => by
  rw [upd_ne (ne_of_none e h)]
  exact e
theorem same_upd {H H2 : Hp} {D : Addr} {o : HO} (s : Same H H2) (h : H D = none) : Same H (upd H2 D o) := fun b u e => by
  rw [upd_ne (ne_of_none e h)]
  exact s b u e
theorem take_succ_at {α : Type} {l : List α} {i : Nat} {a : α} (h : l[i]? = some a) : l.take (i + 1) = l.take i ++ [a] := by
  rw [List.take_add_one, h]
  rfl
theorem nd_of {X : Cx} {N : List Str} (h : N.Nodup) (e : X.N = N := by rfl) : X.N.Nodup := by rw [e]; exact h
section
variable {X : Cx}
theorem call_isi : CallR X (.builtin "isinstance") (fun xs H Q => ∃ x c t b, xs = [x, .ty c] ∧ TyOf X.K H x t ∧ PySem.W.kitOne X.K t (.type c) = some b ∧ Q (.bl b) H) := by
  intro pins s σ H xs us Q I r h
  obtain ⟨x, c, t, b, rfl, ty, e, q⟩ := h
  obtain ⟨u, v, rfl, ru, rv⟩ := vals2 r
  cases rv
  exact isinst_ok I ru ty e fun tk => ⟨.bl b, H, I.tok tk, rfl, q⟩
end
section
variable {P : Program} {w : World} {K : PySem.W.Frag} {mg : Str → Option Value} {base : Heap}
def spIsName : Sp := fun vs H Q _ => ∃ x : Str, vs = [.str x] ∧ x.length ≤ 1000 ∧ ∀ H', Same H H' → Q (.bl (isNm x)) H'
theorem scIsName : FnScope ["thing"] ["thing"] (defScope sIsName) := ⟨rfl, rfl, rfl, by decide +kernel, rfl, by decide +kernel, by decide +kernel⟩
def compScope (e : Expr) : Scope := match e with
  | .ListComp _ _ sc _ => sc
  | _ => { kind := .function, names := [], isGenerator := false, isCoroutine := false }
theorem ok_isName {f : Addr} {fd : FuncData} (F : Fun K "is_name" "is_name" sIsName f fd) (T : Txt K mg) : FnOk P w K mg base CX0 1 f fd ["thing"] spIsName := by
  refine F.ok scIsName (fun vs H Q E h => ?_) (fun cdv A outer s H vs Q E hr h => ?_)
  · obtain ⟨x, rfl, _⟩ := h
    rfl
  · obtain ⟨x, rfl, hz, k⟩ := h
    obtain ⟨tl, hl⟩ := T.letters
    obtain ⟨tn, hn⟩ := T.longest
    refine ⟨_, pss_cons (ps_if (PW.pt (pw_or (pt_not (pt_val (pe_callB call_isi rfl T.isi b_isi (pa_cons (pv 0) (pa_cons (pe_bltn (v := .ty "str") rfl T.str b_str rfl) pa_nil)))))
        (pw_or1 (pt_not (pt_chain op_le op_le pe_int (pe_callB call_len rfl T.len b_len (pa_cons (pv 0) pa_nil)) (pe_glob (v := .int 8) rfl hn ⟨tn, rfl⟩))))))
        (pss_one (ps_ret pe_bl)) pss_nil)
      (pss_one (ps_ret (pe_callB (call_all rfl) rfl T.all b_all (pa_cons (pe_comp (N := ["sign"]) (n := 1) (ci := []) rfl (pi_str (pv 0)) (CSc.of (so := defScope sIsName) (N0 := ["thing"]) ⟨rfl, by decide +kernel, by decide +kernel, by decide +kernel, rfl, rfl, by decide +kernel, by decide +kernel⟩)
        (fun z => ⟨pg_name (i := 0) (nd_of (N := ["sign"]) (by decide +kernel)) rfl (Or.inl rfl), pts_nil, pe_cmpR op_in_str (pv 0) (pe_glob (v := .str abc) rfl hl ⟨tl, rfl⟩) (by with_unfolding_all rfl)⟩)) pa_nil)))), ?_⟩
    refine ⟨_, rfl, _, "str", _, true, rfl, TyOf.str x, (by rfl), true, rfl, ?_⟩
    refine iteF ?_
    have hs : x.length ≤ sizeLine := by rw [sizeLine_eq]; lia
    refine ⟨_, rfl, _, x.length, rfl, ⟨hs, rfl⟩, 1, _, rfl, rfl, _, rfl, ?_⟩
    by_cases h1 : 1 ≤ x.length
    · rw [decide_eq_true (show (1 : Int) ≤ (x.length : Int) by lia)]
      refine iteT ?_
      refine ⟨_, _, rfl, rfl, _, rfl, ?_⟩
      by_cases h8 : x.length ≤ 8
      · rw [decide_eq_true (show (x.length : Int) ≤ 8 by lia)]
        refine iteF ?_
        refine ⟨_, rfl, x, rfl, fun z D hD => comp_str (fun i ys H2 => ys = (x.cps.toList.take i).map (fun c => V.bl (decide (c ∈ abc.cps.toList))) ∧ H2 D = some (.lst ys) ∧ Same H H2) ⟨rfl, upd_same, same_new hD⟩ ?_ ?_⟩
        · rintro i c ys H2 hc ⟨rfl, hys, sm⟩
          refine ⟨_, rfl, ⟨#[c]⟩, abc, rfl, rfl, hys, ?_, ?_, upd_same, same_upd sm hD⟩
          · rw [List.length_map, List.length_take, Array.length_toList]
            have : x.cps.size ≤ 8 := h8
            rw [sizeLine_eq]
            lia
          · rw [take_succ_at (by rw [Array.getElem?_toList]; exact hc), List.map_append, PySem.StrLaws.found_one]
            rfl
        · rintro ys H2 ⟨rfl, hys, sm⟩
          refine ⟨D, x.cps.toList.map fun c => decide (c ∈ abc.cps.toList), rfl, SqL.of ?_, ?_⟩
          · rw [hys]
            rw [List.take_of_length_le (by simp), List.map_map]
            rfl
          · have e : isNm x = (x.cps.toList.map fun c => decide (c ∈ abc.cps.toList)).all id := by
              unfold isNm
              rw [decide_eq_true h1, decide_eq_true h8, List.all_map]
              rfl
            rw [← e]
            exact k H2 sm
      · rw [decide_eq_false (show ¬ (x.length : Int) ≤ 8 by lia)]
        refine iteT ?_
        have e : isNm x = false := by unfold isNm; rw [decide_eq_false h8]; simp
        rw [← e]
        exact k H (Same.refl H)
    · rw [decide_eq_false (show ¬ (1 : Int) ≤ (x.length : Int) by lia)]
      refine iteF ⟨_, rfl, ?_⟩
      refine iteT ?_
      have e : isNm x = false := by unfold isNm; rw [decide_eq_false h1]; simp
      rw [← e]
      exact k H (Same.refl H)
end
end Uf
end
/-! UfNet2 -/
section
set_option Elab.async false
set_option linter.all false
set_option maxRecDepth 100000
set_option maxHeartbeats 4000000
namespace Uf
open PySem L2 UfSrt
structure Def (K : PySem.W.Frag) (mg : Str → Option Value) (x : Str) (st : Stmt) (ps : List Str) (f : Addr) (fd : FuncData) : Prop where
  fn : Fun K x x st f fd
  mg : mg x = some (.ref f)
  bd : Binds K fd ps []
def unlike (xs : List Str) : Bool := xs.all isNm && decide xs.Nodup
def Short (xs : List Str) : Prop := xs.length ≤ 200 ∧ ∀ x ∈ xs, x.length ≤ 1000
theorem txs_get {xs : List Str} {i : Nat} {v : V} (h : (txs xs)[i]? = some v) : ∃ x, xs[i]? = some x ∧ v = .str x := by
  unfold txs at h
  rw [List.getElem?_map] at h
  cases e : xs[i]? with
  | none => rw [e] at h; cases h
  | some x => rw [e] at h; exact ⟨x, rfl, (Option.some.inj h).symm⟩
section
variable {P : Program} {w : World} {K : PySem.W.Frag} {mg : Str → Option Value} {base : Heap}
def spUnlike (K : PySem.W.Frag) : Sp := fun vs H Q _ => ∃ (a : Addr) (xs : List Str), vs = [.ref a] ∧ SqL K H a (txs xs) ∧ Short xs ∧ ∀ H', Same H H' → Q (.bl (unlike xs)) H'
theorem scUnlike : FnScope ["things"] ["things"] (defScope sUnlike) := ⟨rfl, rfl, rfl, by decide +kernel, rfl, by decide +kernel, by decide +kernel⟩
theorem ok_unlike {f fN : Addr} {fd fdN : FuncData} (F : Fun K "are_unlike_names" "are_unlike_names" sUnlike f fd) (T : Txt K mg) (DN : Def K mg "is_name" sIsName ["thing"] fN fdN) : FnOk P w K mg base CX0 2 f fd ["things"] (spUnlike K) := by
  have GN : FnOk P w K mg base CX0 1 fN fdN ["thing"] spIsName := ok_isName DN.fn T
  refine F.ok scUnlike (fun vs H Q E h => ?_) (fun cdv A outer s H vs Q E hr h => ?_)
  · obtain ⟨a, xs, rfl, _⟩ := h
    rfl
  · obtain ⟨a, xs, rfl, ha, hz, k⟩ := h
    refine ⟨_, pss_one (ps_ret (pe_and (pe_callB (call_all rfl) rfl T.all b_all (pa_cons (pe_comp (N := ["thing"]) (n := 1) (ci := []) rfl (pi_list (pv 0)) (CSc.of (so := defScope sUnlike) (N0 := ["things"]) ⟨rfl, by decide +kernel, by decide +kernel, by decide +kernel, rfl, rfl, by decide +kernel, by decide +kernel⟩)
        (fun z => ⟨pg_name (i := 0) (nd_of (N := ["thing"]) (by decide +kernel)) rfl (Or.inl rfl), pts_nil, pe_call GN hr rfl DN.mg DN.fn.kp DN.bd .nil pass0 (pa_cons (pv 0) pa_nil)⟩)) pa_nil))
      (pe_one (pe_cmpR op_eq (pe_callB call_lenS rfl T.len b_len (pa_cons (pe_callTy (call_set rfl) rfl T.set b_set (pa_cons (pv 0) pa_nil)) pa_nil)) (pe_callB call_len rfl T.len b_len (pa_cons (pv 0) pa_nil)) (nomark _))))), ?_⟩
    refine ⟨_, rfl, a, rfl, ⟨_, ha⟩, fun z D hD => comp_list (a := a) (xs := txs xs) (fun i ys H2 => ys = (xs.take i).map (fun x => V.bl (isNm x)) ∧ H2 D = some (.lst ys) ∧ Same H H2) ⟨rfl, upd_same, same_new hD⟩ (fun i ys H2 _ p => p.2.2.seq ha) ?_ ?_⟩
    · rintro i v ys H2 hi ⟨rfl, hys, sm⟩
      obtain ⟨x, hx, rfl⟩ := txs_get hi
      refine ⟨_, rfl, x, rfl, hz.2 x (List.mem_of_getElem? hx), fun H3 s3 => ⟨s3 _ _ hys, ?_, ?_, upd_same, same_upd (sm.trans s3) hD⟩⟩
      · rw [List.length_map, List.length_take, sizeLine_eq]
        have := hz.1
        lia
      · rw [take_succ_at hx, List.map_append]
        rfl
    · rintro ys H2 ⟨rfl, hys, sm⟩
      have hl : (txs xs).length = xs.length := strs_length xs
      rw [hl, List.take_length] at hys
      refine ⟨D, xs.map isNm, rfl, SqL.of (by rw [hys, List.map_map]; rfl), _, rfl, ?_⟩
      have ea : (xs.map isNm).all id = xs.all isNm := by rw [List.all_map]; rfl
      rw [ea]
      cases hn : xs.all isNm with
      | false =>
        refine iteF ?_
        have e : unlike xs = false := by unfold unlike; rw [hn]; rfl
        rw [← e]
        exact k H2 sm
      | true =>
        refine iteT ?_
        refine ⟨_, rfl, a, xs, rfl, sm.seq ha, by have := hz.1; lia, fun p hp => ⟨p, _, rfl, upd_same, ?_⟩⟩
        have sm2 : Same H (upd H2 p (SetO w p (UfSet.dd xs))) := same_upd sm (sm.free hp)
        refine ⟨_, rfl, _, xs.length, rfl, .inl ⟨_, sm2.seq ha, hl.symm⟩, rfl, ?_⟩
        have e : unlike xs = decide (V.int (((UfSet.dd xs).length : Nat) : Int) = V.int ((xs.length : Nat) : Int)) := by
          unfold unlike
          rw [hn, Bool.true_and]
          refine decide_eq_decide.mpr ?_
          rw [← UfSet.dd_len_iff]
          constructor
          · intro h; rw [h]
          · intro h; injection h with h; lia
        rw [← e]
        exact k _ sm2
def isMv (tk gv : List Str) : Bool := unlike tk && (unlike gv && (decide (1 ≤ tk.length) && (decide (tk.length ≤ 4) && decide (gv.length ≤ 4))))
def spIsMove (K : PySem.W.Frag) : Sp := fun vs H Q _ => ∃ (a b : Addr) (tk gv : List Str), vs = [.ref a, .ref b] ∧ SqL K H a (txs tk) ∧ SqL K H b (txs gv) ∧ Short tk ∧ Short gv ∧ ∀ H', Same H H' → Q (.bl (isMv tk gv)) H'
theorem scIsMove : FnScope ["taken", "given"] ["taken", "given"] (defScope sIsMove) := ⟨rfl, rfl, rfl, by decide +kernel, rfl, by decide +kernel, by decide +kernel⟩
theorem ok_isMove {f fN fU : Addr} {fd fdN fdU : FuncData} (F : Fun K "is_move" "is_move" sIsMove f fd) (T : Txt K mg) (DN : Def K mg "is_name" sIsName ["thing"] fN fdN) (DU : Def K mg "are_unlike_names" sUnlike ["things"] fU fdU) : FnOk P w K mg base CX0 3 f fd ["taken", "given"] (spIsMove K) := by
  have GU : FnOk P w K mg base CX0 2 fU fdU ["things"] (spUnlike K) := ok_unlike DU.fn T DN
  refine F.ok scIsMove (fun vs H Q E h => ?_) (fun cdv A outer s H vs Q E hr h => ?_)
  · obtain ⟨a, b, tk, gv, rfl, _⟩ := h
    rfl
  · obtain ⟨a, b, tk, gv, rfl, ha, hb, za, zb, k⟩ := h
    obtain ⟨t1, h1⟩ := T.leastT
    obtain ⟨t2, h2⟩ := T.mostT
    obtain ⟨t3, h3⟩ := T.mostG
    refine ⟨_, pss_cons (ps_if (PW.pt (pw_or (pt_not (pt_val (pe_call GU hr rfl DU.mg DU.fn.kp DU.bd .nil pass0 (pa_cons (pv 0) pa_nil)))) (pw_or1 (pt_not (pt_val (pe_call GU hr rfl DU.mg DU.fn.kp DU.bd .nil pass0 (pa_cons (pv 1) pa_nil))))))) (pss_one (ps_ret pe_bl)) pss_nil)
      (pss_one (ps_ret (pe_and (pe_chain op_le op_le (pe_glob (v := .int 1) rfl h1 ⟨t1, rfl⟩) (pe_callB call_len rfl T.len b_len (pa_cons (pv 0) pa_nil)) (pe_glob (v := .int 4) rfl h2 ⟨t2, rfl⟩))
        (pe_one (pe_cmpR op_le (pe_callB call_len rfl T.len b_len (pa_cons (pv 1) pa_nil)) (pe_glob (v := .int 4) rfl h3 ⟨t3, rfl⟩) (nomark _)))))), ?_⟩
    have no : ∀ H', Same H H' → isMv tk gv = false → Q (.bl false) H' := fun H' sm e => by rw [← e]; exact k H' sm
    refine ⟨_, rfl, a, tk, rfl, ha, za, fun H1 s1 => ⟨_, rfl, ?_⟩⟩
    cases u1 : unlike tk with
    | false =>
      refine iteT ?_
      refine iteT ?_
      exact no H1 s1 (by unfold isMv; rw [u1]; rfl)
    | true =>
      refine iteF ?_
      refine ⟨_, rfl, b, gv, rfl, s1.seq hb, zb, fun H2 s2 => ⟨_, rfl, ?_⟩⟩
      have sm : Same H H2 := s1.trans s2
      cases u2 : unlike gv with
      | false =>
        refine iteT ?_
        exact no H2 sm (by unfold isMv; rw [u1, u2]; rfl)
      | true =>
        refine iteF ?_
        refine ⟨_, rfl, _, tk.length, rfl, .inl ⟨_, sm.seq ha, (strs_length tk).symm⟩, 1, _, rfl, rfl, _, rfl, ?_⟩
        by_cases c1 : 1 ≤ tk.length
        · rw [decide_eq_true (show (1 : Int) ≤ (tk.length : Int) by lia)]
          refine iteT ?_
          refine ⟨_, _, rfl, rfl, _, rfl, ?_⟩
          by_cases c2 : tk.length ≤ 4
          · rw [decide_eq_true (show (tk.length : Int) ≤ 4 by lia)]
            refine iteT ?_
            refine ⟨_, rfl, _, gv.length, rfl, .inl ⟨_, sm.seq hb, (strs_length gv).symm⟩, _, _, rfl, rfl, ?_⟩
            have e : isMv tk gv = decide ((gv.length : Int) ≤ 4) := by
              unfold isMv
              rw [u1, u2, decide_eq_true c1, decide_eq_true c2]
              simp only [Bool.true_and]
              exact decide_eq_decide.mpr (by lia)
            show Q (V.bl (decide ((gv.length : Int) ≤ 4))) H2
            rw [← e]
            exact k H2 sm
          · rw [decide_eq_false (show ¬ (tk.length : Int) ≤ 4 by lia)]
            refine iteF ?_
            exact no H2 sm (by unfold isMv; rw [u1, u2, decide_eq_false c2]; simp)
        · rw [decide_eq_false (show ¬ (1 : Int) ≤ (tk.length : Int) by lia)]
          refine iteF ⟨_, rfl, ?_⟩
          refine iteF ?_
          exact no H2 sm (by unfold isMv; rw [u1, u2, decide_eq_false c1]; simp)
end
end Uf
end
/-! UfNet3 -/
section
set_option Elab.async false
set_option linter.all false
set_option maxRecDepth 100000
set_option maxHeartbeats 4000000
namespace Uf
open PySem L2 UfSrt
abbrev Mv := Str × List Str × List Str
def MvAt (H : Hp) (m : Mv) (q : Addr) : Prop := ∃ l g, H q = some (.tup [.str m.1, .ref l, .ref g]) ∧ H l = some (.lst (txs m.2.1)) ∧ H g = some (.lst (txs m.2.2))
theorem MvAt.same {H H' : Hp} {m : Mv} {q : Addr} (s : Same H H') (h : MvAt H m q) : MvAt H' m q := by
  obtain ⟨l, g, h1, h2, h3⟩ := h
  exact ⟨l, g, s _ _ h1, s _ _ h2, s _ _ h3⟩
def MvsAt (K : PySem.W.Frag) (H : Hp) (a : Addr) (ms : List Mv) : Prop := ∃ qs : List Addr, SqL K H a (qs.map V.ref) ∧ Paired (MvAt H) ms qs
theorem MvsAt.same {K : PySem.W.Frag} {H H' : Hp} {a : Addr} {ms : List Mv} (s : Same H H') (h : MvsAt K H a ms) : MvsAt K H' a ms := by
  obtain ⟨qs, h1, h2⟩ := h
  exact ⟨qs, s.seq h1, Paired.mapP h2 fun _ _ => MvAt.same s⟩
theorem paired_get {α β : Type} {F : α → β → Prop} : ∀ {l : List α} {m : List β} {i : Nat} {b : β}, Paired F l m → m[i]? = some b → ∃ a, l[i]? = some a ∧ F a b
  | _, _, _, _, .nil, e => by simp at e
  | _, _, 0, _, .cons r _, e => by
    simp at e
    subst e
    exact ⟨_, rfl, r⟩
  | _, _, i + 1, _, .cons _ t, e => by
    obtain ⟨a, h1, h2⟩ := paired_get (i := i) t (by simpa using e)
    exact ⟨a, by simpa using h1, h2⟩
theorem refs_get {qs : List Addr} {i : Nat} {v : V} (h : (qs.map V.ref)[i]? = some v) : ∃ q, qs[i]? = some q ∧ v = .ref q := by
  rw [List.getElem?_map] at h
  cases e : qs[i]? with
  | none => rw [e] at h; cases h
  | some x => rw [e] at h; exact ⟨x, rfl, (Option.some.inj h).symm⟩
def pls (ms : List Mv) : List Str := ms.flatMap fun m => m.2.1 ++ m.2.2
def plcs (ms : List Mv) (st : List Str) : List Str := srt (UfSet.dd (st ++ pls ms))
section
variable {P : Program} {w : World} {K : PySem.W.Frag} {mg : Str → Option Value} {base : Heap}
def spPlaces (K : PySem.W.Frag) : Sp := fun vs H Q _ => ∃ (a b : Addr) (ms : List Mv) (st : List Str), vs = [.ref a, .ref b] ∧ MvsAt K H a ms ∧ SqL K H b (txs st) ∧ (st ++ pls ms).length ≤ 1000 ∧ (UfSet.dd (st ++ pls ms)).length < 64 ∧
  ∀ H' p, Same H H' → H p = none → H' p = some (.lst (txs (plcs ms st))) → Q (.ref p) H'
theorem scPlaces : FnScope ["moves", "start", "places", "name", "taken", "given"] ["moves", "start"] (defScope sPlaces) := ⟨rfl, rfl, rfl, by decide +kernel, rfl, by decide +kernel, by decide +kernel⟩
theorem ok_places {f : Addr} {fd : FuncData} (F : Fun K "places_of" "places_of" sPlaces f fd) (T : Txt K mg) : FnOk P w K mg base CX0 1 f fd ["moves", "start"] (spPlaces K) := by
  refine F.ok scPlaces (fun vs H Q E h => ?_) (fun cdv A outer s H vs Q E hr h => ?_)
  · obtain ⟨a, b, ms, st, rfl, _⟩ := h
    rfl
  · obtain ⟨a, b, ms, st, rfl, ha, hb, hz, h64, k⟩ := h
    obtain ⟨qs, hq, hp⟩ := id ha
    refine ⟨_, pss_cons (ps_set (i := 2) scPlaces.nd rfl (Or.inl rfl) (pe_callTy call_list_of rfl T.lst b_list (pa_cons (pv 1) pa_nil)))
      (pss_cons (ps_for PassesOwn.never rfl (pi_list (pv 0)) (pg_tup rfl (pgs_cons (pg_name (i := 3) scPlaces.nd rfl (Or.inl rfl)) (pgs_cons (pg_name (i := 4) scPlaces.nd rfl (Or.inl rfl)) (pgs_cons (pg_name (i := 5) scPlaces.nd rfl (Or.inl rfl)) pgs_nil))))
        (pss_one (ps_set (i := 2) scPlaces.nd rfl (Or.inl rfl) (pe_op op_cat (pe_op op_cat (pv 2) (pe_callTy call_list_of rfl T.lst b_list (pa_cons (pv 4) pa_nil))) (pe_callTy call_list_of rfl T.lst b_list (pa_cons (pv 5) pa_nil))))))
      (pss_one (ps_ret (pe_callB (call_sortS rfl) rfl T.srt b_sorted (pa_cons (pe_callTy (call_set rfl) rfl T.set b_set (pa_cons (pv 2) pa_nil)) pa_nil))))), ?_⟩
    refine ⟨_, rfl, b, txs st, rfl, .inl hb, fun p0 n0 => ?_⟩
    have s0 : Same H (upd H p0 (.lst (txs st))) := same_new n0
    refine ⟨_, rfl, a, rfl, ⟨_, s0.seq hq⟩, for_list (K := K) (a := a) (xs := qs.map V.ref) (fun i σ H2 => ∃ (p : Addr) (v3 v4 v5 : Option V), σ = [some (.ref a), some (.ref b), some (.ref p), v3, v4, v5] ∧ Same H H2 ∧ H p = none ∧ H2 p = some (.lst (txs (st ++ pls (ms.take i)))))
      ⟨p0, none, none, none, rfl, s0, n0, by rw [upd_same]; simp [pls]⟩ (fun i σ H2 _ ⟨_, _, _, _, _, sm, _⟩ => sm.seq hq) ?_ ?_⟩
    · rintro i v σ H2 hi ⟨p, v3, v4, v5, rfl, sm, np, hp2⟩
      obtain ⟨q, hqi, rfl⟩ := refs_get hi
      obtain ⟨m, hm, hmv⟩ := paired_get hp hqi
      obtain ⟨l, g, e1, e2, e3⟩ := hmv.same sm
      have etk : pls (ms.take (i + 1)) = pls (ms.take i) ++ (m.2.1 ++ m.2.2) := by
        unfold pls
        rw [take_succ_at hm, List.flatMap_append]
        simp
      have hle : (st ++ pls (ms.take (i + 1))).length ≤ 1000 := by
        refine Nat.le_trans ?_ hz
        have e : pls ms = pls (ms.take (i + 1)) ++ pls (ms.drop (i + 1)) := by
          unfold pls
          rw [← List.flatMap_append, List.take_append_drop]
        rw [e, List.length_append, List.length_append, List.length_append]
        lia
      rw [etk] at hle
      simp only [List.length_append] at hle
      have hsl := PySem.sizeLine_eq
      refine ⟨q, _, rfl, SqT.of e1, rfl, _, _, rfl, _, _, rfl, _, _, rfl, rfl, ?_⟩
      refine ⟨_, rfl, _, rfl, l, txs m.2.1, rfl, .inl (SqL.of e2), fun l1 n1 => ⟨p, l1, _, _, rfl, rfl, (by rw [upd_ne (ne_of_none hp2 n1)]; exact hp2), upd_same, ?_, fun p1 m1 => ?_⟩⟩
      · rw [strs_length, strs_length, List.length_append]
        lia
      have s1 : Same H2 (upd (upd H2 l1 (.lst (txs m.2.1))) p1 (.lst (txs (st ++ pls (ms.take i)) ++ txs m.2.1))) := (same_new n1).trans (same_new m1)
      refine ⟨_, rfl, g, txs m.2.2, rfl, .inl (SqL.of (s1 _ _ e3)), fun l2 n2 => ⟨p1, l2, _, _, rfl, rfl, (by rw [upd_ne (ne_of_none upd_same n2)]; exact upd_same), upd_same, ?_, fun p2 m2 => ?_⟩⟩
      · rw [List.length_append, strs_length, strs_length, strs_length, List.length_append]
        lia
      have s2 := s1.trans ((same_new (o := .lst (txs m.2.2)) n2).trans (same_new (o := .lst ((txs (st ++ pls (ms.take i)) ++ txs m.2.1) ++ txs m.2.2)) m2))
      refine ⟨p2, _, _, _, rfl, sm.trans s2, ?_, ?_⟩
      · exact (sm.trans (s1.trans (same_new (o := .lst (txs m.2.2)) n2))).free m2
      · rw [upd_same, etk]
        unfold txs
        simp [List.map_append]
    · rintro σ H2 ⟨p, v3, v4, v5, rfl, sm, np, hp2⟩
      have el : (qs.map V.ref).length = ms.length := by rw [List.length_map, ← Paired.length hp]
      rw [el, List.take_length] at hp2
      refine ⟨_, rfl, p, st ++ pls ms, rfl, SqL.of hp2, hz, fun p1 n1 => ⟨p1, _, rfl, upd_same, h64, fun p2 n2 => ?_⟩⟩
      have s1 := (same_new (o := SetO w p1 (UfSet.dd (st ++ pls ms))) n1).trans (same_new (o := .lst (txs (srt (UfSet.dd (st ++ pls ms))))) n2)
      exact k _ p2 (sm.trans s1) ((sm.trans (same_new (o := SetO w p1 (UfSet.dd (st ++ pls ms))) n1)).free n2) upd_same
end
end Uf
end
/-! UfNet4 -/
section
set_option Elab.async false
set_option linter.all false
set_option maxRecDepth 100000
set_option maxHeartbeats 4000000
namespace Uf
open PySem L2 UfSrt
def names (ms : List Mv) : List Str := ms.map (·.1)
def mkNet (ms : List Mv) (st : List Str) : Bool := decide (ms.length ≤ 12) && (unlike (names ms) && ((ms.all fun m => isMv m.2.1 m.2.2) && (unlike st && decide ((plcs ms st).length ≤ 12))))
structure Fits (ms : List Mv) (st : List Str) : Prop where
  nm : Short (names ms)
  tk : ∀ m ∈ ms, Short m.2.1
  gv : ∀ m ∈ ms, Short m.2.2
  so : Short st
  sum : (st ++ pls ms).length ≤ 1000
  few : (UfSet.dd (st ++ pls ms)).length < 64
section
variable {P : Program} {w : World} {K : PySem.W.Frag} {mg : Str → Option Value} {base : Heap}
def spMakes (K : PySem.W.Frag) : Sp := fun vs H Q _ => ∃ (a b : Addr) (ms : List Mv) (st : List Str), vs = [.ref a, .ref b] ∧ MvsAt K H a ms ∧ SqL K H b (txs st) ∧ Fits ms st ∧ ∀ H', Same H H' → Q (.bl (mkNet ms st)) H'
theorem scMakes : FnScope ["moves", "start"] ["moves", "start"] (defScope sMakes) := ⟨rfl, rfl, rfl, by decide +kernel, rfl, by decide +kernel, by decide +kernel⟩
theorem ok_makes {f fN fU fM fP : Addr} {fd fdN fdU fdM fdP : FuncData} (F : Fun K "makes_net" "makes_net" sMakes f fd) (T : Txt K mg) (DN : Def K mg "is_name" sIsName ["thing"] fN fdN) (DU : Def K mg "are_unlike_names" sUnlike ["things"] fU fdU)
    (DM : Def K mg "is_move" sIsMove ["taken", "given"] fM fdM) (DP : Def K mg "places_of" sPlaces ["moves", "start"] fP fdP) : FnOk P w K mg base CX0 4 f fd ["moves", "start"] (spMakes K) := by
  have GU : FnOk P w K mg base CX0 2 fU fdU ["things"] (spUnlike K) := ok_unlike DU.fn T DN
  have GM : FnOk P w K mg base CX0 3 fM fdM ["taken", "given"] (spIsMove K) := ok_isMove DM.fn T DN DU
  have GP : FnOk P w K mg base CX0 1 fP fdP ["moves", "start"] (spPlaces K) := ok_places DP.fn T
  refine F.ok scMakes (fun vs H Q E h => ?_) (fun cdv A outer s H vs Q E hr h => ?_)
  · obtain ⟨a, b, ms, st, rfl, _⟩ := h
    rfl
  · obtain ⟨a, b, ms, st, rfl, ha, hb, hf, k⟩ := h
    obtain ⟨qs, hq, hp⟩ := id ha
    obtain ⟨t1, h1⟩ := T.mostM
    obtain ⟨t2, h2⟩ := T.mostP
    refine ⟨_, pss_cons (ps_if (PW.pt (pw_or (pt_cmpR op_gt (pe_callB call_len rfl T.len b_len (pa_cons (pv 0) pa_nil)) (pe_glob (v := .int 12) rfl h1 ⟨t1, rfl⟩) (nomark _))
        (pw_or1 (pt_not (pt_val (pe_call GU (hr.mono (by decide)) rfl DU.mg DU.fn.kp DU.bd .nil pass0 (pa_cons (pe_comp (N := ["move"]) (n := 1) (ci := []) rfl (pi_list (pv 0)) (CSc.of (so := defScope sMakes) (N0 := ["moves", "start"]) ⟨rfl, by decide +kernel, by decide +kernel, by decide +kernel, rfl, rfl, by decide +kernel, by decide +kernel⟩)
          (fun z => ⟨pg_name (i := 0) (nd_of (N := ["move"]) (by decide +kernel)) rfl (Or.inl rfl), pts_nil, pe_ix ix_tup (pv 0) pe_int (fun _ _ => rfl)⟩)) pa_nil)))))))
        (pss_one (ps_ret pe_bl)) pss_nil)
      (pss_cons (ps_if (PW.pt (pw_or (pt_not (pt_val (pe_callB (call_all rfl) rfl T.all b_all (pa_cons (pe_comp (N := ["name", "taken", "given"]) (n := 3) (ci := []) rfl (pi_list (pv 0)) (CSc.of (so := defScope sMakes) (N0 := ["moves", "start"]) ⟨rfl, by decide +kernel, by decide +kernel, by decide +kernel, rfl, rfl, by decide +kernel, by decide +kernel⟩)
          (fun z => ⟨pg_tup rfl (pgs_cons (pg_name (i := 0) (nd_of (N := ["name", "taken", "given"]) (by decide +kernel)) rfl (Or.inl rfl)) (pgs_cons (pg_name (i := 1) (nd_of (N := ["name", "taken", "given"]) (by decide +kernel)) rfl (Or.inl rfl)) (pgs_cons (pg_name (i := 2) (nd_of (N := ["name", "taken", "given"]) (by decide +kernel)) rfl (Or.inl rfl)) pgs_nil))),
            pts_nil, pe_call GM hr rfl DM.mg DM.fn.kp DM.bd .nil pass0 (pa_cons (pv 1) (pa_cons (pv 2) pa_nil))⟩)) pa_nil))))
          (pw_or1 (pt_not (pt_val (pe_call GU (hr.mono (by decide)) rfl DU.mg DU.fn.kp DU.bd .nil pass0 (pa_cons (pv 1) pa_nil)))))))
        (pss_one (ps_ret pe_bl)) pss_nil)
      (pss_one (ps_ret (pe_cmpR op_le (pe_callB call_len rfl T.len b_len (pa_cons (pe_call GP (hr.mono (by decide)) rfl DP.mg DP.fn.kp DP.bd .nil pass0 (pa_cons (pv 0) (pa_cons (pv 1) pa_nil))) pa_nil)) (pe_glob (v := .int 12) rfl h2 ⟨t2, rfl⟩) (nomark _))))), ?_⟩
    have no : ∀ H', Same H H' → mkNet ms st = false → Q (.bl false) H' := fun H' sm e => by rw [← e]; exact k H' sm
    have lq : qs.length = ms.length := (Paired.length hp).symm
    refine ⟨_, rfl, _, ms.length, rfl, .inl ⟨_, hq, by rw [List.length_map, lq]⟩, _, _, rfl, rfl, _, rfl, ?_⟩
    by_cases c1 : ms.length ≤ 12
    · rw [show decide (((ms.length : Nat) : Int) > 12) = false from decide_eq_false (by lia)]
      refine iteF ?_
      refine ⟨_, rfl, a, rfl, ⟨_, hq⟩, fun z D hD => comp_list (a := a) (xs := qs.map V.ref) (fun i ys H2 => ys = txs (names (ms.take i)) ∧ H2 D = some (.lst ys) ∧ Same H H2) ⟨rfl, upd_same, same_new hD⟩ (fun i ys H2 _ p => p.2.2.seq hq) ?_ ?_⟩
      · rintro i v ys H2 hi ⟨rfl, hys, sm⟩
        obtain ⟨q, hqi, rfl⟩ := refs_get hi
        obtain ⟨m, hm, hmv⟩ := paired_get hp hqi
        obtain ⟨l, g, e1, e2, e3⟩ := hmv.same sm
        refine ⟨_, rfl, q, _, 0, _, rfl, rfl, SqT.of e1, atI_nat (j := 0) rfl, hys, ?_, ?_, upd_same, same_upd sm hD⟩
        · rw [strs_length, names, List.length_map, List.length_take, sizeLine_eq]
          lia
        · rw [take_succ_at hm]
          unfold names txs
          simp
      · rintro ys H2 ⟨rfl, hys, sm⟩
        rw [List.length_map, lq, List.take_length] at hys
        refine ⟨D, names ms, rfl, SqL.of hys, hf.nm, fun H3 s3 => ⟨_, rfl, ?_⟩⟩
        have sm3 : Same H H3 := sm.trans s3
        cases u1 : unlike (names ms) with
        | false =>
          refine iteT ?_
          exact no H3 sm3 (by unfold mkNet; rw [u1]; simp)
        | true =>
          refine iteF ?_
          refine ⟨_, rfl, a, rfl, ⟨_, sm3.seq hq⟩, fun z2 D2 hD2 => comp_list (a := a) (xs := qs.map V.ref) (fun i ys H4 => ys = (ms.take i).map (fun m => V.bl (isMv m.2.1 m.2.2)) ∧ H4 D2 = some (.lst ys) ∧ Same H3 H4) ⟨rfl, upd_same, same_new hD2⟩ (fun i ys H4 _ p => (sm3.trans p.2.2).seq hq) ?_ ?_⟩
          · rintro i v ys H4 hi ⟨rfl, hys4, sm4⟩
            obtain ⟨q, hqi, rfl⟩ := refs_get hi
            obtain ⟨m, hm, hmv⟩ := paired_get hp hqi
            obtain ⟨l, g, e1, e2, e3⟩ := hmv.same (sm3.trans sm4)
            have hmem : m ∈ ms := List.mem_of_getElem? hm
            refine ⟨q, _, rfl, SqT.of e1, rfl, _, _, rfl, _, _, rfl, _, _, rfl, rfl, ?_⟩
            refine ⟨_, rfl, _, rfl, l, g, m.2.1, m.2.2, rfl, SqL.of e2, SqL.of e3, hf.tk m hmem, hf.gv m hmem, fun H5 s5 => ⟨s5 _ _ hys4, ?_, ?_, upd_same, same_upd (sm4.trans s5) hD2⟩⟩
            · rw [List.length_map, List.length_take, sizeLine_eq]
              lia
            · rw [take_succ_at hm, List.map_append]
              rfl
          · rintro ys H4 ⟨rfl, hys4, sm4⟩
            rw [List.length_map, lq, List.take_length] at hys4
            have sm5 : Same H H4 := sm3.trans sm4
            refine ⟨D2, ms.map (fun m => isMv m.2.1 m.2.2), rfl, SqL.of (by rw [hys4, List.map_map]; rfl), _, rfl, ?_⟩
            have ea : (ms.map (fun m => isMv m.2.1 m.2.2)).all id = ms.all fun m => isMv m.2.1 m.2.2 := by rw [List.all_map]; rfl
            rw [ea]
            cases u2 : ms.all fun m => isMv m.2.1 m.2.2 with
            | false =>
              refine iteT ?_
              refine iteT ?_
              exact no H4 sm5 (by unfold mkNet; rw [u2]; simp)
            | true =>
              refine iteF ?_
              refine ⟨_, rfl, b, st, rfl, sm5.seq hb, hf.so, fun H6 s6 => ⟨_, rfl, ?_⟩⟩
              have sm6 : Same H H6 := sm5.trans s6
              cases u3 : unlike st with
              | false =>
                refine iteT ?_
                exact no H6 sm6 (by unfold mkNet; rw [u3]; simp)
              | true =>
                refine iteF ?_
                refine ⟨_, rfl, _, rfl, a, b, ms, st, rfl, ha.same sm6, sm6.seq hb, hf.sum, hf.few, fun H7 p s7 np hp7 => ?_⟩
                refine ⟨_, (plcs ms st).length, rfl, .inl ⟨_, SqL.of hp7, (strs_length _).symm⟩, _, _, rfl, rfl, ?_⟩
                have e : mkNet ms st = decide (((plcs ms st).length : Int) ≤ 12) := by
                  unfold mkNet
                  rw [decide_eq_true c1, u1, u2, u3]
                  simp only [Bool.true_and]
                  exact decide_eq_decide.mpr (by lia)
                show Q (V.bl (decide (((plcs ms st).length : Int) ≤ 12))) H7
                rw [← e]
                exact k H7 (sm6.trans s7)
    · rw [show decide (((ms.length : Nat) : Int) > 12) = true from decide_eq_true (by lia)]
      refine iteT ?_
      refine iteT ?_
      exact no H (Same.refl H) (by unfold mkNet; rw [decide_eq_false c1]; rfl)
end
end Uf
end
/-! UfRules2 -/
section
set_option Elab.async false
set_option linter.all false
set_option maxRecDepth 100000
set_option maxHeartbeats 4000000
namespace L2
open PySem PySem.Spec PyProof.Rows PySem.W UfSrt
section
variable {prog : Program} {w : World} {A : Around} {E : Value → Shared → Prop} {s : Shared}
theorem collect_dict {κ : Type} [DecidableEq κ] {knd : KeyKind prog w κ} {d : Addr} {kvs : List (κ × Value)} {ep : Nat} {Q : List Value → Shared → Prop} (hh : A.handled = none) (lo : (d == sysModules) = false) (hd : s.heap.DictAt knd d kvs ep) (hz : kvs.length ≤ sizeLine)
    (h : ∀ (h' : Heap) (tk : Nat) (dr : Drawn) (vs : List Value), vs.length = kvs.length → (∀ (j : Nat) v, vs[j]? = some v → ∃ k x, kvs[j]? = some (k, x) ∧ knd.is k v = true) → (∀ b o, s.heap.get? b = some o → h'.get? b = some o) → s.heap.objs.size ≤ h'.objs.size → Q vs { s with heap := h', toks := tk, drawn := dr }) :
    wpAny (model prog w) A (collect (.ref d)) Q E s := by
  refine UfSet.collect_any (T := "dict") (OK := fun h => h.DictAt knd d kvs ep) (R := fun n P => n = kvs.length ∧ P = fun i v => ∃ k x, kvs[i]? = some (k, x) ∧ knd.is k v = true) hh hd (fun h1 h2 x k => x.at' fun o e => k _ _ e) (fun s' x => x.dictOf.typeIs) (fun h1 x => x.lt_size) (by decide) (by decide)
    (fun A' E' s' Q' x q => kdl_hint_dict x.dictOf.typeIs q) (fun A' E' s' Q' x q => ?_) ?_
  · refine wpAny_pyIter_dict lo x ?_
    exact q s'.heap.objs.size _ s'.drawn kvs.length _ [s'.heap.objs.size, d] _ ⟨rfl, rfl⟩ hz (fun A2 h2 => Walks.dictKeys h2 _ d (Nat.ne_of_lt x.lt_size) kvs ep) ⟨⟨_, Heap.get?_push_size _ rfl, rfl, rfl⟩, x.push _⟩ (Nat.le_refl _) (fun b o e => Heap.get?_push_of_some _ e) fun b hb => by
      simp only [List.mem_cons, List.not_mem_nil, or_false] at hb
      rcases hb with rfl | rfl
      · exact .inr (Nat.le_refl _)
      · exact .inl rfl
  · rintro h' tk dr n P vs ⟨rfl, rfl⟩ hl hat hk hz'
    exact h h' tk dr vs hl hat hk hz'
theorem strs_by : ∀ {ks : List Str} {vs : List Value}, vs.length = ks.length → (∀ (j : Nat) v, vs[j]? = some v → ∃ k tk, ks[j]? = some k ∧ v = Value.str k tk) → StrsAre vs ks
  | [], [], _, _ => .nil
  | k :: ks, v :: vs, hl, h => by
    obtain ⟨k', tk, e, rfl⟩ := h 0 v rfl
    have : k' = k := by simpa using e.symm
    subst this
    exact .cons k' tk (strs_by (by simpa using hl) fun j u hu => by
      obtain ⟨q, t, e1, e2⟩ := h (j + 1) u (by simpa using hu)
      exact ⟨q, t, by simpa using e1, e2⟩)
end
section
variable {X : Cx}
def rSortD : List V → Hp → VK → Prop := fun xs H Q => ∃ (a : Addr) (kvs : List (Key × V)) (ks : List Str), xs = [.ref a] ∧ Rd H a (.dK kvs) ∧ kvs.map (·.1) = ks.map Sum.inr ∧ ks.length < 64 ∧ ∀ p, H p = none → Q (.ref p) (upd H p (.lst (txs (srt ks))))
theorem keys_texts {P : Program} {w : World} {kvs : List (Key × V)} {vs : List (Key × Value)} {ks : List Str} {us : List Value} (r : KV kvs vs) (hk : kvs.map (·.1) = ks.map Sum.inr) (hl : us.length = vs.length)
    (hat : ∀ (j : Nat) v, us[j]? = some v → ∃ k x, vs[j]? = some (k, x) ∧ (mixKind P w).is k v = true) : StrsAre us ks := by
  have e1 : vs.map (·.1) = ks.map Sum.inr := by rw [← r.keys]; exact hk
  have l1 : vs.length = ks.length := by have := congrArg List.length e1; simpa using this
  refine strs_by (by lia) fun j v e => ?_
  obtain ⟨k, x, e2, hi⟩ := hat j v e
  have e3 : (vs.map (·.1))[j]? = some k := by rw [List.getElem?_map, e2]; rfl
  rw [e1, List.getElem?_map] at e3
  cases e4 : ks[j]? with
  | none => rw [e4] at e3; cases e3
  | some y =>
    rw [e4] at e3
    cases e3
    rw [mixKind_is] at hi
    rcases keyIs_shape hi with ⟨i, t, z, _⟩ | ⟨y', t, z, z2⟩
    · cases z
    · cases z
      exact ⟨y, t, rfl, z2⟩
theorem call_sortD (hc : X.calm = true) : CallR X (.builtin "sorted") rSortD := by
  intro pins s σ H xs us Q I r h
  obtain ⟨a, kvs, ks, rfl, ha, hk, hz, q⟩ := h
  obtain ⟨u, rfl, ru⟩ := vals1 r
  cases ru
  obtain ⟨zk, lo, vs, rel, hd⟩ := dk_rd I.hok ha
  obtain ⟨ep, hat⟩ := hd.dictAt
  have hlen : vs.length ≤ sizeLine := by rw [← rel.length]; exact zk
  refine UfSort.sorted_by (ss := ks) (fun {Q'} hq => collect_dict (A := X.A.in1) (knd := mixKind X.prog X.w) (I.ok.hd hc) lo hat hlen fun h' tk dr us' hl hat' hk' hz' => hq h' tk dr us' ks hk' hz' (keys_texts rel hk hl hat') (.refl _)) hz fun h' tk d D L => ?_
  exact ⟨.ref D, _, left_inv I L (by lia), rfl, q _ (I.hok.fresh L.new)⟩
end
end L2
end
/-! UfFin -/
section
set_option linter.all false
namespace UfFin
open PySem UfSrt
theorem nodup_le {α : Type} [DecidableEq α] : ∀ {l m : List α}, l.Nodup → (∀ x ∈ l, x ∈ m) → l.length ≤ m.length
  | [], m, _, _ => Nat.zero_le _
  | a :: l, m, h, hs => by
    obtain ⟨h1, h2⟩ := List.nodup_cons.mp h
    have ha : a ∈ m := hs a List.mem_cons_self
    have ih := nodup_le (l := l) (m := m.erase a) h2 fun x hx => by
      have hne : x ≠ a := fun e => h1 (e ▸ hx)
      exact (List.mem_erase_of_ne hne).mpr (hs x (List.mem_cons_of_mem _ hx))
    rw [List.length_erase_of_mem ha] at ih
    have := List.length_pos_of_mem ha
    rw [List.length_cons]
    lia
def subs {α : Type} : List α → List (List α)
  | [] => [[]]
  | x :: r => subs r ++ (subs r).map (x :: ·)
structure Rising (l : List Str) : Prop where
  pw : l.Pairwise le
  nd : l.Nodup
end UfFin
end
/-! UfNet5 -/
section
set_option Elab.async false
set_option linter.all false
set_option maxRecDepth 100000
set_option maxHeartbeats 4000000
namespace Uf
open PySem L2 UfSrt
abbrev sNet : Stmt := top 28
abbrev sInit : Stmt := inClass sNet 0
abbrev sGetP : Stmt := inClass sNet 1
abbrev sGetM : Stmt := inClass sNet 2
abbrev sTakes : Stmt := inClass sNet 3
abbrev sGives : Stmt := inClass sNet 4
abbrev sStart : Stmt := inClass sNet 5
abbrev sMust : Stmt := inClass sNet 6
def flds (aP aS aT aG : Addr) : List (Str × V) := [("place_names", V.ref aP), ("start_state", V.ref aS), ("taken_by", V.ref aT), ("given_by", V.ref aG)]
theorem q_sp : (("start_state" : Str) == "place_names") = false := by decide +kernel
theorem q_tp : (("taken_by" : Str) == "place_names") = false := by decide +kernel
theorem q_gp : (("given_by" : Str) == "place_names") = false := by decide +kernel
theorem q_ts : (("taken_by" : Str) == "start_state") = false := by decide +kernel
theorem q_gs : (("given_by" : Str) == "start_state") = false := by decide +kernel
theorem q_gt : (("given_by" : Str) == "taken_by") = false := by decide +kernel
theorem fld_s (a b c d : Addr) : (flds a b c d).lookup ("start_state" : Str) = some (V.ref b) := by simp [flds, List.lookup, q_sp]
theorem fld_t (a b c d : Addr) : (flds a b c d).lookup ("taken_by" : Str) = some (V.ref c) := by simp [flds, List.lookup, q_tp, q_ts]
theorem fld_g (a b c d : Addr) : (flds a b c d).lookup ("given_by" : Str) = some (V.ref d) := by simp [flds, List.lookup, q_gp, q_gs, q_gt]
theorem fld_no (a b c d : Addr) {x : Str} (h1 : (x == "place_names") = false) (h2 : (x == "start_state") = false) (h3 : (x == "taken_by") = false) (h4 : (x == "given_by") = false) : (flds a b c d).lookup x = none := by
  simp [flds, List.lookup, h1, h2, h3, h4]
theorem e_sp : ¬ (("place_names" : Str) = "start_state") := by decide +kernel
theorem e_tp : ¬ (("place_names" : Str) = "taken_by") := by decide +kernel
theorem e_ts : ¬ (("start_state" : Str) = "taken_by") := by decide +kernel
theorem e_gp : ¬ (("place_names" : Str) = "given_by") := by decide +kernel
theorem e_gs : ¬ (("start_state" : Str) = "given_by") := by decide +kernel
theorem e_gt : ¬ (("taken_by" : Str) = "given_by") := by decide +kernel
theorem flds_made (a b c d : Addr) : putF "given_by" (V.ref d) (putF "taken_by" (V.ref c) (putF "start_state" (V.ref b) (putF "place_names" (V.ref a) []))) = flds a b c d := by
  simp [putF, flds, e_sp, e_tp, e_ts, e_gp, e_gs, e_gt]
structure NetC (K : PySem.W.Frag) (C : Addr) : Prop where
  cl : Cls K C
  nP : NoAttr K C "place_names"
  nS : NoAttr K C "start_state"
  nT : NoAttr K C "taken_by"
  nG : NoAttr K C "given_by"
def DcAt (H : Hp) (sel : Mv → List Str) (ms : List Mv) (kvs : List (Key × V)) : Prop := Paired (fun (m : Mv) (kv : Key × V) => kv.1 = Sum.inr m.1 ∧ ∃ t, kv.2 = .ref t ∧ H t = some (.tup (txs (srt (sel m))))) ms kvs
theorem DcAt.same {H H' : Hp} {sel : Mv → List Str} {ms : List Mv} {kvs : List (Key × V)} (s : ∀ b xs, H b = some (.tup xs) → H' b = some (.tup xs)) (h : DcAt H sel ms kvs) : DcAt H' sel ms kvs :=
  Paired.mapP h fun m kv ⟨e, t, h1, h2⟩ => ⟨e, t, h1, s _ _ h2⟩
theorem DcAt.keys {H : Hp} {sel : Mv → List Str} : ∀ {ms : List Mv} {kvs : List (Key × V)}, DcAt H sel ms kvs → kvs.map (·.1) = (names ms).map Sum.inr
  | _, _, .nil => rfl
  | _, _, .cons h t => by
    rw [List.map_cons, h.1, DcAt.keys t]
    rfl
theorem DcAt.snoc {H : Hp} {sel : Mv → List Str} {ms : List Mv} {kvs : List (Key × V)} {m : Mv} {t : Addr} (h : DcAt H sel ms kvs) (ht : H t = some (.tup (txs (srt (sel m))))) : DcAt H sel (ms ++ [m]) (kvs ++ [(Sum.inr m.1, .ref t)]) :=
  Paired.snoc h ⟨rfl, t, rfl, ht⟩
theorem DcAt.none {H : Hp} {sel : Mv → List Str} {ms : List Mv} {kvs : List (Key × V)} {x : Str} (h : DcAt H sel ms kvs) (hx : x ∉ names ms) : valV kvs (Sum.inr x : Key) = .none := by
  cases e : valV kvs (Sum.inr x : Key) with
  | none => rfl
  | some v =>
    have := valV_in e
    rw [h.keys] at this
    obtain ⟨y, hy, e2⟩ := List.mem_map.mp this
    cases e2
    exact absurd hy hx
theorem DcAt.get {H : Hp} {sel : Mv → List Str} {m : Mv} : ∀ {ms : List Mv} {kvs : List (Key × V)}, DcAt H sel ms kvs → (names ms).Nodup → m ∈ ms → ∃ t, valV kvs (Sum.inr m.1 : Key) = some (.ref t) ∧ H t = some (.tup (txs (srt (sel m))))
  | _, _, .nil, _, h => by simp at h
  | m' :: ms, _, .cons (b := kv) h t, hn, hm => by
    obtain ⟨e, u, e1, e2⟩ := h
    obtain ⟨n1, n2⟩ := List.nodup_cons.mp (show (m'.1 :: names ms).Nodup from hn)
    rcases List.mem_cons.mp hm with rfl | hm
    · exact ⟨u, by rw [valV_pos e, e1], e2⟩
    · have ne : ¬ kv.1 = (Sum.inr m.1 : Key) := fun z => by
        rw [e] at z
        have z2 : m'.1 = m.1 := by injection z
        exact n1 (by rw [z2]; exact List.mem_map.mpr ⟨m, hm, rfl⟩)
      rw [valV_neg ne]
      exact DcAt.get t n2 hm
structure NetAt (C : Addr) (H : Hp) (p : Addr) (ms : List Mv) (st : List Str) : Prop where
  ob : ∃ dx aP aS aT aG kT kG, H p = some (.ins C dx (flds aP aS aT aG)) ∧ H aP = some (.tup (txs (plcs ms st))) ∧ H aS = some (.tup (txs (srt st))) ∧ H aT = some (.dK kT) ∧ H aG = some (.dK kG) ∧ DcAt H (·.2.1) ms kT ∧ DcAt H (·.2.2) ms kG
theorem NetAt.same {C : Addr} {H H' : Hp} {p : Addr} {ms : List Mv} {st : List Str} (s : Same H H') (h : NetAt C H p ms st) : NetAt C H' p ms st := by
  obtain ⟨dx, aP, aS, aT, aG, kT, kG, h1, h2, h3, h4, h5, h6, h7⟩ := h
  exact ⟨dx, aP, aS, aT, aG, kT, kG, s _ _ h1, s _ _ h2, s _ _ h3, s _ _ h4, s _ _ h5, h6.same fun b xs e => s _ _ e, h7.same fun b xs e => s _ _ e⟩
def But (p : Addr) (H H' : Hp) : Prop := ∀ c o, H c = some o → c ≠ p → H' c = some o
theorem But.refl (p : Addr) (H : Hp) : But p H H := fun _ _ e _ => e
theorem But.then {p : Addr} {H H1 H2 : Hp} (b : But p H H1) (s : Same H1 H2) : But p H H2 := fun c o e n => s c o (b c o e n)
theorem But.put {p : Addr} {H H1 : Hp} {o : HO} (b : But p H H1) : But p H (upd H1 p o) := fun c u e n => by rw [upd_ne n]; exact b c u e n
theorem But.new {p a : Addr} {H H1 : Hp} {o : HO} (b : But p H H1) (n : H a = none) : But p H (upd H1 a o) := fun c u e nc => by rw [upd_ne (ne_of_none e n)]; exact b c u e nc
theorem But.free {p a : Addr} {H H1 : Hp} (b : But p H H1) (n : H1 a = none) (hp : a ≠ p) : H a = none := by
  cases e : H a with
  | none => rfl
  | some o => rw [b a o e hp] at n; cases n
theorem But.seq {K : PySem.W.Frag} {p C dx a : Addr} {H H1 : Hp} {fs : List (Str × V)} {xs : List V} (b : But p H H1) (hp : H p = some (.ins C dx fs)) (h : SqL K H a xs) : SqL K H1 a xs := by
  rcases h with (h | ⟨o, h⟩) | h
  · exact .inl (.inl (b _ _ h (ne_of h hp (by intro z; cases z))))
  · exact .inl (.inr ⟨o, b _ _ h (ne_of h hp (by intro z; cases z))⟩)
  · exact .inr h
theorem But.mv {p C dx q : Addr} {H H1 : Hp} {fs : List (Str × V)} {m : Mv} (b : But p H H1) (hp : H p = some (.ins C dx fs)) (h : MvAt H m q) : MvAt H1 m q := by
  obtain ⟨l, g, h1, h2, h3⟩ := h
  exact ⟨l, g, b _ _ h1 (ne_of h1 hp (by intro z; cases z)), b _ _ h2 (ne_of h2 hp (by intro z; cases z)), b _ _ h3 (ne_of h3 hp (by intro z; cases z))⟩
structure Sound (ms : List Mv) (st : List Str) : Prop where
  ml : ms.length ≤ 12
  nn : (names ms).all isNm = true
  nd : (names ms).Nodup
  mv : ∀ m ∈ ms, isMv m.2.1 m.2.2 = true
  su : unlike st = true
  pl : (plcs ms st).length ≤ 12
theorem sound_of {ms : List Mv} {st : List Str} (h : mkNet ms st = true) : Sound ms st := by
  unfold mkNet at h
  obtain ⟨h1, h⟩ := Bool.and_eq_true_iff.mp h
  obtain ⟨h2, h⟩ := Bool.and_eq_true_iff.mp h
  obtain ⟨h3, h⟩ := Bool.and_eq_true_iff.mp h
  obtain ⟨h4, h5⟩ := Bool.and_eq_true_iff.mp h
  obtain ⟨h6, h7⟩ := Bool.and_eq_true_iff.mp (show ((names ms).all isNm && decide (names ms).Nodup) = true from h2)
  exact ⟨of_decide_eq_true h1, h6, of_decide_eq_true h7, fun m hm => List.all_eq_true.mp h3 m hm, h4, of_decide_eq_true h5⟩
theorem unlike_nd {xs : List Str} (h : unlike xs = true) : xs.Nodup := of_decide_eq_true (Bool.and_eq_true_iff.mp h).2
theorem Sound.stl {ms : List Mv} {st : List Str} (h : Sound ms st) : st.length ≤ 12 := by
  refine Nat.le_trans (UfFin.nodup_le (unlike_nd h.su) fun x hx => ?_) h.pl
  unfold plcs
  exact srt_mem.mpr (UfSet.dd_mem.mpr (List.mem_append_left _ hx))
theorem isMv_tk {tk gv : List Str} (h : isMv tk gv = true) : unlike tk = true ∧ unlike gv = true ∧ 1 ≤ tk.length ∧ tk.length ≤ 4 ∧ gv.length ≤ 4 := by
  unfold isMv at h
  obtain ⟨h1, h⟩ := Bool.and_eq_true_iff.mp h
  obtain ⟨h2, h⟩ := Bool.and_eq_true_iff.mp h
  obtain ⟨h3, h⟩ := Bool.and_eq_true_iff.mp h
  obtain ⟨h4, h5⟩ := Bool.and_eq_true_iff.mp h
  exact ⟨h1, h2, of_decide_eq_true h3, of_decide_eq_true h4, of_decide_eq_true h5⟩
section
variable {P : Program} {w : World} {K : PySem.W.Frag} {mg : Str → Option Value} {base : Heap}
def spInit (K : PySem.W.Frag) (C : Addr) : Sp := fun vs H Q _ => ∃ (p dx a b : Addr) (ms : List Mv) (st : List Str), vs = [.ref p, .ref a, .ref b] ∧ H p = some (.ins C dx []) ∧ MvsAt K H a ms ∧ SqL K H b (txs st) ∧ Fits ms st ∧ mkNet ms st = true ∧
  ∀ H', NetAt C H' p ms st → (∀ c o, H c = some o → c ≠ p → H' c = some o) → Q .non H'
theorem scInit : FnScope ["self", "moves", "start", "name", "taken", "given"] ["self", "moves", "start"] (defScope sInit) := ⟨rfl, rfl, rfl, by decide +kernel, rfl, by decide +kernel, by decide +kernel⟩
inductive II1 (C : Addr) (H : Hp) (p a b dx aP aS aT aG : Addr) (ms : List Mv) (st : List Str) (i : Nat) (σ : St) (H6 : Hp) : Prop
  | mk (kT kG : List (Key × V)) (v3 v4 v5 : Option V) (q0 : σ = [some (.ref p), some (.ref a), some (.ref b), v3, v4, v5]) (q1 : H6 p = some (.ins C dx (flds aP aS aT aG))) (q2 : H6 aP = some (.tup (txs (plcs ms st)))) (q3 : H6 aS = some (.tup (txs (srt st)))) (q4 : H6 aT = some (.dK kT)) (q5 : H6 aG = some (.dK kG)) (q6 : DcAt H6 (·.2.1) (ms.take i) kT) (q7 : DcAt H6 (·.2.2) (ms.take i) kG) (q8 : But p H H6)
theorem II1.but {C : Addr} {H : Hp} {p a b dx aP aS aT aG : Addr} {ms : List Mv} {st : List Str} {i : Nat} {σ : St} {H6 : Hp} (h : II1 C H p a b dx aP aS aT aG ms st i σ H6) : But p H H6 := by
  cases h
  assumption
theorem ok_init {f C fN fU fM fP fK : Addr} {fd fdN fdU fdM fdP fdK : FuncData} (F : Fun K "__init__" "Net.__init__" sInit f fd) (T : Txt K mg) (CT : NetC K C) (DN : Def K mg "is_name" sIsName ["thing"] fN fdN) (DU : Def K mg "are_unlike_names" sUnlike ["things"] fU fdU)
    (DM : Def K mg "is_move" sIsMove ["taken", "given"] fM fdM) (DP : Def K mg "places_of" sPlaces ["moves", "start"] fP fdP) (DK : Def K mg "makes_net" sMakes ["moves", "start"] fK fdK) : FnOk P w K mg base CX0 5 f fd ["self", "moves", "start"] (spInit K C) := by
  have GP : FnOk P w K mg base CX0 1 fP fdP ["moves", "start"] (spPlaces K) := ok_places DP.fn T
  have GK : FnOk P w K mg base CX0 4 fK fdK ["moves", "start"] (spMakes K) := ok_makes DK.fn T DN DU DM DP
  refine F.ok scInit (fun vs H Q E h => ?_) (fun cdv A outer s H vs Q E hr h => ?_)
  · obtain ⟨p, dx, a, b, ms, st, rfl, _⟩ := h
    rfl
  · obtain ⟨p, dx, a, b, ms, st, rfl, hp, ha, hb, hf, hmk, k⟩ := h
    have hu := hu_of hr
    refine ⟨_, pss_cons (ps_if (pt_not (pt_val (pe_call GK hr rfl DK.mg DK.fn.kp DK.bd .nil pass0 (pa_cons (pv 1) (pa_cons (pv 2) pa_nil))))) pss_never pss_nil)
      (pss_cons (ps_fld (pv 0) (pe_callTy call_tuple_of rfl T.tup b_tuple (pa_cons (pe_call GP (hr.mono (by decide)) rfl DP.mg DP.fn.kp DP.bd .nil pass0 (pa_cons (pv 1) (pa_cons (pv 2) pa_nil))) pa_nil)) rfl)
      (pss_cons (ps_fld (pv 0) (pe_callTy call_tuple_of rfl T.tup b_tuple (pa_cons (pe_callB call_sortL rfl T.srt b_sorted (pa_cons (pv 2) pa_nil)) pa_nil)) rfl)
      (pss_cons (ps_fld (pv 0) pe_dnewK rfl)
      (pss_cons (ps_fld (pv 0) pe_dnewK rfl)
      (pss_one (ps_for PassesOwn.never rfl (pi_list (pv 1)) (pg_tup rfl (pgs_cons (pg_name (i := 3) scInit.nd rfl (Or.inl rfl)) (pgs_cons (pg_name (i := 4) scInit.nd rfl (Or.inl rfl)) (pgs_cons (pg_name (i := 5) scInit.nd rfl (Or.inl rfl)) pgs_nil))))
        (pss_cons (ps_dput hu (pe_fld (pv 0) rfl) (pv 3) (pe_callTy call_tuple_of rfl T.tup b_tuple (pa_cons (pe_callB call_sortL rfl T.srt b_sorted (pa_cons (pv 4) pa_nil)) pa_nil)) rfl)
        (pss_one (ps_dput hu (pe_fld (pv 0) rfl) (pv 3) (pe_callTy call_tuple_of rfl T.tup b_tuple (pa_cons (pe_callB call_sortL rfl T.srt b_sorted (pa_cons (pv 5) pa_nil)) pa_nil)) rfl))))))))), ?_⟩
    clear hu
    dsimp only [cxOf, Cx.nox]
    have so := sound_of hmk
    obtain ⟨qs, hq, hqp⟩ := id ha
    refine ⟨_, rfl, _, rfl, a, b, ms, st, rfl, ha, hb, hf, fun H1 s1 => ⟨_, rfl, ?_⟩⟩
    rw [hmk]
    refine iteF ?_
    refine ⟨_, rfl, _, rfl, a, b, ms, st, rfl, ha.same s1, s1.seq hb, hf.sum, hf.few, fun H2 q1 s2 nq1 hq1 => ⟨q1, _, rfl, .inl ⟨SqL.of hq1, fun aP nP => ?_⟩⟩⟩
    have sm2 : Same H H2 := s1.trans s2
    have hp2 := sm2 _ _ hp
    have pP : p ≠ aP := ne_of_none hp2 nP
    refine ⟨_, rfl, p, C, dx, _, rfl, (by rw [upd_ne pP]; exact hp2), CT.cl, CT.nP, (by show 0 < 1000; decide), ?_⟩
    have b3 : But p H (upd (upd H2 aP (.tup (txs (plcs ms st)))) p (.ins C dx (putF "place_names" (V.ref aP) []))) := (((But.refl p H).then sm2).new (sm2.free nP)).put
    have e3P : (upd (upd H2 aP (.tup (txs (plcs ms st)))) p (.ins C dx (putF "place_names" (V.ref aP) []))) aP = some (.tup (txs (plcs ms st))) := by rw [upd_ne pP.symm, upd_same]
    have e3p : (upd (upd H2 aP (.tup (txs (plcs ms st)))) p (.ins C dx (putF "place_names" (V.ref aP) []))) p = some (.ins C dx (putF "place_names" (V.ref aP) [])) := upd_same
    generalize upd (upd H2 aP (.tup (txs (plcs ms st)))) p (.ins C dx (putF "place_names" (V.ref aP) [])) = H3 at b3 e3P e3p ⊢
    refine ⟨_, rfl, b, st, rfl, b3.seq hp hb, by have := so.stl; lia, fun q2 nq2 => ⟨q2, _, rfl, .inl ⟨SqL.of upd_same, fun aS nS => ?_⟩⟩⟩
    have p2 : p ≠ q2 := ne_of_none e3p nq2
    have pS : p ≠ aS := ne_of_none (by rw [upd_ne p2]; exact e3p) nS
    have n2S : aS ≠ q2 := fun z => by rw [z, upd_same] at nS; cases nS
    have nS3 : H3 aS = none := by rw [upd_ne n2S] at nS; exact nS
    refine ⟨_, rfl, p, C, dx, _, rfl, (by rw [upd_ne pS, upd_ne p2]; exact e3p), CT.cl, CT.nS, (by show 1 < 1000; decide), ?_⟩
    have b4 := (((b3.new (o := .lst (txs (srt st))) (b3.free nq2 p2.symm)).new (o := .tup (txs (srt st))) (b3.free nS3 pS.symm)).put (o := .ins C dx (putF "start_state" (V.ref aS) (putF "place_names" (V.ref aP) []))))
    have PS : aP ≠ aS := ne_of_none e3P nS3
    have P2 : aP ≠ q2 := ne_of_none e3P nq2
    have e4P : (upd (upd (upd H3 q2 (.lst (txs (srt st)))) aS (.tup (txs (srt st)))) p (.ins C dx (putF "start_state" (V.ref aS) (putF "place_names" (V.ref aP) [])))) aP = some (.tup (txs (plcs ms st))) := by rw [upd_ne pP.symm, upd_ne PS, upd_ne P2]; exact e3P
    have e4S : (upd (upd (upd H3 q2 (.lst (txs (srt st)))) aS (.tup (txs (srt st)))) p (.ins C dx (putF "start_state" (V.ref aS) (putF "place_names" (V.ref aP) [])))) aS = some (.tup (txs (srt st))) := by rw [upd_ne pS.symm, upd_same]
    have e4p : (upd (upd (upd H3 q2 (.lst (txs (srt st)))) aS (.tup (txs (srt st)))) p (.ins C dx (putF "start_state" (V.ref aS) (putF "place_names" (V.ref aP) [])))) p = some (.ins C dx (putF "start_state" (V.ref aS) (putF "place_names" (V.ref aP) []))) := upd_same
    generalize upd (upd (upd H3 q2 (.lst (txs (srt st)))) aS (.tup (txs (srt st)))) p (.ins C dx (putF "start_state" (V.ref aS) (putF "place_names" (V.ref aP) []))) = H4 at b4 e4P e4S e4p ⊢
    intro aT nT
    have pT : p ≠ aT := ne_of_none e4p nT
    refine ⟨_, rfl, p, C, dx, _, rfl, (by rw [upd_ne pT]; exact e4p), CT.cl, CT.nT, (by simp [putF, e_sp]), ?_⟩
    intro aG nG
    have pG : p ≠ aG := fun z => by rw [← z, upd_same] at nG; cases nG
    have GT : aG ≠ aT := fun z => by rw [z, upd_ne pT.symm, upd_same] at nG; cases nG
    have nG4 : H4 aG = none := by rw [upd_ne pG.symm, upd_ne GT] at nG; exact nG
    refine ⟨_, rfl, p, C, dx, _, rfl, (by rw [upd_ne pG]; exact upd_same), CT.cl, CT.nG, (by simp [putF, e_sp, e_tp, e_ts]), ?_⟩
    rw [flds_made]
    have nT0 : H aT = none := b4.free nT pT.symm
    have nG0 : H aG = none := b4.free nG4 pG.symm
    have b5 := (((b4.new (o := .dK []) nT0).put (o := .ins C dx (putF "taken_by" (V.ref aT) (putF "start_state" (V.ref aS) (putF "place_names" (V.ref aP) []))))).new (o := .dK []) nG0).put (o := .ins C dx (flds aP aS aT aG))
    have PT : aP ≠ aT := ne_of_none e4P nT
    have PG : aP ≠ aG := ne_of_none e4P nG4
    have ST : aS ≠ aT := ne_of_none e4S nT
    have SG : aS ≠ aG := ne_of_none e4S nG4
    generalize hH5 : upd (upd (upd (upd H4 aT (.dK [])) p (.ins C dx (putF "taken_by" (V.ref aT) (putF "start_state" (V.ref aS) (putF "place_names" (V.ref aP) []))))) aG (.dK [])) p (.ins C dx (flds aP aS aT aG)) = H5 at b5 ⊢
    have e5p : H5 p = some (.ins C dx (flds aP aS aT aG)) := by rw [← hH5, upd_same]
    have e5P : H5 aP = some (.tup (txs (plcs ms st))) := by rw [← hH5, upd_ne pP.symm, upd_ne PG, upd_ne pP.symm, upd_ne PT]; exact e4P
    have e5S : H5 aS = some (.tup (txs (srt st))) := by rw [← hH5, upd_ne pS.symm, upd_ne SG, upd_ne pS.symm, upd_ne ST]; exact e4S
    have e5T : H5 aT = some (.dK []) := by rw [← hH5, upd_ne pT.symm, upd_ne GT.symm, upd_ne pT.symm, upd_same]
    have e5G : H5 aG = some (.dK []) := by rw [← hH5, upd_ne pG.symm, upd_same]
    clear hH5
    have lq : qs.length = ms.length := (Paired.length hqp).symm
    refine ⟨_, rfl, a, rfl, ⟨_, b5.seq hp hq⟩, for_list (K := K) (a := a) (xs := qs.map V.ref) (II1 C H p a b dx aP aS aT aG ms st)
      ⟨[], [], none, none, none, rfl, e5p, e5P, e5S, e5T, e5G, .nil, .nil, b5⟩ (fun i σ H6 _ h => h.but.seq hp hq) ?_ ?_⟩
    · rintro i v σ H6 hi ⟨kT, kG, v3, v4, v5, rfl, e6p, e6P, e6S, e6T, e6G, dT, dG, b6⟩
      obtain ⟨q, hqi, rfl⟩ := refs_get hi
      obtain ⟨m, hm, hmv⟩ := paired_get hqp hqi
      obtain ⟨l, g, h1, h2, h3⟩ := b6.mv hp hmv
      have hmem : m ∈ ms := List.mem_of_getElem? hm
      obtain ⟨_, _, _, tk4, gv4⟩ := isMv_tk (so.mv m hmem)
      have hnew : m.1 ∉ names (ms.take i) := fun z => by
        have nd := so.nd
        have e : names ms = names (ms.take i) ++ names (ms.drop i) := by
          unfold names
          rw [← List.map_append, List.take_append_drop]
        rw [e] at nd
        have hlt : i < ms.length := (List.getElem?_eq_some_iff.mp hm).1
        have hin : m.1 ∈ names (ms.drop i) := by
          refine List.mem_map.mpr ⟨m, ?_, rfl⟩
          refine List.mem_of_getElem? (i := 0) ?_
          rw [List.getElem?_drop]
          exact hm
        exact (List.nodup_append.mp nd).2.2 _ z _ hin rfl
      have lT : kT.length = (ms.take i).length := (Paired.length dT).symm
      have lG : kG.length = (ms.take i).length := (Paired.length dG).symm
      have l12 : (ms.take i).length ≤ 12 := by rw [List.length_take]; have := so.ml; lia
      refine ⟨q, _, rfl, SqT.of h1, rfl, _, _, rfl, _, _, rfl, _, _, rfl, rfl, ?_⟩
      refine ⟨_, rfl, l, m.2.1, rfl, SqL.of h2, by lia, fun q3 n3 => ⟨q3, _, rfl, .inl ⟨SqL.of upd_same, fun t3 m3 => ?_⟩⟩⟩
      have s7 : Same H6 (upd (upd H6 q3 (.lst (txs (srt m.2.1)))) t3 (.tup (txs (srt m.2.1)))) := (same_new n3).trans (same_new m3)
      have e7t : (upd (upd H6 q3 (.lst (txs (srt m.2.1)))) t3 (.tup (txs (srt m.2.1)))) t3 = some (.tup (txs (srt m.2.1))) := upd_same
      have nt6 : H6 t3 = none := (same_new (o := .lst (txs (srt m.2.1))) n3).free m3
      have b7 : But p H (upd (upd H6 q3 (.lst (txs (srt m.2.1)))) t3 (.tup (txs (srt m.2.1)))) := b6.then s7
      generalize upd (upd H6 q3 (.lst (txs (srt m.2.1)))) t3 (.tup (txs (srt m.2.1))) = H7 at s7 e7t b7 ⊢
      refine ⟨_, rfl, p, C, dx, _, _, rfl, s7 _ _ e6p, CT.cl, CT.nT, fld_t _ _ _ _, _, rfl, aT, _, rfl, DPut.k (k := Sum.inr m.1) (s7 _ _ e6T) (small1000 (by lia)), ?_⟩
      have pk : putK kT (Sum.inr m.1 : Key) (V.ref t3) = kT ++ [(Sum.inr m.1, V.ref t3)] := putK_new _ (dT.none hnew)
      rw [pk]
      have tT : ∀ {b : Addr} {xs : List V}, H7 b = some (.tup xs) → b ≠ aT := fun e => ne_of e (s7 _ _ e6T) (by intro z; cases z)
      have e8T : (upd H7 aT (.dK (kT ++ [(Sum.inr m.1, V.ref t3)]))) aT = some (.dK (kT ++ [(Sum.inr m.1, V.ref t3)])) := upd_same
      have up8 : ∀ {b : Addr} {o : HO}, b ≠ aT → H7 b = some o → (upd H7 aT (.dK (kT ++ [(Sum.inr m.1, V.ref t3)]))) b = some o := fun n e => by rw [upd_ne n]; exact e
      have e8p := up8 pT (s7 _ _ e6p)
      have e8P := up8 PT (s7 _ _ e6P)
      have e8S := up8 ST (s7 _ _ e6S)
      have e8G := up8 GT (s7 _ _ e6G)
      have e8t := up8 (tT e7t) e7t
      have dT8 : DcAt (upd H7 aT (.dK (kT ++ [(Sum.inr m.1, V.ref t3)]))) (·.2.1) (ms.take i ++ [m]) (kT ++ [(Sum.inr m.1, V.ref t3)]) := (dT.same fun b xs e => up8 (tT (s7 _ _ e)) (s7 _ _ e)).snoc e8t
      have dG8 : DcAt (upd H7 aT (.dK (kT ++ [(Sum.inr m.1, V.ref t3)]))) (·.2.2) (ms.take i) kG := dG.same fun b xs e => up8 (tT (s7 _ _ e)) (s7 _ _ e)
      have e8g := up8 (ne_of (s7 _ _ h3) (s7 _ _ e6T) (by intro z; cases z)) (s7 _ _ h3)
      have b8 : But p H (upd H7 aT (.dK (kT ++ [(Sum.inr m.1, V.ref t3)]))) := b7.new nT0
      generalize upd H7 aT (.dK (kT ++ [(Sum.inr m.1, V.ref t3)])) = H8 at e8T e8p e8P e8S e8G dT8 dG8 e8g b8 ⊢
      refine ⟨_, rfl, g, m.2.2, rfl, SqL.of e8g, by lia, fun q4 n4 => ⟨q4, _, rfl, .inl ⟨SqL.of upd_same, fun t4 m4 => ?_⟩⟩⟩
      have s9 : Same H8 (upd (upd H8 q4 (.lst (txs (srt m.2.2)))) t4 (.tup (txs (srt m.2.2)))) := (same_new n4).trans (same_new m4)
      have e9t : (upd (upd H8 q4 (.lst (txs (srt m.2.2)))) t4 (.tup (txs (srt m.2.2)))) t4 = some (.tup (txs (srt m.2.2))) := upd_same
      have b9 : But p H (upd (upd H8 q4 (.lst (txs (srt m.2.2)))) t4 (.tup (txs (srt m.2.2)))) := b8.then s9
      generalize upd (upd H8 q4 (.lst (txs (srt m.2.2)))) t4 (.tup (txs (srt m.2.2))) = H9 at s9 e9t b9 ⊢
      refine ⟨_, rfl, p, C, dx, _, _, rfl, s9 _ _ e8p, CT.cl, CT.nG, fld_g _ _ _ _, _, rfl, aG, _, rfl, DPut.k (k := Sum.inr m.1) (s9 _ _ e8G) (small1000 (by lia)), ?_⟩
      have pk2 : putK kG (Sum.inr m.1 : Key) (V.ref t4) = kG ++ [(Sum.inr m.1, V.ref t4)] := putK_new _ (dG.none hnew)
      rw [pk2]
      have tG : ∀ {b : Addr} {xs : List V}, H9 b = some (.tup xs) → b ≠ aG := fun e => ne_of e (s9 _ _ e8G) (by intro z; cases z)
      have up9 : ∀ {b : Addr} {o : HO}, b ≠ aG → H9 b = some o → (upd H9 aG (.dK (kG ++ [(Sum.inr m.1, V.ref t4)]))) b = some o := fun n e => by rw [upd_ne n]; exact e
      have tki : ms.take (i + 1) = ms.take i ++ [m] := take_succ_at hm
      refine ⟨kT ++ [(Sum.inr m.1, V.ref t3)], kG ++ [(Sum.inr m.1, V.ref t4)], _, _, _, rfl, up9 pG (s9 _ _ e8p), up9 PG (s9 _ _ e8P), up9 SG (s9 _ _ e8S), up9 GT.symm (s9 _ _ e8T), upd_same, ?_, ?_, b9.new nG0⟩
      · rw [tki]
        exact dT8.same fun b xs e => up9 (tG (s9 _ _ e)) (s9 _ _ e)
      · rw [tki]
        exact (dG8.same fun b xs e => up9 (tG (s9 _ _ e)) (s9 _ _ e)).snoc (up9 (tG e9t) e9t)
    · rintro σ H6 ⟨kT, kG, v3, v4, v5, rfl, e6p, e6P, e6S, e6T, e6G, dT, dG, b6⟩
      rw [List.length_map, lq, List.take_length] at dT dG
      exact k H6 ⟨dx, aP, aS, aT, aG, kT, kG, e6p, e6P, e6S, e6T, e6G, dT, dG⟩ b6
end
end Uf
end
/-! UfNet6 -/
section
set_option Elab.async false
set_option linter.all false
set_option maxRecDepth 100000
set_option maxHeartbeats 4000000
namespace Uf
open PySem L2 UfSrt
structure MDef (K : PySem.W.Frag) (C : Addr) (x q : Str) (st : Stmt) (ps : List Str) (f : Addr) (fd : FuncData) : Prop where
  fn : Fun K x q st f fd
  mt : Meth K C x f
  bd : Binds K fd ps []
structure IsNet (C : Addr) (H : Hp) (p : Addr) (ms : List Mv) (st : List Str) : Prop where
  at' : NetAt C H p ms st
  so : Sound ms st
theorem IsNet.same {C : Addr} {H H' : Hp} {p : Addr} {ms : List Mv} {st : List Str} (s : Same H H') (h : IsNet C H p ms st) : IsNet C H' p ms st := ⟨h.at'.same s, h.so⟩
theorem Sound.isNm {ms : List Mv} {st : List Str} (h : Sound ms st) {m : Mv} (hm : m ∈ ms) : Uf.isNm m.1 = true := List.all_eq_true.mp h.nn _ (List.mem_map.mpr ⟨m, hm, rfl⟩)
theorem isNm_len {x : Str} (h : isNm x = true) : x.length ≤ 8 := by
  unfold isNm at h
  have := (Bool.and_eq_true_iff.mp (Bool.and_eq_true_iff.mp h).2).1
  exact of_decide_eq_true this
section
variable {P : Program} {w : World} {K : PySem.W.Frag} {mg : Str → Option Value} {base : Heap}
def spGetM (C : Addr) : Sp := fun vs H Q _ => ∃ (p : Addr) (ms : List Mv) (st : List Str), vs = [.ref p] ∧ IsNet C H p ms st ∧ ∀ H' q, Same H H' → H q = none → H' q = some (.lst (txs (srt (names ms)))) → Q (.ref q) H'
theorem scGetM : FnScope ["self"] ["self"] (defScope sGetM) := ⟨rfl, rfl, rfl, by decide +kernel, rfl, by decide +kernel, by decide +kernel⟩
theorem ok_getM {f C : Addr} {fd : FuncData} (F : Fun K "moves" "Net.moves" sGetM f fd) (T : Txt K mg) (CT : NetC K C) : FnOk P w K mg base CX0 1 f fd ["self"] (spGetM C) := by
  refine F.ok scGetM (fun vs H Q E h => ?_) (fun cdv A outer s H vs Q E hr h => ?_)
  · obtain ⟨p, ms, st, rfl, _⟩ := h
    rfl
  · obtain ⟨p, ms, st, rfl, N, k⟩ := h
    obtain ⟨dx, aP, aS, aT, aG, kT, kG, h1, h2, h3, h4, h5, h6, h7⟩ := N.at'.ob
    refine ⟨_, pss_one (ps_ret (pe_callB (call_sortD rfl) rfl T.srt b_sorted (pa_cons (pe_fld (pv 0) rfl) pa_nil))), ?_⟩
    refine ⟨_, rfl, p, C, dx, _, _, rfl, h1, CT.cl, CT.nT, fld_t _ _ _ _, aT, kT, names ms, rfl, .inl h4, h6.keys, ?_, fun q nq => k _ q (same_new nq) nq upd_same⟩
    have := N.so.ml
    unfold names
    rw [List.length_map]
    lia
def spStart (C : Addr) : Sp := fun vs H Q _ => ∃ (p : Addr) (ms : List Mv) (st : List Str), vs = [.ref p] ∧ IsNet C H p ms st ∧ ∀ q, H q = some (.tup (txs (srt st))) → Q (.ref q) H
theorem scStart : FnScope ["self"] ["self"] (defScope sStart) := ⟨rfl, rfl, rfl, by decide +kernel, rfl, by decide +kernel, by decide +kernel⟩
theorem ok_start {f C : Addr} {fd : FuncData} (F : Fun K "start" "Net.start" sStart f fd) (CT : NetC K C) : FnOk P w K mg base CX0 1 f fd ["self"] (spStart C) := by
  refine F.ok scStart (fun vs H Q E h => ?_) (fun cdv A outer s H vs Q E hr h => ?_)
  · obtain ⟨p, ms, st, rfl, _⟩ := h
    rfl
  · obtain ⟨p, ms, st, rfl, N, k⟩ := h
    obtain ⟨dx, aP, aS, aT, aG, kT, kG, h1, h2, h3, h4, h5, h6, h7⟩ := N.at'.ob
    refine ⟨_, pss_one (ps_ret (pe_fld (pv 0) rfl)), ?_⟩
    exact ⟨_, rfl, p, C, dx, _, _, rfl, h1, CT.cl, CT.nS, fld_s _ _ _ _, k aS h3⟩
def spMust (C : Addr) : Sp := fun vs H Q _ => ∃ (p : Addr) (ms : List Mv) (st : List Str) (m : Mv), vs = [.ref p, .str m.1] ∧ IsNet C H p ms st ∧ m ∈ ms ∧ ∀ H', Same H H' → Q .non H'
theorem scMust : FnScope ["self", "move"] ["self", "move"] (defScope sMust) := ⟨rfl, rfl, rfl, by decide +kernel, rfl, by decide +kernel, by decide +kernel⟩
theorem ok_must {f C fN : Addr} {fd fdN : FuncData} (F : Fun K "must_have" "Net.must_have" sMust f fd) (T : Txt K mg) (CT : NetC K C) (DN : Def K mg "is_name" sIsName ["thing"] fN fdN) : FnOk P w K mg base CX0 2 f fd ["self", "move"] (spMust C) := by
  have GN : FnOk P w K mg base CX0 1 fN fdN ["thing"] spIsName := ok_isName DN.fn T
  refine F.ok scMust (fun vs H Q E h => ?_) (fun cdv A outer s H vs Q E hr h => ?_)
  · obtain ⟨p, ms, st, m, rfl, _⟩ := h
    rfl
  · obtain ⟨p, ms, st, m, rfl, N, hm, k⟩ := h
    have hu := hu_of hr
    refine ⟨_, pss_one (ps_if (PW.pt (pw_or (pt_not (pt_val (pe_call GN hr rfl DN.mg DN.fn.kp DN.bd .nil pass0 (pa_cons (pv 1) pa_nil)))) (pw_or1 (pt_cmp (pc_dnotin hu (pv 1) (pe_fld (pv 0) rfl)))))) pss_never pss_nil), ?_⟩
    clear hu
    dsimp only [cxOf, Cx.nox]
    have hnm := N.so.isNm hm
    refine ⟨_, rfl, m.1, rfl, by have := isNm_len hnm; lia, fun H1 s1 => ⟨_, rfl, ?_⟩⟩
    obtain ⟨dx, aP, aS, aT, aG, kT, kG, h1, h2, h3, h4, h5, h6, h7⟩ := (N.at'.same s1).ob
    rw [hnm]
    refine iteF ?_
    obtain ⟨t, e, _⟩ := h6.get N.so.nd hm
    refine ⟨_, rfl, _, rfl, p, C, dx, _, _, rfl, h1, CT.cl, CT.nT, fld_t _ _ _ _, aT, _, rfl, DGet.k (k := Sum.inr m.1) h4, _, rfl, ?_⟩
    rw [e]
    refine iteF ?_
    exact k H1 s1
def spSel (C : Addr) (sel : Mv → List Str) : Sp := fun vs H Q _ => ∃ (p : Addr) (ms : List Mv) (st : List Str) (m : Mv), vs = [.ref p, .str m.1] ∧ IsNet C H p ms st ∧ m ∈ ms ∧ ∀ H' q, Same H H' → H q = none → H' q = some (.lst (txs (srt (sel m)))) → Q (.ref q) H'
theorem scTakes : FnScope ["self", "move"] ["self", "move"] (defScope sTakes) := ⟨rfl, rfl, rfl, by decide +kernel, rfl, by decide +kernel, by decide +kernel⟩
theorem scGives : FnScope ["self", "move"] ["self", "move"] (defScope sGives) := ⟨rfl, rfl, rfl, by decide +kernel, rfl, by decide +kernel, by decide +kernel⟩
theorem x_mh1 : (("must_have" : Str) == "place_names") = false := by decide +kernel
theorem x_mh2 : (("must_have" : Str) == "start_state") = false := by decide +kernel
theorem x_mh3 : (("must_have" : Str) == "taken_by") = false := by decide +kernel
theorem x_mh4 : (("must_have" : Str) == "given_by") = false := by decide +kernel
theorem ok_takes {f C fN fH : Addr} {fd fdN fdH : FuncData} (F : Fun K "takes" "Net.takes" sTakes f fd) (T : Txt K mg) (CT : NetC K C) (DN : Def K mg "is_name" sIsName ["thing"] fN fdN) (DH : MDef K C "must_have" "Net.must_have" sMust ["self", "move"] fH fdH) :
    FnOk P w K mg base CX0 3 f fd ["self", "move"] (spSel C (·.2.1)) := by
  have GH : FnOk P w K mg base CX0 2 fH fdH ["self", "move"] (spMust C) := ok_must DH.fn T CT DN
  refine F.ok scTakes (fun vs H Q E h => ?_) (fun cdv A outer s H vs Q E hr h => ?_)
  · obtain ⟨p, ms, st, m, rfl, _⟩ := h
    rfl
  · obtain ⟨p, ms, st, m, rfl, N, hm, k⟩ := h
    have hu := hu_of hr
    refine ⟨_, pss_cons (ps_expr (pe_meth (pv 0) CT.cl DH.mt GH hr DH.bd .nil pass0 (pa_cons (pv 1) pa_nil))) (pss_one (ps_ret (pe_callTy call_list_of rfl T.lst b_list (pa_cons (pe_dget hu (pe_fld (pv 0) rfl) (pv 1) (fun _ _ => rfl)) pa_nil)))), ?_⟩
    clear hu
    dsimp only [cxOf, Cx.nox]
    obtain ⟨dx, aP, aS, aT, aG, kT, kG, h1, h2, h3, h4, h5, h6, h7⟩ := N.at'.ob
    refine ⟨_, rfl, p, dx, _, rfl, h1, fld_no _ _ _ _ x_mh1 x_mh2 x_mh3 x_mh4, _, rfl, p, ms, st, m, rfl, N, hm, fun H1 s1 => ?_⟩
    obtain ⟨t, e, ht⟩ := (h6.same fun b xs e => s1 _ _ e).get N.so.nd hm
    refine ⟨_, rfl, p, C, dx, _, _, rfl, s1 _ _ h1, CT.cl, CT.nT, fld_t _ _ _ _, _, rfl, aT, _, rfl, (by rw [← e]; exact DGet.k (k := Sum.inr m.1) (s1 _ _ h4)), t, _, rfl, .inr (SqT.of ht), fun q nq => ?_⟩
    exact k _ q (s1.trans (same_new nq)) (s1.free nq) upd_same
theorem ok_gives {f C fN fH : Addr} {fd fdN fdH : FuncData} (F : Fun K "gives" "Net.gives" sGives f fd) (T : Txt K mg) (CT : NetC K C) (DN : Def K mg "is_name" sIsName ["thing"] fN fdN) (DH : MDef K C "must_have" "Net.must_have" sMust ["self", "move"] fH fdH) :
    FnOk P w K mg base CX0 3 f fd ["self", "move"] (spSel C (·.2.2)) := by
  have GH : FnOk P w K mg base CX0 2 fH fdH ["self", "move"] (spMust C) := ok_must DH.fn T CT DN
  refine F.ok scGives (fun vs H Q E h => ?_) (fun cdv A outer s H vs Q E hr h => ?_)
  · obtain ⟨p, ms, st, m, rfl, _⟩ := h
    rfl
  · obtain ⟨p, ms, st, m, rfl, N, hm, k⟩ := h
    have hu := hu_of hr
    refine ⟨_, pss_cons (ps_expr (pe_meth (pv 0) CT.cl DH.mt GH hr DH.bd .nil pass0 (pa_cons (pv 1) pa_nil))) (pss_one (ps_ret (pe_callTy call_list_of rfl T.lst b_list (pa_cons (pe_dget hu (pe_fld (pv 0) rfl) (pv 1) (fun _ _ => rfl)) pa_nil)))), ?_⟩
    clear hu
    dsimp only [cxOf, Cx.nox]
    obtain ⟨dx, aP, aS, aT, aG, kT, kG, h1, h2, h3, h4, h5, h6, h7⟩ := N.at'.ob
    refine ⟨_, rfl, p, dx, _, rfl, h1, fld_no _ _ _ _ x_mh1 x_mh2 x_mh3 x_mh4, _, rfl, p, ms, st, m, rfl, N, hm, fun H1 s1 => ?_⟩
    obtain ⟨t, e, ht⟩ := (h7.same fun b xs e => s1 _ _ e).get N.so.nd hm
    refine ⟨_, rfl, p, C, dx, _, _, rfl, s1 _ _ h1, CT.cl, CT.nG, fld_g _ _ _ _, _, rfl, aG, _, rfl, (by rw [← e]; exact DGet.k (k := Sum.inr m.1) (s1 _ _ h5)), t, _, rfl, .inr (SqT.of ht), fun q nq => ?_⟩
    exact k _ q (s1.trans (same_new nq)) (s1.free nq) upd_same
end
end Uf
end
/-! UfR3b -/
section
set_option Elab.async false
set_option linter.all false
set_option maxRecDepth 100000
set_option maxHeartbeats 4000000
namespace L2
open PySem PySem.Spec PyProof.Rows UfSrt
section
variable {X : Cx}
def tDisp1T (tk tv : TE) : TE := fun σ H Q => ∀ p, H p = none → tk σ (upd H p (.dT [])) fun x H1 => tv σ H1 fun y H2 => H2 p = some (.dT []) ∧ ∃ ks b, x = .ref b ∧ H2 b = some (.tup (ks.map kV)) ∧ Q (.ref p) (upd H2 p (.dT [(ks, y)]))
theorem ne_nil : OpR X (compareOp .NotEq) (fun x y H Q => ∃ a b xs, x = .ref a ∧ y = .ref b ∧ X.A.units < cLine ∧ SqL X.K H a xs ∧ SqL X.K H b [] ∧ Q (.bl (!xs.isEmpty)) H) := by
  intro pins s σ H x y v u Q I rx ry h
  obtain ⟨a, b, xs, rfl, rfl, hu, ha, hb, q⟩ := h
  cases rx
  cases ry
  obtain ⟨its, r1, p1, _⟩ := I.list ha
  obtain ⟨its2, r2, p2, _⟩ := I.list hb
  cases r2
  cases r1 with
  | nil => exact PySem.SeqAt.RcNeAt.lists (e := fun _ => true) p1.isList p2.isList rfl hu (fun j h1 _ => absurd h1 (by simp)) X.prog X.w X.xe _ ⟨.bl false, H, I, rfl, q⟩
  | cons _ _ => exact PySem.SeqAt.RcNeAt.lists_lengths p1.isList p2.isList (by simp) hu X.prog X.w X.xe _ ⟨.bl true, H, I, rfl, q⟩
theorem eq_nil : OpR X (compareOp .Eq) (fun x y H Q => ∃ a b xs, x = .ref a ∧ y = .ref b ∧ X.A.units < cLine ∧ SqL X.K H a xs ∧ SqL X.K H b [] ∧ Q (.bl xs.isEmpty) H) := by
  intro pins s σ H x y v u Q I rx ry h
  obtain ⟨a, b, xs, rfl, rfl, hu, ha, hb, q⟩ := h
  cases rx
  cases ry
  obtain ⟨its, r1, p1, _⟩ := I.list ha
  obtain ⟨its2, r2, p2, _⟩ := I.list hb
  cases r2
  cases r1 with
  | nil => exact PySem.SeqAt.RcAt.lists (e := fun _ => true) p1.isList p2.isList rfl hu (fun j h1 _ => absurd h1 (by simp)) X.prog X.w X.xe _ ⟨.bl true, H, I, rfl, q⟩
  | cons _ _ => exact PySem.SeqAt.RcAt.lists_lengths p1.isList p2.isList (by simp) hu X.prog X.w X.xe _ ⟨.bl false, H, I, rfl, q⟩
def repS (x : Str) (n : Nat) : Str := ⟨(List.replicate n x.cps).foldl (· ++ ·) #[]⟩
def rSlS : V → Option Int → Option Int → Hp → VK → Prop := fun x lo hi H Q => ∃ z : Str, x = .str z ∧ z.length ≤ sizeLine ∧ Q (.str (Txt.slice z lo hi)) H
theorem sl_str : SlR X rSlS := by
  intro pins s σ H x v vl vu lo hi sl Q I rx hs pl pu h
  obtain ⟨z, rfl, hz, q⟩ := h
  obtain ⟨t, rfl⟩ := rx
  refine ⟨"str", _, PySem.F.slot_str_getitem.lookup, typeIs_str _ _ _, ?_⟩
  cases pl with
  | none =>
    cases pu with
    | none => exact wpAny_getItem_str_slice (l := none) (u := none) (st := none) hs rfl (post_val_or_str ⟨Nat.le_trans (Txt.slice_le z _ _) hz, fun t' k => ⟨.str _, H, I.tok k, ⟨_, rfl⟩, q⟩⟩)
    | int j uj => exact wpAny_getItem_str_slice (l := none) (u := some (j, uj)) (st := none) hs rfl (post_val_or_str ⟨Nat.le_trans (Txt.slice_le z _ _) hz, fun t' k => ⟨.str _, H, I.tok k, ⟨_, rfl⟩, q⟩⟩)
  | int i ui =>
    cases pu with
    | none => exact wpAny_getItem_str_slice (l := some (i, ui)) (u := none) (st := none) hs rfl (post_val_or_str ⟨Nat.le_trans (Txt.slice_le z _ _) hz, fun t' k => ⟨.str _, H, I.tok k, ⟨_, rfl⟩, q⟩⟩)
    | int j uj => exact wpAny_getItem_str_slice (l := some (i, ui)) (u := some (j, uj)) (st := none) hs rfl (post_val_or_str ⟨Nat.le_trans (Txt.slice_le z _ _) hz, fun t' k => ⟨.str _, H, I.tok k, ⟨_, rfl⟩, q⟩⟩)
end
end L2
end
/-! UfNm -/
section
set_option Elab.async false
set_option linter.all false
set_option maxRecDepth 100000
set_option maxHeartbeats 4000000
namespace Uf
open PySem L2 UfSrt UfFin
theorem abc_codes : abc.cps.toList = (List.range 26).map (· + 97) := by decide +kernel
def Letters (l : List Nat) : Prop := ∀ c ∈ l, 97 ≤ c ∧ c ≤ 122
theorem unlike_nm {xs : List Str} (h : unlike xs = true) {x : Str} (hx : x ∈ xs) : isNm x = true := List.all_eq_true.mp (Bool.and_eq_true_iff.mp h).1 x hx
end Uf
end
/-! UfStr -/
section
set_option Elab.async false
set_option linter.all false
set_option maxRecDepth 100000
set_option maxHeartbeats 4000000
namespace UfStr
open PySem PySem.Builtin PySem.Builtin.Str PySem.StrLaws
theorem str_ext {x y : PySem.Str} (h : x.cps.toList = y.cps.toList) : x = y := by
  cases x with
  | mk a =>
    cases y with
    | mk b =>
      have : a = b := Array.toList_inj.mp h
      rw [this]
theorem app_codes (x y : PySem.Str) : (x ++ y).cps.toList = x.cps.toList ++ y.cps.toList := by
  show (x.cps ++ y.cps).toList = _
  simp
theorem len_codes (x : PySem.Str) : x.length = x.cps.toList.length := by simp [PySem.Str.length]
theorem at_head {x y : PySem.Str} {s k : Nat} {r : List Nat} (hy : y.cps.toList = s :: r) (h : At x y x.length k) : x.cps.toList[k]? = some s := by
  have h2 := h.2
  rw [subAt_eq] at h2
  have h3 := eq_of_beq h2
  rw [hy, len_codes y, hy] at h3
  have h4 := congrArg (fun l : List Nat => l[0]?) h3
  simp only [List.length_cons] at h4
  rw [List.getElem?_take_of_lt (by lia), List.getElem?_drop] at h4
  simpa using h4
theorem at_of {x y : PySem.Str} {pre rest : List Nat} (h : x.cps.toList = pre ++ (y.cps.toList ++ rest)) : At x y x.length pre.length := by
  refine ⟨?_, ?_⟩
  · rw [len_codes x, len_codes y, h, List.length_append, List.length_append]
    lia
  · rw [subAt_eq, h, List.drop_left' rfl, len_codes y, List.take_left' rfl]
    simp
theorem join_two (y p q : PySem.Str) (ps : List PySem.Str) : PySem.Str.join y (p :: q :: ps) = p ++ y ++ PySem.Str.join y (q :: ps) := rfl
theorem parts_join {x y : PySem.Str} {s : Nat} {r : List Nat} (hy : y.cps.toList = s :: r) : ∀ (ps : List PySem.Str) (p : PySem.Str) (pre : List Nat) (cuts : List Nat) (f : Nat), (∀ q ∈ p :: ps, s ∉ q.cps.toList) →
    x.cps.toList = pre ++ (PySem.Str.join y (p :: ps)).cps.toList → ChainG x y x.length pre.length cuts f → (∀ k, f ≤ k → ¬ At x y x.length k) → partsFrom x y.length pre.length cuts = p :: ps
  | [], p, pre, cuts, f, hf, hx, hc, hn => by
    have hx : x.cps.toList = pre ++ p.cps.toList := hx
    have no : ∀ k, pre.length ≤ k → ¬ At x y x.length k := fun k hk hA => by
      have h1 := at_head hy hA
      rw [hx, List.getElem?_append_right hk] at h1
      exact hf p List.mem_cons_self (List.mem_of_getElem? h1)
    cases cuts with
    | nil =>
      show [strSub x pre.length x.length] = [p]
      congr 1
      refine str_ext ?_
      rw [strSub_toList, hx, List.drop_left' rfl]
      refine List.take_of_length_le ?_
      rw [len_codes x, hx, List.length_append]
      lia
    | cons c cs => exact absurd hc.2.1 (no c hc.1)
  | q :: ps, p, pre, cuts, f, hf, hx, hc, hn => by
    have hx2 : x.cps.toList = (pre ++ p.cps.toList) ++ (y.cps.toList ++ (PySem.Str.join y (q :: ps)).cps.toList) := by
      rw [hx, join_two, app_codes, app_codes]
      simp
    have hA := at_of hx2
    rw [List.length_append] at hA
    cases cuts with
    | nil =>
      have e : f = pre.length := hc
      exact absurd hA (hn _ (by lia))
    | cons c cs =>
      obtain ⟨h1, h2, h3, h4⟩ := hc
      have hle : c ≤ pre.length + p.cps.toList.length := Nat.le_of_not_lt fun z => h3 _ (by lia) z hA
      have hge : pre.length + p.cps.toList.length ≤ c := Nat.le_of_not_lt fun z => by
        have e1 := at_head hy h2
        rw [hx2, List.append_assoc, List.getElem?_append_right h1, List.getElem?_append_left (by lia)] at e1
        exact hf p List.mem_cons_self (List.mem_of_getElem? e1)
      have ec : c = pre.length + p.cps.toList.length := by lia
      have el : c + y.length = ((pre ++ p.cps.toList) ++ y.cps.toList).length := by rw [List.length_append, List.length_append, len_codes y, ec]
      show strSub x pre.length c :: partsFrom x y.length (c + y.length) cs = p :: q :: ps
      have first : strSub x pre.length c = p := by
        refine str_ext ?_
        rw [strSub_toList, hx2, List.append_assoc, List.drop_left' rfl, ec]
        have : pre.length + p.cps.toList.length - pre.length = p.cps.toList.length := by lia
        rw [this, List.take_left' rfl]
      rw [first, el]
      rw [el] at h4
      rw [parts_join hy ps q _ cs f (fun z hz => hf z (List.mem_cons_of_mem _ hz)) (by rw [hx2]; simp) h4 hn]
theorem kind_pos (x : PySem.Str) : 1 ≤ Builtin.Str.strKind x := by
  unfold Builtin.Str.strKind
  split
  · lia
  · split <;> lia
theorem split_join {y : PySem.Str} {s : Nat} {r : List Nat} (hy : y.cps.toList = s :: r) (hk : Builtin.Str.strKind y = 1) {p : PySem.Str} {ps : List PySem.Str} (hf : ∀ q ∈ p :: ps, s ∉ q.cps.toList) :
    Txt.split (PySem.Str.join y (p :: ps)) y = p :: ps := by
  generalize hx : PySem.Str.join y (p :: ps) = x
  have hl : y.length = r.length + 1 := by rw [len_codes, hy]; rfl
  obtain ⟨f, hc, hn⟩ := occ_tight x y (by lia)
  have key := parts_join hy ps p [] (occurrences x y 0 x.length (x.length + 1)) f hf (by rw [hx]; rfl) hc hn
  unfold Txt.split
  split
  · rename_i h
    rw [Bool.or_eq_true, decide_eq_true_eq, decide_eq_true_eq] at h
    have hk2 := kind_pos x
    have hlt : x.length < y.length := by lia
    cases hcu : occurrences x y 0 x.length (x.length + 1) with
    | nil =>
      rw [hcu] at key
      rw [← key]
      show [x] = [strSub x 0 x.length]
      rw [sub_whole]
    | cons c cs =>
      rw [hcu] at hc
      have := hc.2.1.1
      lia
  · split
    · rename_i h
      rw [List.isEmpty_iff] at h
      rw [h] at key
      rw [← key]
      show [x] = [strSub x 0 x.length]
      rw [sub_whole]
    · rw [partsBetween_eq]
      exact key
end UfStr
namespace L2
open PySem PySem.Spec PyProof.Rows UfSrt
theorem txs_vals : ∀ {xs : List Str} {us : List Value}, Vals (txs xs) us → ∃ l : List (Str × Tok), us = strValues l ∧ l.map (·.1) = xs
  | [], _, .nil => ⟨[], rfl, rfl⟩
  | x :: xs, _, .cons r t => by
    obtain ⟨tk, rfl⟩ := r
    obtain ⟨l, rfl, e⟩ := txs_vals t
    exact ⟨(x, tk) :: l, rfl, by rw [List.map_cons, e]⟩
theorem vals_txs : ∀ (l : List (Str × Tok)), Vals (txs (l.map (·.1))) (strValues l)
  | [] => .nil
  | p :: l => .cons ⟨p.2, rfl⟩ (vals_txs l)
section
variable {X : Cx}
def rJoin (K : PySem.W.Frag) : V → List V → Hp → VK → Prop := fun x vs H Q => ∃ (y : Str) (a : Addr) (xs : List Str), x = .str y ∧ vs = [.ref a] ∧ SqL K H a (txs xs) ∧ JoinOk y xs = true ∧ Q (.str (Str.join y xs)) H
theorem mt_join : MtM X "str.join" (rJoin X.K) := by
  intro pins s σ H x vs v us Q I rx rv h
  obtain ⟨y, a, xs, rfl, rfl, ha, ok, q⟩ := h
  obtain ⟨t, rfl⟩ := rx
  obtain ⟨u, rfl, ru⟩ := rv.one
  cases ru
  obtain ⟨its, r, pl, hz⟩ := I.list ha
  obtain ⟨l, rfl, e⟩ := txs_vals r
  refine SC.join pl.isList e ok fun t' k => ⟨.str _, H, I.tok _, ⟨t', ?_⟩, q⟩
  show Value.str (Txt.join y xs) t' = Value.str (Str.join y xs) t'
  rw [show Txt.join y xs = Str.join y xs from StrLaws.glued_eq_join y xs]
def rSplit : V → List V → Hp → VK → Prop := fun x vs H Q => ∃ (z y : Str), x = .str z ∧ vs = [.str y] ∧ 1 ≤ y.length ∧ z.length + 2 ≤ sizeLine ∧ ∀ p, H p = none → Q (.ref p) (upd H p (.lst (txs (Txt.split z y))))
theorem mt_split : MtM X "str.split" rSplit := by
  intro pins s σ H x vs v us Q I rx rv h
  obtain ⟨z, y, rfl, rfl, hy, hz, q⟩ := h
  obtain ⟨t, rfl⟩ := rx
  obtain ⟨u, rfl, ru⟩ := rv.one
  obtain ⟨t', rfl⟩ := ru
  have parts : (Builtin.Str.partsBetween z (Builtin.Str.occurrences z y 0 z.length (z.length + 1)) y.length).length ≤ z.length + 2 := by
    unfold Builtin.Str.partsBetween
    rw [List.length_map, List.length_zip, List.length_cons, List.length_map]
    have := StrLaws.occ_length_le z y 0 z.length (z.length + 1)
    lia
  have hn : (Builtin.Str.partsBetween z (Builtin.Str.occurrences z y 0 z.length (z.length + 1)) y.length).length ≤ sizeLine := Nat.le_trans parts hz
  have fin : ∀ {l : List (Str × Tok)} {k : Nat} {xs : List Str}, l.map (·.1) = Txt.split z y → xs.length ≤ sizeLine → xs = Txt.split z y → EP X pins σ Q (.ref s.heap.objs.size) { s with heap := s.heap.push { cls := .type "list", data := .seq (strValues l).toArray }, toks := k } := fun {l k xs} e hl ex =>
    ⟨.ref s.heap.objs.size, _, I.lnew (ys := txs (Txt.split z y)) (by rw [← e]; exact vals_txs l) (by rw [strs_length, ← ex]; exact hl), rfl, q _ I.fresh⟩
  have hy0 : (y.length == 0) = false := by
    rw [beq_eq_false_iff_ne]
    lia
  have one : (1 : Nat) ≤ sizeLine := by lia
  cases h1 : (decide (z.length < y.length) || decide (Builtin.Str.strKind z < Builtin.Str.strKind y))
  · cases hf : (Builtin.Str.occurrences z y 0 z.length (z.length + 1)).isEmpty
    · refine call_meets F.slot_str_split (typeIs_str _ _ _) F.entry_str_split (F.args_str_split_2 _ _) (meets_str_split_sep z y t t' h1 hy0 hf (by lia) hn) ?_
      show EP X pins σ Q _ { s with toks := _, heap := s.heap.push { cls := .type "list", data := .seq (strsFrom s.toks (Builtin.Str.partsBetween z (Builtin.Str.occurrences z y 0 z.length (z.length + 1)) y.length)).toArray } }
      rw [strsFrom_eq]
      have e : Builtin.Str.partsBetween z (Builtin.Str.occurrences z y 0 z.length (z.length + 1)) y.length = Txt.split z y := ((if_neg (ne_true_of_eq_false h1)).trans (if_neg (ne_true_of_eq_false hf))).symm
      exact fin ((numbered_texts _ _).trans e) hn e
    · have e : [z] = Txt.split z y := ((if_neg (ne_true_of_eq_false h1)).trans (if_pos hf)).symm
      exact call_meets F.slot_str_split (typeIs_str _ _ _) F.entry_str_split (F.args_str_split_2 _ _) (meets_str_split_not_found z y t t' h1 hy0 hf) (fin (l := [(z, t)]) (k := s.toks) e (show [z].length ≤ sizeLine from one) e)
  · have e : [z] = Txt.split z y := (if_pos h1).symm
    exact call_meets F.slot_str_split (typeIs_str _ _ _) F.entry_str_split (F.args_str_split_2 _ _) (meets_str_split_cannot_occur z y t t' h1) (fin (l := [(z, t)]) (k := s.toks) e (show [z].length ≤ sizeLine from one) e)
theorem mt_ends : MtM X "str.endswith" (fun x vs H Q => ∃ z y, x = .str z ∧ vs = [.str y] ∧ Q (.bl (Txt.endswith z y)) H) := by
  intro pins s σ H x vs v us Q I rx rv h
  obtain ⟨z, y, rfl, rfl, q⟩ := h
  obtain ⟨t, rfl⟩ := rx
  obtain ⟨u, rfl, ru⟩ := rv.one
  obtain ⟨t', rfl⟩ := ru
  exact SC.endswith ⟨.bl _, H, I, rfl, q⟩
end
end L2
end
/-! UfS1 -/
section
set_option Elab.async false
set_option linter.all false
set_option maxRecDepth 100000
set_option maxHeartbeats 4000000
namespace Uf
open PySem L2 UfSrt UfStr
theorem join_codes (y : Str) : ∀ (xs : List Str) (x : Str), (Str.join y (x :: xs)).cps.toList = x.cps.toList ++ (xs.map fun z => y.cps.toList ++ z.cps.toList).flatten
  | [], x => by
    show x.cps.toList = _
    simp
  | z :: xs, x => by
    rw [join_two, UfStr.app_codes, UfStr.app_codes, join_codes y xs z]
    simp
def lstT (xs : List Str) : Str := Str.join "" (xs.map fun x => (" " : Str) ++ x)
theorem c_blank : (" " : Str).cps.toList = [32] := by decide +kernel
theorem c_none : ("" : Str).cps.toList = [] := by decide +kernel
theorem c_colon : (":" : Str).cps.toList = [58] := by decide +kernel
theorem c_gives : (">" : Str).cps.toList = [62] := by decide +kernel
theorem c_bgives : (" >" : Str).cps.toList = [32, 62] := by decide +kernel
theorem c_start : ("start" : Str).cps.toList = [115, 116, 97, 114, 116] := by decide +kernel
theorem lst_codes (xs : List Str) : (lstT xs).cps.toList = (xs.map fun x => 32 :: x.cps.toList).flatten := by
  unfold lstT
  cases xs with
  | nil =>
    show ("" : Str).cps.toList = _
    rw [c_none]
    rfl
  | cons x xs =>
    rw [List.map_cons, join_codes, UfStr.app_codes, c_blank, List.map_map, List.map_cons, List.flatten_cons]
    show 32 :: x.cps.toList ++ _ = 32 :: x.cps.toList ++ _
    congr 2
    refine List.map_congr_left fun z _ => ?_
    show ("" : Str).cps.toList ++ ((" " : Str) ++ z).cps.toList = _
    rw [c_none, UfStr.app_codes, c_blank]
    rfl
def startT (S : List Str) : Str := Str.join " " ("start" :: S)
def lineT (m : Mv) : Str := Str.join " " ((m.1 ++ ":") :: (m.2.1 ++ (">" : Str) :: m.2.2))
def textT (ms : List Mv) (S : List Str) : Str := Str.join "; " (startT S :: ms.map lineT)
theorem blank_codes (x : Str) (xs : List Str) : (Str.join " " (x :: xs)).cps.toList = x.cps.toList ++ (xs.map fun z => 32 :: z.cps.toList).flatten := by
  rw [join_codes, c_blank]
  rfl
theorem startT_eq (S : List Str) : ("start" : Str) ++ lstT S = startT S := by
  refine UfStr.str_ext ?_
  unfold startT
  rw [blank_codes, UfStr.app_codes, lst_codes]
theorem lineT_eq (x : Str) (tk gv : List Str) : x ++ ":" ++ lstT tk ++ " >" ++ lstT gv = lineT (x, tk, gv) := by
  refine UfStr.str_ext ?_
  unfold lineT
  rw [blank_codes]
  simp only [UfStr.app_codes, lst_codes, List.map_append, List.map_cons, List.flatten_append, List.flatten_cons, c_bgives, c_gives, List.append_assoc]
theorem nm_codes {x : Str} (h : isNm x = true) {c : Nat} (hc : c ∈ x.cps.toList) : 97 ≤ c ∧ c ≤ 122 := by
  unfold isNm at h
  have h1 := (Bool.and_eq_true_iff.mp (Bool.and_eq_true_iff.mp h).2).2
  have h2 := of_decide_eq_true (List.all_eq_true.mp h1 c hc)
  rw [abc_codes] at h2
  obtain ⟨k, hk, rfl⟩ := List.mem_map.mp h2
  have := List.mem_range.mp hk
  lia
theorem line_words {m : Mv} (h1 : isNm m.1 = true) (h2 : ∀ x ∈ m.2.1, isNm x = true) (h3 : ∀ x ∈ m.2.2, isNm x = true) {s : Nat} (hs : s < 97) (h58 : s ≠ 58) (h62 : s ≠ 62) : ∀ z ∈ (m.1 ++ ":") :: (m.2.1 ++ (">" : Str) :: m.2.2), s ∉ z.cps.toList := fun z hz hm => by
  have nm : ∀ {x : Str}, isNm x = true → s ∈ x.cps.toList → False := fun hx hc => by have := nm_codes hx hc; lia
  rcases List.mem_cons.mp hz with rfl | hz
  · rw [UfStr.app_codes, c_colon] at hm
    rcases List.mem_append.mp hm with e | e
    · exact nm h1 e
    · exact h58 (by simpa using e)
  · rcases List.mem_append.mp hz with e | e
    · exact nm (h2 z e) hm
    · rcases List.mem_cons.mp e with rfl | e
      · rw [c_gives] at hm
        exact h62 (by simpa using hm)
      · exact nm (h3 z e) hm
theorem k_blank : Builtin.Str.strKind (" " : Str) = 1 := by decide +kernel
def NmMv (m : Mv) : Prop := isNm m.1 = true ∧ (∀ x ∈ m.2.1, isNm x = true) ∧ ∀ x ∈ m.2.2, isNm x = true
theorem split_start {S : List Str} (hS : ∀ x ∈ S, isNm x = true) : Txt.split (startT S) " " = ("start" : Str) :: S := by
  refine split_join c_blank k_blank fun q hq hm => ?_
  rcases List.mem_cons.mp hq with rfl | hq
  · rw [c_start] at hm
    exact absurd hm (by decide)
  · have := nm_codes (hS q hq) hm
    lia
theorem split_line {m : Mv} (h : NmMv m) : Txt.split (lineT m) " " = (m.1 ++ ":") :: (m.2.1 ++ (">" : Str) :: m.2.2) :=
  split_join c_blank k_blank (line_words h.1 h.2.1 h.2.2 (by decide) (by decide) (by decide))
theorem nm_ne_gives {x : Str} (h : isNm x = true) : x ≠ ">" := fun e => by
  have := nm_codes h (c := 62) (by rw [e, c_gives]; simp)
  lia
theorem colon_ne_gives (x : Str) : x ++ ":" ≠ ">" := fun e => by
  have := congrArg (fun z : Str => z.cps.toList.getLast?) e
  simp only [UfStr.app_codes, c_colon, c_gives] at this
  simp at this
theorem len_join {y : Str} {n : Nat} : ∀ (xs : List Str), (∀ x ∈ xs, x.length ≤ n) → (Str.join y xs).length ≤ xs.length * (n + y.length)
  | [], _ => by
    show ("" : Str).length ≤ _
    rw [UfStr.len_codes, c_none]
    exact Nat.zero_le _
  | x :: xs, h => by
    rw [UfStr.len_codes, join_codes, List.length_append]
    have h1 := h x List.mem_cons_self
    rw [UfStr.len_codes] at h1
    have h2 : (xs.map fun z => y.cps.toList ++ z.cps.toList).flatten.length ≤ xs.length * (n + y.length) := by
      have : ∀ l : List Str, (∀ x ∈ l, x.length ≤ n) → (l.map fun z => y.cps.toList ++ z.cps.toList).flatten.length ≤ l.length * (n + y.length) := fun l => by
        induction l with
        | nil => intro _; exact Nat.zero_le _
        | cons z l ih =>
          intro hl
          have e1 := ih fun x hx => hl x (List.mem_cons_of_mem _ hx)
          have e2 := hl z List.mem_cons_self
          rw [UfStr.len_codes] at e2
          rw [List.map_cons, List.flatten_cons, List.length_append, List.length_append, List.length_cons, Nat.succ_mul, UfStr.len_codes y]
          rw [UfStr.len_codes y] at e1
          lia
      exact this xs fun x hx => h x (List.mem_cons_of_mem _ hx)
    rw [List.length_cons, Nat.succ_mul]
    have := UfStr.len_codes y
    lia
end Uf
end
/-! UfY1 -/
section
set_option Elab.async false
set_option linter.all false
set_option maxRecDepth 100000
set_option maxHeartbeats 4000000
namespace Uf
open PySem L2 UfSrt UfStr PySem.Builtin PySem.Builtin.Str PySem.StrLaws
def findF (x y : PySem.Str) (a : Nat) : Int := match occurrences x y a x.length 1 with | k :: _ => (k : Int) | [] => -1
theorem range_pre {lo n a : Nat} {pre post : List Nat} (h : List.range' lo n = pre ++ a :: post) : lo ≤ a ∧ ∀ k, lo ≤ k → k < a → k ∈ pre := by
  have hL : n = pre.length + (post.length + 1) := by
    have := congrArg List.length h
    simpa using this
  have h1 : (List.range' lo n)[pre.length]? = some a := by rw [h]; simp
  rw [List.getElem?_range' (by lia)] at h1
  have e : lo + pre.length = a := by simpa using h1
  refine ⟨by lia, fun k h2 h3 => ?_⟩
  have h4 : (List.range' lo n)[k - lo]? = pre[k - lo]? := by rw [h, List.getElem?_append_left (by lia)]
  rw [List.getElem?_range' (by lia)] at h4
  have e2 : lo + 1 * (k - lo) = k := by lia
  rw [e2] at h4
  exact List.mem_of_getElem? h4.symm
theorem find_first (x y : PySem.Str) (a : Nat) : (findF x y a = -1 ∧ ∀ k, a ≤ k → ¬ At x y x.length k) ∨ ∃ k : Nat, findF x y a = (k : Int) ∧ a ≤ k ∧ At x y x.length k ∧ ∀ j, a ≤ j → j < k → ¬ At x y x.length j := by
  unfold findF
  rw [occ_eq]
  rcases occ_first x y x.length 1 (Nat.le_refl _) (List.range' a (x.length + 1 - a)) a (fun i hi => (List.mem_range'_1.mp hi).1) with ⟨h0, hn⟩ | ⟨pre, b, post, e, h0, hb, hn⟩
  · left
    rw [h0]
    refine ⟨rfl, fun k hk hA => hn k (List.mem_range'_1.mpr ⟨hk, ?_⟩) hA⟩
    have := hA.1
    lia
  · right
    obtain ⟨h1, h2⟩ := range_pre e
    generalize (forIn (List.range' a (x.length + 1 - a)) ((#[] : Array Nat), a) (occBody x y x.length 1)).run.fst = r at h0
    obtain ⟨l⟩ := r
    cases l with
    | nil => simp at h0
    | cons c l =>
      have ec : c = b := by simpa using h0
      subst ec
      exact ⟨c, rfl, h1, hb, fun j hj hjc => hn j (h2 j hj hjc)⟩
theorem find_is {x y : PySem.Str} {a k : Nat} (h1 : a ≤ k) (h2 : At x y x.length k) (h3 : ∀ j, a ≤ j → j < k → ¬ At x y x.length j) : findF x y a = (k : Int) := by
  rcases find_first x y a with ⟨_, h⟩ | ⟨i, e, h4, h5, h6⟩
  · exact absurd h2 (h k h1)
  · rcases Nat.lt_trichotomy i k with c | c | c
    · exact absurd h5 (h3 i h4 c)
    · rw [e, c]
    · exact absurd h2 (h6 k h1 c)
theorem split_ne (x y : PySem.Str) : ∃ p r, Txt.split x y = p :: r := by
  unfold Txt.split
  split
  · exact ⟨_, _, rfl⟩
  · split
    · exact ⟨_, _, rfl⟩
    · rw [partsBetween_eq]
      exact partsFrom_ne ..
theorem ends_with {w y : PySem.Str} (h : Txt.endswith w y = true) : ∃ n, w = n ++ y := by
  unfold Txt.endswith at h
  rw [Bool.and_eq_true, decide_eq_true_eq, subAt_eq] at h
  have h2 := eq_of_beq h.2
  refine ⟨strSub w 0 (w.length - y.length), UfStr.str_ext ?_⟩
  rw [UfStr.app_codes, strSub_toList, ← h2]
  rw [List.drop_zero, Nat.sub_zero]
  have e : (w.cps.toList.drop (w.length - y.length)).take y.length = w.cps.toList.drop (w.length - y.length) := List.take_of_length_le (by rw [List.length_drop, ← UfStr.len_codes]; lia)
  rw [e, List.take_append_drop]
def NamesOf (t : PySem.Str) (xs : List PySem.Str) : Prop := (∀ x ∈ xs, isNm x = true) ∧ t = lstT xs
theorem lst_words (xs : List PySem.Str) : lstT xs = PySem.Str.join " " ("" :: xs) := by
  refine UfStr.str_ext ?_
  rw [blank_codes, lst_codes, c_none]
  rfl
theorem namesOf_words {t : PySem.Str} {ws : List PySem.Str} (h : Txt.split t " " = ("" : PySem.Str) :: ws) (hn : ∀ x ∈ ws, isNm x = true) : NamesOf t ws := by
  refine ⟨hn, ?_⟩
  rw [lst_words, ← h, join_split]
theorem words_namesOf {t : PySem.Str} {xs : List PySem.Str} (h : NamesOf t xs) : Txt.split t " " = ("" : PySem.Str) :: xs := by
  rw [h.2, lst_words]
  refine split_join c_blank k_blank fun q hq hm => ?_
  rcases List.mem_cons.mp hq with rfl | hq
  · rw [c_none] at hm
    cases hm
  · have := nm_codes (h.1 q hq) hm
    lia
theorem namesOf_none : NamesOf "" [] := And.intro (fun _ h => nomatch h) rfl
theorem NamesOf.uniq {t : PySem.Str} {xs ys : List PySem.Str} (h : NamesOf t xs) (h2 : NamesOf t ys) : xs = ys := by
  have e := words_namesOf h
  rw [words_namesOf h2] at e
  exact (List.cons.inj e).2.symm
theorem start_split {p : PySem.Str} {S : List PySem.Str} (h : Txt.split p " " = ("start" : PySem.Str) :: S) : p = startT S := by
  unfold startT
  rw [← h, join_split]
def Line (p : PySem.Str) (m : Mv) : Prop := NmMv m ∧ p = lineT m
theorem words_line {p n : PySem.Str} {tk gv : List PySem.Str} (h : Txt.split p " " = (n ++ ":") :: (tk ++ (">" : PySem.Str) :: gv)) : p = lineT (n, tk, gv) := by
  unfold lineT
  rw [← h, join_split]
theorem Line.uniq {p : PySem.Str} {m m2 : Mv} (h : Line p m) (h2 : Line p m2) : m = m2 := by
  have e := split_line h.1
  rw [← h.2, h2.2, split_line h2.1] at e
  obtain ⟨e1, e2⟩ := List.cons.inj e
  have e3 : m2.1 = m.1 := by
    have := congrArg (fun z : PySem.Str => z.cps.toList) e1
    simp only [UfStr.app_codes] at this
    exact UfStr.str_ext (List.append_cancel_right this)
  have gen : ∀ (a b c d : List PySem.Str), (∀ x ∈ a, x ≠ ">") → (∀ x ∈ b, x ≠ ">") → a ++ (">" : PySem.Str) :: c = b ++ (">" : PySem.Str) :: d → a = b ∧ c = d := fun a => by
    induction a with
    | nil =>
      intro b c d _ hb e
      cases b with
      | nil => exact ⟨rfl, (List.cons.inj e).2⟩
      | cons y b => exact absurd (List.cons.inj e).1.symm (hb y List.mem_cons_self)
    | cons x a ih =>
      intro b c d ha hb e
      cases b with
      | nil => exact absurd (List.cons.inj e).1 (ha x List.mem_cons_self)
      | cons y b =>
        obtain ⟨e1, e2⟩ := List.cons.inj e
        obtain ⟨e3, e4⟩ := ih b c d (fun z hz => ha z (List.mem_cons_of_mem _ hz)) (fun z hz => hb z (List.mem_cons_of_mem _ hz)) e2
        exact ⟨by rw [e1, e3], e4⟩
  obtain ⟨e4, e5⟩ := gen _ _ _ _ (fun x hx => nm_ne_gives (h2.1.2.1 x hx)) (fun x hx => nm_ne_gives (h.1.2.1 x hx)) e2
  obtain ⟨a, b, c⟩ := m
  obtain ⟨a2, b2, c2⟩ := m2
  dsimp only at e3 e4 e5
  rw [e3, e4, e5]
theorem law_line {p : PySem.Str} {k j : Nat} {tk gv : List PySem.Str} (hk : At p ":" p.length k) (hj : k + 1 ≤ j) (hj2 : At p " >" p.length j) (hn : isNm (strSub p 0 k) = true) (ht : NamesOf (strSub p (k + 1) j) tk) (hg : NamesOf (strSub p (j + 2) p.length) gv) : Line p (strSub p 0 k, tk, gv) := by
  refine ⟨⟨hn, ht.1, hg.1⟩, ?_⟩
  rw [← lineT_eq, ← ht.2, ← hg.2]
  have e1 := sub_cat p ":" (Nat.zero_le k) hk
  have e2 := sub_cat p " >" hj hj2
  rw [show (":" : PySem.Str).length = 1 from rfl, sub_whole] at e1
  rw [show (" >" : PySem.Str).length = 2 from rfl] at e2
  rw [← e2] at e1
  refine e1.symm.trans ?_
  simp only [PySem.Str.append_assoc]
theorem at_codes {x y : PySem.Str} {k i c : Nat} (h : At x y x.length k) (hy : y.cps.toList[i]? = some c) : x.cps.toList[k + i]? = some c := by
  have h2 := h.2
  rw [subAt_eq] at h2
  have h3 := eq_of_beq h2
  have hi : i < y.length := by rw [UfStr.len_codes]; exact (List.getElem?_eq_some_iff.mp hy).1
  have h4 : ((x.cps.toList.drop k).take y.length)[i]? = y.cps.toList[i]? := by rw [h3]
  rw [List.getElem?_take_of_lt hi, List.getElem?_drop, hy] at h4
  exact h4
theorem line_law {p : PySem.Str} {m : Mv} (h : Line p m) : findF p ":" 0 = (m.1.length : Int) ∧ findF p " >" (m.1.length + 1) = ((m.1.length + 1 + (lstT m.2.1).length : Nat) : Int) ∧ strSub p 0 m.1.length = m.1 ∧
    strSub p (m.1.length + 1) (m.1.length + 1 + (lstT m.2.1).length) = lstT m.2.1 ∧ strSub p (m.1.length + 1 + (lstT m.2.1).length + 2) p.length = lstT m.2.2 := by
  obtain ⟨n, tk, gv⟩ := m
  obtain ⟨⟨hn, ht, hg⟩, e⟩ := h
  dsimp only at *
  rw [← lineT_eq] at e
  have ec : p.cps.toList = n.cps.toList ++ (58 :: ((lstT tk).cps.toList ++ (32 :: 62 :: (lstT gv).cps.toList))) := by
    rw [e]
    simp only [UfStr.app_codes, c_colon, c_bgives, List.append_assoc]
    rfl
  have hl : p.length = n.length + 1 + (lstT tk).length + 2 + (lstT gv).length := by
    rw [UfStr.len_codes p, ec, UfStr.len_codes n, UfStr.len_codes (lstT tk), UfStr.len_codes (lstT gv)]
    simp
    lia
  have a1 : At p ":" p.length n.length := by
    rw [UfStr.len_codes n]
    exact at_of (rest := (lstT tk).cps.toList ++ (32 :: 62 :: (lstT gv).cps.toList)) (by rw [ec, c_colon]; rfl)
  have a2 : At p " >" p.length (n.length + 1 + (lstT tk).length) := by
    have := at_of (x := p) (y := " >") (pre := n.cps.toList ++ (58 :: (lstT tk).cps.toList)) (rest := (lstT gv).cps.toList) (by rw [ec, c_bgives]; simp)
    rw [List.length_append, List.length_cons, ← UfStr.len_codes, ← UfStr.len_codes] at this
    rw [show n.length + 1 + (lstT tk).length = n.length + ((lstT tk).length + 1) by lia]
    exact this
  have lt : ∀ c ∈ (lstT tk).cps.toList, c ≠ 62 := fun c hc e => by
    rw [lst_codes] at hc
    obtain ⟨l, hl, hm⟩ := List.mem_flatten.mp hc
    obtain ⟨w, hw, rfl⟩ := List.mem_map.mp hl
    rcases List.mem_cons.mp hm with e2 | hm
    · lia
    · have := nm_codes (ht w hw) hm
      lia
  refine ⟨find_is (Nat.zero_le _) a1 fun j _ hj hA => ?_, find_is (by lia) a2 fun j h1 hj hA => ?_, ?_, ?_, ?_⟩
  · have h1 := at_codes (i := 0) (c := 58) hA (by rw [c_colon]; rfl)
    rw [ec, Nat.add_zero, List.getElem?_append_left (by rw [← UfStr.len_codes]; exact hj)] at h1
    have := nm_codes hn (List.mem_of_getElem? h1)
    lia
  · have h2 := at_codes (i := 1) (c := 62) hA (by rw [c_bgives]; rfl)
    have ln := UfStr.len_codes n
    have lk := UfStr.len_codes (lstT tk)
    rw [ec, List.getElem?_append_right (by lia), show j + 1 - n.cps.toList.length = (j - n.length) + 1 by lia, List.getElem?_cons_succ] at h2
    by_cases c : j - n.length < (lstT tk).cps.toList.length
    · rw [List.getElem?_append_left c] at h2
      exact lt _ (List.mem_of_getElem? h2) rfl
    · rw [List.getElem?_append_right (by lia), show j - n.length - (lstT tk).cps.toList.length = 0 by lia] at h2
      simp at h2
  · refine UfStr.str_ext ?_
    rw [strSub_toList, ec, List.drop_zero, Nat.sub_zero, UfStr.len_codes, List.take_left' rfl]
  · refine UfStr.str_ext ?_
    rw [strSub_toList, ec, show n.cps.toList ++ (58 :: ((lstT tk).cps.toList ++ (32 :: 62 :: (lstT gv).cps.toList))) = (n.cps.toList ++ [58]) ++ ((lstT tk).cps.toList ++ (32 :: 62 :: (lstT gv).cps.toList)) by simp, List.drop_left' (by rw [List.length_append, ← UfStr.len_codes]; rfl),
      show n.length + 1 + (lstT tk).length - (n.length + 1) = (lstT tk).length by lia, UfStr.len_codes, List.take_left' rfl]
  · refine UfStr.str_ext ?_
    rw [strSub_toList, ec, show n.cps.toList ++ (58 :: ((lstT tk).cps.toList ++ (32 :: 62 :: (lstT gv).cps.toList))) = (n.cps.toList ++ (58 :: ((lstT tk).cps.toList ++ [32, 62]))) ++ (lstT gv).cps.toList by simp, List.drop_left' (by simp only [List.length_append, List.length_cons, ← UfStr.len_codes]; simp; lia)]
    refine List.take_of_length_le ?_
    rw [← UfStr.len_codes]
    lia
theorem slice_sub (x : PySem.Str) {a b : Nat} (hab : a ≤ b) (hb : b ≤ x.length) : Txt.slice x (some (a : Int)) (some (b : Int)) = strSub x a b := by
  refine UfStr.str_ext ?_
  rw [strSub_toList]
  have := sliceText_nat x hab hb
  rw [show Txt.slice x (some (a : Int)) (some (b : Int)) = sliceText x (some (a : Int)) (some (b : Int)) from rfl, this]
theorem slice_lo (x : PySem.Str) {b : Nat} (hb : b ≤ x.length) : Txt.slice x none (some (b : Int)) = strSub x 0 b := by
  rw [← slice_sub x (Nat.zero_le b) hb]
  unfold Txt.slice
  rw [sliceIdx_none_lo]
  rfl
theorem slice_hi (x : PySem.Str) {a : Nat} (ha : a ≤ x.length) : Txt.slice x (some (a : Int)) none = strSub x a x.length := by
  rw [← slice_sub x ha (Nat.le_refl _)]
  unfold Txt.slice
  rw [sliceIdx_none_hi]
end Uf
end
/-! UfComp2 -/
section
set_option Elab.async false
set_option linter.all false
set_option maxRecDepth 100000
set_option maxHeartbeats 4000000
namespace L2
open PySem PySem.Spec PyProof.Rows
section
variable {X : Cx} {N : List Str} {n : Nat} {ci : List Nat} {sc : Scope}
theorem ps_comp {elt tg iter : Expr} {ifs : List Expr} {pos cpos py : Pos} {y : Str} {j : Nat} {wi : TI} {g : BX → TG} {tt : BX → TT} {te : BX → TE} (hc : X.calm = true) (hN : X.N.Nodup) (hj : X.N[j]? = some y) (hy : X.env.scope.names.lookup y = some .local) (hi : PI X tg iter wi) (S : CompScope X N n ci sc)
    (hb : ∀ z : BX, PG (cxB X sc N z) tg (g z) ∧ PTs (cxB X sc N z) ifs (tt z) ∧ PE (cxB X sc N z) elt (te z)) (hsw : swapsWith (.ListComp elt [⟨tg, iter, ifs, 0⟩] sc cpos) (some (.Name y py)) pos.line X.env = pure true := by rfl)
    (hs : ∀ x, foldedSetIterable iter X.env x = pure x := by intro _; rfl) : PS X (.Assign [.Name y py] (.ListComp elt [⟨tg, iter, ifs, 0⟩] sc cpos) pos) (tAsg (tComp n ci wi g tt te) (gName j)) := by
  intro pins s σ H D0 I h
  rw [exec_Assign_Name_used _ _ _ _ hsw]
  refine wpAny_bind (wpAny_standAt (wpAny_bind ?_))
  show wpAny _ X.A (do let _ ← comprehension (.ListComp elt [⟨tg, iter, ifs, 0⟩] sc cpos) sc X.env _ (newList []) false (eval iter X.env) (some (assign (.Name y py) X.env))) _ _ s
  refine wpAny_bind (wpAny_mono (wpAny_comprehension_free (use := some (assign (.Name y py) X.env)) (Q := fun _ s' => SP X pins D0 .next s') (E := X.xe) rfl hs (closure_is (S.hasC I.ok)) S.kind S.loc (thn (hi pins s σ H _ I h) fun v s1 h1 => thn h1 fun itv s2 h2 => ?_)) (fun _ s' hq => wpAny_pure (wpAny_pure hq)) fun _ _ e => e)
  obtain ⟨it, fp, tn, J, H2, e, I2, T, st2, f2, rd⟩ := h2
  subst e
  refine wpAny_newObj_type (wpAny_newFunctionEnv S.nocell (by intro y hy; simp at hy) (fun h₁ hns₁ hsb₁ => ?_) S.kind)
  dsimp only at hns₁ hsb₁ ⊢
  have hD : H2 s2.heap.objs.size = none := I2.hok.fresh (Nat.le_refl _)
  have I3 : Inv X pins σ (upd H2 s2.heap.objs.size (.lst [])) { s2 with heap := s2.heap.push { cls := .type "list", data := .seq ([] : List Value).toArray } } := I2.lnew (t' := s2.toks) (ys := []) (its := []) .nil (Nat.zero_le _)
  have ob2 : ∀ b ∈ fp, ∃ o, s2.heap.get? b = some o := fun b hb => let ⟨o, e, _⟩ := T.obj _ _ st2 b hb; ⟨o, e⟩
  have neD : ∀ b ∈ fp, b ≠ s2.heap.objs.size := fun b hb => let ⟨o, e⟩ := ob2 b hb; Nat.ne_of_lt (Heap.lt_size e)
  have f3 : ∀ b ∈ fp, FpOk X pins (upd H2 s2.heap.objs.size (.lst [])) b := fun b hb => ⟨by rw [upd_ne (neD b hb)]; exact (f2 b hb).1, (f2 b hb).2⟩
  have ob3 : ∀ b ∈ fp, ∃ o, (s2.heap.push { cls := .type "list", data := .seq ([] : List Value).toArray }).get? b = some o := fun b hb => let ⟨o, e⟩ := ob2 b hb; ⟨o, Heap.get?_push_of_some _ e⟩
  have k3 : ∀ b o, (s2.heap.push { cls := .type "list", data := .seq ([] : List Value).toArray }).get? b = some o → h₁.get? b = some o := fun b o e =>
    hsb₁.extBut b o (Nat.ne_of_lt (Heap.lt_size e)) (Heap.get?_push_of_some _ e)
  have I4 : Inv (cxB X sc N ⟨_, { s2 with heap := s2.heap.push { cls := .type "list", data := .seq ([] : List Value).toArray } }, upd H2 s2.heap.objs.size (.lst []), fp⟩) [] (blk n ci σ) (upd H2 s2.heap.objs.size (.lst []))
      { s2 with heap := h₁, toks := s2.toks + ([] : List (Str × Value)).length } := inv_block (s := { s2 with heap := s2.heap.push { cls := .type "list", data := .seq ([] : List Value).toArray } }) S I3 f3 ob3 k3 hns₁
  have st4 : tn 0 h₁ := T.keep _ _ _ st2 fun b hb o e => k3 b o (Heap.get?_push_of_some _ e)
  obtain ⟨M, W, w0, turn⟩ := rd ⟨_, { s2 with heap := s2.heap.push { cls := .type "list", data := .seq ([] : List Value).toArray } }, upd H2 s2.heap.objs.size (.lst []), fp⟩ s2.heap.objs.size hD
  obtain ⟨bg, bt, be⟩ := hb ⟨_, { s2 with heap := s2.heap.push { cls := .type "list", data := .seq ([] : List Value).toArray } }, upd H2 s2.heap.objs.size (.lst []), fp⟩
  have ok3 := cxB_ok S I3 f3 ob3
  have stat : ∀ {H' : Hp}, (∀ b ∈ fp, H' b = none) → ∀ b ∈ fp, FpOk (cxB X sc N ⟨_, { s2 with heap := s2.heap.push { cls := .type "list", data := .seq ([] : List Value).toArray } }, upd H2 s2.heap.objs.size (.lst []), fp⟩) [] H' b := fun hn b hb => by
    obtain ⟨_, f1, f2', _, f4, _⟩ := f3 b hb
    refine ⟨hn b hb, ?_, ok3.exfs b hb, .inl hb, fun x c e => ?_, fun p hp => absurd hp (by simp)⟩
    · exact Nat.ne_of_lt (let ⟨o, e⟩ := ob3 b hb; Heap.lt_size e)
    · exact f4 x c (clOf_sound _ _ (S.hasC I3.ok) (by simp) x c e)
  have loop : codeAny (model X.prog X.w) X.A (.compLoop (.ListComp elt [⟨tg, iter, ifs, 0⟩] sc cpos) 0 (.ref it) (.ref s2.heap.objs.size) (compEnvC sc (clOf X.env sc.names []) (s2.heap.push { cls := .type "list", data := .seq ([] : List Value).toArray }).objs.size X.env))
      (compPost (model X.prog X.w) X.A X.xe (some (assign (.Name y py) X.env)) (fun _ s' => SP X pins D0 .next s') (.ref s2.heap.objs.size) (s2.heap.push { cls := .type "list", data := .seq ([] : List Value).toArray }).objs.size) { s2 with heap := h₁, toks := s2.toks + ([] : List (Str × Value)).length } := by
    refine comp_run (W := W) (M := M) (σ0 := blk n ci σ) (Q := fun v H' => D0.nx (σ.set j (some v)) H') hc T bg bt be (fun {pins' σ' H' s'} J' => ?_) stat I4 st4 (fun b hb => (f3 b hb).1) w0 turn fun σ' H' s' J' q => ?_
    · exact keep_blk S I3 f3 J'
    · obtain ⟨m', hn', _⟩ := id J'.loc
      have J2 : Inv X pins σ H' s' := inv_behind (s := { s2 with heap := s2.heap.push { cls := .type "list", data := .seq ([] : List Value).toArray } }) I3 f3 J' (Heap.SameBut.refl _ _)
      show wpAny _ _ (assign (.Name y py) X.env (.ref s2.heap.objs.size)) _ _ s'
      refine wpAny_assign_Name (store_ok2 (v := .ref s2.heap.objs.size) J2 hN hj (.inl hy) rfl (fun s3 J3 ⟨a, sb, ha⟩ => ?_) (.inr hy))
      have cC : ∀ x c, X.env.cells.lookup x = some c → c ≠ (s2.heap.push { cls := .type "list", data := .seq ([] : List Value).toArray }).objs.size := fun x c e z => by
        obtain ⟨v, q1⟩ := I3.cell x c e
        have := q1.lt
        rw [z] at this
        exact absurd this (Nat.lt_irrefl _)
      have lC : X.env.locals ≠ (s2.heap.push { cls := .type "list", data := .seq ([] : List Value).toArray }).objs.size := fun z => by
        have q1 := I3.lt
        rw [z] at q1
        exact absurd q1 (Nat.lt_irrefl _)
      have aC : a ≠ (s2.heap.push { cls := .type "list", data := .seq ([] : List Value).toArray }).objs.size := by
        rcases ha with rfl | ha
        · exact lC
        · exact cC _ _ ha
      refine ⟨m', hn'.sameBut sb (Ne.symm aC), fun h' hs' => ⟨_, H', J3.turned (t' := s3.toks) (fun b o hb e => (hs'.2 b hb).trans e) J'.free lC.symm (.inr (Nat.le_trans I3.sz (Nat.le_refl _))) cC (fun p hp z => ?_), q⟩⟩
      have q1 := (I3.pin p hp).1
      rw [z] at q1
      exact absurd (Heap.lt_size q1) (Nat.lt_irrefl _)
  exact codeAny_compStart_list loop (T.self _ 0 _ _ _ st4 loop)
end
end L2
end
/-! UfR3a -/
section
set_option Elab.async false
set_option linter.all false
set_option maxRecDepth 100000
set_option maxHeartbeats 4000000
namespace L2
open PySem PySem.Spec PyProof.Rows UfSrt
section
variable {X : Cx} {pins : List (Addr × Obj)} {σ : St} {H : Hp} {s : Shared}
def tFrz (te : TE) : TE := fun σ H Q => te σ H fun v H1 => ∃ a kvs, v = .ref a ∧ H1 a = some (.dK kvs) ∧ ∀ o, Q (.ref a) (upd H1 a (.frz o (.dK kvs)))
end
def Itd (a : Addr) (o : Obj) (kvs : List (Key × V)) : It :=
  ⟨fun i H => H a = some (.frz o (.dK kvs)) ∧ i < kvs.length, fun i H x H' => H' = H ∧ ∃ k v, kvs[i]? = some (k, v) ∧ x = kV k, fun i H => H a = some (.frz o (.dK kvs)) ∧ i = kvs.length⟩
section
variable {X : Cx} {tg : Expr}
def iDict (tl : TE) : TI := fun σ H R => tl σ H fun x H1 => ∃ a o kvs, x = .ref a ∧ H1 a = some (.frz o (.dK kvs)) ∧ R (Itd a o kvs) H1
end
section
variable {n : Nat} {ci : List Nat} {g : TG} {tt : TT} {te : TE} {σ : St} {H : Hp} {D : Addr} {Q : VK}
end
end L2
end
/-! UfX1 -/
section
set_option Elab.async false
set_option linter.all false
set_option maxRecDepth 100000
namespace UfX
open PySem
theorem dict_mapFields (o : Obj) (f) : (o.mapFields f).dict = o.dict := by
  obtain ⟨c, d, dt, sl⟩ := o; cases dt <;> rfl
inductive Exc (h : Heap) (e : Addr) (cls a0 : Value) (dx : Option Addr) (hd : Option Addr) : Prop
  | mk (oe : Obj) (vs : Array Value) (at_ : h.get? e = some oe) (cl : oe.cls = cls) (dc : oe.dict = dx) (dt : oe.data = .fields vs) (first : vs[0]? = some a0) (none_ : hd = none → vs[1]? = some .none)
      (some_ : ∀ T, hd = some T → vs[1]? = some (.ref T) ∧ T ≠ e ∧ ∃ oT ts, h.get? T = some oT ∧ oT.data = .fields ts ∧ ts[3]? = some Value.none)
structure Step (fr : List Addr) (e : Addr) (hd : Option Addr) (h h' : Heap) : Prop where
  keep : ∀ b o, h.get? b = some o → b ∉ fr → b ≠ e → hd ≠ some b → h'.get? b = some o
  slot : ∀ b o, h.get? b = some o → b ∈ fr → ∃ sl, h'.get? b = some { o with slots := sl }
  size : h.objs.size ≤ h'.objs.size
section
variable {M : Model} {A : Around} {E : Value → Shared → Prop} {s : Shared} {base : Heap} {env : Env} {outer : List Env} {L e : Addr} {Q : Unit → Shared → Prop}
theorem entry {oe : Obj} {vs : Array Value} {a0 head : Value} {b : Bool} (hfr : A.frames = some (env :: outer)) (hl : s.heap.FunFrames base (env :: outer)) (hf : env.frame = some L) (he : s.heap.get? e = some oe) (hdt : oe.data = .fields vs) (hsz : 1 < vs.size) (h0 : vs[0]? = some a0)
    (k : ∀ h' T, Exc h' e oe.cls a0 oe.dict (some T) → s.heap.objs.size ≤ T → Step ((env :: outer).filterMap (·.frame)) e none s.heap h' → Q () { s with heap := h' }) :
    wpAny M A (do
      let fo ← frameOf env
      let pl ← entryPlaceOf L b
      let nw ← EntryCells.newEntry head fo .none (rawInt L) .none pl
      setField (.ref e) 1 nw) (fun _ s' => wpAny M A (setFlight (.ref e) none) Q E s') E s := by
  have nof : ∀ b o us, s.heap.get? b = some o → o.data = .fields us → b ∉ (env :: outer).filterMap (·.frame) := fun b o us h1 h2 hm => by
    obtain ⟨_, o', ho', hn⟩ := hl.mem hm
    rw [h1] at ho'
    cases ho'
    exact hn us h2
  have nef := nof e oe vs he hdt
  refine wpAny_bind (wpAny_frameOf_fun hfr hl hf fun h1 sl1 => ?_)
  refine wpAny_bind (wpAny_entryPlaceOf fun pl ip => ?_)
  unfold EntryCells.newEntry
  unfold newFields
  refine wpAny_bind (wpAny_newObj_type ?_ (ip.sizeOk5 _ _ _ _ _))
  have he1 : h1.get? e = some oe := (sl1.2.1 e nef).trans he
  generalize hob : ({ cls := .type "traceback", dict := none, data := .fields ([head, .ref L, .none, rawInt L, .none] ++ (if pl.isEmpty then List.replicate 6 Value.none else pl)).toArray } : Obj) = ob
  have hobd : ob.data = .fields ([head, .ref L, .none, rawInt L, .none] ++ (if pl.isEmpty then List.replicate 6 Value.none else pl)).toArray := by rw [← hob]
  have hobf : ob.isFreed = false := Obj.isFreed_of_fields hobd
  have he2 : (h1.push ob).get? e = some oe := Heap.get?_push_of_some ob he1
  have hT2 : (h1.push ob).get? h1.objs.size = some ob := Heap.get?_push_size h1 hobf
  have hTe : h1.objs.size ≠ e := Nat.ne_of_gt (Heap.lt_size he1)
  refine wpAny_setField he2 hdt hsz ?_
  show wpAny M A (setFlight (.ref e) none) Q E { s with heap := (h1.push ob).update e (Obj.mapFields (·.setIfInBounds 1 (.ref h1.objs.size))) }
  have hd3 := Obj.data_mapFields hdt (·.setIfInBounds 1 (Value.ref h1.objs.size))
  have he3 := Heap.get?_update_self (Obj.mapFields (·.setIfInBounds 1 (Value.ref h1.objs.size))) he2 (Obj.isFreed_of_fields hd3)
  have hT3 := (Heap.get?_update_other (h1.push ob) (Obj.mapFields (·.setIfInBounds 1 (Value.ref h1.objs.size))) (Ne.symm hTe)).trans hT2
  unfold setFlight
  refine wpAny_bind (wpAny_field he3 hd3 (x := .ref h1.objs.size) (by simp [hsz]) ?_)
  rw [if_pos (show (Value.ref h1.objs.size != Value.none) = true from by simp)]
  refine wpAny_setField hT3 hobd (by simp only [List.size_toArray, List.length_append, List.length_cons, List.length_nil]; lia) (k _ h1.objs.size ?_ ?_ ?_)
  · refine ⟨_, _, (Heap.get?_update_other _ _ hTe).trans he3, Obj.cls_mapFields _ _, dict_mapFields _ _, hd3, ?_, (fun z => nomatch z), fun T hT => ?_⟩
    · rw [Array.getElem?_setIfInBounds_ne (by decide)]; exact h0
    · cases hT
      refine ⟨by simp [hsz], hTe, _, _, Heap.get?_update_self _ hT3 (Obj.isFreed_of_fields (Obj.data_mapFields hobd _)), Obj.data_mapFields hobd _, ?_⟩
      simp
  · exact Nat.le_of_eq sl1.1.symm
  · have other : ∀ b o, b ≠ e → h1.get? b = some o → (((h1.push ob).update e (Obj.mapFields (·.setIfInBounds 1 (.ref h1.objs.size)))).update h1.objs.size (Obj.mapFields (·.setIfInBounds 3 ((none : Option Addr).elim Value.none fun f => rawInt f)))).get? b = some o := fun b o hbe hb => by
      have hbT : h1.objs.size ≠ b := Nat.ne_of_gt (Heap.lt_size hb)
      rw [Heap.get?_update_other _ _ hbT, Heap.get?_update_other _ _ (Ne.symm hbe)]
      exact Heap.get?_push_of_some _ hb
    refine ⟨fun b o hb hnf hbe _ => other b o hbe ((sl1.2.1 b hnf).trans hb), fun b o hb hm => ?_, ?_⟩
    · obtain ⟨sl, h2⟩ := sl1.2.2 b o hb
      exact ⟨sl, other b _ (fun z => nef (z ▸ hm)) h2⟩
    · rw [Heap.size_after_update, Heap.size_after_update, Heap.size_push, sl1.1]
      exact Nat.le_succ _
theorem leave {cls a0 : Value} {dx hd : Option Addr} (hfr : A.frames = some (env :: outer)) (hl : s.heap.FunFrames base (env :: outer)) (hf : env.frame = some L) (x : Exc s.heap e cls a0 dx hd)
    (k : ∀ h' T, Exc h' e cls a0 dx (some T) → s.heap.objs.size ≤ T → Step ((env :: outer).filterMap (·.frame)) e hd s.heap h' → Q () { s with heap := h' }) : wpAny M A («leaving» env (.ref e)) Q E s := by
  obtain ⟨oe, vs, he, rfl, rfl, hdt, h0, hn, hs⟩ := x
  unfold «leaving» noteFrame
  simp only [hf]
  cases hd with
  | none =>
    have h1 := hn rfl
    refine wpAny_bind (wpAny_bind (wpAny_field he hdt h1 ?_))
    rw [if_neg (by decide)]
    exact entry hfr hl hf he hdt (Array.getElem?_eq_some_iff.mp h1).1 h0 k
  | some T =>
    obtain ⟨h1, hTe, oT, ts, hT, hTd, h3⟩ := hs T rfl
    refine wpAny_bind (wpAny_bind (wpAny_field he hdt h1 ?_))
    rw [if_pos (by simp : (Value.ref T != Value.none) = true)]
    refine wpAny_bind (wpAny_field hT hTd h3 ?_)
    rw [if_neg (by simp [rawInt] : ¬ ((Value.none == rawInt L) = true))]
    refine wpAny_bind (wpAny_setField hT hTd (Array.getElem?_eq_some_iff.mp h3).1 ?_)
    have other : ∀ c, c ≠ T → (s.heap.update T (Obj.mapFields (·.setIfInBounds 3 Value.none))).get? c = s.heap.get? c := fun _ hc => Heap.get?_update_other _ _ (Ne.symm hc)
    have nT : ∀ b o, s.heap.get? b = some o → (∀ us, o.data ≠ .fields us) → b ≠ T := fun b o hb hnf z => by
      subst z
      rw [hT] at hb
      cases hb
      exact hnf ts hTd
    refine entry hfr (hl.of_keeps fun b o hb hnf => ⟨o, (other b (nT b o hb hnf)).trans hb, rfl⟩) hf ((other e (Ne.symm hTe)).trans he) hdt (Array.getElem?_eq_some_iff.mp h1).1 h0 fun h' T' x1 x2 x3 => k h' T' x1 ?_ ?_
    · rwa [Heap.size_after_update] at x2
    · refine ⟨fun b o hb h1 h2 h3 => x3.keep b o ((other b fun z => h3 (by rw [z])).trans hb) h1 h2 (fun z => nomatch z), fun b o hb hm => ?_, ?_⟩
      · obtain ⟨_, o', ho', hn'⟩ := hl.mem hm
        have e' : o' = o := Option.some.inj (ho'.symm.trans hb)
        subst e'
        exact x3.slot b o' ((other b (nT b o' hb hn')).trans hb) hm
      · have := x3.size
        rwa [Heap.size_after_update] at this
end
end UfX
end
/-! UfX2 -/
section
set_option Elab.async false
set_option linter.all false
set_option maxRecDepth 100000
namespace L2
open PySem PySem.Spec PyProof.Rows UfX
inductive Fly (P : Program) (w : World) (outer : List Env) (H : Hp) (s : Shared) (E : XK) (e : Value) (s' : Shared) : Prop
  | mk (a T : Addr) (cls a0 : Value) (dx : Option Addr) (H' : Hp) (he : e = .ref a) (os : s'.os = s.os) (bare : AllBare s'.gens) (un : Un (frs outer) [] H H' s.heap s'.heap) (hok : HOk P w H' s'.heap)
      (x : Exc s'.heap a cls a0 dx (some T)) (na : s.heap.get? a = none) (nT : s.heap.get? T = none) (ha : H' a = none) (hT : H' T = none) (q : E cls dx H')
abbrev CX1 (P : Program) (w : World) : CXT := fun outer H s E e s' => Fly P w outer H s E e s'
theorem FnOk.lift {P : Program} {w : World} {K : PySem.W.Frag} {mg : Str → Option Value} {base : Heap} {CX : CXT} {k : Nat} {f : Addr} {fd : FuncData} {ps : List Str} {sp : Sp} (F : FnOk P w K mg base (fun _ _ _ _ _ _ => False) k f fd ps sp) :
    FnOk P w K mg base CX k f fd ps sp :=
  ⟨F.len, fun A outer s H args us vs Q E hr he hb hv hs => codeAny_mono (F.run A outer s H args us vs Q E hr he hb hv hs) fun r s' h => by
    cases r with
    | error e => exact False.elim h
    | ok fl => cases fl <;> exact h⟩
section
variable {P : Program} {w : World} {K : PySem.W.Frag} {mg : Str → Option Value} {base : Heap} {N : List Str} {qual : Str} {scope : Scope} {f : Addr} {cd : Value} {A : Around} {outer : List Env} {s : Shared} {H : Hp} {E : XK}
theorem xe_of {pins : List (Addr × Obj)} {σ : St} {H' : Hp} {s' : Shared} {a : Addr} {cls a0 : Value} {dx hd : Option Addr} (I : Inv (cxOf (CX1 P w) P w K mg base N qual scope f cd A outer s H E) pins σ H' s')
    (x : Exc s'.heap a cls a0 dx hd) (ha : H' a = none) (na : s.heap.get? a = none) (hh : ∀ T, hd = some T → H' T = none ∧ s.heap.get? T = none) (q : E cls dx H') :
    (cxOf (CX1 P w) P w K mg base N qual scope f cd A outer s H E).xe (.ref a) s' := by
  refine UfX.leave (base := base) I.ok.frames I.stack rfl x fun h' T x1 lT st => ?_
  have b0 : Un (frs outer) [] H H' s.heap s'.heap := I.base
  have fr : ∀ b o, H' b = some o → b ∉ frs (envOfC qual scope s.heap.objs.size f cd :: outer) := fun b o e hm => by
    rw [I.stkFree b hm] at e
    cases e
  have kt : ∀ b o u, H' b = some o → s'.heap.get? b = some u → h'.get? b = some u := fun b o u e hu =>
    st.keep b u hu (fr b o e) (fun z => by rw [z, ha] at e; cases e) fun z => by rw [(hh b z).1] at e; cases e
  have old : ∀ b o, s.heap.get? b = some o → b ≠ a ∧ hd ≠ some b := fun b o e => ⟨fun z => (by rw [z, na] at e; cases e), fun z => (by rw [(hh b z).2] at e; cases e)⟩
  have nL : ∀ b o, s.heap.get? b = some o → b ≠ s.heap.objs.size := fun b o e z => by
    have := Heap.lt_size e
    rw [z] at this
    exact Nat.lt_irrefl _ this
  have mem : ∀ b, b ∈ frs (envOfC qual scope s.heap.objs.size f cd :: outer) → b = s.heap.objs.size ∨ b ∈ frs outer := fun b hb => by
    unfold frs at hb
    rw [List.filterMap_cons] at hb
    exact List.mem_cons.mp hb
  have sub : ∀ b, b ∈ frs outer → b ∈ frs (envOfC qual scope s.heap.objs.size f cd :: outer) := fun b hb => by
    unfold frs
    rw [List.filterMap_cons]
    exact List.mem_cons_of_mem _ hb
  refine ⟨a, T, cls, a0, dx, H', rfl, I.os, I.bare, ⟨fun b o e n h1 h2 => ?_, fun b o e n h1 h2 => ?_, b0.free, fun b o e h2 => ?_, b0.tups, b0.frzs, b0.tbls⟩, fun b o e => (I.hok b o e).stay (fun c u hc hu => ?_) (fun _ z => z) fun _ _ z => z, x1, na,
    Heap.get?_none_of_le (Nat.le_trans I.sz lT), ha, I.hok.fresh lT, q⟩
  · refine st.keep b o (b0.keep b o e n h1 h2) (fun hm => ?_) (old b o e).1 (old b o e).2
    rcases mem b hm with z | z
    · exact nL b o e z
    · exact h1 z
  · obtain ⟨sl, h3⟩ := b0.slot b o e n h1 h2
    obtain ⟨sl2, h4⟩ := st.slot b _ h3 (sub b h1)
    exact ⟨sl2, h4⟩
  · obtain ⟨o', h3⟩ := b0.there b o e h2
    by_cases hm : b ∈ frs (envOfC qual scope s.heap.objs.size f cd :: outer)
    · obtain ⟨sl, h4⟩ := st.slot b o' h3 hm
      exact ⟨_, h4⟩
    · exact ⟨_, st.keep b o' h3 hm (old b o e).1 (old b o e).2⟩
  · rcases hc with rfl | hc
    · exact kt _ _ _ e hu
    · exact kt _ _ _ hc hu
theorem pass1 : Passes (CX1 P w) (cxOf (CX1 P w) P w K mg base N qual scope f cd A outer s H E) E := fun pins σ H1 s1 e s' I h => by
  obtain ⟨a, T, cls, a0, dx, H', rfl, os, bare, un, hok, x, na, nT, ha, hT, q⟩ := h
  have J := I.call' os un hok bare fun b z => absurd z (by simp)
  have b0 : Un (frs outer) [] H H1 s.heap s1.heap := I.base
  have old : ∀ b, s1.heap.get? b = none → s.heap.get? b = none := fun b n => by
    cases z : s.heap.get? b with
    | none => rfl
    | some o =>
      obtain ⟨o', h3⟩ := b0.there b o z (by simp)
      rw [n] at h3
      cases h3
  exact xe_of J x ha (old a na) (fun T' z => by cases z; exact ⟨hT, old T nT⟩) q
end
end L2
end
/-! UfX3 -/
section
set_option Elab.async false
set_option linter.all false
set_option maxRecDepth 100000
namespace UfX
open PySem
section
variable {P : Program} {w : World} {A : Around} {X : Value → Shared → Prop} {h : Heap} {gs : Array GenState} {dr : Drawn} {tk : Nat} {o : OsState}
variable {cn cq : Str} {C N : Addr} {bases tl root : List Value} {hasD : Bool} {sn : List Str} {subs : List Value} {ab : Bool} {col : Option Bool} {cdd : Option Addr} {l0 l1 l2 l3 l5 : Option Value} {B nw ini : String}
theorem own_type_call (F : ExcBaseFacts B nw ini root) (T : OwnTail h root tl) {mN : Str → Option Value} {vs : List Value} {fI : Addr} {oI : Obj} {Q : Fin → Shared → Prop}
    (hC : h.get? C = some (excClassObj cn cq C N bases tl hasD sn subs ab col cdd l0 l1 l2 l3 l5 nw)) (hN : h.Ns N mN) (hi : mN "__init__" = some (.ref fI)) (hf : h.get? fI = some oI) (hfc : oI.cls = .type "function")
    (k : ∀ h' e, Heap.MadeExcOf h h' e (.ref C) vs → h.objs.size ≤ e → wpAny (model P w) A (call (.ref fI) (.ref e :: vs)) (fun r s' => r = .none ∧ Q (.done (.ret (.ref e))) s') X ⟨h', gs, dr, tk, o⟩) (hz : vs.length ≤ sizeLine) :
    wpAny (model P w) A (Builtin.«type.__call__» ⟨.ref C :: vs, []⟩) Q X ⟨h, gs, dr, tk, o⟩ := by
  repeat (first | (with_reducible refine wpAny_loadPart_at hC ?_) | (with_reducible refine wpAny_madeBy_exc hC ?_) | wp_step)
  refine codeAny_call_builtin_code (Code.quiet_builtin _ F.quiet) (wpAny_check_new_subT F T hC (codeAny_exc_new_subT F T hC ?_ hz))
  show wpAny _ _ _ _ _ _
  generalize hob : ({ cls := .ref C, data := .fields #[.ref h.objs.size, .none, .none, .none, .bool false, .none] } : Obj) = ob
  generalize htb : ({ cls := .type "tuple", data := .seq vs.toArray } : Obj) = tb
  have kp : ∀ b u, h.get? b = some u → ((h.push tb).push ob).get? b = some u := fun b u e => Heap.get?_push_of_some ob (Heap.get?_push_of_some tb e)
  have C1 := kp _ _ hC
  have f1 := kp _ _ hf
  have N1 : ((h.push tb).push ob).Ns N mN := by
    obtain ⟨on, es, ep, e, r⟩ := hN
    exact ⟨on, es, ep, kp _ _ e, r⟩
  have T1 := T.keeps kp
  have at_ : ((h.push tb).push ob).get? (h.objs.size + 1) = some ob := by
    rw [← hob]
    exact Heap.get?_push_at (by rw [Heap.size_push]) rfl
  have tat : ((h.push tb).push ob).get? h.objs.size = some tb := by
    rw [← htb]
    exact Heap.get?_push_of_some _ (Heap.get?_push_at rfl rfl)
  have hself : (Value.ref C :: tl).contains (.ref C) = true := by simp
  have ocls : ob.cls = .ref C := by rw [← hob]
  unfold isInstance
  repeat (first | (with_reducible refine wpAny_loadPart_at at_ ?_; rw [ocls]) | (with_reducible refine wpAny_isSubtype_exc C1 ?_; rw [hself]) | wp_step)
  show wpAny _ _ (typeLookup (.ref C) _) _ _ _
  refine wpAny_typeLookup_tail C1 N1 T1 F.mroIs F.init.lookup ?_
  rw [hi]
  refine wpAny_holding (wpAny_bind ?_)
  unfold bindSpecial
  refine wpAny_bind (wpAny_typeOf (T := "function") ⟨_, f1, hfc⟩ ?_)
  rw [if_pos (by decide)]
  have made : Heap.MadeExcOf h ((h.push tb).push ob) (h.objs.size + 1) (.ref C) vs :=
    ⟨kp, Heap.get?_none_of_le (Nat.le_succ _), h.objs.size, by rw [at_, hob], Heap.get?_none_of_le (Nat.le_refl _), by rw [tat, htb]⟩
  refine wpAny_pure (wpAny_bind (wpAny_mono (k _ _ made (Nat.le_succ _)) (fun r s' hr => ?_) fun _ _ z => z))
  obtain ⟨rfl, hq⟩ := hr
  wp_walk
  exact hq
theorem own_call (F : ExcBaseFacts B nw ini root) (T : OwnTail h root tl) {mN : Str → Option Value} {vs : List Value} {fI : Addr} {oI : Obj} {Q : Value → Shared → Prop}
    (hC : h.get? C = some (excClassObj cn cq C N bases tl hasD sn subs ab col cdd l0 l1 l2 l3 l5 nw)) (hN : h.Ns N mN) (hi : mN "__init__" = some (.ref fI)) (hf : h.get? fI = some oI) (hfc : oI.cls = .type "function")
    (k : ∀ h' e, Heap.MadeExcOf h h' e (.ref C) vs → h.objs.size ≤ e → wpAny (model P w) (A.under (.builtin "type.__call__" ⟨.ref C :: vs, []⟩)) (call (.ref fI) (.ref e :: vs)) (fun r s' => r = .none ∧ Q (.ref e) s') X ⟨h', gs, dr, tk, o⟩) (hz : vs.length ≤ sizeLine) :
    wpAny (model P w) A (call (.ref C) vs) Q X ⟨h, gs, dr, tk, o⟩ := by
  have q1 := tc_lookup
  have q2 := tc_bind (.ref C)
  have hT : (⟨h, gs, dr, tk, o⟩ : Shared).TypeIs (.ref C) "type" := ⟨_, hC, rfl⟩
  refine wpAny_call (codeAny_of_tree ?_)
  show wpAny _ _ (callAny (.ref C) _) _ _ _
  repeat (any_goals (first | assumption | (with_reducible refine wpAny_loadPart_at hC ?_) | wp_step))
  exact ⟨rfl, codeAny_call_builtin_at (Code.quiet_builtin _ (by decide +kernel)) entry_typeCall (wpAny_check_type_call_sub hC (own_type_call F T hC hN hi hf hfc k hz))⟩
end
end UfX
end
/-! UfX4 -/
section
set_option Elab.async false
set_option linter.all false
set_option maxRecDepth 100000
namespace L2
open PySem PySem.Spec PyProof.Rows UfX
def ExcIs (a : Addr) (cls : Value) (dx : Option Addr) (h : Heap) : Prop := ∃ oe vs t0, h.get? a = some oe ∧ oe.cls = cls ∧ oe.dict = dx ∧ oe.data = .fields vs ∧ vs[0]? = some (.ref t0) ∧ vs[1]? = some Value.none
def ExcO (a : Addr) (cls : Value) (dx : Option Addr) : HO := .ext (ExcIs a cls dx)
theorem ExcIs.ok {P : Program} {w : World} {H : Hp} {h : Heap} {a : Addr} {cls : Value} {dx : Option Addr} (x : ExcIs a cls dx h) : ObjOk P w H h a (ExcO a cls dx) := by
  refine ⟨x, ?_, fun h1 h2 y k => ?_⟩
  · obtain ⟨oe, _, _, e, _⟩ := x
    exact ⟨oe, e⟩
  · obtain ⟨oe, vs, t0, e, r⟩ := y
    exact ⟨oe, vs, t0, k _ e, r⟩
theorem ExcIs.exc {h : Heap} {a : Addr} {cls : Value} {dx : Option Addr} (x : ExcIs a cls dx h) : ∃ a0, Exc h a cls a0 dx none := by
  obtain ⟨oe, vs, t0, e, c, d, f, g, i⟩ := x
  exact ⟨_, oe, vs, e, c, d, f, g, (fun _ => i), fun T z => nomatch z⟩
def del (H : Hp) (a : Addr) : Hp := fun b => if b = a then none else H b
theorem del_same {H : Hp} {a : Addr} : del H a a = none := by unfold del; rw [if_pos rfl]
theorem del_ne {H : Hp} {a b : Addr} (h : b ≠ a) : del H a b = H b := by unfold del; rw [if_neg h]
theorem del_some {H : Hp} {a b : Addr} {o : HO} (h : del H a b = some o) : b ≠ a ∧ H b = some o := by
  unfold del at h
  split at h
  · cases h
  · rename_i n
    exact ⟨n, h⟩
theorem del_none {H : Hp} {a b : Addr} (h : H b = none) : del H a b = none := by
  unfold del
  split
  · rfl
  · exact h
section
variable {X : Cx} {pins : List (Addr × Obj)} {σ : St} {H : Hp} {s : Shared}
theorem Inv.letgo {a : Addr} {φ : Heap → Prop} (I : Inv X pins σ H s) (e : H a = some (.ext φ)) (n0 : X.H₀ a = none) : Inv X pins σ (del H a) s := by
  have ne : ∀ {b o}, H b = some o → o ≠ .ext φ → b ≠ a := fun {b o} h1 h2 z => h2 (by rw [z, e] at h1; exact (Option.some.inj h1).symm)
  have b0 := I.base
  refine ⟨I.ok, I.os, I.bare, ⟨b0.keep, b0.slot, fun b o h1 h2 h3 => del_none (b0.free b o h1 h2 h3), b0.there, fun b xs h => ?_, fun b o u h => ?_, fun b ps h => ?_⟩, I.loc, I.cell, del_none I.free, fun x c h => del_none (I.freeC x c h), fun p hp => ?_, fun b o h => ?_, I.len⟩
  · have h2 := b0.tups b xs h
    rw [del_ne (ne h2 (fun z => nomatch z))]
    exact h2
  · have h2 := b0.frzs b o u h
    rw [del_ne (ne h2 (fun z => nomatch z))]
    exact h2
  · obtain ⟨more, h2⟩ := b0.tbls b ps h
    refine ⟨more, ?_⟩
    rw [del_ne (ne h2 (fun z => nomatch z))]
    exact h2
  · obtain ⟨h1, h2, h3⟩ := I.pin p hp
    exact ⟨h1, del_none h2, h3⟩
  · obtain ⟨h1, h2⟩ := del_some h
    refine (I.hok b o h2).stay (fun _ _ _ z => z) (fun c hc => ?_) fun c xs hc => ?_
    · rw [del_ne (ne hc (fun z => nomatch z))]
      exact hc
    · rw [del_ne (ne hc (fun z => nomatch z))]
      exact hc
structure ExcC (K : PySem.W.Frag) (C : Addr) : Prop where
  ob : ∃ cn cq N bases tl hasD sn subs ab col cdd l0 l1 l2 l3 l5 nw, K.lookup C = some (excClassObj cn cq C N bases tl hasD sn subs ab col cdd l0 l1 l2 l3 l5 nw) ∧ tl.contains (.type "BaseException") = true
def RaiseTo (X : Cx) (E : XK) : Prop := ∀ (pins : List (Addr × Obj)) (σ : St) (H : Hp) (s' : Shared) (a : Addr) (cls a0 : Value) (dx : Option Addr), Inv X pins σ H s' → Exc s'.heap a cls a0 dx none → H a = none → X.s₀.heap.get? a = none → E cls dx H → X.xe (.ref a) s'
def tRaise (X : Cx) (E : XK) (te : TE) : TS := fun _ σ H => te σ H fun v H1 => ∃ a C dx, v = .ref a ∧ H1 a = some (ExcO a (.ref C) dx) ∧ ExcC X.K C ∧ X.H₀ a = none ∧ E (.ref C) dx (del H1 a)
theorem ps_raise {E : XK} {e : Expr} {te : TE} {pos : Pos} (hx : RaiseTo X E) (hc : X.calm = true) (hex : X.ex = []) (he : PE X e te) : PS X (.Raise (some e) none pos) (tRaise X E te) := by
  intro pins s σ H D I h
  rw [arm_exec_Raise]
  refine wpAny_bind (wpAny_standAt ?_)
  unfold raiseStmt
  simp only [evalOpt, Option.map]
  refine wpAny_bind (wpAny_bind (wpAny_mono (he pins s σ H _ I h) (fun u s1 hu => wpAny_bind (wpAny_standAt (wpAny_pure ?_))) fun _ _ z => z))
  obtain ⟨v, H1, I1, rv, a, C, dx, rfl, ha, ⟨cn, cq, N, bases, tl, hasD, sn, subs, ab, col, cdd, l0, l1, l2, l3, l5, nw, hC, hB⟩, n0, q⟩ := hu
  obtain rfl : u = Value.ref a := rv
  have x : ExcIs a (.ref C) dx s1.heap := (I1.hok a _ ha).1
  have C1 := I1.kIn _ _ hC
  have hcB : (Value.ref C :: tl).contains (.type "BaseException") = true := by rw [List.contains_cons, hB, Bool.or_true]
  have fly : X.xe (.ref a) s1 := by
    obtain ⟨a0, ex⟩ := x.exc
    refine hx pins σ (del H1 a) s1 a (.ref C) a0 dx (I1.letgo ha n0) ex del_same ?_ q
    cases z : X.s₀.heap.get? a with
    | none => rfl
    | some o =>
      have := I1.base.free a o z n0 (by rw [hex]; simp)
      rw [ha] at this
      cases this
  obtain ⟨oe, vs, t0, he1, hcl, _, hdt, _, hv1⟩ := x
  obtain ⟨hp, g, d, tk, os⟩ := s1
  repeat (first | (with_reducible refine wpAny_loadPart_at he1 ?_; rw [hcl]) | (with_reducible refine wpAny_loadPart_at C1 ?_) | (with_reducible refine wpAny_isSubtype_exc C1 ?_; rw [hcB]) | wp_step)
  rw [hdt]
  refine wpAny_pure ?_
  rw [hv1]
  refine wpAny_pure ?_
  rw [if_neg (by decide)]
  exact wpAny_pure (wpAny_raiseNew_none (I.ok.hd hc) fly)
end
section
variable {P : Program} {w : World} {K : PySem.W.Frag} {mg : Str → Option Value} {base : Heap} {N : List Str} {qual : Str} {scope : Scope} {f : Addr} {cd : Value} {A : Around} {outer : List Env} {s : Shared} {H : Hp} {E : XK}
theorem raise_to : RaiseTo (cxOf (CX1 P w) P w K mg base N qual scope f cd A outer s H E) E := fun pins σ H' s' a cls a0 dx I x ha na q => xe_of I x ha na (fun T z => nomatch z) q
end
end L2
end
/-! UfX5 -/
section
set_option Elab.async false
set_option linter.all false
set_option maxRecDepth 100000
namespace L2
open PySem PySem.Spec PyProof.Rows UfX
abbrev rootV : List Value := [.type "ValueError", .type "Exception", .type "BaseException", .type "object"]
structure ExcT (K : PySem.W.Frag) (C N : Addr) : Prop where
  ob : ∃ cn cq bases tl hasD sn subs ab col cdd l0 l1 l2 l3 l5, K.lookup C = some (excClassObj cn cq C N bases tl hasD sn subs ab col cdd l0 l1 l2 l3 l5 "ValueError.__new__") ∧ PySem.W.tailIn K rootV tl = true
theorem upd_id {H : Hp} {a : Addr} {o : HO} (h : H a = some o) : upd H a o = H := by
  funext b
  unfold upd
  split
  · rename_i e
    rw [e, h]
  · rfl
section
variable {X : Cx} {pins : List (Addr × Obj)} {σ : St} {H : Hp} {s : Shared}
theorem excinit_ok {A : Around} {E : Value → Shared → Prop} {a C N : Addr} {dx : Option Addr} {us : List Value} {Q : Value → Shared → Prop} (I : Inv X pins σ H s) (ha : H a = some (ExcO a (.ref C) dx)) (T : ExcT X.K C N) (hz : us.length ≤ sizeLine)
    (h : ∀ s', Inv X pins σ H s' → Q .none s') : wpAny (model X.prog X.w) A (call (.builtin "ValueError.__init__") (.ref a :: us)) Q E s := by
  have F := @PySem.F.excBase_ValueError
  obtain ⟨cn, cq, bases, tl, hasD, sn, subs, ab, col, cdd, l0, l1, l2, l3, l5, h1, h2⟩ := T.ob
  have T1 := PySem.W.tail_of_in I.kIn h2
  have C1 := I.kIn _ _ h1
  obtain ⟨oe, vs, t0, he, hcl, hdx, hdt, hv0, hv1⟩ : ExcIs a (.ref C) dx s.heap := (I.hok a _ ha).1
  refine wpAny_call (codeAny_call_builtin F.init.plain F.initEntry (wpAny_check_init_subT (E := fun e s' => E e s') F T1 C1 he hcl ?_))
  unfold Builtin.«BaseException.__init__»
  dsimp only
  rw [if_neg (by simp)]
  unfold newTuple Builtin.BaseException.bexcPut
  have hsz : 0 < vs.size := (Array.getElem?_eq_some_iff.mp hv0).1
  have he1 : (s.heap.push { cls := .type "tuple", data := .seq us.toArray }).get? a = some oe := Heap.get?_push_of_some _ he
  have fin : Q .none { s with heap := (s.heap.push { cls := .type "tuple", data := .seq us.toArray }).update a (Obj.mapFields (·.setIfInBounds 0 (.ref s.heap.objs.size))) } := by
    have hd1 := Obj.data_mapFields hdt (·.setIfInBounds 0 (Value.ref s.heap.objs.size))
    have he2 := Heap.get?_update_self (Obj.mapFields (·.setIfInBounds 0 (Value.ref s.heap.objs.size))) he1 (Obj.isFreed_of_fields hd1)
    have J := I.write (x := a) (e := a) (o := ExcO a (.ref C) dx) (t' := s.toks) (h' := (s.heap.push { cls := .type "tuple", data := .seq us.toArray }).update a (Obj.mapFields (·.setIfInBounds 0 (.ref s.heap.objs.size)))) (by rw [ha]; exact True.intro) (.inl rfl)
      (fun b u hb z => (Heap.get?_update_other _ _ (Ne.symm hb)).trans (Heap.get?_push_of_some _ z)) ⟨_, he2⟩
      (ExcIs.ok ⟨_, _, s.heap.objs.size, he2, (Obj.cls_mapFields _ _).trans hcl, (dict_mapFields _ _).trans hdx, hd1, by simp [hsz], by rw [Array.getElem?_setIfInBounds_ne (by decide)]; exact hv1⟩)
    rw [upd_id ha] at J
    exact h _ J
  refine wpAny_bind (wpAny_newObj_type (wpAny_bind (wpAny_bind (wpAny_field he1 hdt hv0 (wpAny_bind (wpAny_setField he1 hdt hsz ?_))))) (by show us.toArray.size ≤ sizeLine; rw [List.size_toArray]; exact hz))
  exact wpAny_letGo (wpAny_pure fin)
end
end L2
end
/-! UfX6 -/
section
set_option Elab.async false
set_option linter.all false
set_option maxRecDepth 100000
namespace L2
open PySem PySem.Spec PyProof.Rows UfX
section
variable {X : Cx}
def tExcInit (K : PySem.W.Frag) (t : TA) : TE := fun σ H Q => t σ H fun vs H1 => ∃ a C N dx r, vs = .ref a :: r ∧ r.length ≤ 100 ∧ H1 a = some (ExcO a (.ref C) dx) ∧ ExcT K C N ∧ Q .non H1
structure ExcBy (K : PySem.W.Frag) (B : Addr) : Prop where
  sp : PySem.W.specialIn K (.ref B) "__getattribute__" = some (some (.builtin "type.__getattribute__"))
  rd : PySem.W.readsIn K B (.type "type") = true
  fc : PySem.W.findCls K (.ref B) (.type "type") "__init__" = some (.val (.builtin "ValueError.__init__"))
theorem pe_excinit {pl : Sem Bool} {x : Str} {B : Addr} {p apos pos : Pos} {e : Expr} {es : List Expr} {t : TA} (hg : Gl X x) (hm : X.mg x = some (.ref B)) (hb : ExcBy X.K B) (ha : PA X (e :: es) t) (hd : (x == ("__debug__" : Str)) = false := by decide)
    (hst : starEach (e :: es) X.env = (false, eval e X.env) :: starEach es X.env := by rfl) (hpl : (backTo pos (starEach es X.env)).any (·.1) = false := by rfl)
    (ht : eval (.Call (.Attribute (.Name x p) "__init__" apos) (e :: es) [] pos) X.env = (do
      let ov ← eval (.Name x p) X.env
      standAt apos.atName
      let (f, first) ← holding [ov] (getMethod ov "__init__" pl)
      callWith pos f first (backTo pos (starEach (e :: es) X.env)) (backToKw pos (keywordEach [] X.env))) := by rfl) :
    PE X (.Call (.Attribute (.Name x p) "__init__" apos) (e :: es) [] pos) (tExcInit X.K t) := by
  intro pins s σ H Q I h
  refine PySem.W.methodCall_KW (pl := pl) (ld_glob I hg hm ?_ hd) ht
  refine PySem.W.method_cls I.kIn hb.sp (PySem.W.cls_value I.kIn hb.rd hb.fc rfl ?_)
  have I1 := I.tok (s.toks + 1)
  have hA := ha pos pins _ σ H _ I1 h
  dsimp only
  rw [hst] at hA ⊢
  refine Calls.callWith_builtin (by show (false || (backTo pos (starEach es X.env)).any (·.1)) = false; rw [hpl] <;> rfl) (Calls.evalArgs_plain ?_)
  refine thn hA fun us s2 ⟨vs, H2, I2, r2, a, C, N, dx, r, ev, hr, h2, T, q⟩ => ?_
  subst ev
  cases r2 with
  | cons r0 rr =>
    obtain rfl := r0
    have hl : _ = _ := Vals.length rr
    refine excinit_ok I2 h2 T (by rw [← hl, sizeLine_eq]; lia) fun s' I' => ⟨.non, H2, I', rfl, q⟩
end
end L2
end
/-! UfX7 -/
section
set_option Elab.async false
set_option linter.all false
set_option maxRecDepth 100000
namespace L2
open PySem PySem.Spec PyProof.Rows UfX Builtin Builtin.ObjectAttr
def excMro : List Value → Bool
  | .ref _ :: r => excMro r
  | l => l == rootV
structure ExcS (K : PySem.W.Frag) (C : Addr) (f : Str) : Prop where
  sa : PySem.W.findIn K (.ref C) "__setattr__" = some (some (.builtin "object.__setattr__"))
  mr : ((PySem.W.clsIn K C).any fun cd => excMro cd.mro) = true
  tk : PySem.W.takerIn K C f = some none
  hd : PySem.W.hasDictIn K C = true
section
variable {P : Program} {w : World} {A : Around} {K : PySem.W.Frag} {s : Shared} {R : Result → Shared → Prop} {x C : Addr}
end
end L2
end
/-! UfX8 -/
section
set_option Elab.async false
set_option linter.all false
set_option maxRecDepth 100000
namespace L2
open PySem PySem.Spec PyProof.Rows UfX Builtin Builtin.ObjectAttr
section
variable {X : Cx} {pins : List (Addr × Obj)} {σ : St} {H : Hp} {s : Shared} {A : Around} {E : Value → Shared → Prop}
def tExcSet (K : PySem.W.Frag) (te ta : TE) (f : Str) : TS := fun D σ H => te σ H fun y H1 => ta σ H1 fun x H2 => ∃ a C, x = .ref a ∧ H2 a = some (ExcO a (.ref C) none) ∧ ExcS K C f ∧ ∀ dx, H2 dx = none → dx ≠ a → D.nx σ (upd (upd H2 dx (.xd [(f, y)])) a (ExcO a (.ref C) (some dx)))
end
end L2
end
/-! UfX9 -/
section
set_option Elab.async false
set_option linter.all false
set_option maxRecDepth 100000
namespace L2
open PySem PySem.Spec PyProof.Rows UfX
section
variable {X : Cx}
def tFInt (te : TE) : TE := fun σ H Q => te σ H fun v H1 => ∃ n : Int, v = .int n ∧ n.natAbs.log2 < 1920 ∧ ∀ x, Q (.str x) H1
end
end L2
end
/-! UfX10 -/
section
set_option Elab.async false
set_option linter.all false
set_option maxRecDepth 100000
namespace L2
open PySem PySem.Spec PyProof.Rows UfX
theorem ns_some_of {K : PySem.W.Frag} {h : Heap} {N : Addr} {m : Str → Option Value} {n : Str} {v : Value} (X : K.In h) (G : h.Ns N m) (e : PySem.W.nsIn K N n = some (some v)) : m n = some v := by
  obtain ⟨o, es, ep, ho, hd, _, hf⟩ := G
  unfold PySem.W.nsIn at e
  split at e
  · rename_i c d es' n' sl q
    have z := X _ _ q
    rw [ho] at z
    cases z
    cases hd
    split at e
    · rename_i en he
      cases e
      rw [← hf]
      unfold nsFind findBy
      rw [← Array.find?_toList, he]
      rfl
    · split at e <;> cases e
  · cases e
structure MkX (K : PySem.W.Frag) (C N f : Addr) : Prop where
  exc : ExcT K C N
  ns : PySem.W.nsOkIn K N = true
  ini : PySem.W.nsIn K N "__init__" = some (some (.ref f))
  fn : ∃ o, K.lookup f = some o ∧ o.cls = .type "function"
  kp : PySem.W.keepIn K (.ref C) = true
def tMakeX (C : Addr) (sp : Sp) (dvs : List V) (E : XK) (t : TA) : TE := fun σ H Q => t σ H fun vs H1 => vs.length ≤ 100 ∧ ∀ x, H1 x = none → sp (.ref x :: (vs ++ dvs)) (upd H1 x (ExcO x (.ref C) none)) (fun v H2 => v = .non ∧ Q (.ref x) H2) E
section
variable {X : Cx} {CX : CXT} {k : Nat} {f C N : Addr} {fd : FuncData} {ps : List Str} {sp : Sp} {dvs : List V} {ds : List Value} {E : XK} {x : Str} {p pos : Pos} {e : Expr} {es : List Expr} {t : TA}
theorem run_makeX {pins : List (Addr × Obj)} {σ : St} {H : Hp} {s : Shared} {Q : VK} {us : List Value} {vs : List V} (M : MkX X.K C N f) (F : FnOk X.prog X.w X.K X.mg X.base CX k f fd ps sp) (hr : Room (k + 1) X.A) (hb : Binds X.K fd ps ds) (hd : Vals dvs ds)
    (hx : Passes CX X E) (I : Inv X pins σ H s) (r : Vals vs us) (hz : vs.length ≤ 100)
    (h : ∀ x, H x = none → sp (.ref x :: (vs ++ dvs)) (upd H x (ExcO x (.ref C) none)) (fun v H2 => v = .non ∧ Q (.ref x) H2) E) :
    wpAny (model X.prog X.w) X.A (call (.ref C) us) (EP X pins σ Q) X.xe s := by
  obtain ⟨cn, cq, bases, tl, hasD, sn, subs, ab, col, cdd, l0, l1, l2, l3, l5, h1, h2⟩ := M.exc.ob
  obtain ⟨oI, hf, hfc⟩ := M.fn
  have KX := I.kIn
  have G := Heap.Ns.of_isNs (PySem.W.isNs_of_in KX M.ns)
  have hl0 : _ = _ := Vals.length r
  obtain ⟨hp, gs, dr, tk, os⟩ := id s
  refine own_call (h := s.heap) (gs := s.gens) (dr := s.drawn) (tk := s.toks) (o := s.os) PySem.F.excBase_ValueError (PySem.W.tail_of_in KX h2) (KX _ _ h1) G (ns_some_of KX G M.ini) (KX _ _ hf) hfc (fun h' a made le => ?_) (by rw [← hl0, sizeLine_eq]; lia)
  obtain ⟨t0, he, ht0, htup⟩ := made.there
  have is : ExcIs a (.ref C) none h' := ⟨_, _, t0, he, rfl, rfl, rfl, rfl, rfl⟩
  have I2 := I.laid (a := a) (o := ExcO a (.ref C) none) (h' := h') (t' := s.toks) made.keeps le is.ok
  have hq := h a (I.hok.fresh le)
  have r2 : Vals (V.ref a :: (vs ++ dvs)) (Value.ref a :: (us ++ ds)) := .cons rfl (r.append hd)
  have hl : (Value.ref a :: us ++ ds).length = ps.length := by
    have e := r2.length
    rw [F.len _ _ _ _ hq] at e
    exact e.symm
  refine wpAny_call (codeAny_mono (F.run _ X.stack _ _ ⟨Value.ref a :: us, []⟩ (Value.ref a :: (us ++ ds)) _ _ E (hr.make C us []) (I2.env0.make C us []) (hb _ (Value.ref a :: us) I2.kIn hl) r2 hq) fun r s' hq' => ?_)
  cases r with
  | error e => exact hx pins σ _ _ e s' I2 hq'
  | ok fl =>
    cases fl with
    | ret u =>
      obtain ⟨v, H', I3, rv, ev, q3⟩ := I2.after hq'
      subst ev
      exact ⟨rv, ⟨V.ref a, H', I3, rfl, q3⟩⟩
    | next => exact False.elim hq'
    | brk => exact False.elim hq'
    | cont => exact False.elim hq'
theorem pe_makeX0 (M : MkX X.K C N f) (F : FnOk X.prog X.w X.K X.mg X.base CX k f fd ps sp) (hr : Room (k + 1) X.A) (hg : Gl X x) (hm : X.mg x = some (.ref C)) (hb : Binds X.K fd ps ds) (hd : Vals dvs ds) (hx : Passes CX X E)
    (hdb : (x == ("__debug__" : Str)) = false := by decide) : PE X (.Call (.Name x p) [] [] pos) (tMakeX C sp dvs E tNil) := by
  intro pins s σ H Q I h
  refine wpAny_Call_Name_kw (ld_glob I hg hm ?_ hdb)
  exact PySem.W.callWith_K0 I.kIn M.kp (run_makeX (us := []) M F hr hb hd hx I .nil h.1 h.2)
end
end L2
end
/-! UfX11 -/
section
set_option Elab.async false
set_option linter.all false
set_option maxRecDepth 100000
namespace L2
open PySem PySem.Spec PyProof.Rows UfX
section
variable {X : Cx} {pins : List (Addr × Obj)} {σ : St} {H : Hp} {s : Shared}
theorem Inv.flew {a : Addr} {hd : Option Addr} {oa : Obj} {va : Array Value} {h' : Heap} (I : Inv X pins σ H s) (st : UfX.Step (frs X.stack) a hd s.heap h') (ea : s.heap.get? a = some oa) (da : oa.data = .fields va) (ha : H a = none) (na : X.s₀.heap.get? a = none)
    (hh : ∀ T, hd = some T → H T = none ∧ X.s₀.heap.get? T = none ∧ ∃ oT vT, s.heap.get? T = some oT ∧ oT.data = .fields vT)
    (pa : ∀ p ∈ X.pn ++ pins, p.1 ≠ a ∧ hd ≠ some p.1) (hex : X.ex = []) : Inv X pins σ H { s with heap := h' } := by
  have b0 := I.base
  have fr : ∀ b o, H b = some o → b ∉ frs X.stack := fun b o e hm => by
    rw [I.stkFree b hm] at e
    cases e
  have kt : ∀ b o u, H b = some o → s.heap.get? b = some u → h'.get? b = some u := fun b o u e hu =>
    st.keep b u hu (fr b o e) (fun z => by rw [z, ha] at e; cases e) fun z => by rw [(hh b z).1] at e; cases e
  have old : ∀ b o, X.s₀.heap.get? b = some o → b ≠ a ∧ hd ≠ some b := fun b o e => ⟨fun z => (by rw [z, na] at e; cases e), fun z => (by rw [(hh b z).2.1] at e; cases e)⟩
  have sub : ∀ b, b ∈ X.fs → b ∈ frs X.stack := fun b hb => by
    rcases I.ok.stk with e | ⟨e, hf⟩
    · rw [e]; exact hb
    · rw [e]
      unfold frs
      rw [List.filterMap_cons, hf]
      exact List.mem_cons_of_mem _ hb
  have nf : ∀ b o, s.heap.get? b = some o → (∀ vs, o.data ≠ .fields vs) → b ≠ a ∧ hd ≠ some b := fun b o e hn => ⟨fun z => (by
    rw [z, ea] at e
    cases e
    exact hn _ da), fun z => (by
    obtain ⟨oT, vT, h1, h2⟩ := (hh b z).2.2
    rw [h1] at e
    cases e
    exact hn _ h2)⟩
  have upto : ∀ b o, s.heap.get? b = some o → (∀ vs, o.data ≠ .fields vs) → ∃ sl, h'.get? b = some { o with slots := sl } := fun b o e hn => by
    by_cases hm : b ∈ frs X.stack
    · exact st.slot b o e hm
    · exact ⟨o.slots, st.keep b o e hm (nf b o e hn).1 (nf b o e hn).2⟩
  have nL : ∀ b o, X.s₀.heap.get? b = some o → b ≠ X.env.locals := fun b o e z => by
    have h1 := Heap.lt_size e
    have h2 := I.ok.above
    rw [z] at h1
    exact absurd (Nat.lt_of_lt_of_le h1 h2) (Nat.lt_irrefl _)
  have cellK : ∀ c v, s.heap.IsCell c v → h'.IsCell c v := fun c v hc => by
    obtain ⟨o, ho, hd'⟩ := hc
    obtain ⟨sl, h1⟩ := upto c o ho (fun vs z => by rw [hd'] at z; cases z)
    exact ⟨_, h1, hd'⟩
  refine ⟨I.ok, I.os, I.bare, ⟨fun b o e n h1 h2 => ?_, fun b o e n h1 h2 => ?_, b0.free, fun b o e h2 => ?_, b0.tups, b0.frzs, b0.tbls⟩, ?_, fun x c e => ?_, I.free, I.freeC, fun p hp => ?_, fun b o e => (I.hok b o e).stay (fun c u hc hu => ?_) (fun _ z => z) fun _ _ z => z, I.len⟩
  · refine st.keep b o (b0.keep b o e n h1 h2) (fun hm => ?_) (old b o e).1 (old b o e).2
    rcases List.mem_cons.mp (I.stkSub b hm) with z | z
    · exact nL b o e z
    · exact h1 z
  · obtain ⟨sl, h3⟩ := b0.slot b o e n h1 h2
    obtain ⟨sl2, h4⟩ := st.slot b _ h3 (sub b h1)
    exact ⟨sl2, h4⟩
  · obtain ⟨o', h3⟩ := b0.there b o e h2
    by_cases hm : b ∈ frs X.stack
    · obtain ⟨sl, h4⟩ := st.slot b o' h3 hm
      exact ⟨_, h4⟩
    · exact ⟨_, st.keep b o' h3 hm (old b o e).1 (old b o e).2⟩
  · obtain ⟨m, ⟨o, es, ep, ho, hd', r⟩, hl⟩ := I.loc
    obtain ⟨sl, h1⟩ := upto _ o ho (fun vs z => by rw [hd'] at z; cases z)
    refine ⟨m, ⟨_, es, ep, h1, hd', r⟩, fun i x v e1 e2 e3 => ?_⟩
    obtain ⟨u, ru, hk⟩ := hl i x v e1 e2 e3
    refine ⟨u, ru, ?_⟩
    rcases hk with hk | ⟨hk, c, hc1, hc2⟩
    · exact .inl hk
    · exact .inr ⟨hk, c, hc1, cellK c _ hc2⟩
  · obtain ⟨v, hv⟩ := I.cell x c e
    exact ⟨v, cellK c v hv⟩
  · obtain ⟨h1, h2, h3, h4, h5⟩ := I.pin p hp
    refine ⟨st.keep _ _ h1 (fun hm => ?_) (pa p hp).1 (pa p hp).2, h2, h3, h4, h5⟩
    rcases List.mem_cons.mp (I.stkSub _ hm) with z | z
    · exact h3 z
    · exact h4 z
  · rcases hc with rfl | hc
    · exact kt _ _ _ e hu
    · exact kt _ _ _ hc hu
end
end L2
end
/-! UfX12 -/
section
set_option Elab.async false
set_option linter.all false
set_option maxRecDepth 100000
namespace UfX
open PySem
section
variable {M : Model} {A : Around} {E : Value → Shared → Prop} {s : Shared} {base : Heap} {env : Env} {outer : List Env} {L e : Addr} {Q : Unit → Shared → Prop}
theorem land {cls a0 : Value} {dx hd : Option Addr} (hfr : A.frames = some (env :: outer)) (hl : s.heap.FunFrames base (env :: outer)) (hf : env.frame = some L) (x : Exc s.heap e cls a0 dx hd)
    (k : ∀ h' T, Exc h' e cls a0 dx (some T) → s.heap.objs.size ≤ T → Step ((env :: outer).filterMap (·.frame)) e hd s.heap h' → Q () { s with heap := h' }) : wpAny M A (noteFrame (.ref e) env) (fun _ s' => wpAny M A (setFlight (.ref e) none) Q E s') E s := by
  obtain ⟨oe, vs, he, rfl, rfl, hdt, h0, hn, hs⟩ := x
  unfold noteFrame
  simp only [hf]
  cases hd with
  | none =>
    have h1 := hn rfl
    refine wpAny_bind (wpAny_field he hdt h1 ?_)
    rw [if_neg (by decide)]
    exact entry hfr hl hf he hdt (Array.getElem?_eq_some_iff.mp h1).1 h0 k
  | some T =>
    obtain ⟨h1, hTe, oT, ts, hT, hTd, h3⟩ := hs T rfl
    refine wpAny_bind (wpAny_field he hdt h1 ?_)
    rw [if_pos (by simp : (Value.ref T != Value.none) = true)]
    refine wpAny_bind (wpAny_field hT hTd h3 ?_)
    rw [if_neg (by simp [rawInt] : ¬ ((Value.none == rawInt L) = true))]
    refine wpAny_bind (wpAny_setField hT hTd (Array.getElem?_eq_some_iff.mp h3).1 ?_)
    have other : ∀ c, c ≠ T → (s.heap.update T (Obj.mapFields (·.setIfInBounds 3 Value.none))).get? c = s.heap.get? c := fun _ hc => Heap.get?_update_other _ _ (Ne.symm hc)
    have nT : ∀ b o, s.heap.get? b = some o → (∀ us, o.data ≠ .fields us) → b ≠ T := fun b o hb hnf z => by
      subst z
      rw [hT] at hb
      cases hb
      exact hnf ts hTd
    refine entry hfr (hl.of_keeps fun b o hb hnf => ⟨o, (other b (nT b o hb hnf)).trans hb, rfl⟩) hf ((other e (Ne.symm hTe)).trans he) hdt (Array.getElem?_eq_some_iff.mp h1).1 h0 fun h' T' x1 x2 x3 => k h' T' x1 ?_ ?_
    · rwa [Heap.size_after_update] at x2
    · refine ⟨fun b o hb h1 h2 h3 => x3.keep b o ((other b fun z => h3 (by rw [z])).trans hb) h1 h2 (fun z => nomatch z), fun b o hb hm => ?_, ?_⟩
      · obtain ⟨_, o', ho', hn'⟩ := hl.mem hm
        have e' : o' = o := Option.some.inj (ho'.symm.trans hb)
        subst e'
        exact x3.slot b o' ((other b (nT b o' hb hn')).trans hb) hm
      · have := x3.size
        rwa [Heap.size_after_update] at this
theorem again {cls a0 : Value} {dx : Option Addr} {T : Addr} {fr : List Addr} (x : Exc s.heap e cls a0 dx (some T)) (hfr : T ∉ fr) (k : ∀ h', Exc h' e cls a0 dx (some T) → Step fr e (some T) s.heap h' → Q () { s with heap := h' }) : wpAny M A (setFlight (.ref e) none) Q E s := by
  obtain ⟨oe, vs, he, rfl, rfl, hdt, h0, hn, hs⟩ := x
  obtain ⟨h1, hTe, oT, ts, hT, hTd, h3⟩ := hs T rfl
  unfold setFlight
  refine wpAny_bind (wpAny_field he hdt h1 ?_)
  rw [if_pos (by simp : (Value.ref T != Value.none) = true)]
  have i3 : 3 < ts.size := (Array.getElem?_eq_some_iff.mp h3).1
  refine wpAny_setField hT hTd i3 (k _ ?_ ?_)
  · refine ⟨oe, vs, (Heap.get?_update_other _ _ hTe).trans he, rfl, rfl, hdt, h0, (fun z => nomatch z), fun T' z => ?_⟩
    cases z
    exact ⟨h1, hTe, _, _, Heap.get?_update_self _ hT (Obj.isFreed_of_fields (Obj.data_mapFields hTd _)), Obj.data_mapFields hTd _, by simp [i3]⟩
  · refine ⟨fun b o hb _ _ hb' => (Heap.get?_update_other _ _ fun z => hb' (by rw [z])).trans hb, fun b o hb hm => ?_, ?_⟩
    · have ne : T ≠ b := fun z => hfr (by rw [z]; exact hm)
      exact ⟨o.slots, (Heap.get?_update_other _ _ ne).trans hb⟩
    · rw [Heap.size_after_update]
      exact Nat.le_refl _
theorem match_own {h : Heap} {gs : Array GenState} {dr : Drawn} {tk : Nat} {o : OsState} {C B N NB : Addr} {oe : Obj} {cn cq bn bq : Str} {bases tl bases' tl' : List Value} {hasD hasD' : Bool} {sn sn' : List Str} {subs subs' : List Value} {ab ab' : Bool} {col col' : Option Bool}
    {cdd cdd' : Option Addr} {l0 l1 l2 l3 l5 m0 m1 m2 m3 m5 : Option Value} {nw nw' : String} {R : Bool → Shared → Prop} (hC : h.get? C = some (excClassObj cn cq C N bases tl hasD sn subs ab col cdd l0 l1 l2 l3 l5 nw)) (hB : h.get? B = some (excClassObj bn bq B NB bases' tl' hasD' sn' subs' ab' col' cdd' m0 m1 m2 m3 m5 nw'))
    (he : h.get? e = some oe) (hcl : oe.cls = .ref C) (hbb : tl'.contains (.type "BaseException") = true) (hsub : (Value.ref C :: tl).contains (.ref B) = true) (hq : R true ⟨h, gs, dr, tk, o⟩) : wpAny M A (excMatches (.ref e) (.ref B)) R E ⟨h, gs, dr, tk, o⟩ := by
  have hcB : (Value.ref B :: tl').contains (.type "BaseException") = true := by rw [List.contains_cons, hbb, Bool.or_true]
  have q := tc_notTuple
  unfold excMatches
  repeat (first | (with_reducible refine wpAny_loadPart_at he ?_; rw [hcl]) | (with_reducible refine wpAny_loadPart_at hB ?_) | (with_reducible refine wpAny_isSubtype_exc hB ?_; rw [hcB]) | (with_reducible refine wpAny_isSubtype_exc hC ?_; rw [hsub]) | wp_step)
  exact hq
end
end UfX
end
/-! UfX13 -/
section
set_option Elab.async false
set_option linter.all false
set_option maxRecDepth 100000
namespace L2
open PySem PySem.Spec PyProof.Rows UfX
def CaughtIs (a : Addr) (cls : Value) (dx : Option Addr) (h : Heap) : Prop := ∃ oe vs, h.get? a = some oe ∧ oe.cls = cls ∧ oe.dict = dx ∧ oe.data = .fields vs
def CaughtO (a : Addr) (cls : Value) (dx : Option Addr) : HO := .ext (CaughtIs a cls dx)
theorem CaughtIs.ok {P : Program} {w : World} {H : Hp} {h : Heap} {a : Addr} {cls : Value} {dx : Option Addr} (x : CaughtIs a cls dx h) : ObjOk P w H h a (CaughtO a cls dx) := by
  refine ⟨x, ?_, fun h1 h2 y k => ?_⟩
  · obtain ⟨oe, _, e, _⟩ := x
    exact ⟨oe, e⟩
  · obtain ⟨oe, vs, e, r⟩ := y
    exact ⟨oe, vs, k _ e, r⟩
section
variable {X : Cx} {pins : List (Addr × Obj)} {σ : St} {H : Hp} {s : Shared}
theorem Inv.track {a : Addr} {φ : Heap → Prop} (I : Inv X pins σ H s) (ha : H a = none) (na : X.s₀.heap.get? a = none) (aL : a ≠ X.env.locals) (aC : ∀ x c, X.env.cells.lookup x = some c → c ≠ a) (aP : ∀ p ∈ X.pn ++ pins, p.1 ≠ a)
    (ok : ObjOk X.prog X.w (upd H a (.ext φ)) s.heap a (.ext φ)) : Inv X pins σ (upd H a (.ext φ)) s := by
  have b0 := I.base
  have up : ∀ b o, H b = some o → upd H a (.ext φ) b = some o := fun b o e => by
    rw [upd_ne (fun z => by rw [z, ha] at e; cases e)]
    exact e
  refine ⟨I.ok, I.os, I.bare, ⟨b0.keep, b0.slot, fun b o h1 h2 h3 => ?_, b0.there, fun b xs h => up _ _ (b0.tups b xs h), fun b o u h => up _ _ (b0.frzs b o u h), fun b ps h => ?_⟩, I.loc, I.cell, ?_, fun x c h => ?_, fun p hp => ?_, fun b o h => ?_, I.len⟩
  · rw [upd_ne (fun z => by rw [z, na] at h1; cases h1)]
    exact b0.free b o h1 h2 h3
  · obtain ⟨more, h2⟩ := b0.tbls b ps h
    exact ⟨more, up _ _ h2⟩
  · rw [upd_ne (Ne.symm aL)]
    exact I.free
  · rw [upd_ne (aC x c h)]
    exact I.freeC x c h
  · obtain ⟨h1, h2, h3⟩ := I.pin p hp
    refine ⟨h1, ?_, h3⟩
    rw [upd_ne (aP p hp)]
    exact h2
  · by_cases z : b = a
    · subst z
      rw [upd_same] at h
      cases h
      exact ok
    · rw [upd_ne z] at h
      exact (I.hok b o h).stay (fun _ _ _ q => q) (fun c hc => up _ _ hc) fun c xs hc => up _ _ hc
theorem unbind_ok {M : Model} {A : Around} {E : Value → Shared → Prop} {i : Nat} {x : Str} {v : V} {Q : Unit → Shared → Prop} (I : Inv X pins (σ.set i (some v)) H s) (hN : X.N.Nodup) (hi : X.N[i]? = some x) (hk : X.env.scope.names.lookup x = some .local) (hz : i < σ.length)
    (h : ∀ s', Inv X pins (σ.set i none) H s' → Q () s') : wpAny M A (unbindName X.env x) Q E s := by
  obtain ⟨m, hn, hl⟩ := id I.loc
  have cne := I.cne
  obtain ⟨u, _, hu⟩ := hl i x v hi (by rw [List.getElem?_set_self hz]) (.inl hk)
  have hm : m x = some u := by
    rcases hu with ⟨_, e⟩ | ⟨k, _⟩
    · exact e
    · have k' : X.env.scope.names.lookup x = some .cell ∨ X.env.scope.names.lookup x = some .free := k
      rw [hk] at k'
      rcases k' with k' | k' <;> cases k'
  refine wpAny_unbindName_local hk hn hm (by rw [I.ok.kind]; rfl) fun h' uu hn' hs => h _ ?_
  have low : ∀ b o, X.s₀.heap.get? b = some o → b ≠ X.env.locals := fun b o e => Nat.ne_of_lt (Nat.lt_of_lt_of_le (Heap.lt_size e) I.ok.above)
  obtain ⟨oL, _, _, hoL, _⟩ := id hn
  refine ⟨I.ok, I.os, I.bare, ⟨fun b o e n hb hx => ?_, fun b o e n hb hx => ?_, I.base.free, fun b o e hx => ?_, I.base.tups, I.base.frzs, I.base.tbls⟩, ⟨_, hn', fun j y v' e1 e2 e3 => ?_⟩, fun y c e => ?_, I.free, I.freeC, fun p hp => ?_, fun b ob e => (I.hok b ob e).stay (fun c w' hc q => (hs.2 c ?_).trans q) (fun _ q => q) fun _ _ q => q, ?_⟩
  · exact (hs.2 b (low b o e)).trans (I.base.keep b o e n hb hx)
  · obtain ⟨sl, e1⟩ := I.base.slot b o e n hb hx
    exact ⟨sl, (hs.2 b (low b o e)).trans e1⟩
  · obtain ⟨o', e1⟩ := I.base.there b o e hx
    exact ⟨o', (hs.2 b (low b o e)).trans e1⟩
  · by_cases hj : j = i
    · subst hj
      rw [List.getElem?_set_self hz] at e2
      cases e2
    · rw [List.getElem?_set_ne (Ne.symm hj)] at e2
      obtain ⟨u', r', q⟩ := hl j y v' e1 (by rw [List.getElem?_set_ne (Ne.symm hj)]; exact e2) e3
      refine ⟨u', r', ?_⟩
      rcases q with ⟨k, e⟩ | ⟨k, c, e, z⟩
      · refine .inl ⟨k, ?_⟩
        have : y ≠ x := fun e => hj (nodup_ix hN e1 (e ▸ hi))
        simp [this, e]
      · exact .inr ⟨k, c, e, z.sameBut hs (cne y c e)⟩
  · obtain ⟨w', z⟩ := I.cell y c e
    exact ⟨w', z.sameBut hs (cne y c e)⟩
  · obtain ⟨h1, h2, h3, h4⟩ := I.pin p hp
    exact ⟨(hs.2 _ h3).trans h1, h2, h3, h4⟩
  · rintro rfl
    rcases hc with z | hc
    · rw [← z, I.free] at e; cases e
    · rw [I.free] at hc; cases hc
  · have := I.len
    rw [List.length_set] at this ⊢
    exact this
end
end L2
end
/-! UfX14 -/
section
set_option Elab.async false
set_option linter.all false
set_option maxRecDepth 100000
namespace L2
open PySem PySem.Spec PyProof.Rows UfX
abbrev Cx.held (X : Cx) (a : Addr) : Cx := { X with A := X.A.mark (some (.ref a)), calm := false, xe := fun _ _ => False }
theorem Cx.Ok.held {X : Cx} (ok : X.Ok) (a : Addr) : (X.held a).Ok :=
  ⟨ok.mod, ok.kind, ok.glob, ok.blt, ok.above, ok.inj, ok.has, ok.cab, (fun z => nomatch z), ok.frames, ok.stk, ok.exf, ok.bs, ok.bsz, ok.noex, ok.exfs, ok.funs, ok.frf⟩
def catchTo (X : Cx) (pins : List (Addr × Obj)) (D : Ends) (hs : List ExceptHandler) : Value → Shared → Prop := fun e s1 => wpAny (model X.prog X.w) X.A (noteFrame e X.env) (fun _ s2 => wpAny (model X.prog X.w) X.A (setFlight e none) (fun _ s3 =>
  wpAny (model X.prog X.w) X.A (handleBy e X.env hs) (SP X pins D) X.xe s3) X.xe s2) X.xe s1
abbrev Cx.tried (X : Cx) (pins : List (Addr × Obj)) (D : Ends) (hs : List ExceptHandler) : Cx := { X with pn := X.pn ++ pins, xe := catchTo X pins D hs }
section
variable {X : Cx} {pins pins' : List (Addr × Obj)} {σ : St} {H : Hp} {s : Shared} {a : Addr} {D : Ends} {hs : List ExceptHandler}
theorem Inv.held (I : Inv X pins σ H s) (a : Addr) : Inv (X.held a) pins σ H s := ⟨I.ok.held a, I.os, I.bare, I.base, I.loc, I.cell, I.free, I.freeC, I.pin, I.hok, I.len⟩
theorem Inv.unheld (I : Inv (X.held a) pins σ H s) (ok : X.Ok) : Inv X pins σ H s := ⟨ok, I.os, I.bare, I.base, I.loc, I.cell, I.free, I.freeC, I.pin, I.hok, I.len⟩
theorem Cx.Ok.tried (ok : X.Ok) : (X.tried pins D hs).Ok := ⟨ok.mod, ok.kind, ok.glob, ok.blt, ok.above, ok.inj, ok.has, ok.cab, ok.hd, ok.frames, ok.stk, ok.exf, ok.bs, ok.bsz, ok.noex, ok.exfs, ok.funs, ok.frf⟩
theorem Cx.Ok.untried (ok : (X.tried pins D hs).Ok) : X.Ok := ⟨ok.mod, ok.kind, ok.glob, ok.blt, ok.above, ok.inj, ok.has, ok.cab, ok.hd, ok.frames, ok.stk, ok.exf, ok.bs, ok.bsz, ok.noex, ok.exfs, ok.funs, ok.frf⟩
theorem Inv.tried (I : Inv X pins σ H s) : Inv (X.tried pins D hs) [] σ H s := ⟨I.ok.tried, I.os, I.bare, I.base, I.loc, I.cell, I.free, I.freeC, (fun p hp => I.pin p (by rwa [List.append_nil] at hp)), I.hok, I.len⟩
theorem Inv.untried (I : Inv (X.tried pins D hs) pins' σ H s) : Inv X pins σ H s := ⟨I.ok.untried, I.os, I.bare, I.base, I.loc, I.cell, I.free, I.freeC, (fun p hp => I.pin p (List.mem_append_left _ hp)), I.hok, I.len⟩
structure UnderC (K : PySem.W.Frag) (C B : Addr) : Prop where
  c : ∃ cn cq N bases tl hasD sn subs ab col cdd l0 l1 l2 l3 l5 nw, K.lookup C = some (excClassObj cn cq C N bases tl hasD sn subs ab col cdd l0 l1 l2 l3 l5 nw) ∧ (Value.ref C :: tl).contains (.ref B) = true
  b : ExcC K B
abbrev suiteEnds (i : Nat) (D : Ends) : Ends := { nx := fun σ H => D.nx (σ.set i none) H, rt := D.rt, bk := fun σ H => D.bk (σ.set i none) H, ct := fun σ H => D.ct (σ.set i none) H }
def eCatch (X : Cx) (B : Addr) (i : Nat) (th : Addr → TS) (D : Ends) : XK := fun cls dx H => ∃ C, cls = .ref C ∧ UnderC X.K C B ∧ ∀ a, H a = none → th a (suiteEnds i D) ((List.replicate X.N.length none).set i (some (.ref a))) (upd H a (CaughtO a (.ref C) dx))
end
end L2
end
/-! UfX15 -/
section
set_option Elab.async false
set_option linter.all false
set_option maxRecDepth 100000
namespace L2
open PySem PySem.Spec PyProof.Rows UfX
section
variable {X : Cx} {pins : List (Addr × Obj)} {D : Ends} {B : Addr} {i : Nat} {n cn : Str} {np hpos : Pos} {b0 : Stmt} {suite : List Stmt} {th : Addr → TS}
theorem passC (hst : X.stack = X.env :: X.outer) (hfr : X.env.frame = some X.env.locals) (hex : X.ex = []) (hN : X.N.Nodup) (hi : X.N[i]? = some n) (hk : X.env.scope.names.lookup n = some .local) (hg : Gl X cn) (hm : X.mg cn = some (.ref B)) (hd : (cn == ("__debug__" : Str)) = false)
    (hsu : ∀ a, PSs (X.held a) (b0 :: suite) (th a)) :
    Passes (CX1 X.prog X.w) (X.tried pins D [.ExceptHandler (some (.Name cn np)) (some n) (b0 :: suite) hpos]) (eCatch X B i th D) := fun pins' σ H1 s1 e s' I h => by
  obtain ⟨a, T, cls, a0, dx, H', rfl, os, bare, un, hok, x, na, nT, ha, hT, C, rfl, U, q⟩ := h
  have J := (I.call' os un hok bare fun b z => absurd z (by simp)).untried
  have up : ∀ b, s1.heap.get? b = none → X.s₀.heap.get? b = none := fun b hb => by
    cases z : X.s₀.heap.get? b with
    | none => rfl
    | some o =>
      obtain ⟨o', h3⟩ := I.base.there b o z (by show b ∉ X.ex; rw [hex]; simp)
      rw [hb] at h3
      cases h3
  have pa : ∀ b, s1.heap.get? b = none → ∀ p ∈ X.pn ++ pins, p.1 ≠ b := fun b hb p hp z => by
    have := (I.pin p (List.mem_append_left _ hp)).1
    rw [z, hb] at this
    cases this
  obtain ⟨oa, va, hoa, _, _, hda, _, _, hsT⟩ := id x
  obtain ⟨_, _, oT, vT, hoT, hdT, _⟩ := hsT T rfl
  have hst' : X.A.frames = some (X.env :: X.outer) := by rw [← hst]; exact J.ok.frames
  have hff : s'.heap.FunFrames X.base (X.env :: X.outer) := by rw [← hst]; exact J.stack
  refine UfX.land (base := X.base) hst' hff hfr x fun h2 T2 x2 lT st => ?_
  have st1 : UfX.Step (frs X.stack) a (some T) s'.heap h2 := by rw [hst]; exact st
  have J1 := J.flew st1 hoa hda ha (up a na) (fun T' z => by cases z; exact ⟨hT, up T nT, oT, vT, hoT, hdT⟩) (fun p hp => ⟨pa a na p hp, fun z => pa T nT p hp (Option.some.inj z).symm⟩) hex
  have hT2 : H' T2 = none := J.hok.fresh lT
  have uT2 : X.s₀.heap.get? T2 = none := Heap.get?_none_of_le (Nat.le_trans J.sz lT)
  obtain ⟨⟨cn1, cq, N, bases, tl, hasD, sn, subs, ab, col, cdd, l0, l1, l2, l3, l5, nw, hC, hsub⟩, ⟨bn, bq, NB, bases', tl', hasD', sn', subs', ab', col', cdd', m0, m1, m2, m3, m5, nw', hB, hbb⟩⟩ := U
  obtain ⟨oa2, va2, hoa2, hcl2, hdx2, hda2, h02, hn2, hs2⟩ := id x2
  refine wpAny_handleBy_cons (codeAny_handlers_test (Calls.Name_function_global J1.ok.kind hg (Calls.loadGlobal_global (by rw [J1.ok.glob]; exact J1.mod.glob.keeps J1.bk) hm ?_) hd)) (fun z => nomatch z)
  refine UfX.match_own (J1.kIn _ _ hC) (J1.kIn _ _ hB) hoa2 hcl2 hbb hsub (codeAny_handlers_suite_as ?_)
  have nTf : T2 ∉ frs X.stack := fun hm2 => by
    obtain ⟨_, o, ho, hnf⟩ := J1.stack.mem hm2
    obtain ⟨_, _, oT2, vT2, hoT2, hdT2, _⟩ := hs2 T2 rfl
    rw [hoT2] at ho
    cases ho
    exact hnf _ hdT2
  refine UfX.again (fr := frs X.stack) x2 nTf fun h3 x3 st3 => ?_
  obtain ⟨_, _, oT2, vT2, hoT2, hdT2, _⟩ := hs2 T2 rfl
  have J2 := J1.flew st3 hoa2 hda2 ha (up a na) (fun T' z => by cases z; exact ⟨hT2, uT2, oT2, vT2, hoT2, hdT2⟩) (fun p hp => ⟨pa a na p hp, fun z => by
    have e1 := (J.pin p hp).1
    rw [← Option.some.inj z] at e1
    exact absurd (Nat.lt_of_lt_of_le (Heap.lt_size e1) lT) (Nat.lt_irrefl _)⟩) hex
  obtain ⟨oa3, va3, hoa3, hcl3, hdx3, hda3, _, _, _⟩ := id x3
  have aL : a ≠ X.env.locals := fun z => by
    obtain ⟨m, ⟨o, es, ep, ho, hd', _⟩, _⟩ := J2.loc
    rw [← z] at ho
    have ho : h3.get? a = some o := ho
    rw [hoa3] at ho
    cases ho
    rw [hda3] at hd'
    cases hd'
  have aC : ∀ y c, X.env.cells.lookup y = some c → c ≠ a := fun y c hy z => by
    obtain ⟨v, o, ho, hd'⟩ := J2.cell y c hy
    rw [z] at ho
    have ho : h3.get? a = some o := ho
    rw [hoa3] at ho
    cases ho
    rw [hda3] at hd'
    cases hd'
  have J3 := J2.track (a := a) (φ := CaughtIs a (.ref C) dx) ha (up a na) aL aC (pa a na) (CaughtIs.ok ⟨oa3, va3, hoa3, hcl3, hdx3, hda3⟩)
  have J4 : Inv X pins (List.replicate X.N.length none) (upd H' a (CaughtO a (.ref C) dx)) _ := J3.weak (by rw [List.length_replicate]; exact J3.len.symm) (fun j v e => by
    rw [List.getElem?_replicate] at e
    split at e <;> cases e)
  refine store_ok J4 hN hi (Or.inl hk) (v := .ref a) rfl (fun s5 I5 => ?_) (.inr hk)
  have run := hsu a pins s5 _ _ (suiteEnds i D) (I5.held a) (q a ha)
  have behind : ∀ {σ' : St} {H5 : Hp} {s6 : Shared} {R : Shared → Prop}, Inv X pins σ' H5 s6 → (∀ s7, Inv X pins (σ'.set i none) H5 s7 → R s7) →
      wpAny (model X.prog X.w) X.A (do bindName X.env n .none; unbindBehindTheSuite X.env n hpos) (fun _ s7 => R s7) X.xe s6 := fun {σ' H5 s6 R} K1 k1 => by
    have lt : i < σ'.length := by rw [K1.len]; exact (List.getElem?_eq_some_iff.mp hi).1
    refine wpAny_bind (wpAny_bindName (store_ok K1 hN hi (Or.inl hk) (v := .non) rfl (fun s7 K2 => ?_) (.inr hk)))
    exact wpAny_onRaise (unbind_ok K2 hN hi hk lt fun s8 K3 => k1 s8 K3)
  refine wpAny_mono run (fun f s6 hf => ?_) fun _ _ z => False.elim z
  have ok := J4.ok
  cases f with
  | next => obtain ⟨σ', H5, K1, z⟩ := hf; exact behind (K1.unheld ok) fun s7 K2 => ⟨_, _, K2, z⟩
  | brk => obtain ⟨σ', H5, K1, z⟩ := hf; exact behind (K1.unheld ok) fun s7 K2 => ⟨_, _, K2, z⟩
  | cont => obtain ⟨σ', H5, K1, z⟩ := hf; exact behind (K1.unheld ok) fun s7 K2 => ⟨_, _, K2, z⟩
  | ret u => obtain ⟨v, σ', H5, K1, rv, z⟩ := hf; exact behind (K1.unheld ok) fun s7 K2 => ⟨v, _, _, K2, rv, z⟩
theorem ps_try {body : List Stmt} {tb : Ends → TS} {pos : Pos} (hb : ∀ (D : Ends) (pins : List (Addr × Obj)), PSs (X.tried pins D [.ExceptHandler (some (.Name cn np)) (some n) (b0 :: suite) hpos]) body (tb D)) :
    PS X (.Try body [.ExceptHandler (some (.Name cn np)) (some n) (b0 :: suite) hpos] [] [] pos) (fun D σ H => tb D D σ H) := by
  intro pins s σ H D I h
  rw [arm_exec_Try]
  refine wpAny_bind (wpAny_standAt (wpAny_tryStmt_except ?_))
  refine wpAny_mono (hb D pins [] s σ H D I.tried h) (fun f s1 hf => ?_) fun _ _ z => z
  cases f with
  | next => obtain ⟨σ', H5, K1, z⟩ := hf; exact wpAny_pure ⟨σ', H5, K1.untried, z⟩
  | brk => obtain ⟨σ', H5, K1, z⟩ := hf; exact ⟨σ', H5, K1.untried, z⟩
  | cont => obtain ⟨σ', H5, K1, z⟩ := hf; exact ⟨σ', H5, K1.untried, z⟩
  | ret u => obtain ⟨v, σ', H5, K1, rv, z⟩ := hf; exact ⟨v, σ', H5, K1.untried, rv, z⟩
end
end L2
end
/-! UfX16 -/
section
set_option Elab.async false
set_option linter.all false
set_option maxRecDepth 100000
namespace L2
open PySem PySem.Spec PyProof.Rows UfX
section
variable {P : Program} {w : World} {A : Around} {E : Value → Shared → Prop} {h : Heap} {gs : Array GenState} {dr : Drawn} {tk : Nat} {o : OsState} {K : PySem.W.Frag} {x C : Addr} {ox : Obj} {od : Option Obj} {name : Str} {expr fill : Bool} {Q : Value → Shared → Prop}
end
end L2
end
/-! UfX17 -/
section
set_option Elab.async false
set_option linter.all false
set_option maxRecDepth 100000
namespace L2
open PySem PySem.Spec PyProof.Rows UfX
structure ExcG (K : PySem.W.Frag) (C : Addr) (f : Str) : Prop where
  ga : PySem.W.findIn K (.ref C) "__getattribute__" = some (some (.builtin "BaseException.__getattribute__"))
  gn : PySem.W.findIn K (.ref C) "__getattr__" = some none
  hm : PySem.W.mroIn K C (.type "BaseException") = some true
  hd : PySem.W.hasDictIn K C = true
  no : PySem.W.findIn K (.ref C) f = some none
section
variable {X : Cx} {pins : List (Addr × Obj)} {σ : St} {H : Hp} {s : Shared} {A : Around} {E : Value → Shared → Prop}
end
section
variable {X : Cx}
def tExcFld (K : PySem.W.Frag) (ta : TE) (f : Str) : TE := fun σ H Q => ta σ H fun x H1 => ∃ a C dx fs n, x = .ref a ∧ H1 a = some (CaughtO a (.ref C) (some dx)) ∧ H1 dx = some (.xd fs) ∧ ExcG K C f ∧ fs.lookup f = some (.int n) ∧ Q (.int n) H1
end
end L2
end
/-! UfX18 -/
section
set_option Elab.async false
set_option linter.all false
set_option maxRecDepth 100000
namespace L2
open PySem PySem.Spec PyProof.Rows UfX
section
variable {P : Program} {w : World} {A : Around} {E : Value → Shared → Prop} {h : Heap} {gs : Array GenState} {dr : Drawn} {tk : Nat} {o : OsState} {K : PySem.W.Frag} {x C : Addr} {ox : Obj} {od : Option Obj}
theorem exc_callC {t : Tok} {R : Result → Shared → Prop} (X : K.In h) (J : PySem.W.InstAt h x ox C od) (hm : PySem.W.mroIn K C (.type "BaseException") = some true) (ho : PySem.W.mroIn K C (.type "object") = some true)
    (hf : PySem.W.findObj K C od "__class__" = some (.bind (.builtin "getset_descriptor.__get__") (.builtin "object.__class__"))) (q : R (.ok (.ret (.ref C))) ⟨h, gs, dr, tk, o⟩) :
    codeAny (model P w) A (.call (.builtin "BaseException.__getattribute__") ⟨[.ref x, .str "__class__" t], []⟩) R ⟨h, gs, dr, tk, o⟩ := by
  have L0 := J.type (M := model P w)
  have L1 := PySem.W.looks_find (M := model P w) X J hf
  have isB : PySem.W.Looks (model P w) h (isInstance (.ref x) (.type "BaseException")) true := J.type.andThen (PySem.W.looks_mroIn X hm)
  refine codeAny_call_builtin PySem.F.attrBase_ValueError.ga.plain PySem.F.entry_bexc_ga (@PySem.W.check_slot (model P w) _ _ ⟨h, gs, dr, tk, o⟩ "BaseException.__getattribute__" "BaseException" "__getattribute__" (.ref x) [.str "__class__" t] [] _ (by decide +kernel) (by decide +kernel) isB (PySem.F.args_bexc_ga (.ref x) (.str "__class__" t)) ?_)
  unfold Builtin.«object.__getattribute__»
  repeat (any_goals (first | assumption | (with_reducible refine L0.at ?_) | (with_reducible refine L1.at ?_) | wp_step))
  exact PySem.W.class_get (s := ⟨h, gs, dr, tk, o⟩) (ox := ox) (od := od) X J ho (wpAny_pure q)
theorem exc_getopt {t : Tok} {Q : Option Value → Shared → Prop} {name : Str} (X : K.In h) (J : PySem.W.InstAt h x ox C od) (hga : PySem.W.findIn K (.ref C) "__getattribute__" = some (some (.builtin "BaseException.__getattribute__"))) (hgn : PySem.W.findIn K (.ref C) "__getattr__" = some none)
    (k : codeAny (model P w) A (.call (.builtin "BaseException.__getattribute__") ⟨[.ref x, .str name t], []⟩) (fun r s' => ∃ u, r = .ok (.ret u) ∧ PySem.W.handedIn u = true ∧ Q (some u) s') ⟨h, gs, dr, tk, o⟩) :
    wpAny (model P w) A (getAttrBy? (.ref x) (.str name t)) Q E ⟨h, gs, dr, tk, o⟩ := by
  have L0 := J.type (M := model P w)
  have L1 := PySem.W.looks_findIn (M := model P w) X hga
  have L2 := PySem.W.looks_findIn (M := model P w) X hgn
  have f3 := PySem.F.attrBase_ValueError.ga.bind (.ref x)
  have g2 : (Value.builtin "BaseException.__getattribute__" == Value.builtin "object.__getattribute__") = false := by decide +kernel
  have g1 : (onTheHeap (Value.ref C) && Value.builtin "BaseException.__getattribute__" == Value.builtin "object.__getattribute__") = false := by rw [g2]; rfl
  unfold getAttrBy?
  repeat (any_goals (first | assumption | (with_reducible refine L0.at ?_) | (with_reducible refine L1.at ?_) | (with_reducible refine L2.at ?_) | wp_step))
  refine codeAny_mono k fun r s' hr => ?_
  obtain ⟨u, rfl, hu, q⟩ := hr
  show wpAny _ _ (handedOut u) _ _ _
  rw [PySem.W.handedOut_of hu]
  exact wpAny_pure (wpAny_pure q)
end
structure ExcI (K : PySem.W.Frag) (C : Addr) : Prop where
  ga : PySem.W.findIn K (.ref C) "__getattribute__" = some (some (.builtin "BaseException.__getattribute__"))
  gn : PySem.W.findIn K (.ref C) "__getattr__" = some none
  hm : PySem.W.mroIn K C (.type "BaseException") = some true
  ho : PySem.W.mroIn K C (.type "object") = some true
  hd : PySem.W.hasDictIn K C = true
  cl : PySem.W.findIn K (.ref C) "__class__" = some (some (.builtin "object.__class__"))
  gt : PySem.W.specialIn K (.builtin "object.__class__") "__get__" = some (some (.builtin "getset_descriptor.__get__"))
  tk : PySem.W.takesIn K (.builtin "object.__class__") = some true
section
variable {X : Cx} {pins : List (Addr × Obj)} {σ : St} {H : Hp} {s : Shared} {A : Around} {E : Value → Shared → Prop}
end
end L2
end
/-! UfX19 -/
section
set_option Elab.async false
set_option linter.all false
set_option maxRecDepth 100000
namespace L2
open PySem PySem.Spec PyProof.Rows UfX
def clsV : V → Value
  | .ref a => .ref a
  | .ty n => .type n
  | _ => .none
theorem clsV_of {c : V} {u : Value} (r : RelV c u) (h : clsV c ≠ .none) : u = clsV c := by
  cases c <;> first | exact absurd rfl h | exact r
theorem clsV_all : ∀ {cs : List V} {us : List Value}, Vals cs us → (∀ c ∈ cs, clsV c ≠ .none) → us = cs.map clsV
  | _, _, .nil, _ => rfl
  | _, _, .cons r t, h => by
    rw [List.map_cons, ← clsV_of r (h _ List.mem_cons_self), ← clsV_all t fun c hc => h c (List.mem_cons_of_mem _ hc)]
def rIsExc (K : PySem.W.Frag) : List V → Hp → VK → Prop := fun xs H Q => ∃ a C dx fs c b, xs = [.ref a, c] ∧ H a = some (CaughtO a (.ref C) (some dx)) ∧ H dx = some (.xd fs) ∧ ExcI K C ∧ Q (.bl b) H ∧
  ((clsV c ≠ .none ∧ PySem.W.kitOne K (.ref C) (clsV c) = some b) ∨ ∃ tp cs, c = .ref tp ∧ H tp = some (.tup cs) ∧ (∀ d ∈ cs, clsV d ≠ .none) ∧ PySem.W.kitAny K (.ref C) (cs.map clsV) = some b)
section
variable {X : Cx}
end
end L2
end
/-! UfRk -/
section
set_option Elab.async false
set_option linter.all false
set_option maxRecDepth 100000
set_option maxHeartbeats 4000000
namespace L2
open PySem PySem.Spec PyProof.Rows UfSrt
theorem all_at {xs : List V} {p : V → Bool} {i : Nat} {x : V} (h : xs.all p = true) (e : xs[i]? = some x) : p x = true := List.all_eq_true.mp h x (List.mem_of_getElem? e)
theorem vals_at {xs : List V} {us : List Value} (r : Vals xs us) {i : Nat} {u : Value} (e : us[i]? = some u) : ∃ x, xs[i]? = some x ∧ RelV x u := by
  have hl := r.length
  have hi := (List.getElem?_eq_some_iff.mp e).1
  have h1 : xs[i]? = some xs[i] := List.getElem?_eq_getElem (by lia)
  obtain ⟨w, h2, h3⟩ := r.get h1
  rw [e] at h2
  cases h2
  exact ⟨_, h1, h3⟩
section
variable {X : Cx}
def rCount : V → List V → Hp → VK → Prop := fun x vs H Q => ∃ l xs y, x = .ref l ∧ vs = [y] ∧ H l = some (.lst xs) ∧ flatV y = true ∧ xs.all flatV = true ∧ Q (.int ((xs.countP fun z => eqV z y : Nat) : Int)) H
def rIndex : V → List V → Hp → VK → Prop := fun x vs H Q => ∃ l xs y z, ∃ j : Nat, x = .ref l ∧ vs = [y] ∧ H l = some (.lst xs) ∧ flatV y = true ∧ xs.all flatV = true ∧ xs[j]? = some z ∧ eqV z y = true ∧ (∀ m w, m < j → xs[m]? = some w → eqV w y = false) ∧ Q (.int (j : Nat)) H
theorem mt_index : MtM X "list.index" rIndex := by
  intro pins s σ H x vs v us Q I rx rv h
  obtain ⟨l, xs, y, zz, j, rfl, rfl, hH, fy, fs, hj, hit, hno, q⟩ := h
  cases rx
  obtain ⟨u, rfl, ru⟩ := rv.one
  obtain ⟨z, its, n, r, hl, e⟩ := I.lstM hH
  have hsl := PySem.sizeLine_eq
  have jl := (List.getElem?_eq_some_iff.mp hj).1
  have ji : j < its.length := by lia
  have at' : ∀ m (hm : m < its.length), ∃ w, xs[m]? = some w ∧ eqU y its[m] = eqV w y := fun m hm => by
    obtain ⟨w, h1, h2⟩ := vals_at r (List.getElem?_eq_getElem hm)
    exact ⟨w, h1, eqU_of h2 (all_at fs h1)⟩
  refine call_meets F.slot_list_index ⟨_, e, rfl⟩ F.entry_list_index (F.args_list_index_2 _ _) (SeqAt.list_indexAt l its.toArray n none _ u (eqU y) j (by rw [List.size_toArray]; exact ji) (by lia) ?_ ?_) ⟨e, fun w hw => mem_eqAt ru fy r fs w (by simpa using hw), ?_⟩
  · obtain ⟨w, h1, h2⟩ := at' j ji
    rw [hj] at h1
    cases h1
    show eqU y its[j] = true
    rw [h2]
    exact hit
  · intro m hm hmj
    have hm : m < its.length := by simpa using hm
    obtain ⟨w, h1, h2⟩ := at' m hm
    show eqU y its[m] = false
    rw [h2]
    exact hno m w hmj h1
  · exact ⟨.int _, H, I.tok _, ⟨_, rfl⟩, q⟩
inductive Alike (K : PySem.W.Frag) (H : Hp) : V → V → Prop
  | flat {v : V} : flatV v = true → Alike K H v v
  | tup {p q : Addr} {ts : List V} : SqT K H p ts → SqT K H q ts → ts.all flatV = true → Alike K H (.ref p) (.ref q)
def rAlike (K : PySem.W.Frag) (b : Bool) (A : Around) : R2 := fun x y H Q => ∃ p q xs ys, x = .ref p ∧ y = .ref q ∧ A.units + 1 < cLine ∧ SqL K H p xs ∧ SqL K H q ys ∧ Paired (Alike K H) xs ys ∧ Q (.bl b) H
end
theorem FnOk.calm {P : Program} {w : World} {K : PySem.W.Frag} {mg : Str → Option Value} {base : Heap} {k : Nat} {f : Addr} {fd : FuncData} {ps : List Str} {sp : Sp} (F : FnOk P w K mg base (CX1 P w) k f fd ps sp) :
    FnOk P w K mg base (fun _ _ _ _ _ _ => False) k f fd ps (fun vs H Q _ => sp vs H Q fun _ _ _ => False) :=
  ⟨fun vs H Q E h => F.len vs H Q _ h, fun A outer s H args us vs Q E hr he hb hv hs => codeAny_mono (F.run A outer s H args us vs Q (fun _ _ _ => False) hr he hb hv hs) fun r s' h => by
    cases r with
    | error e =>
      obtain ⟨_, _, _, _, _, _, _, _, _, _, _, _, _, _, _, _, q⟩ := h
      exact q
    | ok fl => cases fl <;> exact h⟩
end L2
end
/-! UfS2 -/
section
set_option Elab.async false
set_option linter.all false
set_option maxRecDepth 100000
set_option maxHeartbeats 4000000
namespace Uf
open PySem L2 UfSrt UfStr
abbrev sMoveT : Stmt := top 32
abbrev sNetT : Stmt := top 33
abbrev sChecked : Stmt := top 34
abbrev sReadS : Stmt := top 35
abbrev sReadM : Stmt := top 36
abbrev sReadN : Stmt := top 37
def tkOf (ms : List Mv) (x : Str) : List Str := ((ms.find? fun m => decide (m.1 = x)).map (·.2.1)).getD []
def gvOf (ms : List Mv) (x : Str) : List Str := ((ms.find? fun m => decide (m.1 = x)).map (·.2.2)).getD []
theorem find_name : ∀ {ms : List Mv} {m : Mv}, (names ms).Nodup → m ∈ ms → (ms.find? fun n => decide (n.1 = m.1)) = some m
  | [], _, _, h => by simp at h
  | n :: ms, m, hn, h => by
    obtain ⟨n1, n2⟩ := List.nodup_cons.mp (show (n.1 :: names ms).Nodup from hn)
    rcases List.mem_cons.mp h with rfl | h
    · simp
    · have ne : ¬ n.1 = m.1 := fun z => n1 (by rw [z]; exact List.mem_map.mpr ⟨m, h, rfl⟩)
      rw [List.find?_cons]
      simp only [ne, decide_false]
      exact find_name n2 h
theorem tkOf_eq {ms : List Mv} {m : Mv} (hn : (names ms).Nodup) (h : m ∈ ms) : tkOf ms m.1 = m.2.1 := by unfold tkOf; rw [find_name hn h]; rfl
theorem gvOf_eq {ms : List Mv} {m : Mv} (hn : (names ms).Nodup) (h : m ∈ ms) : gvOf ms m.1 = m.2.2 := by unfold gvOf; rw [find_name hn h]; rfl
theorem mem_srt_names {ms : List Mv} {x : Str} (h : x ∈ srt (names ms)) : ∃ m ∈ ms, m.1 = x := by
  obtain ⟨m, hm, e⟩ := List.mem_map.mp (srt_mem.mp h)
  exact ⟨m, hm, e⟩
def mvS (ms : List Mv) (x : Str) : Mv := (x, srt (tkOf ms x), srt (gvOf ms x))
def sortMs (ms : List Mv) : List Mv := (srt (names ms)).map (mvS ms)
theorem fold_le {y : Str} {n : Nat} : ∀ (xs : List Str) (k : Nat), (∀ x ∈ xs, x.length ≤ n) → xs.foldl (fun a x => a + x.length + y.length) k ≤ k + xs.length * (n + y.length)
  | [], k, _ => by simp
  | x :: xs, k, h => by
    rw [List.foldl_cons]
    have h1 := fold_le (y := y) (n := n) xs (k + x.length + y.length) fun z hz => h z (List.mem_cons_of_mem _ hz)
    have h2 := h x List.mem_cons_self
    rw [List.length_cons, Nat.succ_mul]
    lia
theorem join_ok {y : Str} {xs : List Str} {n : Nat} (h : ∀ x ∈ xs, x.length ≤ n) (hb : xs.length * (n + y.length) ≤ 1000000) : JoinOk y xs = true := by
  have hsl := PySem.sizeLine_eq
  unfold JoinOk Builtin.Str.tooLong
  rw [List.foldl_toArray]
  have := fold_le (y := y) xs 0 h
  simp only [Bool.not_eq_true', decide_eq_false_iff_not]
  lia
structure Txt3 (mg : Str → Option Value) : Prop where
  first : ∃ tk, mg "FIRST_WORD" = some (.str "start" tk)
  gives : ∃ tk, mg "GIVES_SIGN" = some (.str ">" tk)
theorem l_colon : (":" : Str).length = 1 := by decide +kernel
theorem l_gives : (">" : Str).length = 1 := by decide +kernel
theorem l_blank : (" " : Str).length = 1 := by decide +kernel
theorem l_semi : ("; " : Str).length = 2 := by decide +kernel
theorem l_start : ("start" : Str).length = 5 := by decide +kernel
theorem len_app (x y : Str) : (x ++ y).length = x.length + y.length := by rw [UfStr.len_codes, UfStr.app_codes, List.length_append, ← UfStr.len_codes, ← UfStr.len_codes]
section
variable {P : Program} {w : World} {K : PySem.W.Frag} {mg : Str → Option Value} {base : Heap}
def spGetP (C : Addr) : Sp := fun vs H Q _ => ∃ (p : Addr) (ms : List Mv) (st : List Str), vs = [.ref p] ∧ IsNet C H p ms st ∧ ∀ H' q, Same H H' → H q = none → H' q = some (.lst (txs (plcs ms st))) → Q (.ref q) H'
theorem x_tk1 : (("takes" : Str) == "place_names") = false := by decide +kernel
theorem x_tk2 : (("takes" : Str) == "start_state") = false := by decide +kernel
theorem x_tk3 : (("takes" : Str) == "taken_by") = false := by decide +kernel
theorem x_tk4 : (("takes" : Str) == "given_by") = false := by decide +kernel
theorem x_gv1 : (("gives" : Str) == "place_names") = false := by decide +kernel
theorem x_gv2 : (("gives" : Str) == "start_state") = false := by decide +kernel
theorem x_gv3 : (("gives" : Str) == "taken_by") = false := by decide +kernel
theorem x_gv4 : (("gives" : Str) == "given_by") = false := by decide +kernel
theorem x_mv1 : (("moves" : Str) == "place_names") = false := by decide +kernel
theorem x_mv2 : (("moves" : Str) == "start_state") = false := by decide +kernel
theorem x_mv3 : (("moves" : Str) == "taken_by") = false := by decide +kernel
theorem x_mv4 : (("moves" : Str) == "given_by") = false := by decide +kernel
theorem x_st1 : (("start" : Str) == "place_names") = false := by decide +kernel
theorem x_st2 : (("start" : Str) == "start_state") = false := by decide +kernel
theorem x_st3 : (("start" : Str) == "taken_by") = false := by decide +kernel
theorem x_st4 : (("start" : Str) == "given_by") = false := by decide +kernel
def spMoveT (C : Addr) : Sp := fun vs H Q _ => ∃ (p : Addr) (ms : List Mv) (st : List Str) (m : Mv), vs = [.ref p, .str m.1] ∧ IsNet C H p ms st ∧ m ∈ ms ∧ ∀ H', Same H H' → Q (.str (lineT (mvS ms m.1))) H'
theorem scMoveT : FnScope ["net", "move"] ["net", "move"] (defScope sMoveT) := ⟨rfl, rfl, rfl, by decide +kernel, rfl, by decide +kernel, by decide +kernel⟩
theorem ok_moveT {f C fT fG : Addr} {fd fdT fdG : FuncData} (F : Fun K "move_text" "move_text" sMoveT f fd) (T3 : Txt3 mg) (CT : NetC K C) (DT : MDef K C "takes" "Net.takes" sTakes ["self", "move"] fT fdT) (GT : FnOk P w K mg base CX0 3 fT fdT ["self", "move"] (spSel C (·.2.1)))
    (DG : MDef K C "gives" "Net.gives" sGives ["self", "move"] fG fdG) (GG : FnOk P w K mg base CX0 3 fG fdG ["self", "move"] (spSel C (·.2.2))) : FnOk P w K mg base CX0 4 f fd ["net", "move"] (spMoveT C) := by
  refine F.ok scMoveT (fun vs H Q E h => ?_) (fun cdv A outer s H vs Q E hr h => ?_)
  · obtain ⟨p, ms, st, m, rfl, _⟩ := h
    rfl
  · obtain ⟨p, ms, st, m, rfl, N, hm, k⟩ := h
    obtain ⟨tg, hg⟩ := T3.gives
    have hsl := PySem.sizeLine_eq
    refine ⟨_, pss_one (ps_ret (pe_bm PySem.F.plainAttrs_str PySem.F.slot_str_join PySem.F.type_str_join mt_join pe_str (pa_cons (pe_op op_cat (pe_op op_cat (pe_op op_cat (pe_lst (pa_cons (pe_op op_add_str (pv 1) pe_str) pa_nil)) (pe_meth (pv 0) CT.cl DT.mt GT hr DT.bd .nil pass0 (pa_cons (pv 1) pa_nil))) (pe_lst (pa_cons (pe_glob (v := .str ">") rfl hg ⟨tg, rfl⟩) pa_nil))) (pe_meth (pv 0) CT.cl DG.mt GG hr DG.bd .nil pass0 (pa_cons (pv 1) pa_nil))) pa_nil))), ?_⟩
    obtain ⟨dx, aP, aS, aT, aG, kT, kG, h1, _⟩ := N.at'.ob
    obtain ⟨u1, u2, _, tk4, gv4⟩ := isMv_tk (N.so.mv m hm)
    have l8 := isNm_len (N.so.isNm hm)
    refine ⟨rfl, _, rfl, _, _, rfl, rfl, (by show _ + 1 ≤ sizeLine; lia), by show 1 ≤ sizeLine; lia, fun q1 n1 => ?_⟩
    have s1 : Same H (upd H q1 (.lst [V.str (m.1 ++ ":")])) := same_new n1
    have hq1 : (upd H q1 (.lst [V.str (m.1 ++ ":")])) q1 = some (.lst (txs [m.1 ++ ":"])) := upd_same
    generalize upd H q1 (.lst [V.str (m.1 ++ ":")]) = H1 at s1 hq1 ⊢
    refine ⟨_, rfl, p, dx, _, rfl, s1 _ _ h1, fld_no _ _ _ _ x_tk1 x_tk2 x_tk3 x_tk4, _, rfl, p, ms, st, m, rfl, N.same s1, hm, fun H2 q2 s2 nq2 hq2 => ?_⟩
    have hq2 : H2 q2 = some (.lst (txs (srt m.2.1))) := hq2
    refine ⟨q1, q2, _, _, rfl, rfl, s2 _ _ hq1, hq2, (by rw [strs_length, strs_length, srt_len]; show 1 + _ ≤ sizeLine; lia), fun q3 n3 => ?_⟩
    have s3 : Same H2 (upd H2 q3 (.lst (txs [m.1 ++ ":"] ++ txs (srt m.2.1)))) := same_new n3
    have hq3 : (upd H2 q3 (.lst (txs [m.1 ++ ":"] ++ txs (srt m.2.1)))) q3 = some (.lst (txs ((m.1 ++ ":") :: srt m.2.1))) := upd_same
    generalize upd H2 q3 (.lst (txs [m.1 ++ ":"] ++ txs (srt m.2.1))) = H3 at s3 hq3 ⊢
    refine ⟨by show 1 ≤ sizeLine; lia, fun q4 n4 => ?_⟩
    have s4 : Same H3 (upd H3 q4 (.lst [V.str ">"])) := same_new n4
    have hq4 : (upd H3 q4 (.lst [V.str ">"])) q4 = some (.lst (txs [">"])) := upd_same
    generalize upd H3 q4 (.lst [V.str ">"]) = H4 at s4 hq4 ⊢
    refine ⟨q3, q4, _, _, rfl, rfl, s4 _ _ hq3, hq4, (by rw [strs_length, strs_length, List.length_cons, srt_len]; show _ + 1 ≤ sizeLine; lia), fun q5 n5 => ?_⟩
    have s5 : Same H4 (upd H4 q5 (.lst (txs ((m.1 ++ ":") :: srt m.2.1) ++ txs [">"]))) := same_new n5
    have hq5 : (upd H4 q5 (.lst (txs ((m.1 ++ ":") :: srt m.2.1) ++ txs [">"]))) q5 = some (.lst (txs ((m.1 ++ ":") :: (srt m.2.1 ++ [(">" : Str)])))) := by
      rw [upd_same]
      unfold txs
      simp
    generalize upd H4 q5 (.lst (txs ((m.1 ++ ":") :: srt m.2.1) ++ txs [">"])) = H5 at s5 hq5 ⊢
    have s15 := s2.trans (s3.trans (s4.trans s5))
    have s05 := s1.trans s15
    refine ⟨_, rfl, p, dx, _, rfl, s05 _ _ h1, fld_no _ _ _ _ x_gv1 x_gv2 x_gv3 x_gv4, _, rfl, p, ms, st, m, rfl, N.same s05, hm, fun H6 q6 s6 nq6 hq6 => ?_⟩
    have hq6 : H6 q6 = some (.lst (txs (srt m.2.2))) := hq6
    refine ⟨q5, q6, _, _, rfl, rfl, s6 _ _ hq5, hq6, (by rw [strs_length, strs_length, List.length_cons, List.length_append, srt_len, srt_len]; show _ + 1 + 1 + _ ≤ sizeLine; lia), fun q7 n7 => ?_⟩
    have e7 : txs ((m.1 ++ ":") :: (srt m.2.1 ++ [(">" : Str)])) ++ txs (srt m.2.2) = txs ((m.1 ++ ":") :: (srt m.2.1 ++ (">" : Str) :: srt m.2.2)) := by
      unfold txs
      simp
    rw [e7]
    have s7 : Same H6 (upd H6 q7 (.lst (txs ((m.1 ++ ":") :: (srt m.2.1 ++ (">" : Str) :: srt m.2.2))))) := same_new n7
    have ws : ∀ x ∈ (m.1 ++ ":") :: (srt m.2.1 ++ (">" : Str) :: srt m.2.2), x.length ≤ 9 := fun x hx => by
      rcases List.mem_cons.mp hx with rfl | hx
      · rw [len_app, l_colon]; lia
      · rcases List.mem_append.mp hx with z | z
        · have := isNm_len (unlike_nm u1 (srt_mem.mp z)); lia
        · rcases List.mem_cons.mp z with rfl | z
          · rw [l_gives]; lia
          · have := isNm_len (unlike_nm u2 (srt_mem.mp z)); lia
    refine ⟨" ", q7, _, rfl, rfl, SqL.of upd_same, join_ok ws ?_, ?_⟩
    · rw [List.length_cons, List.length_append, List.length_cons, srt_len, srt_len, l_blank]
      have : (m.2.1.length + (m.2.2.length + 1) + 1) ≤ 10 := by lia
      calc _ ≤ 10 * (9 + 1) := Nat.mul_le_mul_right _ this
        _ ≤ _ := by decide
    · have q := k _ ((s05.trans s6).trans s7)
      unfold mvS at q
      rw [tkOf_eq N.so.nd hm, gvOf_eq N.so.nd hm] at q
      exact q
end
end Uf
end
/-! UfS3 -/
section
set_option Elab.async false
set_option linter.all false
set_option maxRecDepth 100000
set_option maxHeartbeats 4000000
namespace Uf
open PySem L2 UfSrt UfStr
theorem len_line {m : Mv} (h : NmMv m) (h1 : m.2.1.length ≤ 4) (h2 : m.2.2.length ≤ 4) : (lineT m).length ≤ 100 := by
  have ws : ∀ x ∈ (m.1 ++ ":") :: (m.2.1 ++ (">" : Str) :: m.2.2), x.length ≤ 9 := fun x hx => by
    rcases List.mem_cons.mp hx with rfl | hx
    · rw [len_app, l_colon]; have := isNm_len h.1; lia
    · rcases List.mem_append.mp hx with z | z
      · have := isNm_len (h.2.1 x z); lia
      · rcases List.mem_cons.mp z with rfl | z
        · rw [l_gives]; lia
        · have := isNm_len (h.2.2 x z); lia
  have e := len_join (y := " ") _ ws
  unfold lineT
  rw [l_blank, List.length_cons, List.length_append, List.length_cons] at e
  have : (m.2.1.length + (m.2.2.length + 1) + 1) * (9 + 1) ≤ 10 * (9 + 1) := Nat.mul_le_mul_right _ (by lia)
  lia
theorem len_start {S : List Str} (h : ∀ x ∈ S, isNm x = true) (h1 : S.length ≤ 12) : (startT S).length ≤ 200 := by
  have ws : ∀ x ∈ ("start" : Str) :: S, x.length ≤ 9 := fun x hx => by
    rcases List.mem_cons.mp hx with rfl | hx
    · rw [l_start]; lia
    · have := isNm_len (h x hx); lia
  have e := len_join (y := " ") _ ws
  unfold startT
  rw [l_blank, List.length_cons] at e
  have : (S.length + 1) * (9 + 1) ≤ 13 * (9 + 1) := Nat.mul_le_mul_right _ (by lia)
  lia
structure Small (ms : List Mv) (S : List Str) : Prop where
  nm : ∀ m ∈ ms, NmMv m
  tk : ∀ m ∈ ms, m.2.1.length ≤ 4
  gv : ∀ m ∈ ms, m.2.2.length ≤ 4
  sn : ∀ x ∈ S, isNm x = true
  sl : S.length ≤ 12
  ml : ms.length ≤ 12
theorem Small.parts {ms : List Mv} {S : List Str} (h : Small ms S) : ∀ x ∈ startT S :: ms.map lineT, x.length ≤ 200 := fun x hx => by
  rcases List.mem_cons.mp hx with rfl | hx
  · exact len_start h.sn h.sl
  · obtain ⟨m, hm, rfl⟩ := List.mem_map.mp hx
    have := len_line (h.nm m hm) (h.tk m hm) (h.gv m hm)
    lia
theorem Small.join {ms : List Mv} {S : List Str} (h : Small ms S) : JoinOk "; " (startT S :: ms.map lineT) = true := by
  refine join_ok h.parts ?_
  rw [l_semi, List.length_cons, List.length_map]
  have : (ms.length + 1) * (200 + 2) ≤ 13 * (200 + 2) := Nat.mul_le_mul_right _ (by have := h.ml; lia)
  lia
theorem Sound.small {ms : List Mv} {st : List Str} (so : Sound ms st) (hl : st.length ≤ 12) : Small (sortMs ms) (srt st) := by
  have mv : ∀ m ∈ sortMs ms, ∃ m' ∈ ms, m = (m'.1, srt m'.2.1, srt m'.2.2) := fun m hm => by
    obtain ⟨x, hx, rfl⟩ := List.mem_map.mp hm
    obtain ⟨m', hm', rfl⟩ := mem_srt_names hx
    exact ⟨m', hm', by unfold mvS; rw [tkOf_eq so.nd hm', gvOf_eq so.nd hm']⟩
  refine ⟨fun m hm => ?_, fun m hm => ?_, fun m hm => ?_, fun x hx => unlike_nm so.su (srt_mem.mp hx), by rw [srt_len]; exact hl, ?_⟩
  · obtain ⟨m', hm', rfl⟩ := mv m hm
    obtain ⟨u1, u2, _⟩ := isMv_tk (so.mv m' hm')
    exact ⟨(show Uf.isNm m'.1 = true from so.isNm hm'), fun x hx => unlike_nm u1 (srt_mem.mp hx), fun x hx => unlike_nm u2 (srt_mem.mp hx)⟩
  · obtain ⟨m', hm', rfl⟩ := mv m hm
    obtain ⟨_, _, _, h4, _⟩ := isMv_tk (so.mv m' hm')
    show (srt m'.2.1).length ≤ 4
    rw [srt_len]; exact h4
  · obtain ⟨m', hm', rfl⟩ := mv m hm
    obtain ⟨_, _, _, _, h4⟩ := isMv_tk (so.mv m' hm')
    show (srt m'.2.2).length ≤ 4
    rw [srt_len]; exact h4
  · unfold sortMs
    rw [List.length_map, srt_len]
    unfold names
    rw [List.length_map]
    exact so.ml
section
variable {P : Program} {w : World} {K : PySem.W.Frag} {mg : Str → Option Value} {base : Heap}
def spNetT (C : Addr) : Sp := fun vs H Q _ => ∃ (p : Addr) (ms : List Mv) (st : List Str), vs = [.ref p] ∧ IsNet C H p ms st ∧ st.length ≤ 12 ∧ ∀ H', Same H H' → Q (.str (textT (sortMs ms) (srt st))) H'
theorem scNetT : FnScope ["net", "parts", "move"] ["net"] (defScope sNetT) := ⟨rfl, rfl, rfl, by decide +kernel, rfl, by decide +kernel, by decide +kernel⟩
inductive NtI (H : Hp) (p r : Addr) (ms : List Mv) (st : List Str) (i : Nat) (σ : St) (H2 : Hp) : Prop
  | mk (v2 : Option V) (q0 : σ = [some (.ref p), some (.ref r), v2]) (q1 : Same H H2) (q2 : H2 r = some (.lst (txs (startT (srt st) :: ((srt (names ms)).take i).map fun x => lineT (mvS ms x)))))
theorem ok_netT {f C fS fM fT : Addr} {fd fdS fdM fdT : FuncData} (F : Fun K "net_text" "net_text" sNetT f fd) (T : Txt K mg) (T3 : Txt3 mg) (CT : NetC K C) (DS : MDef K C "start" "Net.start" sStart ["self"] fS fdS) (GS : FnOk P w K mg base CX0 1 fS fdS ["self"] (spStart C))
    (DM : MDef K C "moves" "Net.moves" sGetM ["self"] fM fdM) (GM : FnOk P w K mg base CX0 1 fM fdM ["self"] (spGetM C)) (DT : Def K mg "move_text" sMoveT ["net", "move"] fT fdT) (GT : FnOk P w K mg base CX0 4 fT fdT ["net", "move"] (spMoveT C)) : FnOk P w K mg base CX0 5 f fd ["net"] (spNetT C) := by
  refine F.ok scNetT (fun vs H Q E h => ?_) (fun cdv A outer s H vs Q E hr h => ?_)
  · obtain ⟨p, ms, st, rfl, _⟩ := h
    rfl
  · obtain ⟨p, ms, st, rfl, N, hl, k⟩ := h
    obtain ⟨tf, hf⟩ := T3.first
    have hsl := PySem.sizeLine_eq
    have hr1 : Room 1 _ := hr.mono (by decide)
    refine ⟨_, pss_cons (ps_set (i := 1) scNetT.nd rfl (Or.inl rfl) (pe_lst (pa_cons (pe_bm PySem.F.plainAttrs_str PySem.F.slot_str_join PySem.F.type_str_join mt_join pe_str (pa_cons (pe_op op_cat (pe_lst (pa_cons (pe_glob (v := .str "start") rfl hf ⟨tf, rfl⟩) pa_nil)) (pe_callTy call_list_of rfl T.lst b_list (pa_cons (pe_meth0 (pv 0) CT.cl DS.mt GS hr1 DS.bd .nil pass0) pa_nil))) pa_nil)) pa_nil)))
      (pss_cons (ps_for PassesOwn.never rfl (pi_list (pe_meth0 (pv 0) CT.cl DM.mt GM hr1 DM.bd .nil pass0)) (pg_name (i := 2) scNetT.nd rfl (Or.inl rfl))
        (pss_one (ps_expr (pe_bm PySem.F.plainAttrs_list PySem.F.slot_list_append PySem.F.type_list_append mt_append (pv 1) (pa_cons (pe_call GT hr rfl DT.mg DT.fn.kp DT.bd .nil pass0 (pa_cons (pv 0) (pa_cons (pv 2) pa_nil))) pa_nil)))))
      (pss_one (ps_ret (pe_bm PySem.F.plainAttrs_str PySem.F.slot_str_join PySem.F.type_str_join mt_join pe_str (pa_cons (pv 1) pa_nil))))), ?_⟩
    obtain ⟨dx, aP, aS, aT, aG, kT, kG, h1, _⟩ := N.at'.ob
    have so := N.so
    have sm := so.small hl
    have lnm : (names ms).length ≤ 12 := by unfold names; rw [List.length_map]; exact so.ml
    refine ⟨rfl, by show 1 ≤ sizeLine; lia, fun q1 n1 => ?_⟩
    have s1 : Same H (upd H q1 (.lst [V.str "start"])) := same_new n1
    have hq1 : (upd H q1 (.lst [V.str "start"])) q1 = some (.lst (txs ["start"])) := upd_same
    generalize upd H q1 (.lst [V.str "start"]) = H1 at s1 hq1 ⊢
    refine ⟨_, rfl, p, dx, _, rfl, s1 _ _ h1, fld_no _ _ _ _ x_st1 x_st2 x_st3 x_st4, p, ms, st, rfl, N.same s1, fun q hq => ⟨q, _, rfl, .inr (SqT.of hq), fun q2 n2 => ?_⟩⟩
    have s2 : Same H1 (upd H1 q2 (.lst (txs (srt st)))) := same_new n2
    have hq2 : (upd H1 q2 (.lst (txs (srt st)))) q2 = some (.lst (txs (srt st))) := upd_same
    generalize upd H1 q2 (.lst (txs (srt st))) = H2 at s2 hq2 ⊢
    refine ⟨q1, q2, _, _, rfl, rfl, s2 _ _ hq1, hq2, (by rw [strs_length, strs_length, srt_len]; show 1 + _ ≤ sizeLine; lia), fun q3 n3 => ?_⟩
    have e3 : txs ["start"] ++ txs (srt st) = txs (("start" : Str) :: srt st) := rfl
    rw [e3]
    have s3 : Same H2 (upd H2 q3 (.lst (txs (("start" : Str) :: srt st)))) := same_new n3
    have hq3 : (upd H2 q3 (.lst (txs (("start" : Str) :: srt st)))) q3 = some (.lst (txs (("start" : Str) :: srt st))) := upd_same
    generalize upd H2 q3 (.lst (txs (("start" : Str) :: srt st))) = H3 at s3 hq3 ⊢
    refine ⟨" ", q3, _, rfl, rfl, SqL.of hq3, join_ok (n := 9) (fun x hx => ?_) ?_, by show 1 ≤ sizeLine; lia, fun r nr => ?_⟩
    · rcases List.mem_cons.mp hx with rfl | hx
      · rw [l_start]; lia
      · have := isNm_len (sm.sn x hx); lia
    · rw [List.length_cons, srt_len, l_blank]
      have : (st.length + 1) * (9 + 1) ≤ 13 * (9 + 1) := Nat.mul_le_mul_right _ (by lia)
      lia
    have s03 := s1.trans (s2.trans s3)
    have s4 : Same H3 (upd H3 r (.lst [V.str (startT (srt st))])) := same_new nr
    have nr0 : H r = none := s03.free nr
    have hr4 : (upd H3 r (.lst [V.str (startT (srt st))])) r = some (.lst (txs [startT (srt st)])) := upd_same
    show tSeq _ _ _ _ (upd H3 r (.lst [V.str (startT (srt st))]))
    have s04 := s03.trans s4
    generalize upd H3 r (.lst [V.str (startT (srt st))]) = H4 at s4 hr4 s04 ⊢
    refine ⟨_, rfl, p, dx, _, rfl, s04 _ _ h1, fld_no _ _ _ _ x_mv1 x_mv2 x_mv3 x_mv4, p, ms, st, rfl, N.same s04, fun H5 q5 s5 nq5 hq5 => ?_⟩
    have nq50 : H q5 = none := s04.free nq5
    have nrq : r ≠ q5 := ne_of_none hr4 nq5
    refine ⟨q5, rfl, ⟨_, SqL.of hq5⟩, for_list (K := K) (a := q5) (xs := txs (srt (names ms))) (fun i σ H6 => NtI H p r ms st i σ H6 ∧ H6 q5 = some (.lst (txs (srt (names ms)))))
      ⟨⟨none, rfl, s04.trans s5, s5 _ _ hr4⟩, hq5⟩ (fun i σ H6 _ h => SqL.of h.2) ?_ ?_⟩
    · rintro i v σ H6 hi ⟨⟨v2, rfl, s6, hr6⟩, hq6⟩
      obtain ⟨x, hx, rfl⟩ := txs_get hi
      obtain ⟨m, hm, rfl⟩ := mem_srt_names (List.mem_of_getElem? hx)
      refine ⟨_, rfl, .inl ⟨rfl, _, SqL.of hr6⟩, _, rfl, _, rfl, p, ms, st, m, rfl, N.same s6, hm, fun H7 s7 => ?_⟩
      have hr7 := s7 _ _ hr6
      refine ⟨r, _, _, rfl, rfl, hr7, ?_, ?_⟩
      · rw [strs_length, List.length_cons, List.length_map, List.length_take, srt_len]
        lia
      refine ⟨⟨_, rfl, same_upd (s6.trans s7) nr0, ?_⟩, by rw [upd_ne nrq.symm]; exact s7 _ _ hq6⟩
      rw [upd_same, take_succ_at hx]
      unfold txs
      simp
    · rintro σ H6 ⟨⟨v2, rfl, s6, hr6⟩, hq6⟩
      rw [strs_length, List.take_length] at hr6
      have e6 : ((srt (names ms)).map fun x => lineT (mvS ms x)) = (sortMs ms).map lineT := by
        unfold sortMs
        rw [List.map_map]
        rfl
      rw [e6] at hr6
      exact ⟨rfl, _, rfl, "; ", r, _, rfl, rfl, SqL.of hr6, sm.join, k H6 s6⟩
end
end Uf
end
/-! UfS4 -/
section
set_option Elab.async false
set_option linter.all false
set_option maxRecDepth 100000
set_option maxHeartbeats 4000000
namespace Uf
open PySem L2 UfSrt UfStr PySem.Builtin PySem.Builtin.Str
theorem ix_cut (k : Nat) : strSliceIndices none (some (-1)) 1 (k + 1) = List.range k := by
  unfold strSliceIndices sliceRange
  simp
  congr 1
  split <;> lia
theorem ends_colon (x : PySem.Str) : Txt.endswith (x ++ ":") ":" = true := by
  unfold Txt.endswith
  rw [StrLaws.subAt_eq, len_app, l_colon, UfStr.app_codes, c_colon, UfStr.len_codes x]
  simp
theorem slice_colon (x : PySem.Str) : Txt.slice (x ++ ":") none (some (-1)) = x := by
  unfold Txt.slice
  rw [len_app, l_colon, ix_cut, List.length_range, if_neg (by simp)]
  refine UfStr.str_ext ?_
  have e : ∀ i, i < x.length → (x ++ ":").cps[i]? = x.cps.toList[i]? := fun i hi => by
    rw [← Array.getElem?_toList, UfStr.app_codes, List.getElem?_append_left (by rw [← UfStr.len_codes]; exact hi)]
  show ((List.range x.length).filterMap fun i => (x ++ ":").cps[i]?) = x.cps.toList
  have e2 : ((List.range x.length).filterMap fun i => (x ++ ":").cps[i]?) = (List.range x.cps.toList.length).filterMap fun i => x.cps.toList[i]? := by
    rw [← UfStr.len_codes]
    have gen : ∀ l : List Nat, (∀ i ∈ l, i < x.length) → (l.filterMap fun i => (x ++ ":").cps[i]?) = l.filterMap fun i => x.cps.toList[i]? := fun l => by
      induction l with
      | nil => intro _; rfl
      | cons a l ih =>
        intro h
        rw [List.filterMap_cons, List.filterMap_cons, e a (h a List.mem_cons_self), ih fun i hi => h i (List.mem_cons_of_mem _ hi)]
    exact gen _ fun i hi => List.mem_range.mp hi
  rw [e2]
  generalize x.cps.toList = l
  induction l with
  | nil => rfl
  | cons a l ih =>
    rw [List.length_cons, List.range_succ_eq_map, List.filterMap_cons]
    simp only [List.getElem?_cons_zero, List.filterMap_map]
    congr 1
theorem cut_hi (xs : List V) (n : Nat) (h : n ≤ xs.length) : cutV xs (some ((n : Nat) : Int)) none = xs.drop n := by
  unfold cutV
  rw [HT.sIx_none, HT.sIx_nat, Nat.min_eq_left h]
  exact List.take_of_length_le (by rw [List.length_drop]; exact Nat.le_refl _)
theorem cut_mid (xs : List V) (m n : Nat) (h : n ≤ xs.length) (h2 : m ≤ n) : cutV xs (some ((m : Nat) : Int)) (some ((n : Nat) : Int)) = (xs.drop m).take (n - m) := by
  unfold cutV
  rw [HT.sIx_nat, HT.sIx_nat, Nat.min_eq_left h, Nat.min_eq_left (by lia)]
theorem flat_txs (xs : List PySem.Str) : (txs xs).all flatV = true := by
  unfold txs
  rw [List.all_map, List.all_eq_true]
  intro x _
  rfl
theorem in_txs (x : PySem.Str) (xs : List PySem.Str) : inV (.str x) (txs xs) = decide (x ∈ xs) := by
  unfold inV txs
  rw [List.any_map, Bool.eq_iff_iff, List.any_eq_true, decide_eq_true_eq]
  constructor
  · rintro ⟨y, hy, e⟩
    have e' : eqV (.str y) (.str x) = true := e
    have : y = x := by simpa [eqV] using e'
    rw [← this]
    exact hy
  · intro h
    exact ⟨x, h, by show eqV (.str x) (.str x) = true; simp [eqV]⟩
end Uf
namespace Uf
open PySem L2 UfSrt UfStr
section
variable {P : Program} {w : World} {K : PySem.W.Frag} {mg : Str → Option Value} {base : Heap}
def spChecked (K : PySem.W.Frag) : Sp := fun vs H Q _ => ∃ (a : Addr) (xs : List Str), vs = [.ref a] ∧ SqL K H a (txs xs) ∧ (∀ x ∈ xs, isNm x = true) ∧ xs.length ≤ 200 ∧ ∀ H', Same H H' → Q (.ref a) H'
theorem scChecked : FnScope ["words"] ["words"] (defScope sChecked) := ⟨rfl, rfl, rfl, by decide +kernel, rfl, by decide +kernel, by decide +kernel⟩
def spReadS : Sp := fun vs H Q _ => ∃ S : List Str, vs = [.str (startT S)] ∧ (∀ x ∈ S, isNm x = true) ∧ S.length ≤ 12 ∧ ∀ H' q, Same H H' → H q = none → H' q = some (.lst (txs S)) → Q (.ref q) H'
theorem scReadS : FnScope ["part", "words"] ["part"] (defScope sReadS) := ⟨rfl, rfl, rfl, by decide +kernel, rfl, by decide +kernel, by decide +kernel⟩
def spReadM : Sp := fun vs H Q _ => ∃ m : Mv, vs = [.str (lineT m)] ∧ NmMv m ∧ m.2.1.length ≤ 4 ∧ m.2.2.length ≤ 4 ∧ ∀ H' t a b, Same H H' → H a = none → H b = none → H' t = some (.tup [.str m.1, .ref a, .ref b]) → H' a = some (.lst (txs m.2.1)) → H' b = some (.lst (txs m.2.2)) → Q (.ref t) H'
theorem scReadM : FnScope ["part", "words", "name", "middle"] ["part"] (defScope sReadM) := ⟨rfl, rfl, rfl, by decide +kernel, rfl, by decide +kernel, by decide +kernel⟩
end
end Uf
end
/-! UfX20 -/
section
set_option Elab.async false
set_option linter.all false
set_option maxRecDepth 100000
namespace UfX
open PySem
inductive ExcF (h : Heap) (e : Addr) (cls a0 : Value) (dx : Option Addr) (T : Addr) : Prop
  | mk (oe : Obj) (vs : Array Value) (at_ : h.get? e = some oe) (cl : oe.cls = cls) (dc : oe.dict = dx) (dt : oe.data = .fields vs) (first : vs[0]? = some a0) (tr : vs[1]? = some (.ref T)) (ne : T ≠ e)
      (oT : Obj) (ts : Array Value) (hT : h.get? T = some oT) (hTd : oT.data = .fields ts) (sz : 3 < ts.size)
theorem Exc.f {h : Heap} {e : Addr} {cls a0 : Value} {dx : Option Addr} {T : Addr} (x : Exc h e cls a0 dx (some T)) : ExcF h e cls a0 dx T := by
  obtain ⟨oe, vs, he, rfl, rfl, hdt, h0, hn, hs⟩ := x
  obtain ⟨h1, hTe, oT, ts, hT, hTd, h3⟩ := hs T rfl
  exact ⟨oe, vs, he, rfl, rfl, hdt, h0, h1, hTe, oT, ts, hT, hTd, (Array.getElem?_eq_some_iff.mp h3).1⟩
section
variable {M : Model} {A : Around} {E : Value → Shared → Prop} {s : Shared} {base : Heap} {env cenv : Env} {outer : List Env} {L e : Addr} {Q : Unit → Shared → Prop}
theorem frameOf_as {Q : Value → Shared → Prop} (hfr : A.frames = some (env :: outer)) (hl : s.heap.FunFrames base (env :: outer)) (hf : env.frame = some L) (hc : cenv.frame = some L)
    (h : ∀ h', Heap.SlotsOnly ((env :: outer).filterMap (·.frame)) s.heap h' → Q (.ref L) { s with heap := h' }) : wpAny M A (frameOf cenv) Q E s := by
  unfold frameOf
  refine wpAny_bind (wpAny_frameEnvs hfr ?_)
  have hdw : ((env :: outer).dropWhile fun x => x.frame != cenv.frame) = env :: outer := by simp [List.dropWhile, hf, hc]
  rw [hdw]
  unfold frameObject
  refine wpAny_bind (wpAny_bind (wpAny_readyFrames_fun hl fun h₁ hs₁ => wpAny_pure ?_))
  rw [hf]
  exact wpAny_pure (h h₁ hs₁)
theorem entryF {oe : Obj} {vs : Array Value} {a0 head : Value} {b : Bool} (hfr : A.frames = some (env :: outer)) (hl : s.heap.FunFrames base (env :: outer)) (hf : env.frame = some L) (hc : cenv.frame = some L) (he : s.heap.get? e = some oe) (hdt : oe.data = .fields vs) (hsz : 1 < vs.size) (h0 : vs[0]? = some a0)
    (k : ∀ h' T, ExcF h' e oe.cls a0 oe.dict T → s.heap.objs.size ≤ T → Step ((env :: outer).filterMap (·.frame)) e none s.heap h' → Q () { s with heap := h' }) :
    wpAny M A (do
      let fo ← frameOf cenv
      let pl ← entryPlaceOf L b
      let nw ← EntryCells.newEntry head fo .none (rawInt L) .none pl
      setField (.ref e) 1 nw) Q E s := by
  have nof : ∀ b o us, s.heap.get? b = some o → o.data = .fields us → b ∉ (env :: outer).filterMap (·.frame) := fun b o us h1 h2 hm => by
    obtain ⟨_, o', ho', hn⟩ := hl.mem hm
    rw [h1] at ho'
    cases ho'
    exact hn us h2
  have nef := nof e oe vs he hdt
  refine wpAny_bind (frameOf_as hfr hl hf hc fun h1 sl1 => ?_)
  refine wpAny_bind (wpAny_entryPlaceOf fun pl ip => ?_)
  unfold EntryCells.newEntry
  unfold newFields
  refine wpAny_bind (wpAny_newObj_type ?_ (ip.sizeOk5 _ _ _ _ _))
  have he1 : h1.get? e = some oe := (sl1.2.1 e nef).trans he
  generalize hob : ({ cls := .type "traceback", dict := none, data := .fields ([head, .ref L, .none, rawInt L, .none] ++ (if pl.isEmpty then List.replicate 6 Value.none else pl)).toArray } : Obj) = ob
  have hobd : ob.data = .fields ([head, .ref L, .none, rawInt L, .none] ++ (if pl.isEmpty then List.replicate 6 Value.none else pl)).toArray := by rw [← hob]
  have hobf : ob.isFreed = false := Obj.isFreed_of_fields hobd
  have he2 : (h1.push ob).get? e = some oe := Heap.get?_push_of_some ob he1
  have hT2 : (h1.push ob).get? h1.objs.size = some ob := Heap.get?_push_size h1 hobf
  have hTe : h1.objs.size ≠ e := Nat.ne_of_gt (Heap.lt_size he1)
  refine wpAny_setField he2 hdt hsz ?_
  show Q () { s with heap := (h1.push ob).update e (Obj.mapFields (·.setIfInBounds 1 (.ref h1.objs.size))) }
  have hd3 := Obj.data_mapFields hdt (·.setIfInBounds 1 (Value.ref h1.objs.size))
  have he3 := Heap.get?_update_self (Obj.mapFields (·.setIfInBounds 1 (Value.ref h1.objs.size))) he2 (Obj.isFreed_of_fields hd3)
  have hT3 := (Heap.get?_update_other (h1.push ob) (Obj.mapFields (·.setIfInBounds 1 (Value.ref h1.objs.size))) (Ne.symm hTe)).trans hT2
  refine k _ h1.objs.size ⟨_, _, he3, Obj.cls_mapFields _ _, dict_mapFields _ _, hd3, ?_, ?_, hTe, ob, _, hT3, hobd, ?_⟩ (Nat.le_of_eq sl1.1.symm) ?_
  · rw [Array.getElem?_setIfInBounds_ne (by decide)]; exact h0
  · simp [hsz]
  · simp only [List.size_toArray, List.length_append, List.length_cons, List.length_nil]; lia
  · have other : ∀ b o, b ≠ e → h1.get? b = some o → ((h1.push ob).update e (Obj.mapFields (·.setIfInBounds 1 (.ref h1.objs.size)))).get? b = some o := fun b o hbe hb => by
      rw [Heap.get?_update_other _ _ (Ne.symm hbe)]
      exact Heap.get?_push_of_some _ hb
    refine ⟨fun b o hb hnf hbe _ => other b o hbe ((sl1.2.1 b hnf).trans hb), fun b o hb hm => ?_, ?_⟩
    · obtain ⟨sl, h2⟩ := sl1.2.2 b o hb
      exact ⟨sl, other b _ (fun z => nef (z ▸ hm)) h2⟩
    · rw [Heap.size_after_update, Heap.size_push, sl1.1]
      exact Nat.le_succ _
theorem noteF {cls a0 : Value} {dx : Option Addr} {T : Addr} (hfr : A.frames = some (env :: outer)) (hl : s.heap.FunFrames base (env :: outer)) (hf : env.frame = some L) (hc : cenv.frame = some L) (x : ExcF s.heap e cls a0 dx T)
    (k : ∀ h' T', ExcF h' e cls a0 dx T' → (T' = T ∨ s.heap.objs.size ≤ T') → Step ((env :: outer).filterMap (·.frame)) e (some T) s.heap h' → Q () { s with heap := h' }) : wpAny M A (noteFrame (.ref e) cenv) Q E s := by
  have x' := x
  obtain ⟨oe, vs, he, rfl, rfl, hdt, h0, h1, hTe, oT, ts, hT, hTd, h3⟩ := x
  unfold noteFrame
  simp only [hc]
  refine wpAny_bind (wpAny_field he hdt h1 ?_)
  rw [if_pos (by simp : (Value.ref T != Value.none) = true)]
  refine wpAny_bind (wpAny_field hT hTd (Array.getElem?_eq_getElem h3) ?_)
  by_cases hz : (ts[3] == rawInt L) = true
  · rw [if_pos hz]
    exact wpAny_pure (k s.heap T x' (.inl rfl) ⟨fun _ _ z _ _ _ => z, fun b o z _ => ⟨o.slots, z⟩, Nat.le_refl _⟩)
  rw [if_neg hz]
  refine wpAny_bind (wpAny_setField hT hTd h3 ?_)
  have other : ∀ c, c ≠ T → (s.heap.update T (Obj.mapFields (·.setIfInBounds 3 Value.none))).get? c = s.heap.get? c := fun _ hc => Heap.get?_update_other _ _ (Ne.symm hc)
  have nT : ∀ b o, s.heap.get? b = some o → (∀ us, o.data ≠ .fields us) → b ≠ T := fun b o hb hnf z => by
    subst z
    rw [hT] at hb
    cases hb
    exact hnf ts hTd
  refine entryF hfr (hl.of_keeps fun b o hb hnf => ⟨o, (other b (nT b o hb hnf)).trans hb, rfl⟩) hf hc ((other e (Ne.symm hTe)).trans he) hdt (Array.getElem?_eq_some_iff.mp h1).1 h0 fun h' T' x1 x2 x3 => k h' T' x1 (.inr ?_) ?_
  · rwa [Heap.size_after_update] at x2
  · refine ⟨fun b o hb h1 h2 h3 => x3.keep b o ((other b fun z => h3 (by rw [z])).trans hb) h1 h2 (fun z => nomatch z), fun b o hb hm => ?_, ?_⟩
    · obtain ⟨_, o', ho', hn'⟩ := hl.mem hm
      have e' : o' = o := Option.some.inj (ho'.symm.trans hb)
      subst e'
      exact x3.slot b o' ((other b (nT b o' hb hn')).trans hb) hm
    · have := x3.size
      rwa [Heap.size_after_update] at this
theorem flightF {cls a0 : Value} {dx : Option Addr} {T : Addr} {fr : List Addr} {fl : Option Addr} (x : ExcF s.heap e cls a0 dx T) (hfr : T ∉ fr) (k : ∀ h', ExcF h' e cls a0 dx T → (fl = none → Exc h' e cls a0 dx (some T)) → Step fr e (some T) s.heap h' → Q () { s with heap := h' }) : wpAny M A (setFlight (.ref e) fl) Q E s := by
  obtain ⟨oe, vs, he, rfl, rfl, hdt, h0, h1, hTe, oT, ts, hT, hTd, h3⟩ := x
  unfold setFlight
  refine wpAny_bind (wpAny_field he hdt h1 ?_)
  rw [if_pos (by simp : (Value.ref T != Value.none) = true)]
  refine wpAny_setField hT hTd h3 (k _ ?_ (fun z => ?_) ?_)
  · exact ⟨oe, vs, (Heap.get?_update_other _ _ hTe).trans he, rfl, rfl, hdt, h0, h1, hTe, _, _, Heap.get?_update_self _ hT (Obj.isFreed_of_fields (Obj.data_mapFields hTd _)), Obj.data_mapFields hTd _, by simpa using h3⟩
  · subst z
    refine ⟨oe, vs, (Heap.get?_update_other _ _ hTe).trans he, rfl, rfl, hdt, h0, (fun z => nomatch z), fun T' z => ?_⟩
    cases z
    exact ⟨h1, hTe, _, _, Heap.get?_update_self _ hT (Obj.isFreed_of_fields (Obj.data_mapFields hTd _)), Obj.data_mapFields hTd _, by simp [h3]⟩
  · refine ⟨fun b o hb _ _ hb' => (Heap.get?_update_other _ _ fun z => hb' (by rw [z])).trans hb, fun b o hb hm => ?_, ?_⟩
    · have ne : T ≠ b := fun z => hfr (by rw [z]; exact hm)
      exact ⟨o.slots, (Heap.get?_update_other _ _ ne).trans hb⟩
    · rw [Heap.size_after_update]
      exact Nat.le_refl _
theorem passF {cls a0 : Value} {dx : Option Addr} {T : Addr} {fr : List Addr} {α : Type} {wh : String} {Q : α → Shared → Prop} (x : ExcF s.heap e cls a0 dx T) (hfr : T ∉ fr) (k : ∀ h', ExcF h' e cls a0 dx T → Step fr e (some T) s.heap h' → E (.ref e) { s with heap := h' }) :
    wpAny M A (passOn wh (.ref e) cenv : Sem α) Q E s := by
  have x' := x
  obtain ⟨oe, vs, he, rfl, rfl, hdt, h0, h1, hTe, oT, ts, hT, hTd, h3⟩ := x
  unfold passOn
  refine wpAny_bind (wpAny_field he hdt h1 ?_)
  rw [if_neg (by simp : ¬ ((Value.ref T == Value.none) = true))]
  exact wpAny_bind (flightF x' hfr fun h' x1 _ st => wpAny_throw (k h' x1 st))
end
end UfX
end
/-! UfX21 -/
section
set_option Elab.async false
set_option linter.all false
set_option maxRecDepth 100000
set_option maxHeartbeats 4000000
namespace L2
open PySem PySem.Spec PyProof.Rows UfX
theorem frames_of {h h' base : Heap} : ∀ {l : List Env}, (∀ b o, b ∈ l.filterMap (·.frame) → h.get? b = some o → ∃ o', h'.get? b = some o' ∧ o'.data = o.data) → h.FunFrames base l → h'.FunFrames base l
  | [], _, hl => hl
  | env :: l, k, hl => by
    obtain ⟨hk, ⟨L, o, hf, hn, ho, hd⟩, hr⟩ := hl
    obtain ⟨o', q1, q2⟩ := k L o (by rw [List.filterMap_cons, hf]; exact List.mem_cons_self) ho
    exact ⟨hk, ⟨L, o', hf, hn, q1, fun vs => q2 ▸ hd vs⟩, frames_of (fun b o hb => k b o (by rw [List.filterMap_cons, hf]; exact List.mem_cons_of_mem _ hb)) hr⟩
def blockErr (X : Cx) (C : Addr) (x : Value) (s' : Shared) : Prop := ∃ m, s'.heap.Ns C m ∧ ∀ h', Heap.SameBut C s'.heap h' → ∀ cenv : Env, cenv.locals = C → wpAny (model X.prog X.w) X.A (passOn "comprehension.variables-let-go" x cenv : Sem Value) (fun _ _ => False) X.xe { s' with heap := h' }
theorem step_sub {fr : List Addr} {e T : Addr} {h h' : Heap} (st : Step fr e (some T) h h') {b : Addr} {o : Obj} (hb : h.get? b = some o) (h1 : b ∉ fr) (h2 : b ≠ e) (h3 : b ≠ T) : h'.get? b = some o :=
  st.keep b o hb h1 h2 fun z => h3 (Option.some.inj z).symm
section
variable {P : Program} {w : World} {K : PySem.W.Frag} {mg : Str → Option Value} {base : Heap} {N : List Str} {qual : Str} {scope : Scope} {f : Addr} {cd : Value} {A : Around} {outer : List Env} {s : Shared} {H : Hp} {E : XK}
theorem block_leave {pins : List (Addr × Obj)} {σ : St} {H' : Hp} {s' : Shared} {a T C : Addr} {cls a0 : Value} {dx : Option Addr} {m : Str → Option Value} {cenv : Env} (I : Inv (cxOf (CX1 P w) P w K mg base N qual scope f cd A outer s H E) pins σ H' s')
    (hc : cenv.frame = some s.heap.objs.size) (x : ExcF s'.heap a cls a0 dx T) (ha : H' a = none) (na : s.heap.get? a = none) (hT : H' T = none) (nT : s.heap.get? T = none) (hn : s'.heap.Ns C m) (hC : H' C = none) (nC : s.heap.get? C = none)
    (cf : C ∉ frs (envOfC qual scope s.heap.objs.size f cd :: outer)) (q : E cls dx H') :
    notedBy (model P w) (A.deeper (envOfC qual scope s.heap.objs.size f cd)) cenv (blockErr (cxOf (CX1 P w) P w K mg base N qual scope f cd A outer s H E) C) (.ref a) s' := by
  have hfr : (A.deeper (envOfC qual scope s.heap.objs.size f cd)).frames = some (envOfC qual scope s.heap.objs.size f cd :: outer) := I.ok.frames
  have hl : s'.heap.FunFrames base (envOfC qual scope s.heap.objs.size f cd :: outer) := I.stack
  have hf : (envOfC qual scope s.heap.objs.size f cd).frame = some s.heap.objs.size := rfl
  have nof : ∀ {h : Heap}, h.FunFrames base (envOfC qual scope s.heap.objs.size f cd :: outer) → ∀ b o us, h.get? b = some o → o.data = .fields us → b ∉ frs (envOfC qual scope s.heap.objs.size f cd :: outer) := fun {h} hl b o us h1 h2 hm => by
    obtain ⟨_, o', ho', hn⟩ := hl.mem hm
    rw [h1] at ho'
    cases ho'
    exact hn us h2
  have xa : ∀ {h : Heap} {T : Addr}, ExcF h a cls a0 dx T → ∃ oe vs, h.get? a = some oe ∧ oe.data = .fields vs := fun x => by
    obtain ⟨oe, vs, he, _, _, hdt, _⟩ := x
    exact ⟨oe, vs, he, hdt⟩
  have xT : ∀ {h : Heap} {T : Addr}, ExcF h a cls a0 dx T → ∃ oT ts, h.get? T = some oT ∧ oT.data = .fields ts := fun x => by
    obtain ⟨oe, vs, he, _, _, hdt, _, _, _, oT, ts, h1, h2, _⟩ := x
    exact ⟨oT, ts, h1, h2⟩
  obtain ⟨oC, es, ep, gC, dC, kC, fC⟩ := hn
  have Ca : C ≠ a := fun z => by
    obtain ⟨oe, vs, h1, h2⟩ := xa x
    rw [← z, gC] at h1
    cases h1
    rw [dC] at h2
    cases h2
  have CT : C ≠ T := fun z => by
    obtain ⟨oe, vs, h1, h2⟩ := xT x
    rw [← z, gC] at h1
    cases h1
    rw [dC] at h2
    cases h2
  have lTo := Heap.lt_size (xT x).choose_spec.choose_spec.1
  unfold notedBy
  refine noteF hfr hl hf hc x fun h1 T1 x1 t1 st1 => ?_
  have gC1 : h1.get? C = some oC := step_sub st1 gC cf Ca CT
  have T1C : T1 ≠ C := fun z => by
    obtain ⟨oe, vs, h1, h2⟩ := xT x1
    rw [z, gC1] at h1
    cases h1
    rw [dC] at h2
    cases h2
  have hl1 : h1.FunFrames base (envOfC qual scope s.heap.objs.size f cd :: outer) := frames_of (fun b o hb ho => by
    obtain ⟨sl, e⟩ := st1.slot b o ho hb
    exact ⟨_, e, rfl⟩) hl
  have fT1 : T1 ∉ frs (envOfC qual scope s.heap.objs.size f cd :: outer) := let ⟨o, us, e1, e2⟩ := xT x1; nof hl1 T1 o us e1 e2
  refine ⟨m, ⟨oC, es, ep, gC1, dC, kC, fC⟩, fun h2 sb cenv' _ => ?_⟩
  have x2 : ExcF h2 a cls a0 dx T1 := by
    obtain ⟨oe, vs, he, b1, b2, b3, b4, b5, b6, oT, ts, b7, b8, b9⟩ := x1
    exact ⟨oe, vs, (sb.2 a (Ne.symm Ca)).trans he, b1, b2, b3, b4, b5, b6, oT, ts, (sb.2 T1 T1C).trans b7, b8, b9⟩
  refine passF (s := { s' with heap := h2 }) (fr := frs (envOfC qual scope s.heap.objs.size f cd :: outer)) x2 fT1 fun h3 x3 st3 => ?_
  have hl3 : h3.FunFrames base (envOfC qual scope s.heap.objs.size f cd :: outer) := frames_of (fun b o hb ho => by
    have ho2 : h2.get? b = some o := (sb.2 b fun z => cf (z ▸ hb)).trans ho
    obtain ⟨sl, e⟩ := st3.slot b o ho2 hb
    exact ⟨_, e, rfl⟩) hl1
  show wpAny (model P w) (A.deeper (envOfC qual scope s.heap.objs.size f cd)) («leaving» (envOfC qual scope s.heap.objs.size f cd) (.ref a)) (fun _ s'' => CX1 P w outer H s E (.ref a) s'') (fun e' s'' => CX1 P w outer H s E e' s'') { s' with heap := h3 }
  unfold «leaving»
  refine wpAny_bind (noteF (s := { s' with heap := h3 }) (cenv := envOfC qual scope s.heap.objs.size f cd) hfr hl3 hf hf x3 fun h4 T2 x4 t2 st4 => ?_)
  have hl4 : h4.FunFrames base (envOfC qual scope s.heap.objs.size f cd :: outer) := frames_of (fun b o hb ho => by
    obtain ⟨sl, e⟩ := st4.slot b o ho hb
    exact ⟨_, e, rfl⟩) hl3
  have fT2 : T2 ∉ frs (envOfC qual scope s.heap.objs.size f cd :: outer) := let ⟨o, us, e1, e2⟩ := xT x4; nof hl4 T2 o us e1 e2
  refine flightF (s := { s' with heap := h4 }) (fl := none) x4 fT2 fun h5 _ x5 st5 => ?_
  have x5 := x5 rfl
  have z1 : s'.heap.objs.size ≤ h1.objs.size := st1.size
  have z2 : h2.objs.size = h1.objs.size := sb.1
  have z3 : h2.objs.size ≤ h3.objs.size := st3.size
  have z4 : h3.objs.size ≤ h4.objs.size := st4.size
  have r1 : T1 = T ∨ s'.heap.objs.size ≤ T1 := t1
  have r2 : T2 = T ∨ s'.heap.objs.size ≤ T2 := by
    have t2 : T2 = T1 ∨ h3.objs.size ≤ T2 := t2
    rcases t2 with rfl | t2
    · exact r1
    · right; lia
  have kp : ∀ b o, s'.heap.get? b = some o → b ∉ frs (envOfC qual scope s.heap.objs.size f cd :: outer) → b ≠ a → b ≠ T → b ≠ C → h5.get? b = some o := fun b o e n1 n2 n3 n4 => by
    have lb := Heap.lt_size e
    have m1 : b ≠ T1 := by
      rcases r1 with z | z
      · rw [z]; exact n3
      · exact Nat.ne_of_lt (Nat.lt_of_lt_of_le lb z)
    have m2 : b ≠ T2 := by
      rcases r2 with z | z
      · rw [z]; exact n3
      · exact Nat.ne_of_lt (Nat.lt_of_lt_of_le lb z)
    exact step_sub st5 (step_sub st4 (step_sub st3 ((sb.2 b n4).trans (step_sub st1 e n1 n2 n3)) n1 n2 m1) n1 n2 m1) n1 n2 m2
  have sl : ∀ b o, s'.heap.get? b = some o → b ∈ frs (envOfC qual scope s.heap.objs.size f cd :: outer) → ∃ sl, h5.get? b = some { o with slots := sl } := fun b o e n1 => by
    obtain ⟨l1, e1⟩ := st1.slot b o e n1
    have e2 : h2.get? b = some { o with slots := l1 } := (sb.2 b fun z => cf (z ▸ n1)).trans e1
    obtain ⟨l3, e3⟩ := st3.slot b _ e2 n1
    obtain ⟨l4, e4⟩ := st4.slot b _ e3 n1
    obtain ⟨l5, e5⟩ := st5.slot b _ e4 n1
    exact ⟨l5, e5⟩
  have b0 : Un (frs outer) [] H H' s.heap s'.heap := I.base
  have fr : ∀ b o, H' b = some o → b ∉ frs (envOfC qual scope s.heap.objs.size f cd :: outer) := fun b o e hm => by
    rw [I.stkFree b hm] at e
    cases e
  have kt : ∀ b o u, H' b = some o → s'.heap.get? b = some u → h5.get? b = some u := fun b o u e hu =>
    kp b u hu (fr b o e) (fun z => by rw [z, ha] at e; cases e) (fun z => by rw [z, hT] at e; cases e) fun z => by rw [z, hC] at e; cases e
  have old : ∀ b o, s.heap.get? b = some o → b ≠ a ∧ b ≠ T ∧ b ≠ C := fun b o e => ⟨fun z => (by rw [z, na] at e; cases e), fun z => (by rw [z, nT] at e; cases e), fun z => (by rw [z, nC] at e; cases e)⟩
  have nL : ∀ b o, s.heap.get? b = some o → b ≠ s.heap.objs.size := fun b o e z => by
    have := Heap.lt_size e
    rw [z] at this
    exact Nat.lt_irrefl _ this
  have mem : ∀ b, b ∈ frs (envOfC qual scope s.heap.objs.size f cd :: outer) → b = s.heap.objs.size ∨ b ∈ frs outer := fun b hb => by
    unfold frs at hb
    rw [List.filterMap_cons] at hb
    exact List.mem_cons.mp hb
  have sub : ∀ b, b ∈ frs outer → b ∈ frs (envOfC qual scope s.heap.objs.size f cd :: outer) := fun b hb => by
    unfold frs
    rw [List.filterMap_cons]
    exact List.mem_cons_of_mem _ hb
  have nT2 : s.heap.get? T2 = none := by
    rcases r2 with z | z
    · rw [z]; exact nT
    · exact Heap.get?_none_of_le (Nat.le_trans I.sz z)
  have hT2 : H' T2 = none := by
    rcases r2 with z | z
    · rw [z]; exact hT
    · exact I.hok.fresh z
  refine ⟨a, T2, cls, a0, dx, H', rfl, I.os, I.bare, ⟨fun b o e n h1 h2 => ?_, fun b o e n h1 h2 => ?_, b0.free, fun b o e h2 => ?_, b0.tups, b0.frzs, b0.tbls⟩, fun b o e => (I.hok b o e).stay (fun c u hc hu => ?_) (fun _ z => z) fun _ _ z => z, x5, na, nT2, ha, hT2, q⟩
  · refine kp b o (b0.keep b o e n h1 h2) (fun hm => ?_) (old b o e).1 (old b o e).2.1 (old b o e).2.2
    rcases mem b hm with z | z
    · exact nL b o e z
    · exact h1 z
  · obtain ⟨sl1, h3⟩ := b0.slot b o e n h1 h2
    obtain ⟨sl2, h4⟩ := sl b _ h3 (sub b h1)
    exact ⟨sl2, h4⟩
  · obtain ⟨o', h3⟩ := b0.there b o e h2
    by_cases hm : b ∈ frs (envOfC qual scope s.heap.objs.size f cd :: outer)
    · obtain ⟨sl, h4⟩ := sl b o' h3 hm
      exact ⟨_, h4⟩
    · exact ⟨_, kp b o' h3 hm (old b o e).1 (old b o e).2.1 (old b o e).2.2⟩
  · rcases hc with rfl | hc
    · exact kt _ _ _ e hu
    · exact kt _ _ _ hc hu
end
end L2
end
/-! UfX22 -/
section
set_option Elab.async false
set_option linter.all false
set_option maxRecDepth 100000
set_option maxHeartbeats 4000000
namespace L2
open PySem PySem.Spec PyProof.Rows UfX
abbrev cxBx (X : Cx) (sc : Scope) (N : List Str) (z : BX) : Cx := (cxB X sc N z).wish fun x s' => (∃ pins σ, Inv X pins σ z.H z.s ∧ (∀ b ∈ z.fp, FpOk X pins z.H b) ∧ z.C = z.s.heap.objs.size) → notedBy (model X.prog X.w) X.A (compEnvC sc (clOf X.env sc.names []) z.C X.env) (blockErr X z.C) x s'
section
variable {P : Program} {w : World} {K : PySem.W.Frag} {mg : Str → Option Value} {base : Heap} {N N2 : List Str} {qual : Str} {scope sc : Scope} {f : Addr} {cd : Value} {A : Around} {outer : List Env} {s : Shared} {H : Hp} {E : XK}
theorem passB {z : BX} : Passes (CX1 P w) (cxBx (cxOf (CX1 P w) P w K mg base N qual scope f cd A outer s H E) sc N2 z) E := fun pins σ H1 s1 e s' I h hz => by
  obtain ⟨C, sz, Hz, fp⟩ := z
  obtain ⟨pins0, σ0, I3, f3, hC⟩ := hz
  dsimp only at I3 f3 hC
  subst hC
  obtain ⟨a, T, cls, a0, dx, H', rfl, os, bare, un, hok, x, na, nT, ha, hT, q⟩ := h
  have J := (I.call' os un hok bare fun b z => absurd z (by simp)).unwish
  have J0 : Inv (cxB (cxOf (CX1 P w) P w K mg base N qual scope f cd A outer s H E) sc N2 ⟨sz.heap.objs.size, sz, Hz, fp⟩) [] σ H' s' := J.pins_of fun p hp => absurd hp (by simp)
  have J2 := inv_behind I3 f3 J0 (Heap.SameBut.refl _ _)
  have old : ∀ b, s1.heap.get? b = none → s.heap.get? b = none := fun b n => by
    cases q : s.heap.get? b with
    | none => rfl
    | some o =>
      obtain ⟨o', h3⟩ := I3.base.there b o q (by show b ∉ ([] : List Addr); simp)
      have nf : b ∉ fp := fun z => by
        rcases (f3 b z).2.2.2.1 with z | z
        · exact absurd (show b ∈ ([] : List Addr) from z) (by simp)
        · exact absurd (Nat.lt_of_lt_of_le (Heap.lt_size q) z) (Nat.lt_irrefl _)
      obtain ⟨o2, h4⟩ := I.base.there b o' h3 nf
      rw [n] at h4
      cases h4
  obtain ⟨m, hn, _⟩ := J0.loc
  exact block_leave J2 rfl x.f ha (old a na) hT (old T nT) hn J0.free (Heap.get?_none_of_le I3.sz) (fun hm => by
    obtain ⟨_, o, ho, _⟩ := I3.stack.mem hm
    exact absurd (Heap.lt_size ho) (Nat.lt_irrefl _)) q
end
section
variable {prog : Program} {w : World} {A : Around} {R : Result → Shared → Prop} {s : Shared}
theorem comp_loop_ownX {elt target iter : Expr} {ifs : List Expr} {scope : Scope} {pos : Pos} {it acc : Value} {env : Env} (I : Nat → Shared → Prop) (Ee : Value → Shared → Prop) (hE : ∀ x s, Ee x s → notedBy (model prog w) A env (fun x s' => R (.error x) s') x s)
    (turn : ∀ n s, I n s → wpAny (model prog w) A (pyNext it) (fun r s₁ => match r with
      | none => R (.ok .next) s₁
      | some v => wpAny (model prog w) A (letOwnedTupleGo target it v) (fun _ s₀ => wpAny (model prog w) A (assign target env v) (fun _ s₂ =>
          wpAny (model prog w) A (forIn ifs true fun c r => if r = true then do let ok ← isTrue c env (eval c env); pure (ForInStep.yield ok) else pure (ForInStep.yield r)) (fun ok s₃ =>
            if ok = true then wpAny (model prog w) A (eval elt env) (fun x s₄ =>
              wpAny (model prog w) A (call (.builtin "list.append") [acc, x]) (fun _ s₅ => ∃ m, m < n ∧ I m s₅) Ee s₄) Ee s₃
            else ∃ m, m < n ∧ I m s₃) Ee s₂) Ee s₀) Ee s₁) Ee s)
    (n : Nat) (h : I n s) :
    codeAny (model prog w) A (.compLoop (.ListComp elt [⟨target, iter, ifs, 0⟩] scope pos) 0 it acc env) R s := by
  refine codeAny_loop rfl I (fun n s hI => ?_) n h
  show wpAny _ A ((compTurn (.ListComp elt [⟨target, iter, ifs, 0⟩] scope pos) 0 it acc env).onRaise (fun x => do noteFrame x env; theTreesLotGoes x)) _ _ s
  refine wpAny_noted ?_
  rw [compTurn_list]
  refine wpAny_bind (wpAny_standAt (wpAny_bind (wpAny_mono (turn n s hI) (fun r s₁ h₁ => ?_) hE)))
  cases r with
  | none => exact wpAny_pure h₁
  | some v =>
    refine wpAny_bind (wpAny_mono h₁ (fun _ s₀ h₀ => ?_) hE)
    refine wpAny_bind (wpAny_mono h₀ (fun _ s₂ h₂ => wpAny_bind (wpAny_mono h₂ (fun ok s₃ h₃ => ?_) hE)) hE)
    cases ok with
    | false => exact wpAny_pure ⟨rfl, h₃⟩
    | true =>
      exact wpAny_bind (wpAny_bind (wpAny_mono h₃ (fun x s₄ h₄ => wpAny_bind (wpAny_mono h₄ (fun _ s₅ h₅ => wpAny_pure (wpAny_pure ⟨rfl, h₅⟩)) hE)) hE))
end
section
variable {X : Cx} {N : List Str} {n : Nat} {ci : List Nat} {sc : Scope}
theorem comp_runX {elt tg iter : Expr} {ifs : List Expr} {pos : Pos} {g : BX → TG} {tt : BX → TT} {te : BX → TE} {z : BX} {it D : Addr} {fp : List Addr} {tn : Nat → Heap → Prop} {J : It} {σ0 : St} {H4 : Hp} {s4 : Shared} {Q : VK} {R : Result → Shared → Prop} {W : Nat → List V → Hp → Prop} {M : Nat}
    (hc : X.calm = true) (T : Turn X.prog X.w X.K tg J fp it tn) (bg : PG (cxBx X sc N z) tg (g z)) (bt : PTs (cxBx X sc N z) ifs (tt z)) (be : PE (cxBx X sc N z) elt (te z))
    (keep : ∀ {pins : List (Addr × Obj)} {σ' : St} {H' : Hp} {s' : Shared}, Inv (cxBx X sc N z) pins σ' H' s' → Inv (cxBx X sc N z) pins σ0 H' s')
    (stat : ∀ {H' : Hp}, (∀ b ∈ fp, H' b = none) → ∀ b ∈ fp, FpOk (cxBx X sc N z) [] H' b)
    (I4 : Inv (cxBx X sc N z) [] σ0 H4 s4) (st4 : tn 0 s4.heap) (fr4 : ∀ b ∈ fp, H4 b = none) (w0 : W 0 [] H4)
    (turn : ∀ i ys H, i ≤ M → W i ys H → (J.stop i H ∧ Q (.ref D) H) ∨ (i < M ∧ J.go i H ∧ ∀ x H', J.yld i H x H' → g z x σ0 H' fun σ2 H2 => tt z σ2 H2 fun b H3 =>
      if b = true then te z σ2 H3 fun y H4 => H4 D = some (.lst ys) ∧ ys.length < sizeLine ∧ W (i + 1) (ys ++ [y]) (upd H4 D (.lst (ys ++ [y])))
      else W (i + 1) ys H3))
    (hE : ∀ x s, (cxBx X sc N z).xe x s → notedBy (model X.prog X.w) X.A (cxBx X sc N z).env (fun x s' => R (.error x) s') x s) (hR : ∀ σ' H' s', Inv (cxBx X sc N z) [] σ' H' s' → Q (.ref D) H' → R (.ok .next) s') :
    codeAny (model X.prog X.w) X.A (.compLoop (.ListComp elt [⟨tg, iter, ifs, 0⟩] sc pos) 0 (.ref it) (.ref D) (cxBx X sc N z).env) R s4 := by
  refine comp_loop_ownX (fun n s' => ∃ i ys H', n = M - i ∧ i ≤ M ∧ Inv (cxBx X sc N z) [] σ0 H' s' ∧ tn i s'.heap ∧ (∀ b ∈ fp, H' b = none) ∧ W i ys H') (cxBx X sc N z).xe hE ?_ M ⟨0, [], H4, rfl, Nat.zero_le _, I4, st4, fr4, w0⟩
  rintro n s3 ⟨i, ys, H3, rfl, hiM, I3, st3, fr3, w3⟩
  rcases turn i ys H3 hiM w3 with ⟨stop, qn⟩ | ⟨hlt, go, step⟩
  · refine thn (T.done (cxBx X sc N z) rfl rfl rfl hc i [] s3 σ0 H3 (cxBx X sc N z).xe I3 (stat fr3) st3 stop) fun r s4 ⟨hr, I4⟩ => ?_
    subst hr
    exact hR σ0 H3 s4 I4 qn
  · refine thn (T.item (cxBx X sc N z) rfl rfl rfl hc i [] s3 σ0 H3 (cxBx X sc N z).xe I3 (stat fr3) st3 go) fun r s4 ⟨u, hr, h4⟩ => ?_
    subst hr
    refine thn h4 fun _ s5 ⟨x, H5, I5, r5, y5, st5, fr5⟩ => ?_
    have I5' := I5.pinned (stat fr5) (T.obj _ _ st5)
    refine thn (bg _ s5 σ0 H5 x u _ I5' r5 (step x H5 y5)) fun _ s6 ⟨σ6, H6, I6, q6⟩ => ?_
    refine thn (bt _ s6 σ6 H6 _ I6 q6) fun b s7 ⟨H7, I7, q7⟩ => ?_
    have again : ∀ {ys' : List V} {H8 : Hp} {s8 : Shared}, Inv (cxBx X sc N z) ([] ++ pinsAt fp s5.heap) σ6 H8 s8 → W (i + 1) ys' H8 → ∃ m, m < M - i ∧ ∃ i ys H', m = M - i ∧ i ≤ M ∧ Inv (cxBx X sc N z) [] σ0 H' s8 ∧ tn i s8.heap ∧ (∀ b ∈ fp, H' b = none) ∧ W i ys H' := fun {ys' H8 s8} I8 w8 => by
      refine ⟨M - (i + 1), by lia, i + 1, ys', H8, rfl, hlt, keep I8.unpinned, T.keep _ _ _ st5 fun b hb o e => (I8.pin (b, o) (List.mem_append_right _ (List.mem_append_right _ (mem_pinsAt hb e)))).1, fun b hb => ?_, w8⟩
      obtain ⟨o, e, d⟩ := T.obj _ _ st5 b hb
      exact (I8.pin (b, o) (List.mem_append_right _ (List.mem_append_right _ (mem_pinsAt hb e)))).2.1
    cases b with
    | false =>
      rw [if_neg (by decide)]
      rw [if_neg (by decide)] at q7
      exact again I7 q7
    | true =>
      rw [if_pos rfl]
      rw [if_pos rfl] at q7
      refine thn (be _ s7 σ6 H7 _ I7 q7) fun yu s8 ⟨y, H8, I8, r8, hD, hz, q8⟩ => ?_
      exact thn (mt_append _ s8 σ6 H8 (.ref D) [y] (.ref D) [yu] (fun _ H9 => H9 = upd H8 D (.lst (ys ++ [y]))) I8 rfl (.cons r8 .nil) ⟨D, ys, y, rfl, rfl, hD, hz, rfl⟩) fun _ s9 ⟨_, H9, I9, _, e9⟩ => by
        subst e9
        exact again I9 q8
theorem ps_compX {elt tg iter : Expr} {ifs : List Expr} {pos cpos py : Pos} {y : Str} {j : Nat} {wi : TI} {g : BX → TG} {tt : BX → TT} {te : BX → TE} (hc : X.calm = true) (hN : X.N.Nodup) (hj : X.N[j]? = some y) (hy : X.env.scope.names.lookup y = some .local) (hi : PI X tg iter wi) (S : CompScope X N n ci sc)
    (hb : ∀ z : BX, PG (cxBx X sc N z) tg (g z) ∧ PTs (cxBx X sc N z) ifs (tt z) ∧ PE (cxBx X sc N z) elt (te z)) (hsw : swapsWith (.ListComp elt [⟨tg, iter, ifs, 0⟩] sc cpos) (some (.Name y py)) pos.line X.env = pure true := by rfl)
    (hs : ∀ x, foldedSetIterable iter X.env x = pure x := by intro _; rfl) : PS X (.Assign [.Name y py] (.ListComp elt [⟨tg, iter, ifs, 0⟩] sc cpos) pos) (tAsg (tComp n ci wi g tt te) (gName j)) := by
  intro pins s σ H D0 I h
  rw [exec_Assign_Name_used _ _ _ _ hsw]
  refine wpAny_bind (wpAny_standAt (wpAny_bind ?_))
  show wpAny _ X.A (do let _ ← comprehension (.ListComp elt [⟨tg, iter, ifs, 0⟩] sc cpos) sc X.env _ (newList []) false (eval iter X.env) (some (assign (.Name y py) X.env))) _ _ s
  refine wpAny_bind (wpAny_mono (wpAny_comprehension_free (use := some (assign (.Name y py) X.env)) (Q := fun _ s' => SP X pins D0 .next s') (E := X.xe) rfl hs (closure_is (S.hasC I.ok)) S.kind S.loc (thn (hi pins s σ H _ I h) fun v s1 h1 => thn h1 fun itv s2 h2 => ?_)) (fun _ s' hq => wpAny_pure (wpAny_pure hq)) fun _ _ e => e)
  obtain ⟨it, fp, tn, J, H2, e, I2, T, st2, f2, rd⟩ := h2
  subst e
  refine wpAny_newObj_type (wpAny_newFunctionEnv S.nocell (by intro y hy; simp at hy) (fun h₁ hns₁ hsb₁ => ?_) S.kind)
  dsimp only at hns₁ hsb₁ ⊢
  have hD : H2 s2.heap.objs.size = none := I2.hok.fresh (Nat.le_refl _)
  have I3 : Inv X pins σ (upd H2 s2.heap.objs.size (.lst [])) { s2 with heap := s2.heap.push { cls := .type "list", data := .seq ([] : List Value).toArray } } := I2.lnew (t' := s2.toks) (ys := []) (its := []) .nil (Nat.zero_le _)
  have ob2 : ∀ b ∈ fp, ∃ o, s2.heap.get? b = some o := fun b hb => let ⟨o, e, _⟩ := T.obj _ _ st2 b hb; ⟨o, e⟩
  have neD : ∀ b ∈ fp, b ≠ s2.heap.objs.size := fun b hb => let ⟨o, e⟩ := ob2 b hb; Nat.ne_of_lt (Heap.lt_size e)
  have f3 : ∀ b ∈ fp, FpOk X pins (upd H2 s2.heap.objs.size (.lst [])) b := fun b hb => ⟨by rw [upd_ne (neD b hb)]; exact (f2 b hb).1, (f2 b hb).2⟩
  have ob3 : ∀ b ∈ fp, ∃ o, (s2.heap.push { cls := .type "list", data := .seq ([] : List Value).toArray }).get? b = some o := fun b hb => let ⟨o, e⟩ := ob2 b hb; ⟨o, Heap.get?_push_of_some _ e⟩
  have k3 : ∀ b o, (s2.heap.push { cls := .type "list", data := .seq ([] : List Value).toArray }).get? b = some o → h₁.get? b = some o := fun b o e =>
    hsb₁.extBut b o (Nat.ne_of_lt (Heap.lt_size e)) (Heap.get?_push_of_some _ e)
  have I4 : Inv (cxB X sc N ⟨_, { s2 with heap := s2.heap.push { cls := .type "list", data := .seq ([] : List Value).toArray } }, upd H2 s2.heap.objs.size (.lst []), fp⟩) [] (blk n ci σ) (upd H2 s2.heap.objs.size (.lst []))
      { s2 with heap := h₁, toks := s2.toks + ([] : List (Str × Value)).length } := inv_block (s := { s2 with heap := s2.heap.push { cls := .type "list", data := .seq ([] : List Value).toArray } }) S I3 f3 ob3 k3 hns₁
  have st4 : tn 0 h₁ := T.keep _ _ _ st2 fun b hb o e => k3 b o (Heap.get?_push_of_some _ e)
  obtain ⟨M, W, w0, turn⟩ := rd ⟨_, { s2 with heap := s2.heap.push { cls := .type "list", data := .seq ([] : List Value).toArray } }, upd H2 s2.heap.objs.size (.lst []), fp⟩ s2.heap.objs.size hD
  obtain ⟨bg, bt, be⟩ := hb ⟨_, { s2 with heap := s2.heap.push { cls := .type "list", data := .seq ([] : List Value).toArray } }, upd H2 s2.heap.objs.size (.lst []), fp⟩
  have ok3 := cxB_ok S I3 f3 ob3
  have stat : ∀ {H' : Hp}, (∀ b ∈ fp, H' b = none) → ∀ b ∈ fp, FpOk (cxB X sc N ⟨_, { s2 with heap := s2.heap.push { cls := .type "list", data := .seq ([] : List Value).toArray } }, upd H2 s2.heap.objs.size (.lst []), fp⟩) [] H' b := fun hn b hb => by
    obtain ⟨_, f1, f2', _, f4, _⟩ := f3 b hb
    refine ⟨hn b hb, ?_, ok3.exfs b hb, .inl hb, fun x c e => ?_, fun p hp => absurd hp (by simp)⟩
    · exact Nat.ne_of_lt (let ⟨o, e⟩ := ob3 b hb; Heap.lt_size e)
    · exact f4 x c (clOf_sound _ _ (S.hasC I3.ok) (by simp) x c e)
  have loop : codeAny (model X.prog X.w) X.A (.compLoop (.ListComp elt [⟨tg, iter, ifs, 0⟩] sc cpos) 0 (.ref it) (.ref s2.heap.objs.size) (compEnvC sc (clOf X.env sc.names []) (s2.heap.push { cls := .type "list", data := .seq ([] : List Value).toArray }).objs.size X.env))
      (compPost (model X.prog X.w) X.A X.xe (some (assign (.Name y py) X.env)) (fun _ s' => SP X pins D0 .next s') (.ref s2.heap.objs.size) (s2.heap.push { cls := .type "list", data := .seq ([] : List Value).toArray }).objs.size) { s2 with heap := h₁, toks := s2.toks + ([] : List (Str × Value)).length } := by
    refine comp_runX (W := W) (M := M) (σ0 := blk n ci σ) (Q := fun v H' => D0.nx (σ.set j (some v)) H') hc T bg bt be (fun {pins' σ' H' s'} J' => ?_) stat (I4.wish _) st4 (fun b hb => (f3 b hb).1) w0 turn (fun x s hx => hx ⟨_, _, I3, f3, rfl⟩) fun σ' H' s' J' q => ?_
    · exact (keep_blk S I3 f3 J'.unwish).wish _
    · obtain ⟨m', hn', _⟩ := id J'.loc
      have J2 : Inv X pins σ H' s' := inv_behind (s := { s2 with heap := s2.heap.push { cls := .type "list", data := .seq ([] : List Value).toArray } }) I3 f3 J'.unwish (Heap.SameBut.refl _ _)
      show wpAny _ _ (assign (.Name y py) X.env (.ref s2.heap.objs.size)) _ _ s'
      refine wpAny_assign_Name (store_ok2 (v := .ref s2.heap.objs.size) J2 hN hj (.inl hy) rfl (fun s3 J3 ⟨a, sb, ha⟩ => ?_) (.inr hy))
      have cC : ∀ x c, X.env.cells.lookup x = some c → c ≠ (s2.heap.push { cls := .type "list", data := .seq ([] : List Value).toArray }).objs.size := fun x c e z => by
        obtain ⟨v, q1⟩ := I3.cell x c e
        have := q1.lt
        rw [z] at this
        exact absurd this (Nat.lt_irrefl _)
      have lC : X.env.locals ≠ (s2.heap.push { cls := .type "list", data := .seq ([] : List Value).toArray }).objs.size := fun z => by
        have q1 := I3.lt
        rw [z] at q1
        exact absurd q1 (Nat.lt_irrefl _)
      have aC : a ≠ (s2.heap.push { cls := .type "list", data := .seq ([] : List Value).toArray }).objs.size := by
        rcases ha with rfl | ha
        · exact lC
        · exact cC _ _ ha
      refine ⟨m', hn'.sameBut sb (Ne.symm aC), fun h' hs' => ⟨_, H', J3.turned (t' := s3.toks) (fun b o hb e => (hs'.2 b hb).trans e) J'.free lC.symm (.inr (Nat.le_trans I3.sz (Nat.le_refl _))) cC (fun p hp z => ?_), q⟩⟩
      have q1 := (I3.pin p hp).1
      rw [z] at q1
      exact absurd (Heap.lt_size q1) (Nat.lt_irrefl _)
  exact codeAny_compStart_list loop (T.self _ 0 _ _ _ st4 loop)
end
end L2
end
/-! UfY2 -/
section
set_option Elab.async false
set_option linter.all false
set_option maxRecDepth 100000
set_option maxHeartbeats 4000000
namespace L2
open PySem
theorem Fun.okX {P : PySem.Program} {w : PySem.World} {K : PySem.W.Frag} {mg : PySem.Str → Option PySem.Value} {base : PySem.Heap} {x qual : PySem.Str} {st : PySem.Stmt} {f : PySem.Addr} {fd : PySem.FuncData} {N ps : List PySem.Str} {k : Nat} {sp : Sp} (F : Fun K x qual st f fd) (S : FnScope N ps (defScope st)) (len : ∀ vs H Q E, sp vs H Q E → vs.length = ps.length)
    (hbody : ∀ (cdv : PySem.Value) (A : PySem.Around) (outer : List PySem.Env) (s : PySem.Shared) (H : Hp) (vs : List V) (Q : VK) (E : XK), Room k (A.deeper (PyProof.Rows.envOfC qual (defScope st) s.heap.objs.size f cdv)) → sp vs H Q E →
      ∃ t, PSs (cxOf (CX1 P w) P w K mg base N qual (defScope st) f cdv A outer s H E) (defBody st) t ∧ t { nx := fun _ H' => Q .non H', rt := Q } (start N vs) H) : FnOk P w K mg base (CX1 P w) (k + 1) f fd ps sp := by
  obtain ⟨oc, od, kV, doc, pm, an, cdv, ct, osl, rfl, lk, hcd⟩ := F.ex
  exact fn_of lk hcd S len fun A outer s H vs Q E hr hsp => hbody cdv A outer s H vs Q E hr hsp
theorem FnOk.or {P : Program} {w : World} {K : PySem.W.Frag} {mg : Str → Option Value} {base : Heap} {CX : CXT} {k : Nat} {f : Addr} {fd : FuncData} {ps : List Str} {sp sp2 : Sp} (F : FnOk P w K mg base CX k f fd ps sp) (G : FnOk P w K mg base CX k f fd ps sp2) :
    FnOk P w K mg base CX k f fd ps (fun vs H Q E => sp vs H Q E ∨ sp2 vs H Q E) :=
  ⟨fun vs H Q E h => h.elim (F.len vs H Q E) (G.len vs H Q E), fun A outer s H args us vs Q E hr he hb hv hs => hs.elim (F.run A outer s H args us vs Q E hr he hb hv) (G.run A outer s H args us vs Q E hr he hb hv)⟩
end L2
namespace Uf
open PySem L2 UfSrt UfStr PySem.Builtin PySem.Builtin.Str PySem.StrLaws
theorem words_count : ∀ (xs : List PySem.Str) (x : PySem.Str), (x :: xs).length ≤ (PySem.Str.join " " (x :: xs)).length + 1
  | [], x => by simp
  | z :: xs, x => by
    have e := words_count xs z
    rw [join_two, len_app, len_app, show (" " : PySem.Str).length = 1 from rfl]
    rw [List.length_cons]
    lia
theorem word_le : ∀ (xs : List PySem.Str) (x y : PySem.Str), y ∈ x :: xs → y.length ≤ (PySem.Str.join " " (x :: xs)).length
  | [], x, y, h => by
    have : y = x := by simpa using h
    rw [this]
    exact Nat.le_refl _
  | z :: xs, x, y, h => by
    rw [join_two, len_app, len_app]
    rcases List.mem_cons.mp h with rfl | h
    · lia
    · have := word_le xs z y h
      lia
structure Words (p w0 : PySem.Str) (ws : List PySem.Str) : Prop where
  eq : Txt.split p " " = w0 :: ws
  len : (w0 :: ws).length ≤ p.length + 1
  le : ∀ y ∈ w0 :: ws, y.length ≤ p.length
theorem words_of (p : PySem.Str) : ∃ w0 ws, Words p w0 ws := by
  obtain ⟨w0, ws, e⟩ := split_ne p " "
  have j := join_split p " "
  rw [e] at j
  refine ⟨w0, ws, e, ?_, fun y hy => ?_⟩
  · have := words_count ws w0
    rw [j] at this
    exact this
  · have := word_le ws w0 y hy
    rw [j] at this
    exact this
theorem first_sign : ∀ (a b c d : List PySem.Str), (∀ x ∈ a, x ≠ ">") → (∀ x ∈ b, x ≠ ">") → a ++ (">" : PySem.Str) :: c = b ++ (">" : PySem.Str) :: d → a = b ∧ c = d
  | [], [], c, d, _, _, e => ⟨rfl, (List.cons.inj e).2⟩
  | [], y :: b, c, d, _, hb, e => absurd (List.cons.inj e).1.symm (hb y List.mem_cons_self)
  | x :: a, [], c, d, ha, _, e => absurd (List.cons.inj e).1 (ha x List.mem_cons_self)
  | x :: a, y :: b, c, d, ha, hb, e => by
    obtain ⟨e1, e2⟩ := List.cons.inj e
    obtain ⟨e3, e4⟩ := first_sign a b c d (fun z hz => ha z (List.mem_cons_of_mem _ hz)) (fun z hz => hb z (List.mem_cons_of_mem _ hz)) e2
    exact ⟨by rw [e1, e3], e4⟩
theorem colon_inj {x y : PySem.Str} (e : x ++ ":" = y ++ ":") : x = y := by
  have := congrArg (fun z : PySem.Str => z.cps.toList) e
  simp only [UfStr.app_codes] at this
  exact UfStr.str_ext (List.append_cancel_right this)
theorem line_by {p n : PySem.Str} {tk gv : List PySem.Str} {m : Mv} (h : Line p m) (hw : Txt.split p " " = (n ++ ":") :: (tk ++ (">" : PySem.Str) :: gv)) (ht : ∀ x ∈ tk, x ≠ ">") : m = (n, tk, gv) := by
  have e := split_line h.1
  rw [← h.2, hw] at e
  obtain ⟨e1, e2⟩ := List.cons.inj e
  obtain ⟨e4, e5⟩ := first_sign _ _ _ _ ht (fun x hx => nm_ne_gives (h.1.2.1 x hx)) e2
  obtain ⟨a, b, c⟩ := m
  dsimp only at e1 e4 e5
  rw [← colon_inj e1, ← e4, ← e5]
def flown0 (H : Hp) (E : XK) (C : Addr) : Prop := ∀ H', Same H H' → E (.ref C) none H'
theorem flown0.same {H H' : Hp} {E : XK} {C : Addr} (s : Same H H') (h : flown0 H E C) : flown0 H' E C := fun H2 s2 => h H2 (s.trans s2)
def spExcI0 (C : Addr) : Sp := fun vs H Q _ => ∃ a, vs = [.ref a] ∧ H a = some (ExcO a (.ref C) none) ∧ Q .non H
structure XDef0 (P : Program) (w : World) (K : PySem.W.Frag) (mg : PySem.Str → Option Value) (base : Heap) (x : PySem.Str) (C N f : Addr) (fd : FuncData) : Prop where
  mx : MkX K C N f
  gl : mg x = some (.ref C)
  bd : Binds K fd ["self"] []
  ok : FnOk P w K mg base CX0 1 f fd ["self"] (spExcI0 C)
  ec : ExcC K C
abbrev sNoNetI : Stmt := inClass (top 2) 0
abbrev sNoTextI : Stmt := inClass (top 3) 0
section
variable {P : Program} {w : World} {K : PySem.W.Frag} {mg : PySem.Str → Option Value} {base : Heap}
theorem scNoNetI : FnScope ["self"] ["self"] (defScope sNoNetI) := ⟨rfl, rfl, rfl, by decide +kernel, rfl, by decide +kernel, by decide +kernel⟩
theorem ok_NoNetI {f C N NE : Addr} {fd : FuncData} (F : Fun K "__init__" "NoNet.__init__" sNoNetI f fd) (mgE : mg "NetError" = some (.ref NE)) (hb : ExcBy K NE) (T : ExcT K C N) : FnOk P w K mg base CX0 1 f fd ["self"] (spExcI0 C) := by
  refine F.ok scNoNetI (fun vs H Q E h => ?_) (fun cdv A outer s H vs Q E hr h => ?_)
  · obtain ⟨a, rfl, _⟩ := h
    rfl
  · obtain ⟨a, rfl, ha, k⟩ := h
    refine ⟨_, pss_one (ps_expr (pe_excinit rfl mgE hb (pa_cons (pv 0) (pa_cons pe_str pa_nil)))), ?_⟩
    exact ⟨_, rfl, a, C, N, _, _, rfl, by simp, ha, T, k⟩
theorem scNoTextI : FnScope ["self"] ["self"] (defScope sNoTextI) := ⟨rfl, rfl, rfl, by decide +kernel, rfl, by decide +kernel, by decide +kernel⟩
theorem ok_NoTextI {f C N NE : Addr} {fd : FuncData} (F : Fun K "__init__" "NoText.__init__" sNoTextI f fd) (mgE : mg "NetError" = some (.ref NE)) (hb : ExcBy K NE) (T : ExcT K C N) : FnOk P w K mg base CX0 1 f fd ["self"] (spExcI0 C) := by
  refine F.ok scNoTextI (fun vs H Q E h => ?_) (fun cdv A outer s H vs Q E hr h => ?_)
  · obtain ⟨a, rfl, _⟩ := h
    rfl
  · obtain ⟨a, rfl, ha, k⟩ := h
    refine ⟨_, pss_one (ps_expr (pe_excinit rfl mgE hb (pa_cons (pv 0) (pa_cons pe_str pa_nil)))), ?_⟩
    exact ⟨_, rfl, a, C, N, _, _, rfl, by simp, ha, T, k⟩
theorem raised {H H1 : Hp} {E : XK} {C y : Addr} {o : HO} (s1 : Same H H1) (hy : H1 y = none) (k : flown0 H E C) : E (.ref C) none (del (upd H1 y o) y) := k _ fun b o' e => by
  have e1 := s1 b o' e
  have b1 : b ≠ y := ne_of_none e1 hy
  rw [del_ne b1, upd_ne b1]
  exact e1
def spCheckedX (K : PySem.W.Frag) (CT : Addr) : Sp := fun vs H Q E => ∃ (a : Addr) (xs : List PySem.Str), vs = [.ref a] ∧ SqL K H a (txs xs) ∧ (∀ x ∈ xs, x.length ≤ 1000) ∧ xs.length ≤ 1001 ∧
  ((∀ x ∈ xs, isNm x = true) → ∀ H', Same H H' → Q (.ref a) H') ∧ ((¬ ∀ x ∈ xs, isNm x = true) → flown0 H E CT)
theorem ok_checkedX {f fN CT NT fT : Addr} {fd fdN fdT : FuncData} (F : Fun K "checked_names" "checked_names" sChecked f fd) (T : Txt K mg) (XT : XDef0 P w K mg base "NoText" CT NT fT fdT) (DN : Def K mg "is_name" sIsName ["thing"] fN fdN) : FnOk P w K mg base (CX1 P w) 3 f fd ["words"] (spCheckedX K CT) := by
  have GN : FnOk P w K mg base CX0 1 fN fdN ["thing"] spIsName := ok_isName DN.fn T
  refine F.okX scChecked (fun vs H Q E h => ?_) (fun cdv A outer s H vs Q E hr h => ?_)
  · obtain ⟨a, xs, rfl, _⟩ := h
    rfl
  · obtain ⟨a, xs, rfl, ha, hx, hz, k1, k2⟩ := h
    have hsl := PySem.sizeLine_eq
    have hr1 : Room 1 _ := hr.mono (by decide)
    refine ⟨_, pss_cons (ps_if (pt_not (pt_val (pe_callB (call_all rfl) rfl T.all b_all (pa_cons (pe_comp (N := ["word"]) (n := 1) (ci := []) rfl (pi_list (pv 0))
        (CSc.of (so := defScope sChecked) (N0 := ["words"]) ⟨rfl, by decide +kernel, by decide +kernel, by decide +kernel, rfl, rfl, by decide +kernel, by decide +kernel⟩)
        (fun z => ⟨pg_name (i := 0) (nd_of (N := ["word"]) (by decide +kernel)) rfl (Or.inl rfl), pts_nil, pe_call GN hr1 rfl DN.mg DN.fn.kp DN.bd .nil pass0 (pa_cons (pv 0) pa_nil)⟩)) pa_nil)))) (pss_one (ps_raise raise_to rfl rfl (pe_makeX0 XT.mx XT.ok hr rfl XT.gl XT.bd .nil pass0))) pss_nil)
      (pss_one (ps_ret (pv 0))), ?_⟩
    refine ⟨_, rfl, a, rfl, ⟨_, ha⟩, fun z D hD => comp_list (a := a) (xs := txs xs) (fun i ys H2 => ys = ((xs.take i).map fun x => V.bl (isNm x)) ∧ H2 D = some (.lst ys) ∧ Same H H2) ⟨rfl, upd_same, same_new hD⟩ (fun i ys H2 _ p => p.2.2.seq ha) ?_ ?_⟩
    · rintro i v ys H2 hi ⟨rfl, hys, sm⟩
      obtain ⟨x, hxi, rfl⟩ := txs_get hi
      have hil := (List.getElem?_eq_some_iff.mp hxi).1
      refine ⟨_, rfl, x, rfl, hx x (List.mem_of_getElem? hxi), fun H3 s3 => ?_⟩
      refine ⟨s3 _ _ hys, ?_, ?_, upd_same, same_upd (sm.trans s3) hD⟩
      · rw [List.length_map, List.length_take]
        lia
      · rw [take_succ_at hxi, List.map_append]
        rfl
    · rintro ys H2 ⟨rfl, hys, sm⟩
      rw [strs_length, List.take_length] at hys
      refine ⟨D, xs.map isNm, rfl, SqL.of (by rw [hys, List.map_map]; rfl), _, rfl, ?_⟩
      by_cases c : ∀ x ∈ xs, isNm x = true
      · rw [show (xs.map isNm).all id = true by rw [List.all_map, List.all_eq_true]; exact c]
        refine iteF ?_
        exact ⟨_, rfl, k1 c H2 sm⟩
      · rw [show (xs.map isNm).all id = false by
          rw [List.all_map]
          cases e : xs.all (id ∘ isNm) with
          | false => rfl
          | true => exact absurd (fun x hx => List.all_eq_true.mp e x hx) c]
        refine iteT ?_
        exact ⟨by simp, fun y hy => ⟨y, rfl, upd_same, rfl, y, CT, none, rfl, upd_same, XT.ec, sm.free hy, raised sm hy (k2 c)⟩⟩
end
end Uf
end
/-! UfY3 -/
section
set_option Elab.async false
set_option linter.all false
set_option maxRecDepth 100000
set_option maxHeartbeats 4000000
namespace Uf
open PySem L2 UfSrt UfStr PySem.Builtin PySem.Builtin.Str PySem.StrLaws
section
variable {P : Program} {w : World} {K : PySem.W.Frag} {mg : PySem.Str → Option Value} {base : Heap}
def spReadSX (CT : Addr) : Sp := fun vs H Q E => ∃ p : PySem.Str, vs = [.str p] ∧ p.length ≤ 1000 ∧ (∀ S, (∀ x ∈ S, isNm x = true) → p = startT S → ∀ H' q, Same H H' → H q = none → H' q = some (.lst (txs S)) → Q (.ref q) H') ∧
  ((∀ S, (∀ x ∈ S, isNm x = true) → p ≠ startT S) → flown0 H E CT)
theorem ok_readSX {f fC CT NT fT : Addr} {fd fdC fdT : FuncData} (F : Fun K "read_start" "read_start" sReadS f fd) (T3 : Txt3 mg) (XT : XDef0 P w K mg base "NoText" CT NT fT fdT) (DC : Def K mg "checked_names" sChecked ["words"] fC fdC) (GC : FnOk P w K mg base (CX1 P w) 3 fC fdC ["words"] (spCheckedX K CT)) : FnOk P w K mg base (CX1 P w) 4 f fd ["part"] (spReadSX CT) := by
  refine F.okX scReadS (fun vs H Q E h => ?_) (fun cdv A outer s H vs Q E hr h => ?_)
  · obtain ⟨p, rfl, _⟩ := h
    rfl
  · obtain ⟨p, rfl, hl, k1, k2⟩ := h
    have hsl := PySem.sizeLine_eq
    have hr2 : Room 2 _ := hr.mono (by decide)
    obtain ⟨tf, hf⟩ := T3.first
    refine ⟨_, pss_cons (ps_set (i := 1) scReadS.nd rfl (Or.inl rfl) (pe_bm PySem.F.plainAttrs_str PySem.F.slot_str_split PySem.F.type_str_split mt_split (pv 0) (pa_cons pe_str pa_nil)))
      (pss_cons (ps_if (pt_cmpR op_ne (pe_ix ix_list (pv 1) pe_int (fun _ _ => rfl)) (pe_glob (v := .str "start") rfl hf ⟨tf, rfl⟩) (nomark _)) (pss_one (ps_raise raise_to rfl rfl (pe_makeX0 XT.mx XT.ok hr2 rfl XT.gl XT.bd .nil pass0))) pss_nil)
      (pss_one (ps_ret (pe_call GC hr rfl DC.mg DC.fn.kp DC.bd .nil pass1 (pa_cons (pe_slice sl_list (pv 1) (po_some pe_int) po_none) pa_nil))))), ?_⟩
    obtain ⟨w0, ws, W⟩ := words_of p
    have wl := W.len
    rw [List.length_cons] at wl
    refine ⟨_, rfl, rfl, _, _, rfl, rfl, by rw [l_blank]; lia, by lia, fun q n => ?_⟩
    rw [W.eq]
    have s1 : Same H (upd H q (.lst (txs (w0 :: ws)))) := same_new n
    have hq : (upd H q (.lst (txs (w0 :: ws)))) q = some (.lst (txs (w0 :: ws))) := upd_same
    generalize upd H q (.lst (txs (w0 :: ws))) = H1 at s1 hq ⊢
    refine ⟨_, rfl, q, _, 0, _, rfl, rfl, SqL.of hq, atI_nat (j := 0) rfl, rfl, _, rfl, ?_⟩
    by_cases c : w0 = "start"
    · subst c
      rw [show (!decide (V.str ("start" : PySem.Str) = V.str ("start" : PySem.Str))) = false by simp]
      refine iteF ?_
      refine ⟨_, rfl, _, rfl, q, _, rfl, SqL.of hq, fun q2 n2 => ?_⟩
      have e : cutV (txs (("start" : PySem.Str) :: ws)) (some (1 : Int)) none = txs ws := cut_hi _ 1 (by rw [strs_length]; simp)
      rw [e]
      have s2 : Same H1 (upd H1 q2 (.lst (txs ws))) := same_new n2
      refine ⟨q2, ws, rfl, SqL.of upd_same, fun x hx => Nat.le_trans (W.le x (List.mem_cons_of_mem _ hx)) hl, by lia, fun hn H3 s3 => k1 ws hn (start_split W.eq) H3 q2 (s1.trans (s2.trans s3)) (s1.free n2) (s3 _ _ upd_same), fun hn => (k2 fun S hS e => hn ?_).same (s1.trans s2)⟩
      have e2 := split_start hS
      rw [← e, W.eq] at e2
      rw [(List.cons.inj e2).2]
      exact hS
    · rw [show (!decide (V.str w0 = V.str ("start" : PySem.Str))) = true by simp [c]]
      refine iteT ?_
      refine ⟨by simp, fun y hy => ⟨y, rfl, upd_same, rfl, y, CT, none, rfl, upd_same, XT.ec, s1.free hy, raised s1 hy (k2 fun S hS e => c ?_)⟩⟩
      have e2 := split_start hS
      rw [← e, W.eq] at e2
      exact (List.cons.inj e2).1
def spReadMX (CT : Addr) : Sp := fun vs H Q E => ∃ p : PySem.Str, vs = [.str p] ∧ p.length ≤ 1000 ∧ (∀ m, Line p m → ∀ H' t a b, Same H H' → H a = none → H b = none → H' t = some (.tup [.str m.1, .ref a, .ref b]) → H' a = some (.lst (txs m.2.1)) → H' b = some (.lst (txs m.2.2)) → Q (.ref t) H') ∧
  ((∀ m, ¬ Line p m) → flown0 H E CT)
theorem ok_readMX {f fC CT NT fT : Addr} {fd fdC fdT : FuncData} (F : Fun K "read_move" "read_move" sReadM f fd) (T3 : Txt3 mg) (XT : XDef0 P w K mg base "NoText" CT NT fT fdT) (DC : Def K mg "checked_names" sChecked ["words"] fC fdC) (GC : FnOk P w K mg base (CX1 P w) 3 fC fdC ["words"] (spCheckedX K CT)) : FnOk P w K mg base (CX1 P w) 4 f fd ["part"] (spReadMX CT) := by
  refine F.okX scReadM (fun vs H Q E h => ?_) (fun cdv A outer s H vs Q E hr h => ?_)
  · obtain ⟨p, rfl, _⟩ := h
    rfl
  · obtain ⟨p, rfl, hl, k1, k2⟩ := h
    have hsl := PySem.sizeLine_eq
    have hr2 : Room 2 _ := hr.mono (by decide)
    obtain ⟨tg, hg⟩ := T3.gives
    refine ⟨_, pss_cons (ps_set (i := 1) scReadM.nd rfl (Or.inl rfl) (pe_bm PySem.F.plainAttrs_str PySem.F.slot_str_split PySem.F.type_str_split mt_split (pv 0) (pa_cons pe_str pa_nil)))
      (pss_cons (ps_if (PW.pt (pw_or (pt_not (pt_val (pe_bm PySem.F.plainAttrs_str PySem.F.slot_str_endswith PySem.F.type_str_endswith mt_ends (pe_ix ix_list (pv 1) pe_int (fun _ _ => rfl)) (pa_cons pe_str pa_nil)))) (pw_or1 (pt_cmpR op_notIn_seq (pe_glob (v := .str ">") rfl hg ⟨tg, rfl⟩) (pv 1) (by with_unfolding_all rfl))))) (pss_one (ps_raise raise_to rfl rfl (pe_makeX0 XT.mx XT.ok hr2 rfl XT.gl XT.bd .nil pass0))) pss_nil)
      (pss_cons (ps_set (i := 2) scReadM.nd rfl (Or.inl rfl) (pe_slice sl_str (pe_ix ix_list (pv 1) pe_int (fun _ _ => rfl)) po_none (po_some (pe_un un_neg pe_int))))
      (pss_cons (ps_expr (pe_call GC hr rfl DC.mg DC.fn.kp DC.bd .nil pass1 (pa_cons (pe_lst (pa_cons (pv 2) pa_nil)) pa_nil)))
      (pss_cons (ps_set (i := 3) scReadM.nd rfl (Or.inl rfl) (pe_bm PySem.F.plainAttrs_list PySem.F.slot_list_index PySem.F.type_list_index mt_index (pv 1) (pa_cons (pe_glob (v := .str ">") rfl hg ⟨tg, rfl⟩) pa_nil)))
      (pss_one (ps_ret (pe_tup (pa_cons (pv 2) (pa_cons (pe_call GC hr rfl DC.mg DC.fn.kp DC.bd .nil pass1 (pa_cons (pe_slice sl_list (pv 1) (po_some pe_int) (po_some (pv 3))) pa_nil)) (pa_cons (pe_call GC hr rfl DC.mg DC.fn.kp DC.bd .nil pass1 (pa_cons (pe_slice sl_list (pv 1) (po_some (pe_op op_add (pv 3) pe_int)) po_none) pa_nil)) pa_nil)))))))))), ?_⟩
    obtain ⟨w0, ws, W⟩ := words_of p
    have wl := W.len
    rw [List.length_cons] at wl
    refine ⟨_, rfl, rfl, _, _, rfl, rfl, by rw [l_blank]; lia, by lia, fun q n => ?_⟩
    rw [W.eq]
    have s1 : Same H (upd H q (.lst (txs (w0 :: ws)))) := same_new n
    have hq : (upd H q (.lst (txs (w0 :: ws)))) q = some (.lst (txs (w0 :: ws))) := upd_same
    generalize upd H q (.lst (txs (w0 :: ws))) = H1 at s1 hq ⊢
    refine ⟨_, rfl, q, _, 0, _, rfl, rfl, SqL.of hq, atI_nat (j := 0) rfl, rfl, _, _, rfl, rfl, _, rfl, ?_⟩
    cases ce : Txt.endswith w0 ":" with
    | false =>
      refine iteT ?_
      refine iteT ?_
      refine ⟨by simp, fun y hy => ⟨y, rfl, upd_same, rfl, y, CT, none, rfl, upd_same, XT.ec, s1.free hy, raised s1 hy (k2 fun m hm => ?_)⟩⟩
      have e2 := split_line hm.1
      rw [← hm.2, W.eq] at e2
      rw [(List.cons.inj e2).1, ends_colon] at ce
      cases ce
    | true =>
      refine iteF ?_
      obtain ⟨n0, rfl⟩ := ends_with ce
      refine ⟨_, rfl, q, _, rfl, .inl (SqL.of hq), rfl, flat_txs _, _, rfl, ?_⟩
      show if (!inV (V.str ">") (txs ((n0 ++ ":") :: ws))) = true then _ else _
      rw [in_txs]
      by_cases cg : (">" : PySem.Str) ∈ (n0 ++ ":") :: ws
      · rw [decide_eq_true cg]
        refine iteF ?_
        have cg2 : (">" : PySem.Str) ∈ ws := (List.mem_cons.mp cg).resolve_left fun z => colon_ne_gives n0 z.symm
        obtain ⟨tk, gv, ew, nt⟩ := List.eq_append_cons_of_mem cg2
        subst ew
        have ntk : ∀ x ∈ tk, x ≠ ">" := fun x hx z => nt (z ▸ hx)
        rw [List.length_append, List.length_cons] at wl
        have ln0 : n0.length ≤ 1000 := by
          have := W.le _ List.mem_cons_self
          rw [len_app] at this
          lia
        refine ⟨_, rfl, q, _, 0, _, rfl, rfl, SqL.of hq, atI_nat (j := 0) rfl, 1, rfl, _, rfl, _, rfl, by rw [len_app, l_colon]; lia, ?_⟩
        rw [show Txt.slice (n0 ++ ":") none (some (-1)) = n0 from slice_colon n0]
        refine ⟨_, rfl, by show 1 ≤ sizeLine; lia, fun q2 n2 => ?_⟩
        have s2 : Same H1 (upd H1 q2 (.lst [V.str n0])) := same_new n2
        refine ⟨q2, [n0], rfl, SqL.of upd_same, fun x hx => ?_, by simp, fun hn0 H3 s3 => ?_, fun hn => (k2 fun m hm => hn fun x hx => ?_).same (s1.trans s2)⟩
        · have e : x = n0 := by simpa using hx
          rw [e]; exact ln0
        rotate_left
        · have e : x = n0 := by simpa using hx
          rw [e]
          have := line_by hm W.eq ntk
          rw [this] at hm
          exact hm.1.1
        have hn0 : isNm n0 = true := hn0 n0 (by simp)
        have s13 := s2.trans s3
        have hq3 := s13 _ _ hq
        have at' : (txs ((n0 ++ ":") :: (tk ++ (">" : PySem.Str) :: gv)))[tk.length + 1]? = some (V.str ">") := by
          unfold txs
          rw [List.getElem?_map, List.getElem?_cons_succ, List.getElem?_append_right (Nat.le_refl _), Nat.sub_self]
          rfl
        refine ⟨_, rfl, .inl ⟨rfl, _, SqL.of hq3⟩, q, _, _, V.str ">", tk.length + 1, rfl, rfl, hq3, rfl, flat_txs _, at', by simp [eqV], fun j v hj hv => ?_, ?_⟩
        · obtain ⟨x, hx, rfl⟩ := txs_get hv
          have ne : x ≠ ">" := by
            cases j with
            | zero =>
              have e : x = n0 ++ ":" := by simpa using hx.symm
              rw [e]; exact colon_ne_gives _
            | succ j =>
              rw [List.getElem?_cons_succ, List.getElem?_append_left (by lia)] at hx
              exact ntk x (List.mem_of_getElem? hx)
          simp [eqV, ne]
        have e1 : cutV (txs ((n0 ++ ":") :: (tk ++ (">" : PySem.Str) :: gv))) (some ((1 : Nat) : Int)) (some ((tk.length + 1 : Nat) : Int)) = txs tk := by
          rw [cut_mid _ _ _ (by rw [strs_length]; simp) (by lia)]
          unfold txs
          rw [← List.map_drop, ← List.map_take]
          simp
        have e2 : cutV (txs ((n0 ++ ":") :: (tk ++ (">" : PySem.Str) :: gv))) (some ((tk.length + 2 : Nat) : Int)) none = txs gv := by
          rw [cut_hi _ _ (by rw [strs_length]; simp)]
          unfold txs
          rw [← List.map_drop]
          simp
        refine ⟨_, rfl, _, rfl, _, rfl, _, rfl, _, rfl, q, _, rfl, SqL.of hq3, fun q4 n4 => ?_⟩
        rw [show cutV (txs ((n0 ++ ":") :: (tk ++ (">" : PySem.Str) :: gv))) (some (1 : Int)) (some ((tk.length + 1 : Nat) : Int)) = txs tk from e1]
        have s4 : Same H3 (upd H3 q4 (.lst (txs tk))) := same_new n4
        have hq4 : (upd H3 q4 (.lst (txs tk))) q4 = some (.lst (txs tk)) := upd_same
        generalize upd H3 q4 (.lst (txs tk)) = H4 at s4 hq4 ⊢
        have s04 := s1.trans (s13.trans s4)
        refine ⟨q4, tk, rfl, SqL.of hq4, fun x hx => Nat.le_trans (W.le x (List.mem_cons_of_mem _ (List.mem_append_left _ hx))) hl, by lia, fun htk H5 s5 => ?_, fun hn => (k2 fun m hm => hn ?_).same s04⟩
        rotate_left
        · have := line_by hm W.eq ntk
          rw [this] at hm
          exact hm.1.2.1
        have s35 := s4.trans s5
        refine ⟨_, rfl, _, rfl, _, _, rfl, rfl, _, rfl, q, _, rfl, SqL.of (s35 _ _ hq3), fun q6 n6 => ?_⟩
        rw [show cutV (txs ((n0 ++ ":") :: (tk ++ (">" : PySem.Str) :: gv))) (some (((tk.length + 1 : Nat) : Int) + 1)) none = txs gv from by rw [show (((tk.length + 1 : Nat) : Int) + 1) = ((tk.length + 2 : Nat) : Int) by lia]; exact e2]
        have s6 : Same H5 (upd H5 q6 (.lst (txs gv))) := same_new n6
        have hq6 : (upd H5 q6 (.lst (txs gv))) q6 = some (.lst (txs gv)) := upd_same
        generalize upd H5 q6 (.lst (txs gv)) = H6 at s6 hq6 ⊢
        refine ⟨q6, gv, rfl, SqL.of hq6, fun x hx => Nat.le_trans (W.le x (List.mem_cons_of_mem _ (List.mem_append_right _ (List.mem_cons_of_mem _ hx)))) hl, by lia, fun hgv H7 s7 => ⟨by show 3 ≤ sizeLine; lia, fun t nt => ?_⟩, fun hn => (k2 fun m hm => hn ?_).same (s04.trans (s5.trans s6))⟩
        rotate_left
        · have := line_by hm W.eq ntk
          rw [this] at hm
          exact hm.1.2.2
        have s8 : Same H7 (upd H7 t (.tup [.str n0, .ref q4, .ref q6])) := same_new nt
        have s03 := s1.trans s13
        exact k1 (n0, tk, gv) ⟨⟨hn0, htk, hgv⟩, words_line W.eq⟩ _ t q4 q6 (s03.trans (s35.trans (s6.trans (s7.trans s8)))) (s03.free n4) ((s03.trans s35).free n6) upd_same ((s5.trans (s6.trans (s7.trans s8))) _ _ hq4) ((s7.trans s8) _ _ hq6)
      · rw [decide_eq_false cg]
        refine iteT ?_
        refine ⟨by simp, fun y hy => ⟨y, rfl, upd_same, rfl, y, CT, none, rfl, upd_same, XT.ec, s1.free hy, raised s1 hy (k2 fun m hm => cg ?_)⟩⟩
        have e2 := split_line hm.1
        rw [← hm.2, W.eq] at e2
        rw [e2]
        simp
end
end Uf
end
/-! UfY4 -/
section
set_option Elab.async false
set_option linter.all false
set_option maxRecDepth 100000
set_option maxHeartbeats 4000000
namespace Uf
open PySem L2 UfSrt UfStr PySem.Builtin PySem.Builtin.Str PySem.StrLaws
def blanks (t : PySem.Str) : Nat := t.cps.toList.count 32
theorem blanks_app (x y : PySem.Str) : blanks (x ++ y) = blanks x + blanks y := by
  unfold blanks
  rw [UfStr.app_codes, List.count_append]
theorem blanks_join (y : PySem.Str) : ∀ (xs : List PySem.Str) (x : PySem.Str), blanks (PySem.Str.join y (x :: xs)) = blanks x + (xs.map fun z => blanks y + blanks z).sum
  | [], x => by simp [PySem.Str.join]
  | z :: xs, x => by
    rw [join_two, blanks_app, blanks_app, blanks_join y xs z, List.map_cons, List.sum_cons]
    lia
theorem sum_ge {α : Type} {f : α → Nat} : ∀ (xs : List α), (∀ x ∈ xs, 1 ≤ f x) → xs.length ≤ (xs.map f).sum
  | [], _ => by simp
  | x :: xs, h => by
    rw [List.map_cons, List.sum_cons, List.length_cons]
    have h1 := h x List.mem_cons_self
    have h2 := sum_ge xs fun z hz => h z (List.mem_cons_of_mem _ hz)
    lia
theorem b_blank : blanks " " = 1 := by decide +kernel
theorem b_semi : blanks "; " = 1 := by decide +kernel
theorem blanks_start (S : List PySem.Str) : S.length ≤ blanks (startT S) := by
  unfold startT
  rw [blanks_join]
  have := sum_ge (f := fun z => blanks " " + blanks z) S fun x _ => by rw [b_blank]; lia
  lia
theorem blanks_line (m : Mv) : m.2.1.length + m.2.2.length + 1 ≤ blanks (lineT m) := by
  unfold lineT
  rw [blanks_join]
  have := sum_ge (f := fun z => blanks " " + blanks z) (m.2.1 ++ (">" : PySem.Str) :: m.2.2) fun x _ => by rw [b_blank]; lia
  rw [List.length_append, List.length_cons] at this
  lia
structure Reads (t : PySem.Str) (ms : List Mv) (S : List PySem.Str) : Prop where
  nm : ∀ m ∈ ms, NmMv m
  sn : ∀ x ∈ S, isNm x = true
  eq : Txt.split t "; " = startT S :: ms.map lineT
theorem start_inj {S S2 : List PySem.Str} (h : ∀ x ∈ S, isNm x = true) (h2 : ∀ x ∈ S2, isNm x = true) (e : startT S = startT S2) : S = S2 := by
  have e1 := split_start h
  rw [e, split_start h2] at e1
  exact (List.cons.inj e1).2.symm
theorem lines_inj : ∀ {ms ms2 : List Mv}, (∀ m ∈ ms, NmMv m) → (∀ m ∈ ms2, NmMv m) → ms.map lineT = ms2.map lineT → ms = ms2
  | [], [], _, _, _ => rfl
  | [], m :: ms2, _, _, e => nomatch e
  | m :: ms, [], _, _, e => nomatch e
  | m :: ms, m2 :: ms2, h, h2, e => by
    rw [List.map_cons, List.map_cons] at e
    obtain ⟨e1, e2⟩ := List.cons.inj e
    rw [Line.uniq (p := lineT m) ⟨h m List.mem_cons_self, rfl⟩ ⟨h2 m2 List.mem_cons_self, e1⟩, lines_inj (fun z hz => h z (List.mem_cons_of_mem _ hz)) (fun z hz => h2 z (List.mem_cons_of_mem _ hz)) e2]
theorem Reads.uniq {t : PySem.Str} {ms ms2 : List Mv} {S S2 : List PySem.Str} (h : Reads t ms S) (h2 : Reads t ms2 S2) : ms = ms2 ∧ S = S2 := by
  have e := h.eq
  rw [h2.eq] at e
  obtain ⟨e1, e2⟩ := List.cons.inj e
  exact ⟨(lines_inj h2.nm h.nm e2).symm, (start_inj h2.sn h.sn e1).symm⟩
structure TextOk (t : PySem.Str) : Prop where
  len : t.length ≤ 1000
  bl : blanks t ≤ 60
theorem lines_sum : ∀ (ms : List Mv), ms.length + (pls ms).length ≤ (ms.map fun m => blanks "; " + blanks (lineT m)).sum
  | [] => Nat.le_refl _
  | m :: ms => by
    have h1 := lines_sum ms
    have h2 := blanks_line m
    unfold pls at h1 ⊢
    rw [List.flatMap_cons, List.map_cons, List.sum_cons, List.length_cons, List.length_append, List.length_append, b_semi]
    rw [b_semi] at h1
    lia
theorem Reads.few {t : PySem.Str} {ms : List Mv} {S : List PySem.Str} (h : Reads t ms S) : ms.length + (S ++ pls ms).length ≤ blanks t := by
  have e := join_split t "; "
  rw [h.eq] at e
  rw [← e, blanks_join, List.map_map]
  have h1 := blanks_start S
  have h2 := lines_sum ms
  rw [List.length_append]
  have e3 : ((fun z => blanks "; " + blanks z) ∘ lineT) = fun m => blanks "; " + blanks (lineT m) := rfl
  rw [e3]
  lia
theorem Reads.fits {t : PySem.Str} {ms : List Mv} {S : List PySem.Str} (h : Reads t ms S) (ht : TextOk t) : Fits ms S := by
  have hf := h.few
  have hb := ht.bl
  rw [List.length_append] at hf
  have lm : ∀ m ∈ ms, m.2.1.length + m.2.2.length ≤ (pls ms).length := fun m hm => by
    unfold pls
    have : ∀ l : List Mv, m ∈ l → m.2.1.length + m.2.2.length ≤ (l.flatMap fun m => m.2.1 ++ m.2.2).length := fun l => by
      induction l with
      | nil => intro h; cases h
      | cons a l ih =>
        intro h
        rw [List.flatMap_cons, List.length_append, List.length_append]
        rcases List.mem_cons.mp h with rfl | h
        · lia
        · have := ih h
          lia
    exact this ms hm
  refine ⟨⟨by unfold names; rw [List.length_map]; lia, fun x hx => ?_⟩, fun m hm => ⟨by have := lm m hm; lia, fun x hx => ?_⟩, fun m hm => ⟨by have := lm m hm; lia, fun x hx => ?_⟩, ⟨by lia, fun x hx => ?_⟩, by rw [List.length_append]; lia, ?_⟩
  · obtain ⟨m, hm, rfl⟩ := List.mem_map.mp hx
    have := isNm_len (h.nm m hm).1
    lia
  · have := isNm_len ((h.nm m hm).2.1 x hx); lia
  · have := isNm_len ((h.nm m hm).2.2 x hx); lia
  · have := isNm_len (h.sn x hx); lia
  · have := UfFin.nodup_le (UfSet.dd_nodup (S ++ pls ms)) fun x hx => UfSet.dd_mem.mp hx
    rw [List.length_append] at this
    lia
theorem part_le {y : PySem.Str} : ∀ (xs : List PySem.Str) (x z : PySem.Str), z ∈ x :: xs → z.length ≤ (PySem.Str.join y (x :: xs)).length
  | [], x, z, h => by
    have : z = x := by simpa using h
    rw [this]
    exact Nat.le_refl _
  | v :: xs, x, z, h => by
    rw [join_two, len_app, len_app]
    rcases List.mem_cons.mp h with rfl | h
    · lia
    · have := part_le (y := y) xs v z h
      lia
theorem parts_count : ∀ (xs : List PySem.Str) (x : PySem.Str), (x :: xs).length ≤ (PySem.Str.join "; " (x :: xs)).length + 1
  | [], x => by simp
  | z :: xs, x => by
    have e := parts_count xs z
    rw [join_two, len_app, len_app, l_semi, List.length_cons]
    lia
section
variable {P : Program} {w : World} {K : PySem.W.Frag} {mg : PySem.Str → Option Value} {base : Heap}
def spInitX (K : PySem.W.Frag) (C CO : Addr) : Sp := fun vs H Q E => ∃ (p dx a b : Addr) (ms : List Mv) (st : List PySem.Str), vs = [.ref p, .ref a, .ref b] ∧ H p = some (.ins C dx []) ∧ MvsAt K H a ms ∧ SqL K H b (txs st) ∧ Fits ms st ∧ mkNet ms st = false ∧ flown0 H E CO
theorem ok_initX {f C CO NO fO fN fU fM fP fK : Addr} {fd fdO fdN fdU fdM fdP fdK : FuncData} (F : Fun K "__init__" "Net.__init__" sInit f fd) (T : Txt K mg) (XO : XDef0 P w K mg base "NoNet" CO NO fO fdO) (DN : Def K mg "is_name" sIsName ["thing"] fN fdN) (DU : Def K mg "are_unlike_names" sUnlike ["things"] fU fdU)
    (DM : Def K mg "is_move" sIsMove ["taken", "given"] fM fdM) (DP : Def K mg "places_of" sPlaces ["moves", "start"] fP fdP) (DK : Def K mg "makes_net" sMakes ["moves", "start"] fK fdK) : FnOk P w K mg base (CX1 P w) 5 f fd ["self", "moves", "start"] (spInitX K C CO) := by
  have GK : FnOk P w K mg base CX0 4 fK fdK ["moves", "start"] (spMakes K) := ok_makes DK.fn T DN DU DM DP
  refine F.okX scInit (fun vs H Q E h => ?_) (fun cdv A outer s H vs Q E hr h => ?_)
  · obtain ⟨p, dx, a, b, ms, st, rfl, _⟩ := h
    rfl
  · obtain ⟨p, dx, a, b, ms, st, rfl, hp, ha, hb, hf, hmk, k⟩ := h
    have hr2 : Room 2 _ := hr.mono (by decide)
    refine ⟨_, pss_cons (ps_if (pt_not (pt_val (pe_call GK hr rfl DK.mg DK.fn.kp DK.bd .nil pass0 (pa_cons (pv 1) (pa_cons (pv 2) pa_nil))))) (pss_one (ps_raise raise_to rfl rfl (pe_makeX0 XO.mx XO.ok hr2 rfl XO.gl XO.bd .nil pass0))) pss_nil) pss_never, ?_⟩
    refine ⟨_, rfl, _, rfl, a, b, ms, st, rfl, ha, hb, hf, fun H1 s1 => ⟨_, rfl, ?_⟩⟩
    rw [hmk]
    refine iteT ?_
    exact ⟨by simp, fun y hy => ⟨y, rfl, upd_same, rfl, y, CO, none, rfl, upd_same, XO.ec, s1.free hy, raised s1 hy k⟩⟩
def spInitB (K : PySem.W.Frag) (C CO : Addr) : Sp := fun vs H Q E => spInit K C vs H Q E ∨ spInitX K C CO vs H Q E
def spReadNX (K : PySem.W.Frag) (C CO CT : Addr) : Sp := fun vs H Q E => (∃ t, vs = [.str t] ∧ TextOk t ∧ (∀ ms S, Reads t ms S → mkNet ms S = true → ∀ H' p, Same H H' → IsNet C H' p ms S → Q (.ref p) H') ∧ (∀ ms S, Reads t ms S → mkNet ms S = false → flown0 H E CO) ∧ ((∀ ms S, ¬ Reads t ms S) → flown0 H E CT)) ∨
  ∃ v ty, vs = [v] ∧ TyOf K H v ty ∧ PySem.W.kitOne K ty (.type "str") = some false ∧ flown0 H E CT
theorem scReadN : FnScope ["text", "parts", "start", "moves"] ["text"] (defScope sReadN) := ⟨rfl, rfl, rfl, by decide +kernel, rfl, by decide +kernel, by decide +kernel⟩
def RdMv (D : Addr) (H : Hp) (m : Mv) (q : Addr) : Prop := ∃ l g, l ≠ D ∧ g ≠ D ∧ H q = some (.tup [.str m.1, .ref l, .ref g]) ∧ H l = some (.lst (txs m.2.1)) ∧ H g = some (.lst (txs m.2.2))
inductive RdX (H : Hp) (D : Addr) (ps : List PySem.Str) (i : Nat) (ys : List V) (H2 : Hp) : Prop
  | mk (ms : List Mv) (qs : List Addr) (q0 : ys = qs.map V.ref) (q1 : H2 D = some (.lst ys)) (q2 : Same H H2) (q3 : Paired (RdMv D H2) ms qs) (q4 : ps.take i = ms.map lineT) (q5 : ∀ m ∈ ms, NmMv m)
theorem RdX.same {H : Hp} {D : Addr} {ps : List PySem.Str} {i : Nat} {ys : List V} {H2 : Hp} (h : RdX H D ps i ys H2) : Same H H2 := by
  cases h
  assumption
theorem ok_readNX {f C CO CT NT fT fI fS fM : Addr} {fd fdT fdI fdS fdM : FuncData} (F : Fun K "read_net" "read_net" sReadN f fd) (T : Txt K mg) (XT : XDef0 P w K mg base "NoText" CT NT fT fdT) (mgC : mg "Net" = some (.ref C)) (M : Mk K C fI) (bI : Binds K fdI ["self", "moves", "start"] []) (GI : FnOk P w K mg base (CX1 P w) 5 fI fdI ["self", "moves", "start"] (spInitB K C CO))
    (DS : Def K mg "read_start" sReadS ["part"] fS fdS) (GS : FnOk P w K mg base (CX1 P w) 4 fS fdS ["part"] (spReadSX CT)) (DM : Def K mg "read_move" sReadM ["part"] fM fdM) (GM : FnOk P w K mg base (CX1 P w) 4 fM fdM ["part"] (spReadMX CT)) : FnOk P w K mg base (CX1 P w) 7 f fd ["text"] (spReadNX K C CO CT) := by
  refine F.okX scReadN (fun vs H Q E h => ?_) (fun cdv A outer s H vs Q E hr h => ?_)
  · rcases h with ⟨t, rfl, _⟩ | ⟨v, ty, rfl, _⟩ <;> rfl
  · have hsl := PySem.sizeLine_eq
    have hr2 : Room 2 _ := hr.mono (by decide)
    have hr4 : Room 4 _ := hr.mono (by decide)
    refine ⟨_, pss_cons (ps_if (pt_not (pt_val (pe_callB call_isi rfl T.isi b_isi (pa_cons (pv 0) (pa_cons (pe_bltn (v := .ty "str") rfl T.str b_str rfl) pa_nil))))) (pss_one (ps_raise raise_to rfl rfl (pe_makeX0 XT.mx XT.ok hr2 rfl XT.gl XT.bd .nil pass0))) pss_nil)
      (pss_cons (ps_set (i := 1) scReadN.nd rfl (Or.inl rfl) (pe_bm PySem.F.plainAttrs_str PySem.F.slot_str_split PySem.F.type_str_split mt_split (pv 0) (pa_cons pe_str pa_nil)))
      (pss_cons (ps_set (i := 2) scReadN.nd rfl (Or.inl rfl) (pe_call GS hr4 rfl DS.mg DS.fn.kp DS.bd .nil pass1 (pa_cons (pe_ix ix_list (pv 1) pe_int (fun _ _ => rfl)) pa_nil)))
      (pss_cons (ps_compX (j := 3) (N := ["part"]) (n := 1) (ci := []) rfl scReadN.nd rfl rfl (pi_list (pe_slice sl_list (pv 1) (po_some pe_int) po_none))
        (CSc.of (so := defScope sReadN) (N0 := ["text", "parts", "start", "moves"]) ⟨rfl, by decide +kernel, by decide +kernel, by decide +kernel, rfl, rfl, by decide +kernel, by decide +kernel⟩)
        (fun z => ⟨pg_name (i := 0) (nd_of (N := ["part"]) (by decide +kernel)) rfl (Or.inl rfl), pts_nil, pe_call GM hr4 rfl DM.mg DM.fn.kp DM.bd .nil passB (pa_cons (pv 0) pa_nil)⟩))
      (pss_one (ps_ret (pe_make M GI hr rfl mgC bI .nil pass1 (pa_cons (pv 3) (pa_cons (pv 2) pa_nil)))))))), ?_⟩
    rcases h with ⟨t, rfl, ht, k1, k2, k3⟩ | ⟨v, ty, rfl, hty, hk, k3⟩
    · refine ⟨_, rfl, _, "str", _, true, rfl, TyOf.str _, (by rfl), true, rfl, ?_⟩
      refine iteF ?_
      have lt := ht.len
      refine ⟨_, rfl, rfl, _, _, rfl, rfl, by rw [l_semi]; lia, by lia, fun q n => ?_⟩
      obtain ⟨p0, ps, ep⟩ := split_ne t "; "
      have ej := join_split t "; "
      rw [ep] at ej
      rw [ep]
      have pl : ∀ x ∈ p0 :: ps, x.length ≤ 1000 := fun x hx => by
        have := part_le (y := "; ") ps p0 x hx
        rw [ej] at this
        lia
      have pc := parts_count ps p0
      rw [ej, List.length_cons] at pc
      have s1 : Same H (upd H q (.lst (txs (p0 :: ps)))) := same_new n
      have hq : (upd H q (.lst (txs (p0 :: ps)))) q = some (.lst (txs (p0 :: ps))) := upd_same
      generalize upd H q (.lst (txs (p0 :: ps))) = H1 at s1 hq ⊢
      refine ⟨_, rfl, q, _, 0, _, rfl, rfl, SqL.of hq, atI_nat (j := 0) rfl, p0, rfl, pl p0 List.mem_cons_self, fun S hS eS H2 q2 s2 nq2 hq2 => ?_, fun hn => (k3 fun ms S hR => hn S hR.sn ?_).same s1⟩
      rotate_left
      · have e := hR.eq
        rw [ep] at e
        exact (List.cons.inj e).1
      have e : cutV (txs (p0 :: ps)) (some (1 : Int)) none = txs ps := cut_hi _ 1 (by rw [strs_length]; simp)
      refine ⟨_, rfl, _, rfl, q, _, rfl, SqL.of (s2 _ _ hq), fun q3 n3 => ?_⟩
      rw [e]
      have s3 : Same H2 (upd H2 q3 (.lst (txs ps))) := same_new n3
      have hq3 : (upd H2 q3 (.lst (txs ps))) q3 = some (.lst (txs ps)) := upd_same
      generalize upd H2 q3 (.lst (txs ps)) = H3 at s3 hq3 ⊢
      have s03 := s1.trans (s2.trans s3)
      refine ⟨q3, rfl, ⟨_, SqL.of hq3⟩, fun z D hD => comp_list (a := q3) (xs := txs ps) (RdX H3 D ps)
        ⟨[], [], rfl, upd_same, same_new hD, .nil, rfl, fun _ h => nomatch h⟩ (fun i ys H4 _ h => SqL.of (h.same _ _ hq3)) ?_ ?_⟩
      · rintro i v ys H4 hi ⟨ms, qs, rfl, hys, s4, pq, em, hm⟩
        obtain ⟨x, hx, rfl⟩ := txs_get hi
        have hil := (List.getElem?_eq_some_iff.mp hx).1
        refine ⟨_, rfl, x, rfl, pl x (List.mem_cons_of_mem _ (List.mem_of_getElem? hx)), fun m hL H5 t a b s5 na nb ht ha hb => ?_, fun hn => (k3 fun ms2 S2 hR => ?_).same (s03.trans s4)⟩
        · have hys5 := s5 _ _ hys
          have aD : a ≠ D := fun z => by rw [z, hys] at na; cases na
          have bD : b ≠ D := fun z => by rw [z, hys] at nb; cases nb
          have lq := Paired.length pq
          have le := congrArg List.length em
          rw [List.length_take, List.length_map] at le
          refine ⟨hys5, ?_, ms ++ [m], qs ++ [t], by rw [List.map_append]; rfl, upd_same, same_upd (s4.trans s5) hD, ?_, by rw [take_succ_at hx, em, hL.2, List.map_append]; rfl, fun y hy => ?_⟩
          · rw [List.length_map]
            lia
          · refine Paired.snoc (Paired.mapP pq fun m q ⟨l, g, h1, h2, h3, h4, h5⟩ => ⟨l, g, h1, h2, ?_, ?_, ?_⟩) ⟨a, b, aD, bD, ?_, ?_, ?_⟩
            · rw [upd_ne (ne_of (s5 _ _ h3) hys5 (fun z => nomatch z))]; exact s5 _ _ h3
            · rw [upd_ne h1]; exact s5 _ _ h4
            · rw [upd_ne h2]; exact s5 _ _ h5
            · rw [upd_ne (ne_of ht hys5 (fun z => nomatch z))]; exact ht
            · rw [upd_ne aD]; exact ha
            · rw [upd_ne bD]; exact hb
          · rcases List.mem_append.mp hy with z | z
            · exact hm y z
            · have : y = m := by simpa using z
              rw [this]; exact hL.1
        · have e := hR.eq
          rw [ep] at e
          have e2 := (List.cons.inj e).2
          rw [e2, List.getElem?_map] at hx
          cases em2 : ms2[i]? with
          | none => rw [em2] at hx; cases hx
          | some m =>
            rw [em2] at hx
            have ex : lineT m = x := by simpa using hx
            exact hn m ⟨hR.nm m (List.mem_of_getElem? em2), ex.symm⟩
      · rintro ys H4 ⟨ms, qs, rfl, hys, s4, pq, em, hm⟩
        rw [strs_length, List.take_length] at em
        have hR : Reads t ms S := ⟨hm, hS, by rw [ep, eS, em]⟩
        refine ⟨_, rfl, _, rfl, ?_⟩
        intro x dx nx ndx nex
        have sn : Same H4 (upd (upd H4 dx (.own x)) x (.ins C dx [])) := fun b o e => by
          rw [upd_ne (ne_of_none e nx), upd_ne (ne_of_none e ndx)]
          exact e
        have hq24 := (s3.trans s4) _ _ hq2
        have mv : MvsAt K (upd (upd H4 dx (.own x)) x (.ins C dx [])) D ms := ⟨qs, SqL.of (sn _ _ hys), Paired.mapP pq fun m q ⟨l, g, _, _, e1, e2, e3⟩ => ⟨l, g, sn _ _ e1, sn _ _ e2, sn _ _ e3⟩⟩
        cases hmk : mkNet ms S with
        | true =>
          refine .inl ⟨x, dx, D, q2, ms, S, rfl, upd_same, mv, SqL.of (sn _ _ hq24), hR.fits ht, hmk, fun H5 NA kp => ⟨rfl, ?_⟩⟩
          have s45 : Same H4 H5 := fun b o e => kp b o (sn b o e) (ne_of_none e nx)
          exact k1 ms S hR hmk H5 x (s03.trans (s4.trans s45)) ⟨NA, sound_of hmk⟩
        | false =>
          exact .inr ⟨x, dx, D, q2, ms, S, rfl, upd_same, mv, SqL.of (sn _ _ hq24), hR.fits ht, hmk, (k2 ms S hR hmk).same (s03.trans (s4.trans sn))⟩
    · refine ⟨_, rfl, _, "str", _, false, rfl, hty, hk, false, rfl, ?_⟩
      refine iteT ?_
      exact ⟨by simp, fun y hy => ⟨y, rfl, upd_same, rfl, y, CT, none, rfl, upd_same, XT.ec, hy, raised (fun _ _ e => e) hy k3⟩⟩
end
end Uf
end
/-! UfR3c -/
section
set_option Elab.async false
set_option linter.all false
set_option maxRecDepth 100000
set_option maxHeartbeats 4000000
namespace L2
open PySem PySem.Spec PyProof.Rows UfSrt
section
variable {X : Cx} {pins : List (Addr × Obj)} {σ : St} {H : Hp} {s : Shared}
theorem Inv.turnedNew {h' : Heap} {t' : Nat} {ch : List Addr} {T : Addr} {u : HO} (I : Inv X pins σ H s) (hch : ∀ b ∈ ch, FpOk X pins H b) (k : ∀ b o, b ∉ ch → s.heap.get? b = some o → h'.get? b = some o) (hT : s.heap.objs.size ≤ T)
    (new : ObjOk X.prog X.w (upd H T u) h' T u) : Inv X pins σ (upd H T u) { s with heap := h', toks := t' } := by
  have hn : H T = none := I.hok.fresh hT
  have nch : ∀ b v, H b = some v → b ∉ ch := fun b v e z => by rw [(hch b z).1] at e; cases e
  have nT : ∀ b o, s.heap.get? b = some o → b ≠ T := fun b o e => Nat.ne_of_lt (Nat.lt_of_lt_of_le (Heap.lt_size e) hT)
  refine I.step (g' := s.gens) (d' := s.drawn) (ch := ch) (fun b hb => ⟨(hch b hb).2.2.2.1, (hch b hb).2.1, (hch b hb).2.2.2.2.1, (hch b hb).2.2.2.2.2⟩) (fun b o _ _ hc e _ => k b o hc e) (fun b o _ _ hc e _ => ⟨o.slots, k b o hc e⟩) (fun b o _ e n => by rw [upd_ne (nT b o e)]; exact n)
    (fun b o hc e => ⟨o, k b o hc e⟩) (fun b xs e => by rw [upd_ne (ne_of_none e hn)]; exact e) (fun b o v e => by rw [upd_ne (ne_of_none e hn)]; exact e) (fun b ps e => ⟨#[], by rw [upd_ne (ne_of_none e hn), e]; simp⟩) (fun m hm => ?_) (fun b v e => ?_) I.bare
  · obtain ⟨o, es, ep, ho, r⟩ := hm
    exact ⟨o, es, ep, k _ o (fun z => (hch _ z).2.1 rfl) ho, r⟩
  · by_cases hb : b = T
    · subst hb
      rw [upd_same] at e
      cases e
      exact new
    · rw [upd_ne hb] at e
      refine (I.hok b v e).stay (fun c w hc q => k c w ?_ q) (fun c q => by rw [upd_ne (ne_of_none q hn)]; exact q) fun c xs q => by rw [upd_ne (ne_of_none q hn)]; exact q
      rcases hc with z | z
      · rw [z]; exact nch b v e
      · exact nch c _ z
end
def Ite (K : PySem.W.Frag) (l : Addr) : It :=
  ⟨fun i H => ∃ xs x, SqL K H l xs ∧ xs[i]? = some x, fun i H x H' => ∃ p v, x = .ref p ∧ H p = none ∧ H' = upd H p (.tup [.int (i : Int), v]) ∧ ∀ xs, SqL K H l xs → xs[i]? = some v, fun i H => ∃ xs, SqL K H l xs ∧ xs.length ≤ i⟩
theorem turn_enum {P : Program} {w : World} {K : PySem.W.Frag} {elts : List Expr} {x1} {pos : Pos} {l e it : Addr} (hne : e ≠ it) :
    Turn P w K (.Tuple elts x1 pos) (Ite K l) [e, it] e (fun i h => (∃ old, IsEnum h e it i old) ∧ h.IsListIter it l i) where
  mem := by simp
  obj := fun i h st b hb => by
    obtain ⟨⟨old, he⟩, o, e2, c, d⟩ := st
    rcases List.mem_cons.mp hb with z | hb
    · subst z
      exact ⟨_, he, fun v z => by
        have z' : Data.fields _ = Data.cell v := z
        cases z'⟩
    · have z : b = it := by simpa using hb
      subst z
      exact ⟨o, e2, fun v z => by rw [d] at z; cases z⟩
  keep := fun i h h' st k => ⟨let ⟨old, he⟩ := st.1; ⟨old, k e (by simp) _ he⟩, st.2.at fun o q => k it (by simp) o q⟩
  item := by
    intro X hP hw hK hc i pins s σ H E I hf st hg
    subst hP hw hK
    obtain ⟨xs, x, hq, hx⟩ := hg
    obtain ⟨its, rv, p, hz⟩ := I.list hq
    obtain ⟨u, hu, ru⟩ := rv.get hx
    obtain ⟨⟨old, he⟩, hit⟩ := st
    refine wpAny_pyNext_enum_item he hit p.isList (x := u) (by simpa using hu) hne fun h1 ho hit1 hT hsz hk => ?_
    refine ⟨.ref s.heap.objs.size, rfl, wpAny_letOwnedTupleGo_enum ho fun h2 he2 hs2 => ?_⟩
    have elt : e < s.heap.objs.size := Heap.lt_size he
    have ilt : it < s.heap.objs.size := by obtain ⟨_, y, _⟩ := hit; exact Heap.lt_size y
    have kk : ∀ b o, b ∉ [e, it] → s.heap.get? b = some o → h2.get? b = some o := fun b o hb q => by
      have n1 : b ≠ e := fun z => hb (by simp [z])
      have n2 : b ≠ it := fun z => hb (by simp [z])
      exact (hs2.2 b n1).trans (hk b o n1 n2 q)
    have hT2 : h2.get? s.heap.objs.size = some { cls := .type "tuple", data := .seq #[.int i s.toks, u] } := (hs2.2 _ (Nat.ne_of_gt elt)).trans hT
    have hn := I.hok.fresh (Nat.le_refl s.heap.objs.size)
    refine ⟨.ref s.heap.objs.size, upd H s.heap.objs.size (.tup [.int (i : Int), x]), I.turnedNew (t' := s.toks + 1) hf kk (Nat.le_refl _) ⟨by show 2 ≤ sizeLine; rw [sizeLine_eq]; decide, [.int i s.toks, u], .cons ⟨_, rfl⟩ (.cons ru .nil), _, hT2, rfl, _, rfl⟩, rfl, ⟨_, x, rfl, hn, rfl, fun ys hy => by rw [I.list_inj hy hq]; exact hx⟩, ⟨⟨_, by simpa using he2⟩, hit1.at fun o q => (hs2.2 it (Ne.symm hne)).trans q⟩, fun b hb => ?_⟩
    have nb : b ≠ s.heap.objs.size := by
      rcases List.mem_cons.mp hb with z | hb
      · rw [z]; exact Nat.ne_of_lt elt
      · have z : b = it := by simpa using hb
        rw [z]; exact Nat.ne_of_lt ilt
    rw [upd_ne nb]
    exact (hf b hb).1
  done := by
    intro X hP hw hK hc i pins s σ H E I hf st hg
    subst hP hw hK
    obtain ⟨xs, hq, hx⟩ := hg
    obtain ⟨its, rv, p, hz⟩ := I.list hq
    obtain ⟨⟨old, he⟩, hit⟩ := st
    obtain ⟨f0, f1, f2, f3, f4, f5⟩ := hf it (by simp)
    have hl := rv.length
    exact wpAny_pyNext_enum_end (I.ok.hd hc) he hit p.isList (by simp; lia) fun h' eb => ⟨rfl, I.turned (t' := s.toks) (fun b o hb e => eb b o hb e) f0 f1 f3 f4 f5⟩
  self := fun _ _ _ _ _ st h => let ⟨⟨_, he⟩, _⟩ := st; wpAny_pyIter_enum he h
section
variable {X : Cx} {elts : List Expr} {x1 : Nat} {tpos : Pos}
theorem boot_enumerate : bootBuiltins "enumerate" = some (.type "enumerate") := by decide +kernel
def iEnum (K : PySem.W.Frag) (ta : TA) : TI := fun σ H R => ta σ H fun vs H1 => ∃ l, vs = [.ref l] ∧ (∃ xs, SqL K H1 l xs) ∧ R (Ite K l) H1
theorem pi_enum {a : Expr} {ta : TA} {p pos : Pos} (hg : Gl X "enumerate") (hm : X.mg "enumerate" = none) (ha : PA X [a] ta) (hs : starEach [a] X.env = [(false, eval a X.env)] := by rfl) : PI X (.Tuple elts x1 tpos) (.Call (.Name "enumerate" p) [a] [] pos) (iEnum X.K ta) := by
  intro pins s σ H R I h
  refine Call_ (ld_blt I hg hm boot_enumerate (PyProof.Rows.callWith_type1 (thn (ha pos pins s σ H _ I h) fun us s1 ⟨vs, H1, I1, r1, q1⟩ => ?_) hs rfl))
  obtain ⟨l, e, ⟨xs, hq⟩, q⟩ := q1
  subst e
  cases r1 with
  | cons r rr =>
    cases rr
    cases r
    obtain ⟨its, rv, pl, hz⟩ := I1.list hq
    refine call_enumerate_list pl.isList fun h' he hit hsz hk => ?_
    refine wpAny_pyIter_enum he ?_
    have hne : s1.heap.objs.size + 1 ≠ s1.heap.objs.size := Nat.succ_ne_self _
    have I2 : Inv X pins σ H1 { s1 with heap := h' } := I1.kept (t' := s1.toks) hk
    refine ⟨s1.heap.objs.size + 1, [s1.heap.objs.size + 1, s1.heap.objs.size], _, _, H1, rfl, I2, turn_enum hne, ⟨⟨_, he⟩, hit⟩, fun b hb => ?_, q⟩
    have hb2 : s1.heap.objs.size ≤ b := by
      rcases List.mem_cons.mp hb with z | hb
      · rw [z]; exact Nat.le_succ _
      · have z : b = s1.heap.objs.size := by simpa using hb
        rw [z]; exact Nat.le_refl _
    exact I1.fpOk hb2 (I1.hok.fresh hb2)
end
theorem for_enum {K : PySem.W.Frag} {a : Addr} {xs : List V} {g : TG} {tb : TS} {D : Ends} {σ : St} {H : Hp} (Pv : Nat → St → Hp → Prop) (h0 : Pv 0 σ H) (hl : ∀ i σ H, i ≤ xs.length → Pv i σ H → SqL K H a xs)
    (hs : ∀ i x p σ H, xs[i]? = some x → Pv i σ H → H p = none → g (.ref p) σ (upd H p (.tup [.int (i : Int), x])) fun σ2 H2 => tb { D with nx := Pv (i + 1), ct := Pv (i + 1), bk := D.nx } σ2 H2) (hd : ∀ σ H, Pv xs.length σ H → D.nx σ H) :
    ∃ W : Nat → Nat → St → Hp → Prop, (∃ m, W 0 m σ H) ∧ ∀ i m σ H, W i m σ H →
      ((Ite K a).stop i H ∧ D.nx σ H) ∨ ((Ite K a).go i H ∧ ∃ N : St → Hp → Prop, (∀ σ' H', N σ' H' → ∃ m', m' < m ∧ W (i + 1) m' σ' H') ∧ ∀ x H', (Ite K a).yld i H x H' → g x σ H' fun σ2 H2 => tb { D with nx := N, ct := N, bk := D.nx } σ2 H2) := by
  refine ⟨fun i m σ H => m = xs.length - i ∧ i ≤ xs.length ∧ Pv i σ H, ⟨xs.length, by simp, Nat.zero_le _, h0⟩, ?_⟩
  rintro i m σ H ⟨rfl, hi, p⟩
  have q := hl i σ H hi p
  by_cases hlt : i < xs.length
  · refine .inr ⟨⟨xs, xs[i], q, by simp [hlt]⟩, Pv (i + 1), fun σ' H' p' => ⟨xs.length - (i + 1), by lia, rfl, hlt, p'⟩, fun x H' y => ?_⟩
    obtain ⟨pp, v, rfl, hn, rfl, hv⟩ := y
    exact hs i v pp σ _ (hv xs q) p hn
  · have e : i = xs.length := by lia
    subst e
    exact .inl ⟨⟨xs, q, Nat.le_refl _⟩, hd σ H p⟩
end L2
end
/-! UfR3d -/
section
set_option Elab.async false
set_option linter.all false
set_option maxRecDepth 100000
set_option maxHeartbeats 4000000
namespace UfRev
open PySem PySem.W PySem.Calls PyProof.Rows PyProof.V PySem.Spec
section
variable {prog : Program} {w : World} {A : Around} {E : Value → Shared → Prop} {s : Shared}
def RevP (items : Array Value) : Nat → Value → Prop := fun i v => items[items.size - 1 - i]? = some v
end
end UfRev
namespace L2
open PySem PySem.Spec PyProof.Rows UfSrt
section
variable {X : Cx}
def tListRev (K : PySem.W.Frag) (t : TA) : TE := fun σ H Q => t σ H fun vs H1 => ∃ l ys, vs = [.ref l] ∧ SqL K H1 l ys ∧ ∀ q, H1 q = none → Q (.ref q) (upd H1 q (.lst ys.reverse))
end
end L2
end
/-! UfY5 -/
section
set_option Elab.async false
set_option linter.all false
set_option maxRecDepth 100000
set_option maxHeartbeats 4000000
namespace Uf
open PySem L2 UfSrt UfFin
abbrev sCell : Stmt := top 39
abbrev sChoice : Stmt := top 40
abbrev sListed : Stmt := top 41
abbrev sBuilt : Stmt := top 42
abbrev sOdd : Stmt := top 43
abbrev sSpoiled : Stmt := top 44
abbrev sNamed : Stmt := top 45
abbrev sNamesOf : Stmt := top 46
abbrev sPartOf : Stmt := top 47
abbrev sBadNet : Stmt := top 48
abbrev sDue : Stmt := top 49
abbrev sSaid : Stmt := top 50
abbrev sLaw : Stmt := top 51
structure Txt2 (mg : Str → Option Value) : Prop where
  rng : mg "range" = none
  enm : mg "enumerate" = none
  any : mg "any" = none
  rev : mg "reversed" = none
  int : mg "int" = none
theorem atI_int {α : Type} {xs : List α} {i : Int} (d : α) (h0 : 0 ≤ i) (h1 : i < xs.length) : atI xs i = some (xs.getD i.toNat d) := by
  unfold atI ixN
  rw [if_pos h0, if_pos h1]
  show xs[i.toNat]? = _
  have h2 : i.toNat < xs.length := by lia
  rw [List.getElem?_eq_getElem h2, List.getD_eq_getElem?_getD, List.getElem?_eq_getElem h2]
  rfl
theorem getD_map {α β : Type} (f : α → β) (xs : List α) (i : Nat) (d : α) : (xs.map f).getD i (f d) = f (xs.getD i d) := by
  rw [List.getD_eq_getElem?_getD, List.getElem?_map, List.getD_eq_getElem?_getD]
  cases xs[i]? <;> rfl
theorem atI_txs {xs : List Str} {i : Int} (h0 : 0 ≤ i) (h1 : i < xs.length) : atI (txs xs) i = some (.str (xs.getD i.toNat "")) := by
  rw [atI_int (V.str "") h0 (by rw [strs_length]; exact h1)]
  unfold txs
  rw [getD_map V.str]
theorem atI_ints {xs : List Int} {i : Int} (h0 : 0 ≤ i) (h1 : i < xs.length) : atI (xs.map V.int) i = some (.int (xs.getD i.toNat 0)) := by
  rw [atI_int (V.int 0) h0 (by rw [List.length_map]; exact h1), getD_map V.int]
theorem erase_map {α β : Type} (f : α → β) : ∀ (l : List α) (k : Nat), (l.map f).eraseIdx k = (l.eraseIdx k).map f
  | [], k => by simp
  | a :: l, 0 => by simp
  | a :: l, k + 1 => by
    show f a :: (l.map f).eraseIdx k = f a :: (l.eraseIdx k).map f
    rw [erase_map f l k]
section
variable {P : Program} {w : World} {K : PySem.W.Frag} {mg : Str → Option Value} {base : Heap}
def spCell (K : PySem.W.Frag) : Sp := fun vs H Q _ => ∃ (a : Addr) (ns : List Int) (k : Nat), vs = [.ref a, .int k] ∧ SqL K H a (ns.map V.int) ∧ ns.length ≤ 63 ∧ Q (.int (ns.getD k 0)) H
theorem scCell : FnScope ["_law_script", "_law_k"] ["_law_script", "_law_k"] (defScope sCell) := ⟨rfl, rfl, rfl, by decide +kernel, rfl, by decide +kernel, by decide +kernel⟩
theorem ok_cell {f : Addr} {fd : FuncData} (F : Fun K "_law_cell_at" "_law_cell_at" sCell f fd) (T : Txt K mg) : FnOk P w K mg base CX0 1 f fd ["_law_script", "_law_k"] (spCell K) := by
  refine F.ok scCell (fun vs H Q E h => ?_) (fun cdv A outer s H vs Q E hr h => ?_)
  · obtain ⟨a, ns, k, rfl, _⟩ := h
    rfl
  · obtain ⟨a, ns, k, rfl, ha, hz, kk⟩ := h
    refine ⟨_, pss_cons (ps_if (pt_cmpR op_lt (pv 1) (pe_callB call_len rfl T.len b_len (pa_cons (pv 0) pa_nil)) (nomark _)) (pss_one (ps_ret (pe_ix ix_list (pv 0) (pv 1) (fun _ _ => rfl)))) pss_nil)
      (pss_one (ps_ret pe_int)), ?_⟩
    refine ⟨_, rfl, _, rfl, _, ns.length, rfl, .inl ⟨_, ha, by rw [List.length_map]⟩, _, _, rfl, rfl, _, rfl, ?_⟩
    by_cases h : k < ns.length
    · rw [decide_eq_true (show ((k : Nat) : Int) < ((ns.length : Nat) : Int) by lia)]
      refine iteT ?_
      refine ⟨_, rfl, _, rfl, a, _, _, _, rfl, rfl, ha, atI_ints (by lia) (by lia), ?_⟩
      exact kk
    · rw [decide_eq_false (show ¬ ((k : Nat) : Int) < ((ns.length : Nat) : Int) by lia)]
      refine iteF ?_
      have e : ns.getD k 0 = 0 := by rw [List.getD_eq_getElem?_getD, List.getElem?_eq_none (by lia)]; rfl
      rw [e] at kk
      exact kk
structure Chosen2 (L R : List Str) (many : Int) : Prop where
  sub : ∃ rest, (R ++ rest).Perm L
  le : (R.length : Int) ≤ max many 0
  some : 1 ≤ many → L ≠ [] → R ≠ []
  all : (L.length : Int) ≤ many → R.Perm L
def spChoice (K : PySem.W.Frag) : Sp := fun vs H Q _ => ∃ (a : Addr) (L : List Str) (num many : Int), vs = [.ref a, .int num, .int many] ∧ SqL K H a (txs L) ∧ L.length ≤ 200 ∧ ∀ H' q R, Same H H' → H q = none → H' q = some (.lst (txs R)) → Chosen2 L R many → Q (.ref q) H'
theorem scChoice : FnScope ["_law_pool", "_law_number", "_law_many", "_law_some", "_law_left"] ["_law_pool", "_law_number", "_law_many"] (defScope sChoice) := ⟨rfl, rfl, rfl, by decide +kernel, rfl, by decide +kernel, by decide +kernel⟩
theorem ok_choice {f : Addr} {fd : FuncData} (F : Fun K "_law_choice" "_law_choice" sChoice f fd) (T : Txt K mg) : FnOk P w K mg base CX0 1 f fd ["_law_pool", "_law_number", "_law_many"] (spChoice K) := by
  refine F.ok scChoice (fun vs H Q E h => ?_) (fun cdv A outer s H vs Q E hr h => ?_)
  · obtain ⟨a, L, num, many, rfl, _⟩ := h
    rfl
  · obtain ⟨a, L, num, many, rfl, ha, hz, kk⟩ := h
    have hsl := PySem.sizeLine_eq
    have hu : _ < cLine := hr.units0
    refine ⟨_, pss_cons (ps_set (i := 3) scChoice.nd rfl (Or.inl rfl) (pe_lst pa_nil))
      (pss_cons (ps_set (i := 4) scChoice.nd rfl (Or.inl rfl) (pe_callTy call_list_of rfl T.lst b_list (pa_cons (pv 0) pa_nil)))
      (pss_cons (ps_while PassesOwn.never (PW.pt (pw_and (pt_cmpR op_lt (pe_callB call_len rfl T.len b_len (pa_cons (pv 3) pa_nil)) (pv 2) (nomark _)) (pw_and1 (pt_cmpR ne_nil (pv 4) (pe_lst pa_nil) (nomark _)))))
        (pss_cons (ps_expr (pe_bm PySem.F.plainAttrs_list PySem.F.slot_list_append PySem.F.type_list_append mt_append (pv 3) (pa_cons (pe_bm PySem.F.plainAttrs_list PySem.F.slot_list_pop PySem.F.type_list_pop mt_popAt (pv 4) (pa_cons (pe_op op_mod (pv 1) (pe_callB call_len rfl T.len b_len (pa_cons (pv 4) pa_nil))) pa_nil)) pa_nil)))
        (pss_one (ps_set (i := 1) scChoice.nd rfl (Or.inl rfl) (pe_op op_fdiv (pv 1) (pe_op op_add (pe_callB call_len rfl T.len b_len (pa_cons (pv 4) pa_nil)) pe_int))))))
      (pss_one (ps_ret (pv 3))))), ?_⟩
    clear hu
    dsimp only [cxOf, Cx.nox]
    refine ⟨Nat.zero_le _, fun r nr => ?_⟩
    have s1 : Same H (upd H r (.lst [])) := same_new nr
    refine ⟨_, rfl, a, txs L, rfl, .inl (s1.seq ha), fun l nl => ?_⟩
    have s2 := s1.trans (same_new (o := .lst (txs L)) nl)
    have nrl : r ≠ l := ne_of_none upd_same nl
    have nl0 : H l = none := s1.free nl
    refine ⟨fun m σ H2 => ∃ (num : Int) (R Lf : List Str), m = Lf.length ∧ σ = [some (.ref a), some (.int num), some (.int many), some (.ref r), some (.ref l)] ∧ Same H H2 ∧ H2 r = some (.lst (txs R)) ∧ H2 l = some (.lst (txs Lf)) ∧ (R ++ Lf).Perm L ∧ (R.length : Int) ≤ max many 0,
      ⟨_, num, [], L, rfl, rfl, s2, by rw [upd_ne nrl]; exact upd_same, upd_same, .refl _, by simp; lia⟩, ?_⟩
    rintro m σ H2 ⟨num, R, Lf, em, rfl, sm, hr2, hl2, hp, hle⟩
    have hlen := hp.length_eq
    rw [List.length_append] at hlen
    have fin : ¬ (R.length : Int) < many → (1 ≤ many → L ≠ [] → R ≠ []) → Q (.ref r) H2 := fun hc hs => kk H2 r R sm nr hr2 ⟨⟨Lf, hp⟩, hle, hs, fun hb => by
      have e : Lf = [] := List.eq_nil_of_length_eq_zero (by lia)
      rw [e, List.append_nil] at hp
      exact hp⟩
    refine ⟨_, rfl, _, R.length, rfl, .inl ⟨_, SqL.of hr2, (strs_length R).symm⟩, _, rfl, _, _, rfl, rfl, _, rfl, ?_⟩
    by_cases c1 : (R.length : Int) < many
    · rw [decide_eq_true c1]
      refine iteT ?_
      refine ⟨_, rfl, Nat.zero_le _, fun e ne => ?_⟩
      have s3 : Same H2 (upd H2 e (.lst [])) := same_new ne
      refine ⟨l, e, _, rfl, rfl, hr.units0, SqL.of (s3 _ _ hl2), SqL.of upd_same, _, rfl, ?_⟩
      by_cases c2 : Lf = []
      · subst c2
        refine iteF ?_
        refine ⟨_, rfl, kk _ r R (sm.trans s3) nr (s3 _ _ hr2) ⟨⟨[], hp⟩, hle, (fun _ hL hR => hL ?_), fun _ => by rw [List.append_nil] at hp; exact hp⟩⟩
        subst hR
        have := hp.length_eq
        exact List.eq_nil_of_length_eq_zero (by simpa using this.symm)
      · have pos : 0 < Lf.length := List.length_pos_iff.mpr c2
        have e1 : (!(txs Lf).isEmpty) = true := by
          cases Lf with
          | nil => exact absurd rfl c2
          | cons _ _ => rfl
        rw [e1]
        refine iteT ?_
        refine ⟨fun σ' H' => ∃ m', m' < m ∧ ∃ (num : Int) (R Lf : List Str), m' = Lf.length ∧ σ' = [some (.ref a), some (.int num), some (.int many), some (.ref r), some (.ref l)] ∧ Same H H' ∧ H' r = some (.lst (txs R)) ∧ H' l = some (.lst (txs Lf)) ∧ (R ++ Lf).Perm L ∧ (R.length : Int) ≤ max many 0,
          fun σ' H' h => h, ?_⟩
        have hr3 := s3 _ _ hr2
        have hl3 := s3 _ _ hl2
        have sm3 := sm.trans s3
        generalize upd H2 e (.lst []) = H3 at s3 hr3 hl3 sm3 ⊢
        have i0 : 0 ≤ num % (Lf.length : Int) := Int.emod_nonneg _ (by lia)
        have i1 : num % (Lf.length : Int) < (Lf.length : Int) := Int.emod_lt_of_pos _ (by lia)
        have i2 : (num % (Lf.length : Int)).toNat < Lf.length := by lia
        have eg : (txs Lf)[(num % (Lf.length : Int)).toNat]? = some (V.str (Lf[(num % (Lf.length : Int)).toNat])) := by
          unfold txs
          rw [List.getElem?_map, List.getElem?_eq_getElem i2]
          rfl
        refine ⟨_, rfl, .inl ⟨rfl, _, SqL.of hr3⟩, _, rfl, .inl ⟨rfl, _, SqL.of hl3⟩, _, rfl, _, rfl, _, Lf.length, rfl, .inl ⟨_, SqL.of hl3, (strs_length Lf).symm⟩, _, _, rfl, rfl, (by lia), l, _, _, _, _, rfl, rfl, hl3, (by lia), (by lia), (by rw [strs_length]; exact seqIndex_of i0 i1), eg, ?_⟩
        refine ⟨r, txs R, _, rfl, rfl, (by rw [upd_ne nrl]; exact hr3), (by rw [strs_length]; lia), ?_⟩
        have hl4 : (upd (upd H3 l (.lst ((txs Lf).eraseIdx (num % (Lf.length : Int)).toNat))) r (.lst (txs R ++ [V.str (Lf[(num % (Lf.length : Int)).toNat])]))) l = some (.lst (txs (Lf.eraseIdx (num % (Lf.length : Int)).toNat))) := by
          rw [upd_ne nrl.symm, upd_same]
          unfold txs
          rw [erase_map]
        have ll : (Lf.eraseIdx (num % (Lf.length : Int)).toNat).length = Lf.length - 1 := by rw [List.length_eraseIdx, if_pos i2]
        refine ⟨_, rfl, _, rfl, _, _, rfl, .inl ⟨_, SqL.of hl4, (strs_length _).symm⟩, _, _, rfl, rfl, _, _, rfl, rfl, ⟨by lia, by rw [ll]; lia⟩, ?_⟩
        refine ⟨Lf.length - 1, by lia, _, R ++ [Lf[(num % (Lf.length : Int)).toNat]], Lf.eraseIdx (num % (Lf.length : Int)).toNat, ll.symm, rfl, same_upd (same_upd sm3 nl0) nr, ?_, hl4, ?_, ?_⟩
        · rw [upd_same]
          unfold txs
          rw [List.map_append]
          rfl
        · rw [List.append_assoc]
          exact ((UfSet.erase_perm Lf _ i2).append_left R).trans hp
        · rw [List.length_append]
          simp
          lia
    · rw [decide_eq_false c1]
      refine iteF ?_
      refine iteF ?_
      refine ⟨_, rfl, fin c1 fun h1 _ hR => ?_⟩
      subst hR
      simp at c1
      lia
def spListed (K : PySem.W.Frag) : Sp := fun vs H Q _ => ∃ (a : Addr) (xs : List Str), vs = [.ref a] ∧ SqL K H a (txs xs) ∧ (∀ x ∈ xs, x.length ≤ 8) ∧ xs.length ≤ 40 ∧ ∀ H', Same H H' → Q (.str (lstT xs)) H'
theorem scListed : FnScope ["_law_names"] ["_law_names"] (defScope sListed) := ⟨rfl, rfl, rfl, by decide +kernel, rfl, by decide +kernel, by decide +kernel⟩
theorem ok_listed {f : Addr} {fd : FuncData} (F : Fun K "_law_listed" "_law_listed" sListed f fd) : FnOk P w K mg base CX0 1 f fd ["_law_names"] (spListed K) := by
  refine F.ok scListed (fun vs H Q E h => ?_) (fun cdv A outer s H vs Q E hr h => ?_)
  · obtain ⟨a, xs, rfl, _⟩ := h
    rfl
  · obtain ⟨a, xs, rfl, ha, hx, hz, k⟩ := h
    have hsl := PySem.sizeLine_eq
    refine ⟨_, pss_one (ps_ret (pe_bm PySem.F.plainAttrs_str PySem.F.slot_str_join PySem.F.type_str_join mt_join pe_str (pa_cons (pe_comp (N := ["_law_name"]) (n := 1) (ci := []) rfl (pi_list (pv 0))
        (CSc.of (so := defScope sListed) (N0 := ["_law_names"]) ⟨rfl, by decide +kernel, by decide +kernel, by decide +kernel, rfl, rfl, by decide +kernel, by decide +kernel⟩)
        (fun z => ⟨pg_name (i := 0) (nd_of (N := ["_law_name"]) (by decide +kernel)) rfl (Or.inl rfl), pts_nil, pe_op op_add_str pe_str (pv 0)⟩)) pa_nil))), ?_⟩
    refine ⟨rfl, _, rfl, a, rfl, ⟨_, ha⟩, fun z D hD => comp_list (a := a) (xs := txs xs) (fun i ys H2 => ys = txs ((xs.take i).map fun x => (" " : Str) ++ x) ∧ H2 D = some (.lst ys) ∧ Same H H2) ⟨rfl, upd_same, same_new hD⟩ (fun i ys H2 _ p => p.2.2.seq ha) ?_ ?_⟩
    · rintro i v ys H2 hi ⟨rfl, hys, sm⟩
      obtain ⟨x, hxi, rfl⟩ := txs_get hi
      have hil := (List.getElem?_eq_some_iff.mp hxi).1
      have l8 := hx x (List.mem_of_getElem? hxi)
      refine ⟨_, rfl, _, _, rfl, rfl, (by rw [l_blank]; lia), hys, ?_, ?_, upd_same, same_upd sm hD⟩
      · rw [strs_length, List.length_map, List.length_take]
        lia
      · rw [take_succ_at hxi, List.map_append]
        unfold txs
        rw [List.map_append]
        rfl
    · rintro ys H2 ⟨rfl, hys, sm⟩
      rw [strs_length, List.take_length] at hys
      refine ⟨"", D, _, rfl, rfl, SqL.of hys, join_ok (n := 9) (fun x h => ?_) ?_, k H2 sm⟩
      · obtain ⟨y, hy, rfl⟩ := List.mem_map.mp h
        have := hx y hy
        rw [len_app, l_blank]
        lia
      · rw [List.length_map, show ("" : Str).length = 0 by decide +kernel]
        have : xs.length * (9 + 0) ≤ 40 * (9 + 0) := Nat.mul_le_mul_right _ hz
        lia
end
end Uf
end
/-! UfY6 -/
section
set_option Elab.async false
set_option linter.all false
set_option maxRecDepth 100000
set_option maxHeartbeats 4000000
namespace L2
open PySem PySem.Spec PyProof.Rows UfSrt Uf
section
variable {X : Cx}
def rFind : V → List V → Hp → VK → Prop := fun x vs H Q => (∃ z y : Str, x = .str z ∧ vs = [.str y] ∧ Q (.int (findF z y 0)) H) ∨ ∃ (z y : Str) (a : Nat), x = .str z ∧ vs = [.str y, .int (a : Int)] ∧ Q (.int (findF z y a)) H
theorem mt_find : MtM X "str.find" rFind := by
  intro pins s σ H x vs v us Q I rx rv h
  rcases h with ⟨z, y, rfl, rfl, q⟩ | ⟨z, y, a, rfl, rfl, q⟩
  · obtain ⟨t, rfl⟩ := rx
    obtain ⟨u, rfl, ru⟩ := rv.one
    obtain ⟨t', rfl⟩ := ru
    exact SC.find ⟨.int _, H, I.tok _, ⟨_, rfl⟩, q⟩
  · obtain ⟨t, rfl⟩ := rx
    cases rv with
    | cons r0 r1 =>
      cases r1 with
      | cons r2 r3 =>
        cases r3
        obtain ⟨t0, rfl⟩ := r0
        obtain ⟨t2, rfl⟩ := r2
        refine SC.find3 ⟨.int _, H, I.tok _, ⟨_, rfl⟩, ?_⟩
        have e : Txt.find3 z y (a : Int) = findF z y a := by
          unfold Txt.find3 findF fromIndex
          have : (max 0 (if ((a : Nat) : Int) < 0 then ((a : Nat) : Int) + (z.length : Int) else ((a : Nat) : Int))).toNat = a := by
            split <;> lia
          rw [this]
          cases Builtin.Str.occurrences z y a z.length 1 <;> rfl
        rw [e]
        exact q
end
end L2
namespace Uf
open PySem L2 UfSrt UfStr PySem.Builtin PySem.Builtin.Str PySem.StrLaws
section
variable {P : Program} {w : World} {K : PySem.W.Frag} {mg : PySem.Str → Option Value} {base : Heap}
theorem scNamed : FnScope ["_law_word"] ["_law_word"] (defScope sNamed) := ⟨rfl, rfl, rfl, by decide +kernel, rfl, by decide +kernel, by decide +kernel⟩
theorem ok_named {f : Addr} {fd : FuncData} (F : Fun K "_law_is_named" "_law_is_named" sNamed f fd) (T : Txt K mg) : FnOk P w K mg base CX0 1 f fd ["_law_word"] spIsName := by
  refine F.ok scNamed (fun vs H Q E h => ?_) (fun cdv A outer s H vs Q E hr h => ?_)
  · obtain ⟨x, rfl, _⟩ := h
    rfl
  · obtain ⟨x, rfl, hz, k⟩ := h
    have hsl := PySem.sizeLine_eq
    refine ⟨_, pss_one (ps_ret (pe_and (pe_chain op_lt op_lt pe_int (pe_callB call_len rfl T.len b_len (pa_cons (pv 0) pa_nil)) pe_int) (pe_one (pe_cmpR eq_nil (pe_comp (N := ["_law_sign"]) (n := 1) (ci := []) rfl (pi_str (pv 0)) (CSc.of (so := defScope sNamed) (N0 := ["_law_word"]) ⟨rfl, by decide +kernel, by decide +kernel, by decide +kernel, rfl, rfl, by decide +kernel, by decide +kernel⟩)
        (fun z => ⟨pg_name (i := 0) (nd_of (N := ["_law_sign"]) (by decide +kernel)) rfl (Or.inl rfl), pts_one (pt_cmpR op_notIn_str (pv 0) pe_str (by with_unfolding_all rfl)), pv 0⟩)) (pe_lst pa_nil) (nomark _))))), ?_⟩
    have hs : x.length ≤ sizeLine := by lia
    refine ⟨_, rfl, _, x.length, rfl, ⟨hs, rfl⟩, 0, _, rfl, rfl, _, rfl, ?_⟩
    by_cases h1 : 1 ≤ x.length
    · rw [decide_eq_true (show (0 : Int) < (x.length : Int) by lia)]
      refine iteT ?_
      refine ⟨_, _, rfl, rfl, _, rfl, ?_⟩
      by_cases h8 : x.length ≤ 8
      · rw [decide_eq_true (show (x.length : Int) < 9 by lia)]
        refine iteT ?_
        refine ⟨_, rfl, x, rfl, fun z D hD => comp_str (fun i ys H2 => ys = ((x.cps.toList.take i).filter (fun c => !decide (c ∈ abc.cps.toList))).map sign ∧ H2 D = some (.lst ys) ∧ Same H H2) ⟨rfl, upd_same, same_new hD⟩ ?_ ?_⟩
        · rintro i c ys H2 hc ⟨rfl, hys, sm⟩
          refine ⟨_, rfl, ⟨#[c]⟩, abc, rfl, rfl, _, rfl, ?_⟩
          have ht := take_succ_at (l := x.cps.toList) (by rw [Array.getElem?_toList]; exact hc)
          rw [PySem.StrLaws.found_one]
          by_cases hm : c ∈ abc.cps.toList
          · rw [decide_eq_true hm]
            refine iteF ?_
            refine ⟨?_, hys, sm⟩
            rw [ht, List.filter_append, List.map_append, List.filter_cons, decide_eq_true hm]
            simp only [Bool.not_true, Bool.false_eq_true, if_false, List.filter_nil, List.map_nil, List.append_nil]
          · rw [decide_eq_false hm]
            refine iteT ?_
            refine ⟨_, rfl, hys, ?_, ?_, upd_same, same_upd sm hD⟩
            · rw [List.length_map]
              refine Nat.lt_of_le_of_lt (List.length_filter_le _ _) ?_
              rw [List.length_take, Array.length_toList]
              have : x.cps.size ≤ 8 := h8
              lia
            · rw [ht, List.filter_append, List.map_append, List.filter_cons, decide_eq_false hm]
              simp only [Bool.not_false, if_true, List.filter_nil]
              rfl
        · rintro ys H2 ⟨rfl, hys, sm⟩
          rw [List.take_of_length_le (by simp)] at hys
          refine ⟨Nat.zero_le _, fun e ne => ?_⟩
          have s3 : Same H2 (upd H2 e (.lst [])) := same_new ne
          refine ⟨D, e, _, rfl, rfl, hr.units0, SqL.of (s3 _ _ hys), SqL.of upd_same, ?_⟩
          have e1 : ((x.cps.toList.filter (fun c => !decide (c ∈ abc.cps.toList))).map sign).isEmpty = isNm x := by
            unfold isNm
            rw [decide_eq_true h1, decide_eq_true h8, Bool.eq_iff_iff, List.isEmpty_iff, List.map_eq_nil_iff, List.filter_eq_nil_iff, Bool.true_and, Bool.true_and, List.all_eq_true]
            refine ⟨fun h c hc => ?_, fun h c hc => ?_⟩
            · have := h c hc
              rw [Bool.not_eq_true', Bool.not_eq_false] at this
              exact this
            · rw [h c hc]
              decide
          rw [e1]
          exact k _ (sm.trans s3)
      · rw [decide_eq_false (show ¬ (x.length : Int) < 9 by lia)]
        refine iteF ?_
        have e : isNm x = false := by unfold isNm; rw [decide_eq_false h8]; simp
        rw [e] at k
        exact k H fun _ _ z => z
    · rw [decide_eq_false (show ¬ (0 : Int) < (x.length : Int) by lia)]
      refine iteF ?_
      refine ⟨_, rfl, ?_⟩
      refine iteF ?_
      have e : isNm x = false := by unfold isNm; rw [decide_eq_false h1]; simp
      rw [e] at k
      exact k H fun _ _ z => z
def spNamesOf : Sp := fun vs H Q _ => ∃ t : PySem.Str, vs = [.str t] ∧ t.length ≤ 1000 ∧ (∀ xs, NamesOf t xs → ∀ H' q, Same H H' → H q = none → H' q = some (.lst (txs xs)) → Q (.ref q) H') ∧ ((∀ xs, ¬ NamesOf t xs) → ∀ H', Same H H' → Q .non H')
theorem scNamesOf : FnScope ["_law_text", "_law_words"] ["_law_text"] (defScope sNamesOf) := ⟨rfl, rfl, rfl, by decide +kernel, rfl, by decide +kernel, by decide +kernel⟩
theorem ok_namesOf {f fN : Addr} {fd fdN : FuncData} (F : Fun K "_law_names_of" "_law_names_of" sNamesOf f fd) (T : Txt K mg) (DN : Def K mg "_law_is_named" sNamed ["_law_word"] fN fdN) (GN : FnOk P w K mg base CX0 1 fN fdN ["_law_word"] spIsName) : FnOk P w K mg base CX0 2 f fd ["_law_text"] spNamesOf := by
  refine F.ok scNamesOf (fun vs H Q E h => ?_) (fun cdv A outer s H vs Q E hr h => ?_)
  · obtain ⟨t, rfl, _⟩ := h
    rfl
  · obtain ⟨t, rfl, hl, k1, k2⟩ := h
    have hsl := PySem.sizeLine_eq
    refine ⟨_, pss_cons (ps_set (i := 1) scNamesOf.nd rfl (Or.inl rfl) (pe_bm PySem.F.plainAttrs_str PySem.F.slot_str_split PySem.F.type_str_split mt_split (pv 0) (pa_cons pe_str pa_nil)))
      (pss_cons (ps_if (pt_cmpR op_eq (pv 0) pe_str (nomark _)) (pss_one (ps_ret (pe_lst pa_nil))) pss_nil)
      (pss_cons (ps_if (PW.pt (pw_or (pt_cmpR op_ne (pe_ix ix_list (pv 1) pe_int (fun _ _ => rfl)) pe_str (nomark _)) (pw_or1 (pt_not (pt_val (pe_callB (call_all rfl) rfl T.all b_all (pa_cons (pe_comp (N := ["_law_word"]) (n := 1) (ci := []) rfl (pi_list (pe_slice sl_list (pv 1) (po_some pe_int) po_none))
        (CSc.of (so := defScope sNamesOf) (N0 := ["_law_text", "_law_words"]) ⟨rfl, by decide +kernel, by decide +kernel, by decide +kernel, rfl, rfl, by decide +kernel, by decide +kernel⟩)
        (fun z => ⟨pg_name (i := 0) (nd_of (N := ["_law_word"]) (by decide +kernel)) rfl (Or.inl rfl), pts_nil, pe_call GN hr rfl DN.mg DN.fn.kp DN.bd .nil pass0 (pa_cons (pv 0) pa_nil)⟩)) pa_nil))))))) (pss_one (ps_ret pe_non)) pss_nil)
      (pss_one (ps_ret (pe_slice sl_list (pv 1) (po_some pe_int) po_none))))), ?_⟩
    obtain ⟨w0, ws, W⟩ := words_of t
    have wl := W.len
    rw [List.length_cons] at wl
    refine ⟨_, rfl, rfl, _, _, rfl, rfl, by rw [l_blank]; lia, by lia, fun q n => ?_⟩
    rw [W.eq]
    have s1 : Same H (upd H q (.lst (txs (w0 :: ws)))) := same_new n
    have hq : (upd H q (.lst (txs (w0 :: ws)))) q = some (.lst (txs (w0 :: ws))) := upd_same
    generalize upd H q (.lst (txs (w0 :: ws))) = H1 at s1 hq ⊢
    refine ⟨_, rfl, rfl, _, rfl, ?_⟩
    by_cases ct : t = ""
    · rw [decide_eq_true (show V.str t = V.str "" by rw [ct])]
      refine iteT ?_
      refine ⟨Nat.zero_le _, fun q2 n2 => ?_⟩
      exact k1 [] (by rw [ct]; exact namesOf_none) _ q2 (s1.trans (same_new n2)) (s1.free n2) upd_same
    rw [decide_eq_false (show ¬ V.str t = V.str "" by simp [ct])]
    refine iteF ?_
    refine ⟨_, rfl, q, _, 0, _, rfl, rfl, SqL.of hq, atI_nat (j := 0) rfl, rfl, _, rfl, ?_⟩
    by_cases c0 : w0 = ""
    · subst c0
      rw [show (!decide (V.str ("" : PySem.Str) = V.str ("" : PySem.Str))) = false by simp]
      refine iteF ?_
      have ec : cutV (txs (("" : PySem.Str) :: ws)) (some (1 : Int)) none = txs ws := cut_hi _ 1 (by rw [strs_length]; simp)
      refine ⟨_, rfl, _, rfl, q, _, rfl, SqL.of hq, fun q2 n2 => ?_⟩
      rw [ec]
      have s2 : Same H1 (upd H1 q2 (.lst (txs ws))) := same_new n2
      have hq2 : (upd H1 q2 (.lst (txs ws))) q2 = some (.lst (txs ws)) := upd_same
      generalize upd H1 q2 (.lst (txs ws)) = H2 at s2 hq2 ⊢
      refine ⟨q2, rfl, ⟨_, SqL.of hq2⟩, fun z D hD => comp_list (a := q2) (xs := txs ws) (fun i ys H3 => ys = ((ws.take i).map fun x => V.bl (isNm x)) ∧ H3 D = some (.lst ys) ∧ Same H2 H3) ⟨rfl, upd_same, same_new hD⟩ (fun i ys H3 _ p => SqL.of (p.2.2 _ _ hq2)) ?_ ?_⟩
      · rintro i v ys H3 hi ⟨rfl, hys, sm⟩
        obtain ⟨x, hxi, rfl⟩ := txs_get hi
        have hil := (List.getElem?_eq_some_iff.mp hxi).1
        refine ⟨_, rfl, x, rfl, Nat.le_trans (W.le x (List.mem_cons_of_mem _ (List.mem_of_getElem? hxi))) hl, fun H4 s4 => ?_⟩
        refine ⟨s4 _ _ hys, ?_, ?_, upd_same, same_upd (sm.trans s4) hD⟩
        · rw [List.length_map, List.length_take]
          lia
        · rw [take_succ_at hxi, List.map_append]
          rfl
      · rintro ys H3 ⟨rfl, hys, sm⟩
        rw [strs_length, List.take_length] at hys
        refine ⟨D, ws.map isNm, rfl, SqL.of (by rw [hys, List.map_map]; rfl), _, rfl, ?_⟩
        have s03 := s1.trans (s2.trans sm)
        by_cases c : ∀ x ∈ ws, isNm x = true
        · rw [show (ws.map isNm).all id = true by rw [List.all_map, List.all_eq_true]; exact c]
          refine iteF ?_
          refine ⟨_, rfl, _, rfl, q, _, rfl, SqL.of ((s2.trans sm) _ _ hq), fun q4 n4 => ?_⟩
          rw [ec]
          exact k1 ws (namesOf_words W.eq c) _ q4 (s03.trans (same_new n4)) (s03.free n4) upd_same
        · rw [show (ws.map isNm).all id = false by
            rw [List.all_map]
            cases e : ws.all (id ∘ isNm) with
            | false => rfl
            | true => exact absurd (fun x hx => List.all_eq_true.mp e x hx) c]
          refine iteT ?_
          refine k2 (fun xs hx => c ?_) H3 s03
          have e := words_namesOf hx
          rw [W.eq] at e
          rw [(List.cons.inj e).2]
          exact hx.1
    · rw [show (!decide (V.str w0 = V.str ("" : PySem.Str))) = true by simp [c0]]
      refine iteT ?_
      refine iteT ?_
      refine k2 (fun xs hx => c0 ?_) H1 s1
      have e := words_namesOf hx
      rw [W.eq] at e
      exact (List.cons.inj e).1
end
end Uf
end
/-! UfY7 -/
section
set_option Elab.async false
set_option linter.all false
set_option maxRecDepth 100000
set_option maxHeartbeats 4000000
namespace Uf
open PySem L2 UfSrt UfStr PySem.Builtin PySem.Builtin.Str PySem.StrLaws
section
variable {P : Program} {w : World} {K : PySem.W.Frag} {mg : PySem.Str → Option Value} {base : Heap}
def spPartOf : Sp := fun vs H Q _ => ∃ p : PySem.Str, vs = [.str p] ∧ p.length ≤ 1000 ∧ (∀ m, Line p m → ∀ H' t a b, Same H H' → H t = none → H a = none → H b = none → H' t = some (.tup [.str m.1, .ref a, .ref b]) → H' a = some (.lst (txs m.2.1)) → H' b = some (.lst (txs m.2.2)) → Q (.ref t) H') ∧ ((∀ m, ¬ Line p m) → ∀ H', Same H H' → Q .non H')
theorem scPartOf : FnScope ["_law_part", "_law_at", "_law_sign", "_law_takes", "_law_gives"] ["_law_part"] (defScope sPartOf) := ⟨rfl, rfl, rfl, by decide +kernel, rfl, by decide +kernel, by decide +kernel⟩
theorem sub_le (p : PySem.Str) (a b : Nat) : (strSub p a b).length ≤ p.length := by
  rw [UfStr.len_codes, strSub_toList, List.length_take, List.length_drop, UfStr.len_codes]
  lia
theorem ok_partOf {f fN fO : Addr} {fd fdN fdO : FuncData} (F : Fun K "_law_part_of" "_law_part_of" sPartOf f fd) (DN : Def K mg "_law_is_named" sNamed ["_law_word"] fN fdN) (GN : FnOk P w K mg base CX0 1 fN fdN ["_law_word"] spIsName)
    (DO : Def K mg "_law_names_of" sNamesOf ["_law_text"] fO fdO) (GO : FnOk P w K mg base CX0 2 fO fdO ["_law_text"] spNamesOf) : FnOk P w K mg base CX0 3 f fd ["_law_part"] spPartOf := by
  refine F.ok scPartOf (fun vs H Q E h => ?_) (fun cdv A outer s H vs Q E hr h => ?_)
  · obtain ⟨p, rfl, _⟩ := h
    rfl
  · obtain ⟨p, rfl, hl, k1, k2⟩ := h
    have hsl := PySem.sizeLine_eq
    have hr1 : Room 1 _ := hr.mono (by decide)
    refine ⟨_, pss_cons (ps_set (i := 1) scPartOf.nd rfl (Or.inl rfl) (pe_bm PySem.F.plainAttrs_str PySem.F.slot_str_find PySem.F.type_str_find mt_find (pv 0) (pa_cons pe_str pa_nil)))
      (pss_cons (ps_set (i := 2) scPartOf.nd rfl (Or.inl rfl) (pe_bm PySem.F.plainAttrs_str PySem.F.slot_str_find PySem.F.type_str_find mt_find (pv 0) (pa_cons pe_str (pa_cons (pe_op op_add (pv 1) pe_int) pa_nil))))
      (pss_cons (ps_if (PW.pt (pw_or (pt_cmpR op_lt (pv 1) pe_int (nomark _)) (pw_or (pt_cmpR op_lt (pv 2) pe_int (nomark _)) (pw_or1 (pt_not (pt_val (pe_call GN hr1 rfl DN.mg DN.fn.kp DN.bd .nil pass0 (pa_cons (pe_slice sl_str (pv 0) po_none (po_some (pv 1))) pa_nil)))))))) (pss_one (ps_ret pe_non)) pss_nil)
      (pss_cons (ps_set (i := 3) scPartOf.nd rfl (Or.inl rfl) (pe_call GO hr rfl DO.mg DO.fn.kp DO.bd .nil pass0 (pa_cons (pe_slice sl_str (pv 0) (po_some (pe_op op_add (pv 1) pe_int)) (po_some (pv 2))) pa_nil)))
      (pss_cons (ps_set (i := 4) scPartOf.nd rfl (Or.inl rfl) (pe_call GO hr rfl DO.mg DO.fn.kp DO.bd .nil pass0 (pa_cons (pe_slice sl_str (pv 0) (po_some (pe_op op_add (pv 2) pe_int)) po_none) pa_nil)))
      (pss_cons (ps_if (PW.pt (pw_or (pt_cmpR op_isN (pv 3) pe_non (nomark _)) (pw_or1 (pt_cmpR op_isN (pv 4) pe_non (nomark _))))) (pss_one (ps_ret pe_non)) pss_nil)
      (pss_one (ps_ret (pe_tup (pa_cons (pe_slice sl_str (pv 0) po_none (po_some (pv 1))) (pa_cons (pv 3) (pa_cons (pv 4) pa_nil))))))))))), ?_⟩
    refine ⟨_, rfl, rfl, .inl ⟨p, ":", rfl, rfl, ?_⟩⟩
    rcases find_first p ":" 0 with ⟨e1, n1⟩ | ⟨k, e1, _, hk, _⟩
    · rw [e1]
      refine ⟨_, rfl, rfl, _, rfl, _, _, rfl, rfl, .inr ⟨p, " >", 0, rfl, rfl, ?_⟩⟩
      refine ⟨_, rfl, _, _, rfl, rfl, _, rfl, ?_⟩
      refine iteT ?_
      refine iteT ?_
      refine k2 (fun m hm => ?_) H fun _ _ z => z
      have := (line_law hm).1
      rw [e1] at this
      lia
    · rw [e1]
      refine ⟨_, rfl, rfl, _, rfl, _, _, rfl, rfl, .inr ⟨p, " >", k + 1, rfl, rfl, ?_⟩⟩
      have mk : ∀ {m}, Line p m → m.1.length = k := fun {m} hm => by
        have := (line_law hm).1
        rw [e1] at this
        lia
      refine ⟨_, rfl, _, _, rfl, rfl, _, rfl, ?_⟩
      rw [decide_eq_false (show ¬ ((k : Nat) : Int) < 0 by lia)]
      refine iteF ?_
      refine ⟨_, rfl, _, _, rfl, rfl, _, rfl, ?_⟩
      rcases find_first p " >" (k + 1) with ⟨e2, n2⟩ | ⟨j, e2, hj, hj2, _⟩
      · rw [e2]
        refine iteT ?_
        refine iteT ?_
        refine k2 (fun m hm => ?_) H fun _ _ z => z
        have h2 := (line_law hm).2.1
        rw [mk hm, e2] at h2
        lia
      · rw [e2, decide_eq_false (show ¬ ((j : Nat) : Int) < 0 by lia)]
        refine iteF ?_
        have lk : k + 1 ≤ p.length := hk.1
        have lj : j + 2 ≤ p.length := hj2.1
        have sl1 : Txt.slice p none (some ((k : Nat) : Int)) = strSub p 0 k := slice_lo p (by lia)
        have sl2 : Txt.slice p (some (((k : Nat) : Int) + 1)) (some ((j : Nat) : Int)) = strSub p (k + 1) j := slice_sub p hj (by lia)
        have sl3 : Txt.slice p (some (((j : Nat) : Int) + 2)) none = strSub p (j + 2) p.length := slice_hi p lj
        refine ⟨_, rfl, _, rfl, _, rfl, _, rfl, by lia, ?_⟩
        rw [sl1]
        refine ⟨_, rfl, Nat.le_trans (sub_le p 0 k) hl, fun H1 s1 => ?_⟩
        refine ⟨_, rfl, ?_⟩
        have pc : ∀ {m}, Line p m → strSub p 0 k = m.1 ∧ strSub p (k + 1) j = lstT m.2.1 ∧ strSub p (j + 2) p.length = lstT m.2.2 := fun {m} hm => by
          obtain ⟨_, h2, h3, h4, h5⟩ := line_law hm
          rw [mk hm] at h2 h3 h4 h5
          have ej : k + 1 + (lstT m.2.1).length = j := by
            rw [e2] at h2
            lia
          rw [ej] at h4 h5
          exact ⟨h3, h4, h5⟩
        cases hn : isNm (strSub p 0 k) with
        | false =>
          refine iteT ?_
          refine k2 (fun m hm => ?_) H1 s1
          rw [(pc hm).1, hm.1.1] at hn
          cases hn
        | true =>
          refine iteF ?_
          refine ⟨_, rfl, _, rfl, _, _, rfl, rfl, _, rfl, _, rfl, _, rfl, _, rfl, by lia, ?_⟩
          rw [sl2]
          by_cases ct : ∃ tk, NamesOf (strSub p (k + 1) j) tk
          · obtain ⟨tk, ht⟩ := ct
            refine ⟨_, rfl, Nat.le_trans (sub_le p _ _) hl, fun xs hx H2 q2 s2 n2 hq2 => ?_, fun hno => absurd ht (hno tk)⟩
            obtain rfl := hx.uniq ht
            refine ⟨_, rfl, _, rfl, _, _, rfl, rfl, _, rfl, _, rfl, by lia, ?_⟩
            rw [sl3]
            by_cases cg : ∃ gv, NamesOf (strSub p (j + 2) p.length) gv
            · obtain ⟨gv, hg⟩ := cg
              refine ⟨_, rfl, Nat.le_trans (sub_le p _ _) hl, fun ys hy H3 q3 s3 n3 hq3 => ?_, fun hno => absurd hg (hno gv)⟩
              obtain rfl := hy.uniq hg
              refine ⟨_, rfl, rfl, _, rfl, ?_⟩
              refine iteF ?_
              refine ⟨_, rfl, rfl, _, rfl, ?_⟩
              refine iteF ?_
              refine ⟨_, rfl, _, rfl, _, rfl, _, rfl, by lia, ?_⟩
              rw [sl1]
              refine ⟨_, rfl, _, rfl, by show 3 ≤ sizeLine; lia, fun t nt => ?_⟩
              have s02 := s1.trans s2
              have s03 := s02.trans s3
              exact k1 (strSub p 0 k, xs, ys) (law_line hk hj hj2 hn hx hy) _ t q2 q3 (s03.trans (same_new nt)) (s03.free nt) (s1.free n2) (s02.free n3) upd_same ((s3.trans (same_new nt)) _ _ hq2) (same_new nt _ _ hq3)
            · refine ⟨_, rfl, Nat.le_trans (sub_le p _ _) hl, fun ys hy => absurd ⟨ys, hy⟩ cg, fun _ H3 s3 => ?_⟩
              refine ⟨_, rfl, rfl, _, rfl, ?_⟩
              refine iteF ?_
              refine ⟨_, rfl, rfl, _, rfl, ?_⟩
              refine iteT ?_
              exact k2 (fun m hm => cg ⟨m.2.2, hm.1.2.2, (pc hm).2.2⟩) H3 (s1.trans (s2.trans s3))
          · refine ⟨_, rfl, Nat.le_trans (sub_le p _ _) hl, fun ys hy => absurd ⟨ys, hy⟩ ct, fun _ H2 s2 => ?_⟩
            have fin : ∀ H3, Same H2 H3 → Q .non H3 := fun H3 s3 => k2 (fun m hm => ct ⟨m.2.1, hm.1.2.1, (pc hm).2.1⟩) H3 (s1.trans (s2.trans s3))
            refine ⟨_, rfl, _, rfl, _, _, rfl, rfl, _, rfl, _, rfl, by lia, ?_⟩
            rw [sl3]
            refine ⟨_, rfl, Nat.le_trans (sub_le p _ _) hl, fun ys hy H3 q3 s3 n3 hq3 => ?_, fun _ H3 s3 => ?_⟩
            · refine ⟨_, rfl, rfl, _, rfl, ?_⟩
              refine iteT ?_
              refine iteT ?_
              exact fin H3 s3
            · refine ⟨_, rfl, rfl, _, rfl, ?_⟩
              refine iteT ?_
              refine iteT ?_
              exact fin H3 s3
end
end Uf
end
/-! UfSk -/
section
set_option Elab.async false
set_option linter.all false
set_option maxRecDepth 100000
set_option maxHeartbeats 4000000
namespace UfSk
open PySem PySem.W PyProof.Rows
section
variable {α β : Type} {lt : Nat → Nat → Bool} {N : Nat}
def holds (lt : Nat → Nat → Bool) (N : Nat) : KasT α → (α → Prop) → Prop
  | .ret a, G => G a
  | .ask i j k, G => i < N ∧ j < N ∧ i ≠ j ∧ holds lt N (k (lt i j)) G
theorem holds_bind {f : α → KasT β} {G : β → Prop} : ∀ (t : KasT α), holds lt N t (fun a => holds lt N (f a) G) → holds lt N (t.bind f) G
  | .ret a, h => h
  | .ask i j k, h => ⟨h.1, h.2.1, h.2.2.1, holds_bind (k (lt i j)) h.2.2.2⟩
theorem holds_mono {G G' : α → Prop} (hg : ∀ a, G a → G' a) : ∀ (t : KasT α), holds lt N t G → holds lt N t G'
  | .ret a, h => hg a h
  | .ask i j k, h => ⟨h.1, h.2.1, h.2.2.1, holds_mono hg (k (lt i j)) h.2.2.2⟩
theorem holds_wp {cmp : Nat → Nat → (Bool → Shared → Prop) → Shared → Prop} {I : Shared → Prop} {G : α → Prop} (hc : ∀ i j C s, I s → i < N → j < N → i ≠ j → (∀ s', I s' → C (lt i j) s') → cmp i j C s) : ∀ (t : KasT α) (s : Shared), I s → holds lt N t G → t.kasWp cmp (fun a s' => G a ∧ I s') s
  | .ret a, s, hi, h => ⟨h, hi⟩
  | .ask i j k, s, hi, h => hc i j _ s hi h.1 h.2.1 h.2.2.1 fun s' hi' => holds_wp hc (k (lt i j)) s' hi' h.2.2.2
structure Ord (lt : Nat → Nat → Bool) (N : Nat) : Prop where
  tot : ∀ i j, i < N → j < N → i ≠ j → lt i j = false → lt j i = true
  tr : ∀ i j k, i < N → j < N → k < N → lt i j = true → lt j k = true → lt i k = true
def Good (N : Nat) (p : Array Nat) : Prop := p.toList.Perm (List.range N)
theorem Good.size {p : Array Nat} (h : Good N p) : p.size = N := by
  have := List.Perm.length_eq h
  rw [List.length_range, Array.length_toList] at this
  exact this
theorem getD_at {p : Array Nat} {i : Nat} (hi : i < p.size) : p.getD i 0 = p[i] := by simp [Array.getD, hi]
theorem Good.bd {p : Array Nat} (h : Good N p) {i : Nat} (hi : i < N) : p.getD i 0 < N := by
  have hs := h.size
  rw [getD_at (by lia)]
  have : p[i] ∈ p.toList := by simp
  exact List.mem_range.mp ((List.Perm.mem_iff h).mp this)
theorem Good.inj {p : Array Nat} (h : Good N p) {i j : Nat} (hi : i < N) (hj : j < N) (e : p.getD i 0 = p.getD j 0) : i = j := by
  have hs := h.size
  rw [getD_at (by lia), getD_at (by lia)] at e
  have nd : p.toList.Nodup := (List.Perm.nodup_iff h).mpr List.nodup_range
  have key := fun a b (ha : a < p.size) (hb : b < p.size) hab => List.pairwise_iff_getElem.mp nd a b (by simpa using ha) (by simpa using hb) hab
  rcases Nat.lt_trichotomy i j with c | c | c
  · exact absurd (by simpa using e) (key i j (by lia) (by lia) c)
  · exact c
  · exact absurd (by simpa using e.symm) (key j i (by lia) (by lia) c)
def Up (lt : Nat → Nat → Bool) (p : Array Nat) (m : Nat) : Prop := ∀ i j, i < j → j < m → lt (p.getD i 0) (p.getD j 0) = true
def Dn (lt : Nat → Nat → Bool) (p : Array Nat) (m : Nat) : Prop := ∀ i j, i < j → j < m → lt (p.getD j 0) (p.getD i 0) = true
theorem Up.snoc {p : Array Nat} {n : Nat} (o : Ord lt N) (g : Good N p) (h : Up lt p n) (h1 : 1 ≤ n) (hn : n < N) (hl : lt (p.getD (n - 1) 0) (p.getD n 0) = true) : Up lt p (n + 1) := fun i j hij hj => by
  by_cases c : j < n
  · exact h i j hij c
  · have ej : j = n := by lia
    subst ej
    by_cases c2 : i = j - 1
    · rw [c2]; exact hl
    · exact o.tr _ _ _ (g.bd (by lia)) (g.bd (by lia)) (g.bd (by lia)) (h i (j - 1) (by lia) (by lia)) hl
theorem Dn.snoc {p : Array Nat} {n : Nat} (o : Ord lt N) (g : Good N p) (h : Dn lt p n) (h1 : 1 ≤ n) (hn : n < N) (hl : lt (p.getD n 0) (p.getD (n - 1) 0) = true) : Dn lt p (n + 1) := fun i j hij hj => by
  by_cases c : j < n
  · exact h i j hij c
  · have ej : j = n := by lia
    subst ej
    by_cases c2 : i = j - 1
    · rw [c2]; exact hl
    · exact o.tr _ _ _ (g.bd (by lia)) (g.bd (by lia)) (g.bd (by lia)) hl (h i (j - 1) (by lia) (by lia))
theorem asc_ok {p : Array Nat} (o : Ord lt N) (g : Good N p) : ∀ (f n : Nat), 1 ≤ n → n + f ≤ N → Up lt p n → holds lt N (kas_asc p f n) (fun m => Up lt p m ∧ n ≤ m ∧ m ≤ n + f ∧ (m = n → f = 0 ∨ lt (p.getD n 0) (p.getD (n - 1) 0) = true))
  | 0, n, h1, hn, hu => ⟨hu, Nat.le_refl _, Nat.le_refl _, fun _ => .inl rfl⟩
  | f + 1, n, h1, hn, hu => by
    refine ⟨g.bd (by lia), g.bd (by lia), (fun z => by have := g.inj (by lia) (by lia) z; lia), ?_⟩
    cases c : lt (p.getD n 0) (p.getD (n - 1) 0) with
    | true => exact ⟨hu, Nat.le_refl _, by lia, fun _ => .inr rfl⟩
    | false =>
      have hl := o.tot _ _ (g.bd (by lia)) (g.bd (by lia)) (fun e => by have := g.inj (by lia) (by lia) e; lia) c
      exact holds_mono (fun m ⟨a, b, d, e⟩ => ⟨a, by lia, by lia, fun z => by lia⟩) _ (asc_ok o g f (n + 1) (by lia) (by lia) (hu.snoc o g h1 (by lia) hl))
theorem desc_ok {p : Array Nat} (o : Ord lt N) (g : Good N p) : ∀ (f n : Nat), 1 ≤ n → n + f ≤ N → Dn lt p n → holds lt N (kas_desc f p n 0) (fun r => ∃ m, r = (p, m, 0) ∧ n ≤ m ∧ m ≤ n + f ∧ Dn lt p m)
  | 0, n, h1, hn, hu => ⟨n, rfl, Nat.le_refl _, Nat.le_refl _, hu⟩
  | f + 1, n, h1, hn, hu => by
    refine ⟨g.bd (by lia), g.bd (by lia), (fun z => by have := g.inj (by lia) (by lia) z; lia), ?_⟩
    cases c : lt (p.getD n 0) (p.getD (n - 1) 0) with
    | true => exact holds_mono (fun r ⟨m, a, b, d, e⟩ => ⟨m, a, by lia, by lia, e⟩) _ (desc_ok o g f (n + 1) (by lia) (by lia) (hu.snoc o g h1 (by lia) c))
    | false =>
      have hl := o.tot _ _ (g.bd (by lia)) (g.bd (by lia)) (fun e => by have := g.inj (by lia) (by lia) e; lia) c
      refine ⟨g.bd (by lia), g.bd (by lia), (fun z => by have := g.inj (by lia) (by lia) z; lia), ?_⟩
      rw [hl]
      exact ⟨n, rfl, Nat.le_refl _, by lia, hu⟩
theorem getD_of {p q : Array Nat} {i j : Nat} (h : p[i]? = q[j]?) : p.getD i 0 = q.getD j 0 := by
  rw [Array.getD_eq_getD_getElem?, Array.getD_eq_getD_getElem?, h]
theorem rev_good {p : Array Nat} {m : Nat} (g : Good N p) : Good N (kas_rev p 0 m) := (Array.perm_iff_toList_perm.mp (mirror_perm p 0 m _)).trans g
theorem rev_up {p : Array Nat} {m : Nat} (g : Good N p) (hm : m ≤ N) (h : Dn lt p m) : Up lt (kas_rev p 0 m) m := fun i j hij hj => by
  have hs := g.size
  have at' : ∀ k, k < m → (kas_rev p 0 m).getD k 0 = p.getD (m - 1 - k) 0 := fun k hk => by
    refine getD_of ?_
    unfold kas_rev
    rw [getElem?_mirror (by lia) _ (by lia)]
    split
    · rw [Nat.zero_add]
    · rename_i c
      have : k = m - 1 - k := by lia
      rw [← this]
  rw [at' i (by lia), at' j hj]
  exact h _ _ (by lia) (by lia)
theorem count_ok {p : Array Nat} (o : Ord lt N) (g : Good N p) (h2 : 2 ≤ N) : holds lt N (kas_count N p) (fun r => Good N r.2 ∧ Up lt r.2 r.1 ∧ 1 ≤ r.1 ∧ r.1 ≤ N) := by
  unfold kas_count
  refine holds_bind _ (holds_mono (fun m ⟨a, b, c, d⟩ => ?_) _ (asc_ok o g (N - 1) 1 (Nat.le_refl _) (by lia) (fun i j h1 h2 => by lia)))
  by_cases e : m = N
  · rw [if_pos (by simp [e])]
    exact ⟨g, a, by lia, by lia⟩
  · rw [if_neg (by simp [e])]
    by_cases c1 : m > 1
    · rw [if_pos c1]
      refine ⟨g.bd (by lia), g.bd (by lia), (fun z => by have := g.inj (by lia) (by lia) z; lia), ?_⟩
      rw [a 0 (m - 1) (by lia) (by lia)]
      exact ⟨g, a, by lia, by lia⟩
    · rw [if_neg c1]
      have em : m = 1 := by lia
      subst em
      have hl := (d rfl).resolve_left (by lia)
      unfold kas_descPart
      refine holds_bind _ (holds_mono (fun r ⟨q, hr, b1, b2, b3⟩ => ?_) _ (desc_ok o g (N - 2) 2 (by lia) (by lia) (fun i j h1 h2 => by
        have ei : i = 0 := by lia
        have ej : j = 1 := by lia
        subst ei ej
        exact hl)))
      subst hr
      rw [if_neg (by simp)]
      unfold kas_tail3
      dsimp only
      refine holds_bind _ (holds_mono (fun z ⟨a1, a2, a3, _⟩ => ?_) _ (asc_ok o (rev_good g) (N - q) q (by lia) (by lia) (rev_up g (by lia) b3)))
      exact ⟨rev_good g, a1, by lia, by lia⟩
theorem place_ok {p : Array Nat} {k : Nat} (o : Ord lt N) (g : Good N p) (hk : k < N) : ∀ (f l r : Nat), l ≤ r → r ≤ k → r - l ≤ f → (∀ i, i < l → lt (p.getD i 0) (p.getD k 0) = true) → (∀ i, r ≤ i → i < k → lt (p.getD k 0) (p.getD i 0) = true) → Up lt p k →
    holds lt N (kas_place p k f l r) (fun m => m ≤ k ∧ (∀ i, i < m → lt (p.getD i 0) (p.getD k 0) = true) ∧ ∀ i, m ≤ i → i < k → lt (p.getD k 0) (p.getD i 0) = true)
  | 0, l, r, h1, h2, h3, hl, hr, hu => ⟨by lia, hl, fun i a b => hr i (by lia) b⟩
  | f + 1, l, r, h1, h2, h3, hl, hr, hu => by
    unfold kas_place
    by_cases c : l ≥ r
    · rw [if_pos c]
      exact ⟨by lia, hl, fun i a b => hr i (by lia) b⟩
    · rw [if_neg c]
      have hm : (l + r) / 2 < r := by lia
      have hm2 : l ≤ (l + r) / 2 := by lia
      generalize (l + r) / 2 = d at hm hm2
      refine ⟨g.bd hk, g.bd (by lia), (fun z => by have := g.inj hk (by lia) z; lia), ?_⟩
      cases e : lt (p.getD k 0) (p.getD d 0) with
      | true =>
        refine place_ok o g hk f l d hm2 (by lia) (by lia) hl (fun i a b => ?_) hu
        by_cases c2 : i = d
        · rw [c2]; exact e
        · exact o.tr _ _ _ (g.bd hk) (g.bd (by lia)) (g.bd (by lia)) e (hu d i (by lia) b)
      | false =>
        have hl2 := o.tot _ _ (g.bd hk) (g.bd (by lia)) (fun z => by have := g.inj hk (by lia) z; lia) e
        refine place_ok o g hk f (d + 1) r (by lia) h2 (by lia) (fun i a => ?_) hr hu
        by_cases c2 : i = d
        · rw [c2]; exact hl2
        · exact o.tr _ _ _ (g.bd (by lia)) (g.bd (by lia)) (g.bd hk) (hu i d (by lia) (by lia)) hl2
theorem bubble_good {p : Array Nat} {k d : Nat} (g : Good N p) : Good N (bubble p k d) := (Array.perm_iff_toList_perm.mp (bubble_perm p k d)).trans g
theorem bubble_up {p : Array Nat} {k m : Nat} (g : Good N p) (hk : k < N) (hm : m ≤ k) (hu : Up lt p k) (h1 : ∀ i, i < m → lt (p.getD i 0) (p.getD k 0) = true) (h2 : ∀ i, m ≤ i → i < k → lt (p.getD k 0) (p.getD i 0) = true) : Up lt (bubble p k (k - m)) (k + 1) := fun i j hij hj => by
  have hs := g.size
  have at' : ∀ x, (bubble p k (k - m)).getD x 0 = if x = m then p.getD k 0 else if m < x ∧ x ≤ k then p.getD (x - 1) 0 else p.getD x 0 := fun x => by
    have e := getElem?_bubble (xs := p) (src := k) (by lia) (k - m) (by lia) x
    rw [show k - (k - m) = m by lia] at e
    split
    · rename_i c
      rw [if_pos c] at e
      exact getD_of e
    · rename_i c
      rw [if_neg c] at e
      split
      · rename_i c2
        rw [if_pos c2] at e
        exact getD_of e
      · rename_i c2
        rw [if_neg c2] at e
        exact getD_of e
  rw [at' i, at' j]
  by_cases ci : i = m
  · rw [if_pos ci, if_neg (by lia), if_pos (by lia)]
    exact h2 _ (by lia) (by lia)
  · rw [if_neg ci]
    by_cases ci2 : m < i ∧ i ≤ k
    · rw [if_pos ci2, if_neg (by lia), if_pos (by lia)]
      exact hu _ _ (by lia) (by lia)
    · rw [if_neg ci2]
      by_cases cj : j = m
      · rw [if_pos cj]
        exact h1 _ (by lia)
      · rw [if_neg cj]
        by_cases cj2 : m < j ∧ j ≤ k
        · rw [if_pos cj2]
          exact hu _ _ (by lia) (by lia)
        · rw [if_neg cj2]
          exact hu _ _ (by lia) (by lia)
theorem bin_ok (o : Ord lt N) : ∀ (f : Nat) (p : Array Nat) (k : Nat), k + f = N → Good N p → Up lt p k → holds lt N (kas_bin f p k) (fun q => Good N q ∧ Up lt q N)
  | 0, p, k, hk, g, hu => ⟨g, by rw [← hk]; exact hu⟩
  | f + 1, p, k, hk, g, hu => by
    unfold kas_bin
    refine holds_bind _ (holds_mono (fun m ⟨a, b, c⟩ => ?_) _ (place_ok o g (by lia) k 0 k (Nat.zero_le _) (Nat.le_refl _) (by lia) (fun i h => by lia) (fun i h1 h2 => by lia) hu))
    exact bin_ok o f _ (k + 1) (by lia) (bubble_good g) (bubble_up g (by lia) a hu b c)
theorem sort_ok (o : Ord lt N) (h2 : 2 ≤ N) : holds lt N (kas_sort N) (fun q => Good N q ∧ Up lt q N) := by
  unfold kas_sort
  refine holds_bind _ (holds_mono (fun r ⟨a, b, c, d⟩ => ?_) _ (count_ok o (p := List.toArray (List.range N)) (List.Perm.refl _) h2))
  by_cases e : r.1 < N
  · rw [if_pos e]
    have em : max r.1 1 = r.1 := by lia
    rw [em]
    exact bin_ok o _ _ _ (by lia) a b
  · rw [if_neg e]
    have en : r.1 = N := by lia
    rw [en] at b
    exact ⟨a, b⟩
end
end UfSk
end
/-! UfSk2 -/
section
set_option Elab.async false
set_option linter.all false
set_option maxRecDepth 100000
set_option maxHeartbeats 4000000
namespace UfSk
open PySem PySem.W PyProof.Rows
def TupK (h : Heap) (v : Value) (k : Str) : Prop := ∃ x o t r n, v = .ref x ∧ h.get? x = some o ∧ o.cls = .type "tuple" ∧ o.data = .seq (List.toArray (Value.str k t :: r)) n
inductive Tups (h : Heap) : List Value → List Str → Prop
  | nil : Tups h [] []
  | cons {v : Value} {k : Str} {vs : List Value} {ks : List Str} (hv : TupK h v k) (r : Tups h vs ks) : Tups h (v :: vs) (k :: ks)
theorem Tups.length {h : Heap} : ∀ {vs : List Value} {ks : List Str}, Tups h vs ks → vs.length = ks.length
  | _, _, .nil => rfl
  | _, _, .cons _ r => by rw [List.length_cons, List.length_cons, r.length]
theorem Tups.at' {h : Heap} : ∀ {vs : List Value} {ks : List Str}, Tups h vs ks → ∀ i, i < ks.length → TupK h (vs.getD i .none) (ks.getD i "")
  | _, _, .nil, i, hi => by simp at hi
  | _, _, .cons hv r, 0, _ => hv
  | _, _, .cons hv r, i + 1, hi => r.at' i (by simpa using hi)
theorem Tups.kept {h h' : Heap} : ∀ {vs : List Value} {ks : List Str}, (∀ x o, h.get? x = some o → o.cls = .type "tuple" → h'.get? x = some o) → Tups h vs ks → Tups h' vs ks
  | _, _, _, .nil => .nil
  | _, _, k, .cons ⟨x, o, t, r, n, e1, e2, e3, e4⟩ rest => .cons ⟨x, o, t, r, n, e1, k x o e2 e3, e3, e4⟩ (rest.kept k)
theorem Tups.kat {h : Heap} : ∀ {vs : List Value} {ks : List Str}, Tups h vs ks → ∃ fs, KatTups h vs fs ∧ fs.length = ks.length ∧ ∀ f ∈ fs, ∃ k t, f = Value.str k t
  | _, _, .nil => ⟨[], KatTups.nil, rfl, fun _ h => nomatch h⟩
  | _, _, .cons ⟨x, o, t, r, n, e1, e2, e3, e4⟩ rest => by
    obtain ⟨fs, a, b, c⟩ := rest.kat
    subst e1
    exact ⟨_ :: fs, KatTups.cons e2 e3 e4 rfl a, by rw [List.length_cons, List.length_cons, b], fun f hf => by
      rcases List.mem_cons.mp hf with rfl | hf
      · exact ⟨_, _, rfl⟩
      · exact c f hf⟩
def ltK (ks : List Str) (i j : Nat) : Bool := decide ((ks.getD i "").cps.toList < (ks.getD j "").cps.toList)
theorem str_inj {x y : Str} (h : x.cps.toList = y.cps.toList) : x = y := by
  cases x
  cases y
  simp at h
  rw [h]
theorem lex_tot : ∀ (x y : List Nat), ¬ x < y → x ≠ y → y < x
  | [], [], _, ne => absurd rfl ne
  | [], b :: y, h, _ => absurd (List.nil_lt_cons _ _) h
  | a :: x, [], _, _ => List.nil_lt_cons _ _
  | a :: x, b :: y, h, ne => by
    rw [List.cons_lt_cons_iff] at h ⊢
    rcases Nat.lt_trichotomy a b with c | c | c
    · exact absurd (.inl c) h
    · subst c
      exact .inr ⟨rfl, lex_tot x y (fun z => h (.inr ⟨rfl, z⟩)) fun z => ne (by rw [z])⟩
    · exact .inl c
theorem range_all (vs : List Value) : (List.range vs.length).map (fun i => vs.getD i .none) = vs := by
  refine List.ext_getElem (by simp) fun i h1 h2 => ?_
  rw [List.getElem_map, List.getElem_range]
  simp [h2]
theorem ord_of {ks : List Str} (hn : ks.Nodup) : Ord (ltK ks) ks.length where
  tot := fun i j hi hj ne h => by
    unfold ltK at h ⊢
    rw [decide_eq_false_iff_not] at h
    rw [decide_eq_true_eq]
    have ne2 : (ks.getD i "").cps.toList ≠ (ks.getD j "").cps.toList := fun e => by
      have e2 := str_inj e
      have gi : ks.getD i "" = ks[i] := by simp [hi]
      have gj : ks.getD j "" = ks[j] := by simp [hj]
      rw [gi, gj] at e2
      rcases Nat.lt_trichotomy i j with c | c | c
      · exact List.pairwise_iff_getElem.mp hn i j hi hj c e2
      · exact ne c
      · exact List.pairwise_iff_getElem.mp hn j i hj hi c e2.symm
    exact lex_tot _ _ h ne2
  tr := fun i j k _ _ _ h1 h2 => by
    unfold ltK at *
    rw [decide_eq_true_eq] at *
    exact List.lt_trans h1 h2
section
variable {prog : Program} {w : World} {A : Around} {E : Value → Shared → Prop} {s : Shared}
theorem key_lt {x y : Value} {a b : Str} {Q : Bool → Shared → Prop} (hx : TupK s.heap x a) (hy : TupK s.heap y b) (ne : a ≠ b) (h : Q (decide (a.cps.toList < b.cps.toList)) s) : wpAny (model prog w) A (keyLt' (tuples' true) x y) Q E s := by
  obtain ⟨x, o, t, r, n, rfl, e2, e3, e4⟩ := hx
  obtain ⟨y, o', t', r', n', rfl, f2, f3, f4⟩ := hy
  refine kat_lt e2 e4 f2 f4 ?_
  show KatLex prog w A true _ Q ((Value.str a t, Value.str b t') :: (r.zip r')) 0 s
  refine kat_cons (eqBool_str ?_)
  rw [show (a == b) = false by simpa using ne]
  exact kat_no (oneLt_str h)
theorem list_sort_rows {a : Addr} {vs : List Value} {ks : List Str} {n : Nat} {P : PySem.Fin → Shared → Prop} (ho : s.heap.get? a = some (seqObj "list" vs.toArray n)) (ht : Tups s.heap vs ks) (hn : ks.Nodup) (h64 : vs.length < 64)
    (h : ∀ p : List Nat, p.Perm (List.range vs.length) → (∀ i j, i < j → j < vs.length → ltK ks (p.getD i 0) (p.getD j 0) = true) → P (.done (.ret .none)) { s with heap := sortedHeap s.heap a vs (List.toArray (p.map fun i => vs.getD i .none)) }) :
    wpAny (model prog w) A (Builtin.«list.sort» ⟨[.ref a], []⟩) P E s := by
  have hlen := ht.length
  rw [list_sort_plain]
  have ha : a < s.heap.objs.size := Heap.lt_size ho
  refine wpAny_bind (listItems_at ho rfl ?_)
  refine wpAny_bind (listUpdate_at ho rfl ?_ (by rw [List.size_toArray, sizeLine_eq]; lia) (Nat.zero_le _))
  obtain ⟨e1, ho1⟩ : ∃ e1, (s.heap.update a (Obj.mapSeq fun _ => (#[] : Array Value))).get? a = some (seqObj "list" #[] e1) := ⟨_, get?_update_seq ho (fun _ => #[])⟩
  refine wpAny_bind (seqEpoch_at ho1 rfl ?_)
  refine wpAny_bind (wpAny_newTuple ?_ (by show vs.length ≤ _; rw [sizeLine_eq]; lia))
  refine wpAny_bind (wpAny_newList ?_ (Nat.zero_le _))
  refine wpAny_holding ?_
  have ho6 : (((s.heap.update a (Obj.mapSeq fun _ => #[])).push (seqObj "tuple" vs.toArray 0)).push (seqObj "list" #[] 0)).get? a = some (seqObj "list" #[] e1) := by
    rw [Heap.get?_push_ne _ _ _ (by rw [size_push', Heap.size_update]; exact Nat.ne_of_lt (Nat.lt_succ_of_lt ha)), Heap.get?_push_ne _ _ _ (by rw [Heap.size_update]; exact Nat.ne_of_lt ha)]
    exact ho1
  have keep : ∀ x o, s.heap.get? x = some o → o.cls = .type "tuple" → (((s.heap.update a (Obj.mapSeq fun _ => #[])).push (seqObj "tuple" vs.toArray 0)).push (seqObj "list" #[] 0)).get? x = some o := fun x o hx hc => by
    have hxa : x ≠ a := fun z => by
      rw [z, ho] at hx
      cases hx
      have z2 : Value.type "list" = Value.type "tuple" := hc
      exact absurd z2 (by decide)
    have lx := Heap.lt_size hx
    rw [Heap.get?_push_ne _ _ _ (by rw [size_push', Heap.size_update]; exact Nat.ne_of_lt (Nat.lt_succ_of_lt lx)), Heap.get?_push_ne _ _ _ (by rw [Heap.size_update]; exact Nat.ne_of_lt lx), Heap.get?_update_ne _ _ _ _ hxa]
    exact hx
  have ht6 := ht.kept keep
  show wpAny (model prog w) A _ P E { s with heap := ((s.heap.update a (Obj.mapSeq fun _ => #[])).push (seqObj "tuple" vs.toArray 0)).push (seqObj "list" #[] 0) }
  dsimp only
  have hsz : vs.toArray.size = vs.length := by simp
  by_cases h2 : vs.toArray.size < 2
  · rw [if_pos h2, if_pos h2]
    refine wpAny_bind (wpAny_pure ?_)
    rw [StateT.run_pure]
    refine wpAny_bind (wpAny_pure ?_)
    dsimp only
    refine wpAny_bind (seqEpoch_at ho6 rfl ?_)
    have e : ((vs.toArray.zip vs.toArray).map (·.2)) = List.toArray ((List.range vs.length).map fun i => vs.getD i .none) := by
      apply Array.toList_inj.mp
      rw [Array.toList_map, Array.toList_zip]
      show List.map Prod.snd (vs.zip vs) = _
      rw [List.map_snd_zip (Nat.le_refl _), range_all]
    refine wpAny_bind (listUpdate_at ho6 rfl ?_ (Nat.zero_le _) (by rw [Array.size_map, Array.size_zip, hsz, sizeLine_eq]; lia))
    simp only [bne_self_eq_false, Bool.false_eq_true, if_false]
    have := h (List.range vs.length) (.refl _) (fun i j hij hj => by lia)
    rw [← e] at this
    exact wpAny_pure this
  · rw [if_neg h2, if_neg h2]
    obtain ⟨fs, kt, kl, kf⟩ := ht6.kat
    refine wpAny_bind (kat_kind (T := .type "str") kt (by lia) (fun v hv => ?_) rfl ?_)
    · obtain ⟨k, t, rfl⟩ := kf v hv
      exact Looks.of_pure rfl
    · have wp : (kas_sort vs.length).kasWp (kas_ask prog w A (tuples' true) vs) (fun p s' => (Good vs.length p ∧ Up (ltK ks) p vs.length) ∧ s' = { s with heap := ((s.heap.update a (Obj.mapSeq fun _ => #[])).push (seqObj "tuple" vs.toArray 0)).push (seqObj "list" #[] 0) }) { s with heap := ((s.heap.update a (Obj.mapSeq fun _ => #[])).push (seqObj "tuple" vs.toArray 0)).push (seqObj "list" #[] 0) } := by
        refine holds_wp (lt := ltK ks) (N := vs.length) (I := fun s' => s' = _) (fun i j C s' hs hi hj ne k => ?_) _ _ rfl (sort_ok (by rw [hlen]; exact ord_of hn) (by lia))
        subst hs
        refine key_lt (ht6.at' i (by lia)) (ht6.at' j (by lia)) (fun e => ?_) (k _ rfl)
        have gi : ks.getD i "" = ks[i]'(by lia) := by simp [show i < ks.length by lia]
        have gj : ks.getD j "" = ks[j]'(by lia) := by simp [show j < ks.length by lia]
        rw [gi, gj] at e
        rcases Nat.lt_trichotomy i j with c | c | c
        · exact List.pairwise_iff_getElem.mp hn i j (by lia) (by lia) c e
        · exact ne c
        · exact List.pairwise_iff_getElem.mp hn j i (by lia) (by lia) c e.symm
      refine wpAny_bind (wpAny_mono (kat_run (Q := fun st' s' => ∃ p : Array Nat, p.size = vs.length ∧ arrOf st' = p.map (kas_item (vs.toArray.zip vs.toArray)) ∧ failedOf st' = none ∧ (Good vs.length p ∧ Up (ltK ks) p vs.length) ∧ s' = _)
        rfl (by lia) h64 (fun p' st' s' a1 a2 a3 a4 => ⟨p', a1, a2, a3, a4⟩) wp) ?_ fun _ _ e => e)
      rintro ⟨⟨⟩, st'⟩ s' ⟨p, hp, har, hf, ⟨hg, hu⟩, rfl⟩
      dsimp only
      have hout := kat_snds rfl har
      rw [hout]
      refine wpAny_bind (seqEpoch_at ho6 rfl ?_)
      refine wpAny_bind (listUpdate_at ho6 rfl ?_ (Nat.zero_le _) (by rw [List.size_toArray, List.length_map, Array.length_toList, hp, sizeLine_eq]; lia))
      rw [hf]
      simp only [bne_self_eq_false, Bool.false_eq_true, if_false]
      exact wpAny_pure (h p.toList hg fun i j hij hj => by
        have := hu i j hij hj
        have gd : ∀ k, p.getD k 0 = p.toList.getD k 0 := fun k => by
          rw [Array.getD_eq_getD_getElem?, List.getD_eq_getElem?_getD, Array.getElem?_toList]
        rw [gd, gd] at this
        exact this)
end
end UfSk
end
/-! UfSk3 -/
section
set_option Elab.async false
set_option linter.all false
set_option maxRecDepth 100000
set_option maxHeartbeats 4000000
namespace UfSk
open PySem PySem.W PyProof.Rows UfSrt
section
variable {prog : Program} {w : World} {A : Around} {E : Value → Shared → Prop} {s : Shared}
theorem sorted_rows {l : Addr} {vs : List Value} {ks : List Str} {Q : Value → Shared → Prop} (hl : s.heap.IsList l vs.toArray) (ht : Tups s.heap vs ks) (hn : ks.Nodup) (h64 : vs.length < 64)
    (h : ∀ h' D n (p : List Nat), (∀ b o, s.heap.get? b = some o → h'.get? b = some o) → s.heap.objs.size ≤ D → p.Perm (List.range vs.length) → (∀ i j, i < j → j < vs.length → ltK ks (p.getD i 0) (p.getD j 0) = true) →
      h'.get? D = some { cls := .type "list", data := .seq (List.toArray (p.map fun i => vs.getD i .none)) n } → Q (.ref D) { s with heap := h' }) :
    wpAny (model prog w) A (call (.builtin "sorted") [.ref l]) Q E s := by
  refine Calls.call_function_entry kind_sorted plain_sorted entry_sorted (args_sorted1 _) ?_
  unfold Builtin.«sorted»
  refine wpAny_bind (m := checkCount "sorted" 1 1 _) (wpAny_pure ?_)
  refine wpAny_bind (collect_list hl ?_ (by rw [sizeLine_eq]; lia))
  refine wpAny_bind (wpAny_newList ?_ (by rw [sizeLine_eq]; lia))
  have hsz : ((s.heap.push (seqObj "list" #[] 0)).update s.heap.objs.size (Obj.mapSeq (· ++ vs.toArray))).objs.size = s.heap.objs.size + 1 := by
    rw [Heap.size_update, size_push']
  have hoL : (((s.heap.push (seqObj "list" #[] 0)).update s.heap.objs.size (Obj.mapSeq (· ++ vs.toArray))).push (seqObj "list" vs.toArray 0)).get? (s.heap.objs.size + 1) = some (seqObj "list" vs.toArray 0) := by
    rw [← hsz]; exact Heap.get?_push_size _ rfl
  have keep : ∀ b o, s.heap.get? b = some o → (((s.heap.push (seqObj "list" #[] 0)).update s.heap.objs.size (Obj.mapSeq (· ++ vs.toArray))).push (seqObj "list" vs.toArray 0)).get? b = some o := fun b o q => by
    have hlt : b < s.heap.objs.size := Heap.lt_size q
    rw [Heap.get?_push_ne _ _ _ (by rw [hsz]; exact Nat.ne_of_lt (Nat.lt_succ_of_lt hlt)), Heap.get?_update_ne _ _ _ _ (Nat.ne_of_lt hlt), Heap.get?_push_ne _ _ _ (Nat.ne_of_lt hlt)]
    exact q
  show wpAny _ _ _ _ _ { s with heap := ((s.heap.push (seqObj "list" #[] 0)).update s.heap.objs.size (Obj.mapSeq (· ++ vs.toArray))).push (seqObj "list" vs.toArray 0) }
  rw [hsz]
  refine wpAny_bind (wpAny_holding (wpAny_call_entry slot_list_sort ⟨_, hoL, rfl⟩ entry_list_sort (list_sort_rows (s := { s with heap := ((s.heap.push (seqObj "list" #[] 0)).update s.heap.objs.size (Obj.mapSeq (· ++ vs.toArray))).push (seqObj "list" vs.toArray 0) }) hoL (ht.kept fun x o hx _ => keep x o hx) hn h64 fun p hp hs => ⟨_, rfl, ?_⟩) (args_list_sort _)))
  obtain ⟨e, he⟩ := sortedHeap_at (out := List.toArray (p.map fun i => vs.getD i .none)) hoL
  refine wpAny_pure ⟨_, rfl, h _ _ e p (fun b o hb => ?_) (Nat.le_succ _) hp hs he⟩
  have hb1 := keep b o hb
  rw [sortedHeap_old (Nat.ne_of_lt (Nat.lt_succ_of_lt (Heap.lt_size hb))) (by rw [size_push', hsz]; exact Nat.lt_succ_of_lt (Nat.lt_succ_of_lt (Heap.lt_size hb)))]
  exact hb1
end
end UfSk
namespace L2
open PySem PySem.Spec PyProof.Rows UfSrt UfSk
section
variable {X : Cx}
def rSortR (K : PySem.W.Frag) : List V → Hp → VK → Prop := fun xs H Q => ∃ (l : Addr) (qs : List Addr) (ks : List Str), xs = [.ref l] ∧ SqL K H l (qs.map V.ref) ∧ Paired (fun (k : Str) (q : Addr) => ∃ r, H q = some (.tup (.str k :: r))) ks qs ∧ ks.Nodup ∧ ks.length < 64 ∧
  ∀ D (p : List Nat), H D = none → p.Perm (List.range ks.length) → p.map (fun i => ks.getD i "") = srt ks → Q (.ref D) (upd H D (.lst (p.map fun i => V.ref (qs.getD i 0))))
theorem tups_of {pins : List (Addr × Obj)} {σ : St} {H : Hp} {s : Shared} (I : Inv X pins σ H s) : ∀ {ks : List Str} {qs : List Addr} {us : List Value}, Paired (fun (k : Str) (q : Addr) => ∃ r, H q = some (.tup (.str k :: r))) ks qs → Vals (qs.map V.ref) us → Tups s.heap us ks
  | _, _, _, .nil, .nil => .nil
  | _, _, _, .cons ⟨r, e⟩ t, .cons rv tv => by
    cases rv
    refine .cons ?_ (tups_of I t tv)
    obtain ⟨_, its, ri, ob, h1, h2, n, h3⟩ := (show ObjOk X.prog X.w H s.heap _ (.tup (.str _ :: r)) from I.hok _ _ e)
    obtain _ | @⟨_, b0, _, _, ⟨t0, rfl⟩, r1⟩ := ri
    exact ⟨_, ob, t0, _, n, rfl, h1, h2, h3⟩
theorem vals_pick : ∀ {qs : List Addr} {us : List Value}, Vals (qs.map V.ref) us → ∀ (p : List Nat), (∀ i ∈ p, i < qs.length) → Vals (p.map fun i => V.ref (qs.getD i 0)) (p.map fun i => us.getD i .none)
  | _, _, _, [], _ => .nil
  | qs, us, r, i :: p, h => by
    refine .cons ?_ (vals_pick r p fun j hj => h j (List.mem_cons_of_mem _ hj))
    have hi := h i List.mem_cons_self
    have hl := r.length
    rw [List.length_map] at hl
    obtain ⟨w, e1, e2⟩ := vals_at r (List.getElem?_eq_getElem (show i < us.length by lia))
    rw [List.getElem?_map, List.getElem?_eq_getElem hi] at e1
    cases e1
    show RelV (V.ref (qs.getD i 0)) (us.getD i .none)
    rw [List.getD_eq_getElem?_getD, List.getD_eq_getElem?_getD, List.getElem?_eq_getElem hi, List.getElem?_eq_getElem (show i < us.length by lia)]
    exact e2
theorem call_sortR : CallR X (.builtin "sorted") (rSortR X.K) := by
  intro pins s σ H xs us Q I r h
  obtain ⟨l, qs, ks, rfl, hl, hp, hn, hz, q⟩ := h
  obtain ⟨u, rfl, ru⟩ := vals1 r
  cases ru
  obtain ⟨its, rv, pl, _⟩ := I.list hl
  have hlen := rv.length
  have lp := Paired.length hp
  rw [List.length_map] at hlen
  refine sorted_rows pl.isList (tups_of I hp rv) hn (by lia) fun h' D n p k1 z1 pp up e => ?_
  have hD : H D = none := I.hok.fresh z1
  have pin : ∀ i ∈ p, i < qs.length := fun i hi => by
    have := List.mem_range.mp (pp.mem_iff.mp hi)
    lia
  have pl2 := pp.length_eq
  rw [List.length_range] at pl2
  refine ⟨.ref D, _, I.laid (t' := s.toks) (o := .lst (p.map fun i => V.ref (qs.getD i 0))) k1 z1 ⟨by rw [List.length_map, sizeLine_eq]; lia, _, n, vals_pick rv p pin, e⟩, rfl, q D p hD (by rw [show ks.length = its.length by lia]; exact pp) ?_⟩
  refine srt_eq ?_ ?_
  · refine List.pairwise_iff_getElem.mpr fun i j hi hj hij => ?_
    rw [List.length_map] at hi hj
    rw [List.getElem_map, List.getElem_map]
    have := up i j hij (by lia)
    unfold ltK at this
    rw [decide_eq_true_eq, List.getD_eq_getElem?_getD (l := p), List.getD_eq_getElem?_getD (l := p), List.getElem?_eq_getElem hi, List.getElem?_eq_getElem hj] at this
    exact List.le_of_lt this
  · have e3 : (List.range its.length).map (fun i => ks.getD i "") = ks := by
      refine List.ext_getElem (by simp; lia) fun i h1 h2 => ?_
      rw [List.getElem_map, List.getElem_range]
      simp [h2]
    have := pp.map fun i => ks.getD i ""
    rw [e3] at this
    exact this
end
end L2
end
/-! UfY8 -/
section
set_option Elab.async false
set_option linter.all false
set_option maxRecDepth 100000
set_option maxHeartbeats 4000000
namespace L2
open PySem PySem.Spec PyProof.Rows UfSrt
section
variable {X : Cx}
inductive NoneOr (H : Hp) : V → Bool → Prop
  | non : NoneOr H .non true
  | tup (a : Addr) (xs : List V) (h : H a = some (.tup xs)) : NoneOr H (.ref a) false
def isNone : Value → Bool | .none => true | _ => false
theorem noneOr_eq {pins : List (Addr × Obj)} {σ : St} {H : Hp} {s : Shared} {x : V} {u : Value} {b : Bool} {A : Around} (I : Inv X pins σ H s) (h : NoneOr H x b) (r : RelV x u) (hu : A.units < cLine) : isNone u = b ∧ SeqAt.EqAt A s u .none b := by
  cases h with
  | non =>
    cases r
    exact ⟨rfl, SeqAt.EqAt.same _⟩
  | tup a xs h =>
    cases r
    obtain ⟨_, its, ri, ob⟩ := (show ObjOk X.prog X.w H s.heap _ (.tup xs) from I.hok _ _ h)
    exact ⟨rfl, SeqAt.EqAt.tuple_none (show s.heap.IsTuple a its.toArray from ob) hu⟩
def rNoneIn (X : Cx) : R2 := fun x y H Q => ∃ (p : Addr) (xs : List V) (bs : List Bool), x = .non ∧ y = .ref p ∧ SqL X.K H p xs ∧ Paired (NoneOr H) xs bs ∧ X.A.in1.units < cLine ∧ Q (.bl (bs.any id)) H
theorem none_all {A : Around} {pins : List (Addr × Obj)} {σ : St} {H : Hp} {s : Shared} (I : Inv X pins σ H s) (hu : A.units < cLine) : ∀ {xs : List V} {us : List Value} {bs : List Bool}, Vals xs us → Paired (NoneOr H) xs bs → (∀ u ∈ us, SeqAt.EqAt A s u .none (isNone u)) ∧ us.any isNone = bs.any id
  | _, _, _, .nil, .nil => And.intro (fun _ h => nomatch h) rfl
  | _, _, _, .cons r t, .cons h tb => by
    obtain ⟨e, q⟩ := noneOr_eq I h r hu
    obtain ⟨a, b⟩ := none_all I hu t tb
    refine ⟨fun u hm => ?_, by rw [List.any_cons, List.any_cons, b, e]; rfl⟩
    rcases List.mem_cons.mp hm with rfl | hm
    · rw [e]; exact q
    · exact a u hm
theorem op_noneIn : OpR X (compareOp .In) (rNoneIn X) := by
  intro pins s σ H x y v u Q I rx ry h
  obtain ⟨p, xs, bs, rfl, rfl, hq, hb, hu, q⟩ := h
  cases rx
  cases ry
  obtain ⟨its, r, pl, hz⟩ := I.list hq
  obtain ⟨a, b⟩ := none_all I hu r hb
  refine SeqAt.in_listAt isNone pl.isList (fun w hw => a w (by simpa using hw)) ⟨.bl _, H, I, rfl, ?_⟩
  rw [show its.toArray.any isNone = its.any isNone by simp, b]
  exact q
end
end L2
end
/-! UfY9 -/
section
set_option Elab.async false
set_option linter.all false
set_option maxRecDepth 100000
set_option maxHeartbeats 4000000
namespace Uf
open PySem L2 UfSrt UfStr
structure Txt4 (mg : Str → Option Value) : Prop where
  mx : mg "max" = none
theorem b_max : bootBuiltins "max" = some (.builtin "max") := by decide +kernel
def twice (xs : List Str) : Bool := decide (((UfSet.dd xs).length : Int) < (xs.length : Int))
def long (a b : List Str) : Bool := decide ((4 : Int) < (if (b.length : Int) > (a.length : Int) then (b.length : Int) else (a.length : Int)))
def badM (m : Mv) : Bool := m.2.1.isEmpty || (long m.2.1 m.2.2 || (twice m.2.1 || twice m.2.2))
def bad0 (ms : List Mv) (S : List Str) : Bool := twice (names ms) || (twice S || decide ((12 : Int) < (ms.length : Int)))
def badAll (ms : List Mv) (S : List Str) : Bool := (bad0 ms S || ms.any badM) || decide ((12 : Int) < ((UfSet.dd (S ++ pls ms)).length : Int))
theorem twice_iff {xs : List Str} : twice xs = !decide xs.Nodup := by
  unfold twice
  have h := UfSet.dd_len xs
  by_cases c : xs.Nodup
  · rw [decide_eq_true c, decide_eq_false]
    · rfl
    · rw [UfSet.dd_len_iff.mpr c]; lia
  · rw [decide_eq_false c, decide_eq_true]
    · rfl
    · have : (UfSet.dd xs).length ≠ xs.length := fun e => c (UfSet.dd_len_iff.mp e)
      lia
theorem unlike_nms {xs : List Str} (h : ∀ x ∈ xs, isNm x = true) : unlike xs = !twice xs := by
  unfold unlike
  rw [List.all_eq_true.mpr h, twice_iff]
  simp
theorem long_iff (a b : List Str) : long a b = !(decide (a.length ≤ 4) && decide (b.length ≤ 4)) := by
  unfold long
  by_cases h1 : a.length ≤ 4 <;> by_cases h2 : b.length ≤ 4 <;> simp only [h1, h2, decide_true, decide_false, Bool.and_true, Bool.and_false, Bool.true_and, Bool.false_and, Bool.not_true, Bool.not_false]
  · refine decide_eq_false ?_
    split <;> lia
  all_goals
    refine decide_eq_true ?_
    split <;> lia
theorem bad_mv {m : Mv} (h : NmMv m) : badM m = !isMv m.2.1 m.2.2 := by
  unfold badM isMv
  rw [unlike_nms h.2.1, unlike_nms h.2.2, long_iff]
  have e : m.2.1.isEmpty = !decide (1 ≤ m.2.1.length) := by
    cases m.2.1 <;> simp
  rw [e]
  cases twice m.2.1 <;> cases twice m.2.2 <;> cases decide (1 ≤ m.2.1.length) <;> cases decide (m.2.1.length ≤ 4) <;> cases decide (m.2.2.length ≤ 4) <;> rfl
theorem bad_net {ms : List Mv} {S : List Str} (h : ∀ m ∈ ms, NmMv m) (hS : ∀ x ∈ S, isNm x = true) : badAll ms S = !mkNet ms S := by
  unfold badAll bad0 mkNet
  have e1 : (ms.any badM) = !(ms.all fun m => isMv m.2.1 m.2.2) := by
    have : ∀ l : List Mv, (∀ m ∈ l, NmMv m) → l.any badM = !(l.all fun m => isMv m.2.1 m.2.2) := fun l => by
      induction l with
      | nil => intro _; rfl
      | cons m l ih =>
        intro hl
        rw [List.any_cons, List.all_cons, ih fun x hx => hl x (List.mem_cons_of_mem _ hx), bad_mv (hl m List.mem_cons_self), Bool.not_and]
    exact this ms h
  have e2 : unlike (names ms) = !twice (names ms) := unlike_nms fun x hx => by
    obtain ⟨m, hm, rfl⟩ := List.mem_map.mp hx
    exact (h m hm).1
  have e3 : (plcs ms S).length = (UfSet.dd (S ++ pls ms)).length := by unfold plcs; rw [srt_len]
  have e4 : decide ((12 : Int) < (ms.length : Int)) = !decide (ms.length ≤ 12) := by
    by_cases c : ms.length ≤ 12
    · rw [decide_eq_true c, decide_eq_false (by lia)]; rfl
    · rw [decide_eq_false c, decide_eq_true (by lia)]; rfl
  have e5 : decide ((12 : Int) < ((UfSet.dd (S ++ pls ms)).length : Int)) = !decide ((UfSet.dd (S ++ pls ms)).length ≤ 12) := by
    by_cases c : (UfSet.dd (S ++ pls ms)).length ≤ 12
    · rw [decide_eq_true c, decide_eq_false (by lia)]; rfl
    · rw [decide_eq_false c, decide_eq_true (by lia)]; rfl
  rw [e1, e2, e3, e4, e5, unlike_nms hS]
  cases twice (names ms) <;> cases twice S <;> cases decide (ms.length ≤ 12) <;> cases (ms.all fun m => isMv m.2.1 m.2.2) <;> cases decide ((UfSet.dd (S ++ pls ms)).length ≤ 12) <;> rfl
theorem or3_ok {t1 t2 t3 : TE} {σ : St} {H : Hp} {G : VK} {b1 b2 b3 : Bool} (h1 : ∀ H1 (R : VK), Same H H1 → (∀ H', Same H1 H' → R (.bl b1) H') → t1 σ H1 R) (h2 : ∀ H1 (R : VK), Same H H1 → (∀ H', Same H1 H' → R (.bl b2) H') → t2 σ H1 R) (h3 : ∀ H1 (R : VK), Same H H1 → (∀ H', Same H1 H' → R (.bl b3) H') → t3 σ H1 R)
    (h : ∀ H', Same H H' → G (.bl (b1 || (b2 || b3))) H') : tOrV t1 (tOrV t2 t3) σ H G := by
  refine h1 H _ (fun _ _ z => z) fun H1 s1 => ⟨b1, rfl, ?_⟩
  cases b1 with
  | true => exact iteT (h H1 s1)
  | false =>
    refine iteF (h2 H1 _ s1 fun H2 s2 => ⟨b2, rfl, ?_⟩)
    cases b2 with
    | true => exact iteT (h H2 (s1.trans s2))
    | false => exact iteF (h3 H2 _ (s1.trans s2) fun H3 s3 => h H3 (s1.trans (s2.trans s3)))
theorem or2_ok {t1 t2 : TT} {σ : St} {H : Hp} {G : Bool → Hp → Prop} {b1 b2 : Bool} (h1 : ∀ H1 (R : Bool → Hp → Prop), Same H H1 → (∀ H', Same H1 H' → R b1 H') → t1 σ H1 R) (h2 : ∀ H1 (R : Bool → Hp → Prop), Same H H1 → (∀ H', Same H1 H' → R b2 H') → t2 σ H1 R)
    (h : ∀ H', Same H H' → G (b1 || b2) H') : tOr t1 t2 σ H G := by
  refine h1 H _ (fun _ _ z => z) fun H1 s1 => ?_
  cases b1 with
  | true => exact iteT (h H1 s1)
  | false => exact iteF (h2 H1 _ s1 fun H2 s2 => h H2 (s1.trans s2))
theorem seq_or3 {t1 t2 t3 : TE} {g : TG} {u : TS} {D : Ends} {σ : St} {H : Hp} {b1 b2 b3 : Bool} (h1 : ∀ H1 (R : VK), Same H H1 → (∀ H', Same H1 H' → R (.bl b1) H') → t1 σ H1 R) (h2 : ∀ H1 (R : VK), Same H H1 → (∀ H', Same H1 H' → R (.bl b2) H') → t2 σ H1 R) (h3 : ∀ H1 (R : VK), Same H H1 → (∀ H', Same H1 H' → R (.bl b3) H') → t3 σ H1 R)
    (h : ∀ H', Same H H' → g (.bl (b1 || (b2 || b3))) σ H' (u D)) : tSeq (tAsg (tOrV t1 (tOrV t2 t3)) g) u D σ H := or3_ok h1 h2 h3 h
theorem seq_or2 {t1 t2 : TT} {ta tb u : TS} {D : Ends} {σ : St} {H : Hp} {b1 b2 : Bool} (h1 : ∀ H1 (R : Bool → Hp → Prop), Same H H1 → (∀ H', Same H1 H' → R b1 H') → t1 σ H1 R) (h2 : ∀ H1 (R : Bool → Hp → Prop), Same H H1 → (∀ H', Same H1 H' → R b2 H') → t2 σ H1 R)
    (h : ∀ H', Same H H' → if (b1 || b2) = true then ta { D with nx := u D } σ H' else tb { D with nx := u D } σ H') : tSeq (tIfS (tOr t1 t2) ta tb) u D σ H := or2_ok h1 h2 h
section
variable {P : Program} {w : World} {K : PySem.W.Frag} {mg : Str → Option Value} {base : Heap}
def spBadNet (K : PySem.W.Frag) : Sp := fun vs H Q _ => ∃ (a b : Addr) (ms : List Mv) (S : List Str), vs = [.ref a, .ref b] ∧ MvsAt K H a ms ∧ SqL K H b (txs S) ∧ Fits ms S ∧ ∀ H', Same H H' → Q (.bl (badAll ms S)) H'
theorem scBadNet : FnScope ["_law_rows", "_law_start", "_law_names", "_law_some", "_law_bad", "_law_name", "_law_takes", "_law_gives"] ["_law_rows", "_law_start"] (defScope sBadNet) := ⟨rfl, rfl, rfl, by decide +kernel, rfl, by decide +kernel, by decide +kernel⟩
inductive BnI (H : Hp) (a b nm sm : Addr) (ms : List Mv) (S : List Str) (i : Nat) (σ : St) (H2 : Hp) : Prop
  | mk (v5 v6 v7 : Option V) (q0 : σ = [some (.ref a), some (.ref b), some (.ref nm), some (.ref sm), some (.bl (bad0 ms S || (ms.take i).any badM)), v5, v6, v7]) (q1 : Same H H2) (q2 : H2 sm = some (.lst (txs (S ++ pls (ms.take i)))))
theorem ok_badNet {f : Addr} {fd : FuncData} (F : Fun K "_law_bad_net" "_law_bad_net" sBadNet f fd) (T : Txt K mg) (T4 : Txt4 mg) : FnOk P w K mg base CX0 1 f fd ["_law_rows", "_law_start"] (spBadNet K) := by
  refine F.ok scBadNet (fun vs H Q E h => ?_) (fun cdv A outer s H vs Q E hr h => ?_)
  · obtain ⟨a, b, ms, S, rfl, _⟩ := h
    rfl
  · obtain ⟨a, b, ms, S, rfl, ha, hb, hfit, k⟩ := h
    obtain ⟨qs, hq, hp⟩ := id ha
    have hsl := PySem.sizeLine_eq
    have hlq := Paired.length hp
    refine ⟨_, pss_cons (ps_comp (j := 2) (N := ["_law_row"]) (n := 1) (ci := []) rfl scBadNet.nd rfl rfl (pi_list (pv 0))
        (CSc.of (so := defScope sBadNet) (N0 := ["_law_rows", "_law_start", "_law_names", "_law_some", "_law_bad", "_law_name", "_law_takes", "_law_gives"]) ⟨rfl, by decide +kernel, by decide +kernel, by decide +kernel, rfl, rfl, by decide +kernel, by decide +kernel⟩)
        (fun z => ⟨pg_name (i := 0) (nd_of (N := ["_law_row"]) (by decide +kernel)) rfl (Or.inl rfl), pts_nil, pe_ix ix_tup (pv 0) pe_int (fun _ _ => rfl)⟩))
      (pss_cons (ps_set (i := 3) scBadNet.nd rfl (Or.inl rfl) (pe_callTy call_list_of rfl T.lst b_list (pa_cons (pv 1) pa_nil)))
      (pss_cons (ps_set (i := 4) scBadNet.nd rfl (Or.inl rfl) (pe_or (pe_cmpR op_lt (pe_callB call_lenS rfl T.len b_len (pa_cons (pe_callTy (call_set rfl) rfl T.set b_set (pa_cons (pv 2) pa_nil)) pa_nil)) (pe_callB call_len rfl T.len b_len (pa_cons (pv 2) pa_nil)) (nomark _))
        (pe_or (pe_cmpR op_lt (pe_callB call_lenS rfl T.len b_len (pa_cons (pe_callTy (call_set rfl) rfl T.set b_set (pa_cons (pv 1) pa_nil)) pa_nil)) (pe_callB call_len rfl T.len b_len (pa_cons (pv 1) pa_nil)) (nomark _))
        (pe_one (pe_cmpR op_gt (pe_callB call_len rfl T.len b_len (pa_cons (pv 0) pa_nil)) pe_int (nomark _))))))
      (pss_cons (ps_for PassesOwn.never rfl (pi_list (pv 0)) (pg_tup rfl (pgs_cons (pg_name (i := 5) scBadNet.nd rfl (Or.inl rfl)) (pgs_cons (pg_name (i := 6) scBadNet.nd rfl (Or.inl rfl)) (pgs_cons (pg_name (i := 7) scBadNet.nd rfl (Or.inl rfl)) pgs_nil))))
        (pss_cons (ps_if (PW.pt (pw_or (pt_cmpR eq_nil (pv 6) (pe_lst pa_nil) (nomark _)) (pw_or1 (pt_cmpR op_gt (pe_callB (call_max2 rfl) rfl T4.mx b_max (pa_cons (pe_callB call_len rfl T.len b_len (pa_cons (pv 6) pa_nil)) (pa_cons (pe_callB call_len rfl T.len b_len (pa_cons (pv 7) pa_nil)) pa_nil))) pe_int (nomark _))))) (pss_one (ps_set (i := 4) scBadNet.nd rfl (Or.inl rfl) pe_bl)) pss_nil)
        (pss_cons (ps_if (PW.pt (pw_or (pt_cmpR op_lt (pe_callB call_lenS rfl T.len b_len (pa_cons (pe_callTy (call_set rfl) rfl T.set b_set (pa_cons (pv 6) pa_nil)) pa_nil)) (pe_callB call_len rfl T.len b_len (pa_cons (pv 6) pa_nil)) (nomark _)) (pw_or1 (pt_cmpR op_lt (pe_callB call_lenS rfl T.len b_len (pa_cons (pe_callTy (call_set rfl) rfl T.set b_set (pa_cons (pv 7) pa_nil)) pa_nil)) (pe_callB call_len rfl T.len b_len (pa_cons (pv 7) pa_nil)) (nomark _))))) (pss_one (ps_set (i := 4) scBadNet.nd rfl (Or.inl rfl) pe_bl)) pss_nil)
        (pss_one (ps_expr (pe_bm PySem.F.plainAttrs_list PySem.F.slot_list_extend PySem.F.type_list_extend mt_extend (pv 3) (pa_cons (pe_op op_cat (pv 6) (pv 7)) pa_nil)))))))
      (pss_one (ps_ret (pe_or (pv 4) (pe_one (pe_cmpR op_gt (pe_callB call_lenS rfl T.len b_len (pa_cons (pe_callTy (call_set rfl) rfl T.set b_set (pa_cons (pv 3) pa_nil)) pa_nil)) pe_int (nomark _))))))))), ?_⟩
    have nml : (names ms).length = ms.length := by unfold names; rw [List.length_map]
    have fn := hfit.nm.1
    have fs := hfit.so.1
    refine ⟨_, rfl, a, rfl, ⟨_, hq⟩, fun z nm hnm => comp_list (a := a) (xs := qs.map V.ref) (fun i ys H2 => ys = txs (names (ms.take i)) ∧ H2 nm = some (.lst ys) ∧ Same H H2) ⟨rfl, upd_same, same_new hnm⟩ (fun i ys H2 _ p => p.2.2.seq hq) ?_ ?_⟩
    · rintro i v ys H2 hi ⟨rfl, hys, sm⟩
      obtain ⟨q, hqi, rfl⟩ := refs_get hi
      obtain ⟨m, hm, hmv⟩ := paired_get hp hqi
      obtain ⟨l, g, e1, e2, e3⟩ := hmv.same sm
      have hil := (List.getElem?_eq_some_iff.mp hm).1
      refine ⟨_, rfl, q, _, 0, _, rfl, rfl, SqT.of e1, atI_nat (j := 0) rfl, hys, ?_, ?_, upd_same, same_upd sm hnm⟩
      · rw [strs_length]
        unfold names
        rw [List.length_map, List.length_take]
        lia
      · rw [take_succ_at hm]
        unfold names txs
        rw [List.map_append, List.map_append]
        rfl
    · rintro ys H1 ⟨rfl, hnm1, s1⟩
      rw [List.length_map, ← hlq, List.take_length] at hnm1
      refine ⟨_, rfl, b, txs S, rfl, .inl (s1.seq hb), fun sm nsm => ?_⟩
      have nsm0 : H sm = none := s1.free nsm
      have s2 : Same H1 (upd H1 sm (.lst (txs S))) := same_new nsm
      have hsm : (upd H1 sm (.lst (txs S))) sm = some (.lst (txs S)) := upd_same
      generalize upd H1 sm (.lst (txs S)) = H2 at s2 hsm ⊢
      have s02 := s1.trans s2
      have hnm2 := s2 _ _ hnm1
      dsimp only [gName]
      refine seq_or3 (b1 := twice (names ms)) (b2 := twice S) (b3 := decide ((12 : Int) < (ms.length : Int))) (fun H3 R s3 h3 => ?_) (fun H3 R s3 h3 => ?_) (fun H3 R s3 h3 => ?_) fun H3 s3 => ?_
      · refine ⟨_, rfl, nm, names ms, rfl, SqL.of (s3 _ _ hnm2), by lia, fun p np => ⟨p, _, rfl, upd_same, ?_⟩⟩
        have s4 : Same H3 (upd H3 p (SetO w p (UfSet.dd (names ms)))) := same_new np
        exact ⟨_, rfl, _, (names ms).length, rfl, .inl ⟨_, SqL.of ((s3.trans s4) _ _ hnm2), (strs_length _).symm⟩, _, _, rfl, rfl, h3 _ s4⟩
      · refine ⟨_, rfl, b, S, rfl, (s02.trans s3).seq hb, by lia, fun p np => ⟨p, _, rfl, upd_same, ?_⟩⟩
        have s4 : Same H3 (upd H3 p (SetO w p (UfSet.dd S))) := same_new np
        exact ⟨_, rfl, _, S.length, rfl, .inl ⟨_, (s02.trans (s3.trans s4)).seq hb, (strs_length _).symm⟩, _, _, rfl, rfl, h3 _ s4⟩
      · exact ⟨_, rfl, _, ms.length, rfl, .inl ⟨_, (s02.trans s3).seq hq, by rw [List.length_map, hlq]⟩, _, _, rfl, rfl, h3 _ fun _ _ z => z⟩
      have s03 := s02.trans s3
      refine ⟨_, rfl, a, rfl, ⟨_, s03.seq hq⟩, for_list (K := K) (a := a) (xs := qs.map V.ref) (BnI H a b nm sm ms S)
        ⟨none, none, none, by rw [List.take_zero, List.any_nil, Bool.or_false]; rfl, s03, by rw [s3 _ _ hsm]; simp [pls]⟩ (fun i σ H4 _ h => by cases h with | mk _ _ _ _ q1 _ => exact q1.seq hq) ?_ ?_⟩
      · rintro i v σ H4 hi ⟨v5, v6, v7, rfl, s4, hs4⟩
        obtain ⟨q, hqi, rfl⟩ := refs_get hi
        obtain ⟨m, hm, hmv⟩ := paired_get hp hqi
        obtain ⟨l, g, e1, e2, e3⟩ := hmv.same s4
        have hmm := List.mem_of_getElem? hm
        have ft := (hfit.tk m hmm).1
        have fg := (hfit.gv m hmm).1
        have etk : pls (ms.take (i + 1)) = pls (ms.take i) ++ (m.2.1 ++ m.2.2) := by
          unfold pls
          rw [take_succ_at hm, List.flatMap_append]
          simp
        have hle : (S ++ pls (ms.take (i + 1))).length ≤ 1000 := by
          refine Nat.le_trans ?_ hfit.sum
          have e : pls ms = pls (ms.take (i + 1)) ++ pls (ms.drop (i + 1)) := by
            unfold pls
            rw [← List.flatMap_append, List.take_append_drop]
          rw [e, List.length_append, List.length_append, List.length_append]
          lia
        rw [etk] at hle
        simp only [List.length_append] at hle
        have ean : (ms.take (i + 1)).any badM = ((ms.take i).any badM || badM m) := by
          rw [take_succ_at hm, List.any_append]
          simp
        refine ⟨q, _, rfl, SqT.of e1, rfl, _, _, rfl, _, _, rfl, _, _, rfl, rfl, ?_⟩
        refine seq_or2 (b1 := m.2.1.isEmpty) (b2 := long m.2.1 m.2.2) (fun H5 R s5 h5 => ?_) (fun H5 R s5 h5 => ?_) fun H5 s5 => ?_
        · refine ⟨_, rfl, Nat.zero_le _, fun e ne => ?_⟩
          have s6 : Same H5 (upd H5 e (.lst [])) := same_new ne
          refine ⟨l, e, _, rfl, rfl, hr.units0, SqL.of ((s5.trans s6) _ _ e2), SqL.of upd_same, _, rfl, ?_⟩
          have := h5 _ s6
          rw [show m.2.1.isEmpty = (txs m.2.1).isEmpty by unfold txs; cases m.2.1 <;> rfl] at this
          exact this
        · exact ⟨_, rfl, _, m.2.1.length, rfl, .inl ⟨_, SqL.of (s5 _ _ e2), (strs_length _).symm⟩, _, rfl, _, m.2.2.length, rfl, .inl ⟨_, SqL.of (s5 _ _ e3), (strs_length _).symm⟩, _, _, rfl, _, _, rfl, rfl, _, rfl, h5 _ fun _ _ z => z⟩
        have ebad : badM m = ((m.2.1.isEmpty || long m.2.1 m.2.2) || (twice m.2.1 || twice m.2.2)) := by
          unfold badM
          rw [Bool.or_assoc]
        have tw : ∀ {G : Bool → Hp → Prop} {H6 : Hp} {x : Addr} {xs : List Str}, H6 x = some (.lst (txs xs)) → xs.length ≤ 200 → (∀ H', Same H6 H' → G (twice xs) H') → ∀ p, H6 p = none → G (twice xs) (upd H6 p (SetO w p (UfSet.dd xs))) := fun _ _ h p np => h _ (same_new np)
        cases hb1 : (m.2.1.isEmpty || long m.2.1 m.2.2)
        · refine iteF ?_
          dsimp only [tNext]
          refine seq_or2 (b1 := twice m.2.1) (b2 := twice m.2.2) (fun H6 R s6 h6 => ?_) (fun H6 R s6 h6 => ?_) fun H6 s6 => ?_
          · refine ⟨_, rfl, l, m.2.1, rfl, SqL.of ((s5.trans s6) _ _ e2), by lia, fun p np => ⟨p, _, rfl, upd_same, ?_⟩⟩
            have s7 : Same H6 (upd H6 p (SetO w p (UfSet.dd m.2.1))) := same_new np
            exact ⟨_, rfl, _, m.2.1.length, rfl, .inl ⟨_, SqL.of ((s5.trans (s6.trans s7)) _ _ e2), (strs_length _).symm⟩, _, _, rfl, rfl, _, rfl, h6 _ s7⟩
          · refine ⟨_, rfl, g, m.2.2, rfl, SqL.of ((s5.trans s6) _ _ e3), by lia, fun p np => ⟨p, _, rfl, upd_same, ?_⟩⟩
            have s7 : Same H6 (upd H6 p (SetO w p (UfSet.dd m.2.2))) := same_new np
            exact ⟨_, rfl, _, m.2.2.length, rfl, .inl ⟨_, SqL.of ((s5.trans (s6.trans s7)) _ _ e3), (strs_length _).symm⟩, _, _, rfl, rfl, _, rfl, h6 _ s7⟩
          have s46 := s5.trans s6
          have hs6 := s46 _ _ hs4
          cases hb2 : (twice m.2.1 || twice m.2.2)
          · refine iteF ?_
            refine ⟨_, rfl, .inl ⟨rfl, _, SqL.of hs6⟩, _, rfl, _, rfl, l, g, _, _, rfl, rfl, s46 _ _ e2, s46 _ _ e3, (by rw [strs_length, strs_length]; lia), fun q9 n9 => ?_⟩
            have s9 : Same H6 (upd H6 q9 (.lst (txs m.2.1 ++ txs m.2.2))) := same_new n9
            refine ⟨sm, q9, _, _, rfl, rfl, s9 _ _ hs6, upd_same, (by rw [List.length_append, strs_length, strs_length, strs_length, List.length_append]; lia), ⟨some (.str m.1), some (.ref l), some (.ref g), ?_, same_upd (s4.trans (s46.trans s9)) nsm0, ?_⟩⟩
            · rw [ean, ebad, hb1, hb2, Bool.or_false, Bool.or_false]; rfl
            · rw [upd_same, etk]
              unfold txs
              simp [List.map_append]
          · refine iteT ?_
            refine ⟨_, rfl, .inl ⟨rfl, _, SqL.of hs6⟩, _, rfl, _, rfl, l, g, _, _, rfl, rfl, s46 _ _ e2, s46 _ _ e3, (by rw [strs_length, strs_length]; lia), fun q9 n9 => ?_⟩
            have s9 : Same H6 (upd H6 q9 (.lst (txs m.2.1 ++ txs m.2.2))) := same_new n9
            refine ⟨sm, q9, _, _, rfl, rfl, s9 _ _ hs6, upd_same, (by rw [List.length_append, strs_length, strs_length, strs_length, List.length_append]; lia), ⟨some (.str m.1), some (.ref l), some (.ref g), ?_, same_upd (s4.trans (s46.trans s9)) nsm0, ?_⟩⟩
            · rw [ean, ebad, hb1, hb2, Bool.or_true, Bool.or_true, Bool.or_true]; rfl
            · rw [upd_same, etk]
              unfold txs
              simp [List.map_append]
        · refine iteT ?_
          dsimp only [tAsg, tC, gName]
          refine seq_or2 (b1 := twice m.2.1) (b2 := twice m.2.2) (fun H6 R s6 h6 => ?_) (fun H6 R s6 h6 => ?_) fun H6 s6 => ?_
          · refine ⟨_, rfl, l, m.2.1, rfl, SqL.of ((s5.trans s6) _ _ e2), by lia, fun p np => ⟨p, _, rfl, upd_same, ?_⟩⟩
            have s7 : Same H6 (upd H6 p (SetO w p (UfSet.dd m.2.1))) := same_new np
            exact ⟨_, rfl, _, m.2.1.length, rfl, .inl ⟨_, SqL.of ((s5.trans (s6.trans s7)) _ _ e2), (strs_length _).symm⟩, _, _, rfl, rfl, _, rfl, h6 _ s7⟩
          · refine ⟨_, rfl, g, m.2.2, rfl, SqL.of ((s5.trans s6) _ _ e3), by lia, fun p np => ⟨p, _, rfl, upd_same, ?_⟩⟩
            have s7 : Same H6 (upd H6 p (SetO w p (UfSet.dd m.2.2))) := same_new np
            exact ⟨_, rfl, _, m.2.2.length, rfl, .inl ⟨_, SqL.of ((s5.trans (s6.trans s7)) _ _ e3), (strs_length _).symm⟩, _, _, rfl, rfl, _, rfl, h6 _ s7⟩
          have s46 := s5.trans s6
          have hs6 := s46 _ _ hs4
          cases hb2 : (twice m.2.1 || twice m.2.2)
          · refine iteF ?_
            refine ⟨_, rfl, .inl ⟨rfl, _, SqL.of hs6⟩, _, rfl, _, rfl, l, g, _, _, rfl, rfl, s46 _ _ e2, s46 _ _ e3, (by rw [strs_length, strs_length]; lia), fun q9 n9 => ?_⟩
            have s9 : Same H6 (upd H6 q9 (.lst (txs m.2.1 ++ txs m.2.2))) := same_new n9
            refine ⟨sm, q9, _, _, rfl, rfl, s9 _ _ hs6, upd_same, (by rw [List.length_append, strs_length, strs_length, strs_length, List.length_append]; lia), ⟨some (.str m.1), some (.ref l), some (.ref g), ?_, same_upd (s4.trans (s46.trans s9)) nsm0, ?_⟩⟩
            · rw [ean, ebad, hb1, hb2, Bool.or_false, Bool.or_true, Bool.or_true]; rfl
            · rw [upd_same, etk]
              unfold txs
              simp [List.map_append]
          · refine iteT ?_
            refine ⟨_, rfl, .inl ⟨rfl, _, SqL.of hs6⟩, _, rfl, _, rfl, l, g, _, _, rfl, rfl, s46 _ _ e2, s46 _ _ e3, (by rw [strs_length, strs_length]; lia), fun q9 n9 => ?_⟩
            have s9 : Same H6 (upd H6 q9 (.lst (txs m.2.1 ++ txs m.2.2))) := same_new n9
            refine ⟨sm, q9, _, _, rfl, rfl, s9 _ _ hs6, upd_same, (by rw [List.length_append, strs_length, strs_length, strs_length, List.length_append]; lia), ⟨some (.str m.1), some (.ref l), some (.ref g), ?_, same_upd (s4.trans (s46.trans s9)) nsm0, ?_⟩⟩
            · rw [ean, ebad, hb1, hb2, Bool.or_true, Bool.or_true, Bool.or_true]; rfl
            · rw [upd_same, etk]
              unfold txs
              simp [List.map_append]
      · rintro σ H4 ⟨v5, v6, v7, rfl, s4, hs4⟩
        rw [List.length_map, ← hlq, List.take_length] at hs4
        rw [List.length_map, ← hlq, List.take_length]
        refine ⟨_, rfl, _, rfl, ?_⟩
        cases hbb : (bad0 ms S || ms.any badM) with
        | true =>
          refine iteT ?_
          have := k H4 s4
          unfold badAll at this
          rw [hbb] at this
          exact this
        | false =>
          refine iteF ?_
          refine ⟨_, rfl, sm, S ++ pls ms, rfl, SqL.of hs4, hfit.sum, fun p np => ⟨p, _, rfl, upd_same, _, _, rfl, rfl, ?_⟩⟩
          have := k _ (s4.trans (same_new (o := SetO w p (UfSet.dd (S ++ pls ms))) np))
          unfold badAll at this
          rw [hbb] at this
          exact this
end
end Uf
end
/-! UfY10 -/
section
set_option Elab.async false
set_option linter.all false
set_option maxRecDepth 100000
set_option maxHeartbeats 4000000
namespace Uf
open PySem L2 UfSrt UfStr PySem.Builtin PySem.Builtin.Str PySem.StrLaws
theorem slice5 (p : PySem.Str) : Txt.slice p (some (5 : Int)) none = strSub p 5 p.length := by
  by_cases h : 5 ≤ p.length
  · exact slice_hi p h
  · refine UfStr.str_ext ?_
    rw [strSub_toList, List.drop_of_length_le (by rw [← UfStr.len_codes]; lia), List.take_nil]
    unfold Txt.slice
    have e : strSliceIndices (some (5 : Int)) none 1 p.length = [] := by
      rw [sliceIdx_none_hi]
      simp only [strSliceIndices, sliceRange]
      have h1 : ¬ ((5 : Int) < 0) := by lia
      have h2 : ¬ ((p.length : Int) < 0) := by lia
      simp only [h1, h2, if_false]
      have e1 : max (0 : Int) (min (5 : Int) (p.length : Int)) = p.length := by lia
      have e2 : max (0 : Int) (min (p.length : Int) (p.length : Int)) = p.length := by lia
      simp [e1, e2]
    rw [e]
    by_cases z : p.length = 0
    · rw [if_pos (by simp [z])]
      have : p.cps.toList.length = 0 := by rw [← UfStr.len_codes]; exact z
      rw [List.eq_nil_of_length_eq_zero this]
    · rw [if_neg (by simp; lia)]
      rfl
theorem slice05 (p : PySem.Str) : Txt.slice p none (some (5 : Int)) = strSub p 0 5 := by
  by_cases h : 5 ≤ p.length
  · exact slice_lo p h
  · refine UfStr.str_ext ?_
    rw [strSub_toList, List.drop_zero, List.take_of_length_le (by rw [← UfStr.len_codes]; lia)]
    have e2 := slice_lo p (Nat.le_refl p.length)
    have e3 : strSub p 0 p.length = p := sub_whole p
    unfold Txt.slice at e2 ⊢
    have e : strSliceIndices none (some (5 : Int)) 1 p.length = strSliceIndices none (some (p.length : Int)) 1 p.length := by
      rw [sliceIdx_none_lo, sliceIdx_none_lo]
      simp only [strSliceIndices]
      have h1 : ¬ ((5 : Int) < 0) := by lia
      have h2 : ¬ ((p.length : Int) < 0) := by lia
      simp only [h1, h2, if_false]
      have e1 : max (0 : Int) (min (5 : Int) (p.length : Int)) = p.length := by lia
      have e2 : max (0 : Int) (min (p.length : Int) (p.length : Int)) = p.length := by lia
      rw [e1, e2]
      simp
    rw [e, e2, e3]
theorem start_of {p : PySem.Str} {S : List PySem.Str} (h1 : strSub p 0 5 = "start") (h2 : NamesOf (strSub p 5 p.length) S) : p = startT S := by
  rw [← startT_eq, ← h2.2, ← h1]
  refine UfStr.str_ext ?_
  rw [UfStr.app_codes, strSub_toList, strSub_toList, List.drop_zero, Nat.sub_zero, List.take_of_length_le (l := p.cps.toList.drop 5) (by rw [List.length_drop, ← UfStr.len_codes]; lia), List.take_append_drop]
theorem of_start {p : PySem.Str} {S : List PySem.Str} (h : p = startT S) (hS : ∀ x ∈ S, isNm x = true) : strSub p 0 5 = "start" ∧ NamesOf (strSub p 5 p.length) S := by
  have ec : p.cps.toList = [115, 116, 97, 114, 116] ++ (lstT S).cps.toList := by rw [h, ← startT_eq, UfStr.app_codes, c_start]
  refine ⟨UfStr.str_ext ?_, hS, UfStr.str_ext ?_⟩
  · rw [strSub_toList, ec, c_start]
    rfl
  · rw [strSub_toList, ec, show List.drop 5 ([115, 116, 97, 114, 116] ++ (lstT S).cps.toList) = (lstT S).cps.toList from rfl]
    refine List.take_of_length_le ?_
    have := congrArg List.length ec
    rw [List.length_append] at this
    rw [UfStr.len_codes p]
    simp at this ⊢
    lia
end Uf
end
/-! UfY11 -/
section
set_option Elab.async false
set_option linter.all false
set_option maxRecDepth 100000
set_option maxHeartbeats 4000000
namespace Uf
open PySem L2 UfSrt UfStr PySem.Builtin PySem.Builtin.Str PySem.StrLaws
def RowV (D : Addr) (H : Hp) (x : PySem.Str) (y : V) : Prop := (∃ m t, Line x m ∧ y = .ref t ∧ RdMv D H m t) ∨ ((∀ m, ¬ Line x m) ∧ y = .non)
inductive DuI (H : Hp) (D : Addr) (ps : List PySem.Str) (i : Nat) (ys : List V) (H2 : Hp) : Prop
  | mk (q1 : H2 D = some (.lst ys)) (q2 : Same H H2) (q3 : Paired (RowV D H2) (ps.take i) ys)
theorem DuI.same {H : Hp} {D : Addr} {ps : List PySem.Str} {i : Nat} {ys : List V} {H2 : Hp} (h : DuI H D ps i ys H2) : Same H H2 := by
  cases h
  assumption
theorem rows_none {D : Addr} {H H' : Hp} (s : Same H H') : ∀ {ps : List PySem.Str} {ys : List V}, Paired (RowV D H) ps ys → ∃ bs, Paired (NoneOr H') ys bs ∧ (bs.any id = false → ∀ x ∈ ps, ∃ m, Line x m) ∧ ((∀ x ∈ ps, ∃ m, Line x m) → bs.any id = false)
  | _, _, .nil => ⟨[], .nil, (fun _ _ h => nomatch h), fun _ => rfl⟩
  | _, _, .cons h t => by
    obtain ⟨bs, a, b, c⟩ := rows_none s t
    rcases h with ⟨m, q, hL, rfl, l, g, _, _, e1, _⟩ | ⟨hn, rfl⟩
    · refine ⟨false :: bs, .cons (.tup _ _ (s _ _ e1)) a, fun e x hx => ?_, fun h => ?_⟩
      · rcases List.mem_cons.mp hx with rfl | hx
        · exact ⟨m, hL⟩
        · exact b (by simpa using e) x hx
      · rw [List.any_cons, c fun x hx => h x (List.mem_cons_of_mem _ hx)]
        rfl
    · refine ⟨true :: bs, .cons .non a, fun e => by simp at e, fun h => ?_⟩
      obtain ⟨m, hm⟩ := h _ List.mem_cons_self
      exact absurd hm (hn m)
theorem rows_all {D : Addr} {H : Hp} : ∀ {ps : List PySem.Str} {ys : List V}, Paired (RowV D H) ps ys → (∀ x ∈ ps, ∃ m, Line x m) → ∃ ms qs, ps = ms.map lineT ∧ (∀ m ∈ ms, NmMv m) ∧ ys = qs.map V.ref ∧ Paired (RdMv D H) ms qs
  | _, _, .nil, _ => ⟨[], [], rfl, (fun _ h => nomatch h), rfl, .nil⟩
  | _, _, .cons h t, hl => by
    obtain ⟨ms, qs, e1, e2, e3, e4⟩ := rows_all t fun x hx => hl x (List.mem_cons_of_mem _ hx)
    rcases h with ⟨m, q, hL, rfl, hr⟩ | ⟨hn, _⟩
    · refine ⟨m :: ms, q :: qs, by rw [List.map_cons, ← e1, ← hL.2], fun z hz => ?_, by rw [List.map_cons, ← e3], .cons hr e4⟩
      rcases List.mem_cons.mp hz with rfl | hz
      · exact hL.1
      · exact e2 z hz
    · obtain ⟨m, hm⟩ := hl _ List.mem_cons_self
      exact absurd hm (hn m)
def StartV (t : PySem.Str) (H : Hp) (sv : V) : Prop := (∃ S q, NamesOf t S ∧ sv = .ref q ∧ H q = some (.lst (txs S))) ∨ ((∀ S, ¬ NamesOf t S) ∧ sv = .non)
theorem names_two {Q : VK} {E : XK} {H : Hp} {t : PySem.Str} (hl : t.length ≤ 1000) (h : ∀ sv H', Same H H' → StartV t H' sv → Q sv H') : spNamesOf [.str t] H Q E :=
  ⟨t, rfl, hl, fun xs hx H' q s n hq => h (.ref q) H' s (.inl ⟨xs, q, hx, rfl, hq⟩), fun hn H' s => h .non H' s (.inr ⟨hn, rfl⟩)⟩
theorem RowV.up {D : Addr} {H H' : Hp} {o : HO} {ys : List V} (hD : H D = some (.lst ys)) (s : Same H H') {x : PySem.Str} {y : V} (h : RowV D H x y) : RowV D (upd H' D o) x y := by
  rcases h with ⟨m, t, hL, e, l, g, h1, h2, h3, h4, h5⟩ | h
  · refine .inl ⟨m, t, hL, e, l, g, h1, h2, ?_, ?_, ?_⟩
    · rw [upd_ne (ne_of h3 hD (fun z => nomatch z))]; exact s _ _ h3
    · rw [upd_ne h1]; exact s _ _ h4
    · rw [upd_ne h2]; exact s _ _ h5
  · exact .inr h
theorem start_le {ms : List Mv} {S : List PySem.Str} (h : mkNet ms S = true) : S.length ≤ 12 := by
  unfold mkNet at h
  simp only [Bool.and_eq_true, decide_eq_true_eq] at h
  obtain ⟨_, _, _, hu, hp⟩ := h
  unfold unlike at hu
  rw [Bool.and_eq_true, decide_eq_true_eq] at hu
  have : S.length ≤ (plcs ms S).length := UfFin.nodup_le hu.2 fun x hx => by
    unfold plcs
    exact srt_mem.mpr (UfSet.dd_mem.mpr (List.mem_append_left _ hx))
  lia
inductive DtI (H : Hp) (t : PySem.Str) (a2 a3 r D9 : Addr) (L : List PySem.Str) (ms : List Mv) (S : List PySem.Str) (i : Nat) (σ : St) (H2 : Hp) : Prop
  | mk (v1 v5 v6 v7 : Option V) (q0 : σ = [some (.str t), v1, some (.ref a2), some (.ref a3), some (.ref r), v5, v6, v7]) (q1 : Same H H2) (q2 : H2 r = some (.lst (txs (startT (srt S) :: (L.take i).map fun x => lineT (mvS ms x))))) (q3 : r ≠ D9)
section
variable {P : Program} {w : World} {K : PySem.W.Frag} {mg : PySem.Str → Option Value} {base : Heap}
def dueT (ms : List Mv) (S : List PySem.Str) : PySem.Str := if mkNet ms S = true then textT (sortMs ms) (srt S) else "no net"
def spDue : Sp := fun vs H Q _ => ∃ t : PySem.Str, vs = [.str t] ∧ TextOk t ∧ (∀ ms S, Reads t ms S → ∀ H', Same H H' → Q (.str (dueT ms S)) H') ∧ ((∀ ms S, ¬ Reads t ms S) → ∀ H', Same H H' → Q (.str "no text") H')
theorem scDue : FnScope ["_law_text", "_law_parts", "_law_start", "_law_rows", "_law_told", "_law_name", "_law_takes", "_law_gives"] ["_law_text"] (defScope sDue) := ⟨rfl, rfl, rfl, by decide +kernel, rfl, by decide +kernel, by decide +kernel⟩
theorem ok_due {f fO fP fB fL : Addr} {fd fdO fdP fdB fdL : FuncData} (F : Fun K "_law_due" "_law_due" sDue f fd) (T : Txt K mg) (DO : Def K mg "_law_names_of" sNamesOf ["_law_text"] fO fdO) (GO : FnOk P w K mg base CX0 2 fO fdO ["_law_text"] spNamesOf)
    (DP : Def K mg "_law_part_of" sPartOf ["_law_part"] fP fdP) (GP : FnOk P w K mg base CX0 3 fP fdP ["_law_part"] spPartOf) (DB : Def K mg "_law_bad_net" sBadNet ["_law_rows", "_law_start"] fB fdB) (GB : FnOk P w K mg base CX0 1 fB fdB ["_law_rows", "_law_start"] (spBadNet K))
    (DL : Def K mg "_law_listed" sListed ["_law_names"] fL fdL) (GL : FnOk P w K mg base CX0 1 fL fdL ["_law_names"] (spListed K)) : FnOk P w K mg base CX0 4 f fd ["_law_text"] spDue := by
  refine F.ok scDue (fun vs H Q E h => ?_) (fun cdv A outer s H vs Q E hr h => ?_)
  · obtain ⟨t, rfl, _⟩ := h
    rfl
  · obtain ⟨t, rfl, ht, k1, k2⟩ := h
    have hsl := PySem.sizeLine_eq
    have hr1 : Room 1 _ := hr.mono (by decide)
    have hr2 : Room 2 _ := hr.mono (by decide)
    refine ⟨_, pss_cons (ps_set (i := 1) scDue.nd rfl (Or.inl rfl) (pe_bm PySem.F.plainAttrs_str PySem.F.slot_str_split PySem.F.type_str_split mt_split (pv 0) (pa_cons pe_str pa_nil)))
      (pss_cons (ps_set (i := 2) scDue.nd rfl (Or.inl rfl) (pe_call GO hr2 rfl DO.mg DO.fn.kp DO.bd .nil pass0 (pa_cons (pe_slice sl_str (pe_ix ix_list (pv 1) pe_int (fun _ _ => rfl)) (po_some pe_int) po_none) pa_nil)))
      (pss_cons (ps_comp (j := 3) (N := ["_law_part"]) (n := 1) (ci := []) rfl scDue.nd rfl rfl (pi_list (pe_slice sl_list (pv 1) (po_some pe_int) po_none))
        (CSc.of (so := defScope sDue) (N0 := ["_law_text", "_law_parts", "_law_start", "_law_rows", "_law_told", "_law_name", "_law_takes", "_law_gives"]) ⟨rfl, by decide +kernel, by decide +kernel, by decide +kernel, rfl, rfl, by decide +kernel, by decide +kernel⟩)
        (fun z => ⟨pg_name (i := 0) (nd_of (N := ["_law_part"]) (by decide +kernel)) rfl (Or.inl rfl), pts_nil, pe_call GP hr rfl DP.mg DP.fn.kp DP.bd .nil pass0 (pa_cons (pv 0) pa_nil)⟩))
      (pss_cons (ps_if (PW.pt (pw_or (pt_cmpR op_ne (pe_slice sl_str (pe_ix ix_list (pv 1) pe_int (fun _ _ => rfl)) po_none (po_some pe_int)) pe_str (nomark _)) (pw_or (pt_cmpR op_isN (pv 2) pe_non (nomark _)) (pw_or1 (pt_cmpR op_noneIn pe_non (pv 3) (by with_unfolding_all rfl)))))) (pss_one (ps_ret pe_str)) pss_nil)
      (pss_cons (ps_if (pt_val (pe_call GB hr1 rfl DB.mg DB.fn.kp DB.bd .nil pass0 (pa_cons (pv 3) (pa_cons (pv 2) pa_nil)))) (pss_one (ps_ret pe_str)) pss_nil)
      (pss_cons (ps_set (i := 4) scDue.nd rfl (Or.inl rfl) (pe_lst (pa_cons (pe_op op_add_str pe_str (pe_call GL hr1 rfl DL.mg DL.fn.kp DL.bd .nil pass0 (pa_cons (pe_callB call_sortL rfl T.srt b_sorted (pa_cons (pv 2) pa_nil)) pa_nil))) pa_nil)))
      (pss_cons (ps_for PassesOwn.never rfl (pi_list (pe_callB call_sortR rfl T.srt b_sorted (pa_cons (pv 3) pa_nil))) (pg_tup rfl (pgs_cons (pg_name (i := 5) scDue.nd rfl (Or.inl rfl)) (pgs_cons (pg_name (i := 6) scDue.nd rfl (Or.inl rfl)) (pgs_cons (pg_name (i := 7) scDue.nd rfl (Or.inl rfl)) pgs_nil))))
        (pss_one (ps_expr (pe_bm PySem.F.plainAttrs_list PySem.F.slot_list_append PySem.F.type_list_append mt_append (pv 4) (pa_cons (pe_op op_add_str (pe_op op_add_str (pe_op op_add_str (pe_op op_add_str (pv 5) pe_str) (pe_call GL hr1 rfl DL.mg DL.fn.kp DL.bd .nil pass0 (pa_cons (pe_callB call_sortL rfl T.srt b_sorted (pa_cons (pv 6) pa_nil)) pa_nil))) pe_str) (pe_call GL hr1 rfl DL.mg DL.fn.kp DL.bd .nil pass0 (pa_cons (pe_callB call_sortL rfl T.srt b_sorted (pa_cons (pv 7) pa_nil)) pa_nil))) pa_nil)))))
      (pss_one (ps_ret (pe_bm PySem.F.plainAttrs_str PySem.F.slot_str_join PySem.F.type_str_join mt_join pe_str (pa_cons (pv 4) pa_nil)))))))))), ?_⟩
    have lt := ht.len
    refine ⟨_, rfl, rfl, _, _, rfl, rfl, by rw [l_semi]; lia, by lia, fun q n => ?_⟩
    obtain ⟨p0, ps, ep⟩ := split_ne t "; "
    have ej := join_split t "; "
    rw [ep] at ej
    rw [ep]
    have pl : ∀ x ∈ p0 :: ps, x.length ≤ 1000 := fun x hx => by
      have := part_le (y := "; ") ps p0 x hx
      rw [ej] at this
      lia
    have pc := parts_count ps p0
    rw [ej, List.length_cons] at pc
    have s1 : Same H (upd H q (.lst (txs (p0 :: ps)))) := same_new n
    have hq : (upd H q (.lst (txs (p0 :: ps)))) q = some (.lst (txs (p0 :: ps))) := upd_same
    generalize upd H q (.lst (txs (p0 :: ps))) = H1 at s1 hq ⊢
    have l0 := pl p0 List.mem_cons_self
    refine ⟨_, rfl, q, _, 0, _, rfl, rfl, SqL.of hq, atI_nat (j := 0) rfl, _, rfl, _, rfl, by lia, ?_⟩
    rw [slice5]
    dsimp only [tNil, List.append_nil]
    refine names_two (Nat.le_trans (sub_le _ _ _) l0) fun sv H2 s2 hsv => ?_
    have hq2 := s2 _ _ hq
    have e : cutV (txs (p0 :: ps)) (some (1 : Int)) none = txs ps := cut_hi _ 1 (by rw [strs_length]; simp)
    refine ⟨_, rfl, _, rfl, q, _, rfl, SqL.of hq2, fun q3 n3 => ?_⟩
    rw [e]
    have s3 : Same H2 (upd H2 q3 (.lst (txs ps))) := same_new n3
    have hq3 : (upd H2 q3 (.lst (txs ps))) q3 = some (.lst (txs ps)) := upd_same
    generalize upd H2 q3 (.lst (txs ps)) = H3 at s3 hq3 ⊢
    have s03 := s1.trans (s2.trans s3)
    refine ⟨q3, rfl, ⟨_, SqL.of hq3⟩, fun z D hD => comp_list (a := q3) (xs := txs ps) (DuI H3 D ps)
      ⟨upd_same, same_new hD, .nil⟩ (fun i ys H4 _ h => SqL.of (h.same _ _ hq3)) ?_ ?_⟩
    · rintro i v ys H4 hi ⟨hys, s4, pq⟩
      obtain ⟨x, hx, rfl⟩ := txs_get hi
      have hil := (List.getElem?_eq_some_iff.mp hx).1
      have lq := Paired.length pq
      rw [List.length_take] at lq
      refine ⟨_, rfl, x, rfl, pl x (List.mem_cons_of_mem _ (List.mem_of_getElem? hx)), fun m hL H5 t a b s5 nt na nb ht ha hb => ?_, fun hn H5 s5 => ?_⟩
      · have hys5 := s5 _ _ hys
        have aD : a ≠ D := fun z => by rw [z, hys] at na; cases na
        have bD : b ≠ D := fun z => by rw [z, hys] at nb; cases nb
        have tD : t ≠ D := fun z => by rw [z, hys] at nt; cases nt
        refine ⟨hys5, by lia, upd_same, same_upd (s4.trans s5) hD, ?_⟩
        rw [take_succ_at hx]
        refine Paired.snoc (Paired.mapP pq fun _ _ h => h.up hys s5) (.inl ⟨m, t, hL, rfl, a, b, aD, bD, ?_, ?_, ?_⟩)
        · rw [upd_ne tD]; exact ht
        · rw [upd_ne aD]; exact ha
        · rw [upd_ne bD]; exact hb
      · refine ⟨s5 _ _ hys, by lia, upd_same, same_upd (s4.trans s5) hD, ?_⟩
        rw [take_succ_at hx]
        exact Paired.snoc (Paired.mapP pq fun _ _ h => h.up hys s5) (.inr ⟨hn, rfl⟩)
    · rintro ys H4 ⟨hys, s4, pq⟩
      rw [strs_length, List.take_length] at pq
      have s24 := s3.trans s4
      have s04 := s03.trans s4
      refine ⟨_, rfl, q, _, 0, _, rfl, rfl, SqL.of (s24 _ _ hq2), atI_nat (j := 0) rfl, _, rfl, _, rfl, by lia, ?_⟩
      rw [slice05]
      refine ⟨rfl, _, rfl, ?_⟩
      have noR : ∀ {ms S}, Reads t ms S → strSub p0 0 5 = "start" ∧ NamesOf (strSub p0 5 p0.length) S ∧ ∀ x ∈ ps, ∃ m, Line x m := fun {ms S} hR => by
        have e := hR.eq
        rw [ep] at e
        obtain ⟨e1, e2⟩ := List.cons.inj e
        obtain ⟨a1, a2⟩ := of_start e1 hR.sn
        refine ⟨a1, a2, fun x hx => ?_⟩
        rw [e2] at hx
        obtain ⟨m, hm, rfl⟩ := List.mem_map.mp hx
        exact ⟨m, hR.nm m hm, rfl⟩
      by_cases c1 : strSub p0 0 5 = "start"
      · rw [show (!decide (V.str (strSub p0 0 5) = V.str ("start" : PySem.Str))) = false by simp [c1]]
        refine iteF ?_
        refine ⟨_, rfl, rfl, _, rfl, ?_⟩
        rcases hsv with ⟨S, qs0, hS, rfl, hqs⟩ | ⟨hno, rfl⟩
        · refine iteF ?_
          obtain ⟨bs, hbs, b1, b2⟩ := rows_none (fun _ _ z => z) pq
          refine ⟨_, rfl, D, ys, bs, rfl, rfl, SqL.of hys, hbs, hr.in1.units0, _, rfl, ?_⟩
          cases hb : bs.any id with
          | true =>
            refine iteT ?_
            refine k2 (fun ms S hR => ?_) H4 s04
            rw [b2 (noR hR).2.2] at hb
            cases hb
          | false =>
            refine iteF ?_
            obtain ⟨ms, qs, e1, e2, rfl, e4⟩ := rows_all pq (b1 hb)
            have hR : Reads t ms S := ⟨e2, hS.1, by rw [ep, start_of c1 hS, ← e1]⟩
            have hfit := hR.fits ht
            refine ⟨_, rfl, _, rfl, D, qs0, ms, S, rfl, ⟨qs, SqL.of hys, Paired.mapP e4 fun m q ⟨l, g, _, _, a1, a2, a3⟩ => ⟨l, g, a1, a2, a3⟩⟩, SqL.of (s24 _ _ hqs), hfit, fun H5 s5 => ⟨_, rfl, ?_⟩⟩
            rw [bad_net hR.nm hR.sn]
            have s05 := s04.trans s5
            cases hmk : mkNet ms S with
            | false =>
              refine iteT ?_
              have := k1 ms S hR H5 s05
              unfold dueT at this
              rw [hmk] at this
              exact this
            | true =>
              refine iteF ?_
              have so := sound_of hmk
              have sl := start_le hmk
              have nl : (names ms).length ≤ 12 := by unfold names; rw [List.length_map]; exact so.ml
              have sm := so.small sl
              refine ⟨_, rfl, qs0, S, rfl, SqL.of ((s24.trans s5) _ _ hqs), by lia, fun q6 n6 => ⟨q6, srt S, rfl, SqL.of upd_same, fun x hx => isNm_len (sm.sn x hx), by rw [srt_len]; lia, fun H7 s7 => ?_⟩⟩
              have s6 : Same H5 (upd H5 q6 (.lst (txs (srt S)))) := same_new n6
              have s57 := s6.trans s7
              have ll := len_start sm.sn (by rw [srt_len]; exact sl)
              refine ⟨_, _, rfl, rfl, ?_, by show 1 ≤ sizeLine; lia, fun r nr => ?_⟩
              · have e9 : ("start" : PySem.Str).length + (lstT (srt S)).length = (startT (srt S)).length := by rw [← startT_eq, len_app]
                lia
              rw [startT_eq]
              have s07 := s05.trans s57
              have nr0 : H r = none := s07.free nr
              have s8 : Same H7 (upd H7 r (.lst [V.str (startT (srt S))])) := same_new nr
              have hr8 : (upd H7 r (.lst [V.str (startT (srt S))])) r = some (.lst (txs [startT (srt S)])) := upd_same
              generalize upd H7 r (.lst [V.str (startT (srt S))]) = H8 at s8 hr8 ⊢
              have s08 := s07.trans s8
              have s48 := s5.trans (s57.trans s8)
              have pk : Paired (fun (k : PySem.Str) (q : Addr) => ∃ r, H8 q = some (.tup (.str k :: r))) (names ms) qs := by
                have : ∀ {ms : List Mv} {qs : List Addr}, Paired (RdMv D H4) ms qs → Paired (fun (k : PySem.Str) (q : Addr) => ∃ r, H8 q = some (.tup (.str k :: r))) (names ms) qs := fun {ms qs} h => by
                  induction h with
                  | nil => exact .nil
                  | cons hh _ ih =>
                    obtain ⟨l, g, _, _, a1, _⟩ := hh
                    exact .cons ⟨_, s48 _ _ a1⟩ ih
                exact this e4
              refine ⟨_, rfl, D, qs, names ms, rfl, SqL.of (s48 _ _ hys), pk, so.nd, by lia, fun D9 pp n9 hpp hps => ?_⟩
              have s9 : Same H8 (upd H8 D9 (.lst (pp.map fun i => V.ref (qs.getD i 0)))) := same_new n9
              have hD9 : (upd H8 D9 (.lst (pp.map fun i => V.ref (qs.getD i 0)))) D9 = some (.lst (pp.map fun i => V.ref (qs.getD i 0))) := upd_same
              have rD9 : r ≠ D9 := ne_of_none hr8 n9
              generalize upd H8 D9 (.lst (pp.map fun i => V.ref (qs.getD i 0))) = H9 at s9 hD9 ⊢
              have s09 := s08.trans s9
              have n90 : H D9 = none := s08.free n9
              have lpp := hpp.length_eq
              rw [List.length_range] at lpp
              refine ⟨D9, rfl, ⟨_, SqL.of hD9⟩, for_list (K := K) (a := D9) (xs := pp.map fun i => V.ref (qs.getD i 0)) (fun i σ H2 => DtI H7 t qs0 D r D9 (srt (names ms)) ms S i σ H2 ∧ H2 D9 = some (.lst (pp.map fun i => V.ref (qs.getD i 0))))
                ⟨⟨_, none, none, none, rfl, s8.trans s9, s9 _ _ hr8, rD9⟩, hD9⟩ (fun i σ H2 _ h => SqL.of h.2) ?_ ?_⟩
              · rintro i v σ H2 hi ⟨⟨v1, v5, v6, v7, rfl, sm2, hr2, _⟩, hd2⟩
                rw [List.getElem?_map] at hi
                cases ej : pp[i]? with
                | none => rw [ej] at hi; cases hi
                | some j =>
                  rw [ej] at hi
                  obtain rfl := Option.some.inj hi
                  have hip := (List.getElem?_eq_some_iff.mp ej).1
                  have hj : j < (names ms).length := List.mem_range.mp (hpp.mem_iff.mp (List.mem_of_getElem? ej))
                  have nmm : (names ms).length = ms.length := by unfold names; rw [List.length_map]
                  have lq4 := Paired.length e4
                  have eqj : qs[j]? = some (qs.getD j 0) := by rw [List.getD_eq_getElem?_getD, List.getElem?_eq_getElem (by lia)]; rfl
                  obtain ⟨m, hm, l, g, _, _, a1, a2, a3⟩ := paired_get e4 eqj
                  have hmm := List.mem_of_getElem? hm
                  have ex : (srt (names ms))[i]? = some m.1 := by
                    rw [← hps, List.getElem?_map, ej]
                    show some ((names ms).getD j "") = some m.1
                    unfold names
                    rw [List.getD_eq_getElem?_getD, List.getElem?_map, hm]
                    rfl
                  have s42 := s5.trans (s57.trans sm2)
                  have b1' := s42 _ _ a1
                  have b2' := s42 _ _ a2
                  have b3' := s42 _ _ a3
                  obtain ⟨u1, u2, _, tk4, gv4⟩ := isMv_tk (so.mv m hmm)
                  have nmv : NmMv (m.1, srt m.2.1, srt m.2.2) := ⟨(hR.nm m hmm).1, fun x hx => (hR.nm m hmm).2.1 x (srt_mem.mp hx), fun x hx => (hR.nm m hmm).2.2 x (srt_mem.mp hx)⟩
                  have lln := len_line nmv (by show (srt m.2.1).length ≤ 4; rw [srt_len]; exact tk4) (by show (srt m.2.2).length ≤ 4; rw [srt_len]; exact gv4)
                  rw [← lineT_eq] at lln
                  simp only [len_app] at lln
                  refine ⟨qs.getD j 0, _, rfl, SqT.of b1', rfl, _, _, rfl, _, _, rfl, _, _, rfl, rfl, ?_⟩
                  refine ⟨_, rfl, .inl ⟨rfl, _, SqL.of hr2⟩, _, rfl, _, _, rfl, rfl, by lia, ?_⟩
                  refine ⟨_, rfl, l, m.2.1, rfl, SqL.of b2', by lia, fun q10 n10 => ⟨q10, srt m.2.1, rfl, SqL.of upd_same, fun x hx => isNm_len (nmv.2.1 x hx), by rw [srt_len]; lia, fun H11 s11 => ?_⟩⟩
                  have t1 : Same H2 H11 := (same_new n10).trans s11
                  refine ⟨_, _, rfl, rfl, by rw [len_app]; lia, _, _, rfl, rfl, by rw [len_app, len_app]; lia, ?_⟩
                  refine ⟨_, rfl, g, m.2.2, rfl, SqL.of (t1 _ _ b3'), by lia, fun q12 n12 => ⟨q12, srt m.2.2, rfl, SqL.of upd_same, fun x hx => isNm_len (nmv.2.2 x hx), by rw [srt_len]; lia, fun H13 s13 => ?_⟩⟩
                  have t2 : Same H2 H13 := t1.trans ((same_new n12).trans s13)
                  refine ⟨_, _, rfl, rfl, by rw [len_app, len_app, len_app]; lia, ?_⟩
                  refine ⟨r, _, _, rfl, rfl, t2 _ _ hr2, ?_, ⟨v1, _, _, _, rfl, same_upd (sm2.trans t2) nr, ?_, rD9⟩, ?_⟩
                  · rw [strs_length, List.length_cons, List.length_map, List.length_take, srt_len]
                    lia
                  · rw [upd_same, lineT_eq, take_succ_at ex]
                    unfold mvS
                    rw [List.map_append, List.map_singleton, tkOf_eq so.nd hmm, gvOf_eq so.nd hmm]
                    unfold txs
                    rw [List.map_cons, List.map_cons, List.map_append]
                    rfl
                  · rw [upd_ne (Ne.symm rD9)]
                    exact t2 _ _ hd2
              · rintro σ H2 ⟨⟨v1, v5, v6, v7, rfl, sm2, hr2, _⟩, hd2⟩
                rw [List.length_map, lpp, ← srt_len (names ms), List.take_length] at hr2
                have et : (srt (names ms)).map (fun x => lineT (mvS ms x)) = (sortMs ms).map lineT := by
                  unfold sortMs
                  rw [List.map_map]
                  rfl
                rw [et] at hr2
                refine ⟨rfl, _, rfl, "; ", r, _, rfl, rfl, SqL.of hr2, sm.join, ?_⟩
                have := k1 ms S hR H2 (s07.trans sm2)
                unfold dueT at this
                rw [hmk] at this
                exact this
        · refine iteT ?_
          refine iteT ?_
          exact k2 (fun ms S hR => hno S (noR hR).2.1) H4 s04
      · rw [show (!decide (V.str (strSub p0 0 5) = V.str ("start" : PySem.Str))) = true by simp [c1]]
        refine iteT ?_
        refine iteT ?_
        exact k2 (fun ms S hR => c1 (noR hR).1) H4 s04
end
end Uf
end
/-! UfW1 -/
section
set_option Elab.async false
set_option linter.all false
set_option maxRecDepth 100000
set_option maxHeartbeats 4000000
namespace L2
open PySem
end L2
namespace L2
open PySem PySem.Spec PyProof.Rows UfSrt UfX
section
variable {X : Cx}
def tRev (K : PySem.W.Frag) (te : TE) : TE := fun σ H Q => te σ H fun x H1 => ∃ a xs, x = .ref a ∧ SqL K H1 a xs ∧ ∀ p, H1 p = none → Q (.ref p) (upd H1 p (.lst xs.reverse))
def rMulL : R2 := fun x y H Q => ∃ l xs i, x = .ref l ∧ y = .int i ∧ H l = some (.lst xs) ∧ xs.length * i.toNat ≤ 1000 ∧ 0 ≤ i ∧ i ≤ 1000 ∧ ∀ p, H p = none → Q (.ref p) (upd H p (.lst (List.replicate i.toNat xs).flatten))
end
end L2
end
/-! UfW2 -/
section
set_option Elab.async false
set_option linter.all false
set_option maxRecDepth 100000
set_option maxHeartbeats 4000000
namespace L2
open PySem PySem.Spec PyProof.Rows UfSrt UfX
def RowA (K : PySem.W.Frag) (H : Hp) (x y : V) : Prop := ∃ (p q : Addr) (n : Str) (l g l' g' : Addr) (ts us : List Str), x = .ref p ∧ y = .ref q ∧ SqT K H p [.str n, .ref l, .ref g] ∧ SqT K H q [.str n, .ref l', .ref g'] ∧
  SqL K H l (txs ts) ∧ SqL K H l' (txs ts) ∧ SqL K H g (txs us) ∧ SqL K H g' (txs us)
section
variable {X : Cx}
def rRowsNe (X : Cx) : R2 := fun x y H Q => ∃ p q xs ys, x = .ref p ∧ y = .ref q ∧ X.A.units + 3 < cLine ∧ SqL X.K H p xs ∧ SqL X.K H q ys ∧ Paired (RowA X.K H) xs ys ∧ Q (.bl false) H
end
theorem findObj_dataN {K : PySem.W.Frag} {C : Addr} {od : Option Obj} {name : Str} {a g : Value} (hc : (PySem.W.clsIn K C).isSome = true) (ha : PySem.W.findIn K (.ref C) name = some (some a)) (hg : PySem.W.specialIn K a "__get__" = some (some g)) (ht : PySem.W.takesIn K a = some true) : PySem.W.findObj K C od name = some (.bind g a) := by
  obtain ⟨cd, hc⟩ := Option.isSome_iff_exists.mp hc
  unfold PySem.W.findObj
  rw [hc, Option.bind_some, ha, Option.bind_some]
  simp [hg, ht]
theorem kitx_exc0 {K : PySem.W.Frag} {x C : Addr} {ox : Obj} (G : ExcI K C) : PySem.W.KitX K (.ref x) (.ref C) (fun h => PySem.W.InstAt h x ox C none) where
  ty := fun _ _ _ J => J.type
  it := fun _ _ X _ => by
    obtain ⟨cd, hc, _⟩ := PySem.W.any_some G.hd
    unfold PySem.W.clsIn at hc
    split at hc
    · rename_i c' d' cd' sl' lo
      intro A' Q' E' s' k q
      unfold isType loadHead
      exact wpAny_bind (wpAny_loadPart (k _ _ (X _ _ lo)) (wpAny_pure q))
    · cases hc
  ne := fun h tp dd its n sl X htp => by
    obtain ⟨cd, hc, _⟩ := PySem.W.any_some G.hd
    refine Bool.eq_false_iff.mpr fun q => ?_
    have e : C = tp := Value.ref.inj (beq_iff_eq.mp q)
    subst e
    unfold PySem.W.clsIn at hc
    split at hc
    · rename_i c' d' cd' sl' lo
      have z := (X _ _ lo).symm.trans htp
      cases z
    · cases hc
  ca := fun {prog w A E Q s} X J k => by
    have hf : PySem.W.findObj K C none "__class__" = some (.bind (.builtin "getset_descriptor.__get__") (.builtin "object.__class__")) := findObj_dataN (by obtain ⟨cd, hc, _⟩ := PySem.W.any_some G.hd; rw [hc]; rfl) G.cl G.gt G.tk
    obtain ⟨h, gs, dr, tk, o⟩ := s
    unfold getAttr?
    exact wpAny_bind (wpAny_mkText (exc_getopt X J G.ga G.gn (exc_callC X J G.hm G.ho hf ⟨_, rfl, rfl, k⟩)))
section
variable {X : Cx} {pins : List (Addr × Obj)} {σ : St} {H : Hp} {s : Shared} {A : Around} {E : Value → Shared → Prop}
theorem caught_at0 {a C : Addr} (I : Inv X pins σ H s) (ha : H a = some (CaughtO a (.ref C) none)) : ∃ ox, PySem.W.InstAt s.heap a ox C none := by
  obtain ⟨oe, vs, he, hcl, hdx, hdt⟩ : CaughtIs a (.ref C) none s.heap := (I.hok a _ ha).1
  obtain ⟨oc, odi, oda, osl⟩ := oe
  dsimp only at hcl hdx hdt
  subst hcl hdx hdt
  exact ⟨_, he, rfl, rfl, True.intro⟩
def rIsExc0 (K : PySem.W.Frag) : List V → Hp → VK → Prop := fun xs H Q => ∃ a C c b, xs = [.ref a, c] ∧ H a = some (CaughtO a (.ref C) none) ∧ ExcI K C ∧ Q (.bl b) H ∧
  ((clsV c ≠ .none ∧ PySem.W.kitOne K (.ref C) (clsV c) = some b) ∨ ∃ tp cs, c = .ref tp ∧ H tp = some (.tup cs) ∧ (∀ d ∈ cs, clsV d ≠ .none) ∧ PySem.W.kitAny K (.ref C) (cs.map clsV) = some b)
theorem call_isexc0 : CallR X (.builtin "isinstance") (rIsExc0 X.K) := by
  intro pins s σ H xs us Q I r h
  obtain ⟨a, C, c, b, rfl, ha, G, q, hc⟩ := h
  cases r with
  | cons r0 r1 =>
    cases r1 with
    | cons r2 r3 =>
      cases r3
      obtain rfl := r0
      obtain ⟨ox, J⟩ := caught_at0 I ha
      rcases hc with ⟨hn, e⟩ | ⟨tp, cs, rfl, ht, hn, e⟩
      · rw [clsV_of r2 hn]
        exact PySem.W.kia_one (kitx_exc0 G) I.kIn J e (fun z => nomatch z) fun tk => ⟨.bl b, H, I.tok tk, rfl, q⟩
      · obtain rfl := r2
        obtain ⟨_, its, rv, ob, h1, h2, n, h3⟩ := (show ObjOk X.prog X.w H s.heap tp (.tup cs) from I.hok tp _ ht)
        obtain ⟨oc, odi, oda, osl⟩ := ob
        dsimp only at h2 h3
        subst h2 h3
        refine PySem.W.kia_tup (kitx_exc0 G) I.kIn J h1 ?_ (fun z => nomatch z) fun tk => ⟨.bl b, H, I.tok tk, rfl, q⟩
        rw [clsV_all rv hn]
        exact e
end
end L2
end
/-! UfY12 -/
section
set_option Elab.async false
set_option linter.all false
set_option maxRecDepth 100000
set_option maxHeartbeats 4000000
namespace Uf
open PySem L2 UfSrt UfStr
theorem b_ve : bootBuiltins "ValueError" = some (.type "ValueError") := by decide +kernel
structure Cls16 (mg : Str → Option Value) (NE CO CT CR CF CH CM CN CE CP CW CS CY : Addr) : Prop where
  ne : mg "NetError" = some (.ref NE)
  co : mg "NoNet" = some (.ref CO)
  ct : mg "NoText" = some (.ref CT)
  cr : mg "Crowded" = some (.ref CR)
  cf : mg "Full" = some (.ref CF)
  ch : mg "Held" = some (.ref CH)
  cm : mg "Misfit" = some (.ref CM)
  cn : mg "NoMove" = some (.ref CN)
  ce : mg "NoName" = some (.ref CE)
  cp : mg "NoPlace" = some (.ref CP)
  cw : mg "NoRow" = some (.ref CW)
  cs : mg "NoSpot" = some (.ref CS)
  cy : mg "TooMany" = some (.ref CY)
  ve : mg "ValueError" = none
structure Kind16 (K : PySem.W.Frag) (NE CO CT CR CF CH CM CN CE CP CW CS CY C : Addr) (b : Bool) : Prop where
  un : UnderC K C NE
  ei : ExcI K C
  ka : PySem.W.kitAny K (.ref C) [.ref CR, .ref CF, .ref CH, .ref CM, .ref CN, .ref CE, .ref CP, .ref CW, .ref CS, .ref CY] = some false
  kv : PySem.W.kitOne K (.ref C) (.type "ValueError") = some true
  kt : PySem.W.kitOne K (.ref C) (.ref CT) = some b
  ko : PySem.W.kitOne K (.ref C) (.ref CO) = some (!b)
section
variable {P : Program} {w : World} {K : PySem.W.Frag} {mg : Str → Option Value} {base : Heap}
def spSaid (K : PySem.W.Frag) : Sp := fun vs H Q _ => (∃ t, vs = [.str t] ∧ TextOk t ∧ (∀ ms S, Reads t ms S → ∀ H', Same H H' → Q (.str (dueT ms S)) H') ∧ ((∀ ms S, ¬ Reads t ms S) → ∀ H', Same H H' → Q (.str "no text") H')) ∨
  ∃ v ty, vs = [v] ∧ TyOf K H v ty ∧ PySem.W.kitOne K ty (.type "str") = some false ∧ ∀ H', Same H H' → Q (.str "no text") H'
theorem scSaid : FnScope ["_law_thing", "e"] ["_law_thing"] (defScope sSaid) := ⟨rfl, rfl, rfl, by decide +kernel, rfl, by decide +kernel, by decide +kernel⟩
theorem ok_said {f C NE CO CT CR CF CH CM CN CE CP CW CS CY fR fT : Addr} {fd fdR fdT : FuncData} (F : Fun K "_law_said" "_law_said" sSaid f fd) (T : Txt K mg) (M : Cls16 mg NE CO CT CR CF CH CM CN CE CP CW CS CY)
    (KO : Kind16 K NE CO CT CR CF CH CM CN CE CP CW CS CY CO false) (KT : Kind16 K NE CO CT CR CF CH CM CN CE CP CW CS CY CT true)
    (DR : Def K mg "read_net" sReadN ["text"] fR fdR) (GR : FnOk P w K mg base (CX1 P w) 7 fR fdR ["text"] (spReadNX K C CO CT)) (DT : Def K mg "net_text" sNetT ["net"] fT fdT) (GT : FnOk P w K mg base CX0 5 fT fdT ["net"] (spNetT C)) :
    FnOk P w K mg base (CX1 P w) 8 f fd ["_law_thing"] (spSaid K) := by
  refine F.okX scSaid (fun vs H Q E h => ?_) (fun cdv A outer s H vs Q E hr h => ?_)
  · rcases h with ⟨t, rfl, _⟩ | ⟨v, ty, rfl, _⟩ <;> rfl
  · have hsl := PySem.sizeLine_eq
    have hr5 : Room 5 _ := hr.mono (by decide)
    refine ⟨_, pss_one (ps_try (fun D pins => pss_one (ps_ret (pe_call GT hr5 rfl DT.mg DT.fn.kp DT.bd .nil pass0 (pa_cons (pe_call GR hr rfl DR.mg DR.fn.kp DR.bd .nil
      (passC (i := 1) rfl rfl rfl scSaid.nd rfl rfl rfl M.ne rfl (fun xa =>
        pss_cons (ps_if (pt_val (pe_callB call_isexc0 rfl T.isi b_isi (pa_cons (pv 1) (pa_cons (pe_tup (pa_cons (pe_glob (v := .ref CR) rfl M.cr rfl) (pa_cons (pe_glob (v := .ref CF) rfl M.cf rfl) (pa_cons (pe_glob (v := .ref CH) rfl M.ch rfl) (pa_cons (pe_glob (v := .ref CM) rfl M.cm rfl) (pa_cons (pe_glob (v := .ref CN) rfl M.cn rfl) (pa_cons (pe_glob (v := .ref CE) rfl M.ce rfl) (pa_cons (pe_glob (v := .ref CP) rfl M.cp rfl) (pa_cons (pe_glob (v := .ref CW) rfl M.cw rfl) (pa_cons (pe_glob (v := .ref CS) rfl M.cs rfl) (pa_cons (pe_glob (v := .ref CY) rfl M.cy rfl) pa_nil))))))))))) pa_nil)))) (pss_one (ps_ret pe_str)) pss_nil)
        (pss_cons (ps_if (PW.pt (pw_or (pt_not (pt_val (pe_callB call_isexc0 rfl T.isi b_isi (pa_cons (pv 1) (pa_cons (pe_bltn (v := .ty "ValueError") rfl M.ve b_ve rfl) pa_nil))))) (pw_or1 (pt_cmpR op_eq (pe_callB call_isexc0 rfl T.isi b_isi (pa_cons (pv 1) (pa_cons (pe_glob (v := .ref CT) rfl M.ct rfl) pa_nil))) (pe_callB call_isexc0 rfl T.isi b_isi (pa_cons (pv 1) (pa_cons (pe_glob (v := .ref CO) rfl M.co rfl) pa_nil))) (nomark _))))) (pss_one (ps_ret pe_str)) pss_nil)
        (pss_cons (ps_if (pt_val (pe_callB call_isexc0 rfl T.isi b_isi (pa_cons (pv 1) (pa_cons (pe_glob (v := .ref CT) rfl M.ct rfl) pa_nil)))) (pss_one (ps_ret pe_str)) pss_nil)
        (pss_one (ps_ret pe_str))))) ) (pa_cons (pv 0) pa_nil)) pa_nil))))), ?_⟩
    rcases h with ⟨t, rfl, ht, k1, k2⟩ | ⟨v, ty, rfl, hty, hk, k2⟩
    · refine ⟨_, rfl, .inl ⟨t, rfl, ht, fun ms S hR hmk H1 p s1 N => ?_, fun ms S hR hmk => ?_, fun hn => ?_⟩⟩
      · refine ⟨p, ms, S, rfl, N, start_le hmk, fun H2 s2 => ?_⟩
        have := k1 ms S hR H2 (s1.trans s2)
        unfold dueT at this
        rw [hmk] at this
        exact this
      · have kk : ∀ H', Same H H' → Q (.str "no net") H' := fun H' s' => by
          have := k1 ms S hR H' s'
          unfold dueT at this
          rw [hmk] at this
          exact this
        intro H1 s1
        refine ⟨CO, rfl, KO.un, fun e ne => ?_⟩
        have s2 : Same H1 (upd H1 e (CaughtO e (.ref CO) none)) := same_new ne
        have he : (upd H1 e (CaughtO e (.ref CO) none)) e = some (CaughtO e (.ref CO) none) := upd_same
        have s02 := s1.trans s2
        generalize upd H1 e (CaughtO e (.ref CO) none) = H2 at s2 he s02 ⊢
        refine ⟨_, rfl, by show 10 ≤ sizeLine; lia, fun tp ntp => ?_⟩
        have s3 : Same H2 (upd H2 tp (.tup [.ref CR, .ref CF, .ref CH, .ref CM, .ref CN, .ref CE, .ref CP, .ref CW, .ref CS, .ref CY])) := same_new ntp
        have htp : (upd H2 tp (.tup [.ref CR, .ref CF, .ref CH, .ref CM, .ref CN, .ref CE, .ref CP, .ref CW, .ref CS, .ref CY])) tp = some (.tup [.ref CR, .ref CF, .ref CH, .ref CM, .ref CN, .ref CE, .ref CP, .ref CW, .ref CS, .ref CY]) := upd_same
        generalize upd H2 tp (.tup [.ref CR, .ref CF, .ref CH, .ref CM, .ref CN, .ref CE, .ref CP, .ref CW, .ref CS, .ref CY]) = H3 at s3 htp ⊢
        refine ⟨e, CO, _, false, rfl, s3 _ _ he, KO.ei, ?_, .inr ⟨tp, _, rfl, htp, (fun d hd => by simp at hd; rcases hd with rfl | rfl | rfl | rfl | rfl | rfl | rfl | rfl | rfl | rfl <;> exact fun z => nomatch z), KO.ka⟩⟩
        refine ⟨_, rfl, ?_⟩
        refine iteF ?_
        refine ⟨_, rfl, e, CO, _, true, rfl, s3 _ _ he, KO.ei, ?_, .inl ⟨(fun z => nomatch z), KO.kv⟩⟩
        refine ⟨_, rfl, ?_⟩
        refine iteF ?_
        refine ⟨_, rfl, e, CO, _, false, rfl, s3 _ _ he, KO.ei, ?_, .inl ⟨(fun z => nomatch z), KO.kt⟩⟩
        refine ⟨_, rfl, e, CO, _, !false, rfl, s3 _ _ he, KO.ei, ?_, .inl ⟨(fun z => nomatch z), KO.ko⟩⟩
        refine ⟨rfl, _, rfl, ?_⟩
        refine iteF ?_
        refine ⟨_, rfl, e, CO, _, false, rfl, s3 _ _ he, KO.ei, ?_, .inl ⟨(fun z => nomatch z), KO.kt⟩⟩
        refine ⟨_, rfl, ?_⟩
        refine iteF ?_
        exact kk H3 (s02.trans s3)
      · have kk := k2 hn
        intro H1 s1
        refine ⟨CT, rfl, KT.un, fun e ne => ?_⟩
        have s2 : Same H1 (upd H1 e (CaughtO e (.ref CT) none)) := same_new ne
        have he : (upd H1 e (CaughtO e (.ref CT) none)) e = some (CaughtO e (.ref CT) none) := upd_same
        have s02 := s1.trans s2
        generalize upd H1 e (CaughtO e (.ref CT) none) = H2 at s2 he s02 ⊢
        refine ⟨_, rfl, by show 10 ≤ sizeLine; lia, fun tp ntp => ?_⟩
        have s3 : Same H2 (upd H2 tp (.tup [.ref CR, .ref CF, .ref CH, .ref CM, .ref CN, .ref CE, .ref CP, .ref CW, .ref CS, .ref CY])) := same_new ntp
        have htp : (upd H2 tp (.tup [.ref CR, .ref CF, .ref CH, .ref CM, .ref CN, .ref CE, .ref CP, .ref CW, .ref CS, .ref CY])) tp = some (.tup [.ref CR, .ref CF, .ref CH, .ref CM, .ref CN, .ref CE, .ref CP, .ref CW, .ref CS, .ref CY]) := upd_same
        generalize upd H2 tp (.tup [.ref CR, .ref CF, .ref CH, .ref CM, .ref CN, .ref CE, .ref CP, .ref CW, .ref CS, .ref CY]) = H3 at s3 htp ⊢
        refine ⟨e, CT, _, false, rfl, s3 _ _ he, KT.ei, ?_, .inr ⟨tp, _, rfl, htp, (fun d hd => by simp at hd; rcases hd with rfl | rfl | rfl | rfl | rfl | rfl | rfl | rfl | rfl | rfl <;> exact fun z => nomatch z), KT.ka⟩⟩
        refine ⟨_, rfl, ?_⟩
        refine iteF ?_
        refine ⟨_, rfl, e, CT, _, true, rfl, s3 _ _ he, KT.ei, ?_, .inl ⟨(fun z => nomatch z), KT.kv⟩⟩
        refine ⟨_, rfl, ?_⟩
        refine iteF ?_
        refine ⟨_, rfl, e, CT, _, true, rfl, s3 _ _ he, KT.ei, ?_, .inl ⟨(fun z => nomatch z), KT.kt⟩⟩
        refine ⟨_, rfl, e, CT, _, !true, rfl, s3 _ _ he, KT.ei, ?_, .inl ⟨(fun z => nomatch z), KT.ko⟩⟩
        refine ⟨rfl, _, rfl, ?_⟩
        refine iteF ?_
        refine ⟨_, rfl, e, CT, _, true, rfl, s3 _ _ he, KT.ei, ?_, .inl ⟨(fun z => nomatch z), KT.kt⟩⟩
        refine ⟨_, rfl, ?_⟩
        refine iteT ?_
        exact kk H3 (s02.trans s3)
    · refine ⟨_, rfl, .inr ⟨v, ty, rfl, hty, hk, ?_⟩⟩
      intro H1 s1
      refine ⟨CT, rfl, KT.un, fun e ne => ?_⟩
      have s2 : Same H1 (upd H1 e (CaughtO e (.ref CT) none)) := same_new ne
      have he : (upd H1 e (CaughtO e (.ref CT) none)) e = some (CaughtO e (.ref CT) none) := upd_same
      have s02 := s1.trans s2
      generalize upd H1 e (CaughtO e (.ref CT) none) = H2 at s2 he s02 ⊢
      refine ⟨_, rfl, by show 10 ≤ sizeLine; lia, fun tp ntp => ?_⟩
      have s3 : Same H2 (upd H2 tp (.tup [.ref CR, .ref CF, .ref CH, .ref CM, .ref CN, .ref CE, .ref CP, .ref CW, .ref CS, .ref CY])) := same_new ntp
      have htp : (upd H2 tp (.tup [.ref CR, .ref CF, .ref CH, .ref CM, .ref CN, .ref CE, .ref CP, .ref CW, .ref CS, .ref CY])) tp = some (.tup [.ref CR, .ref CF, .ref CH, .ref CM, .ref CN, .ref CE, .ref CP, .ref CW, .ref CS, .ref CY]) := upd_same
      generalize upd H2 tp (.tup [.ref CR, .ref CF, .ref CH, .ref CM, .ref CN, .ref CE, .ref CP, .ref CW, .ref CS, .ref CY]) = H3 at s3 htp ⊢
      refine ⟨e, CT, _, false, rfl, s3 _ _ he, KT.ei, ?_, .inr ⟨tp, _, rfl, htp, (fun d hd => by simp at hd; rcases hd with rfl | rfl | rfl | rfl | rfl | rfl | rfl | rfl | rfl | rfl <;> exact fun z => nomatch z), KT.ka⟩⟩
      refine ⟨_, rfl, ?_⟩
      refine iteF ?_
      refine ⟨_, rfl, e, CT, _, true, rfl, s3 _ _ he, KT.ei, ?_, .inl ⟨(fun z => nomatch z), KT.kv⟩⟩
      refine ⟨_, rfl, ?_⟩
      refine iteF ?_
      refine ⟨_, rfl, e, CT, _, true, rfl, s3 _ _ he, KT.ei, ?_, .inl ⟨(fun z => nomatch z), KT.kt⟩⟩
      refine ⟨_, rfl, e, CT, _, !true, rfl, s3 _ _ he, KT.ei, ?_, .inl ⟨(fun z => nomatch z), KT.ko⟩⟩
      refine ⟨rfl, _, rfl, ?_⟩
      refine iteF ?_
      refine ⟨_, rfl, e, CT, _, true, rfl, s3 _ _ he, KT.ei, ?_, .inl ⟨(fun z => nomatch z), KT.kt⟩⟩
      refine ⟨_, rfl, ?_⟩
      refine iteT ?_
      exact k2 H3 (s02.trans s3)
end
end Uf
end
/-! UfY13 -/
section
set_option Elab.async false
set_option linter.all false
set_option maxRecDepth 100000
set_option maxHeartbeats 4000000
namespace Uf
open PySem L2 UfSrt UfStr PySem.Builtin PySem.Builtin.Str PySem.StrLaws
structure TextIn (t : PySem.Str) : Prop where
  len : t.length ≤ 900
  bl : blanks t ≤ 56
theorem TextIn.ok {t : PySem.Str} (h : TextIn t) : TextOk t := ⟨by have := h.len; lia, by have := h.bl; lia⟩
theorem slice_from (p : PySem.Str) (a : Nat) : Txt.slice p (some (a : Int)) none = strSub p a p.length := by
  by_cases h : a ≤ p.length
  · exact slice_hi p h
  · refine UfStr.str_ext ?_
    rw [strSub_toList, List.drop_of_length_le (by rw [← UfStr.len_codes]; lia), List.take_nil]
    unfold Txt.slice
    have e : strSliceIndices (some (a : Int)) none 1 p.length = [] := by
      rw [sliceIdx_none_hi]
      simp only [strSliceIndices, sliceRange]
      have h1 : ¬ ((a : Int) < 0) := by lia
      have h2 : ¬ ((p.length : Int) < 0) := by lia
      simp only [h1, h2, if_false]
      have e1 : max (0 : Int) (min (a : Int) (p.length : Int)) = p.length := by lia
      have e2 : max (0 : Int) (min (p.length : Int) (p.length : Int)) = p.length := by lia
      simp [e1, e2]
    rw [e]
    by_cases z : p.length = 0
    · rw [if_pos (by simp [z])]
      have : p.cps.toList.length = 0 := by rw [← UfStr.len_codes]; exact z
      exact List.eq_nil_of_length_eq_zero this
    · rw [if_neg (by simp; lia)]
      rfl
theorem cut_codes (p : PySem.Str) (a : Nat) : (strSub p a p.length).cps.toList = p.cps.toList.drop a := by
  rw [strSub_toList]
  refine List.take_of_length_le ?_
  rw [List.length_drop, UfStr.len_codes]
  lia
theorem cuts_ok {p : PySem.Str} {a b : Nat} (hab : a ≤ b) : (strSub p 0 a).length + (strSub p b p.length).length ≤ p.length ∧ blanks (strSub p 0 a) + blanks (strSub p b p.length) ≤ blanks p := by
  have lp := UfStr.len_codes p
  rw [UfStr.len_codes (strSub p 0 a), UfStr.len_codes (strSub p b p.length)]
  unfold blanks
  rw [cut_codes, strSub_toList, List.drop_zero, Nat.sub_zero]
  have e : p.cps.toList = p.cps.toList.take a ++ ((p.cps.toList.drop a).take (b - a) ++ p.cps.toList.drop b) := by
    have : (p.cps.toList.drop a).drop (b - a) = p.cps.toList.drop b := by rw [List.drop_drop]; congr 1; lia
    rw [← this, List.take_append_drop, List.take_append_drop]
  constructor
  · have := congrArg List.length e
    rw [List.length_append, List.length_append] at this
    lia
  · have := congrArg (List.count 32) e
    rw [List.count_append, List.count_append] at this
    lia
theorem blanks_le (x : PySem.Str) : blanks x ≤ x.length := by
  unfold blanks
  rw [UfStr.len_codes]
  exact List.count_le_length
section
variable {P : Program} {w : World} {K : PySem.W.Frag} {mg : PySem.Str → Option Value} {base : Heap}
def spSpoiled : Sp := fun vs H Q _ => ∃ (t : PySem.Str) (n : Int), vs = [.str t, .int n] ∧ TextIn t ∧ ∀ t', TextOk t' → Q (.str t') H
theorem scSpoiled : FnScope ["_law_text", "_law_cell", "_law_way", "_law_at", "_law_sign"] ["_law_text", "_law_cell"] (defScope sSpoiled) := ⟨rfl, rfl, rfl, by decide +kernel, rfl, by decide +kernel, by decide +kernel⟩
theorem signs_len : ("a:;> s,Az0_-tr\n1" : PySem.Str).cps.toList.length = 16 := by decide +kernel
theorem one_len (c : Nat) : (⟨#[c]⟩ : PySem.Str).length = 1 := rfl
theorem ok_spoiled {f : Addr} {fd : FuncData} (F : Fun K "_law_spoiled" "_law_spoiled" sSpoiled f fd) (T : Txt K mg) : FnOk P w K mg base CX0 1 f fd ["_law_text", "_law_cell"] spSpoiled := by
  refine F.ok scSpoiled (fun vs H Q E h => ?_) (fun cdv A outer s H vs Q E hr h => ?_)
  · obtain ⟨t, n, rfl, _⟩ := h
    rfl
  · obtain ⟨t, n, rfl, ht, k⟩ := h
    have hsl := PySem.sizeLine_eq
    have lt := ht.len
    have lb := ht.bl
    refine ⟨_, pss_cons (ps_set (i := 2) scSpoiled.nd rfl (Or.inl rfl) (pe_op op_mod (pv 1) pe_int))
      (pss_cons (ps_set (i := 3) scSpoiled.nd rfl (Or.inl rfl) (pe_op op_mod (pe_op op_fdiv (pv 1) pe_int) (pe_op op_add (pe_callB call_len rfl T.len b_len (pa_cons (pv 0) pa_nil)) pe_int)))
      (pss_cons (ps_set (i := 4) scSpoiled.nd rfl (Or.inl rfl) (pe_ix ix_str pe_str (pe_op op_mod (pe_op op_fdiv (pe_op op_fdiv (pv 1) pe_int) (pe_op op_add (pe_callB call_len rfl T.len b_len (pa_cons (pv 0) pa_nil)) pe_int)) pe_int) (fun _ _ => rfl)))
      (pss_cons (ps_if (pt_cmpR op_eq (pv 2) pe_int (nomark _)) (pss_one (ps_ret (pe_op op_add_str (pe_op op_add_str (pe_slice sl_str (pv 0) po_none (po_some (pv 3))) (pv 4)) (pe_slice sl_str (pv 0) (po_some (pv 3)) po_none)))) pss_nil)
      (pss_cons (ps_if (pt_cmpR op_eq (pv 2) pe_int (nomark _)) (pss_one (ps_ret (pe_op op_add_str (pe_slice sl_str (pv 0) po_none (po_some (pv 3))) (pe_slice sl_str (pv 0) (po_some (pe_op op_add (pv 3) pe_int)) po_none)))) pss_nil)
      (pss_one (ps_ret (pe_op op_add_str (pe_op op_add_str (pe_slice sl_str (pv 0) po_none (po_some (pv 3))) (pv 4)) (pe_slice sl_str (pv 0) (po_some (pe_op op_add (pv 3) pe_int)) po_none)))))))), ?_⟩
    refine ⟨_, rfl, _, _, rfl, rfl, (by show (0 : Int) < 3; decide), ?_⟩
    refine ⟨_, rfl, _, _, rfl, rfl, ⟨by decide, by decide⟩, _, rfl, _, t.length, rfl, ⟨by lia, rfl⟩, _, _, rfl, rfl, _, _, rfl, rfl, (by lia), ?_⟩
    have d1 : (0 : Int) ≤ n / 3 % ((t.length : Int) + 1) := Int.emod_nonneg _ (by lia)
    have d2 : n / 3 % ((t.length : Int) + 1) < (t.length : Int) + 1 := Int.emod_lt_of_pos _ (by lia)
    obtain ⟨a, ea⟩ := Int.eq_ofNat_of_zero_le d1
    rw [ea] at d2
    have ha : a ≤ t.length := by lia
    have c1 : (0 : Int) ≤ n / 3 / ((t.length : Int) + 1) % 16 := Int.emod_nonneg _ (by lia)
    have c2 : n / 3 / ((t.length : Int) + 1) % 16 < 16 := Int.emod_lt_of_pos _ (by lia)
    refine ⟨_, rfl, _, _, rfl, rfl, ⟨by decide, by decide⟩, _, rfl, _, t.length, rfl, ⟨by lia, rfl⟩, _, _, rfl, rfl, _, _, rfl, rfl, ⟨by lia, by lia⟩, _, _, rfl, rfl, (by show (0 : Int) < 16; decide), _, _, _, rfl, rfl, (by show (16 : Nat) ≤ sizeLine; lia), atI_int 0 c1 (by rw [signs_len]; exact c2), ?_⟩
    generalize ("a:;> s,Az0_-tr\n1" : PySem.Str).cps.toList.getD (n / 3 / ((t.length : Int) + 1) % 16).toNat 0 = c
    have b1 : blanks (⟨#[c]⟩ : PySem.Str) ≤ 1 := blanks_le _
    have sl1 : Txt.slice t none (some (n / 3 % ((t.length : Int) + 1))) = strSub t 0 a := by rw [ea]; exact slice_lo t ha
    have sl2 : Txt.slice t (some (n / 3 % ((t.length : Int) + 1))) none = strSub t a t.length := by rw [ea]; exact slice_from t a
    have sl3 : Txt.slice t (some (n / 3 % ((t.length : Int) + 1) + 1)) none = strSub t (a + 1) t.length := by rw [ea]; exact slice_from t (a + 1)
    obtain ⟨x1, x2⟩ := cuts_ok (p := t) (Nat.le_refl a)
    obtain ⟨y1, y2⟩ := cuts_ok (p := t) (Nat.le_add_right a 1)
    refine ⟨_, rfl, rfl, _, rfl, ?_⟩
    by_cases w0 : n % 3 = 0
    · rw [decide_eq_true (show V.int (n % 3) = V.int 0 by rw [w0])]
      refine iteT ?_
      refine ⟨_, rfl, _, rfl, _, rfl, _, rfl, by lia, ?_⟩
      rw [sl1]
      refine ⟨_, rfl, _, _, rfl, rfl, by rw [one_len]; lia, ?_⟩
      refine ⟨_, rfl, _, rfl, _, rfl, _, rfl, by lia, ?_⟩
      rw [sl2]
      refine ⟨_, _, rfl, rfl, by rw [len_app, one_len]; lia, k _ ⟨by rw [len_app, len_app, one_len]; lia, by rw [blanks_app, blanks_app]; lia⟩⟩
    rw [decide_eq_false (show ¬ V.int (n % 3) = V.int 0 by simp [w0])]
    refine iteF ?_
    refine ⟨_, rfl, rfl, _, rfl, ?_⟩
    by_cases w1 : n % 3 = 1
    · rw [decide_eq_true (show V.int (n % 3) = V.int 1 by rw [w1])]
      refine iteT ?_
      refine ⟨_, rfl, _, rfl, _, rfl, _, rfl, by lia, ?_⟩
      rw [sl1]
      refine ⟨_, rfl, _, rfl, _, _, rfl, rfl, _, rfl, _, rfl, by lia, ?_⟩
      rw [sl3]
      refine ⟨_, _, rfl, rfl, by lia, k _ ⟨by rw [len_app]; lia, by rw [blanks_app]; lia⟩⟩
    rw [decide_eq_false (show ¬ V.int (n % 3) = V.int 1 by simp [w1])]
    refine iteF ?_
    refine ⟨_, rfl, _, rfl, _, rfl, _, rfl, by lia, ?_⟩
    rw [sl1]
    refine ⟨_, rfl, _, _, rfl, rfl, by rw [one_len]; lia, ?_⟩
    refine ⟨_, rfl, _, rfl, _, _, rfl, rfl, _, rfl, _, rfl, by lia, ?_⟩
    rw [sl3]
    refine ⟨_, _, rfl, rfl, by rw [len_app, one_len]; lia, k _ ⟨by rw [len_app, len_app, one_len]; lia, by rw [blanks_app, blanks_app]; lia⟩⟩
end
end Uf
end
/-! UfY14 -/
section
set_option Elab.async false
set_option linter.all false
set_option maxRecDepth 100000
set_option maxHeartbeats 4000000
namespace Uf
open PySem L2 UfSrt UfStr
theorem PE.weak {X : Cx} {e : Expr} {t t' : TE} (h : PE X e t) (hw : ∀ σ H Q, t' σ H Q → t σ H Q) : PE X e t' := fun pins s σ H Q I hq => h pins s σ H Q I (hw σ H Q hq)
inductive CsL : List Expr → List PySem.Str → Prop
  | nil : CsL [] []
  | cons {x : PySem.Str} {j : Nat} {p : Pos} {es : List Expr} {xs : List PySem.Str} : CsL es xs → CsL (.Constant (.str x) j p :: es) (x :: xs)
section
variable {X : Cx}
theorem pa_consts {es : List Expr} {xs : List PySem.Str} (h : CsL es xs) : PA X es (fun _ H Q => Q (txs xs) H) := by
  induction h with
  | nil => exact pa_nil
  | cons _ ih => exact pa_cons pe_str ih
def tTxts (n : Nat) (p : PySem.Str → Prop) : TE := fun _ H Q => ∀ (r : Addr) (xs : List PySem.Str), H r = none → xs.length = n → (∀ x ∈ xs, p x) → Q (.ref r) (upd H r (.lst (txs xs)))
theorem pe_consts {es : List Expr} {xs : List PySem.Str} {n : Nat} {p : PySem.Str → Prop} {pos : Pos} (h : CsL es xs) (hn : xs.length = n) (hs : n ≤ 100) (hp : ∀ x ∈ xs, p x) : PE X (.List es pos) (tTxts n p) := by
  refine PE.weak (pe_lst (pa_consts h)) fun σ H Q q => ⟨?_, fun r nr => q r xs nr hn hp⟩
  have := PySem.sizeLine_eq
  rw [strs_length]
  lia
end
section
variable {P : Program} {w : World} {K : PySem.W.Frag} {mg : PySem.Str → Option Value} {base : Heap}
def spOdd : Sp := fun vs H Q _ => ∃ (n : Int), vs = [.int n] ∧ ∀ t H', Same H H' → TextOk t → Q (.str t) H'
theorem scOdd : FnScope ["_law_number", "_law_some"] ["_law_number"] (defScope sOdd) := ⟨rfl, rfl, rfl, by decide +kernel, rfl, by decide +kernel, by decide +kernel⟩
def Le20 (x : PySem.Str) : Prop := x.length ≤ 20
instance (x : PySem.Str) : Decidable (Le20 x) := inferInstanceAs (Decidable (_ ≤ _))
theorem ok_odd {f : Addr} {fd : FuncData} (F : Fun K "_law_odd" "_law_odd" sOdd f fd) (T : Txt K mg) : FnOk P w K mg base CX0 1 f fd ["_law_number"] spOdd := by
  refine F.ok scOdd (fun vs H Q E h => ?_) (fun cdv A outer s H vs Q E hr h => ?_)
  · obtain ⟨n, rfl, _⟩ := h
    rfl
  · obtain ⟨n, rfl, k⟩ := h
    have hsl := PySem.sizeLine_eq
    refine ⟨_, pss_cons (ps_set (i := 1) scOdd.nd rfl (Or.inl rfl) (pe_consts (n := 10) (p := Le20) (.cons (.cons (.cons (.cons (.cons (.cons (.cons (.cons (.cons (.cons .nil)))))))))) rfl (by decide) (by decide +kernel)))
      (pss_cons (ps_set (i := 1) scOdd.nd rfl (Or.inl rfl) (pe_op op_cat (pv 1) (pe_consts (n := 6) (p := Le20) (.cons (.cons (.cons (.cons (.cons (.cons .nil)))))) rfl (by decide) (by decide +kernel))))
      (pss_cons (ps_set (i := 1) scOdd.nd rfl (Or.inl rfl) (pe_op op_cat (pv 1) (pe_consts (n := 4) (p := Le20) (.cons (.cons (.cons (.cons .nil)))) rfl (by decide) (by decide +kernel))))
      (pss_one (ps_ret (pe_ix ix_list (pv 1) (pe_op op_mod (pv 0) pe_int) (fun _ _ => rfl)))))), ?_⟩
    intro r xs nr lx px
    have s1 : Same H (upd H r (.lst (txs xs))) := same_new nr
    have h1 : (upd H r (.lst (txs xs))) r = some (.lst (txs xs)) := upd_same
    generalize upd H r (.lst (txs xs)) = H1 at s1 h1 ⊢
    refine ⟨_, rfl, fun r2 ys nr2 ly py => ?_⟩
    have s2 : Same H1 (upd H1 r2 (.lst (txs ys))) := same_new nr2
    have h2 : (upd H1 r2 (.lst (txs ys))) r2 = some (.lst (txs ys)) := upd_same
    have h12 := s2 _ _ h1
    have s02 := s1.trans s2
    generalize upd H1 r2 (.lst (txs ys)) = H2 at s2 h2 h12 s02 ⊢
    refine ⟨r, r2, _, _, rfl, rfl, h12, h2, by rw [strs_length, strs_length]; lia, fun r3 nr3 => ?_⟩
    have e3 : txs xs ++ txs ys = txs (xs ++ ys) := by unfold txs; rw [List.map_append]
    rw [e3]
    have s3 : Same H2 (upd H2 r3 (.lst (txs (xs ++ ys)))) := same_new nr3
    have h3 : (upd H2 r3 (.lst (txs (xs ++ ys)))) r3 = some (.lst (txs (xs ++ ys))) := upd_same
    have s03 := s02.trans s3
    have lz : (xs ++ ys).length = 16 := by rw [List.length_append]; lia
    have pz : ∀ x ∈ xs ++ ys, Le20 x := fun x hx => (List.mem_append.mp hx).elim (px x) (py x)
    clear e3
    generalize xs ++ ys = zs at s3 h3 s03 lz pz ⊢
    generalize upd H2 r3 (.lst (txs zs)) = H3 at s3 h3 s03 ⊢
    refine ⟨_, rfl, fun r4 us nr4 lu pu => ?_⟩
    have s4 : Same H3 (upd H3 r4 (.lst (txs us))) := same_new nr4
    have h4 : (upd H3 r4 (.lst (txs us))) r4 = some (.lst (txs us)) := upd_same
    have h34 := s4 _ _ h3
    have s04 := s03.trans s4
    generalize upd H3 r4 (.lst (txs us)) = H4 at s4 h4 h34 s04 ⊢
    refine ⟨r3, r4, _, _, rfl, rfl, h34, h4, by rw [strs_length, strs_length]; lia, fun r5 nr5 => ?_⟩
    have e5 : txs zs ++ txs us = txs (zs ++ us) := by unfold txs; rw [List.map_append]
    rw [e5]
    have s5 : Same H4 (upd H4 r5 (.lst (txs (zs ++ us)))) := same_new nr5
    have h5 : (upd H4 r5 (.lst (txs (zs ++ us)))) r5 = some (.lst (txs (zs ++ us))) := upd_same
    have s05 := s04.trans s5
    have lw : (zs ++ us).length = 20 := by rw [List.length_append]; lia
    have pw : ∀ x ∈ zs ++ us, Le20 x := fun x hx => (List.mem_append.mp hx).elim (pz x) (pu x)
    clear e5
    generalize zs ++ us = ws at s5 h5 s05 lw pw ⊢
    generalize upd H4 r5 (.lst (txs ws)) = H5 at s5 h5 s05 ⊢
    have d1 : (0 : Int) ≤ n % 20 := Int.emod_nonneg _ (by lia)
    have d2 : n % 20 < 20 := Int.emod_lt_of_pos _ (by lia)
    have hi : (n % 20).toNat < ws.length := by lia
    refine ⟨_, rfl, _, rfl, _, _, rfl, rfl, (by show (0 : Int) < 20; decide), r5, _, _, _, rfl, rfl, SqL.of h5, atI_txs d1 (by lia), ?_⟩
    have e6 : ws.getD (n % 20).toNat "" = ws[(n % 20).toNat] := by rw [List.getD_eq_getElem?_getD, List.getElem?_eq_getElem hi]; rfl
    rw [e6]
    have l20 : (ws[(n % 20).toNat]).length ≤ 20 := pw _ (List.getElem_mem hi)
    exact k _ _ s05 ⟨by lia, by have := blanks_le (ws[(n % 20).toNat]); lia⟩
end
end Uf
end
/-! UfY15 -/
section
set_option Elab.async false
set_option linter.all false
set_option maxRecDepth 100000
set_option maxHeartbeats 4000000
namespace Uf
open PySem L2 UfSrt UfStr
theorem e15 : (10 : Int) ^ (15 : Int).toNat = 1000000000000000 := by decide
theorem seq_key {t u : TS} {D : Ends} {σ : St} {H : Hp} (Mid : St → Hp → Prop) (h2 : ∀ σ1 H1, Mid σ1 H1 → u D σ1 H1) (h1 : ∀ N : St → Hp → Prop, (∀ σ1 H1, Mid σ1 H1 → N σ1 H1) → t { D with nx := N } σ H) : tSeq t u D σ H := h1 (u D) h2
theorem cut_take (xs : List PySem.Str) (k : Nat) : cutV (txs xs) none (some ((k : Nat) : Int)) = txs (xs.take k) := by
  unfold cutV
  rw [HT.sIx_none, HT.sIx_nat, List.drop_zero, Nat.sub_zero, ← List.take_eq_take_min]
  unfold txs
  rw [List.map_take]
theorem cut_script (ns : List Int) (lo hi : Nat) : ∃ cs : List Int, cutV (ns.map V.int) (some ((lo : Nat) : Int)) (some ((hi : Nat) : Int)) = cs.map V.int ∧ cs.length ≤ hi - lo := by
  refine ⟨(ns.drop (HT.sIx ns.length 0 (some ((lo : Nat) : Int)))).take (HT.sIx ns.length ns.length (some ((hi : Nat) : Int)) - HT.sIx ns.length 0 (some ((lo : Nat) : Int))), ?_, ?_⟩
  · unfold cutV
    rw [List.length_map, List.map_take, List.map_drop]
  · rw [List.length_take]
    have e1 : HT.sIx ns.length 0 (some ((lo : Nat) : Int)) = min lo ns.length := HT.sIx_nat _ _ lo
    have e2 : HT.sIx ns.length ns.length (some ((hi : Nat) : Int)) = min hi ns.length := HT.sIx_nat _ _ hi
    rw [e1, e2, List.length_drop]
    omega
def Nb (x : PySem.Str) : Prop := x.length ≤ 8 ∧ blanks x = 0
instance (x : PySem.Str) : Decidable (Nb x) := inferInstanceAs (Decidable (_ ∧ _))
theorem lst_len : ∀ {xs : List PySem.Str}, (∀ x ∈ xs, Nb x) → (lstT xs).length ≤ 9 * xs.length ∧ blanks (lstT xs) = xs.length := by
  intro xs h
  rw [UfStr.len_codes]
  unfold blanks
  rw [lst_codes]
  induction xs with
  | nil => exact ⟨Nat.le_refl _, rfl⟩
  | cons x xs ih =>
    obtain ⟨h1, h2⟩ := h x (List.mem_cons_self ..)
    obtain ⟨i1, i2⟩ := ih fun y hy => h y (List.mem_cons_of_mem _ hy)
    unfold blanks at h2
    rw [UfStr.len_codes] at h1
    rw [List.map_cons, List.flatten_cons, List.length_append, List.length_cons, List.length_cons, List.count_append, List.count_cons_self, h2, i2]
    omega
theorem join_len (y : PySem.Str) : ∀ (xs : List PySem.Str) (x : PySem.Str), (PySem.Str.join y (x :: xs)).length = x.length + (xs.map fun z => y.length + z.length).sum
  | [], x => by simp [PySem.Str.join]
  | z :: xs, x => by
    rw [join_two, len_app, len_app, join_len y xs z, List.map_cons, List.sum_cons]
    omega
theorem sum_le {α : Type} {f : α → Nat} {n : Nat} : ∀ {xs : List α}, (∀ x ∈ xs, f x ≤ n) → (xs.map f).sum ≤ n * xs.length
  | [], _ => by simp
  | x :: xs, h => by
    rw [List.map_cons, List.sum_cons, List.length_cons, Nat.mul_succ]
    have h1 := h x (List.mem_cons_self ..)
    have h2 := sum_le (f := f) (n := n) (xs := xs) fun y hy => h y (List.mem_cons_of_mem _ hy)
    omega
structure RowIn (x : PySem.Str) : Prop where
  len : x.length ≤ 100
  bl : blanks x ≤ 8
theorem b_start : blanks "start" = 0 := by decide +kernel
theorem b_colon : blanks ":" = 0 := by decide +kernel
theorem l_sgn : (" >" : PySem.Str).length = 2 := by decide +kernel
theorem b_sgn : blanks " >" = 1 := by decide +kernel
theorem built_in {S rs : List PySem.Str} (hS : ∀ x ∈ S, Nb x) (lS : S.length ≤ 14) (hr : ∀ x ∈ rs, RowIn x) (lr : rs.length ≤ 4) : TextIn (PySem.Str.join "; " ((("start" : PySem.Str) ++ lstT S) :: rs)) := by
  obtain ⟨h1, h2⟩ := lst_len hS
  constructor
  · rw [join_len, len_app, l_start]
    have := sum_le (f := fun z : PySem.Str => ("; " : PySem.Str).length + z.length) (n := 102) (xs := rs) fun x hx => by rw [l_semi]; have := (hr x hx).len; omega
    omega
  · rw [blanks_join, blanks_app, b_start, h2]
    have := sum_le (f := fun z : PySem.Str => blanks "; " + blanks z) (n := 9) (xs := rs) fun x hx => by rw [b_semi]; have := (hr x hx).bl; omega
    omega
theorem row_in {x : PySem.Str} {R G : List PySem.Str} (hx : Nb x) (hR : ∀ x ∈ R, Nb x) (lR : R.length ≤ 3) (hG : ∀ x ∈ G, Nb x) (lG : G.length ≤ 4) : RowIn (x ++ ":" ++ lstT R ++ " >" ++ lstT G) := by
  obtain ⟨h1, h2⟩ := lst_len hR
  obtain ⟨g1, g2⟩ := lst_len hG
  obtain ⟨x1, x2⟩ := hx
  constructor
  · rw [len_app, len_app, len_app, len_app, l_colon, l_sgn]
    omega
  · rw [blanks_app, blanks_app, blanks_app, blanks_app, b_colon, b_sgn, h2, g2]
    omega
theorem Chosen2.in {L R : List PySem.Str} {m : Int} {p : PySem.Str → Prop} (h : Chosen2 L R m) (hp : ∀ x ∈ L, p x) : ∀ x ∈ R, p x := fun x hx => by
  obtain ⟨rest, e⟩ := h.sub
  exact hp x (e.mem_iff.mp (List.mem_append_left _ hx))
theorem chosen_le {L R : List PySem.Str} {m : Int} {k : Nat} (h : Chosen2 L R m) (hm : m ≤ (k : Int)) : R.length ≤ k := by
  have := h.le
  omega
theorem mod4 (x : Int) : x % 4 ≤ ((3 : Nat) : Int) := by omega
theorem mod10 (x : Int) : x % 10 ≤ ((9 : Nat) : Int) := by omega
def many8 : List Int := [1, 2, 3, 1, 2, 3, 1, 0]
theorem many_le (i : Nat) : many8.getD i 0 ≤ ((3 : Nat) : Int) := by
  have h : ∀ x ∈ many8, x ≤ ((3 : Nat) : Int) := by decide
  rw [List.getD_eq_getElem?_getD]
  cases e : many8[i]? with
  | none => decide
  | some x => exact h x (List.mem_of_getElem? e)
theorem ak_codes : ∀ c ∈ ("abcdefghijk" : PySem.Str).cps.toList, c ≠ 32 := by decide +kernel
theorem nb_q {j c : Nat} (h : ("abcdefghijk" : PySem.Str).cps[j]? = some c) : Nb (("q" : PySem.Str) ++ (⟨#[c]⟩ : PySem.Str)) := by
  have hc : c ≠ 32 := ak_codes c (by rw [← Array.getElem?_toList] at h; exact List.mem_of_getElem? h)
  constructor
  · rw [len_app]; exact (by decide : 1 + 1 ≤ 8)
  · rw [blanks_app]
    have e1 : blanks "q" = 0 := by decide +kernel
    have e2 : blanks (⟨#[c]⟩ : PySem.Str) = 0 := by
      show [c].count 32 = 0
      rw [List.count_eq_zero]
      simp
      exact fun z => hc z.symm
    rw [e1, e2]
section
variable {P : Program} {w : World} {K : PySem.W.Frag} {mg : PySem.Str → Option Value} {base : Heap}
def spBuilt (K : PySem.W.Frag) : Sp := fun vs H Q _ => ∃ (a : Addr) (ns : List Int), vs = [.ref a] ∧ SqL K H a (ns.map V.int) ∧ ns.length ≤ 63 ∧ ∀ t H', Same H H' → TextIn t → Q (.str t) H'
abbrev nBuilt : List PySem.Str := ["_law_script", "_law_pool", "_law_number", "_law_start", "_law_rows", "_law_k", "_law_cell", "_law_takes", "_law_gives", "_law_name"]
theorem scBuilt : FnScope ["_law_script", "_law_pool", "_law_number", "_law_start", "_law_rows", "_law_k", "_law_cell", "_law_takes", "_law_gives", "_law_name"] ["_law_script"] (defScope sBuilt) := ⟨rfl, rfl, rfl, by decide +kernel, rfl, by decide +kernel, by decide +kernel⟩
inductive BuI (H : Hp) (a p st rw : Addr) (i : Nat) (σ : St) (H2 : Hp) : Prop
  | mk (v2 v5 v6 v7 v8 v9 : Option V) (rs : List PySem.Str) (q0 : σ = [some (.ref a), some (.ref p), v2, some (.ref st), some (.ref rw), v5, v6, v7, v8, v9]) (q1 : Same H H2) (q2 : H2 rw = some (.lst (txs rs))) (q3 : rs.length = i) (q4 : ∀ x ∈ rs, RowIn x)
inductive BuG (H : Hp) (a p st rw tk : Addr) (k ce : V) (v9 : Option V) (σ : St) (H2 : Hp) : Prop
  | mk (num : Int) (g : Addr) (G : List PySem.Str) (q0 : σ = [some (.ref a), some (.ref p), some (.int num), some (.ref st), some (.ref rw), some k, some ce, some (.ref tk), some (.ref g), v9]) (q1 : Same H H2) (q2 : H2 g = some (.lst (txs G))) (q3 : G.length ≤ 4) (q4 : ∀ x ∈ G, Nb x)
inductive BuN (H : Hp) (a p st rw tk g : Addr) (num : Int) (k ce : V) (σ : St) (H2 : Hp) : Prop
  | mk (x : PySem.Str) (q0 : σ = [some (.ref a), some (.ref p), some (.int num), some (.ref st), some (.ref rw), some k, some ce, some (.ref tk), some (.ref g), some (.str x)]) (q1 : H2 = H) (q4 : Nb x)
inductive BuS (H : Hp) (a p rw : Addr) (v2 v5 v6 v7 v8 v9 : Option V) (n : Nat) (σ : St) (H2 : Hp) : Prop
  | mk (st : Addr) (S : List PySem.Str) (q0 : σ = [some (.ref a), some (.ref p), v2, some (.ref st), some (.ref rw), v5, v6, v7, v8, v9]) (q1 : Same H H2) (q2 : H2 st = some (.lst (txs S))) (q3 : S.length ≤ n) (q4 : ∀ x ∈ S, Nb x)
theorem ok_built {f fCe fCh fLi : Addr} {fd fdCe fdCh fdLi : FuncData} (F : Fun K "_law_built" "_law_built" sBuilt f fd) (T : Txt K mg) (T2 : Txt2 mg)
    (DCe : Def K mg "_law_cell_at" sCell ["_law_script", "_law_k"] fCe fdCe) (GCe : FnOk P w K mg base CX0 1 fCe fdCe ["_law_script", "_law_k"] (spCell K))
    (DCh : Def K mg "_law_choice" sChoice ["_law_pool", "_law_number", "_law_many"] fCh fdCh) (GCh : FnOk P w K mg base CX0 1 fCh fdCh ["_law_pool", "_law_number", "_law_many"] (spChoice K))
    (DLi : Def K mg "_law_listed" sListed ["_law_names"] fLi fdLi) (GLi : FnOk P w K mg base CX0 1 fLi fdLi ["_law_names"] (spListed K)) :
    FnOk P w K mg base CX0 2 f fd ["_law_script"] (spBuilt K) := by
  refine F.ok scBuilt (fun vs H Q E h => ?_) (fun cdv A outer s H vs Q E hr h => ?_)
  · obtain ⟨a, ns, rfl, _⟩ := h
    rfl
  · obtain ⟨a, ns, rfl, ha, hz, kk⟩ := h
    have hsl := PySem.sizeLine_eq
    have hr1 : Room 1 _ := hr.mono (by decide)
    have hu0 := hr.units0
    refine ⟨_, pss_cons (ps_set (i := 1) scBuilt.nd rfl (Or.inl rfl) (pe_consts (n := 9) (p := Nb) (.cons (.cons (.cons (.cons (.cons (.cons (.cons (.cons (.cons .nil))))))))) rfl (by decide) (by decide +kernel)))
      (pss_cons (ps_set (i := 2) scBuilt.nd rfl (Or.inl rfl) (pe_op op_mod (pe_call GCe hr1 rfl DCe.mg DCe.fn.kp DCe.bd .nil pass0 (pa_cons (pv 0) (pa_cons pe_int pa_nil))) (pe_op op_pow pe_int pe_int)))
      (pss_cons (ps_set (i := 3) scBuilt.nd rfl (Or.inl rfl) (pe_call GCh hr1 rfl DCh.mg DCh.fn.kp DCh.bd .nil pass0 (pa_cons (pv 1) (pa_cons (pe_op op_fdiv (pv 2) pe_int) (pa_cons (pe_op op_mod (pv 2) pe_int) pa_nil)))))
      (pss_cons (ps_set (i := 4) scBuilt.nd rfl (Or.inl rfl) (pe_lst pa_nil))
      (pss_cons (ps_for PassesOwn.never rfl (pi_enum rfl T2.enm (pa_cons (pe_slice sl_list (pv 0) (po_some pe_int) (po_some pe_int)) pa_nil)) (pg_tup rfl (pgs_cons (pg_name (i := 5) scBuilt.nd rfl (Or.inl rfl)) (pgs_cons (pg_name (i := 6) scBuilt.nd rfl (Or.inl rfl)) pgs_nil)))
        (pss_cons (ps_set (i := 2) scBuilt.nd rfl (Or.inl rfl) (pe_op op_mod (pe_op op_mul (pv 6) pe_int) (pe_op op_pow pe_int pe_int)))
        (pss_cons (ps_set (i := 7) scBuilt.nd rfl (Or.inl rfl) (pe_call GCh hr1 rfl DCh.mg DCh.fn.kp DCh.bd .nil pass0 (pa_cons (pv 1) (pa_cons (pe_op op_fdiv (pv 2) pe_int) (pa_cons (pe_ix ix_list (pe_lst (pa_cons pe_int (pa_cons pe_int (pa_cons pe_int (pa_cons pe_int (pa_cons pe_int (pa_cons pe_int (pa_cons pe_int (pa_cons pe_int pa_nil))))))))) (pe_op op_mod (pv 2) pe_int) (fun _ _ => rfl)) pa_nil)))))
        (pss_cons (ps_set (i := 8) scBuilt.nd rfl (Or.inl rfl) (pe_call GCh hr1 rfl DCh.mg DCh.fn.kp DCh.bd .nil pass0 (pa_cons (pv 1) (pa_cons (pe_op op_fdiv (pe_op op_fdiv (pv 2) pe_int) pe_int) (pa_cons (pe_op op_mod (pe_op op_fdiv (pv 2) pe_int) pe_int) pa_nil)))))
        (pss_cons (ps_if (PW.pt (pw_and (pt_cmpR op_eq (pe_op op_mod (pe_op op_fdiv (pv 2) pe_int) pe_int) pe_int (nomark _)) (pw_and1 (pt_cmpR ne_nil (pv 8) (pe_lst pa_nil) (nomark _))))) (pss_one (ps_set (i := 8) scBuilt.nd rfl (Or.inl rfl) (pe_op op_cat (pv 8) (pe_slice sl_list (pv 8) po_none (po_some pe_int))))) pss_nil)
        (pss_cons (ps_set (i := 9) scBuilt.nd rfl (Or.inl rfl) (pe_ix ix_list (pe_consts (n := 4) (p := Nb) (.cons (.cons (.cons (.cons .nil)))) rfl (by decide) (by decide +kernel)) (pv 5) (fun _ _ => rfl)))
        (pss_cons (ps_if (pt_cmpR op_eq (pe_op op_mod (pe_op op_fdiv (pv 2) pe_int) pe_int) pe_int (nomark _)) (pss_one (ps_set (i := 9) scBuilt.nd rfl (Or.inl rfl) pe_str)) pss_nil)
        (pss_one (ps_expr (pe_bm PySem.F.plainAttrs_list PySem.F.slot_list_append PySem.F.type_list_append mt_append (pv 4) (pa_cons (pe_op op_add_str (pe_op op_add_str (pe_op op_add_str (pe_op op_add_str (pv 9) pe_str) (pe_call GLi hr1 rfl DLi.mg DLi.fn.kp DLi.bd .nil pass0 (pa_cons (pv 7) pa_nil))) pe_str) (pe_call GLi hr1 rfl DLi.mg DLi.fn.kp DLi.bd .nil pass0 (pa_cons (pv 8) pa_nil))) pa_nil)))))))))))
      (pss_cons (ps_if (pt_cmpR op_eq (pe_op op_mod (pe_op op_fdiv (pe_call GCe hr1 rfl DCe.mg DCe.fn.kp DCe.bd .nil pass0 (pa_cons (pv 0) (pa_cons pe_int pa_nil))) pe_int) pe_int) pe_int (nomark _)) (pss_one (ps_set (i := 3) scBuilt.nd rfl (Or.inl rfl) (pe_op op_cat (pe_slice sl_list (pv 3) po_none (po_some pe_int)) (pe_slice sl_list (pe_comp (N := ["_law_sign"]) (n := 1) (ci := []) rfl (pi_str pe_str) (CSc.of (so := defScope sBuilt) (N0 := ["_law_script", "_law_pool", "_law_number", "_law_start", "_law_rows", "_law_k", "_law_cell", "_law_takes", "_law_gives", "_law_name"]) ⟨rfl, by decide +kernel, by decide +kernel, by decide +kernel, rfl, rfl, by decide +kernel, by decide +kernel⟩) (fun z => ⟨pg_name (i := 0) (nd_of (N := ["_law_sign"]) (by decide +kernel)) rfl (Or.inl rfl), pts_nil, (pe_op op_add_str pe_str (pv 0))⟩)) po_none (po_some (pe_op op_add pe_int (pe_op op_mod (pe_op op_fdiv (pe_call GCe hr1 rfl DCe.mg DCe.fn.kp DCe.bd .nil pass0 (pa_cons (pv 0) (pa_cons pe_int pa_nil))) pe_int) pe_int))))))) pss_nil)
      (pss_cons (ps_if (pt_cmpR op_eq (pe_op op_mod (pe_op op_fdiv (pe_call GCe hr1 rfl DCe.mg DCe.fn.kp DCe.bd .nil pass0 (pa_cons (pv 0) (pa_cons pe_int pa_nil))) pe_int) pe_int) pe_int (nomark _)) (pss_one (ps_set (i := 3) scBuilt.nd rfl (Or.inl rfl) (pe_op op_cat (pv 3) (pe_slice sl_list (pv 3) po_none (po_some pe_int))))) pss_nil)
      (pss_one (ps_ret (pe_bm PySem.F.plainAttrs_str PySem.F.slot_str_join PySem.F.type_str_join mt_join pe_str (pa_cons (pe_op op_cat (pe_lst (pa_cons (pe_op op_add_str pe_str (pe_call GLi hr1 rfl DLi.mg DLi.fn.kp DLi.bd .nil pass0 (pa_cons (pv 3) pa_nil))) pa_nil)) (pv 4)) pa_nil))))))))))
, ?_⟩
    intro p L np lL pL
    have s1 : Same H (upd H p (.lst (txs L))) := same_new np
    have hp1 : (upd H p (.lst (txs L))) p = some (.lst (txs L)) := upd_same
    generalize upd H p (.lst (txs L)) = H1 at s1 hp1 ⊢
    refine ⟨_, rfl, a, ns, 1, rfl, s1.seq ha, hz, _, _, rfl, rfl, ⟨by decide, by decide, by decide⟩, _, _, rfl, rfl, (by rw [e15]; show (0 : Int) < 1000000000000000; decide), ?_⟩
    rw [e15]
    generalize ns.getD 1 0 % 1000000000000000 = num0
    refine ⟨_, rfl, _, rfl, _, _, rfl, rfl, ⟨by decide, by decide⟩, _, rfl, _, _, rfl, rfl, (by show (0 : Int) < 10; decide), p, L, _, _, rfl, SqL.of hp1, by omega, fun H2 st R s2 nst hst ch => ?_⟩
    have lR : R.length ≤ 9 := chosen_le ch (mod10 _)
    have pR := ch.in pL
    clear ch
    have s02 := s1.trans s2
    have hp2 := s2 _ _ hp1
    refine ⟨Nat.zero_le _, fun rw nrw => ?_⟩
    have s3 : Same H2 (upd H2 rw (.lst [])) := same_new nrw
    have hrw : (upd H2 rw (.lst [])) rw = some (.lst (txs [])) := upd_same
    have s03 := s02.trans s3
    generalize upd H2 rw (.lst []) = H3 at s3 hrw s03 ⊢
    obtain ⟨cs, ecs, lcs⟩ := cut_script ns 4 8
    have ecs : cutV (ns.map V.int) (some (4 : Int)) (some (8 : Int)) = cs.map V.int := ecs
    refine ⟨_, rfl, _, rfl, _, rfl, a, _, rfl, s03.seq ha, fun q nq => ?_⟩
    rw [ecs]
    have s4 : Same H3 (upd H3 q (.lst (cs.map V.int))) := same_new nq
    have hq4 : (upd H3 q (.lst (cs.map V.int))) q = some (.lst (cs.map V.int)) := upd_same
    have hrw4 := s4 _ _ hrw
    have s24 := s3.trans s4
    have nqr : q ≠ rw := (ne_of_none hrw nq).symm
    generalize upd H3 q (.lst (cs.map V.int)) = H4 at s4 hq4 hrw4 s24 ⊢
    refine ⟨q, rfl, ⟨_, SqL.of hq4⟩, for_enum (K := K) (a := q) (xs := cs.map V.int) (fun i σ H5 => BuI H2 a p st rw i σ H5 ∧ H5 q = some (.lst (cs.map V.int)))
      ⟨⟨_, none, none, none, none, none, [], rfl, s24, hrw4, rfl, fun x hx => by simp at hx⟩, hq4⟩ (fun i σ H5 _ h => SqL.of h.2) ?_ ?_⟩
    · rintro i v tp σ H5 hi ⟨⟨v2, v5, v6, v7, v8, v9, rs, rfl, sm, hr5, lrs, prs⟩, hq5⟩ ntp
      have hil : i < cs.length := by
        have := (List.getElem?_eq_some_iff.mp hi).1
        rwa [List.length_map] at this
      obtain ⟨ce, rfl⟩ : ∃ z, v = V.int z := by
        rw [List.getElem?_map] at hi
        cases e : cs[i]? with
        | none => rw [e] at hi; cases hi
        | some z => rw [e] at hi; exact ⟨z, (Option.some.inj hi).symm⟩
      have s6 : Same H5 (upd H5 tp (.tup [.int (i : Int), .int ce])) := same_new ntp
      refine ⟨tp, _, rfl, SqT.of upd_same, rfl, _, _, rfl, _, _, rfl, rfl, ?_⟩
      have sm6 := sm.trans s6
      have hr6 := s6 _ _ hr5
      have hq6 := s6 _ _ hq5
      generalize upd H5 tp (.tup [.int (i : Int), .int ce]) = H6 at s6 sm6 hr6 hq6 ⊢
      refine ⟨_, rfl, _, _, rfl, rfl, .inr ⟨by decide, by decide⟩, _, _, rfl, rfl, ⟨by decide, by decide, by decide⟩, _, _, rfl, rfl, (by rw [e15]; show (0 : Int) < 1000000000000000; decide), ?_⟩
      rw [e15]
      refine ⟨_, rfl, _, rfl, _, _, rfl, rfl, ⟨by decide, by decide⟩, by show 8 ≤ sizeLine; omega, fun ri nri => ?_⟩
      have s7 : Same H6 (upd H6 ri (.lst [.int 1, .int 2, .int 3, .int 1, .int 2, .int 3, .int 1, .int 0])) := same_new nri
      have hri : (upd H6 ri (.lst [.int 1, .int 2, .int 3, .int 1, .int 2, .int 3, .int 1, .int 0])) ri = some (.lst (many8.map V.int)) := upd_same
      generalize upd H6 ri (.lst [.int 1, .int 2, .int 3, .int 1, .int 2, .int 3, .int 1, .int 0]) = H7 at s7 hri ⊢
      have sm7 := sm6.trans s7
      refine ⟨_, rfl, _, _, rfl, rfl, (by show (0 : Int) < 8; decide), ri, _, _, _, rfl, rfl, SqL.of hri, atI_ints (Int.emod_nonneg _ (by decide)) (Int.emod_lt_of_pos _ (by decide)), ?_⟩
      refine ⟨p, L, _, _, rfl, SqL.of (sm7 _ _ hp2), by omega, fun H8 tk T8 s8 ntk htk ch8 => ?_⟩
      have lT : T8.length ≤ 3 := chosen_le ch8 (many_le _)
      have pT := ch8.in pL
      clear ch8
      have sm8 := sm7.trans s8
      refine ⟨_, rfl, _, rfl, _, _, rfl, rfl, ⟨by decide, by decide⟩, _, _, rfl, rfl, ⟨by decide, by decide⟩, _, rfl, _, _, rfl, rfl, ⟨by decide, by decide⟩, _, _, rfl, rfl, (by show (0 : Int) < 4; decide), p, L, _, _, rfl, SqL.of (sm8 _ _ hp2), by omega, fun H9 g G s9 ng hg ch9 => ?_⟩
      have lG : G.length ≤ 3 := chosen_le ch9 (mod4 _)
      have pG := ch9.in pL
      clear ch9
      have sm9 := sm8.trans s9
      have s69 := s7.trans (s8.trans s9)
      have htk9 := s9 _ _ htk
      have hr9 := s69 _ _ hr6
      have hq9 := s69 _ _ hq6
      dsimp only [gName]
      refine seq_key (BuG H9 a p st rw tk (.int i) (.int ce) v9) ?_ (fun N hN => ?_)
      · rintro σ1 H10 ⟨num, g1, G1, rfl, s10, hg1, lG1, pG1⟩
        refine fun rn nm nrn lnm pnm => ?_
        have s11 : Same H10 (upd H10 rn (.lst (txs nm))) := same_new nrn
        have hrn : (upd H10 rn (.lst (txs nm))) rn = some (.lst (txs nm)) := upd_same
        have hg11 := s11 _ _ hg1
        have s911 := s10.trans s11
        generalize upd H10 rn (.lst (txs nm)) = H11 at s11 hrn hg11 s911 ⊢
        have hin : i < nm.length := by omega
        refine ⟨_, rfl, rn, _, _, _, rfl, rfl, SqL.of hrn, atI_txs (by omega) (by omega), ?_⟩
        have en : nm.getD ((i : Nat) : Int).toNat "" = nm[i] := by rw [Int.toNat_natCast, List.getD_eq_getElem?_getD, List.getElem?_eq_getElem hin]; rfl
        rw [en]
        have pn : Nb nm[i] := pnm _ (List.getElem_mem hin)
        generalize nm[i] = x0 at pn ⊢
        dsimp only [gName]
        refine seq_key (BuN H11 a p st rw tk g1 num (.int i) (.int ce)) ?_ (fun N hN => ?_)
        · rintro σ2 H12 ⟨x, rfl, rfl, px⟩
          obtain ⟨x1, x2⟩ := px
          obtain ⟨t1, t2⟩ := lst_len pT
          obtain ⟨g11, g12⟩ := lst_len pG1
          refine ⟨_, rfl, .inl ⟨rfl, _, SqL.of (s911 _ _ hr9)⟩, _, rfl, _, _, rfl, rfl, by rw [l_colon]; omega, _, rfl, tk, T8, rfl, SqL.of (s911 _ _ htk9), fun y hy => (pT y hy).1, by omega, fun H13 s13 => ?_⟩
          refine ⟨_, _, rfl, rfl, by rw [len_app, l_colon]; omega, _, _, rfl, rfl, by rw [len_app, len_app, l_colon, l_sgn]; omega, _, rfl, g1, G1, rfl, SqL.of (s13 _ _ hg11), fun y hy => (pG1 y hy).1, by omega, fun H14 s14 => ?_⟩
          have s914 := s911.trans (s13.trans s14)
          refine ⟨_, _, rfl, rfl, by rw [len_app, len_app, len_app, l_colon, l_sgn]; omega, rw, _, _, rfl, rfl, s914 _ _ hr9, by rw [strs_length]; omega, ?_⟩
          refine ⟨⟨_, _, _, _, _, _, rs ++ [x ++ ":" ++ lstT T8 ++ " >" ++ lstT G1], rfl, same_upd (sm9.trans s914) nrw, ?_, by rw [List.length_append, lrs]; rfl, fun y hy => ?_⟩, ?_⟩
          · rw [upd_same]
            unfold txs
            rw [List.map_append]
            rfl
          · rcases List.mem_append.mp hy with hy | hy
            · exact prs y hy
            · rw [List.mem_singleton.mp hy]
              exact row_in ⟨x1, x2⟩ pT lT pG1 lG1
          · rw [upd_ne nqr]
            exact s914 _ _ hq9
        · refine ⟨_, rfl, _, _, rfl, rfl, ⟨by decide, by decide⟩, _, _, rfl, rfl, (by show (0 : Int) < 8; decide), rfl, _, rfl, ?_⟩
          refine ite2 (fun _ => ?_) (fun _ => ?_)
          · exact hN _ _ ⟨_, rfl, rfl, by decide +kernel⟩
          · exact hN _ _ ⟨_, rfl, rfl, pn⟩
      · refine ⟨_, rfl, _, _, rfl, rfl, ⟨by decide, by decide⟩, _, _, rfl, rfl, (by show (0 : Int) < 8; decide), rfl, _, rfl, ?_⟩
        refine ite2 (fun _ => ?_) (fun _ => ?_)
        · refine ⟨_, rfl, Nat.zero_le _, fun e ne => ?_⟩
          have s10 : Same H9 (upd H9 e (.lst [])) := same_new ne
          have he : (upd H9 e (.lst [])) e = some (.lst []) := upd_same
          have hg10 := s10 _ _ hg
          generalize upd H9 e (.lst []) = H10 at s10 he hg10 ⊢
          refine ⟨g, e, _, rfl, rfl, hu0, SqL.of hg10, SqL.of he, _, rfl, ?_⟩
          refine ite2 (fun _ => ?_) (fun _ => ?_)
          · refine ⟨_, rfl, _, rfl, _, rfl, g, _, rfl, SqL.of hg10, fun g1 ng1 => ?_⟩
            rw [show cutV (txs G) none (some 1) = txs (G.take 1) from cut_take G 1]
            have s11 : Same H10 (upd H10 g1 (.lst (txs (G.take 1)))) := same_new ng1
            have hg1 : (upd H10 g1 (.lst (txs (G.take 1)))) g1 = some (.lst (txs (G.take 1))) := upd_same
            have hg11 := s11 _ _ hg10
            generalize upd H10 g1 (.lst (txs (G.take 1))) = H11 at s11 hg1 hg11 ⊢
            have l1 : (G.take 1).length ≤ 1 := by rw [List.length_take]; omega
            refine ⟨g, g1, _, _, rfl, rfl, hg11, hg1, by rw [strs_length, strs_length]; omega, fun g2 ng2 => ?_⟩
            refine hN _ _ ⟨_, g2, G ++ G.take 1, rfl, (s10.trans s11).trans (same_new ng2), ?_, by rw [List.length_append]; omega, fun x hx => ?_⟩
            · rw [upd_same]
              unfold txs
              rw [List.map_append]
            · rcases List.mem_append.mp hx with hx | hx
              · exact pG x hx
              · exact pG x (List.mem_of_mem_take hx)
          · exact hN _ _ ⟨_, g, G, rfl, s10, hg10, by omega, pG⟩
        · refine ite2 (fun h => absurd h (by decide)) (fun _ => ?_)
          exact hN _ _ ⟨_, g, G, rfl, fun _ _ z => z, hg, by omega, pG⟩
    · rintro σ H5 ⟨⟨v2, v5, v6, v7, v8, v9, rs, rfl, sm, hr5, lrs, prs⟩, hq5⟩
      rw [List.length_map] at lrs
      have hst5 := sm _ _ hst
      have sm05 := s02.trans sm
      dsimp only
      refine seq_key (BuS H5 a p rw v2 v5 v6 v7 v8 v9 13) ?_ (fun N hN => ?_)
      · rintro σ1 H6 ⟨st1, S1, rfl, s6, hst6, lS1, pS1⟩
        have sm06 := sm05.trans s6
        refine seq_key (BuS H6 a p rw v2 v5 v6 v7 v8 v9 14) ?_ (fun N hN => ?_)
        · rintro σ2 H7 ⟨st2, S2, rfl, s7, hst7, lS2, pS2⟩
          obtain ⟨l1, l2⟩ := lst_len pS2
          refine ⟨rfl, _, rfl, st2, S2, rfl, SqL.of hst7, fun y hy => (pS2 y hy).1, by omega, fun H8 s8 => ?_⟩
          refine ⟨_, _, rfl, rfl, by rw [l_start]; omega, by show 1 ≤ sizeLine; omega, fun h1 nh1 => ?_⟩
          have s9 : Same H8 (upd H8 h1 (.lst [.str (("start" : PySem.Str) ++ lstT S2)])) := same_new nh1
          have hh1 : (upd H8 h1 (.lst [.str (("start" : PySem.Str) ++ lstT S2)])) h1 = some (.lst (txs [(("start" : PySem.Str) ++ lstT S2)])) := upd_same
          generalize upd H8 h1 (.lst [.str (("start" : PySem.Str) ++ lstT S2)]) = H9 at s9 hh1 ⊢
          have s59 := s6.trans (s7.trans (s8.trans s9))
          refine ⟨_, rfl, h1, rw, _, _, rfl, rfl, hh1, s59 _ _ hr5, by rw [strs_length, strs_length]; show 1 + _ ≤ _; omega, fun h2 nh2 => ?_⟩
          have ej : txs [(("start" : PySem.Str) ++ lstT S2)] ++ txs rs = txs ((("start" : PySem.Str) ++ lstT S2) :: rs) := rfl
          rw [ej]
          have s10 : Same H9 (upd H9 h2 (.lst (txs ((("start" : PySem.Str) ++ lstT S2) :: rs)))) := same_new nh2
          have hh2 : (upd H9 h2 (.lst (txs ((("start" : PySem.Str) ++ lstT S2) :: rs)))) h2 = some (.lst (txs ((("start" : PySem.Str) ++ lstT S2) :: rs))) := upd_same
          generalize upd H9 h2 (.lst (txs ((("start" : PySem.Str) ++ lstT S2) :: rs))) = H10 at s10 hh2 ⊢
          refine ⟨"; ", h2, _, rfl, rfl, SqL.of hh2, join_ok (n := 200) (fun x hx => ?_) ?_, kk _ _ (sm05.trans (s59.trans s10)) (built_in pS2 lS2 prs (by omega))⟩
          · rcases List.mem_cons.mp hx with rfl | hx
            · rw [len_app, l_start]; omega
            · have := (prs x hx).len; omega
          · rw [l_semi, List.length_cons]
            have : (rs.length + 1) * (200 + 2) ≤ 5 * (200 + 2) := Nat.mul_le_mul_right _ (by omega)
            omega
        · refine ⟨_, rfl, a, ns, 0, rfl, sm06.seq ha, hz, _, _, rfl, rfl, ⟨by decide, by decide⟩, _, _, rfl, rfl, (by show (0 : Int) < 8; decide), rfl, _, rfl, ?_⟩
          refine ite2 (fun _ => ?_) (fun _ => ?_)
          · refine ⟨_, rfl, _, rfl, _, rfl, st1, _, rfl, SqL.of hst6, fun g1 ng1 => ?_⟩
            rw [show cutV (txs S1) none (some 1) = txs (S1.take 1) from cut_take S1 1]
            have s11 : Same H6 (upd H6 g1 (.lst (txs (S1.take 1)))) := same_new ng1
            have hg1 : (upd H6 g1 (.lst (txs (S1.take 1)))) g1 = some (.lst (txs (S1.take 1))) := upd_same
            have hg11 := s11 _ _ hst6
            generalize upd H6 g1 (.lst (txs (S1.take 1))) = H11 at s11 hg1 hg11 ⊢
            have l1 : (S1.take 1).length ≤ 1 := by rw [List.length_take]; omega
            refine ⟨st1, g1, _, _, rfl, rfl, hg11, hg1, by rw [strs_length, strs_length]; omega, fun g2 ng2 => ?_⟩
            refine hN _ _ ⟨g2, S1 ++ S1.take 1, rfl, s11.trans (same_new ng2), ?_, by rw [List.length_append]; omega, fun x hx => ?_⟩
            · rw [upd_same]
              unfold txs
              rw [List.map_append]
            · rcases List.mem_append.mp hx with hx | hx
              · exact pS1 x hx
              · exact pS1 x (List.mem_of_mem_take hx)
          · exact hN _ _ ⟨st1, S1, rfl, fun _ _ z => z, hst6, by omega, pS1⟩
      · refine ⟨_, rfl, a, ns, 0, rfl, sm05.seq ha, hz, _, _, rfl, rfl, ⟨by decide, by decide⟩, _, _, rfl, rfl, (by show (0 : Int) < 8; decide), rfl, _, rfl, ?_⟩
        refine ite2 (fun _ => ?_) (fun _ => ?_)
        · refine ⟨_, rfl, _, rfl, st, _, rfl, SqL.of hst5, fun g1 ng1 => ?_⟩
          rw [show cutV (txs R) none (some 2) = txs (R.take 2) from cut_take R 2]
          have s11 : Same H5 (upd H5 g1 (.lst (txs (R.take 2)))) := same_new ng1
          have hg1 : (upd H5 g1 (.lst (txs (R.take 2)))) g1 = some (.lst (txs (R.take 2))) := upd_same
          generalize upd H5 g1 (.lst (txs (R.take 2))) = H11 at s11 hg1 ⊢
          have l2 : (R.take 2).length ≤ 2 := by rw [List.length_take]; omega
          have sm11 := sm05.trans s11
          refine ⟨_, rfl, fun z D1 hD1 => comp_str (x := "abcdefghijk") (fun j ys H6 => ∃ zs : List PySem.Str, ys = txs zs ∧ zs.length = j ∧ (∀ x ∈ zs, Nb x) ∧ H6 D1 = some (.lst ys) ∧ Same H11 H6) ⟨[], rfl, rfl, fun x hx => by simp at hx, upd_same, same_new hD1⟩ ?_ ?_⟩
          · rintro j c ys H6 hc ⟨zs, rfl, lz, pz, hys, s6⟩
            have hj : j < 11 := by
              rw [← Array.getElem?_toList] at hc
              exact (List.getElem?_eq_some_iff.mp hc).1
            refine ⟨_, rfl, _, _, rfl, rfl, (by show 1 + 1 ≤ sizeLine; omega), hys, (by rw [strs_length]; omega), zs ++ [("q" : PySem.Str) ++ (⟨#[c]⟩ : PySem.Str)], ?_, by rw [List.length_append, lz]; rfl, fun x hx => ?_, upd_same, same_upd s6 hD1⟩
            · unfold txs
              rw [List.map_append]
              rfl
            · rcases List.mem_append.mp hx with hx | hx
              · exact pz x hx
              · rw [List.mem_singleton.mp hx]
                exact nb_q hc
          · rintro ys H6 ⟨zs, rfl, lz, pz, hys, s6⟩
            have lz : zs.length = 11 := lz
            have sm6 := sm11.trans s6
            refine ⟨_, rfl, a, ns, 0, rfl, sm6.seq ha, hz, _, _, rfl, rfl, ⟨by decide, by decide⟩, _, _, rfl, rfl, (by show (0 : Int) < 8; decide), _, _, rfl, rfl, _, rfl, D1, _, rfl, SqL.of hys, fun g2 ng2 => ?_⟩
            obtain ⟨k, ek⟩ := Int.eq_ofNat_of_zero_le (show (0 : Int) ≤ 4 + ns.getD 0 0 / 384 % 8 by have : (0 : Int) ≤ ns.getD 0 0 / 384 % 8 := Int.emod_nonneg _ (by omega); omega)
            rw [show cutV (txs zs) none (some (4 + ns.getD 0 0 / 384 % 8)) = txs (zs.take k) by rw [ek]; exact cut_take zs k]
            have s7 : Same H6 (upd H6 g2 (.lst (txs (zs.take k)))) := same_new ng2
            have hg2 : (upd H6 g2 (.lst (txs (zs.take k)))) g2 = some (.lst (txs (zs.take k))) := upd_same
            have hg1' := (s6.trans s7) _ _ hg1
            generalize upd H6 g2 (.lst (txs (zs.take k))) = H7 at s7 hg2 hg1' ⊢
            have l11 : (zs.take k).length ≤ 11 := by rw [List.length_take]; omega
            refine ⟨g1, g2, _, _, rfl, rfl, hg1', hg2, by rw [strs_length, strs_length]; omega, fun g3 ng3 => ?_⟩
            refine hN _ _ ⟨g3, R.take 2 ++ zs.take k, rfl, (s11.trans (s6.trans s7)).trans (same_new ng3), ?_, by rw [List.length_append]; omega, fun x hx => ?_⟩
            · rw [upd_same]
              unfold txs
              rw [List.map_append]
            · rcases List.mem_append.mp hx with hx | hx
              · exact pR x (List.mem_of_mem_take hx)
              · exact pz x (List.mem_of_mem_take hx)
        · exact hN _ _ ⟨st, R, rfl, fun _ _ z => z, hst5, by omega, pR⟩
end
end Uf
end
/-! UfY16 -/
section
set_option Elab.async false
set_option linter.all false
set_option maxRecDepth 100000
set_option maxHeartbeats 4000000
namespace Uf
open PySem L2 UfSrt UfStr
open Classical in
noncomputable def wdOf (t : PySem.Str) : PySem.Str := if h : ∃ ms S, Reads t ms S then dueT h.choose h.choose_spec.choose else "no text"
theorem wd_reads {t : PySem.Str} {ms : List Mv} {S : List PySem.Str} (h : Reads t ms S) : dueT ms S = wdOf t := by
  have hx : ∃ ms S, Reads t ms S := ⟨ms, S, h⟩
  unfold wdOf
  rw [dif_pos hx]
  obtain ⟨e1, e2⟩ := h.uniq hx.choose_spec.choose_spec
  exact congr (congrArg dueT e1) e2
theorem wd_none {t : PySem.Str} (h : ∀ ms S, ¬ Reads t ms S) : wdOf t = "no text" := by
  unfold wdOf
  rw [dif_neg fun ⟨ms, S, z⟩ => h ms S z]
section
variable {P : Program} {w : World} {K : PySem.W.Frag} {mg : PySem.Str → Option Value} {base : Heap}
theorem said_ok {t : PySem.Str} {H : Hp} {Q : VK} {E : XK} (ht : TextOk t) (h : ∀ H', Same H H' → Q (.str (wdOf t)) H') : spSaid K [.str t] H Q E :=
  .inl ⟨t, rfl, ht, fun ms S hR H' s' => by rw [wd_reads hR]; exact h H' s', fun hn H' s' => by rw [← wd_none hn]; exact h H' s'⟩
theorem due_ok {t : PySem.Str} {H : Hp} {Q : VK} {E : XK} (ht : TextOk t) (h : ∀ H', Same H H' → Q (.str (wdOf t)) H') : spDue [.str t] H Q E :=
  ⟨t, rfl, ht, fun ms S hR H' s' => by rw [wd_reads hR]; exact h H' s', fun hn H' s' => by rw [← wd_none hn]; exact h H' s'⟩
theorem dec_self (x : V) : decide (x = x) = true := decide_eq_true rfl
def spLaw (K : PySem.W.Frag) : Sp := fun vs H Q _ => ∃ (a : Addr) (ns : List Int), vs = [.ref a] ∧ SqL K H a (ns.map V.int) ∧ ns.length ≤ 63 ∧ ∀ H', Q (.bl true) H'
theorem scLaw : FnScope ["_law_script", "_law_head", "_law_text", "_law_odd_here"] ["_law_script"] (defScope sLaw) := ⟨rfl, rfl, rfl, by decide +kernel, rfl, by decide +kernel, by decide +kernel⟩
inductive LwT (H : Hp) (a : Addr) (h0 : Int) (σ : St) (H2 : Hp) : Prop
  | mk (t : PySem.Str) (q0 : σ = [some (.ref a), some (.int h0), some (.str t), none]) (q1 : Same H H2) (q2 : TextOk t)
theorem ok_law {f fCe fBu fOd fSp fDu fSa : Addr} {fd fdCe fdBu fdOd fdSp fdDu fdSa : FuncData} (F : Fun K "law" "law" sLaw f fd)
    (DCe : Def K mg "_law_cell_at" sCell ["_law_script", "_law_k"] fCe fdCe) (GCe : FnOk P w K mg base CX0 1 fCe fdCe ["_law_script", "_law_k"] (spCell K))
    (DBu : Def K mg "_law_built" sBuilt ["_law_script"] fBu fdBu) (GBu : FnOk P w K mg base CX0 2 fBu fdBu ["_law_script"] (spBuilt K))
    (DOd : Def K mg "_law_odd" sOdd ["_law_number"] fOd fdOd) (GOd : FnOk P w K mg base CX0 1 fOd fdOd ["_law_number"] spOdd)
    (DSp : Def K mg "_law_spoiled" sSpoiled ["_law_text", "_law_cell"] fSp fdSp) (GSp : FnOk P w K mg base CX0 1 fSp fdSp ["_law_text", "_law_cell"] spSpoiled)
    (DDu : Def K mg "_law_due" sDue ["_law_text"] fDu fdDu) (GDu : FnOk P w K mg base CX0 4 fDu fdDu ["_law_text"] spDue)
    (DSa : Def K mg "_law_said" sSaid ["_law_thing"] fSa fdSa) (GSa : FnOk P w K mg base (CX1 P w) 8 fSa fdSa ["_law_thing"] (spSaid K)) :
    FnOk P w K mg base (CX1 P w) 9 f fd ["_law_script"] (spLaw K) := by
  refine F.okX scLaw (fun vs H Q E h => ?_) (fun cdv A outer s H vs Q E hr h => ?_)
  · obtain ⟨a, ns, rfl, _⟩ := h
    rfl
  · obtain ⟨a, ns, rfl, ha, hz, kk⟩ := h
    have hsl := PySem.sizeLine_eq
    have hr1 : Room 1 _ := hr.mono (by decide)
    have hr2 : Room 2 _ := hr.mono (by decide)
    have hr4 : Room 4 _ := hr.mono (by decide)
    refine ⟨_, pss_cons (ps_set (i := 1) scLaw.nd rfl (Or.inl rfl) (pe_call GCe hr1 rfl DCe.mg DCe.fn.kp DCe.bd .nil pass0 (pa_cons (pv 0) (pa_cons pe_int pa_nil))))
      (pss_cons (ps_set (i := 2) scLaw.nd rfl (Or.inl rfl) (pe_call GBu hr2 rfl DBu.mg DBu.fn.kp DBu.bd .nil pass0 (pa_cons (pv 0) pa_nil)))
      (pss_cons (ps_if (pt_cmpR op_ne (pe_call GSa hr rfl DSa.mg DSa.fn.kp DSa.bd .nil pass1 (pa_cons (pv 2) pa_nil)) (pe_call GDu hr4 rfl DDu.mg DDu.fn.kp DDu.bd .nil pass0 (pa_cons (pv 2) pa_nil)) (nomark _)) (pss_one (ps_ret pe_bl)) pss_nil)
      (pss_cons (ps_if (pt_cmpR op_gt (pe_op op_mod (pv 1) pe_int) pe_int (nomark _)) (pss_one (ps_set (i := 2) scLaw.nd rfl (Or.inl rfl) (pe_call GSp hr1 rfl DSp.mg DSp.fn.kp DSp.bd .nil pass0 (pa_cons (pv 2) (pa_cons (pe_call GCe hr1 rfl DCe.mg DCe.fn.kp DCe.bd .nil pass0 (pa_cons (pv 0) (pa_cons pe_int pa_nil))) pa_nil))))) pss_nil)
      (pss_cons (ps_if (PW.pt (pw_and (pt_cmpR op_eq (pe_op op_mod (pe_op op_fdiv (pv 1) pe_int) pe_int) pe_int (nomark _)) (pw_and1 (pt_cmpR op_eq (pe_op op_mod (pv 1) pe_int) pe_int (nomark _))))) (pss_one (ps_set (i := 2) scLaw.nd rfl (Or.inl rfl) (pe_call GOd hr1 rfl DOd.mg DOd.fn.kp DOd.bd .nil pass0 (pa_cons (pe_call GCe hr1 rfl DCe.mg DCe.fn.kp DCe.bd .nil pass0 (pa_cons (pv 0) (pa_cons pe_int pa_nil))) pa_nil)))) pss_nil)
      (pss_cons (ps_set (i := 3) scLaw.nd rfl (Or.inl rfl) (pe_ix ix_list (pe_lst (pa_cons pe_non (pa_cons pe_int (pa_cons pe_bl (pa_cons (pe_lst (pa_cons pe_str pa_nil)) (pa_cons (pe_tup (pa_cons pe_str pa_nil)) (pa_cons pe_dnewK pa_nil))))))) (pe_op op_mod (pe_call GCe hr1 rfl DCe.mg DCe.fn.kp DCe.bd .nil pass0 (pa_cons (pv 0) (pa_cons pe_int pa_nil))) pe_int) (fun _ _ => rfl)))
      (pss_one (ps_ret (pe_and (pe_cmpR op_eq (pe_call GSa hr rfl DSa.mg DSa.fn.kp DSa.bd .nil pass1 (pa_cons (pv 2) pa_nil)) (pe_call GDu hr4 rfl DDu.mg DDu.fn.kp DDu.bd .nil pass0 (pa_cons (pv 2) pa_nil)) (nomark _)) (pe_one (pe_cmpR op_eq (pe_call GSa hr rfl DSa.mg DSa.fn.kp DSa.bd .nil pass1 (pa_cons (pv 3) pa_nil)) pe_str (nomark _))))))))))), ?_⟩
    have cell : ∀ {H' : Hp}, Same H H' → SqL K H' a (ns.map V.int) := fun s => s.seq ha
    refine ⟨_, rfl, a, ns, 0, rfl, ha, hz, ?_⟩
    generalize ns.getD 0 0 = h0
    refine ⟨_, rfl, a, ns, rfl, ha, hz, fun t H1 s1 ht => ?_⟩
    refine ⟨_, rfl, ?_⟩
    dsimp only [tNil, List.append_nil]
    refine said_ok ht.ok fun H2 s2 => ⟨_, rfl, ?_⟩
    dsimp only [tNil, List.append_nil]
    refine due_ok ht.ok fun H3 s3 => ⟨rfl, _, rfl, ?_⟩
    rw [dec_self]
    refine iteF ?_
    have s03 := s1.trans (s2.trans s3)
    dsimp only [tNext]
    refine seq_key (LwT H a h0) ?_ (fun N hN => ?_)
    · rintro σ1 H4 ⟨t1, rfl, s4, ht1⟩
      refine seq_key (LwT H a h0) ?_ (fun N hN => ?_)
      · rintro σ2 H5 ⟨t2, rfl, s5, ht2⟩
        refine ⟨by show 1 ≤ sizeLine; omega, fun o1 no1 => ?_⟩
        have s22 : Same H5 (upd H5 o1 (.lst [V.str "start"])) := same_new no1
        have ho1 : (upd H5 o1 (.lst [V.str "start"])) o1 = some (.lst [V.str "start"]) := upd_same
        generalize upd H5 o1 (.lst [V.str "start"]) = H22 at s22 ho1 ⊢
        refine ⟨by show 1 ≤ sizeLine; omega, fun o2 no2 => ?_⟩
        have s23 : Same H22 (upd H22 o2 (.tup [V.str "start"])) := same_new no2
        have ho2 : (upd H22 o2 (.tup [V.str "start"])) o2 = some (.tup [V.str "start"]) := upd_same
        generalize upd H22 o2 (.tup [V.str "start"]) = H23 at s23 ho2 ⊢
        intro o3 no3
        have s24 : Same H23 (upd H23 o3 (.dK [])) := same_new no3
        have ho3 : (upd H23 o3 (.dK [])) o3 = some (.dK []) := upd_same
        generalize upd H23 o3 (.dK []) = H24 at s24 ho3 ⊢
        refine ⟨by show 6 ≤ sizeLine; omega, fun lo nlo => ?_⟩
        have s25 : Same H24 (upd H24 lo (.lst [V.non, V.int 3, V.bl true, V.ref o1, V.ref o2, V.ref o3])) := same_new nlo
        have hlo : (upd H24 lo (.lst [V.non, V.int 3, V.bl true, V.ref o1, V.ref o2, V.ref o3])) lo = some (.lst [V.non, V.int 3, V.bl true, V.ref o1, V.ref o2, V.ref o3]) := upd_same
        generalize upd H24 lo (.lst [V.non, V.int 3, V.bl true, V.ref o1, V.ref o2, V.ref o3]) = H25 at s25 hlo ⊢
        have s525 := s22.trans (s23.trans (s24.trans s25))
        obtain ⟨v, hat, tt, hk, ty⟩ : ∃ v, atI [V.non, V.int 3, V.bl true, V.ref o1, V.ref o2, V.ref o3] (ns.getD 3 0 % 6) = some v ∧ ∃ tt, PySem.W.kitOne K tt (.type "str") = some false ∧ ∀ H', Same H25 H' → TyOf K H' v tt := by
          have hc : ns.getD 3 0 % 6 = 0 ∨ ns.getD 3 0 % 6 = 1 ∨ ns.getD 3 0 % 6 = 2 ∨ ns.getD 3 0 % 6 = 3 ∨ ns.getD 3 0 % 6 = 4 ∨ ns.getD 3 0 % 6 = 5 := by omega
          rcases hc with e | e | e | e | e | e <;> rw [e]
          · exact ⟨_, rfl, _, by rfl, fun H' _ => TyOf.non⟩
          · exact ⟨_, rfl, _, by rfl, fun H' _ => TyOf.int 3⟩
          · exact ⟨_, rfl, _, by rfl, fun H' _ => TyOf.bl true⟩
          · exact ⟨_, rfl, _, by rfl, fun H' sx => TyOf.lst ((s23.trans (s24.trans (s25.trans sx))) _ _ ho1)⟩
          · exact ⟨_, rfl, _, by rfl, fun H' sx => TyOf.tup ((s24.trans (s25.trans sx)) _ _ ho2)⟩
          · exact ⟨_, rfl, _, by rfl, fun H' sx => TyOf.dK ((s25.trans sx) _ _ ho3)⟩
        refine ⟨_, rfl, a, ns, 3, rfl, cell (s5.trans s525), hz, _, _, rfl, rfl, (by show (0 : Int) < 6; decide), lo, _, _, _, rfl, rfl, SqL.of hlo, hat, ?_⟩
        refine ⟨_, rfl, ?_⟩
        dsimp only [tNil, List.append_nil]
        refine said_ok ht2 fun H26 s26 => ⟨_, rfl, ?_⟩
        dsimp only [tNil, List.append_nil]
        refine due_ok ht2 fun H27 s27 => ⟨rfl, _, rfl, ?_⟩
        rw [dec_self]
        refine iteT ?_
        refine ⟨_, rfl, .inr ⟨v, tt, rfl, ty _ (s26.trans s27), hk, fun H28 s28 => ⟨rfl, ?_⟩⟩⟩
        rw [dec_self]
        exact kk H28
      · refine ⟨_, rfl, _, _, rfl, rfl, ⟨by decide, by decide⟩, _, _, rfl, rfl, (by show (0 : Int) < 2; decide), rfl, _, rfl, ?_⟩
        refine ite2 (fun _ => ?_) (fun _ => ?_)
        · refine ⟨_, rfl, _, _, rfl, rfl, (by show (0 : Int) < 3; decide), rfl, _, rfl, ?_⟩
          refine ite2 (fun _ => ?_) (fun _ => ?_)
          · refine ⟨_, rfl, a, ns, 2, rfl, cell s4, hz, _, rfl, fun t' H' s' ht' => ?_⟩
            exact hN _ _ ⟨t', rfl, s4.trans s', ht'⟩
          · exact hN _ _ ⟨t1, rfl, s4, ht1⟩
        · refine ite2 (fun h => absurd h (by decide)) (fun _ => ?_)
          exact hN _ _ ⟨t1, rfl, s4, ht1⟩
    · refine ⟨_, rfl, _, _, rfl, rfl, (by show (0 : Int) < 3; decide), _, _, rfl, rfl, _, rfl, ?_⟩
      refine ite2 (fun _ => ?_) (fun _ => ?_)
      · refine ⟨_, rfl, _, rfl, a, ns, 2, rfl, cell s03, hz, t, _, rfl, ht, fun t' ht' => ?_⟩
        exact hN _ _ ⟨t', rfl, s03, ht'⟩
      · exact hN _ _ ⟨t, rfl, s03, ht.ok⟩
end
end Uf
end
/-! UfE16 -/
section
set_option Elab.async false
set_option linter.all false
set_option maxRecDepth 100000
set_option maxHeartbeats 4000000
namespace Uf
open PySem L2 UfSrt PyProof.Rows
theorem len1 {us : List Value} (h : us.length = 1) : ∃ a, us = [a] := List.length_eq_one_iff.mp h
theorem len2 {us : List Value} (h : us.length = 2) : ∃ a b, us = [a, b] := match us, h with | [a, b], _ => ⟨a, b, rfl⟩
theorem len3 {us : List Value} (h : us.length = 3) : ∃ a b c, us = [a, b, c] := match us, h with | [a, b, c], _ => ⟨a, b, c, rfl⟩
theorem all_mk {l : PySem.W.OpenLaw} {w : World} {K : PySem.W.Frag} {h : Heap} {mg : Str → Option Value} {fa C CT NT CO NO NE NNE CN CH CF CR CS CM CY CP CW CE : Addr} (X : K.In h) (G : h.Ns mainGlobals mg) (hfa : mg "law" = some (.ref fa))
    {f1 : Addr} {od1 an1 : Option Addr} {sl1 : Array (Option Value)} {oc1 kV1 dc1 pm1 cd1 ct1 : Value}
    {f2 : Addr} {od2 an2 : Option Addr} {sl2 : Array (Option Value)} {oc2 kV2 dc2 pm2 cd2 ct2 : Value}
    {f3 : Addr} {od3 an3 : Option Addr} {sl3 : Array (Option Value)} {oc3 kV3 dc3 pm3 cd3 ct3 : Value}
    {f4 : Addr} {od4 an4 : Option Addr} {sl4 : Array (Option Value)} {oc4 kV4 dc4 pm4 cd4 ct4 : Value}
    {f5 : Addr} {od5 an5 : Option Addr} {sl5 : Array (Option Value)} {oc5 kV5 dc5 pm5 cd5 ct5 : Value}
    {f6 : Addr} {od6 an6 : Option Addr} {sl6 : Array (Option Value)} {oc6 kV6 dc6 pm6 cd6 ct6 : Value}
    {f7 : Addr} {od7 an7 : Option Addr} {sl7 : Array (Option Value)} {oc7 kV7 dc7 pm7 cd7 ct7 : Value}
    {f8 : Addr} {od8 an8 : Option Addr} {sl8 : Array (Option Value)} {oc8 kV8 dc8 pm8 cd8 ct8 : Value}
    {f9 : Addr} {od9 an9 : Option Addr} {sl9 : Array (Option Value)} {oc9 kV9 dc9 pm9 cd9 ct9 : Value}
    {f10 : Addr} {od10 an10 : Option Addr} {sl10 : Array (Option Value)} {oc10 kV10 dc10 pm10 cd10 ct10 : Value}
    {f11 : Addr} {od11 an11 : Option Addr} {sl11 : Array (Option Value)} {oc11 kV11 dc11 pm11 cd11 ct11 : Value}
    {f12 : Addr} {od12 an12 : Option Addr} {sl12 : Array (Option Value)} {oc12 kV12 dc12 pm12 cd12 ct12 : Value}
    {f13 : Addr} {od13 an13 : Option Addr} {sl13 : Array (Option Value)} {oc13 kV13 dc13 pm13 cd13 ct13 : Value}
    {f14 : Addr} {od14 an14 : Option Addr} {sl14 : Array (Option Value)} {oc14 kV14 dc14 pm14 cd14 ct14 : Value}
    {f15 : Addr} {od15 an15 : Option Addr} {sl15 : Array (Option Value)} {oc15 kV15 dc15 pm15 cd15 ct15 : Value}
    {f16 : Addr} {od16 an16 : Option Addr} {sl16 : Array (Option Value)} {oc16 kV16 dc16 pm16 cd16 ct16 : Value}
    {f17 : Addr} {od17 an17 : Option Addr} {sl17 : Array (Option Value)} {oc17 kV17 dc17 pm17 cd17 ct17 : Value}
    {f18 : Addr} {od18 an18 : Option Addr} {sl18 : Array (Option Value)} {oc18 kV18 dc18 pm18 cd18 ct18 : Value}
    {f19 : Addr} {od19 an19 : Option Addr} {sl19 : Array (Option Value)} {oc19 kV19 dc19 pm19 cd19 ct19 : Value}
    {f20 : Addr} {od20 an20 : Option Addr} {sl20 : Array (Option Value)} {oc20 kV20 dc20 pm20 cd20 ct20 : Value}
    {f21 : Addr} {od21 an21 : Option Addr} {sl21 : Array (Option Value)} {oc21 kV21 dc21 pm21 cd21 ct21 : Value}
    {f22 : Addr} {od22 an22 : Option Addr} {sl22 : Array (Option Value)} {oc22 kV22 dc22 pm22 cd22 ct22 : Value}
    {f23 : Addr} {od23 an23 : Option Addr} {sl23 : Array (Option Value)} {oc23 kV23 dc23 pm23 cd23 ct23 : Value}
    {f24 : Addr} {od24 an24 : Option Addr} {sl24 : Array (Option Value)} {oc24 kV24 dc24 pm24 cd24 ct24 : Value}
    {f25 : Addr} {od25 an25 : Option Addr} {sl25 : Array (Option Value)} {oc25 kV25 dc25 pm25 cd25 ct25 : Value}
    {f26 : Addr} {od26 an26 : Option Addr} {sl26 : Array (Option Value)} {oc26 kV26 dc26 pm26 cd26 ct26 : Value}
    {f27 : Addr} {od27 an27 : Option Addr} {sl27 : Array (Option Value)} {oc27 kV27 dc27 pm27 cd27 ct27 : Value}
    {f28 : Addr} {od28 an28 : Option Addr} {sl28 : Array (Option Value)} {oc28 kV28 dc28 pm28 cd28 ct28 : Value}
    {f29 : Addr} {od29 an29 : Option Addr} {sl29 : Array (Option Value)} {oc29 kV29 dc29 pm29 cd29 ct29 : Value}
    {f30 : Addr} {od30 an30 : Option Addr} {sl30 : Array (Option Value)} {oc30 kV30 dc30 pm30 cd30 ct30 : Value}
    {f31 : Addr} {od31 an31 : Option Addr} {sl31 : Array (Option Value)} {kV31 dc31 pm31 cd31 ct31 : Value}
    {f32 : Addr} {od32 an32 : Option Addr} {sl32 : Array (Option Value)} {kV32 dc32 pm32 cd32 ct32 : Value}
    {tk1 tk2 tk3 tk4 tk5 tk6 tk7 tk8 tk9 : PySem.Tok}
    {cnCT : Str} {cqCT : Str} {basesCT : List Value} {tlCT : List Value} {hasDCT : Bool} {snCT : List Str} {subsCT : List Value} {abCT : Bool} {colCT : Option Bool} {cddCT : Option Addr} {l0CT : Option Value} {l1CT : Option Value} {l2CT : Option Value} {l3CT : Option Value} {l5CT : Option Value}
    {cnCO : Str} {cqCO : Str} {basesCO : List Value} {tlCO : List Value} {hasDCO : Bool} {snCO : List Str} {subsCO : List Value} {abCO : Bool} {colCO : Option Bool} {cddCO : Option Addr} {l0CO : Option Value} {l1CO : Option Value} {l2CO : Option Value} {l3CO : Option Value} {l5CO : Option Value}
    {cnNE : Str} {cqNE : Str} {basesNE : List Value} {tlNE : List Value} {hasDNE : Bool} {snNE : List Str} {subsNE : List Value} {abNE : Bool} {colNE : Option Bool} {cddNE : Option Addr} {l0NE : Option Value} {l1NE : Option Value} {l2NE : Option Value} {l3NE : Option Value} {l5NE : Option Value} {nwNE : String}
    (aC : PySem.W.nsIn K mainGlobals "Net" = some (some (.ref C)))
    (gCT : PySem.W.nsIn K mainGlobals "NoText" = some (some (.ref CT)))
    (gCO : PySem.W.nsIn K mainGlobals "NoNet" = some (some (.ref CO)))
    (gNE : PySem.W.nsIn K mainGlobals "NetError" = some (some (.ref NE)))
    (gCN : PySem.W.nsIn K mainGlobals "NoMove" = some (some (.ref CN)))
    (gCH : PySem.W.nsIn K mainGlobals "Held" = some (some (.ref CH)))
    (gCF : PySem.W.nsIn K mainGlobals "Full" = some (some (.ref CF)))
    (gCR : PySem.W.nsIn K mainGlobals "Crowded" = some (some (.ref CR)))
    (gCS : PySem.W.nsIn K mainGlobals "NoSpot" = some (some (.ref CS)))
    (gCM : PySem.W.nsIn K mainGlobals "Misfit" = some (some (.ref CM)))
    (gCY : PySem.W.nsIn K mainGlobals "TooMany" = some (some (.ref CY)))
    (gCP : PySem.W.nsIn K mainGlobals "NoPlace" = some (some (.ref CP)))
    (gCW : PySem.W.nsIn K mainGlobals "NoRow" = some (some (.ref CW)))
    (gCE : PySem.W.nsIn K mainGlobals "NoName" = some (some (.ref CE)))
    (a1 : PySem.W.nsIn K mainGlobals "is_name" = some (some (.ref f1)))
    (a2 : PySem.W.nsIn K mainGlobals "are_unlike_names" = some (some (.ref f2)))
    (a3 : PySem.W.nsIn K mainGlobals "is_move" = some (some (.ref f3)))
    (a4 : PySem.W.nsIn K mainGlobals "places_of" = some (some (.ref f4)))
    (a5 : PySem.W.nsIn K mainGlobals "makes_net" = some (some (.ref f5)))
    (a6 : PySem.W.nsIn K mainGlobals "move_text" = some (some (.ref f6)))
    (a7 : PySem.W.nsIn K mainGlobals "net_text" = some (some (.ref f7)))
    (a8 : PySem.W.nsIn K mainGlobals "checked_names" = some (some (.ref f8)))
    (a9 : PySem.W.nsIn K mainGlobals "read_start" = some (some (.ref f9)))
    (a10 : PySem.W.nsIn K mainGlobals "read_move" = some (some (.ref f10)))
    (a11 : PySem.W.nsIn K mainGlobals "read_net" = some (some (.ref f11)))
    (a12 : PySem.W.nsIn K mainGlobals "_law_cell_at" = some (some (.ref f12)))
    (a13 : PySem.W.nsIn K mainGlobals "_law_choice" = some (some (.ref f13)))
    (a14 : PySem.W.nsIn K mainGlobals "_law_listed" = some (some (.ref f14)))
    (a15 : PySem.W.nsIn K mainGlobals "_law_built" = some (some (.ref f15)))
    (a16 : PySem.W.nsIn K mainGlobals "_law_odd" = some (some (.ref f16)))
    (a17 : PySem.W.nsIn K mainGlobals "_law_spoiled" = some (some (.ref f17)))
    (a18 : PySem.W.nsIn K mainGlobals "_law_is_named" = some (some (.ref f18)))
    (a19 : PySem.W.nsIn K mainGlobals "_law_names_of" = some (some (.ref f19)))
    (a20 : PySem.W.nsIn K mainGlobals "_law_part_of" = some (some (.ref f20)))
    (a21 : PySem.W.nsIn K mainGlobals "_law_bad_net" = some (some (.ref f21)))
    (a22 : PySem.W.nsIn K mainGlobals "_law_due" = some (some (.ref f22)))
    (a23 : PySem.W.nsIn K mainGlobals "_law_said" = some (some (.ref f23)))
    (a24 : PySem.W.nsIn K mainGlobals "law" = some (some (.ref f24)))
    (a25 : PySem.W.findIn K (.ref C) "__init__" = some (some (.ref f25)))
    (i25 : PySem.W.isFn K (.ref f25) = true)
    (a26 : PySem.W.findIn K (.ref C) "moves" = some (some (.ref f26)))
    (i26 : PySem.W.isFn K (.ref f26) = true)
    (a27 : PySem.W.findIn K (.ref C) "start" = some (some (.ref f27)))
    (i27 : PySem.W.isFn K (.ref f27) = true)
    (a28 : PySem.W.findIn K (.ref C) "must_have" = some (some (.ref f28)))
    (i28 : PySem.W.isFn K (.ref f28) = true)
    (a29 : PySem.W.findIn K (.ref C) "takes" = some (some (.ref f29)))
    (i29 : PySem.W.isFn K (.ref f29) = true)
    (a30 : PySem.W.findIn K (.ref C) "gives" = some (some (.ref f30)))
    (i30 : PySem.W.isFn K (.ref f30) = true)
    (oCT : K.lookup CT = some (excClassObj cnCT cqCT CT NT basesCT tlCT hasDCT snCT subsCT abCT colCT cddCT l0CT l1CT l2CT l3CT l5CT "ValueError.__new__"))
    (oCO : K.lookup CO = some (excClassObj cnCO cqCO CO NO basesCO tlCO hasDCO snCO subsCO abCO colCO cddCO l0CO l1CO l2CO l3CO l5CO "ValueError.__new__"))
    (oNE : K.lookup NE = some (excClassObj cnNE cqNE NE NNE basesNE tlNE hasDNE snNE subsNE abNE colNE cddNE l0NE l1NE l2NE l3NE l5NE nwNE))
    (a31 : PySem.W.nsIn K NT "__init__" = some (some (.ref f31)))
    (a32 : PySem.W.nsIn K NO "__init__" = some (some (.ref f32)))
    (l1 : K.lookup f1 = some ⟨oc1, od1, .func (PySem.W.fnOf "is_name" "is_name" (defArgs sIsName) (defBody sIsName) (defScope sIsName) .none kV1 dc1 pm1 an1 cd1 ct1), sl1⟩)
    (c1 : PySem.W.codeIn K cd1 "is_name" = true)
    (k1 : PySem.W.keepIn K (.ref f1) = true)
    (l2 : K.lookup f2 = some ⟨oc2, od2, .func (PySem.W.fnOf "are_unlike_names" "are_unlike_names" (defArgs sUnlike) (defBody sUnlike) (defScope sUnlike) .none kV2 dc2 pm2 an2 cd2 ct2), sl2⟩)
    (c2 : PySem.W.codeIn K cd2 "are_unlike_names" = true)
    (k2 : PySem.W.keepIn K (.ref f2) = true)
    (l3 : K.lookup f3 = some ⟨oc3, od3, .func (PySem.W.fnOf "is_move" "is_move" (defArgs sIsMove) (defBody sIsMove) (defScope sIsMove) .none kV3 dc3 pm3 an3 cd3 ct3), sl3⟩)
    (c3 : PySem.W.codeIn K cd3 "is_move" = true)
    (k3 : PySem.W.keepIn K (.ref f3) = true)
    (l4 : K.lookup f4 = some ⟨oc4, od4, .func (PySem.W.fnOf "places_of" "places_of" (defArgs sPlaces) (defBody sPlaces) (defScope sPlaces) .none kV4 dc4 pm4 an4 cd4 ct4), sl4⟩)
    (c4 : PySem.W.codeIn K cd4 "places_of" = true)
    (k4 : PySem.W.keepIn K (.ref f4) = true)
    (l5 : K.lookup f5 = some ⟨oc5, od5, .func (PySem.W.fnOf "makes_net" "makes_net" (defArgs sMakes) (defBody sMakes) (defScope sMakes) .none kV5 dc5 pm5 an5 cd5 ct5), sl5⟩)
    (c5 : PySem.W.codeIn K cd5 "makes_net" = true)
    (k5 : PySem.W.keepIn K (.ref f5) = true)
    (l6 : K.lookup f6 = some ⟨oc6, od6, .func (PySem.W.fnOf "move_text" "move_text" (defArgs sMoveT) (defBody sMoveT) (defScope sMoveT) .none kV6 dc6 pm6 an6 cd6 ct6), sl6⟩)
    (c6 : PySem.W.codeIn K cd6 "move_text" = true)
    (k6 : PySem.W.keepIn K (.ref f6) = true)
    (l7 : K.lookup f7 = some ⟨oc7, od7, .func (PySem.W.fnOf "net_text" "net_text" (defArgs sNetT) (defBody sNetT) (defScope sNetT) .none kV7 dc7 pm7 an7 cd7 ct7), sl7⟩)
    (c7 : PySem.W.codeIn K cd7 "net_text" = true)
    (k7 : PySem.W.keepIn K (.ref f7) = true)
    (l8 : K.lookup f8 = some ⟨oc8, od8, .func (PySem.W.fnOf "checked_names" "checked_names" (defArgs sChecked) (defBody sChecked) (defScope sChecked) .none kV8 dc8 pm8 an8 cd8 ct8), sl8⟩)
    (c8 : PySem.W.codeIn K cd8 "checked_names" = true)
    (k8 : PySem.W.keepIn K (.ref f8) = true)
    (l9 : K.lookup f9 = some ⟨oc9, od9, .func (PySem.W.fnOf "read_start" "read_start" (defArgs sReadS) (defBody sReadS) (defScope sReadS) .none kV9 dc9 pm9 an9 cd9 ct9), sl9⟩)
    (c9 : PySem.W.codeIn K cd9 "read_start" = true)
    (k9 : PySem.W.keepIn K (.ref f9) = true)
    (l10 : K.lookup f10 = some ⟨oc10, od10, .func (PySem.W.fnOf "read_move" "read_move" (defArgs sReadM) (defBody sReadM) (defScope sReadM) .none kV10 dc10 pm10 an10 cd10 ct10), sl10⟩)
    (c10 : PySem.W.codeIn K cd10 "read_move" = true)
    (k10 : PySem.W.keepIn K (.ref f10) = true)
    (l11 : K.lookup f11 = some ⟨oc11, od11, .func (PySem.W.fnOf "read_net" "read_net" (defArgs sReadN) (defBody sReadN) (defScope sReadN) .none kV11 dc11 pm11 an11 cd11 ct11), sl11⟩)
    (c11 : PySem.W.codeIn K cd11 "read_net" = true)
    (k11 : PySem.W.keepIn K (.ref f11) = true)
    (l12 : K.lookup f12 = some ⟨oc12, od12, .func (PySem.W.fnOf "_law_cell_at" "_law_cell_at" (defArgs sCell) (defBody sCell) (defScope sCell) .none kV12 dc12 pm12 an12 cd12 ct12), sl12⟩)
    (c12 : PySem.W.codeIn K cd12 "_law_cell_at" = true)
    (k12 : PySem.W.keepIn K (.ref f12) = true)
    (l13 : K.lookup f13 = some ⟨oc13, od13, .func (PySem.W.fnOf "_law_choice" "_law_choice" (defArgs sChoice) (defBody sChoice) (defScope sChoice) .none kV13 dc13 pm13 an13 cd13 ct13), sl13⟩)
    (c13 : PySem.W.codeIn K cd13 "_law_choice" = true)
    (k13 : PySem.W.keepIn K (.ref f13) = true)
    (l14 : K.lookup f14 = some ⟨oc14, od14, .func (PySem.W.fnOf "_law_listed" "_law_listed" (defArgs sListed) (defBody sListed) (defScope sListed) .none kV14 dc14 pm14 an14 cd14 ct14), sl14⟩)
    (c14 : PySem.W.codeIn K cd14 "_law_listed" = true)
    (k14 : PySem.W.keepIn K (.ref f14) = true)
    (l15 : K.lookup f15 = some ⟨oc15, od15, .func (PySem.W.fnOf "_law_built" "_law_built" (defArgs sBuilt) (defBody sBuilt) (defScope sBuilt) .none kV15 dc15 pm15 an15 cd15 ct15), sl15⟩)
    (c15 : PySem.W.codeIn K cd15 "_law_built" = true)
    (k15 : PySem.W.keepIn K (.ref f15) = true)
    (l16 : K.lookup f16 = some ⟨oc16, od16, .func (PySem.W.fnOf "_law_odd" "_law_odd" (defArgs sOdd) (defBody sOdd) (defScope sOdd) .none kV16 dc16 pm16 an16 cd16 ct16), sl16⟩)
    (c16 : PySem.W.codeIn K cd16 "_law_odd" = true)
    (k16 : PySem.W.keepIn K (.ref f16) = true)
    (l17 : K.lookup f17 = some ⟨oc17, od17, .func (PySem.W.fnOf "_law_spoiled" "_law_spoiled" (defArgs sSpoiled) (defBody sSpoiled) (defScope sSpoiled) .none kV17 dc17 pm17 an17 cd17 ct17), sl17⟩)
    (c17 : PySem.W.codeIn K cd17 "_law_spoiled" = true)
    (k17 : PySem.W.keepIn K (.ref f17) = true)
    (l18 : K.lookup f18 = some ⟨oc18, od18, .func (PySem.W.fnOf "_law_is_named" "_law_is_named" (defArgs sNamed) (defBody sNamed) (defScope sNamed) .none kV18 dc18 pm18 an18 cd18 ct18), sl18⟩)
    (c18 : PySem.W.codeIn K cd18 "_law_is_named" = true)
    (k18 : PySem.W.keepIn K (.ref f18) = true)
    (l19 : K.lookup f19 = some ⟨oc19, od19, .func (PySem.W.fnOf "_law_names_of" "_law_names_of" (defArgs sNamesOf) (defBody sNamesOf) (defScope sNamesOf) .none kV19 dc19 pm19 an19 cd19 ct19), sl19⟩)
    (c19 : PySem.W.codeIn K cd19 "_law_names_of" = true)
    (k19 : PySem.W.keepIn K (.ref f19) = true)
    (l20 : K.lookup f20 = some ⟨oc20, od20, .func (PySem.W.fnOf "_law_part_of" "_law_part_of" (defArgs sPartOf) (defBody sPartOf) (defScope sPartOf) .none kV20 dc20 pm20 an20 cd20 ct20), sl20⟩)
    (c20 : PySem.W.codeIn K cd20 "_law_part_of" = true)
    (k20 : PySem.W.keepIn K (.ref f20) = true)
    (l21 : K.lookup f21 = some ⟨oc21, od21, .func (PySem.W.fnOf "_law_bad_net" "_law_bad_net" (defArgs sBadNet) (defBody sBadNet) (defScope sBadNet) .none kV21 dc21 pm21 an21 cd21 ct21), sl21⟩)
    (c21 : PySem.W.codeIn K cd21 "_law_bad_net" = true)
    (k21 : PySem.W.keepIn K (.ref f21) = true)
    (l22 : K.lookup f22 = some ⟨oc22, od22, .func (PySem.W.fnOf "_law_due" "_law_due" (defArgs sDue) (defBody sDue) (defScope sDue) .none kV22 dc22 pm22 an22 cd22 ct22), sl22⟩)
    (c22 : PySem.W.codeIn K cd22 "_law_due" = true)
    (k22 : PySem.W.keepIn K (.ref f22) = true)
    (l23 : K.lookup f23 = some ⟨oc23, od23, .func (PySem.W.fnOf "_law_said" "_law_said" (defArgs sSaid) (defBody sSaid) (defScope sSaid) .none kV23 dc23 pm23 an23 cd23 ct23), sl23⟩)
    (c23 : PySem.W.codeIn K cd23 "_law_said" = true)
    (k23 : PySem.W.keepIn K (.ref f23) = true)
    (l24 : K.lookup f24 = some ⟨oc24, od24, .func (PySem.W.fnOf "law" "law" (defArgs sLaw) (defBody sLaw) (defScope sLaw) .none kV24 dc24 pm24 an24 cd24 ct24), sl24⟩)
    (c24 : PySem.W.codeIn K cd24 "law" = true)
    (k24 : PySem.W.keepIn K (.ref f24) = true)
    (l25 : K.lookup f25 = some ⟨oc25, od25, .func (PySem.W.fnOf "__init__" "Net.__init__" (defArgs sInit) (defBody sInit) (defScope sInit) .none kV25 dc25 pm25 an25 cd25 ct25), sl25⟩)
    (c25 : PySem.W.codeIn K cd25 "Net.__init__" = true)
    (k25 : PySem.W.keepIn K (.ref f25) = true)
    (l26 : K.lookup f26 = some ⟨oc26, od26, .func (PySem.W.fnOf "moves" "Net.moves" (defArgs sGetM) (defBody sGetM) (defScope sGetM) .none kV26 dc26 pm26 an26 cd26 ct26), sl26⟩)
    (c26 : PySem.W.codeIn K cd26 "Net.moves" = true)
    (k26 : PySem.W.keepIn K (.ref f26) = true)
    (l27 : K.lookup f27 = some ⟨oc27, od27, .func (PySem.W.fnOf "start" "Net.start" (defArgs sStart) (defBody sStart) (defScope sStart) .none kV27 dc27 pm27 an27 cd27 ct27), sl27⟩)
    (c27 : PySem.W.codeIn K cd27 "Net.start" = true)
    (k27 : PySem.W.keepIn K (.ref f27) = true)
    (l28 : K.lookup f28 = some ⟨oc28, od28, .func (PySem.W.fnOf "must_have" "Net.must_have" (defArgs sMust) (defBody sMust) (defScope sMust) .none kV28 dc28 pm28 an28 cd28 ct28), sl28⟩)
    (c28 : PySem.W.codeIn K cd28 "Net.must_have" = true)
    (k28 : PySem.W.keepIn K (.ref f28) = true)
    (l29 : K.lookup f29 = some ⟨oc29, od29, .func (PySem.W.fnOf "takes" "Net.takes" (defArgs sTakes) (defBody sTakes) (defScope sTakes) .none kV29 dc29 pm29 an29 cd29 ct29), sl29⟩)
    (c29 : PySem.W.codeIn K cd29 "Net.takes" = true)
    (k29 : PySem.W.keepIn K (.ref f29) = true)
    (l30 : K.lookup f30 = some ⟨oc30, od30, .func (PySem.W.fnOf "gives" "Net.gives" (defArgs sGives) (defBody sGives) (defScope sGives) .none kV30 dc30 pm30 an30 cd30 ct30), sl30⟩)
    (c30 : PySem.W.codeIn K cd30 "Net.gives" = true)
    (k30 : PySem.W.keepIn K (.ref f30) = true)
    (l31 : K.lookup f31 = some ⟨.type "function", od31, .func (PySem.W.fnOf "__init__" "NoText.__init__" (defArgs sNoTextI) (defBody sNoTextI) (defScope sNoTextI) .none kV31 dc31 pm31 an31 cd31 ct31), sl31⟩)
    (c31 : PySem.W.codeIn K cd31 "NoText.__init__" = true)
    (k31 : PySem.W.keepIn K (.ref f31) = true)
    (l32 : K.lookup f32 = some ⟨.type "function", od32, .func (PySem.W.fnOf "__init__" "NoNet.__init__" (defArgs sNoNetI) (defBody sNoNetI) (defScope sNoNetI) .none kV32 dc32 pm32 an32 cd32 ct32), sl32⟩)
    (c32 : PySem.W.codeIn K cd32 "NoNet.__init__" = true)
    (k32 : PySem.W.keepIn K (.ref f32) = true)
    (pg : PySem.W.plainGet K C Str.empty = true)
    (hd : PySem.W.hasDictIn K C = true)
    (po : PySem.W.plainOver K C = true)
    (sa : PySem.W.findIn K (.ref C) "__setattr__" = some (some (.builtin "object.__setattr__")))
    (mk : PySem.W.makesIn K C = true)
    (kc : PySem.W.keepIn K (.ref C) = true)
    (nP : PySem.W.findIn K (.ref C) "place_names" = some none)
    (nS : PySem.W.findIn K (.ref C) "start_state" = some none)
    (nT : PySem.W.findIn K (.ref C) "taken_by" = some none)
    (nG : PySem.W.findIn K (.ref C) "given_by" = some none)
    (z1 : PySem.W.nsIn K mainGlobals "all" = some none)
    (z2 : PySem.W.nsIn K mainGlobals "len" = some none)
    (z3 : PySem.W.nsIn K mainGlobals "set" = some none)
    (z4 : PySem.W.nsIn K mainGlobals "list" = some none)
    (z5 : PySem.W.nsIn K mainGlobals "tuple" = some none)
    (z6 : PySem.W.nsIn K mainGlobals "str" = some none)
    (z7 : PySem.W.nsIn K mainGlobals "sorted" = some none)
    (z8 : PySem.W.nsIn K mainGlobals "isinstance" = some none)
    (z9 : PySem.W.nsIn K mainGlobals "range" = some none)
    (z10 : PySem.W.nsIn K mainGlobals "enumerate" = some none)
    (z11 : PySem.W.nsIn K mainGlobals "any" = some none)
    (z12 : PySem.W.nsIn K mainGlobals "reversed" = some none)
    (z13 : PySem.W.nsIn K mainGlobals "int" = some none)
    (z14 : PySem.W.nsIn K mainGlobals "ValueError" = some none)
    (z15 : PySem.W.nsIn K mainGlobals "max" = some none)
    (y1 : PySem.W.nsIn K mainGlobals "LETTERS" = some (some (.str abc tk1)))
    (y2 : PySem.W.nsIn K mainGlobals "LONGEST_NAME" = some (some (.int 8 tk2)))
    (y3 : PySem.W.nsIn K mainGlobals "MOST_PLACES" = some (some (.int 12 tk3)))
    (y4 : PySem.W.nsIn K mainGlobals "MOST_MOVES" = some (some (.int 12 tk4)))
    (y5 : PySem.W.nsIn K mainGlobals "LEAST_TAKEN" = some (some (.int 1 tk5)))
    (y6 : PySem.W.nsIn K mainGlobals "MOST_TAKEN" = some (some (.int 4 tk6)))
    (y7 : PySem.W.nsIn K mainGlobals "MOST_GIVEN" = some (some (.int 4 tk7)))
    (y8 : PySem.W.nsIn K mainGlobals "FIRST_WORD" = some (some (.str "start" tk8)))
    (y9 : PySem.W.nsIn K mainGlobals "GIVES_SIGN" = some (some (.str ">" tk9)))
    (bNE : PySem.W.specialIn K (.ref NE) "__getattribute__" = some (some (.builtin "type.__getattribute__")))
    (rNE : PySem.W.readsIn K NE (.type "type") = true)
    (fNE : PySem.W.findCls K (.ref NE) (.type "type") "__init__" = some (.val (.builtin "ValueError.__init__")))
    (hNE : tlNE.contains (.type "BaseException") = true)
    (xc : PySem.W.specialIn K (.builtin "object.__class__") "__get__" = some (some (.builtin "getset_descriptor.__get__")))
    (xt : PySem.W.takesIn K (.builtin "object.__class__") = some true)
    (taCT : PySem.W.tailIn K rootV tlCT = true)
    (noCT : PySem.W.nsOkIn K NT = true)
    (kpCT : PySem.W.keepIn K (.ref CT) = true)
    (hdCT : PySem.W.hasDictIn K CT = true)
    (coCT : tlCT.contains (.type "BaseException") = true)
    (unCT : (Value.ref CT :: tlCT).contains (.ref NE) = true)
    (gaCT : PySem.W.findIn K (.ref CT) "__getattribute__" = some (some (.builtin "BaseException.__getattribute__")))
    (gnCT : PySem.W.findIn K (.ref CT) "__getattr__" = some none)
    (hmCT : PySem.W.mroIn K CT (.type "BaseException") = some true)
    (hoCT : PySem.W.mroIn K CT (.type "object") = some true)
    (clCT : PySem.W.findIn K (.ref CT) "__class__" = some (some (.builtin "object.__class__")))
    (qvCT : PySem.W.kitOne K (.ref CT) (.type "ValueError") = some true)
    (qaCT : PySem.W.kitAny K (.ref CT) [.ref CR, .ref CF, .ref CH, .ref CM, .ref CN, .ref CE, .ref CP, .ref CW, .ref CS, .ref CY] = some false)
    (qtCT : PySem.W.kitOne K (.ref CT) (.ref CT) = some true)
    (qoCT : PySem.W.kitOne K (.ref CT) (.ref CO) = some false)
    (taCO : PySem.W.tailIn K rootV tlCO = true)
    (noCO : PySem.W.nsOkIn K NO = true)
    (kpCO : PySem.W.keepIn K (.ref CO) = true)
    (hdCO : PySem.W.hasDictIn K CO = true)
    (coCO : tlCO.contains (.type "BaseException") = true)
    (unCO : (Value.ref CO :: tlCO).contains (.ref NE) = true)
    (gaCO : PySem.W.findIn K (.ref CO) "__getattribute__" = some (some (.builtin "BaseException.__getattribute__")))
    (gnCO : PySem.W.findIn K (.ref CO) "__getattr__" = some none)
    (hmCO : PySem.W.mroIn K CO (.type "BaseException") = some true)
    (hoCO : PySem.W.mroIn K CO (.type "object") = some true)
    (clCO : PySem.W.findIn K (.ref CO) "__class__" = some (some (.builtin "object.__class__")))
    (qvCO : PySem.W.kitOne K (.ref CO) (.type "ValueError") = some true)
    (qaCO : PySem.W.kitAny K (.ref CO) [.ref CR, .ref CF, .ref CH, .ref CM, .ref CN, .ref CE, .ref CP, .ref CW, .ref CS, .ref CY] = some false)
    (qtCO : PySem.W.kitOne K (.ref CO) (.ref CT) = some false)
    (qoCO : PySem.W.kitOne K (.ref CO) (.ref CO) = some true) :
    ∃ fd : FuncData, (∀ (s : Shared) (v : Value), BindsTo s fd ⟨[v], []⟩ [("_law_script", v)]) ∧ ∀ base : Heap, K.In base → base.Ns mainGlobals mg → FnOk l.prog w K mg base CX0 9 fa fd ["_law_script"] (spLaw K) := by
  have e := hfa.symm.trans (PySem.W.mg_of X G a24)
  cases e
  have T : Txt K mg := ⟨PySem.W.mg_none_of X G z1, PySem.W.mg_none_of X G z2, PySem.W.mg_none_of X G z3, PySem.W.mg_none_of X G z4, PySem.W.mg_none_of X G z5, PySem.W.mg_none_of X G z6, PySem.W.mg_none_of X G z7, PySem.W.mg_none_of X G z8, ⟨_, PySem.W.mg_of X G y1⟩, ⟨_, PySem.W.mg_of X G y2⟩, ⟨_, PySem.W.mg_of X G y3⟩, ⟨_, PySem.W.mg_of X G y4⟩, ⟨_, PySem.W.mg_of X G y5⟩, ⟨_, PySem.W.mg_of X G y6⟩, ⟨_, PySem.W.mg_of X G y7⟩⟩
  have T2 : Txt2 mg := ⟨PySem.W.mg_none_of X G z9, PySem.W.mg_none_of X G z10, PySem.W.mg_none_of X G z11, PySem.W.mg_none_of X G z12, PySem.W.mg_none_of X G z13⟩
  have NC : NetC K C := ⟨⟨pg, hd, po, sa⟩, nP, nS, nT, nG⟩
  have T3 : Txt3 mg := ⟨⟨_, PySem.W.mg_of X G y8⟩, ⟨_, PySem.W.mg_of X G y9⟩⟩
  have T4 : Txt4 mg := ⟨PySem.W.mg_none_of X G z15⟩
  have M16 : Cls16 mg NE CO CT CR CF CH CM CN CE CP CW CS CY := ⟨PySem.W.mg_of X G gNE, PySem.W.mg_of X G gCO, PySem.W.mg_of X G gCT, PySem.W.mg_of X G gCR, PySem.W.mg_of X G gCF, PySem.W.mg_of X G gCH, PySem.W.mg_of X G gCM, PySem.W.mg_of X G gCN, PySem.W.mg_of X G gCE, PySem.W.mg_of X G gCP, PySem.W.mg_of X G gCW, PySem.W.mg_of X G gCS, PySem.W.mg_of X G gCY, PySem.W.mg_none_of X G z14⟩
  have F1 := fun_mk (st := sIsName) l1 c1 k1
  have b1 := F1.binds (ps := ["thing"]) fun _ _ _ _ _ _ us hl => by obtain ⟨a0, rfl⟩ := len1 hl; rfl
  have D1 : Def K mg "is_name" sIsName ["thing"] f1 _ := ⟨F1, PySem.W.mg_of X G a1, b1⟩
  have F2 := fun_mk (st := sUnlike) l2 c2 k2
  have b2 := F2.binds (ps := ["things"]) fun _ _ _ _ _ _ us hl => by obtain ⟨a0, rfl⟩ := len1 hl; rfl
  have D2 : Def K mg "are_unlike_names" sUnlike ["things"] f2 _ := ⟨F2, PySem.W.mg_of X G a2, b2⟩
  have F3 := fun_mk (st := sIsMove) l3 c3 k3
  have b3 := F3.binds (ps := ["taken", "given"]) fun _ _ _ _ _ _ us hl => by obtain ⟨a0, a1, rfl⟩ := len2 hl; rfl
  have D3 : Def K mg "is_move" sIsMove ["taken", "given"] f3 _ := ⟨F3, PySem.W.mg_of X G a3, b3⟩
  have F4 := fun_mk (st := sPlaces) l4 c4 k4
  have b4 := F4.binds (ps := ["moves", "start"]) fun _ _ _ _ _ _ us hl => by obtain ⟨a0, a1, rfl⟩ := len2 hl; rfl
  have D4 : Def K mg "places_of" sPlaces ["moves", "start"] f4 _ := ⟨F4, PySem.W.mg_of X G a4, b4⟩
  have F5 := fun_mk (st := sMakes) l5 c5 k5
  have b5 := F5.binds (ps := ["moves", "start"]) fun _ _ _ _ _ _ us hl => by obtain ⟨a0, a1, rfl⟩ := len2 hl; rfl
  have D5 : Def K mg "makes_net" sMakes ["moves", "start"] f5 _ := ⟨F5, PySem.W.mg_of X G a5, b5⟩
  have F6 := fun_mk (st := sMoveT) l6 c6 k6
  have b6 := F6.binds (ps := ["net", "move"]) fun _ _ _ _ _ _ us hl => by obtain ⟨a0, a1, rfl⟩ := len2 hl; rfl
  have D6 : Def K mg "move_text" sMoveT ["net", "move"] f6 _ := ⟨F6, PySem.W.mg_of X G a6, b6⟩
  have F7 := fun_mk (st := sNetT) l7 c7 k7
  have b7 := F7.binds (ps := ["net"]) fun _ _ _ _ _ _ us hl => by obtain ⟨a0, rfl⟩ := len1 hl; rfl
  have D7 : Def K mg "net_text" sNetT ["net"] f7 _ := ⟨F7, PySem.W.mg_of X G a7, b7⟩
  have F8 := fun_mk (st := sChecked) l8 c8 k8
  have b8 := F8.binds (ps := ["words"]) fun _ _ _ _ _ _ us hl => by obtain ⟨a0, rfl⟩ := len1 hl; rfl
  have D8 : Def K mg "checked_names" sChecked ["words"] f8 _ := ⟨F8, PySem.W.mg_of X G a8, b8⟩
  have F9 := fun_mk (st := sReadS) l9 c9 k9
  have b9 := F9.binds (ps := ["part"]) fun _ _ _ _ _ _ us hl => by obtain ⟨a0, rfl⟩ := len1 hl; rfl
  have D9 : Def K mg "read_start" sReadS ["part"] f9 _ := ⟨F9, PySem.W.mg_of X G a9, b9⟩
  have F10 := fun_mk (st := sReadM) l10 c10 k10
  have b10 := F10.binds (ps := ["part"]) fun _ _ _ _ _ _ us hl => by obtain ⟨a0, rfl⟩ := len1 hl; rfl
  have D10 : Def K mg "read_move" sReadM ["part"] f10 _ := ⟨F10, PySem.W.mg_of X G a10, b10⟩
  have F11 := fun_mk (st := sReadN) l11 c11 k11
  have b11 := F11.binds (ps := ["text"]) fun _ _ _ _ _ _ us hl => by obtain ⟨a0, rfl⟩ := len1 hl; rfl
  have D11 : Def K mg "read_net" sReadN ["text"] f11 _ := ⟨F11, PySem.W.mg_of X G a11, b11⟩
  have F12 := fun_mk (st := sCell) l12 c12 k12
  have b12 := F12.binds (ps := ["_law_script", "_law_k"]) fun _ _ _ _ _ _ us hl => by obtain ⟨a0, a1, rfl⟩ := len2 hl; rfl
  have D12 : Def K mg "_law_cell_at" sCell ["_law_script", "_law_k"] f12 _ := ⟨F12, PySem.W.mg_of X G a12, b12⟩
  have F13 := fun_mk (st := sChoice) l13 c13 k13
  have b13 := F13.binds (ps := ["_law_pool", "_law_number", "_law_many"]) fun _ _ _ _ _ _ us hl => by obtain ⟨a0, a1, a2, rfl⟩ := len3 hl; rfl
  have D13 : Def K mg "_law_choice" sChoice ["_law_pool", "_law_number", "_law_many"] f13 _ := ⟨F13, PySem.W.mg_of X G a13, b13⟩
  have F14 := fun_mk (st := sListed) l14 c14 k14
  have b14 := F14.binds (ps := ["_law_names"]) fun _ _ _ _ _ _ us hl => by obtain ⟨a0, rfl⟩ := len1 hl; rfl
  have D14 : Def K mg "_law_listed" sListed ["_law_names"] f14 _ := ⟨F14, PySem.W.mg_of X G a14, b14⟩
  have F15 := fun_mk (st := sBuilt) l15 c15 k15
  have b15 := F15.binds (ps := ["_law_script"]) fun _ _ _ _ _ _ us hl => by obtain ⟨a0, rfl⟩ := len1 hl; rfl
  have D15 : Def K mg "_law_built" sBuilt ["_law_script"] f15 _ := ⟨F15, PySem.W.mg_of X G a15, b15⟩
  have F16 := fun_mk (st := sOdd) l16 c16 k16
  have b16 := F16.binds (ps := ["_law_number"]) fun _ _ _ _ _ _ us hl => by obtain ⟨a0, rfl⟩ := len1 hl; rfl
  have D16 : Def K mg "_law_odd" sOdd ["_law_number"] f16 _ := ⟨F16, PySem.W.mg_of X G a16, b16⟩
  have F17 := fun_mk (st := sSpoiled) l17 c17 k17
  have b17 := F17.binds (ps := ["_law_text", "_law_cell"]) fun _ _ _ _ _ _ us hl => by obtain ⟨a0, a1, rfl⟩ := len2 hl; rfl
  have D17 : Def K mg "_law_spoiled" sSpoiled ["_law_text", "_law_cell"] f17 _ := ⟨F17, PySem.W.mg_of X G a17, b17⟩
  have F18 := fun_mk (st := sNamed) l18 c18 k18
  have b18 := F18.binds (ps := ["_law_word"]) fun _ _ _ _ _ _ us hl => by obtain ⟨a0, rfl⟩ := len1 hl; rfl
  have D18 : Def K mg "_law_is_named" sNamed ["_law_word"] f18 _ := ⟨F18, PySem.W.mg_of X G a18, b18⟩
  have F19 := fun_mk (st := sNamesOf) l19 c19 k19
  have b19 := F19.binds (ps := ["_law_text"]) fun _ _ _ _ _ _ us hl => by obtain ⟨a0, rfl⟩ := len1 hl; rfl
  have D19 : Def K mg "_law_names_of" sNamesOf ["_law_text"] f19 _ := ⟨F19, PySem.W.mg_of X G a19, b19⟩
  have F20 := fun_mk (st := sPartOf) l20 c20 k20
  have b20 := F20.binds (ps := ["_law_part"]) fun _ _ _ _ _ _ us hl => by obtain ⟨a0, rfl⟩ := len1 hl; rfl
  have D20 : Def K mg "_law_part_of" sPartOf ["_law_part"] f20 _ := ⟨F20, PySem.W.mg_of X G a20, b20⟩
  have F21 := fun_mk (st := sBadNet) l21 c21 k21
  have b21 := F21.binds (ps := ["_law_rows", "_law_start"]) fun _ _ _ _ _ _ us hl => by obtain ⟨a0, a1, rfl⟩ := len2 hl; rfl
  have D21 : Def K mg "_law_bad_net" sBadNet ["_law_rows", "_law_start"] f21 _ := ⟨F21, PySem.W.mg_of X G a21, b21⟩
  have F22 := fun_mk (st := sDue) l22 c22 k22
  have b22 := F22.binds (ps := ["_law_text"]) fun _ _ _ _ _ _ us hl => by obtain ⟨a0, rfl⟩ := len1 hl; rfl
  have D22 : Def K mg "_law_due" sDue ["_law_text"] f22 _ := ⟨F22, PySem.W.mg_of X G a22, b22⟩
  have F23 := fun_mk (st := sSaid) l23 c23 k23
  have b23 := F23.binds (ps := ["_law_thing"]) fun _ _ _ _ _ _ us hl => by obtain ⟨a0, rfl⟩ := len1 hl; rfl
  have D23 : Def K mg "_law_said" sSaid ["_law_thing"] f23 _ := ⟨F23, PySem.W.mg_of X G a23, b23⟩
  have F24 := fun_mk (st := sLaw) l24 c24 k24
  have F25 := fun_mk (st := sInit) l25 c25 k25
  have b25 := F25.binds (ps := ["self", "moves", "start"]) fun _ _ _ _ _ _ us hl => by obtain ⟨a0, a1, a2, rfl⟩ := len3 hl; rfl
  have D25 : MDef K C "__init__" "Net.__init__" sInit ["self", "moves", "start"] f25 _ := ⟨F25, ⟨a25, i25, k25⟩, b25⟩
  have F26 := fun_mk (st := sGetM) l26 c26 k26
  have b26 := F26.binds (ps := ["self"]) fun _ _ _ _ _ _ us hl => by obtain ⟨a0, rfl⟩ := len1 hl; rfl
  have D26 : MDef K C "moves" "Net.moves" sGetM ["self"] f26 _ := ⟨F26, ⟨a26, i26, k26⟩, b26⟩
  have F27 := fun_mk (st := sStart) l27 c27 k27
  have b27 := F27.binds (ps := ["self"]) fun _ _ _ _ _ _ us hl => by obtain ⟨a0, rfl⟩ := len1 hl; rfl
  have D27 : MDef K C "start" "Net.start" sStart ["self"] f27 _ := ⟨F27, ⟨a27, i27, k27⟩, b27⟩
  have F28 := fun_mk (st := sMust) l28 c28 k28
  have b28 := F28.binds (ps := ["self", "move"]) fun _ _ _ _ _ _ us hl => by obtain ⟨a0, a1, rfl⟩ := len2 hl; rfl
  have D28 : MDef K C "must_have" "Net.must_have" sMust ["self", "move"] f28 _ := ⟨F28, ⟨a28, i28, k28⟩, b28⟩
  have F29 := fun_mk (st := sTakes) l29 c29 k29
  have b29 := F29.binds (ps := ["self", "move"]) fun _ _ _ _ _ _ us hl => by obtain ⟨a0, a1, rfl⟩ := len2 hl; rfl
  have D29 : MDef K C "takes" "Net.takes" sTakes ["self", "move"] f29 _ := ⟨F29, ⟨a29, i29, k29⟩, b29⟩
  have F30 := fun_mk (st := sGives) l30 c30 k30
  have b30 := F30.binds (ps := ["self", "move"]) fun _ _ _ _ _ _ us hl => by obtain ⟨a0, a1, rfl⟩ := len2 hl; rfl
  have D30 : MDef K C "gives" "Net.gives" sGives ["self", "move"] f30 _ := ⟨F30, ⟨a30, i30, k30⟩, b30⟩
  have F31 := fun_mk (st := sNoTextI) l31 c31 k31
  have b31 := F31.binds (ps := ["self"]) fun _ _ _ _ _ _ us hl => by obtain ⟨a0, rfl⟩ := len1 hl; rfl
  have F32 := fun_mk (st := sNoNetI) l32 c32 k32
  have b32 := F32.binds (ps := ["self"]) fun _ _ _ _ _ _ us hl => by obtain ⟨a0, rfl⟩ := len1 hl; rfl
  have BNE : ExcBy K NE := ⟨bNE, rNE, fNE⟩
  have ENE : ExcC K NE := ⟨_, _, _, _, _, _, _, _, _, _, _, _, _, _, _, _, _, oNE, hNE⟩
  have TCT : ExcT K CT NT := ⟨_, _, _, _, _, _, _, _, _, _, _, _, _, _, _, oCT, taCT⟩
  have ECT : ExcC K CT := ⟨_, _, _, _, _, _, _, _, _, _, _, _, _, _, _, _, _, oCT, coCT⟩
  have WCT : MkX K CT NT f31 := ⟨TCT, noCT, a31, ⟨_, l31, rfl⟩, kpCT⟩
  have UCT : UnderC K CT NE := ⟨⟨_, _, _, _, _, _, _, _, _, _, _, _, _, _, _, _, _, oCT, unCT⟩, ENE⟩
  have ICT : ExcI K CT := ⟨gaCT, gnCT, hmCT, hoCT, hdCT, clCT, xc, xt⟩
  have TCO : ExcT K CO NO := ⟨_, _, _, _, _, _, _, _, _, _, _, _, _, _, _, oCO, taCO⟩
  have ECO : ExcC K CO := ⟨_, _, _, _, _, _, _, _, _, _, _, _, _, _, _, _, _, oCO, coCO⟩
  have WCO : MkX K CO NO f32 := ⟨TCO, noCO, a32, ⟨_, l32, rfl⟩, kpCO⟩
  have UCO : UnderC K CO NE := ⟨⟨_, _, _, _, _, _, _, _, _, _, _, _, _, _, _, _, _, oCO, unCO⟩, ENE⟩
  have ICO : ExcI K CO := ⟨gaCO, gnCO, hmCO, hoCO, hdCO, clCO, xc, xt⟩
  have QCT : Kind16 K NE CO CT CR CF CH CM CN CE CP CW CS CY CT true := ⟨UCT, ICT, qaCT, qvCT, qtCT, qoCT⟩
  have QCO : Kind16 K NE CO CT CR CF CH CM CN CE CP CW CS CY CO false := ⟨UCO, ICO, qaCO, qvCO, qtCO, qoCO⟩
  refine ⟨PySem.W.fnOf "law" "law" (defArgs sLaw) (defBody sLaw) (defScope sLaw) .none kV24 dc24 pm24 an24 cd24 ct24, fun s v => .of_eq rfl, fun base _ _ => ?_⟩
  have GI := ok_init (P := l.prog) (w := w) (mg := mg) (base := base) F25 T NC D1 D2 D3 D4 D5
  have GM := ok_getM (P := l.prog) (w := w) (mg := mg) (base := base) F26 T NC
  have GS := ok_start (P := l.prog) (w := w) (mg := mg) (base := base) F27 NC
  have GT := ok_takes (P := l.prog) (w := w) (mg := mg) (base := base) F29 T NC D1 D28
  have GG := ok_gives (P := l.prog) (w := w) (mg := mg) (base := base) F30 T NC D1 D28
  have XCT := ok_NoTextI (P := l.prog) (w := w) (mg := mg) (base := base) F31 M16.ne BNE TCT
  have YCT : XDef0 l.prog w K mg base "NoText" CT NT f31 _ := ⟨WCT, PySem.W.mg_of X G gCT, b31, XCT, ECT⟩
  have XCO := ok_NoNetI (P := l.prog) (w := w) (mg := mg) (base := base) F32 M16.ne BNE TCO
  have YCO : XDef0 l.prog w K mg base "NoNet" CO NO f32 _ := ⟨WCO, PySem.W.mg_of X G gCO, b32, XCO, ECO⟩
  have GIX := ok_initX (C := C) F25 T YCO D1 D2 D3 D4 D5
  have GIB : FnOk l.prog w K mg base (CX1 l.prog w) 5 f25 _ ["self", "moves", "start"] (spInitB K C CO) := FnOk.or GI.lift GIX
  have GMT := ok_moveT (P := l.prog) (w := w) (mg := mg) (base := base) F6 T3 NC D29 GT D30 GG
  have GNT := ok_netT (P := l.prog) (w := w) (mg := mg) (base := base) F7 T T3 NC D27 GS D26 GM D6 GMT
  have GCX := ok_checkedX F8 T YCT D1
  have GSX := ok_readSX F9 T3 YCT D8 GCX
  have GMX := ok_readMX F10 T3 YCT D8 GCX
  have GNX := ok_readNX F11 T YCT (PySem.W.mg_of X G aC) ⟨mk, a25, i25, kc⟩ b25 GIB D9 GSX D10 GMX
  have GCe := ok_cell (P := l.prog) (w := w) (mg := mg) (base := base) F12 T
  have GCh := ok_choice (P := l.prog) (w := w) (mg := mg) (base := base) F13 T
  have GLi := ok_listed (P := l.prog) (w := w) (mg := mg) (base := base) F14
  have GBu := ok_built (P := l.prog) (w := w) (mg := mg) (base := base) F15 T T2 D12 GCe D13 GCh D14 GLi
  have GOd := ok_odd (P := l.prog) (w := w) (mg := mg) (base := base) F16 T
  have GSp := ok_spoiled (P := l.prog) (w := w) (mg := mg) (base := base) F17 T
  have GNa := ok_named (P := l.prog) (w := w) (mg := mg) (base := base) F18 T
  have GNO := ok_namesOf (P := l.prog) (w := w) (mg := mg) (base := base) F19 T D18 GNa
  have GPa := ok_partOf (P := l.prog) (w := w) (mg := mg) (base := base) F20 D18 GNa D19 GNO
  have GBn := ok_badNet (P := l.prog) (w := w) (mg := mg) (base := base) F21 T T4
  have GDu := ok_due (P := l.prog) (w := w) (mg := mg) (base := base) F22 T D19 GNO D20 GPa D21 GBn D14 GLi
  have GSa := ok_said F23 T M16 QCO QCT D11 GNX D7 GNT
  have GLw := ok_law F24 D12 GCe D15 GBu D16 GOd D17 GSp D22 GDu D23 GSa
  exact GLw.calm.imp fun vs H Q E h => h
theorem walk {l : PySem.W.OpenLaw} {q : Program} {loose : List Str} {XP : (Str → Option Value) → Heap → Prop} {YP : World → Heap → Prop} {d : DefRec} {K : Params → PySem.W.Frag} (hn : l.most = some 63) (hdf : d.params.defaults = [])
    (hY : ∀ (w : World) (h : Heap), YP w h → (K w.params).In h)
    (F : ∀ (w : World) (mg : Str → Option Value) (fa : Addr) (h : Heap), (K w.params).In h → h.Ns mainGlobals mg → mg d.name = some (.ref fa) →
      ∃ fd : FuncData, (∀ (s : Shared) (u : Value), BindsTo s fd ⟨[u], []⟩ [("_law_script", u)]) ∧ ∀ base : Heap, (K w.params).In base → base.Ns mainGlobals mg → FnOk l.prog w (K w.params) mg base CX0 9 fa fd ["_law_script"] (spLaw (K w.params))) :
    PySem.W.WalkO q loose XP YP l.row.toRowW d [] (fun f vs => PySem.call f vs) :=
  L2.walk_of (n := 63) (k := 9) (x := "_law_script") (CX := fun _ => CX0) (sp := fun w => spLaw (K w.params)) hn (by decide) hdf ⟨rfl, by decide, by decide⟩ hY F (fun _ _ a ns hl _ hS => ⟨a, ns, rfl, hS, hl, fun _ => rfl⟩) fun _ _ _ _ _ z => z
end Uf
end
/-! UfF16 -/
section
set_option Elab.async false
set_option linter.all false
open PySem PySem.W PyProof.Rows
def PySem.W.Fast.tw516752536518288416 : Unit := ()
def PySem.W.Fast.tw5968823105551950240 : Unit := ()
def PySem.W.Fast.tw2890020624801966880 : Unit := ()
def PySem.W.Fast.tw16563908188009525088 : Unit := ()
def PySem.W.Fast.tw18332964396092462337 : Unit := ()
def PySem.W.Fast.tw4502930336985682401 : Unit := ()
def PySem.W.Fast.tw1056264897947460385 : Unit := ()
def PySem.W.Fast.tw11591595821356168290 : Unit := ()
def PySem.W.Fast.tw17510236682670697890 : Unit := ()
def PySem.W.Fast.tw4358400752291602402 : Unit := ()
def PySem.W.Fast.tw1497079604156554852 : Unit := ()
def PySem.W.Fast.tw10491770464777815013 : Unit := ()
def PySem.W.Fast.tw4948293479632682023 : Unit := ()
def PySem.W.Fast.tw12504730815809170664 : Unit := ()
def PySem.W.Fast.tw17036874165535254537 : Unit := ()
def PySem.W.Fast.tw18035356374333052489 : Unit := ()
def PySem.W.Fast.tw12343897704669335210 : Unit := ()
def PySem.W.Fast.tw16532475915726380874 : Unit := ()
def PySem.W.Fast.tw17341128508647397645 : Unit := ()
def PySem.W.Fast.tw10408053419416541069 : Unit := ()
def PySem.W.Fast.tw8492400756323691278 : Unit := ()
def PySem.W.Fast.tw1736454481302331951 : Unit := ()
def PySem.W.Fast.tw5711779418019431920 : Unit := ()
def PySem.W.Fast.tw17391408018274203985 : Unit := ()
def PySem.W.Fast.tw2765121891732173267 : Unit := ()
def PySem.W.Fast.tw16284294819335504659 : Unit := ()
def PySem.W.Fast.tw4885400249843814804 : Unit := ()
def PySem.W.Fast.tw2680298248303685878 : Unit := ()
def PySem.W.Fast.tw13606802623090542390 : Unit := ()
def PySem.W.Fast.tw6504297244696165302 : Unit := ()
def PySem.W.Fast.tw18137180173428248599 : Unit := ()
def PySem.W.Fast.tw6717943819765249271 : Unit := ()
def PySem.W.Fast.tw10492461682195600953 : Unit := ()
def PySem.W.Fast.tw9587332591328203450 : Unit := ()
def PySem.W.Fast.tw16358540525596049403 : Unit := ()
def PySem.W.Fast.tw5463342588425416412 : Unit := ()
def PySem.W.Fast.tw1964950438521672797 : Unit := ()
def PySem.W.Fast.tw8731945565808578590 : Unit := ()
def PySem.W.Fast.tw10225898795167224094 : Unit := ()
def PySem.W.Fast.tw10218520450411940190 : Unit := ()
def PySem.W.Fast.tw958369487727540747 : Unit := ()
set_option maxRecDepth 100000 in
set_option maxHeartbeats 0 in
theorem PySem.Challenge.cw_unfoldnet_k16_texts_refused_holds : PySem.Challenge.rw_unfoldnet_k16_texts_refused.Holds := by
  w_on; o_law; k_head; (case hw => w_witness2)
  k_fill
  refine Uf.walk (l := PySem.Challenge.rw_unfoldnet_k16_texts_refused) rfl rfl (fun w h Y => PySem.W.kIn_of Y) ?F
  case F =>
    intro w mg fa h KX G hmg
    refine' Uf.all_mk KX G hmg ?aC ?gCT ?gCO ?gNE ?gCN ?gCH ?gCF ?gCR ?gCS ?gCM ?gCY ?gCP ?gCW ?gCE ?a1 ?a2 ?a3 ?a4 ?a5 ?a6 ?a7 ?a8 ?a9 ?a10 ?a11 ?a12 ?a13 ?a14 ?a15 ?a16 ?a17 ?a18 ?a19 ?a20 ?a21 ?a22 ?a23 ?a24 ?a25 ?i25 ?a26 ?i26 ?a27 ?i27 ?a28 ?i28 ?a29 ?i29 ?a30 ?i30 ?oCT ?oCO ?oNE ?a31 ?a32 ?l1 ?c1 ?k1 ?l2 ?c2 ?k2 ?l3 ?c3 ?k3 ?l4 ?c4 ?k4 ?l5 ?c5 ?k5 ?l6 ?c6 ?k6 ?l7 ?c7 ?k7 ?l8 ?c8 ?k8 ?l9 ?c9 ?k9 ?l10 ?c10 ?k10 ?l11 ?c11 ?k11 ?l12 ?c12 ?k12 ?l13 ?c13 ?k13 ?l14 ?c14 ?k14 ?l15 ?c15 ?k15 ?l16 ?c16 ?k16 ?l17 ?c17 ?k17 ?l18 ?c18 ?k18 ?l19 ?c19 ?k19 ?l20 ?c20 ?k20 ?l21 ?c21 ?k21 ?l22 ?c22 ?k22 ?l23 ?c23 ?k23 ?l24 ?c24 ?k24 ?l25 ?c25 ?k25 ?l26 ?c26 ?k26 ?l27 ?c27 ?k27 ?l28 ?c28 ?k28 ?l29 ?c29 ?k29 ?l30 ?c30 ?k30 ?l31 ?c31 ?k31 ?l32 ?c32 ?k32 ?pg ?hd ?po ?sa ?mk ?kc ?nP ?nS ?nT ?nG ?z1 ?z2 ?z3 ?z4 ?z5 ?z6 ?z7 ?z8 ?z9 ?z10 ?z11 ?z12 ?z13 ?z14 ?z15 ?y1 ?y2 ?y3 ?y4 ?y5 ?y6 ?y7 ?y8 ?y9 ?bNE ?rNE ?fNE ?hNE ?xc ?xt ?taCT ?noCT ?kpCT ?hdCT ?coCT ?unCT ?gaCT ?gnCT ?hmCT ?hoCT ?clCT ?qvCT ?qaCT ?qtCT ?qoCT ?taCO ?noCO ?kpCO ?hdCO ?coCO ?unCO ?gaCO ?gnCO ?hmCO ?hoCO ?clCO ?qvCO ?qaCO ?qtCO ?qoCO
    (case aC => k_is); (case gCT => k_is); (case gCO => k_is); (case gNE => k_is); (case gCN => k_is); (case gCH => k_is)
    (case gCF => k_is); (case gCR => k_is); (case gCS => k_is); (case gCM => k_is); (case gCY => k_is); (case gCP => k_is)
    (case gCW => k_is); (case gCE => k_is); (case a1 => k_is); (case a2 => k_is); (case a3 => k_is); (case a4 => k_is)
    (case a5 => k_is); (case a6 => k_is); (case a7 => k_is); (case a8 => k_is); (case a9 => k_is); (case a10 => k_is)
    (case a11 => k_is); (case a12 => k_is); (case a13 => k_is); (case a14 => k_is); (case a15 => k_is); (case a16 => k_is)
    (case a17 => k_is); (case a18 => k_is); (case a19 => k_is); (case a20 => k_is); (case a21 => k_is); (case a22 => k_is)
    (case a23 => k_is); (case a24 => k_is); (case a25 => k_is); (case i25 => k_is); (case a26 => k_is); (case i26 => k_is)
    (case a27 => k_is); (case i27 => k_is); (case a28 => k_is); (case i28 => k_is); (case a29 => k_is); (case i29 => k_is)
    (case a30 => k_is); (case i30 => k_is); (case oCT => k_is); (case oCO => k_is); (case oNE => k_is); (case a31 => k_is)
    (case a32 => k_is); (case l1 => k_is); (case c1 => k_is); (case k1 => k_is); (case l2 => k_is); (case c2 => k_is)
    (case k2 => k_is); (case l3 => k_is); (case c3 => k_is); (case k3 => k_is); (case l4 => k_is); (case c4 => k_is)
    (case k4 => k_is); (case l5 => k_is); (case c5 => k_is); (case k5 => k_is); (case l6 => k_is); (case c6 => k_is)
    (case k6 => k_is); (case l7 => k_is); (case c7 => k_is); (case k7 => k_is); (case l8 => k_is); (case c8 => k_is)
    (case k8 => k_is); (case l9 => k_is); (case c9 => k_is); (case k9 => k_is); (case l10 => k_is); (case c10 => k_is)
    (case k10 => k_is); (case l11 => k_is); (case c11 => k_is); (case k11 => k_is); (case l12 => k_is); (case c12 => k_is)
    (case k12 => k_is); (case l13 => k_is); (case c13 => k_is); (case k13 => k_is); (case l14 => k_is); (case c14 => k_is)
    (case k14 => k_is); (case l15 => k_is); (case c15 => k_is); (case k15 => k_is); (case l16 => k_is); (case c16 => k_is)
    (case k16 => k_is); (case l17 => k_is); (case c17 => k_is); (case k17 => k_is); (case l18 => k_is); (case c18 => k_is)
    (case k18 => k_is); (case l19 => k_is); (case c19 => k_is); (case k19 => k_is); (case l20 => k_is); (case c20 => k_is)
    (case k20 => k_is); (case l21 => k_is); (case c21 => k_is); (case k21 => k_is); (case l22 => k_is); (case c22 => k_is)
    (case k22 => k_is); (case l23 => k_is); (case c23 => k_is); (case k23 => k_is); (case l24 => k_is); (case c24 => k_is)
    (case k24 => k_is); (case l25 => k_is); (case c25 => k_is); (case k25 => k_is); (case l26 => k_is); (case c26 => k_is)
    (case k26 => k_is); (case l27 => k_is); (case c27 => k_is); (case k27 => k_is); (case l28 => k_is); (case c28 => k_is)
    (case k28 => k_is); (case l29 => k_is); (case c29 => k_is); (case k29 => k_is); (case l30 => k_is); (case c30 => k_is)
    (case k30 => k_is); (case l31 => k_is); (case c31 => k_is); (case k31 => k_is); (case l32 => k_is); (case c32 => k_is)
    (case k32 => k_is); (case pg => k_is); (case hd => k_is); (case po => k_is); (case sa => k_is); (case mk => k_is)
    (case kc => k_is); (case nP => k_is); (case nS => k_is); (case nT => k_is); (case nG => k_is); (case z1 => k_is)
    (case z2 => k_is); (case z3 => k_is); (case z4 => k_is); (case z5 => k_is); (case z6 => k_is); (case z7 => k_is)
    (case z8 => k_is); (case z9 => k_is); (case z10 => k_is); (case z11 => k_is); (case z12 => k_is); (case z13 => k_is)
    (case z14 => k_is); (case z15 => k_is); (case y1 => k_is); (case y2 => k_is); (case y3 => k_is); (case y4 => k_is)
    (case y5 => k_is); (case y6 => k_is); (case y7 => k_is); (case y8 => k_is); (case y9 => k_is); (case bNE => k_is)
    (case rNE => k_is); (case fNE => k_is); (case hNE => (first | rfl | kernel_rfl | decide +kernel | k_is)); (case xc => k_is); (case xt => k_is); (case taCT => (first | rfl | kernel_rfl | decide +kernel | k_is))
    (case noCT => (first | rfl | kernel_rfl | decide +kernel | k_is)); (case kpCT => k_is); (case hdCT => k_is); (case coCT => (first | rfl | kernel_rfl | decide +kernel | k_is)); (case unCT => (first | rfl | kernel_rfl | decide +kernel | k_is)); (case gaCT => k_is)
    (case gnCT => k_is); (case hmCT => k_is); (case hoCT => k_is); (case clCT => k_is); (case qvCT => (first | rfl | kernel_rfl | decide +kernel | k_is)); (case qaCT => (first | rfl | kernel_rfl | decide +kernel | k_is))
    (case qtCT => (first | rfl | kernel_rfl | decide +kernel | k_is)); (case qoCT => (first | rfl | kernel_rfl | decide +kernel | k_is)); (case taCO => (first | rfl | kernel_rfl | decide +kernel | k_is)); (case noCO => (first | rfl | kernel_rfl | decide +kernel | k_is)); (case kpCO => k_is); (case hdCO => k_is)
    (case coCO => (first | rfl | kernel_rfl | decide +kernel | k_is)); (case unCO => (first | rfl | kernel_rfl | decide +kernel | k_is)); (case gaCO => k_is); (case gnCO => k_is); (case hmCO => k_is); (case hoCO => k_is)
    (case clCO => k_is); (case qvCO => (first | rfl | kernel_rfl | decide +kernel | k_is)); (case qaCO => (first | rfl | kernel_rfl | decide +kernel | k_is)); (case qtCO => (first | rfl | kernel_rfl | decide +kernel | k_is)); (case qoCO => (first | rfl | kernel_rfl | decide +kernel | k_is))
end
