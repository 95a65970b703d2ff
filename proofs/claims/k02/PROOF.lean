import PyProof.Rows.All
import Wide.All
import OpenK.AllK
import Wide.FinOn
import Lean
import PyProof.EqAt
import PyProof.EqKinds
import PyProof.TupleCall
import KE.KSortAsk
import KE.KMinBuiltin
import PySem.Challenge.RW_switchlamps_k02_whole_telling
set_option Elab.async false
set_option linter.all false
set_option maxRecDepth 100000
namespace L2
open PySem PySem.Spec PyProof.Rows
abbrev Key := Sum Int Str
def keyIs : Key → Value → Bool
  | .inl k, v => Value.isInt k v
  | .inr x, v => Value.isStrOf x v
def keyH (w : World) : Key → Int
  | .inl k => hashInt k
  | .inr x => hashStr w x
theorem keyIs_shape : ∀ {k : Key} {v : Value}, keyIs k v = true → (∃ i t, k = Sum.inl i ∧ v = Value.int i t) ∨ (∃ x t, k = Sum.inr x ∧ v = Value.str x t)
  | .inl i, v, h => by
    obtain ⟨t, e⟩ := Value.isInt_shape (k := i) (v := v) h
    exact .inl ⟨i, t, rfl, e⟩
  | .inr x, v, h => by
    obtain ⟨t, e⟩ := Value.isStrOf_shape (x := x) (v := v) h
    exact .inr ⟨x, t, rfl, e⟩
theorem key_ll (a b : Int) : decide ((Sum.inl a : Key) = Sum.inl b) = (a == b) := by
  by_cases e : a = b
  · subst e; simp
  · have h : ¬ (Sum.inl a : Key) = Sum.inl b := fun q => e (Sum.inl.inj q)
    rw [decide_eq_false h]
    exact (beq_eq_false_iff_ne.mpr e).symm
theorem key_rr (a b : Str) : decide ((Sum.inr a : Key) = Sum.inr b) = decide (a = b) := by
  by_cases e : a = b
  · subst e; simp
  · have h : ¬ (Sum.inr a : Key) = Sum.inr b := fun q => e (Sum.inr.inj q)
    rw [decide_eq_false h, decide_eq_false e]
theorem key_lr (a : Int) (b : Str) : decide ((Sum.inl a : Key) = Sum.inr b) = false := decide_eq_false (fun q => nomatch q)
theorem key_rl (a : Str) (b : Int) : decide ((Sum.inr a : Key) = Sum.inl b) = false := decide_eq_false (fun q => nomatch q)
def mixKind (prog : Program) (w : World) : PySem.KeyKind prog w Key where
  is := keyIs
  hash := keyH w
  inj := fun v a b ha hb => by
    rcases keyIs_shape ha with ⟨i, t, rfl, rfl⟩ | ⟨x, t, rfl, rfl⟩
    · rcases keyIs_shape hb with ⟨j, u, rfl, e⟩ | ⟨y, u, rfl, e⟩
      · injection e with e1 _; rw [e1]
      · exact nomatch e
    · rcases keyIs_shape hb with ⟨j, u, rfl, e⟩ | ⟨y, u, rfl, e⟩
      · exact nomatch e
      · injection e with e1 _; rw [e1]
  byValue := fun k v h => by
    rcases keyIs_shape h with ⟨i, t, rfl, rfl⟩ | ⟨x, t, rfl, rfl⟩ <;> rfl
  pyHash := fun hv h => by
    rcases keyIs_shape hv with ⟨i, t, rfl, rfl⟩ | ⟨x, t, rfl, rfl⟩
    · exact wpAny_pyHash_int h
    · exact wpAny_pyHash_str h
  eqBool := fun hu hv h => by
    rcases keyIs_shape hu with ⟨i, t, rfl, rfl⟩ | ⟨x, t, rfl, rfl⟩
    · rcases keyIs_shape hv with ⟨j, u, rfl, rfl⟩ | ⟨y, u, rfl, rfl⟩
      · rw [key_ll] at h; exact wpAny_eqBool_int h
      · rw [key_lr] at h; exact SeqAt.EqAt.int_str i t y u _ _ _ _ h
    · rcases keyIs_shape hv with ⟨j, u, rfl, rfl⟩ | ⟨y, u, rfl, rfl⟩
      · rw [key_rl] at h; exact SeqAt.EqAt.str_int x t j u _ _ _ _ h
      · rw [key_rr] at h; exact wpAny_eqBool_str h
  «strs» := fun k x t v h => by
    rcases keyIs_shape h with ⟨i, u, rfl, e⟩ | ⟨y, u, rfl, e⟩
    · exact nomatch e
    · injection e with e1 _
      subst e1
      cases v <;> rfl
end L2
namespace L2
open PySem PySem.Spec PyProof.Rows
inductive V where
  | non | bl (b : Bool) | int (i : Int) | str (x : Str) | byt (b : Array UInt8) | flt (b : UInt64) | ref (a : Addr) | ty (n : String)
  deriving DecidableEq
def RelV : V → Value → Prop
  | .non, u => u = Value.none
  | .bl b, u => u = Value.bool b
  | .int i, u => ∃ t, u = Value.int i t
  | .str x, u => ∃ t, u = Value.str x t
  | .byt b, u => ∃ t, u = Value.bytes b t
  | .flt b, u => ∃ t, u = Value.float b t
  | .ref a, u => u = Value.ref a
  | .ty n, u => u = Value.type n
abbrev Vals : List V → List Value → Prop := Paired RelV
theorem Vals.length {xs : List V} {us : List Value} (r : Vals xs us) : xs.length = us.length := Paired.length r
theorem Vals.get : ∀ {xs : List V} {us : List Value} {i : Nat} {x : V}, Vals xs us → xs[i]? = some x → ∃ u, us[i]? = some u ∧ RelV x u
  | _, _, _, _, .nil, e => by simp at e
  | _, _, 0, _, .cons r _, e => by simp at e; subst e; exact ⟨_, rfl, r⟩
  | _, _, i + 1, x, .cons _ t, e => by
    obtain ⟨u, h1, h2⟩ := Vals.get (i := i) (x := x) t (by simpa using e)
    exact ⟨u, by simpa using h1, h2⟩
theorem Vals.append : ∀ {xs ys : List V} {us ws : List Value}, Vals xs us → Vals ys ws → Vals (xs ++ ys) (us ++ ws)
  | _, _, _, _, .nil, s => s
  | _, _, _, _, .cons r t, s => .cons r (Vals.append t s)
def RelO : Option V → Option Value → Prop
  | some v, some u => RelV v u
  | none, none => True
  | _, _ => False
def KV {κ : Type} : List (κ × V) → List (κ × Value) → Prop := Paired fun (p : κ × V) (q : κ × Value) => p.1 = q.1 ∧ RelV p.2 q.2
def kV : Key → V
  | .inl i => .int i
  | .inr x => .str x
inductive HO where
  | lst (xs : List V)
  | tup (xs : List V)
  | dK (kvs : List (Key × V)) | dT (kvs : List (List Key × V))
  | set (S : Int → Bool) (n : Nat)
  | ins (C dx : Addr) (fs : List (Str × V))
  | own (x : Addr)
  | xd (fs : List (Str × V))
  | met (f x : Addr)
  | rng (lo hi : Int)
  | frz (o : Obj) (u : HO)
  | tbl (ps : Array Value)
  | ext (φ : Heap → Prop)
abbrev Hp := Addr → Option HO
def upd (H : Hp) (a : Addr) (o : HO) : Hp := fun b => if b = a then some o else H b
theorem upd_same {H : Hp} {a : Addr} {o : HO} : upd H a o a = some o := by unfold upd; rw [if_pos rfl]
theorem upd_ne {H : Hp} {a b : Addr} {o : HO} (h : b ≠ a) : upd H a o b = H b := by unfold upd; rw [if_neg h]
theorem upd_upd {H : Hp} {a : Addr} {o u : HO} : upd (upd H a o) a u = upd H a u := by
  funext b; unfold upd; split <;> rfl
theorem ne_of {H : Hp} {a b : Addr} {o u : HO} (h : H a = some o) (h' : H b = some u) (d : o ≠ u) : a ≠ b := by
  intro e; subst e; rw [h] at h'; exact d (Option.some.inj h')
theorem ne_of_none {H : Hp} {a b : Addr} {o : HO} (h : H a = some o) (h' : H b = none) : a ≠ b := by
  intro e; subst e; rw [h] at h'; cases h'
section
variable (P : Program) (w : World)
def ObjOk (H : Hp) (h : Heap) (a : Addr) : HO → Prop
  | .lst xs => xs.length ≤ sizeLine ∧ ∃ (its : List Value) (n : Nat), Vals xs its ∧ h.get? a = some { cls := .type "list", data := .seq its.toArray n }
  | .tup xs => xs.length ≤ sizeLine ∧ ∃ its : List Value, Vals xs its ∧ IsTup h a its.toArray
  | .dK kvs => kvs.length ≤ sizeLine ∧ (a == sysModules) = false ∧ ∃ vs, KV kvs vs ∧ h.DictOf (mixKind P w) a vs
  | .dT kvs => kvs.length ≤ sizeLine ∧ (a == sysModules) = false ∧ ∃ xs : List (List Key × Addr × Value),
      Paired (fun (p : List Key × V) (q : List Key × Addr × Value) => p.1 = q.1 ∧ H q.2.1 = some (.tup (p.1.map kV)) ∧ RelV p.2 q.2.2) kvs xs ∧
      ∃ o es ep, h.get? a = some o ∧ o.ExactDict ∧ o.data = .dict es ep ∧ es.toList = xs.map (entryOfKey (tupleKind (mixKind P w))) ∧ (xs.map (·.1)).Nodup
  | .set S n => h.SetOf (intKind P w) a S n
  | .ins C dx fs => H dx = some (.own a) ∧ fs.length ≤ 1000 ∧ dx ≠ a ∧ h.get? a = some (PySem.W.instObj C dx) ∧
      ∃ mA, h.Ns1 dx mA ∧ (∀ f, RelO (fs.lookup f) (mA f)) ∧ PySem.Within mA (fs.map (·.1))
  | .own _ => ∃ o, h.get? a = some o
  | .xd fs => ∃ mA, h.Ns1 a mA ∧ ∀ f, RelO (fs.lookup f) (mA f)
  | .rng lo hi => ∃ t u v, h.get? a = some { cls := .type "range", data := .fields #[.int lo t, .int hi u, .int 1 v] }
  | .frz o u => h.get? a = some o ∧ ObjOk H h a u
  | .tbl ps => h.get? a = some { cls := .none, data := .fields ps }
  | .met f x => h.get? a = some (PySem.W.methodObj (.ref f) (.ref x))
  | .ext φ => φ h ∧ (∃ o, h.get? a = some o) ∧ ∀ h1 h2 : Heap, φ h1 → (∀ o, h1.get? a = some o → h2.get? a = some o) → φ h2
def HOk (H : Hp) (h : Heap) : Prop := ∀ a o, H a = some o → ObjOk P w H h a o
end
section
variable {P : Program} {w : World} {H H' : Hp} {h h' : Heap} {a : Addr} {o : HO}
theorem ObjOk.lt (x : ObjOk P w H h a o) : a < h.objs.size := by
  cases o with
  | lst xs => obtain ⟨_, _, _, _, e⟩ := x; exact Heap.lt_size e
  | tup xs => obtain ⟨_, _, _, p⟩ := x; exact p.lt
  | dK kvs => obtain ⟨_, _, _, _, o, _, _, e, _⟩ := x; exact Heap.lt_size e
  | dT kvs => obtain ⟨_, _, _, _, o, _, _, e, _⟩ := x; exact Heap.lt_size e
  | set S n => obtain ⟨o, _, _, _, e, _⟩ := x; exact Heap.lt_size e
  | ins C dx fs => obtain ⟨_, _, _, e, _⟩ := x; exact Heap.lt_size e
  | own y => obtain ⟨_, e⟩ := x; exact Heap.lt_size e
  | xd fs => obtain ⟨_, ⟨_, _, _, e, _⟩, _⟩ := x; exact Heap.lt_size e
  | rng lo hi => obtain ⟨_, _, _, e⟩ := x; exact Heap.lt_size e
  | frz ob u => obtain ⟨e, _⟩ := x; exact Heap.lt_size e
  | tbl ps => exact Heap.lt_size (show h.get? a = some _ from x)
  | met f y => exact Heap.lt_size (show h.get? a = some _ from x)
  | ext φ => obtain ⟨_, ⟨_, e⟩, _⟩ := x; exact Heap.lt_size e
theorem Paired.mapP {α β : Type} {F G : α → β → Prop} : ∀ {l₁ : List α} {l₂ : List β}, Paired F l₁ l₂ → (∀ a b, F a b → G a b) → Paired G l₁ l₂
  | _, _, .nil, _ => .nil
  | _, _, .cons r t, f => .cons (f _ _ r) (Paired.mapP t f)
theorem ObjOk.stay (x : ObjOk P w H h a o) (k : ∀ b u, (b = a ∨ H b = some (.own a)) → h.get? b = some u → h'.get? b = some u)
    (ho : ∀ b, H b = some (.own a) → H' b = some (.own a)) (ht : ∀ b xs, H b = some (.tup xs) → H' b = some (.tup xs)) : ObjOk P w H' h' a o := by
  induction o with
  | lst xs => obtain ⟨z, its, n, r, e⟩ := x; exact ⟨z, its, n, r, k _ _ (.inl rfl) e⟩
  | tup xs => obtain ⟨z, its, r, ob, e, c⟩ := x; exact ⟨z, its, r, ob, k _ _ (.inl rfl) e, c⟩
  | dK kvs => obtain ⟨z, y, vs, r, ob, es, ep, e, c⟩ := x; exact ⟨z, y, vs, r, ob, es, ep, k _ _ (.inl rfl) e, c⟩
  | dT kvs =>
    obtain ⟨z, y, xs, r, ob, es, ep, e, c⟩ := x
    exact ⟨z, y, xs, Paired.mapP r fun p q z => ⟨z.1, ht _ _ z.2.1, z.2.2⟩, ob, es, ep, k _ _ (.inl rfl) e, c⟩
  | set S n => obtain ⟨ob, es, ep, t, e, c⟩ := x; exact ⟨ob, es, ep, t, k _ _ (.inl rfl) e, c⟩
  | ins C dx fs =>
    obtain ⟨d, z, ne, e, mA, ⟨od, es, ep, e2, c⟩, r⟩ := x
    exact ⟨ho _ d, z, ne, k _ _ (.inl rfl) e, mA, ⟨od, es, ep, k _ _ (.inr d) e2, c⟩, r⟩
  | own y => obtain ⟨ob, e⟩ := x; exact ⟨ob, k _ _ (.inl rfl) e⟩
  | xd fs => obtain ⟨mA, ⟨od, es, ep, e, c⟩, r⟩ := x; exact ⟨mA, ⟨od, es, ep, k _ _ (.inl rfl) e, c⟩, r⟩
  | rng lo hi => obtain ⟨t, u, v, e⟩ := x; exact ⟨t, u, v, k _ _ (.inl rfl) e⟩
  | frz ob u ih => obtain ⟨e, q⟩ := x; exact ⟨k _ _ (.inl rfl) e, ih q⟩
  | tbl ps =>
    have e : h.get? a = some { cls := .none, data := .fields ps } := x
    show h'.get? a = some { cls := .none, data := .fields ps }
    exact k a _ (.inl rfl) e
  | met f y =>
    have e : h.get? a = some (PySem.W.methodObj (.ref f) (.ref y)) := x
    show h'.get? a = some (PySem.W.methodObj (.ref f) (.ref y))
    exact k a _ (.inl rfl) e
  | ext φ => obtain ⟨p, ⟨o, e⟩, st⟩ := x; exact ⟨st _ _ p fun o q => k _ _ (.inl rfl) q, ⟨o, k _ _ (.inl rfl) e⟩, st⟩
theorem HOk.lt (x : HOk P w H h) (e : H a = some o) : a < h.objs.size := (x a o e).lt
theorem HOk.fresh (x : HOk P w H h) (e : h.objs.size ≤ a) : H a = none := by
  cases q : H a with
  | none => rfl
  | some u => exact absurd (Nat.lt_of_lt_of_le (x.lt q) e) (Nat.lt_irrefl _)
theorem HOk.kept (x : HOk P w H h) (k : ∀ b u, h.get? b = some u → h'.get? b = some u) : HOk P w H h' := fun a o e =>
  (x a o e).stay (fun b u _ q => k b u q) (fun _ q => q) fun _ _ q => q
theorem HOk.laid (x : HOk P w H h) (k : ∀ b u, h.get? b = some u → h'.get? b = some u) (hp : h.objs.size ≤ a) (new : ObjOk P w (upd H a o) h' a o) : HOk P w (upd H a o) h' := fun b u e => by
  have hn := x.fresh hp
  by_cases hb : b = a
  · subst hb; rw [upd_same] at e; cases e; exact new
  · rw [upd_ne hb] at e
    exact (x b u e).stay (fun c v _ q => k c v q) (fun c q => by rw [upd_ne (ne_of_none q hn)]; exact q) fun c xs q => by rw [upd_ne (ne_of_none q hn)]; exact q
end
def Rd (H : Hp) (a : Addr) (u : HO) : Prop := H a = some u ∨ ∃ o, H a = some (.frz o u)
theorem Rd.ok {P : Program} {w : World} {H : Hp} {h : Heap} {a : Addr} {u : HO} (r : Rd H a u) (x : HOk P w H h) : ObjOk P w H h a u := by
  rcases r with r | ⟨o, r⟩
  · exact x a u r
  · obtain ⟨_, q⟩ := x a _ r
    exact q
def Mut : Option HO → Prop
  | some (.lst _) => True
  | some (.dK _) => True
  | some (.dT _) => True
  | some (.set _ _) => True
  | some (.ins _ _ _) => True
  | some (.ext _) => True
  | _ => False
section
variable {P : Program} {w : World} {H : Hp} {h h' : Heap} {x e : Addr} {o' : HO}
theorem HOk.write (ok : HOk P w H h) (mu : Mut (H x)) (he : e = x ∨ H e = some (.own x)) (k : ∀ b u, b ≠ e → h.get? b = some u → h'.get? b = some u) (heo : ∃ u, h'.get? e = some u)
    (new : ObjOk P w (upd H x o') h' x o') : HOk P w (upd H x o') h' := fun b u q => by
  have nown : ∀ c y, H c = some (.own y) → c ≠ x := fun c y r z => by subst z; rw [r] at mu; exact mu
  have ntup : ∀ c xs, H c = some (.tup xs) → c ≠ x := fun c xs r z => by subst z; rw [r] at mu; exact mu
  by_cases hb : b = x
  · subst hb; rw [upd_same] at q; cases q; exact new
  · rw [upd_ne hb] at q
    by_cases hbe : b = e
    · have q' : H b = some (.own x) := by
        rcases he with z | z
        · exact absurd (hbe.trans z) hb
        · rw [hbe]; exact z
      rw [q] at q'; cases q'
      obtain ⟨v, hv⟩ := heo
      exact ⟨v, by rw [hbe]; exact hv⟩
    · refine (ok b u q).stay (fun c v hc r => k c v ?_ r) (fun c r => by rw [upd_ne (nown c b r)]; exact r) fun c xs r => by rw [upd_ne (ntup c xs r)]; exact r
      rcases hc with rfl | hc
      · exact hbe
      · rintro rfl
        rcases he with z | z
        · exact nown c b hc z
        · rw [hc] at z; cases z; exact hb rfl
end
structure Un (fs ex : List Addr) (H H' : Hp) (h h' : Heap) : Prop where
  keep : ∀ b o, h.get? b = some o → H b = none → b ∉ fs → b ∉ ex → h'.get? b = some o
  slot : ∀ b o, h.get? b = some o → H b = none → b ∈ fs → b ∉ ex → ∃ sl, h'.get? b = some { o with slots := sl }
  free : ∀ b o, h.get? b = some o → H b = none → b ∉ ex → H' b = none
  there : ∀ b o, h.get? b = some o → b ∉ ex → ∃ o', h'.get? b = some o'
  tups : ∀ b xs, H b = some (.tup xs) → H' b = some (.tup xs)
  frzs : ∀ b o u, H b = some (.frz o u) → H' b = some (.frz o u)
  tbls : ∀ b ps, H b = some (.tbl ps) → ∃ more, H' b = some (.tbl (ps ++ more))
section
variable {fs fs' ex ex' : List Addr} {H H1 H2 : Hp} {h h1 h2 h' : Heap} {a x e : Addr} {o : HO}
theorem Un.any (u : Un fs ex H H1 h h1) {b : Addr} {ob : Obj} (q : h.get? b = some ob) (n : H b = none) (hx : b ∉ ex) : ∃ sl, h1.get? b = some { ob with slots := sl } := by
  by_cases hb : b ∈ fs
  · exact u.slot b ob q n hb hx
  · exact ⟨ob.slots, u.keep b ob q n hb hx⟩
theorem Un.kept (k : ∀ b u, h.get? b = some u → h'.get? b = some u) : Un fs ex H H h h' :=
  ⟨fun b ob q _ _ _ => k b ob q, fun b ob q _ _ _ => ⟨ob.slots, k b ob q⟩, fun _ _ _ n _ => n, fun b ob q _ => ⟨ob, k b ob q⟩, fun _ _ q => q, fun _ _ _ q => q, fun _ ps q => ⟨#[], by rw [q]; simp⟩⟩
theorem Un.refl : Un fs ex H H h h := Un.kept fun _ _ q => q
theorem Un.laid (k : ∀ b u, h.get? b = some u → h'.get? b = some u) (hp : h.objs.size ≤ a) (hn : H a = none) : Un fs ex H (upd H a o) h h' where
  keep := fun b u q _ _ _ => k b u q
  slot := fun b u q _ _ _ => ⟨u.slots, k b u q⟩
  free := fun b u q n _ => by rw [upd_ne (Nat.ne_of_lt (Nat.lt_of_lt_of_le (Heap.lt_size q) hp))]; exact n
  there := fun b u q _ => ⟨u, k b u q⟩
  tups := fun b xs q => by rw [upd_ne (ne_of_none q hn)]; exact q
  frzs := fun b u xs q => by rw [upd_ne (ne_of_none q hn)]; exact q
  tbls := fun b ps q => ⟨#[], by rw [upd_ne (ne_of_none q hn), q]; simp⟩
theorem Un.write (mu : Mut (H x)) (he : e = x ∨ H e = some (.own x)) (k : ∀ b u, b ≠ e → h.get? b = some u → h'.get? b = some u) (heo : ∃ u, h'.get? e = some u) : Un fs ex H (upd H x o) h h' := by
  have hx : ∀ b, H b = none → b ≠ x := fun b n z => by subst z; rw [n] at mu; exact mu
  have hb : ∀ b, H b = none → b ≠ e := fun b n z => by
    subst z
    rcases he with r | r
    · exact hx b n r
    · rw [n] at r; cases r
  have hm : ∀ b u, H b = some u → ¬ Mut (some u) → b ≠ x := fun b u q nm z => by subst z; rw [q] at mu; exact nm mu
  refine ⟨fun b u q n _ _ => k b u (hb b n) q, fun b u q n _ _ => ⟨u.slots, k b u (hb b n) q⟩, fun b u q n _ => by rw [upd_ne (hx b n)]; exact n, fun b u q _ => ?_,
    fun b xs q => by rw [upd_ne (hm b _ q fun z => z)]; exact q, fun b u xs q => by rw [upd_ne (hm b _ q fun z => z)]; exact q, fun b ps q => ⟨#[], by rw [upd_ne (hm b _ q fun z => z), q]; simp⟩⟩
  by_cases hbe : b = e
  · subst hbe; exact heo
  · exact ⟨u, k b u hbe q⟩
end
def trk (h : Heap) (H : Hp) : List Addr := (List.range h.objs.size).filter fun a => (H a).isSome
def hidT (h : Heap) (H : Hp) : Heap := PySem.W.hideAll h (trk h H)
theorem hidT_size (h : Heap) (H : Hp) : (hidT h H).objs.size = h.objs.size := PySem.W.hideAll_size _ _
theorem hidT_get {h : Heap} {H : Hp} {b : Addr} {o : Obj} (e : h.get? b = some o) (n : H b = none) : (hidT h H).get? b = some o :=
  PySem.W.hideAll_get _ e fun hm => by
    have q : (H b).isSome = true := (List.mem_filter.mp hm).2
    rw [n] at q; simp at q
theorem of_hidT {h : Heap} {H : Hp} {b : Addr} {o : Obj} (e : (hidT h H).get? b = some o) : h.get? b = some o ∧ H b = none := by
  have e' : h.get? b = some o := PySem.W.of_hideAll (trk h H) e
  refine ⟨e', ?_⟩
  cases q : H b with
  | none => rfl
  | some x =>
    have hm : b ∈ trk h H := List.mem_filter.mpr ⟨List.mem_range.mpr (Heap.lt_size e'), by simp [q]⟩
    have z : (hidT h H).get? b = none := PySem.W.hideAll_none (trk h H) hm
    rw [z] at e; cases e
def allNews (g h : Heap) (L : Addr) : List (Addr × Obj) := (List.range h.objs.size).filterMap fun a => if a = L ∨ (g.get? a).isSome = true then none else (h.get? a).map fun o => (a, o)
def rest (g h : Heap) (L d : Addr) : List (Addr × Obj) := (allNews g h L).filter fun p => decide (p.1 ≠ d)
end L2
namespace L2
open PySem PySem.Spec PyProof.Rows
structure Mod (K : PySem.W.Frag) (mg : Str → Option Value) (base : Heap) : Prop where
  kin : K.In base
  glob : base.Ns mainGlobals mg
  blt : ∃ mb, base.Ns builtinsNs mb ∧ ∀ x : Str, x ≠ "__name__" → mb x = bootBuiltins x
  nolimit : base.NoLimit
structure Cx where
  prog : Program
  w : World
  K : PySem.W.Frag
  mg : Str → Option Value
  base : Heap
  A : Around
  N : List Str
  s₀ : Shared
  H₀ : Hp
  env : Env
  outer : List Env
  stack : List Env
  ex : List Addr
  fn : Str → Bool
  calm : Bool
  pn : List (Addr × Obj)
  xe : Value → Shared → Prop
def frs (l : List Env) : List Addr := l.filterMap (·.frame)
abbrev Cx.fs (X : Cx) : List Addr := frs X.outer
def Vis (sc : Scope) (x : Str) : Prop := sc.names.lookup x = some .local ∨ sc.names.lookup x = some .cell ∨ sc.names.lookup x = some .free
def Loc (sc : Scope) (x : Str) : Prop := sc.names.lookup x = some .local ∨ sc.names.lookup x = some .cell
def Look (env : Env) (h : Heap) (m : Str → Option Value) (x : Str) (u : Value) : Prop :=
  (env.kindOf x = some .local ∧ m x = some u) ∨ ((env.kindOf x = some .cell ∨ env.kindOf x = some .free) ∧ ∃ c, env.cells.lookup x = some c ∧ h.IsCell c (some u))
structure Cx.Ok (X : Cx) : Prop where
  mod : Mod X.K X.mg X.base
  kind : X.env.scope.kind = .function
  glob : X.env.globals = mainGlobals
  blt : X.env.builtins = builtinsNs
  above : X.s₀.heap.objs.size ≤ X.env.locals
  inj : ∀ x y c, X.env.cells.lookup x = some c → X.env.cells.lookup y = some c → x = y
  has : ∀ x, (X.env.kindOf x = some .cell ∨ X.env.kindOf x = some .free) → ∃ c, X.env.cells.lookup x = some c
  cab : ∀ x c, X.fn x = true → X.env.cells.lookup x = some c → X.s₀.heap.objs.size ≤ c
  hd : X.calm = true → X.A.handled = none
  frames : X.A.frames = some X.stack
  stk : X.stack = X.outer ∨ (X.stack = X.env :: X.outer ∧ X.env.frame = some X.env.locals)
  exf : ∀ b ∈ X.ex, b ≠ X.env.locals ∧ ∀ x c, X.env.cells.lookup x = some c → c ≠ b
  bs : ∀ b o, X.base.get? b = some o → X.s₀.heap.get? b = some o ∧ X.H₀ b = none
  bsz : X.base.objs.size ≤ X.s₀.heap.objs.size
  noex : ∀ b o, X.base.get? b = some o → b ∉ X.ex
  exfs : ∀ b ∈ X.ex, b ∉ X.fs
  funs : X.s₀.heap.FunFrames X.base X.outer
  frf : ∀ b ∈ X.fs, X.H₀ b = none
structure Inv (X : Cx) (pins : List (Addr × Obj)) (σ : List (Option V)) (H : Hp) (s : Shared) : Prop where
  ok : X.Ok
  os : s.os = X.s₀.os
  bare : AllBare s.gens
  base : Un X.fs X.ex X.H₀ H X.s₀.heap s.heap
  loc : ∃ m, s.heap.Ns X.env.locals m ∧ ∀ (i : Nat) (x : Str) (v : V), X.N[i]? = some x → σ[i]? = some (some v) → Vis X.env.scope x → ∃ u, RelV v u ∧ Look X.env s.heap m x u
  cell : ∀ x c, X.env.cells.lookup x = some c → ∃ v, s.heap.IsCell c v
  free : H X.env.locals = none
  freeC : ∀ x c, X.env.cells.lookup x = some c → H c = none
  pin : ∀ p ∈ X.pn ++ pins, s.heap.get? p.1 = some p.2 ∧ H p.1 = none ∧ p.1 ≠ X.env.locals ∧ p.1 ∉ X.fs ∧ ∀ v, p.2.data ≠ .cell v
  hok : HOk X.prog X.w H s.heap
  len : σ.length = X.N.length
section
variable {X : Cx} {pins : List (Addr × Obj)} {σ : List (Option V)} {H H' : Hp} {s : Shared} {h' : Heap}
theorem Cx.Ok.nofr (ok : X.Ok) {b : Addr} {o : Obj} (e : X.base.get? b = some o) : b ∉ X.fs := fun hb => by
  have := (ok.funs.mem hb).1
  rw [e] at this; cases this
theorem Inv.bs (I : Inv X pins σ H s) : ∀ b o, X.base.get? b = some o → s.heap.get? b = some o ∧ H b = none := fun b o e =>
  ⟨I.base.keep b o (I.ok.bs b o e).1 (I.ok.bs b o e).2 (I.ok.nofr e) (I.ok.noex b o e), I.base.free b o (I.ok.bs b o e).1 (I.ok.bs b o e).2 (I.ok.noex b o e)⟩
theorem Inv.bk (I : Inv X pins σ H s) : ∀ b o, X.base.get? b = some o → s.heap.get? b = some o := fun b o e => (I.bs b o e).1
theorem Inv.mod (I : Inv X pins σ H s) : Mod X.K X.mg X.base := I.ok.mod
theorem Inv.kIn (I : Inv X pins σ H s) : X.K.In s.heap := I.ok.mod.kin.keeps I.bk
theorem Inv.lt (I : Inv X pins σ H s) : X.env.locals < s.heap.objs.size := let ⟨_, hn, _⟩ := I.loc; hn.lt
theorem Inv.sz (I : Inv X pins σ H s) : X.s₀.heap.objs.size ≤ s.heap.objs.size := Nat.le_trans I.ok.above (Nat.le_of_lt I.lt)
theorem Inv.nofs (I : Inv X pins σ H s) {a : Addr} (h : s.heap.objs.size ≤ a) : a ∉ X.fs := fun hb => by
  obtain ⟨_, o, ho, _⟩ := I.ok.funs.mem hb
  exact absurd (Nat.lt_of_lt_of_le (Heap.lt_size ho) (Nat.le_trans I.sz h)) (Nat.lt_irrefl _)
theorem Inv.cne (I : Inv X pins σ H s) : ∀ x c, X.env.cells.lookup x = some c → c ≠ X.env.locals := fun x c e z => by
  obtain ⟨v, o, ho, hd⟩ := I.cell x c e
  obtain ⟨m, ⟨o', es, ep, ho', hd', _⟩, _⟩ := I.loc
  rw [z, ho'] at ho; cases ho; rw [hd'] at hd; cases hd
theorem Inv.funs (I : Inv X pins σ H s) : s.heap.FunFrames X.base X.outer := by
  have all : ∀ (l : List Env), (∀ b ∈ frs l, b ∈ X.fs) → X.s₀.heap.FunFrames X.base l → s.heap.FunFrames X.base l := by
    intro l
    induction l with
    | nil => intro _ _; trivial
    | cons env r ih =>
      intro hs hl
      obtain ⟨hk, ⟨L, o, hf, hn, ho, hd⟩, hr⟩ := hl
      have hL : L ∈ X.fs := hs L (by unfold frs; rw [List.filterMap_cons, hf]; exact List.mem_cons_self)
      obtain ⟨sl, e⟩ := I.base.slot L o ho (I.ok.frf L hL) hL fun z => I.ok.exfs L z hL
      exact ⟨hk, ⟨L, _, hf, hn, e, hd⟩, ih (fun b hb => hs b (by unfold frs; rw [List.filterMap_cons, hf]; exact List.mem_cons_of_mem _ hb)) hr⟩
  exact all X.outer (fun _ hb => hb) I.ok.funs
theorem Inv.stack (I : Inv X pins σ H s) : s.heap.FunFrames X.base X.stack := by
  rcases I.ok.stk with e | ⟨e, hf⟩
  · rw [e]; exact I.funs
  · rw [e]
    obtain ⟨m, hn, _⟩ := I.loc
    refine .cons (by rw [I.ok.kind]; decide) hf hn ?_ I.funs
    exact Heap.get?_none_of_le (Nat.le_trans I.ok.bsz I.ok.above)
theorem Inv.stkSub (I : Inv X pins σ H s) : ∀ b ∈ frs X.stack, b ∈ X.env.locals :: X.fs := fun b hb => by
  rcases I.ok.stk with e | ⟨e, hf⟩
  · rw [e] at hb; exact List.mem_cons_of_mem _ hb
  · rw [e] at hb
    unfold frs at hb
    rw [List.filterMap_cons, hf] at hb
    exact hb
theorem Inv.stkFree (I : Inv X pins σ H s) : ∀ b ∈ frs X.stack, H b = none := fun b hb => by
  rcases List.mem_cons.mp (I.stkSub b hb) with e | hb
  · rw [e]; exact I.free
  · obtain ⟨_, o, ho, _⟩ := I.ok.funs.mem hb
    exact I.base.free b o ho (I.ok.frf b hb) fun z => I.ok.exfs b z hb
theorem Inv.step {g' : Array GenState} {t' : Nat} {d' : Drawn} {ch : List Addr} (I : Inv X pins σ H s)
    (hch : ∀ b ∈ ch, (b ∈ X.ex ∨ X.s₀.heap.objs.size ≤ b) ∧ b ≠ X.env.locals ∧ (∀ x c, X.env.cells.lookup x = some c → c ≠ b) ∧ ∀ p ∈ X.pn ++ pins, p.1 ≠ b)
    (keep : ∀ b o, b ≠ X.env.locals → b ∉ X.fs → b ∉ ch → s.heap.get? b = some o → H b = none → h'.get? b = some o)
    (slot : ∀ b o, b ≠ X.env.locals → b ∈ X.fs → b ∉ ch → s.heap.get? b = some o → H b = none → ∃ sl, h'.get? b = some { o with slots := sl }) (free : ∀ b o, b ∉ ch → s.heap.get? b = some o → H b = none → H' b = none)
    (there : ∀ b o, b ∉ ch → s.heap.get? b = some o → ∃ o', h'.get? b = some o')
    (tups : ∀ b xs, H b = some (.tup xs) → H' b = some (.tup xs)) (frzs : ∀ b o u, H b = some (.frz o u) → H' b = some (.frz o u)) (tbls : ∀ b ps, H b = some (.tbl ps) → ∃ more, H' b = some (.tbl (ps ++ more)))
    (ns : ∀ m, s.heap.Ns X.env.locals m → h'.Ns X.env.locals m) (hok : HOk X.prog X.w H' h') (hg : AllBare g') :
    Inv X pins σ H' { s with heap := h', gens := g', drawn := d', toks := t' } := by
  have neL : ∀ b o, X.s₀.heap.get? b = some o → b ≠ X.env.locals := fun b o e => Nat.ne_of_lt (Nat.lt_of_lt_of_le (Heap.lt_size e) I.ok.above)
  have neC : ∀ b o, X.s₀.heap.get? b = some o → b ∉ X.ex → b ∉ ch := fun b o e hx hb => by
    rcases (hch b hb).1 with z | z
    · exact hx z
    · exact absurd (Nat.lt_of_lt_of_le (Heap.lt_size e) z) (Nat.lt_irrefl _)
  have cellK : ∀ x c, X.env.cells.lookup x = some c → ∀ v, s.heap.IsCell c v → h'.IsCell c v := fun x c e v ⟨o, ho, hd⟩ => by
    have nch : c ∉ ch := fun z => (hch c z).2.2.1 x c e rfl
    by_cases hc : c ∈ X.fs
    · obtain ⟨sl, q⟩ := slot c o (I.cne x c e) hc nch ho (I.freeC x c e)
      exact ⟨_, q, hd⟩
    · exact ⟨o, keep c o (I.cne x c e) hc nch ho (I.freeC x c e), hd⟩
  refine ⟨I.ok, I.os, hg, ⟨fun b o e n hb hx => ?_, fun b o e n hb hx => ?_, fun b o e n hx => ?_, fun b o e hx => ?_, fun b xs e => tups b xs (I.base.tups b xs e), fun b o xs e => frzs b o xs (I.base.frzs b o xs e), fun b ps e => ?_⟩, ?_, fun x c e => ?_, ?_, fun x c e => ?_, fun p hp => ?_, hok, I.len⟩
  · exact keep b o (neL b o e) hb (neC b o e hx) (I.base.keep b o e n hb hx) (I.base.free b o e n hx)
  · obtain ⟨sl, e1⟩ := I.base.slot b o e n hb hx
    obtain ⟨sl', e2⟩ := slot b _ (neL b o e) hb (neC b o e hx) e1 (I.base.free b o e n hx)
    exact ⟨sl', e2⟩
  · obtain ⟨o', e1⟩ := I.base.there b o e hx
    exact free b o' (neC b o e hx) e1 (I.base.free b o e n hx)
  · obtain ⟨o', e1⟩ := I.base.there b o e hx
    exact there b o' (neC b o e hx) e1
  · obtain ⟨m1, e1⟩ := I.base.tbls b ps e
    obtain ⟨m2, e2⟩ := tbls b _ e1
    exact ⟨m1 ++ m2, by rw [e2, Array.append_assoc]⟩
  · obtain ⟨m, hn, hl⟩ := I.loc
    refine ⟨m, ns m hn, fun i x v e1 e2 e3 => ?_⟩
    obtain ⟨u, r, l⟩ := hl i x v e1 e2 e3
    refine ⟨u, r, ?_⟩
    rcases l with l | ⟨k, c, e, z⟩
    · exact .inl l
    · exact .inr ⟨k, c, e, cellK x c e _ z⟩
  · obtain ⟨v, z⟩ := I.cell x c e
    exact ⟨v, cellK x c e v z⟩
  · obtain ⟨m, ⟨o, _, _, ho, _⟩, _⟩ := I.loc
    exact free _ o (fun z => (hch _ z).2.1 rfl) ho I.free
  · obtain ⟨v, o, ho, hd⟩ := I.cell x c e
    exact free c o (fun z => (hch c z).2.2.1 x c e rfl) ho (I.freeC x c e)
  · obtain ⟨e, n, ne, nf, d⟩ := I.pin p hp
    have nch : p.1 ∉ ch := fun z => (hch p.1 z).2.2.2 p hp rfl
    exact ⟨keep p.1 p.2 ne nf nch e n, free p.1 p.2 nch e n, ne, nf, d⟩
theorem Inv.un {t' : Nat} (I : Inv X pins σ H s) (u : Un X.fs [] H H' s.heap h') (hok : HOk X.prog X.w H' h') : Inv X pins σ H' { s with heap := h', toks := t' } := by
  obtain ⟨m, ⟨o, es, ep, ho, r⟩, _⟩ := id I.loc
  obtain ⟨sl, hL⟩ := u.any ho I.free (by simp)
  exact I.step (g' := s.gens) (d' := s.drawn) (ch := []) (fun _ z => nomatch z) (fun b o _ hb _ e n => u.keep b o e n hb (by simp)) (fun b o _ hb _ e n => u.slot b o e n hb (by simp)) (fun b o _ e n => u.free b o e n (by simp)) (fun b o _ e => u.there b o e (by simp)) u.tups u.frzs u.tbls (fun m' hm => by
    obtain ⟨o', es', ep', ho', r'⟩ := hm
    rw [ho] at ho'; cases ho'
    exact ⟨_, es', ep', hL, r'⟩) hok I.bare
theorem Inv.call {g' : Array GenState} {t' : Nat} {d' : Drawn} {ch : List Addr} (I : Inv X pins σ H s) (u : Un (frs X.stack) ch H H' s.heap h') (hok : HOk X.prog X.w H' h') (hg : AllBare g')
    (hch : ∀ b ∈ ch, (b ∈ X.ex ∨ X.s₀.heap.objs.size ≤ b) ∧ b ≠ X.env.locals ∧ (∀ x c, X.env.cells.lookup x = some c → c ≠ b) ∧ ∀ p ∈ X.pn ++ pins, p.1 ≠ b) :
    Inv X pins σ H' { s with heap := h', gens := g', drawn := d', toks := t' } := by
  obtain ⟨m, ⟨o, es, ep, ho, r⟩, _⟩ := id I.loc
  obtain ⟨sl, hL⟩ := u.any ho I.free fun z => (hch _ z).2.1 rfl
  exact I.step (ch := ch) hch (fun b o hL hb hc e n => u.keep b o e n (fun z => (List.mem_cons.mp (I.stkSub b z)).elim hL hb) hc) (fun b o _ _ hc e n => u.any e n hc) (fun b o hc e n => u.free b o e n hc) (fun b o hc e => u.there b o e hc) u.tups u.frzs u.tbls (fun m' hm => by
    obtain ⟨o', es', ep', ho', r'⟩ := hm
    rw [ho] at ho'; cases ho'
    exact ⟨_, es', ep', hL, r'⟩) hok hg
theorem Inv.turned {t' : Nat} {it : Addr} (I : Inv X pins σ H s) (k : ∀ b o, b ≠ it → s.heap.get? b = some o → h'.get? b = some o) (hn : H it = none) (hL : it ≠ X.env.locals)
    (h1 : it ∈ X.ex ∨ X.s₀.heap.objs.size ≤ it) (h2 : ∀ x c, X.env.cells.lookup x = some c → c ≠ it) (h3 : ∀ p ∈ X.pn ++ pins, p.1 ≠ it) : Inv X pins σ H { s with heap := h', toks := t' } := by
  have nit : ∀ b u, H b = some u → b ≠ it := fun b u e z => by rw [z, hn] at e; cases e
  refine I.step (g' := s.gens) (d' := s.drawn) (ch := [it]) (fun b hb => ?_) (fun b o _ _ hc e _ => k b o (fun z => hc (by simp [z])) e) (fun b o _ _ hc e _ => ⟨o.slots, k b o (fun z => hc (by simp [z])) e⟩) (fun _ _ _ _ n => n)
    (fun b o hc e => ⟨o, k b o (fun z => hc (by simp [z])) e⟩) (fun _ _ e => e) (fun _ _ _ e => e) (fun b ps e => ⟨#[], by rw [e]; simp⟩) (fun m hm => ?_) (fun b u e => ?_) I.bare
  · have e : b = it := by simpa using hb
    subst e
    exact ⟨h1, hL, h2, h3⟩
  · obtain ⟨o, es, ep, ho, r⟩ := hm
    exact ⟨o, es, ep, k _ o (Ne.symm hL) ho, r⟩
  · refine (I.hok b u e).stay (fun c v hc q => k c v ?_ q) (fun _ q => q) fun _ _ q => q
    rcases hc with z | z
    · rw [z]; exact nit b u e
    · exact nit c _ z
theorem Inv.tok (I : Inv X pins σ H s) (t : Nat) : Inv X pins σ H { s with toks := t } := I.un (h' := s.heap) (t' := t) Un.refl I.hok
theorem Inv.kept {t' : Nat} (I : Inv X pins σ H s) (k : ∀ b u, s.heap.get? b = some u → h'.get? b = some u) : Inv X pins σ H { s with heap := h', toks := t' } := I.un (Un.kept k) (I.hok.kept k)
theorem Inv.laid {a : Addr} {o : HO} {t' : Nat} (I : Inv X pins σ H s) (k : ∀ b u, s.heap.get? b = some u → h'.get? b = some u) (hp : s.heap.objs.size ≤ a) (new : ObjOk X.prog X.w (upd H a o) h' a o) :
    Inv X pins σ (upd H a o) { s with heap := h', toks := t' } := I.un (Un.laid k hp (I.hok.fresh hp)) (I.hok.laid k hp new)
theorem Inv.write {x e : Addr} {o : HO} {t' : Nat} (I : Inv X pins σ H s) (mu : Mut (H x)) (he : e = x ∨ H e = some (.own x)) (k : ∀ b u, b ≠ e → s.heap.get? b = some u → h'.get? b = some u) (heo : ∃ u, h'.get? e = some u)
    (new : ObjOk X.prog X.w (upd H x o) h' x o) : Inv X pins σ (upd H x o) { s with heap := h', toks := t' } := I.un (Un.write mu he k heo) (I.hok.write mu he k heo new)
theorem Inv.pins_of {pins' : List (Addr × Obj)} (I : Inv X pins σ H s) (h : ∀ p ∈ pins', s.heap.get? p.1 = some p.2 ∧ H p.1 = none ∧ p.1 ≠ X.env.locals ∧ p.1 ∉ X.fs ∧ ∀ v, p.2.data ≠ .cell v) : Inv X pins' σ H s :=
  ⟨I.ok, I.os, I.bare, I.base, I.loc, I.cell, I.free, I.freeC, fun p hp => (List.mem_append.mp hp).elim (fun z => I.pin p (List.mem_append_left _ z)) (h p), I.hok, I.len⟩
theorem nodup_ix {N : List Str} (hN : N.Nodup) {i j : Nat} {x : Str} (a : N[i]? = some x) (b : N[j]? = some x) : i = j := by
  obtain ⟨h1, e1⟩ := List.getElem?_eq_some_iff.mp a
  obtain ⟨h2, e2⟩ := List.getElem?_eq_some_iff.mp b
  exact (List.getElem_inj hN).mp (e1.trans e2.symm)
theorem store_ok2 {M : Model} {A : Around} {E : Value → Shared → Prop} {i : Nat} {x : Str} {v : V} {u : Value} {Q : Unit → Shared → Prop} (I : Inv X pins σ H s) (hN : X.N.Nodup) (hi : X.N[i]? = some x) (hx : Loc X.env.scope x) (r : RelV v u)
    (h : ∀ s', Inv X pins (σ.set i (some v)) H s' → (∃ a, Heap.SameBut a s.heap s'.heap ∧ (a = X.env.locals ∨ X.env.cells.lookup x = some a)) → Q () s') (hf : X.fn x = true ∨ X.env.scope.names.lookup x = some .local := by first | exact .inl rfl | exact .inr rfl | assumption) : wpAny M A (storeName X.env x u) Q E s := by
  obtain ⟨m, hn, hl⟩ := id I.loc
  have hcls : (X.env.scope.kind == .class || (X.env.scope.kind == .module && X.env.locals != X.env.globals)) = false := by rw [I.ok.kind]; rfl
  have hiσ : i < σ.length := by rw [I.len]; exact (List.getElem?_eq_some_iff.mp hi).1
  have cne := I.cne
  have tracked : ∀ {a : Addr} {h' : Heap}, (∃ o, s.heap.get? a = some o ∧ H a = none) → Heap.SameBut a s.heap h' → HOk X.prog X.w H h' := fun {a h'} ha hs b ob e => by
    obtain ⟨_, _, hfree⟩ := ha
    refine (I.hok b ob e).stay (fun c w' hc q => (hs.2 c ?_).trans q) (fun _ q => q) fun _ _ q => q
    rintro rfl
    rcases hc with rfl | hc
    · rw [hfree] at e; cases e
    · rw [hfree] at hc; cases hc
  rcases hx with hk | hk
  · refine wpAny_storeName_local hk hn (fun h' hn' hs => ?_) hcls
    obtain ⟨oL, _, _, hoL, _⟩ := id hn
    refine h _ ⟨I.ok, I.os, I.bare, ⟨fun b o e n hb hx => ?_, fun b o e n hb hx => ?_, I.base.free, fun b o e hx => ?_, I.base.tups, I.base.frzs, I.base.tbls⟩, ⟨_, hn', fun j y v' e1 e2 e3 => ?_⟩, fun y c e => ?_, I.free, I.freeC, fun p hp => ?_, tracked ⟨oL, hoL, I.free⟩ hs, by simpa using I.len⟩ ⟨_, hs, .inl rfl⟩
    · exact (hs.2 b (Nat.ne_of_lt (Nat.lt_of_lt_of_le (Heap.lt_size e) I.ok.above))).trans (I.base.keep b o e n hb hx)
    · obtain ⟨sl, e1⟩ := I.base.slot b o e n hb hx
      exact ⟨sl, (hs.2 b (Nat.ne_of_lt (Nat.lt_of_lt_of_le (Heap.lt_size e) I.ok.above))).trans e1⟩
    · obtain ⟨o', e1⟩ := I.base.there b o e hx
      exact ⟨o', (hs.2 b (Nat.ne_of_lt (Nat.lt_of_lt_of_le (Heap.lt_size e) I.ok.above))).trans e1⟩
    · by_cases hj : j = i
      · subst hj
        rw [hi] at e1; cases e1
        rw [List.getElem?_set_self hiσ] at e2
        cases e2
        exact ⟨u, r, .inl ⟨hk, by simp⟩⟩
      · rw [List.getElem?_set_ne (Ne.symm hj)] at e2
        obtain ⟨u', r', q⟩ := hl j y v' e1 e2 e3
        refine ⟨u', r', ?_⟩
        rcases q with ⟨k, e⟩ | ⟨k, c, e, z⟩
        · refine .inl ⟨k, ?_⟩
          have : y ≠ x := fun e => hj (nodup_ix hN e1 (e ▸ hi))
          simp [this, e]
        · exact .inr ⟨k, c, e, z.sameBut hs (cne y c e)⟩
    · obtain ⟨w', z⟩ := I.cell y c e
      exact ⟨w', z.sameBut hs (cne y c e)⟩
    · obtain ⟨e, n, ne, nf, d⟩ := I.pin p hp
      exact ⟨(hs.2 p.1 ne).trans e, n, ne, nf, d⟩
  · have hfn : X.fn x = true := by
      rcases hf with z | z
      · exact z
      · rw [z] at hk; cases hk
    obtain ⟨c, hc⟩ := I.ok.has x (.inl hk)
    obtain ⟨w', z⟩ := I.cell x c hc
    refine wpAny_storeName_cell I.ok.kind hk hc z (fun h' hc' hs => ?_)
    obtain ⟨oc, hoc, hocd⟩ := id z
    refine h { s with heap := h' } ⟨I.ok, I.os, I.bare, ⟨fun b o e n hb hx => ?_, fun b o e n hb hx => ?_, I.base.free, fun b o e hx => ?_, I.base.tups, I.base.frzs, I.base.tbls⟩, ⟨m, hn.sameBut hs (Ne.symm (cne x c hc)), fun j y v' e1 e2 e3 => ?_⟩, fun y c' e => ?_, I.free, I.freeC, fun p hp => ?_, tracked ⟨oc, hoc, I.freeC x c hc⟩ hs, by simpa using I.len⟩ ⟨c, hs, .inr hc⟩
    · exact (hs.2 b (Nat.ne_of_lt (Nat.lt_of_lt_of_le (Heap.lt_size e) (I.ok.cab x c hfn hc)))).trans (I.base.keep b o e n hb hx)
    · obtain ⟨sl, e1⟩ := I.base.slot b o e n hb hx
      exact ⟨sl, (hs.2 b (Nat.ne_of_lt (Nat.lt_of_lt_of_le (Heap.lt_size e) (I.ok.cab x c hfn hc)))).trans e1⟩
    · obtain ⟨o', e1⟩ := I.base.there b o e hx
      exact ⟨o', (hs.2 b (Nat.ne_of_lt (Nat.lt_of_lt_of_le (Heap.lt_size e) (I.ok.cab x c hfn hc)))).trans e1⟩
    · by_cases hj : j = i
      · subst hj
        rw [hi] at e1; cases e1
        rw [List.getElem?_set_self hiσ] at e2
        cases e2
        exact ⟨u, r, .inr ⟨.inl hk, c, hc, hc'⟩⟩
      · rw [List.getElem?_set_ne (Ne.symm hj)] at e2
        obtain ⟨u', r', q⟩ := hl j y v' e1 e2 e3
        refine ⟨u', r', ?_⟩
        rcases q with q | ⟨k, c', e, z'⟩
        · exact .inl q
        · refine .inr ⟨k, c', e, z'.sameBut hs ?_⟩
          rintro rfl
          exact hj (nodup_ix hN e1 (I.ok.inj _ _ _ e hc ▸ hi))
    · by_cases hcc : c' = c
      · subst hcc; exact ⟨_, hc'⟩
      · obtain ⟨w2, z2⟩ := I.cell y c' e
        exact ⟨w2, z2.sameBut hs hcc⟩
    · obtain ⟨e, n, ne, nf, d⟩ := I.pin p hp
      refine ⟨(hs.2 p.1 ?_).trans e, n, ne, nf, d⟩
      intro q
      rw [q, hoc] at e
      have q' : oc = p.2 := Option.some.inj e
      exact d w' (by rw [← q']; exact hocd)
theorem store_ok {M : Model} {A : Around} {E : Value → Shared → Prop} {i : Nat} {x : Str} {v : V} {u : Value} {Q : Unit → Shared → Prop} (I : Inv X pins σ H s) (hN : X.N.Nodup) (hi : X.N[i]? = some x) (hx : Loc X.env.scope x) (r : RelV v u)
    (h : ∀ s', Inv X pins (σ.set i (some v)) H s' → Q () s') (hf : X.fn x = true ∨ X.env.scope.names.lookup x = some .local := by first | exact .inl rfl | exact .inr rfl | assumption) : wpAny M A (storeName X.env x u) Q E s :=
  store_ok2 I hN hi hx r (fun s' I' _ => h s' I') hf
theorem Inv.call' {s' : Shared} {ch : List Addr} (I : Inv X pins σ H s) (ho : s'.os = s.os) (u : Un (frs X.stack) ch H H' s.heap s'.heap) (hok : HOk X.prog X.w H' s'.heap) (hg : AllBare s'.gens)
    (hch : ∀ b ∈ ch, (b ∈ X.ex ∨ X.s₀.heap.objs.size ≤ b) ∧ b ≠ X.env.locals ∧ (∀ x c, X.env.cells.lookup x = some c → c ≠ b) ∧ ∀ p ∈ X.pn ++ pins, p.1 ≠ b) : Inv X pins σ H' s' := by
  obtain ⟨h', g', d', t', o'⟩ := s'
  have e : o' = s.os := ho
  subst e
  exact I.call (g' := g') (t' := t') (d' := d') u hok hg hch
end
abbrev XK := Value → Option Addr → Hp → Prop
abbrev St := List (Option V)
abbrev VK := V → Hp → Prop
abbrev TE := St → Hp → VK → Prop
abbrev TT := St → Hp → (Bool → Hp → Prop) → Prop
abbrev TA := St → Hp → (List V → Hp → Prop) → Prop
structure Ends where
  nx : St → Hp → Prop
  rt : VK
  bk : St → Hp → Prop := fun _ _ => False
  ct : St → Hp → Prop := fun _ _ => False
abbrev TS := Ends → St → Hp → Prop
def EP (X : Cx) (pins : List (Addr × Obj)) (σ : St) (Q : VK) (u : Value) (s' : Shared) : Prop := ∃ v H', Inv X pins σ H' s' ∧ RelV v u ∧ Q v H'
def TP (X : Cx) (pins : List (Addr × Obj)) (σ : St) (Q : Bool → Hp → Prop) (b : Bool) (s' : Shared) : Prop := ∃ H', Inv X pins σ H' s' ∧ Q b H'
def AP (X : Cx) (pins : List (Addr × Obj)) (σ : St) (Q : List V → Hp → Prop) (us : List Value) (s' : Shared) : Prop := ∃ vs H', Inv X pins σ H' s' ∧ Vals vs us ∧ Q vs H'
def SP (X : Cx) (pins : List (Addr × Obj)) (D : Ends) (f : Flow) (s' : Shared) : Prop :=
  match f with
  | .next => ∃ σ' H', Inv X pins σ' H' s' ∧ D.nx σ' H'
  | .brk => ∃ σ' H', Inv X pins σ' H' s' ∧ D.bk σ' H'
  | .cont => ∃ σ' H', Inv X pins σ' H' s' ∧ D.ct σ' H'
  | .ret u => ∃ v σ' H', Inv X pins σ' H' s' ∧ RelV v u ∧ D.rt v H'
def PE (X : Cx) (e : Expr) (t : TE) : Prop :=
  ∀ (pins : List (Addr × Obj)) (s : Shared) (σ : St) (H : Hp) (Q : VK), Inv X pins σ H s → t σ H Q → wpAny (model X.prog X.w) X.A (eval e X.env) (EP X pins σ Q) X.xe s
def PT (X : Cx) (e : Expr) (t : TT) : Prop :=
  ∀ (pins : List (Addr × Obj)) (s : Shared) (σ : St) (H : Hp) (Q : Bool → Hp → Prop), Inv X pins σ H s → t σ H Q → wpAny (model X.prog X.w) X.A (isTrue e X.env (eval e X.env)) (TP X pins σ Q) X.xe s
def PW (X : Cx) (e : Expr) (t : TT) : Prop :=
  ∀ (whole : Sem Value) (pins : List (Addr × Obj)) (s : Shared) (σ : St) (H : Hp) (Q : Bool → Hp → Prop), Inv X pins σ H s → t σ H Q → wpAny (model X.prog X.w) X.A (isTrue e X.env whole) (TP X pins σ Q) X.xe s
theorem PW.pt {X : Cx} {e : Expr} {t : TT} (h : PW X e t) : PT X e t := h _
def PA (X : Cx) (es : List Expr) (t : TA) : Prop :=
  ∀ (pos : Pos) (pins : List (Addr × Obj)) (s : Shared) (σ : St) (H : Hp) (Q : List V → Hp → Prop), Inv X pins σ H s → t σ H Q → wpAny (model X.prog X.w) X.A (spliced (backTo pos (starEach es X.env))) (AP X pins σ Q) X.xe s
def PS (X : Cx) (st : Stmt) (t : TS) : Prop :=
  ∀ (pins : List (Addr × Obj)) (s : Shared) (σ : St) (H : Hp) (D : Ends), Inv X pins σ H s → t D σ H → wpAny (model X.prog X.w) X.A (exec st X.env) (SP X pins D) X.xe s
def PSs (X : Cx) (st : List Stmt) (t : TS) : Prop :=
  ∀ (pins : List (Addr × Obj)) (s : Shared) (σ : St) (H : Hp) (D : Ends), Inv X pins σ H s → t D σ H → wpAny (model X.prog X.w) X.A (execs st X.env) (SP X pins D) X.xe s
theorem thn {α : Type} {t : Sem α} {Q Q' : α → Shared → Prop} {M : Model} {A : Around} {E : Value → Shared → Prop} {s : Shared} (h : wpAny M A t Q E s) (hQ : ∀ a s, Q a s → Q' a s) : wpAny M A t Q' E s := wpAny_mono h hQ fun _ _ x => x
end L2
namespace L2
open PySem PySem.Spec PyProof.Rows
section
variable {X : Cx}
theorem bin {a b : Expr} {ta tb : TE} (ha : PE X a ta) (hb : PE X b tb) {pins : List (Addr × Obj)} {s : Shared} {σ : St} {H : Hp} {R : V → V → Hp → Prop} (I : Inv X pins σ H s) (h : ta σ H fun x H1 => tb σ H1 fun y H2 => R x y H2)
    {α : Type} {Q : α → Shared → Prop} {f : Value → Value → Sem α}
    (hf : ∀ v u s2 x y H2, Inv X pins σ H2 s2 → RelV x v → RelV y u → R x y H2 → wpAny (model X.prog X.w) X.A (f v u) Q X.xe s2) :
    wpAny (model X.prog X.w) X.A (eval a X.env) (fun v s₁ => wpAny (model X.prog X.w) X.A (eval b X.env) (fun u s₂ => wpAny (model X.prog X.w) X.A (f v u) Q X.xe s₂) X.xe s₁) X.xe s := by
  refine thn (ha pins s σ H _ I h) fun v s1 ⟨x, H1, I1, r1, q1⟩ => ?_
  refine thn (hb pins s1 σ H1 _ I1 q1) fun u s2 ⟨y, H2, I2, r2, q2⟩ => ?_
  exact hf v u s2 x y H2 I2 r1 r2 q2
def tVar (i : Nat) : TE := fun σ H Q => ∃ v, σ[i]? = some (some v) ∧ Q v H
def tC (v : V) : TE := fun _ H Q => Q v H
theorem pe_var {i : Nat} {x : Str} {pos : Pos} (hN : X.N[i]? = some x) (hv : Vis X.env.scope x) (hd : (x == ("__debug__" : Str)) = false := by decide) (hcd : (x == ("__classdict__" : Str)) = false := by decide) : PE X (.Name x pos) (tVar i) := by
  intro pins s σ H Q I h
  obtain ⟨v, e, h⟩ := h
  obtain ⟨m, hn, hl⟩ := I.loc
  obtain ⟨u, r, l⟩ := hl i x v hN e hv
  have fin : EP X pins σ Q u s := ⟨v, H, I, r, h⟩
  rcases l with ⟨hk, hm⟩ | ⟨hk, c, hc, hcell⟩
  · exact wpAny_Name (wpAny_loadName_local I.ok.kind hk hn hm fin) hd
  · rcases hk with hk | hk
    · exact wpAny_Name (wpAny_loadName_cell I.ok.kind hk hc hcell fin) hd
    · exact wpAny_Name (wpAny_loadName_free I.ok.kind hk hc hcell fin hcd) hd
theorem pe_int {i j pos} : PE X (.Constant (.int i) j pos) (tC (.int i)) := fun _ _ _ H _ I h => wpAny_Constant_int ⟨.int i, H, I.tok _, ⟨_, rfl⟩, h⟩
theorem pe_bl {b j pos} : PE X (.Constant (.bool b) j pos) (tC (.bl b)) := fun _ _ _ H _ I h => Constant_bool ⟨.bl b, H, I, rfl, h⟩
def Gl (X : Cx) (x : Str) : Prop := X.env.kindOf x = some .globalImplicit
theorem ld_glob {E : Value → Shared → Prop} {pins : List (Addr × Obj)} {s : Shared} {σ : St} {H : Hp} {x : Str} {u : Value} {pos : Pos} {Q : Value → Shared → Prop} (I : Inv X pins σ H s) (hg : Gl X x) (hm : X.mg x = some u) (h : Q u s)
    (hd : (x == ("__debug__" : Str)) = false := by decide) : wpAny (model X.prog X.w) X.A (eval (.Name x pos) X.env) Q E s :=
  Calls.Name_function_global I.ok.kind hg (Calls.loadGlobal_global (by rw [I.ok.glob]; exact I.mod.glob.keeps I.bk) hm h) hd
theorem ld_blt {E : Value → Shared → Prop} {pins : List (Addr × Obj)} {s : Shared} {σ : St} {H : Hp} {x : Str} {u : Value} {pos : Pos} {Q : Value → Shared → Prop} (I : Inv X pins σ H s) (hg : Gl X x) (hm : X.mg x = none) (hv : bootBuiltins x = some u) (h : Q u s)
    (hn : x ≠ "__name__" := by decide) (hd : (x == ("__debug__" : Str)) = false := by decide) : wpAny (model X.prog X.w) X.A (eval (.Name x pos) X.env) Q E s := by
  obtain ⟨mb, h1, h2⟩ := I.mod.blt
  exact Calls.Name_function_global I.ok.kind hg (Calls.loadGlobal_builtin (by rw [I.ok.glob]; exact I.mod.glob.keeps I.bk) hm (by rw [I.ok.blt]; exact h1.keeps I.bk) ((h2 x hn).trans hv) h) hd
theorem pe_glob {x : Str} {v : V} {u : Value} {pos : Pos} (hg : Gl X x) (hm : X.mg x = some u) (r : RelV v u) (hd : (x == ("__debug__" : Str)) = false := by decide) : PE X (.Name x pos) (tC v) :=
  fun _ _ _ H _ I h => ld_glob I hg hm ⟨v, H, I, r, h⟩ hd
theorem pe_bltn {x : Str} {v : V} {u : Value} {pos : Pos} (hg : Gl X x) (hm : X.mg x = none) (hv : bootBuiltins x = some u) (r : RelV v u) (hn : x ≠ "__name__" := by decide) (hd : (x == ("__debug__" : Str)) = false := by decide) : PE X (.Name x pos) (tC v) :=
  fun _ _ _ H _ I h => ld_blt I hg hm hv ⟨v, H, I, r, h⟩ hn hd
def t2I (ta tb : TE) (k : Int → Int → Hp → Prop) : St → Hp → Prop := fun σ H => ta σ H fun x H1 => tb σ H1 fun y H2 => ∃ i j, x = .int i ∧ y = .int j ∧ k i j H2
def tAdd (ta tb : TE) : TE := fun σ H Q => t2I ta tb (fun i j H2 => Q (.int (i + j)) H2) σ H
def tSub (ta tb : TE) : TE := fun σ H Q => t2I ta tb (fun i j H2 => Q (.int (i - j)) H2) σ H
def tMul (ta tb : TE) : TE := fun σ H Q => t2I ta tb (fun i j H2 => (-(2 ^ 64) < i ∧ i < 2 ^ 64) ∧ Q (.int (i * j)) H2) σ H
variable {a b : Expr} {ta tb : TE} {pos : Pos}
def PC (X : Cx) (op : CmpOp) (a b : Expr) (t : TE) : Prop :=
  ∀ (pins : List (Addr × Obj)) (s : Shared) (σ : St) (H : Hp) (Q : VK), Inv X pins σ H s → t σ H Q →
    wpAny (model X.prog X.w) X.A (eval a X.env) (fun v s₁ => wpAny (model X.prog X.w) X.A (eval b X.env) (fun u s₂ => wpAny (model X.prog X.w) X.A (compareOp op v u) (EP X pins σ Q) X.xe s₂) X.xe s₁) X.xe s
def tCmp (p : Int → Int → Bool) (ta tb : TE) : TE := fun σ H Q => t2I ta tb (fun i j H2 => Q (.bl (p i j)) H2) σ H
abbrev tLt : TE → TE → TE := tCmp fun i j => decide (i < j)
abbrev tLe : TE → TE → TE := tCmp fun i j => decide (i ≤ j)
abbrev tGt : TE → TE → TE := tCmp fun i j => decide (j < i)
abbrev tGe : TE → TE → TE := tCmp fun i j => decide (j ≤ i)
abbrev tEqI : TE → TE → TE := tCmp fun i j => decide (i = j)
abbrev tNeI : TE → TE → TE := tCmp fun i j => !decide (i = j)
def tIsN (ta : TE) : TE := fun σ H Q => ta σ H fun x H1 => Q (.bl (decide (x = .non))) H1
def tNotN (ta : TE) : TE := fun σ H Q => ta σ H fun x H1 => Q (.bl (!decide (x = .non))) H1
def tB (t : TE) : TT := fun σ H Q => t σ H fun x H1 => ∃ c, x = .bl c ∧ Q c H1
theorem pt_cmp {op : CmpOp} {t : TE} (h : PC X op a b t) (h1 : behindInMarks op b = false := by first | exact nobehind _ (by decide) (by decide) | rfl) : PT X (.Compare a [op] [b] pos) (tB t) := by
  intro pins s σ H Q I hw
  refine wpAny_isTrue_Compare1 (thn (h pins s σ H _ I hw) fun v s1 h1 => thn h1 fun u s2 h2 => thn h2 fun c s3 ⟨x, H1, I1, r1, q1⟩ => ?_) h1
  obtain ⟨d, rfl, q⟩ := q1
  cases r1
  exact wpAny_truthy_bool ⟨H1, I1, q⟩
theorem pt_val {e : Expr} {t : TE} (h : PE X e t) (he : ∀ whole, isTrue e X.env whole = (do let v ← whole; standAt e.pos; holding [v] (truthy v)) := by intro _; rfl) : PT X e (tB t) := by
  intro pins s σ H Q I hw
  refine isTrue_plain (thn (h pins s σ H _ I hw) fun v s1 ⟨x, H1, I1, r1, q1⟩ => ?_) (he _)
  obtain ⟨d, rfl, q⟩ := q1
  cases r1
  exact wpAny_truthy_bool ⟨H1, I1, q⟩
variable {tA tB' : TT} {rest : List Expr}
def tAnd (t u : TT) : TT := fun σ H Q => t σ H fun c H1 => if c = true then u σ H1 Q else Q false H1
def tOr (t u : TT) : TT := fun σ H Q => t σ H fun c H1 => if c = true then Q true H1 else u σ H1 Q
def tNot (t : TT) : TT := fun σ H Q => t σ H fun c H1 => Q (!c) H1
theorem pw_and1 (ha : PT X a tA) : PW X (.BoolOp .And [a] pos) tA := by
  intro wh pins s σ H Q I h
  refine isTrue_and (thn (ha pins s σ H Q I h) fun c s1 e => ?_)
  cases c with
  | true => exact isTrue_and_nil e
  | false => exact e
theorem pw_or1 (ha : PT X a tA) : PW X (.BoolOp .Or [a] pos) tA := by
  intro wh pins s σ H Q I h
  refine isTrue_or (thn (ha pins s σ H Q I h) fun c s1 e => ?_)
  cases c with
  | false => exact isTrue_or_nil e
  | true => exact e
theorem pw_and (ha : PT X a tA) (hb : PW X (.BoolOp .And (b :: rest) pos) tB') : PW X (.BoolOp .And (a :: b :: rest) pos) (tAnd tA tB') := by
  intro wh pins s σ H Q I h
  refine isTrue_and (thn (ha pins s σ H _ I h) fun c s1 ⟨H1, I1, q1⟩ => ?_)
  cases c with
  | true => exact hb wh pins s1 σ H1 Q I1 q1
  | false => exact ⟨H1, I1, q1⟩
theorem pw_or (ha : PT X a tA) (hb : PW X (.BoolOp .Or (b :: rest) pos) tB') : PW X (.BoolOp .Or (a :: b :: rest) pos) (tOr tA tB') := by
  intro wh pins s σ H Q I h
  refine isTrue_or (thn (ha pins s σ H _ I h) fun c s1 ⟨H1, I1, q1⟩ => ?_)
  cases c with
  | true => exact ⟨H1, I1, q1⟩
  | false => exact hb wh pins s1 σ H1 Q I1 q1
theorem pt_not (ha : PT X a tA) : PT X (.UnaryOp .Not a pos) (tNot tA) := by
  intro pins s σ H Q I h
  exact isTrue_not (ha pins s σ H (fun c H1 => Q (!c) H1) I h)
def tAndV (ta tb : TE) : TE := fun σ H Q => ta σ H fun x H1 => ∃ c, x = .bl c ∧ if c = true then tb σ H1 Q else Q (.bl false) H1
def tOrV (ta tb : TE) : TE := fun σ H Q => ta σ H fun x H1 => ∃ c, x = .bl c ∧ if c = true then Q (.bl true) H1 else tb σ H1 Q
def tNotV (ta : TE) : TE := fun σ H Q => ta σ H fun x H1 => ∃ c, x = .bl c ∧ Q (.bl (!c)) H1
theorem pe_one {op} {t : TE} (h : PE X a t) : PE X (.BoolOp op [a] pos) t := fun pins s σ H Q I hw => BoolOp_one (h pins s σ H Q I hw)
theorem pe_and (ha : PE X a ta) (hb : PE X (.BoolOp .And (b :: rest) pos) tb) : PE X (.BoolOp .And (a :: b :: rest) pos) (tAndV ta tb) := by
  intro pins s σ H Q I h
  refine BoolOp_and (thn (ha pins s σ H _ I h) fun v s1 ⟨x, H1, I1, r1, q1⟩ => ?_)
  obtain ⟨c, rfl, q1⟩ := q1
  cases r1
  refine wpAny_truthy_bool ?_
  cases c with
  | true => exact hb pins s1 σ H1 Q I1 q1
  | false => exact ⟨.bl false, H1, I1, rfl, q1⟩
theorem pe_not (ha : PE X a ta) : PE X (.UnaryOp .Not a pos) (tNotV ta) := by
  intro pins s σ H Q I h
  refine UnaryOp_ (thn (ha pins s σ H _ I h) fun v s1 ⟨x, H1, I1, r1, q1⟩ => ?_)
  obtain ⟨c, rfl, q1⟩ := q1
  cases r1
  exact not_of (wpAny_truthy_bool ⟨.bl (!c), H1, I1, rfl, q1⟩)
def tIf (t : TT) (ta tb : TE) : TE := fun σ H Q => t σ H fun c H1 => if c = true then ta σ H1 Q else tb σ H1 Q
end
end L2
namespace L2
open PySem PySem.Spec PyProof.Rows
def SqL (K : PySem.W.Frag) (H : Hp) (a : Addr) (xs : List V) : Prop :=
  Rd H a (.lst xs) ∨
    ∃ (o : Obj) (its : Array Value) (n : Nat), K.lookup a = some o ∧ o.cls = .type "list" ∧ o.dict = none ∧ o.data = .seq its n ∧ its.size ≤ sizeLine ∧ Vals xs its.toList
def SqT (K : PySem.W.Frag) (H : Hp) (a : Addr) (xs : List V) : Prop :=
  Rd H a (.tup xs) ∨
    ∃ (o : Obj) (its : Array Value) (n : Nat), K.lookup a = some o ∧ o.cls = .type "tuple" ∧ o.data = .seq its n ∧ its.size ≤ sizeLine ∧ Vals xs its.toList
def absV : Value → Option V
  | .none => some .non
  | .bool b => some (.bl b)
  | .int i _ => some (.int i)
  | .str x _ => some (.str x)
  | .bytes b _ => some (.byt b)
  | .float b _ => some (.flt b)
  | .ref a => some (.ref a)
  | .type n => some (.ty n)
  | _ => none
theorem RelV.abs {x : V} {u : Value} (r : RelV x u) : absV u = some x := by
  cases x with
  | non => cases r; rfl
  | bl _ => cases r; rfl
  | int _ => obtain ⟨t, rfl⟩ := r; rfl
  | str _ => obtain ⟨t, rfl⟩ := r; rfl
  | byt _ => obtain ⟨t, rfl⟩ := r; rfl
  | flt _ => obtain ⟨t, rfl⟩ := r; rfl
  | ref _ => cases r; rfl
  | ty _ => cases r; rfl
theorem RelV.inj {x y : V} {u : Value} (r : RelV x u) (q : RelV y u) : x = y := Option.some.inj (r.abs.symm.trans q.abs)
theorem Vals.inj : ∀ {xs ys : List V} {us : List Value}, Vals xs us → Vals ys us → xs = ys
  | _, _, _, .nil, .nil => rfl
  | _, _, _, .cons r t, .cons r' t' => by rw [r.inj r', Vals.inj t t']
section
variable {X : Cx} {pins : List (Addr × Obj)} {σ : St} {H : Hp} {s : Shared} {a : Addr} {xs ys : List V}
theorem SqL.of {K : PySem.W.Frag} (h : H a = some (.lst xs)) : SqL K H a xs := .inl (.inl h)
theorem SqT.of {K : PySem.W.Frag} (h : H a = some (.tup xs)) : SqT K H a xs := .inl (.inl h)
theorem Inv.list (I : Inv X pins σ H s) (h : SqL X.K H a xs) : ∃ its : List Value, Vals xs its ∧ PlainL s.heap a its.toArray ∧ xs.length ≤ sizeLine := by
  rcases h with h | ⟨o, its, n, hk, hc, hd, hs, hz, r⟩
  · obtain ⟨z, its, n, r, e⟩ := h.ok I.hok
    exact ⟨its, r, ⟨_, n, e, rfl, rfl, rfl⟩, z⟩
  · refine ⟨its.toList, r, ⟨o, n, I.kIn a o hk, hc, hd, by simpa using hs⟩, ?_⟩
    have e := r.length
    simp only [Array.length_toList] at e
    omega
theorem Inv.tuple (I : Inv X pins σ H s) (h : SqT X.K H a xs) : ∃ its : List Value, Vals xs its ∧ IsTup s.heap a its.toArray ∧ xs.length ≤ sizeLine := by
  rcases h with h | ⟨o, its, n, hk, hc, hs, hz, r⟩
  · obtain ⟨z, its, r, p⟩ := h.ok I.hok
    exact ⟨its, r, p, z⟩
  · refine ⟨its.toList, r, ⟨o, I.kIn a o hk, hc, n, by simpa using hs⟩, ?_⟩
    have e := r.length
    simp only [Array.length_toList] at e
    omega
theorem Inv.list_inj (I : Inv X pins σ H s) (h : SqL X.K H a xs) (h' : SqL X.K H a ys) : xs = ys := by
  obtain ⟨its, r, ⟨o, n, e, _, _, d⟩, _⟩ := I.list h
  obtain ⟨its', r', ⟨o', n', e', _, _, d'⟩, _⟩ := I.list h'
  rw [e] at e'; cases e'
  rw [d] at d'
  injection d' with d1 _
  have : its = its' := by simpa using congrArg Array.toList d1
  subst this
  exact r.inj r'
theorem Inv.tuple_inj (I : Inv X pins σ H s) (h : SqT X.K H a xs) (h' : SqT X.K H a ys) : xs = ys := by
  obtain ⟨its, r, ⟨o, e, _, n, d⟩, _⟩ := I.tuple h
  obtain ⟨its', r', ⟨o', e', _, n', d'⟩, _⟩ := I.tuple h'
  rw [e] at e'; cases e'
  rw [d] at d'
  injection d' with d1 _
  have : its = its' := by simpa using congrArg Array.toList d1
  subst this
  exact r.inj r'
end
abbrev Cx.wish (X : Cx) (E : Value → Shared → Prop) : Cx := { X with xe := E }
abbrev Cx.nox (X : Cx) : Cx := X.wish fun _ _ => False
theorem Cx.Ok.wish {X : Cx} (ok : X.Ok) (E : Value → Shared → Prop) : (X.wish E).Ok :=
  ⟨ok.mod, ok.kind, ok.glob, ok.blt, ok.above, ok.inj, ok.has, ok.cab, ok.hd, ok.frames, ok.stk, ok.exf, ok.bs, ok.bsz, ok.noex, ok.exfs, ok.funs, ok.frf⟩
theorem Cx.Ok.unwish {X : Cx} {E : Value → Shared → Prop} (ok : (X.wish E).Ok) : X.Ok :=
  ⟨ok.mod, ok.kind, ok.glob, ok.blt, ok.above, ok.inj, ok.has, ok.cab, ok.hd, ok.frames, ok.stk, ok.exf, ok.bs, ok.bsz, ok.noex, ok.exfs, ok.funs, ok.frf⟩
section
variable {X : Cx} {pins : List (Addr × Obj)} {σ : St} {H : Hp} {s : Shared} {E : Value → Shared → Prop}
theorem Inv.wish (I : Inv X pins σ H s) (E : Value → Shared → Prop) : Inv (X.wish E) pins σ H s := ⟨I.ok.wish E, I.os, I.bare, I.base, I.loc, I.cell, I.free, I.freeC, I.pin, I.hok, I.len⟩
theorem Inv.unwish (I : Inv (X.wish E) pins σ H s) : Inv X pins σ H s := ⟨I.ok.unwish, I.os, I.bare, I.base, I.loc, I.cell, I.free, I.freeC, I.pin, I.hok, I.len⟩
theorem SP.unwish {D : Ends} {f : Flow} {s' : Shared} (h : SP (X.wish E) pins D f s') : SP X pins D f s' := by
  cases f with
  | next => obtain ⟨σ', H', I, q⟩ := h; exact ⟨σ', H', I.unwish, q⟩
  | brk => obtain ⟨σ', H', I, q⟩ := h; exact ⟨σ', H', I.unwish, q⟩
  | cont => obtain ⟨σ', H', I, q⟩ := h; exact ⟨σ', H', I.unwish, q⟩
  | ret u => obtain ⟨v, σ', H', I, r, q⟩ := h; exact ⟨v, σ', H', I.unwish, r, q⟩
theorem PSs.nox {st : List Stmt} {t : TS} (h : PSs X.nox st t) : PSs X st t := fun pins s σ H D I hw =>
  wpAny_mono (h pins s σ H D (I.wish _) hw) (fun _ _ q => q.unwish) fun _ _ z => False.elim z
end
section
variable {X : Cx} {st : Stmt} {rest : List Stmt} {t u : TS} {e : Expr} {te : TE} {pos : Pos}
def tNext : TS := fun D σ H => D.nx σ H
def tSeq (t u : TS) : TS := fun D σ H => t { D with nx := u D } σ H
theorem pss_nil : PSs X [] tNext := fun _ _ σ H _ I h => wpAny_execs_nil ⟨σ, H, I, h⟩
theorem pss_cons (h1 : PS X st t) (h2 : PSs X rest u) : PSs X (st :: rest) (tSeq t u) := by
  intro pins s σ H D I h
  refine wpAny_execs_cons (thn (h1 pins s σ H { D with nx := u D } I h) fun f s1 q => ?_)
  cases f with
  | next =>
    obtain ⟨σ', H', I', q⟩ := q
    exact h2 pins s1 σ' H' D I' q
  | ret v => exact q
  | brk => exact q
  | cont => exact q
theorem pss_one (h1 : PS X st t) : PSs X [st] t := by
  intro pins s σ H D I h
  refine wpAny_execs_cons (thn (h1 pins s σ H D I h) fun f s1 q => ?_)
  cases f with
  | next => exact wpAny_execs_nil q
  | ret v => exact q
  | brk => exact q
  | cont => exact q
def tBreak : TS := fun D σ H => D.bk σ H
def tCont : TS := fun D σ H => D.ct σ H
theorem Inv.quiet {pins : List (Addr × Obj)} {σ : St} {H : Hp} {s : Shared} (I : Inv X pins σ H s) : interactive X.env = false := by simp [interactive, I.ok.kind]
def tDrop (te : TE) : TS := fun D σ H => te σ H fun _ H1 => D.nx σ H1
theorem ps_expr (he : PE X e te) (hs : swapsWith e none pos.line X.env = pure false := by rfl) : PS X (.Expr e pos) (tDrop te) := by
  intro pins s σ H D I h
  exact wpAny_Expr_any (thn (he pins s σ H _ I h) fun v s1 ⟨x, H1, I1, r1, q1⟩ => ⟨σ, H1, I1, q1⟩) I.quiet hs
def tRet (te : TE) : TS := fun D σ H => te σ H D.rt
theorem ps_ret (he : PE X e te) : PS X (.Return (some e) pos) (tRet te) := by
  intro pins s σ H D I h
  exact wpAny_Return_some (thn (he pins s σ H _ I h) fun v s1 ⟨x, H1, I1, r1, q1⟩ => ⟨x, σ, H1, I1, r1, q1⟩)
def tRetN : TS := fun D _ H => D.rt .non H
def tIfS (c : TT) (t u : TS) : TS := fun D σ H => c σ H fun b H1 => if b = true then t D σ H1 else u D σ H1
theorem ps_if {c : Expr} {a b : List Stmt} {tc : TT} (hc : PT X c tc) (ha : PSs X a t) (hb : PSs X b u) : PS X (.If c a b pos) (tIfS tc t u) := by
  intro pins s σ H D I h
  refine wpAny_If (thn (hc pins s σ H _ I h) fun d s1 ⟨H1, I1, q1⟩ => ?_)
  cases d with
  | true => exact ha pins s1 σ H1 D I1 q1
  | false => exact hb pins s1 σ H1 D I1 q1
def tNever : TS := fun _ _ _ => False
theorem pss_never {sts : List Stmt} : PSs X sts tNever := fun _ _ _ _ _ _ h => h.elim
end
abbrev TG := V → St → Hp → (St → Hp → Prop) → Prop
abbrev TGs := List V → St → Hp → (St → Hp → Prop) → Prop
def PG (X : Cx) (target : Expr) (t : TG) : Prop :=
  ∀ (pins : List (Addr × Obj)) (s : Shared) (σ : St) (H : Hp) (v : V) (u : Value) (Q : St → Hp → Prop), Inv X pins σ H s → RelV v u → t v σ H Q →
    wpAny (model X.prog X.w) X.A (assign target X.env u) (fun _ s' => ∃ σ' H', Inv X pins σ' H' s' ∧ Q σ' H') X.xe s
def PGs (X : Cx) (ts : List Expr) (t : TGs) : Prop :=
  ∀ (pins : List (Addr × Obj)) (s : Shared) (σ : St) (H : Hp) (vs : List V) (us : List Value) (Q : St → Hp → Prop), Inv X pins σ H s → Vals vs us → t vs σ H Q →
    wpAny (model X.prog X.w) X.A (assignInOrder ((assignEach ts X.env).map (·.2)) us) (fun _ s' => ∃ σ' H', Inv X pins σ' H' s' ∧ Q σ' H') X.xe s
abbrev TSet := V → V → V → Hp → (Hp → Prop) → Prop
def PSet (X : Cx) (t : TSet) : Prop :=
  ∀ (pins : List (Addr × Obj)) (s : Shared) (σ : St) (H : Hp) (o i v : V) (ov iv u : Value) (Q : Hp → Prop), Inv X pins σ H s → RelV o ov → RelV i iv → RelV v u → t o i v H Q →
    wpAny (model X.prog X.w) X.A (setItem ov iv u) (fun _ s' => ∃ H', Inv X pins σ H' s' ∧ Q H') X.xe s
abbrev TIp := V → V → Hp → VK → Prop
def PIp (X : Cx) (op : Operator) (t : TIp) : Prop :=
  ∀ (pins : List (Addr × Obj)) (s : Shared) (σ : St) (H : Hp) (x y : V) (v u : Value) (Q : VK), Inv X pins σ H s → RelV x v → RelV y u → t x y H Q →
    wpAny (model X.prog X.w) X.A (inplaceOp op v u) (EP X pins σ Q) X.xe s
section
variable {X : Cx} {pos : Pos}
def gName (i : Nat) : TG := fun v σ H Q => Q (σ.set i (some v)) H
theorem pg_name {i : Nat} {x : Str} (hN : X.N.Nodup) (hi : X.N[i]? = some x) (hx : Loc X.env.scope x) (hf : X.fn x = true ∨ X.env.scope.names.lookup x = some .local := by first | exact .inl rfl | exact .inr rfl | assumption) : PG X (.Name x pos) (gName i) := by
  intro pins s σ H v u Q I r h
  exact wpAny_assign_Name (store_ok I hN hi hx r (fun s' I' => ⟨_, H, I', h⟩) hf)
def gNil : TGs := fun vs σ H Q => vs = [] ∧ Q σ H
def gCons (t : TG) (u : TGs) : TGs := fun vs σ H Q => ∃ v r, vs = v :: r ∧ t v σ H fun σ' H' => u r σ' H' Q
def gTup (K : PySem.W.Frag) (n : Nat) (t : TGs) : TG := fun v σ H Q => ∃ a xs, v = .ref a ∧ SqT K H a xs ∧ xs.length = n ∧ t xs σ H Q
def gSub (to ti : TE) (t : TSet) : TG := fun v σ H Q => to σ H fun o H1 => ti σ H1 fun i H2 => t o i v H2 fun H3 => Q σ H3
def tAsg (te : TE) (g : TG) : TS := fun D σ H => te σ H fun x H1 => g x σ H1 D.nx
theorem ps_set {i : Nat} {x : Str} {e : Expr} {te : TE} {pos' : Pos} (hN : X.N.Nodup) (hi : X.N[i]? = some x) (hx : Loc X.env.scope x) (he : PE X e te) (hs : swapsWith e (some (.Name x pos')) pos.line X.env = pure false := by rfl) (hf : X.fn x = true ∨ X.env.scope.names.lookup x = some .local := by first | exact .inl rfl | exact .inr rfl | assumption) :
    PS X (.Assign [.Name x pos'] e pos) (tAsg te (gName i)) := by
  intro pins s σ H D I h
  refine wpAny_Assign_Name (thn (he pins s σ H _ I h) fun v s1 ⟨y, H1, I1, r1, q1⟩ => ?_) hs
  exact store_ok I1 hN hi hx r1 (fun s2 I2 => ⟨_, H1, I2, q1⟩) hf
def tPar (i j : Nat) (ta : TA) : TS := fun D σ H => ta σ H fun vs H1 => ∃ v w, vs = [v, w] ∧ D.nx ((σ.set i (some v)).set j (some w)) H1
def tAug (i : Nat) (te : TE) (ti : TIp) : TS := fun D σ H => ∃ x, σ[i]? = some (some x) ∧ te σ H fun y H1 => ti x y H1 fun z H2 => D.nx (σ.set i (some z)) H2
def tAugS (to ti te : TE) (tget : V → V → Hp → VK → Prop) (tip : TIp) (tset : TSet) : TS := fun D σ H => to σ H fun o H1 => ti σ H1 fun i H2 => tget o i H2 fun x H3 => te σ H3 fun y H4 => tip x y H4 fun z H5 => tset o i z H5 fun H6 => D.nx σ H6
def PGet (X : Cx) (t : V → V → Hp → VK → Prop) : Prop :=
  ∀ (pins : List (Addr × Obj)) (s : Shared) (σ : St) (H : Hp) (o i : V) (ov iv : Value) (Q : VK), Inv X pins σ H s → RelV o ov → RelV i iv → t o i H Q →
    wpAny (model X.prog X.w) X.A (getItem ov iv) (EP X pins σ Q) X.xe s
def ipI (f : Int → Int → Int) : TIp := fun x y H Q => ∃ i j, x = .int i ∧ y = .int j ∧ Q (.int (f i j)) H
end
section
variable {X : Cx} {pos : Pos}
def tWhile (c : TT) (tb : TS) : TS := fun D σ H => ∃ W : Nat → St → Hp → Prop, (∃ m, W m σ H) ∧ ∀ m σ H, W m σ H →
  c σ H fun b H1 => if b = true then ∃ N : St → Hp → Prop, (∀ σ' H', N σ' H' → ∃ m', m' < m ∧ W m' σ' H') ∧ tb { D with nx := N, ct := N, bk := D.nx } σ H1 else D.nx σ H1
theorem ps_while {c : Expr} {body : List Stmt} {tc : TT} {tb : TS} (hp : PassesOwn (model X.prog X.w) X.A X.env X.xe) (hc : PT X c tc) (hb : PSs X body tb) : PS X (.While c body [] pos) (tWhile tc tb) := by
  intro pins s σ H D I h
  obtain ⟨W, ⟨m0, w0⟩, turn⟩ := h
  refine wpAny_While (codeAny_whileLoop (fun n s' => ∃ σ' H', Inv X pins σ' H' s' ∧ W n σ' H') ?_ m0 ⟨σ, H, I, w0⟩)
  rintro n s1 ⟨σ1, H1, I1, w1⟩
  refine wpAny_passesOwn hp (thn (hc pins s1 σ1 H1 _ I1 (turn n σ1 H1 w1)) fun b s2 ⟨H2, I2, q2⟩ => ?_)
  cases b with
  | true =>
    obtain ⟨N, hN, q2⟩ := q2
    rw [if_pos rfl]
    refine wpAny_passesOwn hp (thn (hb pins s2 σ1 H2 _ I2 q2) fun f s3 q3 => ?_)
    cases f with
    | next =>
      obtain ⟨σ3, H3, I3, n3⟩ := q3
      obtain ⟨m', hm, w3⟩ := hN σ3 H3 n3
      exact ⟨m', hm, σ3, H3, I3, w3⟩
    | cont =>
      obtain ⟨σ3, H3, I3, n3⟩ := q3
      obtain ⟨m', hm, w3⟩ := hN σ3 H3 n3
      exact ⟨m', hm, σ3, H3, I3, w3⟩
    | brk => exact q3
    | ret v => exact q3
  | false =>
    rw [if_neg Bool.false_ne_true]
    exact wpAny_execs_nil ⟨σ1, H2, I2, q2⟩
end
structure It where
  go : Nat → Hp → Prop
  yld : Nat → Hp → V → Hp → Prop
  stop : Nat → Hp → Prop
def FpOk (X : Cx) (pins : List (Addr × Obj)) (H : Hp) (b : Addr) : Prop :=
  H b = none ∧ b ≠ X.env.locals ∧ b ∉ X.fs ∧ (b ∈ X.ex ∨ X.s₀.heap.objs.size ≤ b) ∧ (∀ x c, X.env.cells.lookup x = some c → c ≠ b) ∧ ∀ p ∈ X.pn ++ pins, p.1 ≠ b
theorem Inv.fpOk {X : Cx} {pins : List (Addr × Obj)} {σ : St} {H H' : Hp} {s : Shared} {b : Addr} (I : Inv X pins σ H s) (hb : s.heap.objs.size ≤ b) (hn : H' b = none) : FpOk X pins H' b := by
  refine ⟨hn, Nat.ne_of_gt (Nat.lt_of_lt_of_le I.lt hb), I.nofs hb, .inr (Nat.le_trans I.sz hb), fun x c e z => ?_, fun p hp z => ?_⟩
  · obtain ⟨v, q⟩ := I.cell x c e
    exact absurd (Nat.lt_of_lt_of_le q.lt (by rw [z]; exact hb)) (Nat.lt_irrefl _)
  · exact absurd (Nat.lt_of_lt_of_le (Heap.lt_size (I.pin p hp).1) (by rw [z]; exact hb)) (Nat.lt_irrefl _)
structure Turn (P : Program) (w : World) (K : PySem.W.Frag) (tg : Expr) (J : It) (fp : List Addr) (it : Addr) (tn : Nat → Heap → Prop) : Prop where
  mem : it ∈ fp
  obj : ∀ i h, tn i h → ∀ b ∈ fp, ∃ o, h.get? b = some o ∧ ∀ v, o.data ≠ .cell v
  keep : ∀ i h h', tn i h → (∀ b ∈ fp, ∀ o, h.get? b = some o → h'.get? b = some o) → tn i h'
  item : ∀ (X : Cx), X.prog = P → X.w = w → X.K = K → X.calm = true → ∀ (i : Nat) (pins : List (Addr × Obj)) (s : Shared) (σ : St) (H : Hp) (E : Value → Shared → Prop), Inv X pins σ H s → (∀ b ∈ fp, FpOk X pins H b) → tn i s.heap → J.go i H →
    wpAny (model P w) X.A (pyNext (.ref it)) (fun r s1 => ∃ u, r = some u ∧
      wpAny (model P w) X.A (letOwnedTupleGo tg (.ref it) u) (fun _ s2 => ∃ x H', Inv X pins σ H' s2 ∧ RelV x u ∧ J.yld i H x H' ∧ tn (i + 1) s2.heap ∧ ∀ b ∈ fp, H' b = none) E s1) E s
  done : ∀ (X : Cx), X.prog = P → X.w = w → X.K = K → X.calm = true → ∀ (i : Nat) (pins : List (Addr × Obj)) (s : Shared) (σ : St) (H : Hp) (E : Value → Shared → Prop), Inv X pins σ H s → (∀ b ∈ fp, FpOk X pins H b) → tn i s.heap → J.stop i H →
    wpAny (model P w) X.A (pyNext (.ref it)) (fun r s1 => r = none ∧ Inv X pins σ H s1) E s
  self : ∀ (A : Around) (i : Nat) (s : Shared) (Q : Value → Shared → Prop) (E : Value → Shared → Prop), tn i s.heap → Q (.ref it) s → wpAny (model P w) A (pyIter (.ref it)) Q E s
abbrev TI := St → Hp → (It → Hp → Prop) → Prop
def PIE (X : Cx) (pins : List (Addr × Obj)) (σ : St) (tg : Expr) (R : It → Hp → Prop) (itv : Value) (s2 : Shared) : Prop :=
  ∃ (it : Addr) (fp : List Addr) (tn : Nat → Heap → Prop) (J : It) (H' : Hp), itv = .ref it ∧ Inv X pins σ H' s2 ∧ Turn X.prog X.w X.K tg J fp it tn ∧ tn 0 s2.heap ∧ (∀ b ∈ fp, FpOk X pins H' b) ∧ R J H'
def PI (X : Cx) (tg iter : Expr) (wi : TI) : Prop :=
  ∀ (pins : List (Addr × Obj)) (s : Shared) (σ : St) (H : Hp) (R : It → Hp → Prop), Inv X pins σ H s → wi σ H R →
    wpAny (model X.prog X.w) X.A (eval iter X.env) (fun v s1 => wpAny (model X.prog X.w) X.A (pyIter v) (PIE X pins σ tg R) X.xe s1) X.xe s
theorem go_of {M : Model} {A : Around} {E : Value → Shared → Prop} {s : Shared} {tg : Expr} {it : Addr} {u : Value} {o : Obj} {n : String} {vs : Array Value} {Q : Unit → Shared → Prop} (ho : s.heap.get? it = some o) (hc : o.cls = .type n) (hd : o.data = .fields vs)
    (hn : ["enumerate", "zip", "dict_itemiterator", "dict_reverseitemiterator", "odict_iterator", "itertools.zip_longest", "itertools.pairwise"].contains n = false) (hQ : Q () s) : wpAny M A (letOwnedTupleGo tg (.ref it) u) Q E s := by
  unfold letOwnedTupleGo
  cases tg <;> first
    | exact wpAny_pure hQ
    | (cases u <;> first
        | exact wpAny_pure hQ
        | (refine wpAny_bind (wpAny_load ho ?_)
           rw [hc, hd]
           show wpAny M A (if (["enumerate", "zip", "dict_itemiterator", "dict_reverseitemiterator", "odict_iterator", "itertools.zip_longest", "itertools.pairwise"].contains n && vs[0]? == some (rawInt _)) = true then _ else _) Q E s
           rw [if_neg (by intro h; rw [hn, Bool.false_and] at h; cases h)]
           exact wpAny_pure hQ))
def Itl (K : PySem.W.Frag) (a : Addr) : It :=
  ⟨fun i H => ∃ xs x, SqL K H a xs ∧ xs[i]? = some x, fun i H x H' => H' = H ∧ ∀ xs, SqL K H a xs → xs[i]? = some x, fun i H => ∃ xs, SqL K H a xs ∧ xs.length ≤ i⟩
def Itt (K : PySem.W.Frag) (a : Addr) : It :=
  ⟨fun i H => ∃ xs x, SqT K H a xs ∧ xs[i]? = some x, fun i H x H' => H' = H ∧ ∀ xs, SqT K H a xs → xs[i]? = some x, fun i H => ∃ xs, SqT K H a xs ∧ xs.length ≤ i⟩
def Itr (lo : Int) (n : Nat) : It := ⟨fun i _ => i < n, fun i H x H' => H' = H ∧ x = .int (lo + i), fun i _ => n ≤ i⟩
theorem turn_list {P : Program} {w : World} {K : PySem.W.Frag} {tg : Expr} (a it : Addr) : Turn P w K tg (Itl K a) [it] it (fun i h => h.IsListIter it a i) where
  mem := by simp
  obj := fun i h st b hb => by
    have e : b = it := by simpa using hb
    subst e
    obtain ⟨o, e, c, d⟩ := st
    exact ⟨o, e, fun v z => by rw [d] at z; cases z⟩
  keep := fun i h h' st k => st.at fun o e => k it (by simp) o e
  item := by
    intro X hP hw hK hc i pins s σ H E I hf st hg
    subst hP hw hK
    obtain ⟨xs, x, hq, hx⟩ := hg
    obtain ⟨its, rv, p, hz⟩ := I.list hq
    obtain ⟨u, hu, ru⟩ := rv.get hx
    obtain ⟨f0, f1, f2, f3, f4, f5⟩ := hf it (by simp)
    refine wpAny_pyNext_list_item st p.isList (x := u) (by simpa using hu) fun h' st' sb => ?_
    have I1 : Inv X pins σ H { s with heap := h' } := I.turned (t' := s.toks) (fun b o hb e => (sb.2 b hb).trans e) f0 f1 f3 f4 f5
    obtain ⟨o, e, c, d⟩ := id st'
    exact ⟨u, rfl, go_of (s := { s with heap := h' }) e c d (by decide) ⟨x, H, I1, ru, ⟨rfl, fun ys hy => by rw [I.list_inj hy hq]; exact hx⟩, st', fun b hb => (hf b hb).1⟩⟩
  done := by
    intro X hP hw hK hc i pins s σ H E I hf st hg
    subst hP hw hK
    obtain ⟨xs, hq, hx⟩ := hg
    obtain ⟨its, rv, p, hz⟩ := I.list hq
    obtain ⟨f0, f1, f2, f3, f4, f5⟩ := hf it (by simp)
    have hl := rv.length
    exact wpAny_pyNext_list_end (I.ok.hd hc) st p.isList (by simp; omega) fun h' eb => ⟨rfl, I.turned (t' := s.toks) (fun b o hb e => eb b o hb e) f0 f1 f3 f4 f5⟩
  self := fun _ _ _ _ _ st h => wpAny_pyIter_listiter st h
theorem turn_tuple {P : Program} {w : World} {K : PySem.W.Frag} {tg : Expr} (a it : Addr) : Turn P w K tg (Itt K a) [it] it (fun i h => h.IsTupleIter it a i) where
  mem := by simp
  obj := fun i h st b hb => by
    have e : b = it := by simpa using hb
    subst e
    obtain ⟨o, e, c, d⟩ := st
    exact ⟨o, e, fun v z => by rw [d] at z; cases z⟩
  keep := fun i h h' st k => st.at fun o e => k it (by simp) o e
  item := by
    intro X hP hw hK hc i pins s σ H E I hf st hg
    subst hP hw hK
    obtain ⟨xs, x, hq, hx⟩ := hg
    obtain ⟨its, rv, p, hz⟩ := I.tuple hq
    obtain ⟨u, hu, ru⟩ := rv.get hx
    obtain ⟨f0, f1, f2, f3, f4, f5⟩ := hf it (by simp)
    refine wpAny_pyNext_tuple_item st (show s.heap.IsTuple a its.toArray from p) (x := u) (by simpa using hu) fun h' st' sb => ?_
    have I1 : Inv X pins σ H { s with heap := h' } := I.turned (t' := s.toks) (fun b o hb e => (sb.2 b hb).trans e) f0 f1 f3 f4 f5
    obtain ⟨o, e, c, d⟩ := id st'
    exact ⟨u, rfl, go_of (s := { s with heap := h' }) e c d (by decide) ⟨x, H, I1, ru, ⟨rfl, fun ys hy => by rw [I.tuple_inj hy hq]; exact hx⟩, st', fun b hb => (hf b hb).1⟩⟩
  done := by
    intro X hP hw hK hc i pins s σ H E I hf st hg
    subst hP hw hK
    obtain ⟨xs, hq, hx⟩ := hg
    obtain ⟨its, rv, p, hz⟩ := I.tuple hq
    obtain ⟨f0, f1, f2, f3, f4, f5⟩ := hf it (by simp)
    have hl := rv.length
    exact wpAny_pyNext_tuple_end (I.ok.hd hc) st (show s.heap.IsTuple a its.toArray from p) (by simp; omega) fun h' eb => ⟨rfl, I.turned (t' := s.toks) (fun b o hb e => eb b o hb e) f0 f1 f3 f4 f5⟩
  self := fun _ _ _ _ _ st h => wpAny_pyIter_tupleiter st h
theorem turn_range {P : Program} {w : World} {K : PySem.W.Frag} {tg : Expr} (it : Addr) (lo : Int) (n : Nat) : Turn P w K tg (Itr lo n) [it] it (fun i h => IsRangeIter h it (lo + (i : Nat) * 1) ((n : Int) - (i : Nat)) 1) where
  mem := by simp
  obj := fun i h st b hb => by
    have e : b = it := by simpa using hb
    subst e
    exact ⟨_, st, fun v z => by
      have z' : Data.fields _ = Data.cell v := z
      cases z'⟩
  keep := fun i h h' st k => k it (by simp) _ st
  item := by
    intro X hP hw hK hc i pins s σ H E I hf st hg
    subst hP hw hK
    obtain ⟨f0, f1, f2, f3, f4, f5⟩ := hf it (by simp)
    have W := Walks.range (prog := X.prog) (w := X.w) (I.ok.hd hc) it lo 1 n
    refine W.item i s _ _ hg st fun v h' tk hv st' kk => ?_
    obtain ⟨t, rfl⟩ := hv
    have I1 : Inv X pins σ H { s with heap := h', toks := tk } := I.turned (fun b o hb e => kk b o (by simpa using hb) e) f0 f1 f3 f4 f5
    refine ⟨_, rfl, go_of (s := { s with heap := h', toks := tk }) (n := "range_iterator") st' rfl rfl (by decide) ⟨.int (lo + i), H, I1, ⟨t, ?_⟩, ⟨rfl, rfl⟩, st', fun b hb => (hf b hb).1⟩⟩
    rw [Int.mul_one]
  done := by
    intro X hP hw hK hc i pins s σ H E I hf st hg
    subst hP hw hK
    obtain ⟨f0, f1, f2, f3, f4, f5⟩ := hf it (by simp)
    exact wpAny_pyNext_range_end (I.ok.hd hc) st (by have : n ≤ i := hg; omega) fun h' eb => ⟨rfl, I.turned (t' := s.toks) (fun b o hb e => eb b o hb e) f0 f1 f3 f4 f5⟩
  self := fun _ _ _ _ _ st h => wpAny_pyIter_rangeiter st h
end L2
namespace L2
open PySem PySem.Spec PyProof.Rows
section
variable {X : Cx} {tg : Expr}
def iList (K : PySem.W.Frag) (tl : TE) : TI := fun σ H R => tl σ H fun x H1 => ∃ a, x = .ref a ∧ (∃ xs, SqL K H1 a xs) ∧ R (Itl K a) H1
def iTup (K : PySem.W.Frag) (tl : TE) : TI := fun σ H R => tl σ H fun x H1 => ∃ a, x = .ref a ∧ (∃ xs, SqT K H1 a xs) ∧ R (Itt K a) H1
theorem pi_list {l : Expr} {tl : TE} (hl : PE X l tl) : PI X tg l (iList X.K tl) := by
  intro pins s σ H R I h
  refine thn (hl pins s σ H _ I h) fun v s1 ⟨x, H1, I1, r1, q1⟩ => ?_
  obtain ⟨a, e, ⟨xs, hq⟩, q⟩ := q1
  subst e
  cases r1
  obtain ⟨its, rv, p, hz⟩ := I1.list hq
  refine wpAny_pyIter_list p.isList ?_
  refine ⟨s1.heap.objs.size, [s1.heap.objs.size], _, _, H1, rfl, I1.kept (t' := s1.toks) fun b o e => Heap.get?_push_of_some _ e, turn_list a _, ⟨_, Heap.get?_push_size _ rfl, rfl, rfl⟩, fun b hb => ?_, q⟩
  have e : b = s1.heap.objs.size := by simpa using hb
  subst e
  exact I1.fpOk (Nat.le_refl _) (I1.hok.fresh (Nat.le_refl _))
theorem pi_tup {l : Expr} {tl : TE} (hl : PE X l tl) : PI X tg l (iTup X.K tl) := by
  intro pins s σ H R I h
  refine thn (hl pins s σ H _ I h) fun v s1 ⟨x, H1, I1, r1, q1⟩ => ?_
  obtain ⟨a, e, ⟨xs, hq⟩, q⟩ := q1
  subst e
  cases r1
  obtain ⟨its, rv, p, hz⟩ := I1.tuple hq
  refine wpAny_pyIter_tuple (show s1.heap.IsTuple a its.toArray from p) ?_
  refine ⟨s1.heap.objs.size, [s1.heap.objs.size], _, _, H1, rfl, I1.kept (t' := s1.toks) fun b o e => Heap.get?_push_of_some _ e, turn_tuple a _, ⟨_, Heap.get?_push_size _ rfl, rfl, rfl⟩, fun b hb => ?_, q⟩
  have e : b = s1.heap.objs.size := by simpa using hb
  subst e
  exact I1.fpOk (Nat.le_refl _) (I1.hok.fresh (Nat.le_refl _))
theorem range_it {pins : List (Addr × Obj)} {σ : St} {H : Hp} {s : Shared} {R : It → Hp → Prop} {E : Value → Shared → Prop} {lo hi : Int} {t u v : Tok} {tk : Nat} (I : Inv X pins σ H s) (h1 : -(2 ^ 62) ≤ lo) (h2 : lo < 2 ^ 62) (h3 : -(2 ^ 62) ≤ hi) (h4 : hi < 2 ^ 62)
    (q : R (Itr lo (hi - lo).toNat) H) : wpAny (model X.prog X.w) X.A (pyIter (.ref s.heap.objs.size)) (PIE X pins σ tg R) E { s with heap := s.heap.push { cls := .type "range", data := .fields #[.int lo t, .int hi u, .int 1 v] }, toks := tk } := by
  refine wpAny_pyIter_range (IsRange.new ..) (small_one h1 h2 h3 h4) ?_
  have I1 : Inv X pins σ H { s with heap := s.heap.push { cls := .type "range", data := .fields #[.int lo t, .int hi u, .int 1 v] }, toks := tk } := I.kept fun b o e => Heap.get?_push_of_some _ e
  refine ⟨(s.heap.push { cls := .type "range", data := .fields #[.int lo t, .int hi u, .int 1 v] }).objs.size, [(s.heap.push { cls := .type "range", data := .fields #[.int lo t, .int hi u, .int 1 v] }).objs.size], _, _, H, rfl,
    I1.kept (t' := tk) fun b o e => Heap.get?_push_of_some _ e, turn_range _ lo (hi - lo).toNat, ?_, fun b hb => ?_, q⟩
  · have e1 : lo + ((0 : Nat) : Int) * 1 = lo := by simp
    have e2 : (((hi - lo).toNat : Nat) : Int) - ((0 : Nat) : Int) = Builtin.Range.rangeSize lo hi 1 := by rw [rangeSize_one]; split <;> omega
    show IsRangeIter _ _ (lo + ((0 : Nat) : Int) * 1) ((((hi - lo).toNat : Nat) : Int) - ((0 : Nat) : Int)) 1
    rw [e1, e2]
    exact Heap.get?_push_size _ rfl
  · have e : b = (s.heap.push { cls := .type "range", data := .fields #[.int lo t, .int hi u, .int 1 v] }).objs.size := by simpa using hb
    subst e
    exact I1.fpOk (Nat.le_refl _) (I1.hok.fresh (Nat.le_refl _))
def iRng1 (ta : TA) : TI := fun σ H R => ta σ H fun vs H1 => ∃ j : Int, vs = [.int j] ∧ -(2 ^ 62) ≤ j ∧ j < 2 ^ 62 ∧ R (Itr 0 j.toNat) H1
def iRng2 (ta : TA) : TI := fun σ H R => ta σ H fun vs H1 => ∃ i j : Int, vs = [.int i, .int j] ∧ (-(2 ^ 62) ≤ i ∧ i < 2 ^ 62 ∧ -(2 ^ 62) ≤ j ∧ j < 2 ^ 62) ∧ R (Itr i (j - i).toNat) H1
theorem pi_range1 {a : Expr} {ta : TA} {p pos : Pos} (hg : Gl X "range") (hm : X.mg "range" = none) (ha : PA X [a] ta) (hs : starEach [a] X.env = [(false, eval a X.env)] := by rfl) : PI X tg (.Call (.Name "range" p) [a] [] pos) (iRng1 ta) := by
  intro pins s σ H R I h
  refine Call_ (ld_blt I hg hm boot_range (PyProof.Rows.callWith_type1 (thn (ha pos pins s σ H _ I h) fun us s1 ⟨vs, H1, I1, r1, q1⟩ => ?_) hs rfl))
  obtain ⟨j, e, q1, q2, q⟩ := q1
  subst e
  cases r1 with
  | cons r rr =>
    cases rr
    obtain ⟨t, rfl⟩ := r
    exact call_range_1 (range_it I1 (by omega) (by omega) q1 q2 (by simpa using q))
def tFor (wi : TI) (g : TG) (tb : TS) : TS := fun D σ H => wi σ H fun J H1 => ∃ W : Nat → Nat → St → Hp → Prop, (∃ m, W 0 m σ H1) ∧ ∀ i m σ H, W i m σ H →
  (J.stop i H ∧ D.nx σ H) ∨ (J.go i H ∧ ∃ N : St → Hp → Prop, (∀ σ' H', N σ' H' → ∃ m', m' < m ∧ W (i + 1) m' σ' H') ∧ ∀ x H', J.yld i H x H' → g x σ H' fun σ2 H2 => tb { D with nx := N, ct := N, bk := D.nx } σ2 H2)
def pinsAt (fp : List Addr) (h : Heap) : List (Addr × Obj) := fp.filterMap fun b => (h.get? b).map fun o => (b, o)
theorem mem_pinsAt {fp : List Addr} {h : Heap} {b : Addr} {o : Obj} (hb : b ∈ fp) (e : h.get? b = some o) : (b, o) ∈ pinsAt fp h := List.mem_filterMap.mpr ⟨b, hb, by rw [e]; rfl⟩
theorem of_pinsAt {fp : List Addr} {h : Heap} {p : Addr × Obj} (hp : p ∈ pinsAt fp h) : p.1 ∈ fp ∧ h.get? p.1 = some p.2 := by
  obtain ⟨b, hb, e⟩ := List.mem_filterMap.mp hp
  cases q : h.get? b with
  | none => rw [q] at e; cases e
  | some o =>
    rw [q] at e
    have e' : (b, o) = p := Option.some.inj e
    subst e'
    exact ⟨hb, q⟩
theorem Inv.pinned {pins : List (Addr × Obj)} {σ : St} {H : Hp} {s : Shared} {fp : List Addr} (I : Inv X pins σ H s) (hf : ∀ b ∈ fp, FpOk X pins H b) (ho : ∀ b ∈ fp, ∃ o, s.heap.get? b = some o ∧ ∀ v, o.data ≠ .cell v) : Inv X (pins ++ pinsAt fp s.heap) σ H s :=
  I.pins_of fun p hp => (List.mem_append.mp hp).elim (fun z => I.pin p (List.mem_append_right _ z)) fun z => by
    obtain ⟨hb, e⟩ := of_pinsAt z
    obtain ⟨f0, f1, f2, _⟩ := hf p.1 hb
    obtain ⟨o, e', d⟩ := ho p.1 hb
    rw [e] at e'; cases e'
    exact ⟨e, f0, f1, f2, d⟩
theorem Inv.unpinned {pins pl : List (Addr × Obj)} {σ : St} {H : Hp} {s : Shared} (I : Inv X (pins ++ pl) σ H s) : Inv X pins σ H s := I.pins_of fun p hp => I.pin p (List.mem_append_right _ (List.mem_append_left _ hp))
theorem ps_for {iter : Expr} {body : List Stmt} {wi : TI} {g : TG} {tb : TS} {pos : Pos} (hp : PassesOwn (model X.prog X.w) X.A X.env X.xe) (hc : X.calm = true) (hi : PI X tg iter wi) (hg : PG X tg g) (hb : PSs X body tb)
    (hs : ∀ x, foldedSetIterable iter X.env x = pure x := by intro _; rfl) : PS X (.For tg iter body [] pos) (tFor wi g tb) := by
  intro pins s σ H D I h
  refine wpAny_For (thn (hi pins s σ H _ I h) fun v s1 h1 => thn h1 fun itv s2 h2 => ?_) hs
  obtain ⟨it, fp, tn, J, H2, e, I2, T, st2, f2, W, ⟨m0, w0⟩, turn⟩ := h2
  subst e
  have stat : ∀ {H' : Hp}, (∀ b ∈ fp, H' b = none) → ∀ b ∈ fp, FpOk X pins H' b := fun hn b hb => ⟨hn b hb, (f2 b hb).2⟩
  refine codeAny_forLoop_any (fun n s' => ∃ i σ' H', Inv X pins σ' H' s' ∧ tn i s'.heap ∧ (∀ b ∈ fp, H' b = none) ∧ W i n σ' H') ?_ m0 ⟨0, σ, H2, I2, st2, fun b hb => (f2 b hb).1, w0⟩
  rintro n s3 ⟨i, σ3, H3, I3, st3, fr3, w3⟩
  rcases turn i n σ3 H3 w3 with ⟨stop, qn⟩ | ⟨go, N, hN, step⟩
  · refine wpAny_passesOwn hp (thn (T.done X rfl rfl rfl hc i pins s3 σ3 H3 X.xe I3 (stat fr3) st3 stop) fun r s4 ⟨hr, I4⟩ => ?_)
    subst hr
    exact wpAny_execs_nil ⟨σ3, H3, I4, qn⟩
  · refine wpAny_passesOwn hp (thn (T.item X rfl rfl rfl hc i pins s3 σ3 H3 X.xe I3 (stat fr3) st3 go) fun r s4 ⟨u, hr, h4⟩ => ?_)
    subst hr
    refine wpAny_passesOwn hp (thn h4 fun _ s5 ⟨x, H5, I5, r5, y5, st5, fr5⟩ => ?_)
    have I5' := I5.pinned (stat fr5) (T.obj _ _ st5)
    refine wpAny_passesOwn hp (thn (hg _ s5 σ3 H5 x u _ I5' r5 (step x H5 y5)) fun _ s6 ⟨σ6, H6, I6, q6⟩ => ?_)
    refine wpAny_passesOwn hp (thn (hb _ s6 σ6 H6 _ I6 q6) fun f s7 q7 => ?_)
    have again : ∀ {σ7 : St} {H7 : Hp}, Inv X (pins ++ pinsAt fp s5.heap) σ7 H7 s7 → N σ7 H7 → ∃ m, m < n ∧ ∃ i σ' H', Inv X pins σ' H' s7 ∧ tn i s7.heap ∧ (∀ b ∈ fp, H' b = none) ∧ W i m σ' H' := fun {σ7 H7} I7 n7 => by
      obtain ⟨m', hm, w7⟩ := hN σ7 H7 n7
      refine ⟨m', hm, i + 1, σ7, H7, I7.unpinned, T.keep _ _ _ st5 fun b hb o e => (I7.pin (b, o) (List.mem_append_right _ (List.mem_append_right _ (mem_pinsAt hb e)))).1, fun b hb => ?_, w7⟩
      obtain ⟨o, e, d⟩ := T.obj _ _ st5 b hb
      exact (I7.pin (b, o) (List.mem_append_right _ (List.mem_append_right _ (mem_pinsAt hb e)))).2.1
    cases f with
    | next => obtain ⟨σ7, H7, I7, n7⟩ := q7; exact again I7 n7
    | cont => obtain ⟨σ7, H7, I7, n7⟩ := q7; exact again I7 n7
    | brk => obtain ⟨σ7, H7, I7, q7⟩ := q7; exact ⟨σ7, H7, I7.unpinned, q7⟩
    | ret v => obtain ⟨x7, σ7, H7, I7, r7, q7⟩ := q7; exact ⟨x7, σ7, H7, I7.unpinned, r7, q7⟩
end
theorem for_list {K : PySem.W.Frag} {a : Addr} {xs : List V} {g : TG} {tb : TS} {D : Ends} {σ : St} {H : Hp} (Pv : Nat → St → Hp → Prop) (h0 : Pv 0 σ H) (hl : ∀ i σ H, i ≤ xs.length → Pv i σ H → SqL K H a xs)
    (hs : ∀ i x σ H, xs[i]? = some x → Pv i σ H → g x σ H fun σ2 H2 => tb { D with nx := Pv (i + 1), ct := Pv (i + 1), bk := D.nx } σ2 H2) (hd : ∀ σ H, Pv xs.length σ H → D.nx σ H) :
    ∃ W : Nat → Nat → St → Hp → Prop, (∃ m, W 0 m σ H) ∧ ∀ i m σ H, W i m σ H →
      ((Itl K a).stop i H ∧ D.nx σ H) ∨ ((Itl K a).go i H ∧ ∃ N : St → Hp → Prop, (∀ σ' H', N σ' H' → ∃ m', m' < m ∧ W (i + 1) m' σ' H') ∧ ∀ x H', (Itl K a).yld i H x H' → g x σ H' fun σ2 H2 => tb { D with nx := N, ct := N, bk := D.nx } σ2 H2) := by
  refine ⟨fun i m σ H => m = xs.length - i ∧ i ≤ xs.length ∧ Pv i σ H, ⟨xs.length, by simp, Nat.zero_le _, h0⟩, ?_⟩
  rintro i m σ H ⟨rfl, hi, p⟩
  have q := hl i σ H hi p
  by_cases hlt : i < xs.length
  · refine .inr ⟨⟨xs, xs[i], q, by simp [hlt]⟩, Pv (i + 1), fun σ' H' p' => ⟨xs.length - (i + 1), by omega, rfl, hlt, p'⟩, fun x H' y => ?_⟩
    obtain ⟨e, y⟩ := y
    subst e
    exact hs i x σ _ (y xs q) p
  · have e : i = xs.length := by omega
    subst e
    exact .inl ⟨⟨xs, q, Nat.le_refl _⟩, hd σ H p⟩
theorem for_tup {K : PySem.W.Frag} {a : Addr} {xs : List V} {g : TG} {tb : TS} {D : Ends} {σ : St} {H : Hp} (Pv : Nat → St → Hp → Prop) (h0 : Pv 0 σ H) (hl : ∀ i σ H, i ≤ xs.length → Pv i σ H → SqT K H a xs)
    (hs : ∀ i x σ H, xs[i]? = some x → Pv i σ H → g x σ H fun σ2 H2 => tb { D with nx := Pv (i + 1), ct := Pv (i + 1), bk := D.nx } σ2 H2) (hd : ∀ σ H, Pv xs.length σ H → D.nx σ H) :
    ∃ W : Nat → Nat → St → Hp → Prop, (∃ m, W 0 m σ H) ∧ ∀ i m σ H, W i m σ H →
      ((Itt K a).stop i H ∧ D.nx σ H) ∨ ((Itt K a).go i H ∧ ∃ N : St → Hp → Prop, (∀ σ' H', N σ' H' → ∃ m', m' < m ∧ W (i + 1) m' σ' H') ∧ ∀ x H', (Itt K a).yld i H x H' → g x σ H' fun σ2 H2 => tb { D with nx := N, ct := N, bk := D.nx } σ2 H2) := by
  refine ⟨fun i m σ H => m = xs.length - i ∧ i ≤ xs.length ∧ Pv i σ H, ⟨xs.length, by simp, Nat.zero_le _, h0⟩, ?_⟩
  rintro i m σ H ⟨rfl, hi, p⟩
  have q := hl i σ H hi p
  by_cases hlt : i < xs.length
  · refine .inr ⟨⟨xs, xs[i], q, by simp [hlt]⟩, Pv (i + 1), fun σ' H' p' => ⟨xs.length - (i + 1), by omega, rfl, hlt, p'⟩, fun x H' y => ?_⟩
    obtain ⟨e, y⟩ := y
    subst e
    exact hs i x σ _ (y xs q) p
  · have e : i = xs.length := by omega
    subst e
    exact .inl ⟨⟨xs, q, Nat.le_refl _⟩, hd σ H p⟩
theorem for_range {lo : Int} {n : Nat} {g : TG} {tb : TS} {D : Ends} {σ : St} {H : Hp} (Pv : Nat → St → Hp → Prop) (h0 : Pv 0 σ H)
    (hs : ∀ i σ H, i < n → Pv i σ H → g (.int (lo + i)) σ H fun σ2 H2 => tb { D with nx := Pv (i + 1), ct := Pv (i + 1), bk := D.nx } σ2 H2) (hd : ∀ σ H, Pv n σ H → D.nx σ H) :
    ∃ W : Nat → Nat → St → Hp → Prop, (∃ m, W 0 m σ H) ∧ ∀ i m σ H, W i m σ H →
      ((Itr lo n).stop i H ∧ D.nx σ H) ∨ ((Itr lo n).go i H ∧ ∃ N : St → Hp → Prop, (∀ σ' H', N σ' H' → ∃ m', m' < m ∧ W (i + 1) m' σ' H') ∧ ∀ x H', (Itr lo n).yld i H x H' → g x σ H' fun σ2 H2 => tb { D with nx := N, ct := N, bk := D.nx } σ2 H2) := by
  refine ⟨fun i m σ H => m = n - i ∧ i ≤ n ∧ Pv i σ H, ⟨n, by simp, Nat.zero_le _, h0⟩, ?_⟩
  rintro i m σ H ⟨rfl, hi, p⟩
  by_cases hlt : i < n
  · refine .inr ⟨hlt, Pv (i + 1), fun σ' H' p' => ⟨n - (i + 1), by omega, rfl, hlt, p'⟩, fun x H' y => ?_⟩
    obtain ⟨e, y⟩ := y
    subst e y
    exact hs i σ _ hlt p
  · have e : i = n := by omega
    subst e
    exact .inl ⟨Nat.le_refl _, hd σ H p⟩
end L2
namespace L2
open PySem PySem.Spec PyProof.Rows
abbrev R2 := V → V → Hp → VK → Prop
def OpR (X : Cx) (f : Value → Value → Sem Value) (r : R2) : Prop :=
  ∀ (pins : List (Addr × Obj)) (s : Shared) (σ : St) (H : Hp) (x y : V) (v u : Value) (Q : VK), Inv X pins σ H s → RelV x v → RelV y u → r x y H Q →
    wpAny (model X.prog X.w) X.A (f v u) (EP X pins σ Q) X.xe s
def UnR (X : Cx) (f : Value → Sem Value) (r : V → Hp → VK → Prop) : Prop :=
  ∀ (pins : List (Addr × Obj)) (s : Shared) (σ : St) (H : Hp) (x : V) (v : Value) (Q : VK), Inv X pins σ H s → RelV x v → r x H Q →
    wpAny (model X.prog X.w) X.A (f v) (EP X pins σ Q) X.xe s
def CallR (X : Cx) (f : Value) (r : List V → Hp → VK → Prop) : Prop :=
  ∀ (pins : List (Addr × Obj)) (s : Shared) (σ : St) (H : Hp) (xs : List V) (us : List Value) (Q : VK), Inv X pins σ H s → Vals xs us → r xs H Q →
    wpAny (model X.prog X.w) X.A (call f us) (EP X pins σ Q) X.xe s
def TruR (X : Cx) (r : V → Hp → (Bool → Hp → Prop) → Prop) : Prop :=
  ∀ (pins : List (Addr × Obj)) (s : Shared) (σ : St) (H : Hp) (x : V) (v : Value) (Q : Bool → Hp → Prop), Inv X pins σ H s → RelV x v → r x H Q →
    wpAny (model X.prog X.w) X.A (truthy v) (TP X pins σ Q) X.xe s
def tOp (r : R2) (ta tb : TE) : TE := fun σ H Q => ta σ H fun x H1 => tb σ H1 fun y H2 => r x y H2 Q
def tUn (r : V → Hp → VK → Prop) (ta : TE) : TE := fun σ H Q => ta σ H fun x H1 => r x H1 Q
def rI (C : Int → Int → Prop) (g : Int → Int → V) : R2 := fun x y H Q => ∃ i j, x = .int i ∧ y = .int j ∧ C i j ∧ Q (g i j) H
def rI0 (g : Int → Int → V) : R2 := fun x y H Q => ∃ i j, x = .int i ∧ y = .int j ∧ Q (g i j) H
def rU (g : Int → V) : V → Hp → VK → Prop := fun x H Q => ∃ i, x = .int i ∧ Q (g i) H
section
variable {X : Cx} {a b c : Expr} {ta tb tc : TE} {pos : Pos}
theorem binT (ha : PE X a ta) (hb : PE X b tb) {pins : List (Addr × Obj)} {s : Shared} {σ : St} {H : Hp} {R : V → V → Hp → Prop} (I : Inv X pins σ H s)
    (h : ta σ H fun x H1 => tb σ H1 fun y H2 => R x y H2) {Q : Value → Shared → Prop} {f : Value → Value → Sem Value}
    (hf : ∀ v u s2 x y H2, Inv X pins σ H2 s2 → RelV x v → RelV y u → R x y H2 → wpAny (model X.prog X.w) X.A (f v u) Q X.xe s2) :
    wpAny (model X.prog X.w) X.A (eval a X.env) (fun v s₁ => wpAny (model X.prog X.w) X.A (eval b X.env) (fun u s₂ => wpAny (model X.prog X.w) X.A (f v u) Q X.xe s₂) X.xe s₁) X.xe s := by
  refine thn (ha pins s σ H _ I h) fun v s1 ⟨x, H1, I1, r1, q1⟩ => ?_
  refine thn (hb pins s1 σ H1 _ I1 q1) fun u s2 ⟨y, H2, I2, r2, q2⟩ => ?_
  exact hf v u s2 x y H2 I2 r1 r2 q2
theorem pe_op {op : Operator} {r : R2} (ho : OpR X (binaryOp op) r) (ha : PE X a ta) (hb : PE X b tb) : PE X (.BinOp a op b pos) (tOp r ta tb) := by
  intro pins s σ H Q I h
  exact wpAny_BinOp (binT ha hb I h fun v u s2 x y H2 I2 rx ry q => ho pins s2 σ H2 x y v u Q I2 rx ry q)
theorem pe_un {op : UnaryOp} {r : V → Hp → VK → Prop} (ho : UnR X (unaryOp op) r) (ha : PE X a ta) : PE X (.UnaryOp op a pos) (tUn r ta) := by
  intro pins s σ H Q I h
  exact UnaryOp_ (thn (ha pins s σ H _ I h) fun v s1 ⟨x, H1, I1, r1, q1⟩ => ho pins s1 σ H1 x v Q I1 r1 q1)
theorem opI {f : Value → Value → Sem Value} {C : Int → Int → Prop} {g : Int → Int → Int}
    (rule : ∀ (i j : Int) (t u : Tok) (s : Shared) (Q : Value → Shared → Prop) (E : Value → Shared → Prop), C i j → Q (.int (g i j) s.toks) { s with toks := s.toks + 1 } → wpAny (model X.prog X.w) X.A (f (.int i t) (.int j u)) Q E s) :
    OpR X f (rI C fun i j => .int (g i j)) := by
  intro pins s σ H x y v u Q I rx ry h
  obtain ⟨i, j, rfl, rfl, hc, q⟩ := h
  obtain ⟨t, rfl⟩ := rx
  obtain ⟨t', rfl⟩ := ry
  exact rule i j t t' s _ _ hc ⟨.int (g i j), H, I.tok _, ⟨_, rfl⟩, q⟩
theorem opI0 {f : Value → Value → Sem Value} {g : Int → Int → Int}
    (rule : ∀ (i j : Int) (t u : Tok) (s : Shared) (Q : Value → Shared → Prop) (E : Value → Shared → Prop), Q (.int (g i j) s.toks) { s with toks := s.toks + 1 } → wpAny (model X.prog X.w) X.A (f (.int i t) (.int j u)) Q E s) :
    OpR X f (rI0 fun i j => .int (g i j)) := by
  intro pins s σ H x y v u Q I rx ry h
  obtain ⟨i, j, rfl, rfl, q⟩ := h
  obtain ⟨t, rfl⟩ := rx
  obtain ⟨t', rfl⟩ := ry
  exact rule i j t t' s _ _ ⟨.int (g i j), H, I.tok _, ⟨_, rfl⟩, q⟩
theorem opB0 {f : Value → Value → Sem Value} {g : Int → Int → Bool}
    (rule : ∀ (i j : Int) (t u : Tok) (s : Shared) (Q : Value → Shared → Prop) (E : Value → Shared → Prop), Q (.bool (g i j)) s → wpAny (model X.prog X.w) X.A (f (.int i t) (.int j u)) Q E s) :
    OpR X f (rI0 fun i j => .bl (g i j)) := by
  intro pins s σ H x y v u Q I rx ry h
  obtain ⟨i, j, rfl, rfl, q⟩ := h
  obtain ⟨t, rfl⟩ := rx
  obtain ⟨t', rfl⟩ := ry
  exact rule i j t t' s _ _ ⟨.bl (g i j), H, I, rfl, q⟩
def CDiv (i j : Int) : Prop := 0 < j ∧ j < 1073741824
def CDivN (i j : Int) : Prop := j ≠ 0 ∧ j.natAbs < 1073741824
def CPow (i j : Int) : Prop := 0 ≤ j ∧ j ≤ 1000000 ∧ i.natAbs < 2 ^ 64
def CMul (i j : Int) : Prop := (-(2 ^ 64) < i ∧ i < 2 ^ 64) ∨ (-(2 ^ 64) < j ∧ j < 2 ^ 64)
theorem CMul.ok {i j : Int} (h : CMul i j) : IntMulOk i j := by
  rcases h with ⟨h1, h2⟩ | ⟨h1, h2⟩
  · exact .of_left (intBits_le_64 h1 h2)
  · exact .of_right (intBits_le_64 h1 h2)
theorem op_add : OpR X (binaryOp .Add) (rI0 fun i j => .int (i + j)) := opI0 fun _ _ _ _ _ _ _ q => add_int q
theorem op_sub : OpR X (binaryOp .Sub) (rI0 fun i j => .int (i - j)) := opI0 fun _ _ _ _ _ _ _ q => sub_int q
theorem op_mul : OpR X (binaryOp .Mult) (rI CMul fun i j => .int (i * j)) := opI fun _ _ _ _ _ _ _ hc q => mul_int q hc.ok
theorem op_fdiv : OpR X (binaryOp .FloorDiv) (rI CDiv fun i j => .int (i / j)) := opI fun i j _ _ _ _ _ hc q => by
  have h1 : (0 : Int) < j := hc.1
  have h2 : j < 1073741824 := hc.2
  exact floordiv_int (by omega) (by rw [Int.fdiv_eq_ediv_of_nonneg i (by omega)]; exact q) (.inl (PyProof.noPylong_small (by omega)))
theorem op_mod : OpR X (binaryOp .Mod) (rI (fun _ j => 0 < j) fun i j => .int (i % j)) := opI fun i j _ _ _ _ _ hc q => by
  have h1 : (0 : Int) < j := hc
  exact mod_int' (by omega) (by rw [Int.fmod_eq_emod_of_nonneg i (by omega)]; exact q)
theorem op_shl : OpR X (binaryOp .LShift) (rI CPow fun i j => .int (i * 2 ^ j.toNat)) := opI fun _ _ _ _ _ _ _ hc q => lshift_int_small hc.1 hc.2.1 hc.2.2 q
theorem op_and : OpR X (binaryOp .BitAnd) (rI0 fun i j => .int (Builtin.bitAnd i j)) := opI0 fun _ _ _ _ _ _ _ q => and_int q
theorem op_xor : OpR X (binaryOp .BitXor) (rI0 fun i j => .int (Builtin.bitXor i j)) := opI0 fun _ _ _ _ _ _ _ q => xor_int q
theorem unI {f : Value → Sem Value} {g : Int → Int}
    (rule : ∀ (i : Int) (t : Tok) (s : Shared) (Q : Value → Shared → Prop) (E : Value → Shared → Prop), Q (.int (g i) s.toks) { s with toks := s.toks + 1 } → wpAny (model X.prog X.w) X.A (f (.int i t)) Q E s) :
    UnR X f (rU fun i => .int (g i)) := by
  intro pins s σ H x v Q I rx h
  obtain ⟨i, rfl, q⟩ := h
  obtain ⟨t, rfl⟩ := rx
  exact rule i t s _ _ ⟨.int (g i), H, I.tok _, ⟨_, rfl⟩, q⟩
theorem un_neg : UnR X (unaryOp .USub) (rU fun i => .int (-i)) := unI fun _ _ _ _ _ q => neg_int q
end
def scal : V → V → Bool
  | .non, .non => true | .non, .int _ => true | .int _, .non => true | .non, .bl _ => true | .bl _, .non => true | .non, .str _ => true | .str _, .non => true
  | .int _, .int _ => true | .bl _, .bl _ => true | .str _, .str _ => true | .byt _, .byt _ => true
  | .int _, .str _ => true | .str _, .int _ => true | .bl _, .str _ => true | .str _, .bl _ => true
  | _, _ => false
def rEq : R2 := fun x y H Q => scal x y = true ∧ Q (.bl (decide (x = y))) H
def rNe : R2 := fun x y H Q => scal x y = true ∧ Q (.bl (!decide (x = y))) H
theorem dec_int {i j : Int} : decide (V.int i = V.int j) = (i == j) := by
  rw [Bool.eq_iff_iff]
  simp
theorem dec_bl {i j : Bool} : decide (V.bl i = V.bl j) = (i == j) := by
  rw [Bool.eq_iff_iff]
  simp
theorem dec_str {i j : Str} : decide (V.str i = V.str j) = (i == j) := by
  rw [Bool.eq_iff_iff]
  simp
theorem dec_byt {i j : Array UInt8} : decide (V.byt i = V.byt j) = (i.toList == j.toList) := by
  rw [Bool.eq_iff_iff]
  cases i
  cases j
  simp
section
variable {X : Cx} {a b c : Expr} {ta tb tc : TE} {pos : Pos}
theorem fin_bl {pins : List (Addr × Obj)} {σ : St} {H : Hp} {s : Shared} {Q : VK} {k k' : Bool} (I : Inv X pins σ H s) (q : Q (.bl k) H) (e : k = k') : EP X pins σ Q (.bool k') s := by
  subst e
  exact ⟨.bl k, H, I, rfl, q⟩
theorem op_eq : OpR X (compareOp .Eq) rEq := by
  intro pins s σ H x y v u Q I rx ry h
  obtain ⟨hs, q⟩ := h
  cases x with
  | non =>
    cases rx
    cases y with
    | non => cases ry; exact PySem.EqNone.eq_none_none (fin_bl I q (by simp))
    | bl j => cases ry; exact PySem.EqNone.eq_none_bool (fin_bl I q (by simp))
    | int j => obtain ⟨t', rfl⟩ := ry; exact PySem.EqNone.eq_none_int (fin_bl I q (by simp))
    | str j => obtain ⟨t', rfl⟩ := ry; exact PySem.EqNone.eq_none_str (fin_bl I q (by simp))
    | _ => exact absurd (show false = true from hs) Bool.false_ne_true
  | bl i =>
    cases rx
    cases y with
    | non => cases ry; exact PySem.EqNone.eq_bool_none (fin_bl I q (by simp))
    | bl j => cases ry; exact eq_bool (fin_bl I q dec_bl)
    | str j => obtain ⟨t', rfl⟩ := ry; exact PySem.EqMixed.eq_bool_str (fin_bl I q (by simp))
    | _ => exact absurd (show false = true from hs) Bool.false_ne_true
  | int i =>
    obtain ⟨t, rfl⟩ := rx
    cases y with
    | non => cases ry; exact PySem.EqNone.eq_int_none (fin_bl I q (by simp))
    | int j => obtain ⟨t', rfl⟩ := ry; exact eq_int (fin_bl I q dec_int)
    | str j => obtain ⟨t', rfl⟩ := ry; exact PySem.EqMixed.eq_int_str (fin_bl I q (by simp))
    | _ => exact absurd (show false = true from hs) Bool.false_ne_true
  | str i =>
    obtain ⟨t, rfl⟩ := rx
    cases y with
    | non => cases ry; exact PySem.EqNone.eq_str_none (fin_bl I q (by simp))
    | bl j => cases ry; exact PySem.EqMixed.eq_str_bool (fin_bl I q (by simp))
    | int j => obtain ⟨t', rfl⟩ := ry; exact PySem.EqMixed.eq_str_int (fin_bl I q (by simp))
    | str j => obtain ⟨t', rfl⟩ := ry; exact eq_str (fin_bl I q dec_str)
    | _ => exact absurd (show false = true from hs) Bool.false_ne_true
  | byt i =>
    obtain ⟨t, rfl⟩ := rx
    cases y with
    | byt j => obtain ⟨t', rfl⟩ := ry; exact PySem.W.eq_bytes (fin_bl I q dec_byt)
    | _ => exact absurd (show false = true from hs) Bool.false_ne_true
  | _ => cases y <;> exact absurd (show false = true from hs) Bool.false_ne_true
theorem op_ne : OpR X (compareOp .NotEq) rNe := by
  intro pins s σ H x y v u Q I rx ry h
  obtain ⟨hs, q⟩ := h
  cases x with
  | non =>
    cases rx
    cases y with
    | non => cases ry; exact PySem.EqNone.ne_none_none (fin_bl I q (by simp))
    | bl j => cases ry; exact PySem.EqNone.ne_none_bool (fin_bl I q (by simp))
    | int j => obtain ⟨t', rfl⟩ := ry; exact PySem.EqNone.ne_none_int (fin_bl I q (by simp))
    | str j => obtain ⟨t', rfl⟩ := ry; exact PySem.EqNone.ne_none_str (fin_bl I q (by simp))
    | _ => exact absurd (show false = true from hs) Bool.false_ne_true
  | bl i =>
    cases rx
    cases y with
    | non => cases ry; exact PySem.EqNone.ne_bool_none (fin_bl I q (by simp))
    | bl j => cases ry; exact ne_bool (fin_bl I q (congrArg not dec_bl))
    | str j => obtain ⟨t', rfl⟩ := ry; exact PySem.EqMixed.ne_bool_str (fin_bl I q (by simp))
    | _ => exact absurd (show false = true from hs) Bool.false_ne_true
  | int i =>
    obtain ⟨t, rfl⟩ := rx
    cases y with
    | non => cases ry; exact PySem.EqNone.ne_int_none (fin_bl I q (by simp))
    | int j => obtain ⟨t', rfl⟩ := ry; exact ne_int (fin_bl I q (congrArg not dec_int))
    | str j => obtain ⟨t', rfl⟩ := ry; exact PySem.EqMixed.ne_int_str (fin_bl I q (by simp))
    | _ => exact absurd (show false = true from hs) Bool.false_ne_true
  | str i =>
    obtain ⟨t, rfl⟩ := rx
    cases y with
    | non => cases ry; exact PySem.EqNone.ne_str_none (fin_bl I q (by simp))
    | bl j => cases ry; exact PySem.EqMixed.ne_str_bool (fin_bl I q (by simp))
    | int j => obtain ⟨t', rfl⟩ := ry; exact PySem.EqMixed.ne_str_int (fin_bl I q (by simp))
    | str j => obtain ⟨t', rfl⟩ := ry; exact ne_str (fin_bl I q (congrArg not dec_str))
    | _ => exact absurd (show false = true from hs) Bool.false_ne_true
  | byt i =>
    obtain ⟨t, rfl⟩ := rx
    cases y with
    | byt j => obtain ⟨t', rfl⟩ := ry; exact PySem.W.ne_bytes (fin_bl I q (congrArg not dec_byt))
    | _ => exact absurd (show false = true from hs) Bool.false_ne_true
  | _ => cases y <;> exact absurd (show false = true from hs) Bool.false_ne_true
theorem op_lt : OpR X (compareOp .Lt) (rI0 fun i j => .bl (decide (i < j))) := opB0 fun _ _ _ _ _ _ _ q => lt_int q
theorem op_le : OpR X (compareOp .LtE) (rI0 fun i j => .bl (decide (i ≤ j))) := opB0 fun _ _ _ _ _ _ _ q => le_int q
theorem op_gt : OpR X (compareOp .Gt) (rI0 fun i j => .bl (decide (j < i))) := opB0 fun _ _ _ _ _ _ _ q => gt_int q
def isObj : HO → Bool
  | .lst _ => true
  | .ins _ _ _ => true
  | _ => false
theorem nomark (b : Expr) {op : CmpOp} (h : op ≠ .In := by decide) (h2 : op ≠ .NotIn := by decide) : behindInMarks op b = false := by
  have e1 : (op == CmpOp.In) = false := by cases op <;> first | rfl | exact absurd rfl h
  have e2 : (op == CmpOp.NotIn) = false := by cases op <;> first | rfl | exact absurd rfl h2
  cases b <;> simp [behindInMarks, e1, e2]
theorem pe_cmpR {op : CmpOp} {r : R2} (ho : OpR X (compareOp op) r) (ha : PE X a ta) (hb : PE X b tb) (hm : behindInMarks op b = false) : PE X (.Compare a [op] [b] pos) (tOp r ta tb) := by
  intro pins s σ H Q I h
  exact wpAny_Compare1 (binT ha hb I h fun v u s2 x y H2 I2 rx ry q => ho pins s2 σ H2 x y v u Q I2 rx ry q) hm
def tTest (t : TE) : TT := fun σ H Q => t σ H fun x H' => ∃ k, x = .bl k ∧ Q k H'
theorem pt_cmpR {op : CmpOp} {r : R2} (ho : OpR X (compareOp op) r) (ha : PE X a ta) (hb : PE X b tb) (hm : behindInMarks op b = false) : PT X (.Compare a [op] [b] pos) (tTest (tOp r ta tb)) := by
  intro pins s σ H Q I h
  refine wpAny_isTrue_Compare1 (thn (ha pins s σ H _ I h) fun v s1 ⟨x, H1, I1, r1, q1⟩ => thn (hb pins s1 σ H1 _ I1 q1) fun u s2 ⟨y, H2, I2, r2, q2⟩ =>
    thn (ho pins s2 σ H2 x y v u _ I2 r1 r2 q2) fun c s3 ⟨z, H3, I3, r3, k, e, q3⟩ => ?_) hm
  subst e
  cases r3
  exact wpAny_truthy_bool ⟨H3, I3, q3⟩
def tChain (r r' : R2) (ta tb tc : TE) : TE := fun σ H Q => ta σ H fun x H1 => tb σ H1 fun y H2 => r x y H2 fun z H3 => ∃ k, z = .bl k ∧
  (if k = true then tc σ H3 fun w' H4 => r' y w' H4 Q else Q (.bl false) H3)
theorem pe_chain {op op' : CmpOp} {r r' : R2} (ho : OpR X (compareOp op) r) (ho' : OpR X (compareOp op') r') (ha : PE X a ta) (hb : PE X b tb) (hc : PE X c tc)
    (hm : lastMarks [op, op'] [b, c] = false := by with_unfolding_all rfl) : PE X (.Compare a [op, op'] [b, c] pos) (tChain r r' ta tb tc) := by
  intro pins s σ H Q I h
  refine Compare_chain (thn (ha pins s σ H _ I h) fun v s1 ⟨x, H1, I1, r1, q1⟩ => chain_link (thn (hb pins s1 σ H1 _ I1 q1) fun u s2 ⟨y, H2, I2, r2, q2⟩ =>
    thn (ho pins s2 σ H2 x y v u _ I2 r1 r2 q2) fun d s3 ⟨z, H3, I3, r3, k, e, q3⟩ => ?_)) hm
  subst e
  cases r3
  refine wpAny_truthy_bool ?_
  cases k with
  | false => exact ite_ff ⟨.bl false, H3, I3, rfl, q3⟩
  | true => exact ite_tt (chain_last (thn (hc pins s3 σ H3 _ I3 q3) fun w' s4 ⟨z', H4, I4, r4, q4⟩ => ho' pins s4 σ H4 y z' u w' Q I4 r2 r4 q4))
theorem pt_chain {op op' : CmpOp} {r r' : R2} (ho : OpR X (compareOp op) r) (ho' : OpR X (compareOp op') r') (ha : PE X a ta) (hb : PE X b tb) (hc : PE X c tc)
    (hm : lastMarks [op, op'] [b, c] = false := by with_unfolding_all rfl) : PT X (.Compare a [op, op'] [b, c] pos) (tTest (tChain r r' ta tb tc)) := by
  intro pins s σ H Q I h
  refine isTrue_chain (thn (ha pins s σ H _ I h) fun v s1 ⟨x, H1, I1, r1, q1⟩ => test_link (thn (hb pins s1 σ H1 _ I1 q1) fun u s2 ⟨y, H2, I2, r2, q2⟩ =>
    thn (ho pins s2 σ H2 x y v u _ I2 r1 r2 q2) fun d s3 ⟨z, H3, I3, r3, k, e, q3⟩ => ?_)) hm
  subst e
  cases r3
  refine wpAny_truthy_bool ?_
  cases k with
  | false =>
    obtain ⟨k', e', q'⟩ := q3
    cases e'
    exact ite_ff ⟨H3, I3, q'⟩
  | true =>
    refine ite_tt (test_last (thn (hc pins s3 σ H3 _ I3 q3) fun w' s4 ⟨z', H4, I4, r4, q4⟩ => thn (ho' pins s4 σ H4 y z' u w' _ I4 r2 r4 q4) fun d' s5 ⟨z2, H5, I5, r5, k2, e2, q5⟩ => ?_))
    subst e2
    cases r5
    exact wpAny_truthy_bool ⟨H5, I5, q5⟩
def TruV (K : PySem.W.Frag) (x : V) (H : Hp) (k : Bool) : Prop :=
  match x with
  | .non => k = false
  | .bl b => k = b
  | .int i => k = (i != 0)
  | .str y => y.length ≤ sizeLine ∧ k = ((y.length : Int) != 0)
  | .byt y => y.size ≤ sizeLine ∧ k = ((y.size : Int) != 0)
  | .ref p => (∃ xs, SqL K H p xs ∧ k = !xs.isEmpty) ∨ (∃ xs, SqT K H p xs ∧ k = !xs.isEmpty) ∨ ∃ kvs, H p = some (.dK kvs) ∧ k = !kvs.isEmpty
  | _ => False
theorem line63 : (sizeLine : Nat) < 2 ^ 63 := by rw [sizeLine_eq]; decide
def PlainIxT (b : Expr) : Prop := ∀ o i, subscripted b false o i = operate [o, i] (getItem o i)
theorem vals1 {x : V} {us : List Value} (r : Vals [x] us) : ∃ u, us = [u] ∧ RelV x u := by
  cases r with
  | cons r1 r2 => cases r2; exact ⟨_, rfl, r1⟩
def LenV (K : PySem.W.Frag) (x : V) (H : Hp) (n : Nat) : Prop :=
  match x with
  | .str y => y.length ≤ sizeLine ∧ n = y.length
  | .byt y => y.size ≤ sizeLine ∧ n = y.size
  | .ref p => (∃ xs, SqL K H p xs ∧ n = xs.length) ∨ ∃ xs, SqT K H p xs ∧ n = xs.length
  | _ => False
end
end L2
namespace L2
open PySem PySem.Spec PyProof.Rows
structure ObjM (h : Heap) (x dx C : Addr) (mA : Str → Option Value) : Prop where
  obj : h.get? x = some (PySem.W.instObj C dx)
  ns : h.Ns1 dx mA
  ne : dx ≠ x
theorem lookIn_ns {h : Heap} {dx : Addr} {mA : Str → Option Value} (n : h.Ns1 dx mA) : ∃ od, h.get? dx = some od ∧ ∀ name, PySem.W.lookIn name od = some (mA name) := by
  obtain ⟨o, es, ep, ho, hd, hk, _, hm⟩ := n
  refine ⟨o, ho, fun name => ?_⟩
  have e := hm name
  unfold nsFind findBy at e
  rw [← Array.find?_toList] at e
  unfold PySem.W.lookIn
  rw [hd]
  dsimp only
  split
  · rename_i y q
    rw [q] at e
    exact congrArg some e
  · rename_i q
    rw [q] at e
    have a : es.toList.any (·.refKey) = false := by
      rw [List.any_eq_false]
      intro y hy
      obtain ⟨z, t, hkey⟩ := hk y (Array.mem_toList_iff.mp hy)
      simp [DictEntry.refKey, hkey]
    have a' : ¬ es.toList.any (·.refKey) = true := by rw [a]; exact Bool.false_ne_true
    rw [if_neg a']
    exact congrArg some e
theorem ObjM.look {h : Heap} {x dx C : Addr} {mA : Str → Option Value} (I : ObjM h x dx C mA) : ∃ od, PySem.W.InstAt h x (PySem.W.instObj C dx) C (some od) ∧ ∀ name, PySem.W.lookIn name od = some (mA name) :=
  let ⟨od, ho, hl⟩ := lookIn_ns I.ns
  ⟨od, ⟨I.obj, rfl, rfl, ho⟩, hl⟩
section
variable {prog : Program} {w : World} {A : Around} {E : Value → Shared → Prop} {s : Shared} {K : PySem.W.Frag} {x dx C f : Addr} {mA : Str → Option Value} {name : Str} {v : Value}
theorem get_map {expr : Bool} {Q : Value → Shared → Prop} (X : K.In s.heap) (I : ObjM s.heap x dx C mA) (hg : PySem.W.plainGet K C name = true) (hh : PySem.W.hasDictIn K C = true)
    (ha : PySem.W.findIn K (.ref C) name = some none) (hv : mA name = some v) (hv' : PySem.W.handedIn v = true) (h : Q v { s with toks := s.toks + 1 }) :
    wpAny (model prog w) A (getAttr (.ref x) name expr) Q E s := by
  obtain ⟨od, J, hl⟩ := I.look
  exact PySem.W.get_value X J (PySem.W.plainGet_of hg).1 (PySem.W.findObj_own hh ha rfl (by rw [hl, hv])) hv' h
theorem get_meth {pl : Sem Bool} {Q : Value × List Value → Shared → Prop} (X : K.In s.heap) (I : ObjM s.heap x dx C mA) (hg : PySem.W.plainGet K C name = true)
    (hf : PySem.W.findIn K (.ref C) name = some (some (.ref f))) (ht : PySem.W.isFn K (.ref f) = true) (hv : mA name = none) (h : Q (.ref f, [.ref x]) s) :
    wpAny (model prog w) A (getMethod (.ref x) name pl) Q E s := by
  obtain ⟨od, J, hl⟩ := I.look
  exact PySem.W.method_fn X J (PySem.W.plainGet_of hg).1 (PySem.W.plainGet_of hg).2 hf (beq_iff_eq.mp ht) (by show (PySem.W.lookIn name od).map (·.isSome) = some false; rw [hl, hv]; rfl) h
theorem set_map {ns : List Str} {Q : Unit → Shared → Prop} (X : K.In s.heap) (I : ObjM s.heap x dx C mA)
    (hs : PySem.W.findIn K (.ref C) "__setattr__" = some (some (.builtin "object.__setattr__"))) (hp : PySem.W.plainOver K C = true) (ht : PySem.W.takerIn K C name = some none) (hh : PySem.W.hasDictIn K C = true)
    (hw : PySem.Within mA ns) (hsz : ns.length ≤ sizeLine)
    (h : ∀ h', ObjM h' x dx C (fun y => if y = name then some v else mA y) → Heap.SameBut dx s.heap h' → Q () { s with heap := h', toks := s.toks + 2 }) :
    wpAny (model prog w) A (setAttr (.ref x) name v) Q E s := by
  obtain ⟨od, J, hl⟩ := I.look
  refine PySem.W.set_plain X J hs (PySem.W.osa_open (s := { s with toks := s.toks + 1 }) (r := none) X J hp ht fun b => ?_)
  obtain ⟨cd, hc, hd'⟩ := PySem.W.any_some hh
  have hx : s.heap.get? x = some ⟨.ref C, some dx, .plain, #[]⟩ := I.obj
  refine wpAny_bind (wpAny_pure (wpAny_bind (wpAny_bind (wpAny_loadPart hx (wpAny_bind (PySem.W.Looks.here (s := { s with toks := s.toks + 1 }) (PySem.W.looks_clsIn X hc) ?_))))))
  rw [hd']
  refine wpAny_pure (a := some dx) (wpAny_bind (wpAny_pure (wpAny_bind ?_)))
  refine wpAny_nsSet1 (s := { s with toks := s.toks + 1 }) I.ns fun h' hn2 hs2 => ?_
  obtain ⟨oD, esD, epD, hoD, hdD, hcD⟩ := hn2.count (PySem.Within.cons name v hw)
  refine wpAny_bind (wpAny_lookBehind hoD (by rw [hdD]; exact pastItsLine_dict (Nat.le_trans hcD (by rw [List.length_cons]; omega))) ?_)
  exact wpAny_pure (h _ ⟨(hs2.2 _ (Ne.symm I.ne)).trans I.obj, hn2, I.ne⟩ hs2)
theorem make_map {R : Result → Shared → Prop} {vs : List Value} {kw : List (Str × Value)} (X : K.In s.heap) (hm : PySem.W.makesIn K C = true)
    (hi : PySem.W.findIn K (.ref C) "__init__" = some (some (.ref f))) (hf : PySem.W.typeIn K (.ref f) = some (.type "function"))
    (h : codeAny (model prog w) (A.under (.builtin "type.__call__" ⟨.ref C :: vs, kw⟩)) (.call (.ref f) ⟨.ref (s.heap.objs.size + 1) :: vs, kw⟩) (PySem.W.InitBack (s.heap.objs.size + 1) R)
      { s with heap := (s.heap.push PySem.W.emptyDict).push (PySem.W.instObj C s.heap.objs.size) }) :
    codeAny (model prog w) A (.call (.ref C) ⟨vs, kw⟩) R s := by
  obtain ⟨hh, g, d, t, os⟩ := s
  exact PySem.W.make_core (PySem.W.makes_of X hm) (PySem.W.looks_findIn X hi) (fun self => PySem.W.bind_fn X self hf) (.inl rfl) h
end
def putF (f : Str) (v : V) : List (Str × V) → List (Str × V)
  | [] => [(f, v)]
  | (g, x) :: r => if g = f then (g, v) :: r else (g, x) :: putF f v r
theorem lookup_putF (f g : Str) (v : V) : ∀ fs : List (Str × V), (putF f v fs).lookup g = if g = f then some v else fs.lookup g
  | [] => by
    show List.lookup g [(f, v)] = _
    by_cases h : g = f
    · have hb : (g == f) = true := beq_iff_eq.mpr h
      simp only [List.lookup, hb, if_pos h]
    · have hb : (g == f) = false := beq_eq_false_iff_ne.mpr h
      simp only [List.lookup, hb, if_neg h]
  | (k, x) :: r => by
    have ih := lookup_putF f g v r
    rw [show putF f v ((k, x) :: r) = (if k = f then (k, v) :: r else (k, x) :: putF f v r) from rfl]
    by_cases hk : k = f
    · rw [if_pos hk]
      by_cases h : g = k
      · have hb : (g == k) = true := beq_iff_eq.mpr h
        simp only [List.lookup, hb, if_pos (h.trans hk)]
      · have hb : (g == k) = false := beq_eq_false_iff_ne.mpr h
        simp only [List.lookup, hb, if_neg (fun e : g = f => h (e.trans hk.symm))]
    · rw [if_neg hk]
      by_cases h : g = k
      · have hb : (g == k) = true := beq_iff_eq.mpr h
        simp only [List.lookup, hb, if_neg (fun e : g = f => hk (h.symm.trans e))]
      · have hb : (g == k) = false := beq_eq_false_iff_ne.mpr h
        simp only [List.lookup, hb]
        exact ih
theorem keys_putF (f : Str) (v : V) : ∀ fs : List (Str × V), f ∈ (putF f v fs).map (·.1) ∧ ∀ g, g ∈ fs.map (·.1) → g ∈ (putF f v fs).map (·.1)
  | [] => ⟨by simp [putF], fun g h => by simp at h⟩
  | (k, x) :: r => by
    obtain ⟨i1, i2⟩ := keys_putF f v r
    rw [show putF f v ((k, x) :: r) = (if k = f then (k, v) :: r else (k, x) :: putF f v r) from rfl]
    by_cases hk : k = f
    · rw [if_pos hk]
      subst hk
      exact ⟨by simp, fun g h => by simpa using h⟩
    · rw [if_neg hk]
      refine ⟨?_, fun g h => ?_⟩
      · rw [List.map_cons]
        exact List.mem_cons_of_mem _ i1
      · rw [List.map_cons] at h ⊢
        rcases List.mem_cons.mp h with e | e
        · exact List.mem_cons.mpr (.inl e)
        · exact List.mem_cons_of_mem _ (i2 g e)
theorem length_putF (f : Str) (v : V) : ∀ fs : List (Str × V), (putF f v fs).length ≤ fs.length + 1
  | [] => by simp [putF]
  | (k, x) :: r => by
    have ih := length_putF f v r
    rw [show putF f v ((k, x) :: r) = (if k = f then (k, v) :: r else (k, x) :: putF f v r) from rfl]
    by_cases hk : k = f
    · rw [if_pos hk, List.length_cons, List.length_cons]; omega
    · rw [if_neg hk, List.length_cons, List.length_cons]; omega
theorem RelO.some_of {v : V} {o : Option Value} (r : RelO (some v) o) : ∃ u, o = some u ∧ RelV v u := by
  cases o with
  | none => exact (show False from r).elim
  | some u => exact ⟨u, rfl, r⟩
theorem RelO.none_of {o : Option Value} (r : RelO none o) : o = none := by
  cases o with
  | none => rfl
  | some u => exact (show False from r).elim
theorem handed_of {v : V} {u : Value} (r : RelV v u) : PySem.W.handedIn u = true := by
  cases v with
  | non => cases (show u = Value.none from r); rfl
  | bl b => cases (show u = Value.bool b from r); rfl
  | int i => obtain ⟨t, e⟩ := (show ∃ t, u = Value.int i t from r); cases e; rfl
  | str x => obtain ⟨t, e⟩ := (show ∃ t, u = Value.str x t from r); cases e; rfl
  | byt b => obtain ⟨t, e⟩ := (show ∃ t, u = Value.bytes b t from r); cases e; rfl
  | flt b => obtain ⟨t, e⟩ := (show ∃ t, u = Value.float b t from r); cases e; rfl
  | ref a => cases (show u = Value.ref a from r); rfl
  | ty n => cases (show u = Value.type n from r); rfl
section
variable {P : Program} {w : World} {H H' : Hp} {h h' : Heap} {a C dx : Addr} {fs fs' : List (Str × V)}
theorem ins_get (hok : HOk P w H h) (e : H a = some (.ins C dx fs)) : ∃ mA, ObjM h a dx C mA ∧ (∀ f, RelO (fs.lookup f) (mA f)) ∧ PySem.Within mA (fs.map (·.1)) ∧ fs.length ≤ 1000 ∧ H dx = some (.own a) := by
  obtain ⟨d, z, ne, ob, mA, n, r, q⟩ := (show ObjOk P w H h a (.ins C dx fs) from hok a _ e)
  exact ⟨mA, ⟨ob, n, ne⟩, r, q, z, d⟩
end
structure Cls (K : PySem.W.Frag) (C : Addr) : Prop where
  pg : PySem.W.plainGet K C Str.empty = true
  hd : PySem.W.hasDictIn K C = true
  po : PySem.W.plainOver K C = true
  sa : PySem.W.findIn K (.ref C) "__setattr__" = some (some (.builtin "object.__setattr__"))
theorem Cls.get {K : PySem.W.Frag} {C : Addr} (c : Cls K C) (f : Str) : PySem.W.plainGet K C f = true := c.pg
def NoAttr (K : PySem.W.Frag) (C : Addr) (f : Str) : Prop := PySem.W.findIn K (.ref C) f = some none
theorem NoAttr.taker {K : PySem.W.Frag} {C : Addr} {f : Str} (n : NoAttr K C f) : PySem.W.takerIn K C f = some none := by
  unfold PySem.W.takerIn
  rw [show PySem.W.findIn K (.ref C) f = some none from n]
  rfl
structure Con (K : PySem.W.Frag) (C : Addr) (f : Str) (v : V) (u : Value) : Prop where
  at_ : PySem.W.findIn K (.ref C) f = some (some u)
  rel : RelV v u
  get : PySem.W.specialIn K u "__get__" = some none
  cp : PySem.W.copiedNames.contains f = false
structure Meth (K : PySem.W.Frag) (C : Addr) (m : Str) (f : Addr) : Prop where
  at_ : PySem.W.findIn K (.ref C) m = some (some (.ref f))
  fn : PySem.W.isFn K (.ref f) = true
  kp : PySem.W.keepIn K (.ref f) = true
section
variable {X : Cx} {pins : List (Addr × Obj)} {σ : St} {H : Hp} {s : Shared} {a C dx : Addr} {fs : List (Str × V)} {f : Str} {v : V} {A : Around} {E : Value → Shared → Prop}
theorem getattr_ok {b : Bool} {Q : Value → Shared → Prop} (I : Inv X pins σ H s) (e : H a = some (.ins C dx fs)) (c : Cls X.K C) (n : NoAttr X.K C f) (l : fs.lookup f = some v)
    (h : ∀ u s', Inv X pins σ H s' → RelV v u → Q u s') : wpAny (model X.prog X.w) A (getAttr (.ref a) f b) Q E s := by
  obtain ⟨mA, O, r, _, _, _⟩ := ins_get I.hok e
  obtain ⟨u, hu, ru⟩ := RelO.some_of (v := v) (o := mA f) (by rw [← l]; exact r f)
  exact get_map I.kIn O (c.get f) c.hd n hu (handed_of ru) (h u _ (I.tok _) ru)
theorem getmeth_ok {m : Str} {g : Addr} {pl : Sem Bool} {Q : Value × List Value → Shared → Prop} (I : Inv X pins σ H s) (e : H a = some (.ins C dx fs)) (c : Cls X.K C) (k : Meth X.K C m g) (l : fs.lookup m = none)
    (h : Q (.ref g, [.ref a]) s) : wpAny (model X.prog X.w) A (getMethod (.ref a) m pl) Q E s := by
  obtain ⟨mA, O, r, _, _, _⟩ := ins_get I.hok e
  have hn : mA m = none := RelO.none_of (by rw [← l]; exact r m)
  exact get_meth I.kIn O (c.get m) k.at_ k.fn hn h
theorem setattr_ok {y : V} {u : Value} {Q : Unit → Shared → Prop} (I : Inv X pins σ H s) (e : H a = some (.ins C dx fs)) (c : Cls X.K C) (n : NoAttr X.K C f) (hl : fs.length < 1000) (ry : RelV y u)
    (h : ∀ s', Inv X pins σ (upd H a (.ins C dx (putF f y fs))) s' → Q () s') : wpAny (model X.prog X.w) A (setAttr (.ref a) f u) Q E s := by
  obtain ⟨mA, O, r, wi, _, ho⟩ := ins_get I.hok e
  have hz : (fs.map (·.1)).length ≤ sizeLine := by rw [List.length_map, sizeLine_eq]; omega
  refine set_map I.kIn O c.sa c.po n.taker c.hd wi hz fun h' O' sb => h _ ?_
  have hd : ∃ o, h'.get? dx = some o := let ⟨o, _, _, e', _⟩ := O'.ns; ⟨o, e'⟩
  refine I.write (x := a) (e := dx) (by rw [e]; exact True.intro) (.inr ho) (fun b q hb z => (sb.2 b hb).trans z) hd ?_
  refine ⟨by rw [upd_ne O.ne]; exact ho, ?_, O.ne, O'.obj, _, O'.ns, fun g => ?_, fun g hg => ?_⟩
  · have := length_putF f y fs; omega
  · show RelO ((putF f y fs).lookup g) (if g = f then some u else mA g)
    rw [lookup_putF]
    by_cases q : g = f
    · rw [if_pos q, if_pos q]; exact ry
    · rw [if_neg q, if_neg q]; exact r g
  · by_cases q : g = f
    · rw [q]; exact (keys_putF f y fs).1
    · refine (keys_putF f y fs).2 g (wi g fun z => hg ?_)
      show (if g = f then some u else mA g) = none
      rw [if_neg q]; exact z
theorem Inv.made (I : Inv X pins σ H s) : Inv X pins σ (upd (upd H s.heap.objs.size (.own (s.heap.objs.size + 1))) (s.heap.objs.size + 1) (.ins C s.heap.objs.size []))
    { s with heap := (s.heap.push PySem.W.emptyDict).push (PySem.W.instObj C s.heap.objs.size) } := by
  have e1 : (s.heap.push PySem.W.emptyDict).get? s.heap.objs.size = some PySem.W.emptyDict := Heap.get?_push_size s.heap rfl
  have e2 : ((s.heap.push PySem.W.emptyDict).push (PySem.W.instObj C s.heap.objs.size)).get? (s.heap.objs.size + 1) = some (PySem.W.instObj C s.heap.objs.size) := by
    have := Heap.get?_push_size (s.heap.push PySem.W.emptyDict) (o := PySem.W.instObj C s.heap.objs.size) rfl
    rwa [Heap.size_push] at this
  have e3 : (s.heap.push PySem.W.emptyDict).Ns s.heap.objs.size (fun _ => none) := ⟨PySem.W.emptyDict, #[], _, e1, rfl, (fun e he => absurd he (by simp)), fun _ => rfl⟩
  have I1 := I.laid (a := s.heap.objs.size) (o := .own (s.heap.objs.size + 1)) (h' := s.heap.push PySem.W.emptyDict) (t' := s.toks) (fun b u q => Heap.get?_push_of_some _ q) (Nat.le_refl _) ⟨_, e1⟩
  refine I1.laid (a := s.heap.objs.size + 1) (o := .ins C s.heap.objs.size []) (t' := s.toks) (fun b u q => Heap.get?_push_of_some _ q) (Nat.le_of_eq (Heap.size_push _ _)) ?_
  have ne : s.heap.objs.size ≠ s.heap.objs.size + 1 := Nat.ne_of_lt (Nat.lt_succ_self _)
  refine ⟨by rw [upd_ne ne, upd_same], Nat.zero_le _, ne, e2, fun _ => none, (Heap.Ns1.of_empty e3).at fun o q => Heap.get?_push_of_some _ q, fun _ => True.intro, fun y hy => absurd rfl hy⟩
theorem attr_of {prog : Program} {w : World} {env : Env} {e : Expr} {f : Str} {pos : Pos} {s : Shared} {Q : Value → Shared → Prop} (hb : attributeBase e f env (eval e env) = eval e env)
    (h : wpAny (model prog w) A (eval e env) (fun o s₁ => wpAny (model prog w) A (getAttr o f true) Q E s₁) E s) : wpAny (model prog w) A (eval (.Attribute e f pos) env) Q E s :=
  Attribute_any_ h (by rw [arm_eval_Attribute, hb])
end
def tFld (K : PySem.W.Frag) (ta : TE) (f : Str) : TE := fun σ H Q => ta σ H fun x H1 => ∃ a C dx fs v, x = .ref a ∧ H1 a = some (.ins C dx fs) ∧ Cls K C ∧ NoAttr K C f ∧ fs.lookup f = some v ∧ Q v H1
def tCon (K : PySem.W.Frag) (ta : TE) (f : Str) : TE := fun σ H Q => ta σ H fun x H1 => ∃ a C dx fs v u, x = .ref a ∧ H1 a = some (.ins C dx fs) ∧ Cls K C ∧ Con K C f v u ∧ fs.lookup f = none ∧ Q v H1
def sFld (K : PySem.W.Frag) (ta tv : TE) (f : Str) : TS := fun D σ H => tv σ H fun y H1 => ta σ H1 fun x H2 => ∃ a C dx fs, x = .ref a ∧ H2 a = some (.ins C dx fs) ∧ Cls K C ∧ NoAttr K C f ∧ fs.length < 1000 ∧
  D.nx σ (upd H2 a (.ins C dx (putF f y fs)))
def InOp (X : Cx) (op : Operator) (rd : V → V → Hp → VK → Prop) : Prop :=
  ∀ (pins : List (Addr × Obj)) (s : Shared) (σ : St) (H : Hp) (x y : V) (u v : Value) (Q : VK), Inv X pins σ H s → RelV x u → RelV y v → rd x y H Q → wpAny (model X.prog X.w) X.A (inplaceOp op u v) (EP X pins σ Q) X.xe s
def sFldAug (K : PySem.W.Frag) (ta tv : TE) (rd : V → V → Hp → VK → Prop) (f : Str) : TS := fun D σ H => ta σ H fun x H1 => ∃ a C dx fs v, x = .ref a ∧ H1 a = some (.ins C dx fs) ∧ Cls K C ∧ NoAttr K C f ∧ fs.lookup f = some v ∧
  tv σ H1 fun y H2 => rd v y H2 fun z H3 => ∃ dx' fs', H3 a = some (.ins C dx' fs') ∧ fs'.length < 1000 ∧ D.nx σ (upd H3 a (.ins C dx' (putF f z fs')))
section
variable {X : Cx} {o e value : Expr} {f : Str} {pos pos' tpos : Pos} {ta tv : TE}
theorem pe_fld (he : PE X e ta) (hb : attributeBase e f X.env (eval e X.env) = eval e X.env) : PE X (.Attribute e f pos) (tFld X.K ta f) := by
  intro pins s σ H Q I h
  refine attr_of hb (thn (he pins s σ H _ I h) fun u s1 ⟨x, H1, I1, rx, a, C, dx, fs, v, ex, ea, c, n, l, q⟩ => ?_)
  subst ex
  obtain rfl : u = Value.ref a := rx
  exact getattr_ok I1 ea c n l fun u' s2 I2 ru => ⟨v, H1, I2, ru, q⟩
theorem ps_fld (ha : PE X o ta) (hv : PE X value tv) (hs : swapsWith value (some (.Attribute o f pos')) pos.line X.env = pure false) : PS X (.Assign [.Attribute o f pos'] value pos) (sFld X.K ta tv f) := by
  intro pins s σ H D I h
  refine plainObj_wpAny_Assign_Attribute (thn (hv pins s σ H _ I h) fun u s1 ⟨y, H1, I1, ry, q⟩ => thn (ha pins s1 σ H1 _ I1 q) fun ov s2 ⟨x, H2, I2, rx, a, C, dx, fs, ex, ea, c, n, l, q2⟩ => ?_) hs
  subst ex
  obtain rfl : ov = Value.ref a := rx
  exact setattr_ok I2 ea c n l ry fun s3 I3 => ⟨σ, _, I3, q2⟩
def rAdd : V → V → Hp → VK → Prop := fun x y H Q => ∃ i j, x = .int i ∧ y = .int j ∧ Q (.int (i + j)) H
def rSub : V → V → Hp → VK → Prop := fun x y H Q => ∃ i j, x = .int i ∧ y = .int j ∧ Q (.int (i - j)) H
theorem methcall_of {pl : Sem Bool} {m : Str} {apos : Pos} {args : List Expr} {pins : List (Addr × Obj)} {s : Shared} {σ : St} {H : Hp} {Q : Value → Shared → Prop} {te : TE} (he : PE X e te) (I : Inv X pins σ H s)
    (h : te σ H fun x H1 => ∃ a C dx fs g, x = .ref a ∧ H1 a = some (.ins C dx fs) ∧ Cls X.K C ∧ Meth X.K C m g ∧ fs.lookup m = none ∧
      ∀ s1, Inv X pins σ H1 s1 → wpAny (model X.prog X.w) X.A (callWith pos (.ref g) [.ref a] (backTo pos (starEach args X.env)) (backToKw pos (keywordEach [] X.env))) Q X.xe s1)
    (ht : eval (.Call (.Attribute e m apos) args [] pos) X.env = (do
      let ov ← eval e X.env
      standAt apos.atName
      let (f, first) ← holding [ov] (getMethod ov m pl)
      callWith pos f first (backTo pos (starEach args X.env)) (backToKw pos (keywordEach [] X.env)))) :
    wpAny (model X.prog X.w) X.A (eval (.Call (.Attribute e m apos) args [] pos) X.env) Q X.xe s := by
  refine PySem.W.methodCall_KW (pl := pl) (thn (he pins s σ H _ I h) fun u s1 ⟨x, H1, I1, rx, a, C, dx, fs, g, ex, ea, c, k, l, q⟩ => ?_) ht
  subst ex
  obtain rfl : u = Value.ref a := rx
  exact getmeth_ok I1 ea c k l (q s1 I1)
end
section
variable {X : Cx} {pins : List (Addr × Obj)} {σ : St} {H : Hp} {s : Shared} {A : Around} {E : Value → Shared → Prop} {Q : Value → Shared → Prop} {c : Value} {b : Bool}
inductive TyOf (K : PySem.W.Frag) (H : Hp) : V → Value → Prop where
  | non : TyOf K H .non (.type "NoneType")
  | bl (x : Bool) : TyOf K H (.bl x) (.type "bool")
  | int (i : Int) : TyOf K H (.int i) (.type "int")
  | str (x : Str) : TyOf K H (.str x) (.type "str")
  | flt (x : UInt64) : TyOf K H (.flt x) (.type "float")
  | lst {a : Addr} {xs : List V} (e : H a = some (.lst xs)) : TyOf K H (.ref a) (.type "list")
  | frz {a : Addr} {o : Obj} {xs : List V} (e : H a = some (.frz o (.lst xs))) : TyOf K H (.ref a) (.type "list")
  | tup {a : Addr} {xs : List V} (e : H a = some (.tup xs)) : TyOf K H (.ref a) (.type "tuple")
  | dK {a : Addr} {kvs : List (Key × V)} (e : H a = some (.dK kvs)) : TyOf K H (.ref a) (.type "dict")
  | dT {a : Addr} {kvs : List (List Key × V)} (e : H a = some (.dT kvs)) : TyOf K H (.ref a) (.type "dict")
  | ins {a C dx : Addr} {fs : List (Str × V)} (e : H a = some (.ins C dx fs)) (cl : Cls K C) (ha : PySem.W.findIn K (.ref C) "__class__" = some (some (.builtin "object.__class__")))
      (hn : PySem.W.specialIn K (.builtin "object.__class__") "__get__" = some (some (.builtin "getset_descriptor.__get__"))) (htk : PySem.W.takesIn K (.builtin "object.__class__") = some true)
      (hm : PySem.W.mroIn K C (.type "object") = some true) : TyOf K H (.ref a) (.ref C)
theorem isinst_ok {x : V} {u t : Value} (I : Inv X pins σ H s) (rx : RelV x u) (ty : TyOf X.K H x t) (e : PySem.W.kitOne X.K t c = some b) (h : ∀ tk, Q (.bool b) { s with toks := tk }) :
    wpAny (model X.prog X.w) A (call (.builtin "isinstance") [u, c]) Q E s := by
  cases ty with
  | non => cases (show u = Value.none from rx); exact PySem.W.kia_one PySem.W.kitx_none I.kIn True.intro e (fun z => nomatch z) h
  | bl y => cases (show u = Value.bool y from rx); exact PySem.W.kia_one PySem.W.kitx_bool I.kIn True.intro e (fun z => nomatch z) h
  | int i => obtain ⟨t, q⟩ := (show ∃ t, u = Value.int i t from rx); cases q; exact PySem.W.kia_one PySem.W.kitx_int I.kIn True.intro e (fun z => nomatch z) h
  | str y => obtain ⟨t, q⟩ := (show ∃ t, u = Value.str y t from rx); cases q; exact PySem.W.kia_one PySem.W.kitx_str I.kIn True.intro e (fun z => nomatch z) h
  | flt y => obtain ⟨t, q⟩ := (show ∃ t, u = Value.float y t from rx); cases q; exact PySem.W.kia_one PySem.W.kitx_float I.kIn True.intro e (fun z => nomatch z) h
  | @lst a xs ea =>
    cases (show u = Value.ref a from rx)
    obtain ⟨_, _, n, _, h1⟩ := (show ObjOk X.prog X.w H s.heap a (.lst xs) from I.hok a _ ea)
    exact PySem.W.kia_one PySem.W.kitx_list I.kIn ⟨_, h1, rfl⟩ e (fun z => nomatch z) h
  | @frz a ob xs ea =>
    cases (show u = Value.ref a from rx)
    obtain ⟨_, _, _, n, _, h1⟩ := (show ObjOk X.prog X.w H s.heap a (.frz ob (.lst xs)) from I.hok a _ ea)
    exact PySem.W.kia_one PySem.W.kitx_list I.kIn ⟨_, h1, rfl⟩ e (fun z => nomatch z) h
  | @tup a xs ea =>
    cases (show u = Value.ref a from rx)
    obtain ⟨_, _, _, p⟩ := (show ObjOk X.prog X.w H s.heap a (.tup xs) from I.hok a _ ea)
    obtain ⟨o, h1, h2, _⟩ := p
    exact PySem.W.kia_one PySem.W.kitx_tuple I.kIn ⟨o, h1, h2⟩ e (fun z => nomatch z) h
  | @dK a kvs ea =>
    cases (show u = Value.ref a from rx)
    obtain ⟨_, _, vs, _, p⟩ := (show ObjOk X.prog X.w H s.heap a (.dK kvs) from I.hok a _ ea)
    obtain ⟨o, es, ep, h1, h2, _⟩ := p
    exact PySem.W.kia_one PySem.W.kitx_dict I.kIn ⟨o, h1, h2.1⟩ e (fun z => nomatch z) h
  | @dT a kvs ea =>
    cases (show u = Value.ref a from rx)
    obtain ⟨_, _, xs, _, o, es, ep, h1, h2, _⟩ := (show ObjOk X.prog X.w H s.heap a (.dT kvs) from I.hok a _ ea)
    exact PySem.W.kia_one PySem.W.kitx_dict I.kIn ⟨o, h1, h2.1⟩ e (fun z => nomatch z) h
  | @ins a C dx fs ea cl ha hn htk hm =>
    cases (show u = Value.ref a from rx)
    obtain ⟨mA, O, _⟩ := ins_get I.hok ea
    obtain ⟨od, J, _⟩ := O.look
    exact PySem.W.kia_one (PySem.W.kitx_own (cl.get _) cl.hd ha hn htk hm) I.kIn J e (fun z => nomatch z) h
end
end L2
namespace L2
open PySem PySem.Spec PyProof.Rows
structure Room (k : Nat) (A : Around) : Prop where
  hd : A.handled = none
  dp : A.depth + 3 * k + 5 < recursionLimit
  un : A.units + 16 * k + 200 < cLine
theorem Room.mono {j k : Nat} {A : Around} (r : Room k A) (h : j ≤ k) : Room j A := ⟨r.hd, by have := r.dp; omega, by have := r.un; omega⟩
theorem Room.deeper {k : Nat} {A : Around} (r : Room (k + 1) A) (env : Env) : Room k (A.deeper env) :=
  ⟨r.hd, by have := r.dp; show A.depth + 1 + 3 * k + 5 < _; omega, by have := r.un; show A.units + 3 + 16 * k + 200 < _; omega⟩
theorem make_depth {A : Around} {C : Addr} {us : List Value} {kw : List (Str × Value)} : (A.under (.builtin "type.__call__" ⟨.ref C :: us, kw⟩)).depth = A.depth + 1 := by
  first | rfl | simp [Around.under, Code.weight, Code.isCreation, Code.isGuard, Code.isCaller, Code.frames, Code.isFrame, guardIds]
theorem make_units {A : Around} {C : Addr} {us : List Value} {kw : List (Str × Value)} : (A.under (.builtin "type.__call__" ⟨.ref C :: us, kw⟩)).units = A.units + 1 := by
  first | rfl | simp [Around.under, Code.cUnits, Code.frames, Code.isFrame]
theorem Room.make {k : Nat} {A : Around} (r : Room (k + 1) A) (C : Addr) (us : List Value) (kw : List (Str × Value)) : Room k (A.under (.builtin "type.__call__" ⟨.ref C :: us, kw⟩)) :=
  ⟨r.hd, by have := r.dp; rw [make_depth]; omega, by have := r.un; rw [make_units]; omega⟩
theorem Room.depth {k : Nat} {A : Around} (r : Room k A) : A.depth < recursionLimit := by have := r.dp; omega
theorem Room.units {k : Nat} {A : Around} (r : Room k A) : A.units + 64 < cLine := by have := r.un; omega
def tNil : TA := fun _ H Q => Q [] H
def tCons (ta : TE) (tr : TA) : TA := fun σ H Q => ta σ H fun x H1 => tr σ H1 fun xs H2 => Q (x :: xs) H2
section
variable {X : Cx} {e : Expr} {es : List Expr} {te : TE} {t : TA} {pos : Pos}
theorem pa_nil : PA X [] tNil := fun _ _ _ _ H Q I h => Calls.spliced_nil ⟨[], H, I, .nil, h⟩
theorem pa_cons (ha : PE X e te) (hr : PA X es t) (hs : starEach (e :: es) X.env = (false, eval e X.env) :: starEach es X.env := by rfl) : PA X (e :: es) (tCons te t) := by
  intro pos pins s σ H Q I h
  rw [hs]
  show wpAny _ _ (spliced ((false, eval e X.env) :: backTo pos (starEach es X.env))) _ _ s
  refine Calls.spliced_cons (thn (ha pins s σ H _ I h) fun u s1 ⟨x, H1, I1, r1, q1⟩ => ?_)
  exact thn (hr pos pins s1 σ H1 _ I1 q1) fun us s2 ⟨xs, H2, I2, r2, q2⟩ => ⟨x :: xs, H2, I2, .cons r1 r2, q2⟩
def tTup (t : TA) : TE := fun σ H Q => t σ H fun xs H1 => xs.length ≤ sizeLine ∧ ∀ p, H1 p = none → Q (.ref p) (upd H1 p (.tup xs))
def tLst (t : TA) : TE := fun σ H Q => t σ H fun xs H1 => xs.length ≤ sizeLine ∧ ∀ p, H1 p = none → Q (.ref p) (upd H1 p (.lst xs))
theorem pe_tup {x1} (h : PA X es t) : PE X (.Tuple es x1 pos) (tTup t) := by
  intro pins s σ H Q I hq
  refine wpAny_Tuple_spliced (thn (h pos pins s σ H _ I hq) fun us s1 ⟨xs, H1, I1, r, z, q⟩ => ⟨by rw [← r.length]; exact z, ?_⟩)
  have hf : H1 s1.heap.objs.size = none := I1.hok.fresh (Nat.le_refl _)
  refine ⟨.ref s1.heap.objs.size, upd H1 s1.heap.objs.size (.tup xs), I1.laid (t' := s1.toks) (fun b u e => Heap.get?_push_of_some _ e) (Nat.le_refl _) ?_, rfl, q _ hf⟩
  exact ⟨z, us, r, ⟨_, Heap.get?_push_size _ rfl, rfl, _, rfl⟩⟩
theorem pe_lst (h : PA X es t) : PE X (.List es pos) (tLst t) := by
  intro pins s σ H Q I hq
  refine wpAny_List_spliced (thn (h pos pins s σ H _ I hq) fun us s1 ⟨xs, H1, I1, r, z, q⟩ => ⟨by rw [← r.length]; exact z, ?_⟩)
  have hf : H1 s1.heap.objs.size = none := I1.hok.fresh (Nat.le_refl _)
  refine ⟨.ref s1.heap.objs.size, upd H1 s1.heap.objs.size (.lst xs), I1.laid (t' := s1.toks) (fun b u e => Heap.get?_push_of_some _ e) (Nat.le_refl _) ?_, rfl, q _ hf⟩
  exact ⟨z, us, 0, r, Heap.get?_push_size _ rfl⟩
end
abbrev Sp := List V → Hp → VK → XK → Prop
abbrev CXT := List Env → Hp → Shared → XK → Value → Shared → Prop
structure Env0 (P : Program) (w : World) (K : PySem.W.Frag) (mg : Str → Option Value) (base : Heap) (A : Around) (outer : List Env) (s : Shared) (H : Hp) : Prop where
  frames : A.frames = some outer
  mod : Mod K mg base
  bs : ∀ b o, base.get? b = some o → s.heap.get? b = some o ∧ H b = none
  bsz : base.objs.size ≤ s.heap.objs.size
  funs : s.heap.FunFrames base outer
  frf : ∀ b ∈ frs outer, H b = none
  hok : HOk P w H s.heap
  bare : AllBare s.gens
def CE (outer : List Env) (P : Program) (w : World) (H : Hp) (s : Shared) (Q : VK) (u : Value) (s' : Shared) : Prop :=
  ∃ v H', s'.os = s.os ∧ AllBare s'.gens ∧ Un (frs outer) [] H H' s.heap s'.heap ∧ HOk P w H' s'.heap ∧ RelV v u ∧ Q v H'
def CR (CX : CXT) (outer : List Env) (P : Program) (w : World) (H : Hp) (s : Shared) (Q : VK) (E : XK) (r : Result) (s' : Shared) : Prop :=
  match r with
  | .ok (.ret u) => CE outer P w H s Q u s'
  | .ok _ => False
  | .error e => CX outer H s E e s'
structure FnOk (P : Program) (w : World) (K : PySem.W.Frag) (mg : Str → Option Value) (base : Heap) (CX : CXT) (k : Nat) (f : Addr) (fd : FuncData) (ps : List Str) (sp : Sp) : Prop where
  len : ∀ vs H Q E, sp vs H Q E → vs.length = ps.length
  run : ∀ (A : Around) (outer : List Env) (s : Shared) (H : Hp) (args : Args) (us : List Value) (vs : List V) (Q : VK) (E : XK), Room k A → Env0 P w K mg base A outer s H → BindsTo s fd args (ps.zip us) → Vals vs us → sp vs H Q E →
    codeAny (model P w) A (.call (.ref f) args) (CR CX outer P w H s Q E) s
theorem Env0.make {P : Program} {w : World} {K : PySem.W.Frag} {mg : Str → Option Value} {base : Heap} {A : Around} {outer : List Env} {s : Shared} {H : Hp} (e : Env0 P w K mg base A outer s H) (C : Addr) (us : List Value) (kw : List (Str × Value)) :
    Env0 P w K mg base (A.under (.builtin "type.__call__" ⟨.ref C :: us, kw⟩)) outer s H := ⟨by first | exact e.frames | (simpa [Around.under, Code.envs, Code.isFrame, pushEnvs] using e.frames), e.mod, e.bs, e.bsz, e.funs, e.frf, e.hok, e.bare⟩
section
variable {X : Cx} {pins : List (Addr × Obj)} {σ : St} {H : Hp} {s s' : Shared}
theorem Inv.env0 (I : Inv X pins σ H s) : Env0 X.prog X.w X.K X.mg X.base X.A X.stack s H :=
  ⟨I.ok.frames, I.ok.mod, I.bs, Nat.le_trans I.ok.bsz I.sz, I.stack, I.stkFree, I.hok, I.bare⟩
theorem Inv.after {Q : VK} {u : Value} (I : Inv X pins σ H s) (h : CE X.stack X.prog X.w H s Q u s') : EP X pins σ Q u s' := by
  obtain ⟨v, H', os, bare, un, hok, r, q⟩ := h
  obtain ⟨hh, g, d, t, os'⟩ := s'
  obtain rfl : os' = s.os := os
  exact ⟨v, H', I.call (h' := hh) (g' := g) (d' := d) (t' := t) (ch := []) un hok bare (fun b z => absurd z (by simp)), r, q⟩
end
def tCall (sp : Sp) (dvs : List V) (E : XK) (t : TA) : TE := fun σ H Q => t σ H fun vs H1 => sp (vs ++ dvs) H1 Q E
def tMeth (C : Addr) (m : Str) (sp : Sp) (dvs : List V) (E : XK) (ta : TE) (t : TA) : TE := fun σ H Q => ta σ H fun x H1 => ∃ a dx fs, x = .ref a ∧ H1 a = some (.ins C dx fs) ∧ fs.lookup m = none ∧
  t σ H1 fun vs H2 => sp (x :: (vs ++ dvs)) H2 Q E
def tMake (C : Addr) (sp : Sp) (dvs : List V) (E : XK) (t : TA) : TE := fun σ H Q => t σ H fun vs H1 => ∀ x dx, H1 x = none → H1 dx = none → dx ≠ x →
  sp (.ref x :: (vs ++ dvs)) (upd (upd H1 dx (.own x)) x (.ins C dx [])) (fun v H2 => v = .non ∧ Q (.ref x) H2) E
def Binds (K : PySem.W.Frag) (fd : FuncData) (ps : List Str) (ds : List Value) : Prop :=
  ∀ (s : Shared) (us : List Value), K.In s.heap → (us ++ ds).length = ps.length → BindsTo s fd ⟨us, []⟩ (ps.zip (us ++ ds))
theorem Binds.all {K : PySem.W.Frag} {fd : FuncData} {ps : List Str} (h : ∀ us : List Value, us.length = ps.length → bindArgs fd ⟨us, []⟩ = pure (ps.zip us)) : Binds K fd ps [] := fun s us _ hl => by
  rw [List.append_nil] at hl ⊢
  exact .of_eq (h us hl)
def Passes (CX : CXT) (X : Cx) (E : XK) : Prop := ∀ (pins : List (Addr × Obj)) (σ : St) (H : Hp) (s : Shared) (e : Value) (s' : Shared), Inv X pins σ H s → CX X.stack H s E e s' → X.xe e s'
section
variable {X : Cx} {CX : CXT} {k : Nat} {f C : Addr} {fd : FuncData} {ps : List Str} {sp : Sp} {dvs : List V} {ds : List Value} {E : XK} {x m : Str} {p pos apos : Pos} {e o : Expr} {es : List Expr} {ta : TE} {t : TA}
theorem run_fn {pins : List (Addr × Obj)} {σ : St} {H : Hp} {s : Shared} {Q : VK} {us : List Value} {vs : List V} (F : FnOk X.prog X.w X.K X.mg X.base CX k f fd ps sp) (hr : Room k X.A) (hb : Binds X.K fd ps ds) (hd : Vals dvs ds) (hx : Passes CX X E)
    (I : Inv X pins σ H s) (r : Vals vs us) (h : sp (vs ++ dvs) H Q E) : wpAny (model X.prog X.w) X.A (call (.ref f) us) (EP X pins σ Q) X.xe s := by
  have r2 : Vals (vs ++ dvs) (us ++ ds) := r.append hd
  have hl : (us ++ ds).length = ps.length := by rw [← r2.length]; exact F.len _ _ _ _ h
  refine wpAny_call (codeAny_mono (F.run X.A X.stack s H ⟨us, []⟩ (us ++ ds) (vs ++ dvs) Q E hr I.env0 (hb s us I.kIn hl) r2 h) fun r s' hq => ?_)
  cases r with
  | error e => exact hx pins σ H s e s' I hq
  | ok fl =>
    cases fl with
    | ret u => exact I.after hq
    | next => exact False.elim hq
    | brk => exact False.elim hq
    | cont => exact False.elim hq
theorem pe_call (F : FnOk X.prog X.w X.K X.mg X.base CX k f fd ps sp) (hr : Room k X.A) (hg : Gl X x) (hm : X.mg x = some (.ref f)) (hk : PySem.W.keepIn X.K (.ref f) = true) (hb : Binds X.K fd ps ds) (hd : Vals dvs ds) (hx : Passes CX X E)
    (ha : PA X (e :: es) t) (hdb : (x == ("__debug__" : Str)) = false := by decide) (he : starEach (e :: es) X.env = (false, eval e X.env) :: starEach es X.env := by rfl) (hpl : (backTo pos (starEach es X.env)).any (·.1) = false := by rfl) :
    PE X (.Call (.Name x p) (e :: es) [] pos) (tCall sp dvs E t) := by
  intro pins s σ H Q I h
  refine wpAny_Call_Name_kw (ld_glob I hg hm ?_ hdb)
  refine PySem.W.callWith_K (h₀ := X.base) I.ok.mod.kin hk (thn (ha pos pins s σ H _ I h) fun us s1 ⟨vs, H1, I1, r, q⟩ => ⟨I1.kIn, ?_⟩) he hpl
  exact run_fn F hr hb hd hx I1 r q
theorem pe_meth {pl : Sem Bool} (he : PE X o ta) (c : Cls X.K C) (hm : Meth X.K C m f) (F : FnOk X.prog X.w X.K X.mg X.base CX k f fd ps sp) (hr : Room k X.A) (hb : Binds X.K fd ps ds) (hd : Vals dvs ds) (hx : Passes CX X E) (ha : PA X (e :: es) t)
    (hst : starEach (e :: es) X.env = (false, eval e X.env) :: starEach es X.env := by rfl) (hpl : (backTo pos (starEach es X.env)).any (·.1) = false := by rfl)
    (ht : eval (.Call (.Attribute o m apos) (e :: es) [] pos) X.env = (do
      let ov ← eval o X.env
      standAt apos.atName
      let (f, first) ← holding [ov] (getMethod ov m pl)
      callWith pos f first (backTo pos (starEach (e :: es) X.env)) (backToKw pos (keywordEach [] X.env))) := by rfl) :
    PE X (.Call (.Attribute o m apos) (e :: es) [] pos) (tMeth C m sp dvs E ta t) := by
  intro pins s σ H Q I h
  refine PySem.W.methodCall_KW (pl := pl) (thn (he pins s σ H _ I h) fun u s1 ⟨x, H1, I1, rx, a, dx, fs, ex, ea, l, q⟩ => ?_) ht
  subst ex
  obtain rfl : u = Value.ref a := rx
  refine getmeth_ok I1 ea c hm l ?_
  refine PySem.W.callWith_K (first := [.ref a]) (h₀ := X.base) I.ok.mod.kin hm.kp (thn (ha pos pins s1 σ H1 _ I1 q) fun us s2 ⟨vs, H2, I2, r, q2⟩ => ⟨I2.kIn, ?_⟩) hst hpl
  exact run_fn (us := .ref a :: us) (vs := .ref a :: vs) F hr hb hd hx I2 (.cons rfl r) q2
theorem pe_meth0 {pl : Sem Bool} (he : PE X o ta) (c : Cls X.K C) (hm : Meth X.K C m f) (F : FnOk X.prog X.w X.K X.mg X.base CX k f fd ps sp) (hr : Room k X.A) (hb : Binds X.K fd ps ds) (hd : Vals dvs ds) (hx : Passes CX X E)
    (ht : eval (.Call (.Attribute o m apos) [] [] pos) X.env = (do
      let ov ← eval o X.env
      standAt apos.atName
      let (f, first) ← holding [ov] (getMethod ov m pl)
      callWith pos f first (backTo pos (starEach [] X.env)) (backToKw pos (keywordEach [] X.env))) := by rfl) :
    PE X (.Call (.Attribute o m apos) [] [] pos) (tMeth C m sp dvs E ta tNil) := by
  intro pins s σ H Q I h
  refine PySem.W.methodCall_KW (pl := pl) (thn (he pins s σ H _ I h) fun u s1 ⟨x, H1, I1, rx, a, dx, fs, ex, ea, l, q⟩ => ?_) ht
  subst ex
  obtain rfl : u = Value.ref a := rx
  refine getmeth_ok I1 ea c hm l ?_
  exact PySem.W.callWith_K0 (first := [.ref a]) I1.kIn hm.kp (run_fn (us := [.ref a]) (vs := [.ref a]) F hr hb hd hx I1 (.cons rfl .nil) q)
structure Mk (K : PySem.W.Frag) (C f : Addr) : Prop where
  makes : PySem.W.makesIn K C = true
  init : PySem.W.findIn K (.ref C) "__init__" = some (some (.ref f))
  fn : PySem.W.isFn K (.ref f) = true
  kp : PySem.W.keepIn K (.ref C) = true
theorem run_make {pins : List (Addr × Obj)} {σ : St} {H : Hp} {s : Shared} {Q : VK} {us : List Value} {vs : List V} (M : Mk X.K C f) (F : FnOk X.prog X.w X.K X.mg X.base CX k f fd ps sp) (hr : Room (k + 1) X.A) (hb : Binds X.K fd ps ds) (hd : Vals dvs ds)
    (hx : Passes CX X E) (I : Inv X pins σ H s) (r : Vals vs us)
    (h : ∀ x dx, H x = none → H dx = none → dx ≠ x → sp (.ref x :: (vs ++ dvs)) (upd (upd H dx (.own x)) x (.ins C dx [])) (fun v H2 => v = .non ∧ Q (.ref x) H2) E) :
    wpAny (model X.prog X.w) X.A (call (.ref C) us) (EP X pins σ Q) X.xe s := by
  have hq := h (s.heap.objs.size + 1) s.heap.objs.size (I.hok.fresh (Nat.le_succ _)) (I.hok.fresh (Nat.le_refl _)) (Nat.ne_of_lt (Nat.lt_succ_self _))
  have I2 := Inv.made (C := C) I
  have r2 : Vals (V.ref (s.heap.objs.size + 1) :: (vs ++ dvs)) (Value.ref (s.heap.objs.size + 1) :: (us ++ ds)) := .cons rfl (r.append hd)
  have hl : (Value.ref (s.heap.objs.size + 1) :: us ++ ds).length = ps.length := by
    have e := r2.length
    rw [F.len _ _ _ _ hq] at e
    exact e.symm
  refine wpAny_call (make_map (f := f) I.kIn M.makes M.init (beq_iff_eq.mp M.fn) (codeAny_mono (F.run _ X.stack _ _ ⟨Value.ref (s.heap.objs.size + 1) :: us, []⟩ (Value.ref (s.heap.objs.size + 1) :: (us ++ ds)) _ _ E (hr.make C us [])
    (I2.env0.make C us []) (hb _ (Value.ref (s.heap.objs.size + 1) :: us) I2.kIn hl) r2 hq) fun r s' hq' => ?_))
  cases r with
  | error e => exact hx pins σ _ _ e s' I2 hq'
  | ok fl =>
    cases fl with
    | ret u =>
      obtain ⟨v, H', I3, rv, ev, q3⟩ := I2.after hq'
      subst ev
      exact ⟨rv, ⟨V.ref (s.heap.objs.size + 1), H', I3, rfl, q3⟩⟩
    | next => exact False.elim hq'
    | brk => exact False.elim hq'
    | cont => exact False.elim hq'
theorem pe_make (M : Mk X.K C f) (F : FnOk X.prog X.w X.K X.mg X.base CX k f fd ps sp) (hr : Room (k + 1) X.A) (hg : Gl X x) (hm : X.mg x = some (.ref C)) (hb : Binds X.K fd ps ds) (hd : Vals dvs ds) (hx : Passes CX X E)
    (ha : PA X (e :: es) t) (hdb : (x == ("__debug__" : Str)) = false := by decide) (he : starEach (e :: es) X.env = (false, eval e X.env) :: starEach es X.env := by rfl) (hpl : (backTo pos (starEach es X.env)).any (·.1) = false := by rfl) :
    PE X (.Call (.Name x p) (e :: es) [] pos) (tMake C sp dvs E t) := by
  intro pins s σ H Q I h
  refine wpAny_Call_Name_kw (ld_glob I hg hm ?_ hdb)
  refine PySem.W.callWith_K (h₀ := X.base) I.ok.mod.kin M.kp (thn (ha pos pins s σ H _ I h) fun us s1 ⟨vs, H1, I1, r, q⟩ => ⟨I1.kIn, ?_⟩) he hpl
  exact run_make M F hr hb hd hx I1 r q
end
def PK (X : Cx) (kws : List Keyword) (t : TA) : Prop :=
  ∀ (pos : Pos) (pins : List (Addr × Obj)) (s : Shared) (σ : St) (H : Hp) (Q : List V → Hp → Prop), Inv X pins σ H s → t σ H Q → wpAny (model X.prog X.w) X.A (evalAll ((backToKw pos (keywordEach kws X.env)).map (·.2))) (AP X pins σ Q) X.xe s
section
variable {X : Cx} {CX : CXT} {k : Nat} {f C : Addr} {fd : FuncData} {ps ks : List Str} {sp : Sp} {E : XK} {x m : Str} {p pos apos kpos : Pos} {e o : Expr} {es : List Expr} {kws : List Keyword} {te ta : TE} {t tk : TA} {nm : Option Str}
structure KBinds (K : PySem.W.Frag) (fd : FuncData) (ps ks : List Str) (g : List Value → List Value → List Value) (gV : List V → List V → List V) : Prop where
  to : ∀ (s : Shared) (us ws : List Value), K.In s.heap → (g us ws).length = ps.length → BindsTo s fd ⟨us, ks.zip ws⟩ (ps.zip (g us ws))
  rel : ∀ {vs : List V} {us : List Value} {zs : List V} {ws : List Value}, Vals vs us → Vals zs ws → Vals (gV vs zs) (g us ws)
def tCallK (sp : Sp) (gV : List V → List V → List V) (E : XK) (t tk : TA) : TE := fun σ H Q => t σ H fun vs H1 => tk σ H1 fun zs H2 => sp (gV vs zs) H2 Q E
variable {g : List Value → List Value → List Value} {gV : List V → List V → List V}
end
structure FnScope (N P : List Str) (sc : Scope) : Prop where
  kind : sc.kind = .function
  co : sc.isCoroutine = false
  gen : sc.isGenerator = false
  nd : N.Nodup
  pre : N.take P.length = P
  par : ∀ x ∈ P, sc.names.lookup x = some .local ∨ sc.names.lookup x = some .cell
  nofree : ∀ y ∈ sc.names, y.2 ≠ .free
theorem bindL_out {kindOf : Str → Option NameKind} {x : Str} : ∀ {binds : List (Str × Value)} {m : Str → Option Value}, (∀ v, (x, v) ∉ binds) → bindL kindOf binds m x = m x
  | [], _, _ => rfl
  | (n, v) :: r, m, h => by
    unfold bindL
    rw [bindL_out fun w hw => h w (List.mem_cons_of_mem _ hw)]
    split
    · have : x ≠ n := by rintro rfl; exact h v List.mem_cons_self
      simp [this]
    · rfl
theorem bindC_out {kindOf : Str → Option NameKind} {x : Str} : ∀ {binds : List (Str × Value)} {m : Str → Option Value}, (∀ v, (x, v) ∉ binds) → bindC kindOf binds m x = m x
  | [], _, _ => rfl
  | (n, v) :: r, m, h => by
    unfold bindC
    rw [bindC_out fun w hw => h w (List.mem_cons_of_mem _ hw)]
    split
    · rfl
    · have : x ≠ n := by rintro rfl; exact h v List.mem_cons_self
      simp [this]
theorem bindL_get {kindOf : Str → Option NameKind} {x : Str} {v : Value} : ∀ {P : List Str} {vs : List Value} {i : Nat} {m : Str → Option Value}, P.Nodup → P[i]? = some x → vs[i]? = some v → kindOf x = some .local →
    bindL kindOf (P.zip vs) m x = some v
  | [], _, _, _, _, h, _, _ => by simp at h
  | _ :: _, [], _, _, _, _, h, _ => by simp at h
  | p :: P, w :: vs, 0, m, nd, h1, h2, hk => by
    simp at h1 h2; subst h1; subst h2
    show bindL kindOf ((p, w) :: P.zip vs) m p = _
    unfold bindL
    rw [bindL_out fun v hv => (List.nodup_cons.mp nd).1 (List.of_mem_zip hv).1, if_pos hk]
    simp
  | p :: P, w :: vs, i + 1, m, nd, h1, h2, hk => by
    show bindL kindOf ((p, w) :: P.zip vs) m x = _
    unfold bindL
    exact bindL_get (i := i) (List.nodup_cons.mp nd).2 (by simpa using h1) (by simpa using h2) hk
theorem bindC_get {kindOf : Str → Option NameKind} {x : Str} {v : Value} : ∀ {P : List Str} {vs : List Value} {i : Nat} {m : Str → Option Value}, P.Nodup → P[i]? = some x → vs[i]? = some v → kindOf x ≠ some .local →
    bindC kindOf (P.zip vs) m x = some v
  | [], _, _, _, _, h, _, _ => by simp at h
  | _ :: _, [], _, _, _, _, h, _ => by simp at h
  | p :: P, w :: vs, 0, m, nd, h1, h2, hk => by
    simp at h1 h2; subst h1; subst h2
    show bindC kindOf ((p, w) :: P.zip vs) m p = _
    unfold bindC
    rw [bindC_out fun v hv => (List.nodup_cons.mp nd).1 (List.of_mem_zip hv).1, if_neg hk]
    simp
  | p :: P, w :: vs, i + 1, m, nd, h1, h2, hk => by
    show bindC kindOf ((p, w) :: P.zip vs) m x = _
    unfold bindC
    exact bindC_get (i := i) (List.nodup_cons.mp nd).2 (by simpa using h1) (by simpa using h2) hk
def start (N : List Str) (vs : List V) : St := vs.map some ++ List.replicate (N.length - vs.length) none
def cxOf (CX : CXT) (P : Program) (w : World) (K : PySem.W.Frag) (mg : Str → Option Value) (base : Heap) (N : List Str) (qual : Str) (scope : Scope) (f : Addr) (cd : Value) (A : Around) (outer : List Env) (s : Shared) (H : Hp) (E : XK) : Cx where
  prog := P
  w := w
  K := K
  mg := mg
  base := base
  A := A.deeper (envOfC qual scope s.heap.objs.size f cd)
  N := N
  s₀ := s
  H₀ := H
  env := envOfC qual scope s.heap.objs.size f cd
  outer := outer
  stack := envOfC qual scope s.heap.objs.size f cd :: outer
  ex := []
  calm := true
  fn := fun _ => true
  pn := []
  xe := fun e s' => wpAny (model P w) (A.deeper (envOfC qual scope s.heap.objs.size f cd)) (leaving (envOfC qual scope s.heap.objs.size f cd) e) (fun _ s'' => CX outer H s E e s'') (fun e' s'' => CX outer H s E e' s'') s'
theorem cell_has {sc : Scope} {n : Nat} {x : Str} (h : sc.names.lookup x = some .cell) : ∃ c, (cellsFrom n sc.names []).lookup x = some c := by
  have q := PySem.W.cellsFrom_some sc.names n [] (.inl h)
  exact Option.isSome_iff_exists.mp q
theorem inv_start {CX : CXT} {P : Program} {w : World} {K : PySem.W.Frag} {mg : Str → Option Value} {base : Heap} {N ps : List Str} {qual : Str} {scope : Scope} {f : Addr} {cd : Value} {A : Around} {outer : List Env} {s s1 : Shared} {H : Hp} {E : XK} {us : List Value} {vs : List V}
    (S : FnScope N ps scope) (hd : A.handled = none) (e0 : Env0 P w K mg base A outer s H) (hl : vs.length = ps.length) (r : Vals vs us)
    (x : InCallC s s.heap.objs.size (bindL (envOfC qual scope s.heap.objs.size f cd).kindOf (ps.zip us) fun _ => none) (cellsFrom (s.heap.objs.size + 1) scope.names []) (bindC (envOfC qual scope s.heap.objs.size f cd).kindOf (ps.zip us) fun _ => none) s1) :
    Inv (cxOf CX P w K mg base N qual scope f cd A outer s H E) [] (start N vs) H s1 := by
  have hpl : ps.length ≤ N.length := by have := congrArg List.length S.pre; rw [List.length_take] at this; omega
  obtain ⟨h1, tk, rfl, hk⟩ := x.done
  have noA : ∀ b : Addr, b ∉ (cxOf CX P w K mg base N qual scope f cd A outer s H E).ex := fun b z => absurd (show b ∈ ([] : List Addr) from z) (by simp)
  refine ⟨⟨e0.mod, S.kind, rfl, rfl, Nat.le_refl _, fun y z c h1 h2 => ?_, fun y hy => ?_, fun y c _ h => ?_, fun _ => hd, Around.frames_deeper e0.frames, .inr ⟨rfl, rfl⟩, fun b z => absurd z (noA b), e0.bs, e0.bsz, fun b _ _ => noA b, fun b z => absurd z (noA b), e0.funs, e0.frf⟩,
    rfl, e0.bare, Un.kept hk, ⟨_, x.toInCall.ns, fun i y v h1 h2 h3 => ?_⟩, fun y c h => ⟨_, x.cell y c h⟩, e0.hok.fresh (Nat.le_refl _), fun y c h => ?_, fun p hp => absurd (show p ∈ ([] : List (Addr × Obj)) from hp) (by simp), e0.hok.kept hk, ?_⟩
  · exact name_of_addr x.apart (PySem.mem_of_lookup h1) (PySem.mem_of_lookup h2)
  · have hy : scope.names.lookup y = some .cell ∨ scope.names.lookup y = some .free := hy
    rcases hy with hy | hy
    · exact cell_has hy
    · exact absurd rfl (S.nofree _ (PySem.mem_of_lookup hy))
  · exact Nat.le_of_lt (x.above y c (PySem.mem_of_lookup h))
  · have hi : i < vs.length := by
      unfold start at h2
      by_cases hi : i < vs.length
      · exact hi
      · rw [List.getElem?_append_right (by simpa using hi)] at h2
        rw [List.getElem?_replicate] at h2
        split at h2 <;> cases h2
    have ha : vs[i]? = some v := by
      unfold start at h2
      rw [List.getElem?_append_left (by simpa using hi), List.getElem?_map] at h2
      cases e : vs[i]? with
      | none => rw [e] at h2; cases h2
      | some a => rw [e] at h2; cases h2; rfl
    obtain ⟨u, hu, rv⟩ := r.get ha
    have hp : ps[i]? = some y := by
      rw [← S.pre, List.getElem?_take_of_lt (by omega)]; exact h1
    have ndP : ps.Nodup := by rw [← S.pre]; exact S.nd.sublist (List.take_sublist _ _)
    refine ⟨u, rv, ?_⟩
    rcases S.par y (List.mem_of_getElem? hp) with k | k
    · exact .inl ⟨k, bindL_get ndP hp hu k⟩
    · obtain ⟨c, e⟩ := cell_has (n := s.heap.objs.size + 1) k
      refine .inr ⟨.inl k, c, e, ?_⟩
      have q := x.cell y c e
      rw [bindC_get ndP hp hu (by show scope.names.lookup y ≠ _; rw [k]; decide)] at q
      exact q
  · exact e0.hok.fresh (Nat.le_of_lt (x.above y c (PySem.mem_of_lookup h)))
  · unfold start
    show _ = N.length
    rw [List.length_append, List.length_map, List.length_replicate]
    omega
theorem fn_of {CX : CXT} {P : Program} {w : World} {K : PySem.W.Frag} {mg : Str → Option Value} {base : Heap} {k : Nat} {f : Addr} {name qual : Str} {params : Arguments} {body : List Stmt} {scope : Scope} {dV kV doc pm cdv ct oc : Value} {an od : Option Addr}
    {osl : Array (Option Value)} {N ps : List Str} {sp : Sp} (lk : K.lookup f = some ⟨oc, od, .func (PySem.W.fnOf name qual params body scope dV kV doc pm an cdv ct), osl⟩) (hcd : PySem.W.codeIn K cdv qual = true) (S : FnScope N ps scope)
    (len : ∀ vs H Q E, sp vs H Q E → vs.length = ps.length)
    (hbody : ∀ (A : Around) (outer : List Env) (s : Shared) (H : Hp) (vs : List V) (Q : VK) (E : XK), Room k (A.deeper (envOfC qual scope s.heap.objs.size f cdv)) → sp vs H Q E →
      ∃ t, PSs (cxOf CX P w K mg base N qual scope f cdv A outer s H E) body t ∧ t { nx := fun _ H' => Q .non H', rt := Q } (start N vs) H) :
    FnOk P w K mg base CX (k + 1) f (PySem.W.fnOf name qual params body scope dV kV doc pm an cdv ct) ps sp := by
  refine ⟨len, fun A outer s H args us vs Q E hr e0 hb r hsp => ?_⟩
  have hl := len _ _ _ _ hsp
  have KX : K.In s.heap := e0.mod.kin.keeps fun b o e => (e0.bs b o e).1
  have lim : s.heap.NoLimit := e0.mod.nolimit.keeps fun b o e => (e0.bs b o e).1
  have hkind : ∀ y ∈ ps.zip us, scope.names.lookup y.1 = some .local ∨ (scope.names.lookup y.1 = some .cell ∧ ((cellsFrom (s.heap.objs.size + 1) scope.names []).lookup y.1).isSome = true) := fun ⟨n, v⟩ hy => by
    rcases S.par n (List.of_mem_zip hy).1 with q | q
    · exact .inl q
    · exact .inr ⟨q, PySem.W.cellsFrom_some _ _ _ (.inl q)⟩
  refine codeAny_call_function hr.depth (KX _ _ lk) rfl S.co S.gen rfl (PySem.W.codeRec_of KX hcd) (hb _ _ _ _ ?_)
  refine wpAny_newFunctionEnv_cells S.kind hkind fun env he s1 x => ?_
  subst he
  refine ⟨lim.keeps x.toInCall.keep, codeAny_func ?_⟩
  obtain ⟨t, ht, hq⟩ := hbody A outer s H vs Q E (hr.deeper _) hsp
  have I : Inv (cxOf CX P w K mg base N qual scope f cdv A outer s H E) [] (start N vs) H s1 := inv_start S hr.hd e0 hl r x
  refine wpAny_mono (ht [] s1 (start N vs) H _ I hq) (fun fl s' hs => ?_) fun e s' hs => hs
  have fin : ∀ {σ' : St} {H' : Hp} {v : V} {u : Value}, Inv (cxOf CX P w K mg base N qual scope f cdv A outer s H E) [] σ' H' s' → RelV v u → Q v H' → CE outer P w H s Q u s' :=
    fun {σ' H' v u} J rv q => ⟨v, H', J.os, J.bare, J.base, J.hok, rv, q⟩
  cases fl with
  | ret u =>
    obtain ⟨v, σ', H', J, rv, q⟩ := hs
    exact fin J rv q
  | next =>
    obtain ⟨σ', H', J, q⟩ := hs
    exact fin (v := V.non) (u := Value.none) J rfl q
  | brk =>
    obtain ⟨_, _, _, q⟩ := hs
    exact False.elim q
  | cont =>
    obtain ⟨_, _, _, q⟩ := hs
    exact False.elim q
end L2
namespace L2
open PySem PySem.Spec PyProof.Rows
section
variable {X : Cx} {x : Str} {p pos : Pos} {e : Expr} {es : List Expr} {t : TA} {id T : String} {r : List V → Hp → VK → Prop}
def tCB (r : List V → Hp → VK → Prop) (t : TA) : TE := fun σ H Q => t σ H fun vs H1 => r vs H1 Q
theorem pe_callB (hc : CallR X (.builtin id) r) (hg : Gl X x) (hm : X.mg x = none) (hv : bootBuiltins x = some (.builtin id)) (ha : PA X (e :: es) t) (hn : x ≠ "__name__" := by decide) (hdb : (x == ("__debug__" : Str)) = false := by decide)
    (he : starEach (e :: es) X.env = (false, eval e X.env) :: starEach es X.env := by rfl) (hpl : (backTo pos (starEach es X.env)).any (·.1) = false := by rfl) : PE X (.Call (.Name x p) (e :: es) [] pos) (tCB r t) := by
  intro pins s σ H Q I h
  refine wpAny_Call_Name_kw (ld_blt I hg hm hv ?_ hn hdb)
  exact PyProof.Rows.callWith_builtin1 (thn (ha pos pins s σ H _ I h) fun us s1 ⟨vs, H1, I1, r1, q1⟩ => hc pins s1 σ H1 vs us Q I1 r1 q1) he hpl
theorem pe_callTy (hc : CallR X (.type T) r) (hg : Gl X x) (hm : X.mg x = none) (hv : bootBuiltins x = some (.type T)) (ha : PA X (e :: es) t) (hn : x ≠ "__name__" := by decide) (hdb : (x == ("__debug__" : Str)) = false := by decide)
    (he : starEach (e :: es) X.env = (false, eval e X.env) :: starEach es X.env := by rfl) (hpl : (backTo pos (starEach es X.env)).any (·.1) = false := by rfl) : PE X (.Call (.Name x p) (e :: es) [] pos) (tCB r t) := by
  intro pins s σ H Q I h
  refine wpAny_Call_Name_kw (ld_blt I hg hm hv ?_ hn hdb)
  exact PyProof.Rows.callWith_type1 (thn (ha pos pins s σ H _ I h) fun us s1 ⟨vs, H1, I1, r1, q1⟩ => hc pins s1 σ H1 vs us Q I1 r1 q1) he hpl
end
end L2
namespace HT
open PySem PyProof.Rows
def lexLt : List Int → List Int → Bool
  | [], [] => false
  | [], _ :: _ => true
  | _ :: _, [] => false
  | x :: xs, y :: ys => if x = y then lexLt xs ys else decide (x < y)
section
open PySem.SeqAt
open PySem.AutoSeq1 (wpAny_loadPart')
open PySem.MeetsSeq PySem.MeetsSeq2 PySem.MeetsSeq3
end
section
variable {prog : Program} {w : World} {A : Around} {E : Value → Shared → Prop} {s : Shared}
def sIx (n d : Nat) : Option Int → Nat
  | none => d
  | some v => if v < 0 then (v + (n : Int)).toNat else min v.toNat n
end
end HT
namespace L2
open PySem PySem.Spec PyProof.Rows
abbrev TO := St → Hp → (Option Int → Hp → Prop) → Prop
def PO (X : Cx) (e : Option Expr) (t : TO) : Prop :=
  ∀ (pins : List (Addr × Obj)) (s : Shared) (σ : St) (H : Hp) (Q : Option Int → Hp → Prop), Inv X pins σ H s → t σ H Q →
    wpAny (model X.prog X.w) X.A (evalPart e X.env) (fun u s' => ∃ o H', Inv X pins σ H' s' ∧ IsPart u o ∧ Q o H') X.xe s
def tNoPart : TO := fun _ H Q => Q none H
def tPart (t : TE) : TO := fun σ H Q => t σ H fun x H1 => ∃ i, x = .int i ∧ Q (some i) H1
theorem intsAre_of {ns : List Int} : ∀ {us : List Value}, Vals (ns.map V.int) us → IntsAre us ns := by
  induction ns with
  | nil => intro us r; rw [List.map_nil] at r; cases r; exact .nil
  | cons n ns ih =>
    intro us r
    rw [List.map_cons] at r
    cases r with
    | cons r1 r2 =>
      obtain ⟨t, e⟩ := r1
      subst e
      exact .cons n t (ih r2)
section
variable {X : Cx} {e : Expr} {te : TE} {lo hi : Option Expr} {tl th : TO} {pos p2 : Pos}
def SlR (X : Cx) (r : V → Option Int → Option Int → Hp → VK → Prop) : Prop :=
  ∀ (pins : List (Addr × Obj)) (s : Shared) (σ : St) (H : Hp) (x : V) (v vl vu : Value) (lo hi : Option Int) (sl : Addr) (Q : VK), Inv X pins σ H s → RelV x v → s.heap.IsSliceOf sl vl vu .none → IsPart vl lo → IsPart vu hi → r x lo hi H Q →
    ∃ T id, typeLookup (.type T) "__getitem__" = pure (some (.builtin id)) ∧ s.TypeIs v T ∧ wpAny (model X.prog X.w) X.A (getItem v (.ref sl)) (EP X pins σ Q) X.xe s
def tSl (r : V → Option Int → Option Int → Hp → VK → Prop) (te : TE) (tl th : TO) : TE := fun σ H Q => te σ H fun x H1 => tl σ H1 fun l H2 => th σ H2 fun u H3 => r x l u H3 Q
def cutV (xs : List V) (lo hi : Option Int) : List V := (xs.drop (HT.sIx xs.length 0 lo)).take (HT.sIx xs.length xs.length hi - HT.sIx xs.length 0 lo)
def rSlT (K : PySem.W.Frag) : V → Option Int → Option Int → Hp → VK → Prop := fun x lo hi H Q => ∃ a xs, x = .ref a ∧ SqT K H a xs ∧
  ¬ (HT.sIx xs.length 0 lo = 0 ∧ HT.sIx xs.length xs.length hi = xs.length) ∧ ∀ p, H p = none → Q (.ref p) (upd H p (.tup (cutV xs lo hi)))
def rLtT (K : PySem.W.Frag) : R2 := fun x y H Q => ∃ a b ns ms, x = .ref a ∧ y = .ref b ∧ SqT K H a (ns.map V.int) ∧ SqT K H b (ms.map V.int) ∧ Q (.bl (HT.lexLt ns ms)) H
def rCatT (K : PySem.W.Frag) : R2 := fun x y H Q => ∃ a b xs ys, x = .ref a ∧ y = .ref b ∧ SqT K H a xs ∧ SqT K H b ys ∧ xs ≠ [] ∧ xs.length + ys.length ≤ sizeLine ∧
  (ys = [] → Q (.ref a) H) ∧ (ys ≠ [] → ∀ p, H p = none → Q (.ref p) (upd H p (.tup (xs ++ ys))))
end
end L2
namespace L2
open PySem PySem.Spec PyProof.Rows
def ixN (n : Nat) (i : Int) : Option Nat := if 0 ≤ i then (if i < n then some i.toNat else none) else if -(n : Int) ≤ i then some (i + n).toNat else none
def atI {α : Type} (xs : List α) (i : Int) : Option α := (ixN xs.length i).bind fun j => xs[j]?
theorem ixN_seq {n : Nat} {i : Int} {j : Nat} (h : ixN n i = some j) : seqIndex? i n = some j ∧ j < n ∧ -(n : Int) ≤ i ∧ i < n := by
  unfold ixN at h
  by_cases h0 : 0 ≤ i
  · rw [if_pos h0] at h
    by_cases h1 : i < n
    · rw [if_pos h1] at h
      have e : i.toNat = j := Option.some.inj h
      exact ⟨by rw [seqIndex_of h0 h1, e], by omega, by omega, h1⟩
    · rw [if_neg h1] at h; cases h
  · rw [if_neg h0] at h
    by_cases h1 : -(n : Int) ≤ i
    · rw [if_pos h1] at h
      have e : (i + n).toNat = j := Option.some.inj h
      exact ⟨by rw [seqIndex_neg (by omega) h1, e], by omega, h1, by omega⟩
    · rw [if_neg h1] at h; cases h
theorem atI_get {α : Type} {xs : List α} {i : Int} {v : α} (h : atI xs i = some v) : ∃ j, seqIndex? i xs.length = some j ∧ xs[j]? = some v ∧ j < xs.length ∧ -(xs.length : Int) ≤ i ∧ i < xs.length := by
  unfold atI at h
  cases e : ixN xs.length i with
  | none => rw [e] at h; cases h
  | some j =>
    rw [e] at h
    obtain ⟨h1, h2, h3, h4⟩ := ixN_seq e
    exact ⟨j, h1, h, h2, h3, h4⟩
theorem atI_nat {α : Type} {xs : List α} {j : Nat} {v : α} (h : xs[j]? = some v) : atI xs (j : Int) = some v := by
  have hj : j < xs.length := (List.getElem?_eq_some_iff.mp h).1
  have e : ixN xs.length (j : Int) = some j := by
    unfold ixN
    rw [if_pos (by omega), if_pos (by omega)]; simp
  unfold atI; rw [e]; exact h
def PlainIx (b : Expr) : Prop := ∀ o i, subscripted b false o i = operate [o, i] (getItem o i)
def IxR (X : Cx) (r : R2) : Prop :=
  ∀ (value slice : Expr) (pins : List (Addr × Obj)) (s : Shared) (σ : St) (H : Hp) (x y : V) (v u : Value) (Q : VK), Inv X pins σ H s → RelV x v → RelV y u → r x y H Q →
    subscripted slice false v u = operate [v, u] (getItem v u) → wpAny (model X.prog X.w) X.A (subscriptTail value slice v u) (EP X pins σ Q) X.xe s
def MtR (X : Cx) (id : String) (r : V → List V → Hp → VK → Prop) : Prop :=
  ∀ (pins : List (Addr × Obj)) (s : Shared) (σ : St) (H : Hp) (x : V) (xs : List V) (v : Value) (us : List Value) (Q : VK), Inv X pins σ H s → RelV x v → Vals xs us → r x xs H Q →
    wpAny (model X.prog X.w) X.A (call (.builtin id) (v :: us)) (EP X pins σ Q) X.xe s
section
variable {X : Cx} {a b : Expr} {ta tb : TE} {pos : Pos}
theorem pe_ix {r : R2} (hr : IxR X r) (ha : PE X a ta) (hb : PE X b tb) (hs : PlainIx b) : PE X (.Subscript a b pos) (tOp r ta tb) := by
  intro pins s σ H Q I h
  exact Subscript_ (binT ha hb I h fun v u s2 x y H2 I2 rx ry q => hr a b pins s2 σ H2 x y v u Q I2 rx ry q (hs _ _))
def rIxL (K : PySem.W.Frag) : R2 := fun x y H Q => ∃ p xs i v, x = .ref p ∧ y = .int i ∧ SqL K H p xs ∧ atI xs i = some v ∧ Q v H
def rIxT (K : PySem.W.Frag) : R2 := fun x y H Q => ∃ p xs i v, x = .ref p ∧ y = .int i ∧ SqT K H p xs ∧ atI xs i = some v ∧ Q v H
def rIxS : R2 := fun x y H Q => ∃ z i c, x = .str z ∧ y = .int i ∧ z.length ≤ sizeLine ∧ atI z.cps.toList i = some c ∧ Q (.str ⟨#[c]⟩) H
theorem ix_list : IxR X (rIxL X.K) := by
  intro value slice pins s σ H x y v u Q I rx ry h hs
  obtain ⟨p, xs, i, z, rfl, rfl, hq, he, q⟩ := h
  cases rx
  obtain ⟨t, rfl⟩ := ry
  obtain ⟨its, r, pl, hz⟩ := I.list hq
  obtain ⟨j, h1, h2, h3, h4, h5⟩ := atI_get he
  obtain ⟨w, ew, rw'⟩ := r.get h2
  have hl := r.length
  have hn := line63
  have fin : EP X pins σ Q w s := ⟨z, H, I, rw', q⟩
  by_cases h0 : 0 ≤ i
  · have hj : i.toNat = j := by
      rw [seqIndex_of h0 h5] at h1
      exact Option.some.inj h1
    exact item_listR pl.isList h0 (by omega) (by rw [hj]; simpa using ew) fin hs
  · have hj : (i + (its.toArray.size : Int)).toNat = j := by
      rw [seqIndex_neg (by omega) h4] at h1
      rw [List.size_toArray, ← hl]
      exact Option.some.inj h1
    exact subscriptTail_builtinR (x := w) pl.isList.typeIs slot_list_getitem.lookup
      (wpAny_getItem_list_neg (Q := fun r s' => r = w ∧ EP X pins σ Q r s') pl.isList (by omega) (by rw [List.size_toArray] <;> omega) (by omega) (by rw [hj]; simpa using ew) ⟨rfl, fin⟩) hs
theorem ix_tup : IxR X (rIxT X.K) := by
  intro value slice pins s σ H x y v u Q I rx ry h hs
  obtain ⟨p, xs, i, z, rfl, rfl, hq, he, q⟩ := h
  cases rx
  obtain ⟨t, rfl⟩ := ry
  obtain ⟨its, r, pl, hz⟩ := I.tuple hq
  obtain ⟨j, h1, h2, h3, h4, h5⟩ := atI_get he
  obtain ⟨w, ew, rw'⟩ := r.get h2
  have hl := r.length
  have hn := line63
  have fin : EP X pins σ Q w s := ⟨z, H, I, rw', q⟩
  exact subscriptTail_builtinR (x := w) pl.typeIs slot_tuple_getitem.lookup
    (getItem_tuple (j := j) (Q := fun r s' => r = w ∧ EP X pins σ Q r s') pl (by omega) (by omega) (by rw [List.size_toArray, ← hl]; exact h1) (by simpa using ew) ⟨rfl, fin⟩) hs
def rIx (K : PySem.W.Frag) : R2 := fun x y H Q => rIxL K x y H Q ∨ rIxT K x y H Q ∨ rIxS x y H Q
def rSetL : V → V → V → Hp → (Hp → Prop) → Prop := fun o i v H Q => ∃ p xs k j, o = .ref p ∧ i = .int k ∧ H p = some (.lst xs) ∧ ixN xs.length k = some j ∧ Q (upd H p (.lst (xs.set j v)))
def rSlL (K : PySem.W.Frag) : V → Option Int → Option Int → Hp → VK → Prop := fun x lo hi H Q => ∃ a xs, x = .ref a ∧ SqL K H a xs ∧ ∀ p, H p = none → Q (.ref p) (upd H p (.lst (cutV xs lo hi)))
def flatV : V → Bool
  | .non => true
  | .bl _ => true
  | .int _ => true
  | .str _ => true
  | _ => false
def eqV : V → V → Bool
  | .non, .non => true
  | .bl a, .bl b => a == b
  | .bl a, .int b => (if a then 1 else 0) == b
  | .int a, .bl b => a == (if b then 1 else 0)
  | .int a, .int b => a == b
  | .str a, .str b => a == b
  | _, _ => false
theorem eqAt_V {A : Around} {s : Shared} {y x : V} {u v : Value} (ry : RelV y u) (rx : RelV x v) (fy : flatV y = true) (fx : flatV x = true) : SeqAt.EqAt A s u v (eqV y x) := by
  cases y with
  | non =>
    cases ry
    cases x with
    | non => cases rx; exact SeqAt.EqAt.same _
    | bl b => cases rx; exact SeqAt.EqAt.none_bool b
    | int b => obtain ⟨t, rfl⟩ := rx; exact SeqAt.EqAt.none_int b t
    | str b => obtain ⟨t, rfl⟩ := rx; exact SeqAt.EqAt.none_str b t
    | _ => exact absurd (show false = true from fx) Bool.false_ne_true
  | bl a =>
    cases ry
    cases x with
    | non => cases rx; exact SeqAt.EqAt.bool_none a
    | bl b => cases rx; exact SeqAt.EqAt.bool_bool a b
    | int b => obtain ⟨t, rfl⟩ := rx; exact SeqAt.EqAt.bool_int a b t
    | str b => obtain ⟨t, rfl⟩ := rx; exact SeqAt.EqAt.bool_str a b t
    | _ => exact absurd (show false = true from fx) Bool.false_ne_true
  | int a =>
    obtain ⟨t', rfl⟩ := ry
    cases x with
    | non => cases rx; exact SeqAt.EqAt.int_none a t'
    | bl b => cases rx; exact SeqAt.EqAt.int_bool a t' b
    | int b => obtain ⟨t, rfl⟩ := rx; exact SeqAt.EqAt.int_int a t' b t
    | str b => obtain ⟨t, rfl⟩ := rx; exact SeqAt.EqAt.int_str a t' b t
    | _ => exact absurd (show false = true from fx) Bool.false_ne_true
  | str a =>
    obtain ⟨t', rfl⟩ := ry
    cases x with
    | non => cases rx; exact SeqAt.EqAt.str_none a t'
    | bl b => cases rx; exact SeqAt.EqAt.str_bool a t' b
    | int b => obtain ⟨t, rfl⟩ := rx; exact SeqAt.EqAt.str_int a t' b t
    | str b => obtain ⟨t, rfl⟩ := rx; exact SeqAt.EqAt.str_str a t' b t
    | _ => exact absurd (show false = true from fx) Bool.false_ne_true
  | _ => exact absurd (show false = true from fy) Bool.false_ne_true
def eqU (x : V) (u : Value) : Bool := match u with
  | .none => eqV .non x
  | .bool b => eqV (.bl b) x
  | .int i _ => eqV (.int i) x
  | .str z _ => eqV (.str z) x
  | _ => false
def inV (x : V) (xs : List V) : Bool := xs.any fun y => eqV y x
def rIn (K : PySem.W.Frag) (neg : Bool) : R2 := fun x y H Q => ∃ p xs, y = .ref p ∧ (SqL K H p xs ∨ SqT K H p xs) ∧ flatV x = true ∧ xs.all flatV = true ∧ Q (.bl (if neg then !inV x xs else inV x xs)) H
theorem call_len_seq : CallR X (.builtin "len") (fun xs H Q => ∃ p ys, xs = [.ref p] ∧ (SqL X.K H p ys ∨ SqT X.K H p ys) ∧ Q (.int ys.length) H) := by
  intro pins s σ H xs us Q I r h
  obtain ⟨p, ys, rfl, hq, q⟩ := h
  obtain ⟨u, rfl, rx⟩ := vals1 r
  cases rx
  have hn := line63
  rcases hq with hq | hq
  · obtain ⟨its, r', pl, hz⟩ := I.list hq
    have hlen := r'.length
    exact Calls.call_len_list pl.isList (by simp only [List.size_toArray] <;> omega) ⟨.int ys.length, H, I.tok _, ⟨s.toks + 1, by rw [List.size_toArray, hlen]⟩, q⟩
  · obtain ⟨its, r', pl, hz⟩ := I.tuple hq
    have hlen := r'.length
    exact len_tuple pl (by simp only [List.size_toArray] <;> omega) ⟨.int ys.length, H, I.tok _, ⟨s.toks + 1, by rw [List.size_toArray, hlen]⟩, q⟩
theorem call_list_of : CallR X (.type "list") (fun xs H Q => ∃ p ys, xs = [.ref p] ∧ (SqL X.K H p ys ∨ SqT X.K H p ys) ∧ ∀ l, H l = none → Q (.ref l) (upd H l (.lst ys))) := by
  intro pins s σ H xs us Q I r h
  obtain ⟨p, ys, rfl, hq, q⟩ := h
  obtain ⟨u, rfl, rx⟩ := vals1 r
  cases rx
  have fin : ∀ (its : List Value), Vals ys its → ys.length ≤ sizeLine → ∀ (h' : Heap) (c' : Nat), (∀ b o', s.heap.get? b = some o' → h'.get? b = some o') →
      h'.get? s.heap.objs.size = some { cls := .type "list", dict := none, data := .seq its.toArray c', slots := #[] } → EP X pins σ Q (.ref s.heap.objs.size) { s with heap := h' } := fun its r' hz h' c' kp e =>
    ⟨.ref s.heap.objs.size, _, I.laid (t' := s.toks) kp (Nat.le_refl _) (show ObjOk X.prog X.w _ h' _ (.lst ys) from ⟨hz, its, c', r', e⟩), rfl, q _ (I.hok.fresh (Nat.le_refl _))⟩
  rcases hq with hq | hq
  · obtain ⟨its, r', pl, hz⟩ := I.list hq
    have hlen := r'.length
    obtain ⟨o, ho, hc, n, hd⟩ := pl.isList
    exact call_list_seq p (.inl rfl) ho hc hd (fun h' c' kp e => fin its r' hz h' c' kp e) (by simp only [List.size_toArray] <;> omega)
  · obtain ⟨its, r', pl, hz⟩ := I.tuple hq
    have hlen := r'.length
    obtain ⟨o, ho, hc, n, hd⟩ := pl
    exact call_list_seq p (.inr rfl) ho hc hd (fun h' c' kp e => fin its r' hz h' c' kp e) (by simp only [List.size_toArray] <;> omega)
theorem call_tuple_of : CallR X (.type "tuple") (fun xs H Q => ∃ p ys, xs = [.ref p] ∧ ((SqL X.K H p ys ∧ ∀ l, H l = none → Q (.ref l) (upd H l (.tup ys))) ∨ (SqT X.K H p ys ∧ Q (.ref p) H))) := by
  intro pins s σ H xs us Q I r h
  obtain ⟨p, ys, rfl, h⟩ := h
  obtain ⟨u, rfl, rx⟩ := vals1 r
  cases rx
  rcases h with ⟨hq, q⟩ | ⟨hq, q⟩
  · obtain ⟨its, r', pl, hz⟩ := I.list hq
    have hlen := r'.length
    refine call_tuple_list pl.isList (fun h' kp => ?_) (by simp only [List.size_toArray] <;> omega)
    have I1 : Inv X pins σ H { s with heap := h' } := I.kept (t' := s.toks) kp
    have I2 : Inv X pins σ (upd H h'.objs.size (.tup ys)) { s with heap := h'.push { cls := .type "tuple", data := .seq its.toArray } } :=
      I1.laid (t' := s.toks) (fun b o e => Heap.get?_push_of_some _ e) (Nat.le_refl _) (show ObjOk X.prog X.w _ _ _ (.tup ys) from ⟨hz, its, r', IsTup.new _ _⟩)
    exact ⟨.ref h'.objs.size, _, I2, rfl, q _ (I1.hok.fresh (Nat.le_refl _))⟩
  · obtain ⟨its, r', pl, hz⟩ := I.tuple hq
    exact call_tuple_same pl ⟨.ref p, H, I, rfl, q⟩
def tyV (K : PySem.W.Frag) (T : String) (x : V) (H : Hp) : Prop := match x with
  | .str _ => T = "str"
  | .int _ => T = "int"
  | .ref p => (T = "list" ∧ ∃ xs, SqL K H p xs) ∨ (T = "tuple" ∧ ∃ o, K.lookup p = some o ∧ o.cls = .type "tuple" ∧ o.dict = none) ∨
      (T = "dict" ∧ ((∃ kvs, H p = some (.dK kvs)) ∨ ∃ kvs, H p = some (.dT kvs))) ∨ (T = "set" ∧ ∃ S n, H p = some (.set S n))
  | _ => False
theorem tyV_is {pins : List (Addr × Obj)} {σ : St} {H : Hp} {s : Shared} {T : String} {x : V} {v : Value} (I : Inv X pins σ H s) (r : RelV x v) (ty : tyV X.K T x H) :
    s.TypeIs v T ∧ ∀ a, v = .ref a → ∃ ob, s.heap.get? a = some ob ∧ ob.dict = none := by
  cases x with
  | str z =>
    obtain ⟨t, rfl⟩ := r
    cases (show T = "str" from ty)
    exact ⟨typeIs_str s z t, fun _ e => nomatch e⟩
  | int i =>
    obtain ⟨t, rfl⟩ := r
    cases (show T = "int" from ty)
    exact ⟨typeIs_int s i t, fun _ e => nomatch e⟩
  | ref p =>
    cases r
    rcases ty with ⟨rfl, xs, hq⟩ | ⟨rfl, o, hk, hc, hd⟩ | ⟨rfl, hk⟩ | ⟨rfl, S, n, hk⟩
    · obtain ⟨its, _, pl, _⟩ := I.list hq
      refine ⟨pl.isList.typeIs, fun a e => ?_⟩
      cases e
      obtain ⟨o, n, e, c, hd, _⟩ := pl
      exact ⟨o, e, hd⟩
    · refine ⟨⟨o, I.kIn p o hk, hc⟩, fun a e => ?_⟩
      cases e
      exact ⟨o, I.kIn _ o hk, hd⟩
    · have z : ∃ o, s.heap.get? p = some o ∧ o.ExactDict := by
        rcases hk with ⟨kvs, hk⟩ | ⟨kvs, hk⟩
        · obtain ⟨_, _, _, _, o, _, _, e, ex, _⟩ := I.hok p _ hk
          exact ⟨o, e, ex⟩
        · obtain ⟨_, _, _, _, o, _, _, e, ex, _⟩ := I.hok p _ hk
          exact ⟨o, e, ex⟩
      obtain ⟨o, e, ex⟩ := z
      refine ⟨⟨o, e, ex.1⟩, fun a e2 => ?_⟩
      cases e2
      exact ⟨o, e, ex.2.1⟩
    · obtain ⟨o, _, _, _, e, ex, _⟩ := I.hok p _ hk
      refine ⟨⟨o, e, ex.1⟩, fun a e2 => ?_⟩
      cases e2
      exact ⟨o, e, ex.2.1⟩
  | _ => exact False.elim ty
def tBM0 (K : PySem.W.Frag) (T : String) (r : V → List V → Hp → VK → Prop) (to : TE) : TE := fun σ H Q => to σ H fun x H1 => tyV K T x H1 ∧ r x [] H1 Q
def tBM (K : PySem.W.Frag) (T : String) (r : V → List V → Hp → VK → Prop) (to : TE) (t : TA) : TE := fun σ H Q => to σ H fun x H1 => tyV K T x H1 ∧ t σ H1 fun xs H2 => r x xs H2 Q
variable {o e : Expr} {es : List Expr} {to : TE} {t : TA} {name : Str} {apos cpos : Pos} {T id : String} {r : V → List V → Hp → VK → Prop}
theorem pe_bm (pa : PlainAttrs T) (slot : Slot T name id) (hty : typeOf (.builtin id) = pure (.type "method_descriptor")) (hm : MtR X id r) (ho : PE X o to) (ha : PA X (e :: es) t)
    (hbase : attributeBase o name X.env (eval o X.env) = eval o X.env := by rfl)
    (hfew : ((backTo cpos (starEach (e :: es) X.env)).all (fun x => !x.1) && (backToKw cpos (keywordEach [] X.env)).all (fun x => x.1.isSome)
      && decide ((e :: es).length + ([] : List Keyword).length + (if ([] : List Keyword).isEmpty then 0 else 1) < 30)) = true := by rfl)
    (hline : (apos.endLine == cpos.line) = true := by rfl) (hs : starEach (e :: es) X.env = (false, eval e X.env) :: starEach es X.env := by rfl) (hplain : (backTo cpos (starEach es X.env)).any (·.1) = false := by rfl) :
    PE X (.Call (.Attribute o name apos) (e :: es) [] cpos) (tBM X.K T r to t) := by
  intro pins s σ H Q I h
  refine wpAny_Call_method_late hbase hfew hline rfl (thn (ho pins s σ H _ I h) fun v s1 ⟨x, H1, I1, r1, ty, q1⟩ => ?_)
  obtain ⟨h1, h2⟩ := tyV_is I1 r1 ty
  refine ⟨T, id, pa, slot, hty, h1, h2, ?_⟩
  have hA := ha cpos pins s1 σ H1 _ I1 q1
  rw [hs] at hA ⊢
  refine Calls.callWith_builtin (by show (false || (backTo cpos (starEach es X.env)).any (·.1)) = false; rw [hplain] <;> rfl) (Calls.evalArgs_plain ?_)
  exact thn hA fun us s2 ⟨vs, H2, I2, r2, q2⟩ => hm pins s2 σ H2 x vs v us Q I2 r1 r2 q2
end
end L2
namespace L2
open PySem PySem.Spec PyProof.Rows
def MtM (X : Cx) (id : String) (r : V → List V → Hp → VK → Prop) : Prop :=
  ∀ (pins : List (Addr × Obj)) (s : Shared) (σ : St) (H : Hp) (x : V) (xs : List V) (v : Value) (us : List Value) (Q : VK), Inv X pins σ H s → RelV x v → Vals xs us → r x xs H Q →
    wpAny (model X.prog X.w) X.A (call (.builtin id) (v :: us)) (EP X pins σ Q) X.xe s
theorem Vals.one : ∀ {x : V} {us : List Value}, Vals [x] us → ∃ u, us = [u] ∧ RelV x u
  | _, _, .cons r .nil => ⟨_, rfl, r⟩
theorem Vals.two : ∀ {x y : V} {us : List Value}, Vals [x, y] us → ∃ u v, us = [u, v] ∧ RelV x u ∧ RelV y v
  | _, _, _, .cons r (.cons q .nil) => ⟨_, _, rfl, r, q⟩
section
variable {X : Cx} {pins : List (Addr × Obj)} {σ : St} {H : Hp} {s : Shared} {l b : Addr} {xs ys zs : List V}
theorem Inv.lset {its its' : List Value} {n : Nat} {f : Array Value → Array Value} {t' : Nat} (I : Inv X pins σ H s) (hH : H l = some (.lst xs))
    (e : s.heap.get? l = some { cls := .type "list", data := .seq its.toArray n }) (hf : f its.toArray = its'.toArray) (hv : Vals ys its') (hz : ys.length ≤ sizeLine) :
    Inv X pins σ (upd H l (.lst ys)) { s with heap := s.heap.update l (Obj.mapSeq f), toks := t' } := by
  have q := PySem.IsL.update e f
  rw [hf] at q
  refine I.write (x := l) (e := l) (by rw [hH]; exact trivial) (.inl rfl) (fun b' u hb hu => (Heap.get?_update_other s.heap (Obj.mapSeq f) (Ne.symm hb)).trans hu) ⟨_, q⟩ ?_
  exact ⟨hz, its', _, hv, q⟩
theorem Inv.lnew {its : List Value} {t' : Nat} (I : Inv X pins σ H s) (hv : Vals ys its) (hz : ys.length ≤ sizeLine) :
    Inv X pins σ (upd H s.heap.objs.size (.lst ys)) { s with heap := s.heap.push { cls := .type "list", data := .seq its.toArray }, toks := t' } :=
  I.laid (fun _ _ q => Heap.get?_push_of_some _ q) (Nat.le_refl _) ⟨hz, its, 0, hv, Heap.get?_push_size _ rfl⟩
theorem Inv.fresh (I : Inv X pins σ H s) : H s.heap.objs.size = none := I.hok.fresh (Nat.le_refl _)
theorem Inv.lstM (I : Inv X pins σ H s) (hH : H l = some (.lst xs)) : xs.length ≤ sizeLine ∧ ∃ (its : List Value) (n : Nat), Vals xs its ∧ xs.length = its.length ∧ s.heap.get? l = some { cls := .type "list", data := .seq its.toArray n } := by
  obtain ⟨z, its, n, r, e⟩ := I.hok l _ hH
  exact ⟨z, its, n, r, r.length, e⟩
end
section
variable {X : Cx}
def rAppend : V → List V → Hp → VK → Prop := fun x vs H Q => ∃ l xs y, x = .ref l ∧ vs = [y] ∧ H l = some (.lst xs) ∧ xs.length < sizeLine ∧ Q .non (upd H l (.lst (xs ++ [y])))
theorem mt_append : MtM X "list.append" rAppend := by
  intro pins s σ H x vs v us Q I rx rv h
  obtain ⟨l, xs, y, rfl, rfl, hH, hz, q⟩ := h
  cases rx
  obtain ⟨u, rfl, ru⟩ := rv.one
  obtain ⟨z, its, n, r, hl, e⟩ := I.lstM hH
  refine call_meets F.slot_list_append ⟨_, e, rfl⟩ F.entry_list_append (F.args_list_append_2 _ _) (PySem.list_append l its.toArray n u (by rw [List.size_toArray]; omega)) ⟨e, ?_⟩
  refine ⟨.non, _, I.lset (its' := its ++ [u]) hH e (by simp) (r.append (.cons ru .nil)) ?_, rfl, q⟩
  rw [List.length_append, List.length_singleton]
  omega
def rExtend : V → List V → Hp → VK → Prop := fun x vs H Q => ∃ l b xs zs, x = .ref l ∧ vs = [.ref b] ∧ H l = some (.lst xs) ∧ H b = some (.lst zs) ∧ xs.length + zs.length ≤ sizeLine ∧ Q .non (upd H l (.lst (xs ++ zs)))
def rPop : V → List V → Hp → VK → Prop := fun x vs H Q => ∃ l xs y, x = .ref l ∧ vs = [] ∧ H l = some (.lst xs) ∧ xs[xs.length - 1]? = some y ∧ Q y (upd H l (.lst xs.dropLast))
def rPopAt : V → List V → Hp → VK → Prop := fun x vs H Q => ∃ l xs i k y, x = .ref l ∧ vs = [.int i] ∧ H l = some (.lst xs) ∧ -(2 ^ 63) ≤ i ∧ i < 2 ^ 63 ∧ seqIndex? i xs.length = some k ∧ xs[k]? = some y ∧ Q y (upd H l (.lst (xs.eraseIdx k)))
def rReverse : V → List V → Hp → VK → Prop := fun x vs H Q => ∃ l xs, x = .ref l ∧ vs = [] ∧ H l = some (.lst xs) ∧ Q .non (upd H l (.lst xs.reverse))
def rClear : V → List V → Hp → VK → Prop := fun x vs H Q => ∃ l xs, x = .ref l ∧ vs = [] ∧ H l = some (.lst xs) ∧ Q .non (upd H l (.lst []))
def rCat : R2 := fun x y H Q => ∃ l b xs zs, x = .ref l ∧ y = .ref b ∧ H l = some (.lst xs) ∧ H b = some (.lst zs) ∧ xs.length + zs.length ≤ sizeLine ∧ ∀ p, H p = none → Q (.ref p) (upd H p (.lst (xs ++ zs)))
theorem op_cat : OpR X (binaryOp .Add) rCat := by
  intro pins s σ H x y v u Q I rx ry h
  obtain ⟨l, b, xs, zs, rfl, rfl, hH, hB, hz, q⟩ := h
  cases rx
  cases ry
  obtain ⟨z, its, n, r, hl, e⟩ := I.lstM hH
  obtain ⟨z2, its2, n2, r2, hl2, e2⟩ := I.lstM hB
  refine PySem.P.add_list e e2 ?_ (by rw [List.size_toArray, List.size_toArray]; omega)
  have ea : its.toArray ++ its2.toArray = (its ++ its2).toArray := by simp
  rw [ea]
  exact ⟨.ref _, _, I.lnew (t' := s.toks) (r.append r2) (by rw [List.length_append]; omega), rfl, q _ I.fresh⟩
def rRep : R2 := fun x y H Q => ∃ l k xs, x = .ref l ∧ y = .int k ∧ H l = some (.lst xs) ∧ -(2 ^ 63) ≤ k ∧ k < 2 ^ 63 ∧ xs.length * k.toNat ≤ sizeLine ∧
  ∀ p, H p = none → Q (.ref p) (upd H p (.lst (List.replicate k.toNat xs).flatten))
end
section
variable {prog : Program} {w : World} {A : Around} {E : Value → Shared → Prop} {s : Shared}
set_option maxRecDepth 100000 in
end
section
variable {X : Cx}
end
end L2
namespace Att
open PySem PySem.W PySem.Calls PyProof.Rows
theorem ints_of_wellAll {P : Params} {h : Heap} : ∀ (ns : List Int) (vs : List Value), WellAll P h vs (ns.map WData.int) → IntsAre vs ns := by
  intro ns
  induction ns with
  | nil =>
    intro vs w
    rw [List.map_nil] at w
    cases w
    exact .nil
  | cons n ns ih =>
    intro vs w
    rw [List.map_cons] at w
    cases w with
    | cons a b =>
      cases a
      exact .cons _ _ (ih _ b)
theorem script_of {l : OpenLaw} {n : Nat} (hn : l.most = some n) {P : Params} {h : Heap} {args : List WData} {vals : List Value}
    (hpre : l.row.toRowW.claim.pre args = true) (hwl : WellAll P h vals args) :
    ∃ a vs ns, vals = [Value.ref a] ∧ args = [WData.list (ns.map WData.int)] ∧ h.get? a = some { cls := .type "list", data := .seq vs.toArray } ∧ IntsAre vs ns ∧ ns.length ≤ n := by
  have hsh : WShape.hasAll [] args [.list .int] = true := (pre_splitW hpre).1
  have hc : l.pre.holds [] { args := args } = true := (pre_splitW hpre).2
  obtain ⟨d, r, rfl, h1, h2⟩ := hasAllW_cons hsh
  obtain rfl := hasAllW_nil h2
  obtain ⟨xs, rfl, h3⟩ := hasW_list h1
  obtain ⟨ns, rfl⟩ := items_int h3
  have hlen : ns.length ≤ n := by
    unfold OpenLaw.pre at hc
    have h4 : (WTm.not (.lt (.lit (.int (n : Int))) (.len (.arg 0)))).holds [] { args := [.list (ns.map .int)] } = true := by
      have h4 := (holds_andW hc).1
      rw [hn] at h4
      exact h4
    have h5 := condW_of h4 (w_not (w_lt w_lit (w_len_list (w_arg rfl))))
    rw [List.length_map] at h5
    refine Nat.le_of_not_lt fun q => ?_
    have q' : (n : Int) < ((ns.length : Nat) : Int) := by omega
    first
      | (rw [decide_eq_true q'] at h5; exact absurd h5 (by decide))
      | (simp at h5; omega)
  cases hwl with
  | cons w1 w2 =>
    cases w2
    cases w1 with
    | list ho hall => exact ⟨_, _, ns, rfl, rfl, ho, ints_of_wellAll ns _ hall, hlen⟩
theorem post_true (l : OpenLaw) (args : List WData) : l.row.toRowW.claim.post args (.bool true) args = true :=
  postW_of (r := l.row.toRowW) (X := (true == true))
    (show WShape.has [] (.bool true) .bool = true by first | rfl | decide | simp [WShape.has, WShape.arms, WShape.armsAll])
    (show (WTm.eq .res (.lit (.bool true))).value [] { args := args, res := some (.bool true), after := args } = some (.bool (true == true)) from w_eq_bool (w_res rfl) w_lit) rfl
theorem attach_call {l : OpenLaw} {n : Nat} {q : Program} {loose : List Str} {XP : (Str → Option Value) → Heap → Prop} {YP : World → Heap → Prop} {d : DefRec}
    (hn : l.most = some n) (hdf : d.params.defaults = [])
    (call : ∀ (w : World) (s₀ s₁ : Shared) (mg mb : Str → Option Value) (fa : Addr) (o : Obj) (pm cd doc : Value) (a : Addr) (vs : List Value) (ns : List Int),
      Ground q loose [] XP w s₀ mg mb s₁.heap → YP w s₁.heap →
      s₁.heap.get? fa = some o → o.data = .func (docDef d.name d.params d.body d.scope pm cd doc) → s₁.heap.CodeRec cd d.name → mg d.name = some (.ref fa) →
      s₁.heap.get? a = some { cls := .type "list", data := .seq vs.toArray } → IntsAre vs ns → ns.length ≤ n → s₁.gens = #[] →
      codeAny (model l.prog w) callerA (.call (.ref fa) ⟨[.ref a], []⟩) (fun r s' => r = .ok (.ret (.bool true)) ∧ OldK s₁.heap s'.heap ∧ s'.os = s₁.os ∧ AllBare s'.gens) s₁) :
    WalkO q loose XP YP l.row.toRowW d [] (fun f vs => PySem.call f vs) := by
  intro w s₀ s₁ mg mb G Y fa o pm cd doc dV kV ho hd hcd hD hmg hg args vals as hpre hlay hrd hwl hlo
  obtain rfl : dV = .none := Dflts.none hD hdf
  obtain rfl : kV = .none := Dflts.noKw hD
  obtain ⟨a, vs, ns, rfl, rfl, hobj, hints, hlen⟩ := script_of hn hpre hwl
  refine enter_call (codeAny_mono (call w s₀ s₁ mg mb fa o pm cd doc a vs ns G Y ho (fd_plain hd) hcd hmg hobj hints hlen hg) fun r s' hq => ?_)
  obtain ⟨rfl, h2, h3, h4⟩ := hq
  exact ⟨.inl ⟨.bool true, .bool true, [], rfl, fun _ => rfl, .bool true, post_true l _, fun _ => ⟨List.Pairwise.nil, fun _ hm => (nomatch hm)⟩⟩, h2, h3, h4⟩
section
variable {prog : Program} {w : World} {A : Around} {E : Value → Shared → Prop} {s : Shared} {K : Frag}
def noObjs (h : Heap) : Heap := { h with objs := #[] }
def ledger (h : Heap) (L d : Addr) : List (Addr × Obj) := (List.range h.objs.size).filterMap fun a => if a = L ∨ a = d then none else (h.get? a).map fun o => (a, o)
end
end Att
namespace L2
open PySem PySem.Spec PyProof.Rows
theorem vals_ints : ∀ {vs : List Value} {ns : List Int}, IntsAre vs ns → Vals (ns.map V.int) vs
  | _, _, .nil => .nil
  | _, _, .cons n t h => .cons ⟨t, rfl⟩ (vals_ints h)
def Only (H : Hp) : Prop := ∀ b, H b = none ∨ ∃ o xs, H b = some (.frz o (.lst xs))
theorem law_call {P : Program} {w : World} {K : PySem.W.Frag} {mg mb : Str → Option Value} {CX : CXT} {k : Nat} {fa a : Addr} {fd : FuncData} {x : Str} {sp : Sp} {s₁ : Shared} {vs : List Value} {ns : List Int}
    (KX : K.In s₁.heap) (hns : s₁.heap.Ns mainGlobals mg) (hb : s₁.heap.Ns builtinsNs mb) (hbb : ∀ x : Str, x ≠ "__name__" → mb x = bootBuiltins x) (hlim : s₁.heap.NoLimit) (hg : s₁.gens = #[])
    (ha : s₁.heap.get? a = some { cls := .type "list", data := .seq vs.toArray }) (hi : IntsAre vs ns) (hl : ns.length ≤ sizeLine) (hr : Room k callerA)
    (F : ∀ base : Heap, K.In base → base.Ns mainGlobals mg → FnOk P w K mg base CX k fa fd [x] sp) (hbind : ∀ (s : Shared) (u : Value), BindsTo s fd ⟨[u], []⟩ [(x, u)])
    (hsp : ∀ H : Hp, Only H → SqL K H a (ns.map V.int) → sp [.ref a] H (fun v _ => v = .bl true) fun _ _ _ => False)
    (hCX : ∀ H e s', CX [] H s₁ (fun _ _ _ => False) e s' → False) :
    codeAny (model P w) callerA (.call (.ref fa) ⟨[.ref a], []⟩) (fun r s' => r = .ok (.ret (.bool true)) ∧ OldK s₁.heap s'.heap ∧ s'.os = s₁.os ∧ AllBare s'.gens) s₁ := by
  have rv := vals_ints hi
  have lenV := hi.length
  have core : ∀ H : Hp, Only H → SqL K H a (ns.map V.int) → HOk P w H s₁.heap → (∀ b, H b ≠ none → b = a) → (H a ≠ none → K.lookup a = none) →
      codeAny (model P w) callerA (.call (.ref fa) ⟨[.ref a], []⟩) (fun r s' => r = .ok (.ret (.bool true)) ∧ OldK s₁.heap s'.heap ∧ s'.os = s₁.os ∧ AllBare s'.gens) s₁ := by
    intro H hO hS hok hA hK
    have base_of : ∀ {b : Addr} {o : Obj}, s₁.heap.get? b = some o → H b = none → (hidT s₁.heap H).get? b = some o := fun e n => hidT_get e n
    have noA : ∀ {b : Addr} {o : Obj} {es : Array DictEntry} {ep : Nat}, s₁.heap.get? b = some o → o.data = .dict es ep → H b = none := fun {b o es ep} e d => by
      cases q : H b with
      | none => rfl
      | some u =>
        have e' : b = a := hA b (by rw [q]; simp)
        subst e'
        rw [ha] at e; cases e
        have d' : Data.seq vs.toArray _ = Data.dict es ep := d
        cases d'
    have nsK : ∀ {b : Addr} {m : Str → Option Value}, s₁.heap.Ns b m → (hidT s₁.heap H).Ns b m := fun {b m} ⟨o, es, ep, e, d, r⟩ => ⟨o, es, ep, base_of e (noA e d), d, r⟩
    have hKb : K.In (hidT s₁.heap H) := fun b o e => base_of (KX b o e) (by
      cases q : H b with
      | none => rfl
      | some u =>
        have e' : b = a := hA b (by rw [q]; simp)
        subst e'
        rw [hK (by rw [q]; simp)] at e; cases e)
    have hM : Mod K mg (hidT s₁.heap H) := ⟨hKb, nsK hns, ⟨mb, nsK hb, hbb⟩, let ⟨mc, h1, h2⟩ := hlim; ⟨mc, nsK h1, h2⟩⟩
    have e0 : Env0 P w K mg (hidT s₁.heap H) callerA [] s₁ H := ⟨rfl, hM, fun b o e => of_hidT e, Nat.le_of_eq (hidT_size _ _), trivial, fun b hb => absurd (show b ∈ ([] : List Addr) from hb) (by simp), hok, .of_eq hg⟩
    refine codeAny_mono ((F _ hKb (nsK hns)).run callerA [] s₁ H ⟨[.ref a], []⟩ [.ref a] [.ref a] _ _ hr e0 (hbind s₁ (.ref a)) (.cons rfl .nil) (hsp H hO hS)) fun r s' h => ?_
    cases r with
    | error e => exact (hCX H e s' h).elim
    | ok fl =>
      cases fl with
      | next => exact False.elim h
      | brk => exact False.elim h
      | cont => exact False.elim h
      | ret u =>
        obtain ⟨v, H', os, bare, un, hok', r', q⟩ := h
        have q' : v = .bl true := q
        subst q'
        obtain rfl : u = Value.bool true := r'
        refine ⟨rfl, OldK.of_keep fun b o e => ?_, os, bare⟩
        cases q : H b with
        | none => exact un.keep b o e q (by intro z; exact absurd (show b ∈ ([] : List Addr) from z) (by simp)) (by simp)
        | some u =>
          rcases hO b with z | ⟨ob, xs, z⟩
          · rw [q] at z; cases z
          · have z2 := un.frzs b ob _ z
            obtain ⟨e1, _⟩ := hok b _ z
            obtain ⟨e2, _⟩ := hok' b _ z2
            rw [e] at e1; cases e1
            exact e2
  cases hk : K.lookup a with
  | some o =>
    have e := KX a o hk
    rw [ha] at e
    cases e
    refine core (fun _ => none) (fun _ => .inl rfl) (.inr ⟨_, vs.toArray, _, hk, rfl, rfl, rfl, by rw [List.size_toArray, lenV]; exact hl, by simpa using rv⟩) (fun b u z => by have z' : (none : Option HO) = some u := z; cases z') (fun b z => absurd rfl z) fun z => absurd rfl z
  | none =>
    refine core (fun b => if b = a then some (.frz { cls := .type "list", data := .seq vs.toArray } (.lst (ns.map V.int))) else none) (fun b => ?_) (.inl (.inr ⟨{ cls := .type "list", data := .seq vs.toArray }, if_pos rfl⟩)) (fun b u z => ?_) (fun b z => ?_) fun _ => hk
    · by_cases hb : b = a
      · exact .inr ⟨_, _, if_pos hb⟩
      · exact .inl (if_neg hb)
    · by_cases hb : b = a
      · have z' := (if_pos hb).symm.trans z
        cases z'
        subst hb
        exact ⟨ha, by rw [List.length_map]; exact hl, vs, _, rv, ha⟩
      · have z' := (if_neg hb).symm.trans z
        cases z'
    · by_cases hb : b = a
      · exact hb
      · exact absurd (if_neg hb) z
end L2
namespace L2
open PySem PySem.Spec PyProof.Rows
abbrev KOf {K : PySem.W.Frag} {h : Heap} (_ : K.In h) : PySem.W.Frag := K
theorem walk_of {l : PySem.W.OpenLaw} {n k : Nat} {q : Program} {loose : List Str} {XP : (Str → Option Value) → Heap → Prop} {YP : World → Heap → Prop} {d : DefRec} {K : Params → PySem.W.Frag} {CX : World → CXT} {sp : World → Sp} {x : Str}
    (hn : l.most = some n) (hn2 : n ≤ sizeLine) (hdf : d.params.defaults = []) (hr : Room k callerA)
    (hY : ∀ (w : World) (h : Heap), YP w h → (K w.params).In h)
    (F : ∀ (w : World) (mg : Str → Option Value) (fa : Addr) (h : Heap), (K w.params).In h → h.Ns mainGlobals mg → mg d.name = some (.ref fa) →
      ∃ fd : FuncData, (∀ (s : Shared) (u : Value), BindsTo s fd ⟨[u], []⟩ [(x, u)]) ∧
        ∀ base : Heap, (K w.params).In base → base.Ns mainGlobals mg → FnOk l.prog w (K w.params) mg base (CX w) k fa fd [x] (sp w))
    (hsp : ∀ (w : World) (H : Hp) (a : Addr) (ns : List Int), ns.length ≤ n → Only H → SqL (K w.params) H a (ns.map V.int) → sp w [.ref a] H (fun v _ => v = .bl true) fun _ _ _ => False)
    (hCX : ∀ (w : World) (H : Hp) (s : Shared) (e : Value) (s' : Shared), CX w [] H s (fun _ _ _ => False) e s' → False) :
    PySem.W.WalkO q loose XP YP l.row.toRowW d [] (fun f vs => PySem.call f vs) := by
  refine Att.attach_call hn hdf fun w s₀ s₁ mg mb fa o pm cd doc a vs ns G Y ho hd hcd hmg hobj hints hlen hg => ?_
  have KX := hY w _ Y
  obtain ⟨fd, hb, hF⟩ := F w mg fa _ KX G.T.g hmg
  exact law_call KX G.T.g G.T.b G.T.builtins G.T.nolimit hg hobj hints (Nat.le_trans hlen hn2) hr hF hb (fun H hO hS => hsp w H a ns hlen hO hS) fun H e s' => hCX w H s₁ e s'
end L2
namespace L2
open PySem PySem.Spec PyProof.Rows
def inClass (s : Stmt) (j : Nat) : Stmt := match s with
  | .ClassDef _ _ _ body _ _ _ _ _ _ _ => body.getD j (.Pass ⟨0, 0, 0, 0⟩)
  | _ => .Pass ⟨0, 0, 0, 0⟩
def defArgs (s : Stmt) : Arguments := match s with
  | .FunctionDef _ a _ _ _ _ _ _ _ _ => a
  | _ => { posonlyargs := [], args := [], vararg := none, kwonlyargs := [], kw_defaults := [], kwarg := none, defaults := [] }
def defBody (s : Stmt) : List Stmt := match s with
  | .FunctionDef _ _ b _ _ _ _ _ _ _ => b
  | _ => []
def defScope (s : Stmt) : Scope := match s with
  | .FunctionDef _ _ _ _ _ _ sc _ _ _ => sc
  | _ => { kind := .function, names := [], isGenerator := false, isCoroutine := false }
abbrev CX0 : CXT := fun _ _ _ _ _ _ => False
abbrev E0 : XK := fun _ _ _ => False
theorem pass0 {X : Cx} : Passes CX0 X E0 := fun _ _ _ _ _ _ _ h => h.elim
structure Fun (K : PySem.W.Frag) (x qual : Str) (st : Stmt) (f : Addr) (fd : FuncData) : Prop where
  ex : ∃ (oc : Value) (od : Option Addr) (kV doc pm : Value) (an : Option Addr) (cdv ct : Value) (osl : Array (Option Value)),
    fd = PySem.W.fnOf x qual (defArgs st) (defBody st) (defScope st) .none kV doc pm an cdv ct ∧ K.lookup f = some ⟨oc, od, .func fd, osl⟩ ∧ PySem.W.codeIn K cdv qual = true
  kp : PySem.W.keepIn K (.ref f) = true
section
variable {P : Program} {w : World} {K : PySem.W.Frag} {mg : Str → Option Value} {base : Heap}
theorem Fun.ok {x qual : Str} {st : Stmt} {f : Addr} {fd : FuncData} {N ps : List Str} {k : Nat} {sp : Sp} (F : Fun K x qual st f fd) (S : FnScope N ps (defScope st)) (len : ∀ vs H Q E, sp vs H Q E → vs.length = ps.length)
    (hbody : ∀ (cdv : Value) (A : Around) (outer : List Env) (s : Shared) (H : Hp) (vs : List V) (Q : VK) (E : XK), Room k (A.deeper (envOfC qual (defScope st) s.heap.objs.size f cdv)) → sp vs H Q E →
      ∃ t, PSs (cxOf CX0 P w K mg base N qual (defScope st) f cdv A outer s H E).nox (defBody st) t ∧ t { nx := fun _ H' => Q .non H', rt := Q } (start N vs) H) : FnOk P w K mg base CX0 (k + 1) f fd ps sp := by
  obtain ⟨oc, od, kV, doc, pm, an, cdv, ct, osl, rfl, lk, hcd⟩ := F.ex
  refine fn_of lk hcd S len fun A outer s H vs Q E hr hsp => ?_
  obtain ⟨t, h, q⟩ := hbody cdv A outer s H vs Q E hr hsp
  exact ⟨t, h.nox, q⟩
theorem Fun.binds {x qual : Str} {st : Stmt} {f : Addr} {fd : FuncData} {ps : List Str} (F : Fun K x qual st f fd)
    (h : ∀ (kV doc pm : Value) (an : Option Addr) (cdv ct : Value) (us : List Value), us.length = ps.length → bindArgs (PySem.W.fnOf x qual (defArgs st) (defBody st) (defScope st) .none kV doc pm an cdv ct) ⟨us, []⟩ = pure (ps.zip us)) : Binds K fd ps [] := by
  obtain ⟨oc, od, kV, doc, pm, an, cdv, ct, osl, rfl, lk, hcd⟩ := F.ex
  exact .all (h kV doc pm an cdv ct)
theorem fun_mk {x qual : Str} {st : Stmt} {f : Addr} {oc : Value} {od an : Option Addr} {osl : Array (Option Value)} {kV doc pm cdv ct : Value} (l : K.lookup f = some ⟨oc, od, .func (PySem.W.fnOf x qual (defArgs st) (defBody st) (defScope st) .none kV doc pm an cdv ct), osl⟩)
    (c : PySem.W.codeIn K cdv qual = true) (k : PySem.W.keepIn K (.ref f) = true) : Fun K x qual st f (PySem.W.fnOf x qual (defArgs st) (defBody st) (defScope st) .none kV doc pm an cdv ct) := ⟨⟨oc, od, kV, doc, pm, an, cdv, ct, osl, rfl, l, c⟩, k⟩
end
theorem small1000 {n : Nat} (h : n ≤ 1000) : n < sizeLine := Nat.lt_of_le_of_lt h (by decide)
section
variable {X : Cx}
theorem pv (i : Nat) {x : Str} {pos : Pos} (hN : X.N[i]? = some x := by rfl) (hv : Vis X.env.scope x := by first | exact Or.inl rfl | exact Or.inr (Or.inl rfl) | exact Or.inr (Or.inr rfl)) (hd : (x == ("__debug__" : Str)) = false := by decide)
    (hcd : (x == ("__classdict__" : Str)) = false := by decide) : PE X (.Name x pos) (tVar i) := pe_var hN hv hd hcd
end
theorem iteF {A B : Prop} (h : B) : if false = true then A else B := by
  rw [if_neg Bool.false_ne_true]
  exact h
theorem iteT {A B : Prop} (h : A) : if true = true then A else B := by
  rw [if_pos rfl]
  exact h
theorem ite2 {c A B : Prop} [Decidable c] (h1 : c → A) (h2 : ¬ c → B) : if c then A else B := by
  by_cases h : c
  · rw [if_pos h]
    exact h1 h
  · rw [if_neg h]
    exact h2 h
theorem iteNS {c A B : Prop} [Decidable c] (hc : c) (h : B) : if (!decide c) = true then A else B := by
  rw [decide_eq_true hc]
  exact iteF h
def Same (H H' : Hp) : Prop := ∀ b o, H b = some o → H' b = some o
theorem Same.refl (H : Hp) : Same H H := fun _ _ h => h
theorem Same.trans {H H1 H2 : Hp} (a : Same H H1) (b : Same H1 H2) : Same H H2 := fun c o h => b c o (a c o h)
theorem Same.free {H H' : Hp} (e : Same H H') {l : Addr} (h : H' l = Option.none) : H l = Option.none := by
  cases q : H l with
  | none => rfl
  | some o =>
    rw [e l o q] at h
    cases h
theorem Same.seq {K : PySem.W.Frag} {H H' : Hp} {a : Addr} {xs : List V} (e : Same H H') (h : SqL K H a xs) : SqL K H' a xs := by
  rcases h with (h | ⟨o, h⟩) | h
  · exact .inl (.inl (e _ _ h))
  · exact .inl (.inr ⟨o, e _ _ h⟩)
  · exact .inr h
end L2
set_option maxHeartbeats 4000000
namespace L2
open PySem PySem.Spec PyProof.Rows
theorem PSs.imp {X : Cx} {e : List Stmt} {t t' : TS} (h : PSs X e t) (f : ∀ D σ H, t' D σ H → t D σ H) : PSs X e t' := fun pins s σ H D I q => h pins s σ H D I (f D σ H q)
theorem forIn_yield_fold {α β : Type} {f : α → β → Sem (ForInStep β)} {g : α → β → β} : ∀ {l : List α} (c : β), (∀ x ∈ l, ∀ c, f x c = pure (.yield (g x c))) →
    forIn l c f = pure (l.foldl (fun c x => g x c) c)
  | [], c, _ => rfl
  | x :: l, c, h => by
    rw [List.forIn_cons, h x List.mem_cons_self, pure_bind]
    exact forIn_yield_fold (g x c) fun y hy => h y (List.mem_cons_of_mem _ hy)
def clIn (env : Env) (x : Str × NameKind) (cs : List (Str × Addr)) : List (Str × Addr) :=
  if x.2 = .free then (x.1, (env.cells.lookup x.1).getD 0) :: cs else cs
def clOf (scope : Scope) (env : Env) : List (Str × Addr) := scope.names.foldl (fun c x => clIn env x c) []
theorem closureFor_free {scope : Scope} {env : Env} (h : ∀ x ∈ scope.names, x.2 = .free → ∃ c, env.cells.lookup x.1 = some c) : closureFor scope env = pure (clOf scope env) := by
  simp only [closureFor]
  rw [forIn_yield_fold (g := clIn env) [] (fun x hx c => by
    obtain ⟨n, k⟩ := x
    by_cases hk : k = .free
    · obtain ⟨a, e⟩ := h _ hx hk
      have e' : env.cells.lookup n = some a := e
      have hb : (k == NameKind.free) = true := by simpa using hk
      simp only [if_true, cellOf, e', clIn, hk, Option.getD_some]
      rfl
    · have hb : (k == NameKind.free) = false := by simpa using hk
      simp only [hb, Bool.false_eq_true, if_false, clIn, hk])]
  rfl
theorem clFold_lookup (env : Env) {x : Str} {c : Addr} : ∀ (names : List (Str × NameKind)) (cs : List (Str × Addr)), (names.foldl (fun c x => clIn env x c) cs).lookup x = some c →
    (∃ k, (x, k) ∈ names ∧ k = .free ∧ c = (env.cells.lookup x).getD 0) ∨ cs.lookup x = some c
  | [], cs, h => .inr h
  | (n, k) :: r, cs, h => by
    rcases clFold_lookup env r _ h with ⟨k', hm, hk, e⟩ | h
    · exact .inl ⟨k', List.mem_cons_of_mem _ hm, hk, e⟩
    · unfold clIn at h
      dsimp only at h
      by_cases hk : k = .free
      · rw [if_pos hk] at h
        rw [List.lookup_cons] at h
        by_cases hx : (x == n) = true
        · rw [hx] at h
          have hx' : x = n := by simpa using hx
          subst hx'
          exact .inl ⟨k, List.mem_cons_self, hk, (Option.some.inj h).symm⟩
        · have hx2 : (x == n) = false := by simpa using hx
          rw [hx2] at h
          exact .inr h
      · rw [if_neg hk] at h
        exact .inr h
theorem clFold_some (env : Env) {x : Str} : ∀ (names : List (Str × NameKind)) (cs : List (Str × Addr)), ((∃ k, (x, k) ∈ names ∧ k = .free) ∨ ∃ c, cs.lookup x = some c) → ∃ c, (names.foldl (fun c x => clIn env x c) cs).lookup x = some c
  | [], cs, h => by
    rcases h with ⟨k, hm, _⟩ | h
    · cases hm
    · exact h
  | (n, k) :: r, cs, h => by
    refine clFold_some env r _ ?_
    rcases h with ⟨k', hm, hk⟩ | ⟨c, h⟩
    · rcases List.mem_cons.mp hm with e | hm
      · cases e
        refine .inr ⟨(env.cells.lookup x).getD 0, ?_⟩
        unfold clIn
        dsimp only
        rw [if_pos hk, List.lookup_cons]
        simp
      · exact .inl ⟨k', hm, hk⟩
    · refine .inr ?_
      unfold clIn
      dsimp only
      by_cases hk : k = .free
      · rw [if_pos hk, List.lookup_cons]
        by_cases hx : (x == n) = true
        · exact ⟨_, by rw [hx]⟩
        · have hx2 : (x == n) = false := by simpa using hx
          exact ⟨c, by rw [hx2]; exact h⟩
      · rw [if_neg hk]
        exact ⟨c, h⟩
theorem lookup_relabel {env : Env} : ∀ {names : List (Str × NameKind)} {x : Str} {k : NameKind},
    (names.map fun (n, k) => if (k == NameKind.free && env.scope.kind == .function && env.kindOf n == some .cell) then (n, NameKind.cell) else (n, k)).lookup x = some k →
    names.lookup x = some k ∨ (k = .cell ∧ names.lookup x = some .free)
  | [], _, _, h => by simp at h
  | (n, k) :: r, x, k', h => by
    have ih := @lookup_relabel env r x k'
    have h' : List.lookup x ((if (k == NameKind.free && env.scope.kind == .function && env.kindOf n == some .cell) = true then (n, NameKind.cell) else (n, k)) :: (r.map fun (n, k) => if (k == NameKind.free && env.scope.kind == .function && env.kindOf n == some .cell) then (n, NameKind.cell) else (n, k))) = some k' := h
    by_cases hc : (k == NameKind.free && env.scope.kind == .function && env.kindOf n == some .cell) = true
    · rw [if_pos hc] at h'
      simp only [List.lookup_cons] at h' ⊢
      cases hx : x == n with
      | true =>
        rw [hx] at h'
        simp only [Bool.and_eq_true, beq_iff_eq] at hc
        exact .inr ⟨(Option.some.inj h').symm, by rw [hc.1.1]⟩
      | false => rw [hx] at h'; exact ih h'
    · rw [if_neg hc] at h'
      simp only [List.lookup_cons] at h' ⊢
      cases hx : x == n with
      | true => rw [hx] at h'; exact .inl h'
      | false => rw [hx] at h'; exact ih h'
structure CompScope (sc scope : Scope) (N : List Str) (x : Str) (js : List Nat) (fr : List Str) : Prop where
  kind : scope.kind = .function
  noc : ∀ y ∈ scope.names, y.2 ≠ .cell
  loc : ∀ y ∈ scope.names, y.2 = .local → scope.names.lookup y.1 = some .local
  var : scope.names.lookup x = some .local
  fre : ∀ y ∈ scope.names, y.2 = .free → sc.names.lookup y.1 = some .cell ∨ sc.names.lookup y.1 = some .free
  imp : js.map (fun j => N[j]?) = fr.map some
  frf : ∀ y ∈ fr, scope.names.lookup y = some .free
  nd : (x :: fr).Nodup
abbrev cxComp (X : Cx) (scope : Scope) (N : List Str) (pins : List (Addr × Obj)) (fp : List Addr) (s : Shared) (H : Hp) : Cx where
  prog := X.prog
  w := X.w
  K := X.K
  mg := X.mg
  base := X.base
  A := X.A
  N := N
  s₀ := s
  H₀ := H
  env := compEnvC scope (clOf scope X.env) s.heap.objs.size X.env
  outer := X.stack
  stack := X.stack
  ex := fp
  fn := fun _ => false
  calm := X.calm
  pn := X.pn ++ pins
  xe := fun _ _ => False
def impS (σ : St) (js : List Nat) : St := js.map fun j => (σ[j]?).getD none
def PTs (X : Cx) (ifs : List Expr) (t : TT) : Prop :=
  ∀ (pins : List (Addr × Obj)) (s : Shared) (σ : St) (H : Hp) (Q : Bool → Hp → Prop), Inv X pins σ H s → t σ H Q →
    wpAny (model X.prog X.w) X.A (forIn ifs true fun c r => if r = true then do let ok ← isTrue c X.env (eval c X.env); pure (ForInStep.yield ok) else pure (ForInStep.yield r)) (TP X pins σ Q) X.xe s
def tTrue : TT := fun _ H Q => Q true H
theorem tTrue_mk {σ : St} {H : Hp} {Q : Bool → Hp → Prop} (h : Q true H) : tTrue σ H Q := h
theorem pts_nil {X : Cx} : PTs X [] tTrue := fun _ _ _ H _ I h => wpAny_tests_nil ⟨H, I, h⟩
theorem pts_one {X : Cx} {c : Expr} {t : TT} (h : PT X c t) : PTs X [c] t := fun pins s σ H Q I q => wpAny_tests_one (h pins s σ H Q I q)
def CompT (J : It) (js : List Nat) (tc : TT) (te : TE) (σ : St) (acc : Addr) (H1 : Hp) (Q : VK) : Prop := ∃ (B : Nat) (W : Nat → List V → Hp → Prop), W 0 [] (upd H1 acc (.lst [])) ∧ ∀ i ys H, W i ys H →
  (J.stop i H ∧ Q (.ref acc) H) ∨ (i < B ∧ J.go i H ∧ ∀ x H', J.yld i H x H' → tc (some x :: impS σ js) H' fun b H2 =>
    if b = true then te (some x :: impS σ js) H2 fun y H3 => H3 acc = some (.lst ys) ∧ ys.length < sizeLine ∧ W (i + 1) (ys ++ [y]) (upd H3 acc (.lst (ys ++ [y])))
    else W (i + 1) ys H2)
def tComp (wi : TI) (js : List Nat) (tc : TT) (te : TE) : TE := fun σ H Q => wi σ H fun J H1 => ∀ acc, H1 acc = none → CompT J js tc te σ acc H1 Q
theorem comp_loop {prog : Program} {w : World} {A : Around} {R : Result → Shared → Prop} {s : Shared} {elt target iter : Expr} {ifs : List Expr} {scope : Scope} {pos : Pos} {it acc : Value} {env : Env} (I : Nat → Shared → Prop)
    (turn : ∀ n s, I n s → wpAny (model prog w) A (pyNext it) (fun r s₁ => match r with
      | none => R (.ok .next) s₁
      | some v => wpAny (model prog w) A (letOwnedTupleGo target it v) (fun _ s₁ => wpAny (model prog w) A (assign target env v) (fun _ s₂ =>
          wpAny (model prog w) A (forIn ifs true fun c r => if r = true then do let ok ← isTrue c env (eval c env); pure (ForInStep.yield ok) else pure (ForInStep.yield r)) (fun ok s₃ =>
            if ok = true then wpAny (model prog w) A (eval elt env) (fun x s₄ =>
              wpAny (model prog w) A (call (.builtin "list.append") [acc, x]) (fun _ s₅ => ∃ m, m < n ∧ I m s₅) (fun _ _ => False) s₄) (fun _ _ => False) s₃
            else ∃ m, m < n ∧ I m s₃) (fun _ _ => False) s₂) (fun _ _ => False) s₁) (fun _ _ => False) s₁) (fun _ _ => False) s)
    (n : Nat) (h : I n s) :
    codeAny (model prog w) A (.compLoop (.ListComp elt [⟨target, iter, ifs, 0⟩] scope pos) 0 it acc env) R s := by
  refine codeAny_loop rfl I (fun n s hI => ?_) n h
  show wpAny _ A ((compTurn (.ListComp elt [⟨target, iter, ifs, 0⟩] scope pos) 0 it acc env).onRaise (fun x => do noteFrame x env; theTreesLotGoes x)) _ _ s
  refine wpAny_noted ?_
  rw [compTurn_list]
  refine wpAny_bind (wpAny_standAt (wpAny_bind (wpAny_mono (turn n s hI) (fun r s₁ h₁ => ?_) fun _ _ h' => h'.elim)))
  cases r with
  | none => exact wpAny_pure h₁
  | some v =>
    refine wpAny_bind (wpAny_mono h₁ (fun _ s₂ h₂ => ?_) fun _ _ h' => h'.elim)
    refine wpAny_bind (wpAny_mono h₂ (fun _ s₂ h₂ => wpAny_bind (wpAny_mono h₂ (fun ok s₃ h₃ => ?_) fun _ _ h' => h'.elim)) fun _ _ h' => h'.elim)
    cases ok with
    | false => exact wpAny_pure ⟨rfl, h₃⟩
    | true =>
      exact wpAny_bind (wpAny_bind (wpAny_mono h₃ (fun x s₄ h₄ => wpAny_bind (wpAny_mono h₄ (fun _ s₅ h₅ => wpAny_pure (wpAny_pure ⟨rfl, h₅⟩)) fun _ _ h' => h'.elim)) fun _ _ h' => h'.elim))
section
variable {X : Cx} {elt iter : Expr} {x : Str} {px pos : Pos} {ifs : List Expr} {scope : Scope} {js : List Nat} {fr : List Str} {wi : TI} {tc : TT} {te : TE}
theorem cl_sub {env : Env} (S : ∀ y ∈ scope.names, y.2 = .free → ∃ c, env.cells.lookup y.1 = some c) {y : Str} {c : Addr} (h : (clOf scope env).lookup y = some c) : env.cells.lookup y = some c := by
  rcases clFold_lookup env scope.names [] h with ⟨k, hm, hk, e⟩ | h
  · obtain ⟨c', e'⟩ := S _ hm hk
    have e2 : env.cells.lookup y = some c' := e'
    rw [e2] at e ⊢
    rw [e]
    rfl
  · cases h
theorem cells_of (S : CompScope X.env.scope scope X.N x js fr) (ok : X.Ok) : ∀ y ∈ scope.names, y.2 = .free → ∃ c, X.env.cells.lookup y.1 = some c := fun y hy hk => ok.has y.1 (S.fre y hy hk)
theorem mem_of_lookup' {names : List (Str × NameKind)} {y : Str} {k : NameKind} (h : names.lookup y = some k) : (y, k) ∈ names := PySem.mem_of_lookup h
theorem comp_ok {pins : List (Addr × Obj)} {σ : St} {H : Hp} {s : Shared} {fp : List Addr} (S : CompScope X.env.scope scope X.N x js fr) (I : Inv X pins σ H s) (f : ∀ b ∈ fp, FpOk X pins H b) (hlt : ∀ b ∈ fp, b < s.heap.objs.size) :
    (cxComp X scope (x :: fr) pins fp s H).Ok where
  mod := I.ok.mod
  kind := S.kind
  glob := I.ok.glob
  blt := I.ok.blt
  above := Nat.le_refl _
  inj := fun y z c h1 h2 => I.ok.inj y z c (cl_sub (cells_of S I.ok) h1) (cl_sub (cells_of S I.ok) h2)
  has := fun y hy => by
    have hy' : (relabel scope X.env).names.lookup y = some .cell ∨ (relabel scope X.env).names.lookup y = some .free := hy
    have fr' : scope.names.lookup y = some .free := by
      rcases hy' with h | h
      · rcases lookup_relabel h with h | ⟨_, h⟩
        · exact absurd rfl (S.noc _ (mem_of_lookup' h))
        · exact h
      · rcases lookup_relabel h with h | ⟨h, _⟩
        · exact h
        · cases h
    exact clFold_some X.env scope.names [] (.inl ⟨.free, mem_of_lookup' fr', rfl⟩)
  cab := fun y c h => by cases h
  hd := I.ok.hd
  frames := I.ok.frames
  stk := .inl rfl
  exf := fun b hb => ⟨Nat.ne_of_lt (hlt b hb), fun y c h => (f b hb).2.2.2.2.1 y c (cl_sub (cells_of S I.ok) h)⟩
  bs := I.bs
  bsz := Nat.le_trans I.ok.bsz I.sz
  noex := fun b o e hb => by
    rcases (f b hb).2.2.2.1 with z | z
    · exact I.ok.noex b o e z
    · exact absurd (Nat.lt_of_lt_of_le (Heap.lt_size e) (Nat.le_trans I.ok.bsz z)) (Nat.lt_irrefl _)
  exfs := fun b hb z => by
    rcases List.mem_cons.mp (I.stkSub b z) with e | e
    · exact (f b hb).2.1 e
    · exact (f b hb).2.2.1 e
  funs := I.stack
  frf := I.stkFree
theorem comp_start {pins : List (Addr × Obj)} {σ : St} {H : Hp} {s : Shared} {fp : List Addr} {h1 : Heap} {m1 : Str → Option Value} {tk : Nat} (S : CompScope X.env.scope scope X.N x js fr) (I : Inv X pins σ H s) (f : ∀ b ∈ fp, FpOk X pins H b) (hlt : ∀ b ∈ fp, b < s.heap.objs.size)
    (hn : h1.Ns s.heap.objs.size m1) (old : ∀ b o, s.heap.get? b = some o → h1.get? b = some o) : Inv (cxComp X scope (x :: fr) pins fp s H) [] (none :: impS σ js) H { s with heap := h1, toks := tk } := by
  refine ⟨comp_ok S I f hlt, rfl, I.bare, Un.kept old, ⟨m1, hn, fun i y v e1 e2 e3 => ?_⟩, fun y c h => ?_, I.fresh, fun y c h => I.freeC y c (cl_sub (cells_of S I.ok) h), fun p hp => ?_, I.hok.kept old, ?_⟩
  ·
    cases i with
    | zero => cases e2
    | succ i =>
      have e1' : fr[i]? = some y := by simpa using e1
      have e2' : (impS σ js)[i]? = some (some v) := by simpa using e2
      have hj : (js.map fun j => X.N[j]?)[i]? = some (some y) := by rw [S.imp, List.getElem?_map, e1']; rfl
      rw [List.getElem?_map] at hj
      cases ej : js[i]? with
      | none => rw [ej] at hj; cases hj
      | some j =>
        rw [ej] at hj
        have hjN : X.N[j]? = some y := Option.some.inj hj
        unfold impS at e2'
        rw [List.getElem?_map, ej] at e2'
        have hv : (σ[j]?).getD none = some v := Option.some.inj e2'
        have hσ : σ[j]? = some (some v) := by
          cases q : σ[j]? with
          | none => rw [q] at hv; cases hv
          | some o => rw [q] at hv; exact congrArg some hv
        have hfr : scope.names.lookup y = some .free := S.frf y (List.mem_of_getElem? e1')
        have hk := S.fre _ (mem_of_lookup' hfr) rfl
        have hvis : Vis X.env.scope y := hk.elim (fun z => .inr (.inl z)) fun z => .inr (.inr z)
        obtain ⟨m, _, hl⟩ := I.loc
        obtain ⟨u, ru, lk⟩ := hl j y v hjN hσ hvis
        refine ⟨u, ru, .inr ⟨?_, ?_⟩⟩
        · have e3' : (relabel scope X.env).names.lookup y = some .local ∨ (relabel scope X.env).names.lookup y = some .cell ∨ (relabel scope X.env).names.lookup y = some .free := e3
          rcases e3' with z | z | z
          · rcases lookup_relabel z with q | ⟨q, _⟩
            · rw [hfr] at q; cases q
            · cases q
          · exact .inl z
          · exact .inr z
        · rcases lk with ⟨z, _⟩ | ⟨_, c, ec, ic⟩
          · rcases hk with hk | hk
            · have z' : X.env.scope.names.lookup y = some .local := z
              rw [hk] at z'; cases z'
            · have z' : X.env.scope.names.lookup y = some .local := z
              rw [hk] at z'; cases z'
          · obtain ⟨c', ec'⟩ := clFold_some X.env scope.names [] (x := y) (.inl ⟨.free, mem_of_lookup' hfr, rfl⟩)
            have ec2 := cl_sub (cells_of S I.ok) ec'
            rw [ec] at ec2
            cases ec2
            obtain ⟨o, ho, hd⟩ := ic
            exact ⟨c, ec', o, old _ _ ho, hd⟩
  · obtain ⟨v, o, ho, hd⟩ := I.cell y c (cl_sub (cells_of S I.ok) h)
    exact ⟨v, o, old _ _ ho, hd⟩
  · have hp' : p ∈ X.pn ++ pins := by simpa using hp
    obtain ⟨e, n, ne, nf, d⟩ := I.pin p hp'
    refine ⟨old _ _ e, n, Nat.ne_of_lt (Heap.lt_size e), fun z => ?_, d⟩
    rcases List.mem_cons.mp (I.stkSub p.1 z) with q | q
    · exact ne q
    · exact nf q
  · show (none :: impS σ js).length = (x :: fr).length
    have := congrArg List.length S.imp
    rw [List.length_map, List.length_map] at this
    unfold impS
    rw [List.length_cons, List.length_cons, List.length_map, this]
theorem comp_core {pins : List (Addr × Obj)} {σ : St} {H : Hp} {s : Shared} {Q : VK} {RR : Value → Addr → Result → Shared → Prop}
    (hc : X.calm = true) (S : CompScope X.env.scope scope X.N x js fr) (hi : PI X (.Name x px) iter wi)
    (ht : ∀ pins fp s H, PTs (cxComp X scope (x :: fr) pins fp s H) ifs tc) (he : ∀ pins fp s H, PE (cxComp X scope (x :: fr) pins fp s H) elt te)
    (I : Inv X pins σ H s) (h : tComp wi js tc te σ H Q)
    (hRR : ∀ (acc C : Addr) (H' : Hp) (s' : Shared) (m : Str → Option Value), s'.heap.Ns C m → Inv X pins σ H' s' → H' C = none → C ≠ X.env.locals → X.s₀.heap.objs.size ≤ C → (∀ y c, X.env.cells.lookup y = some c → c ≠ C) →
      (∀ p ∈ X.pn ++ pins, p.1 ≠ C) → Q (.ref acc) H' → RR (.ref acc) C (.ok .next) s') :
    wpAny (model X.prog X.w) X.A (eval iter X.env) (fun xv s₁ => wpAny (model X.prog X.w) X.A (pyIter xv) (fun it s₂ => wpAny (model X.prog X.w) X.A (newList []) (fun acc s₃ =>
      wpAny (model X.prog X.w) X.A (newFunctionEnv scope X.env.globals (clOf scope X.env) [] X.env.qual none .none (some X.env)) (fun cenv s₄ =>
        codeAny (model X.prog X.w) X.A (.compStart (.ListComp elt [⟨.Name x px, iter, ifs, 0⟩] scope pos) 0 it acc { cenv with scope := relabel scope X.env }) (RR acc cenv.locals) s₄) X.xe s₃) X.xe s₂) X.xe s₁) X.xe s := by
  refine thn (hi pins s σ H _ I h) fun xv s1 h1 => thn h1 fun itv s2 h2 => ?_
  obtain ⟨it, fp, tn, J, H2, e, I2, T, st2, f2, hW⟩ := h2
  subst e
  have hacc : H2 s2.heap.objs.size = none := I2.fresh
  obtain ⟨B, W, w0, turn⟩ := hW s2.heap.objs.size hacc
  have I3 : Inv X pins σ (upd H2 s2.heap.objs.size (.lst [])) { s2 with heap := s2.heap.push { cls := .type "list", data := .seq ([] : List Value).toArray } } := I2.lnew (t' := s2.toks) .nil (Nat.zero_le _)
  have flt2 : ∀ b ∈ fp, b < s2.heap.objs.size := fun b hb => by
    obtain ⟨o, e, _⟩ := T.obj _ _ st2 b hb
    exact Heap.lt_size e
  refine wpAny_newObj_type (wpAny_newFunctionEnv S.noc (by intro y hy; simp at hy) (fun h₁ hns₁ hsb₁ => ?_) S.kind)
  dsimp only at hns₁ hsb₁ ⊢
  have keep3 : ∀ b o, s2.heap.get? b = some o → (s2.heap.push { cls := .type "list", dict := none, data := .seq ([] : List Value).toArray }).get? b = some o := fun b o e => Heap.get?_push_of_some _ e
  generalize hs3 : s2.heap.push { cls := .type "list", dict := none, data := .seq ([] : List Value).toArray } = h3 at hns₁ hsb₁ I3 keep3 ⊢
  have sz3 : h3.objs.size = s2.heap.objs.size + 1 := by rw [← hs3, Heap.size_push]
  generalize hH3 : upd H2 s2.heap.objs.size (.lst []) = H3 at w0 I3
  have f3 : ∀ b ∈ fp, FpOk X pins H3 b := fun b hb => ⟨by rw [← hH3, upd_ne (Nat.ne_of_lt (flt2 b hb))]; exact (f2 b hb).1, (f2 b hb).2⟩
  have flt3 : ∀ b ∈ fp, b < h3.objs.size := fun b hb => by rw [sz3]; exact Nat.lt_succ_of_lt (flt2 b hb)
  have old : ∀ b o, h3.get? b = some o → h₁.get? b = some o := fun b o e => (hsb₁.2 b (Nat.ne_of_lt (Heap.lt_size e))).trans (Heap.get?_push_of_some _ e)
  have I4 : Inv (cxComp X scope (x :: fr) pins fp { s2 with heap := h3 } H3) [] (none :: impS σ js) H3 { s2 with heap := h₁, toks := s2.toks + ([] : List (Str × Value)).length } :=
    comp_start (s := { s2 with heap := h3 }) S I3 f3 flt3 hns₁ old
  have st4 : tn 0 h₁ := T.keep _ _ _ st2 fun b hb o e => old b o (keep3 b o e)
  have X' := cxComp X scope (x :: fr) pins fp { s2 with heap := h3 } H3
  have stat : ∀ {H' : Hp}, (∀ b ∈ fp, H' b = none) → ∀ b ∈ fp, FpOk (cxComp X scope (x :: fr) pins fp { s2 with heap := h3 } H3) [] H' b := fun {H'} hn b hb =>
    ⟨hn b hb, Nat.ne_of_lt (flt3 b hb), I4.ok.exfs b hb, .inl hb, (I4.ok.exf b hb).2, fun p hp => (f3 b hb).2.2.2.2.2 p (by simpa using hp)⟩
  have back : ∀ {σ' : St} {H' : Hp} {s' : Shared}, Inv (cxComp X scope (x :: fr) pins fp { s2 with heap := h3 } H3) [] σ' H' s' → Inv X pins σ H' s' := fun {σ' H' s'} J' =>
    I3.call' J'.os J'.base J'.hok J'.bare fun b hb => ⟨(f3 b hb).2.2.2.1, (f3 b hb).2.1, (f3 b hb).2.2.2.2.1, (f3 b hb).2.2.2.2.2⟩
  have fin : ∀ {σ' : St} {H' : Hp} {s' : Shared}, Inv (cxComp X scope (x :: fr) pins fp { s2 with heap := h3 } H3) [] σ' H' s' → Q (.ref s2.heap.objs.size) H' → RR (.ref s2.heap.objs.size) h3.objs.size (.ok .next) s' := fun {σ' H' s'} J' q => by
    obtain ⟨m, hm, _⟩ := J'.loc
    refine hRR _ _ H' s' m hm (back J') J'.free (Nat.ne_of_gt I3.lt) I3.sz (fun y c e z => ?_) (fun p hp z => ?_) q
    · obtain ⟨v, o, ho, _⟩ := I3.cell y c e
      rw [z] at ho
      exact absurd (Heap.lt_size ho) (Nat.lt_irrefl _)
    · have ho := (I3.pin p hp).1
      rw [z] at ho
      exact absurd (Heap.lt_size ho) (Nat.lt_irrefl _)
  have loop : ∀ s₃ : Shared, s₃ = { s2 with heap := h₁, toks := s2.toks + ([] : List (Str × Value)).length } →
      codeAny (model X.prog X.w) X.A (.compLoop (.ListComp elt [⟨.Name x px, iter, ifs, 0⟩] scope pos) 0 (.ref it) (.ref s2.heap.objs.size) (compEnvC scope (clOf scope X.env) h3.objs.size X.env)) (RR (.ref s2.heap.objs.size) h3.objs.size) s₃ := by
    rintro s₃ rfl
    refine comp_loop (fun n s' => ∃ i ys v0 H', Inv (cxComp X scope (x :: fr) pins fp { s2 with heap := h3 } H3) [] (v0 :: impS σ js) H' s' ∧ tn i s'.heap ∧ (∀ b ∈ fp, H' b = none) ∧ W i ys H' ∧ n = B - i) ?_ B ⟨0, [], none, H3, I4, st4, fun b hb => (f3 b hb).1, w0, rfl⟩
    rintro n s5 ⟨i, ys, v0, H5, I5, st5, fr5, w5, rfl⟩
    rcases turn i ys H5 w5 with ⟨stop, q⟩ | ⟨hB, go, step⟩
    · refine thn (T.done (cxComp X scope (x :: fr) pins fp { s2 with heap := h3 } H3) rfl rfl rfl hc i [] s5 _ H5 (fun _ _ => False) I5 (stat fr5) st5 stop) fun r s6 ⟨hr, I6⟩ => ?_
      subst hr
      exact fin I6 q
    · refine thn (T.item (cxComp X scope (x :: fr) pins fp { s2 with heap := h3 } H3) rfl rfl rfl hc i [] s5 _ H5 (fun _ _ => False) I5 (stat fr5) st5 go) fun r s6 ⟨u, hr, h6⟩ => ?_
      subst hr
      refine thn h6 fun _ s7 ⟨z, H7, I7, r7, y7, st7, fr7⟩ => ?_
      have I7' := I7.pinned (stat fr7) (T.obj _ _ st7)
      have again : ∀ {σ8 : St} {H8 : Hp} {s8 : Shared}, Inv (cxComp X scope (x :: fr) pins fp { s2 with heap := h3 } H3) ([] ++ pinsAt fp s7.heap) σ8 H8 s8 → tn (i + 1) s8.heap ∧ ∀ b ∈ fp, H8 b = none := fun {σ8 H8 s8} I8 => by
        refine ⟨T.keep _ _ _ st7 fun b hb o e => (I8.pin (b, o) (List.mem_append_right _ (List.mem_append_right _ (mem_pinsAt hb e)))).1, fun b hb => ?_⟩
        obtain ⟨o, e, d⟩ := T.obj _ _ st7 b hb
        exact (I8.pin (b, o) (List.mem_append_right _ (List.mem_append_right _ (mem_pinsAt hb e)))).2.1
      have hg : PG (cxComp X scope (x :: fr) pins fp { s2 with heap := h3 } H3) (.Name x px) (gName 0) := pg_name (i := 0) S.nd rfl (.inl (lookup_relabel_local S.var)) (.inr (lookup_relabel_local S.var))
      refine thn (hg _ s7 _ H7 z u _ I7' r7 (show gName 0 z _ H7 (fun σ' H' => σ' = some z :: impS σ js ∧ H' = H7) from ⟨rfl, rfl⟩)) fun _ s8 ⟨σ8, H8, I8, e8, eH8⟩ => ?_
      subst e8 eH8
      refine thn (ht _ _ _ _ _ s8 _ _ _ I8 (step z _ y7)) fun ok s9 ⟨H9, I9, q9⟩ => ?_
      cases ok with
      | false =>
        rw [if_neg Bool.false_ne_true] at q9 ⊢
        exact ⟨B - (i + 1), by omega, i + 1, ys, some z, H9, I9.unpinned, (again I9).1, (again I9).2, q9, rfl⟩
      | true =>
        rw [if_pos rfl] at q9 ⊢
        refine thn (he _ _ _ _ _ s9 _ _ _ I9 q9) fun v s10 ⟨y, H10, I10, r10, ha, hz, w10⟩ => ?_
        refine thn (mt_append _ s10 _ H10 (.ref s2.heap.objs.size) [y] (.ref s2.heap.objs.size) [v] (fun _ H' => H' = upd H10 s2.heap.objs.size (.lst (ys ++ [y]))) I10 rfl (.cons r10 .nil) ⟨_, ys, y, rfl, rfl, ha, hz, rfl⟩) fun _ s11 ⟨_, H11, I11, _, e11⟩ => ?_
        subst e11
        exact ⟨B - (i + 1), by omega, i + 1, ys ++ [y], some z, _, I11.unpinned, (again I11).1, (again I11).2, w10, rfl⟩
  exact codeAny_compStart_list (loop _ rfl) (T.self _ 0 _ _ _ st4 (loop _ rfl))
theorem pe_comp (hc : X.calm = true) (S : CompScope X.env.scope scope X.N x js fr) (hi : PI X (.Name x px) iter wi)
    (ht : ∀ pins fp s H, PTs (cxComp X scope (x :: fr) pins fp s H) ifs tc) (he : ∀ pins fp s H, PE (cxComp X scope (x :: fr) pins fp s H) elt te)
    (hs : ∀ v, foldedSetIterable iter X.env v = pure v := by intro _; rfl) : PE X (.ListComp elt [⟨.Name x px, iter, ifs, 0⟩] scope pos) (tComp wi js tc te) := by
  intro pins s σ H Q I h
  rw [eval_ListComp]
  refine wpAny_comprehension_free (use := none) rfl hs (closureFor_free (cells_of S I.ok)) S.kind S.loc (comp_core (RR := fun acc C => compPost (model X.prog X.w) X.A X.xe none (EP X pins σ Q) acc C) hc S hi ht he I h ?_)
  intro acc C H' s' m hn I' hC h1 h2 h3 h4 q
  exact ⟨m, hn, fun h' hs' => ⟨.ref acc, H', I'.turned (t' := s'.toks) (fun b o hb e => (hs'.2 b hb).trans e) hC (Ne.symm (Ne.symm h1)) (.inr h2) h3 h4, rfl, q⟩⟩
theorem ps_setComp {i : Nat} {y : Str} {py spos : Pos} (hc : X.calm = true) (hN : X.N.Nodup) (hiN : X.N[i]? = some y) (hy : Loc X.env.scope y) (S : CompScope X.env.scope scope X.N x js fr) (hi : PI X (.Name x px) iter wi)
    (ht : ∀ pins fp s H, PTs (cxComp X scope (x :: fr) pins fp s H) ifs tc) (he : ∀ pins fp s H, PE (cxComp X scope (x :: fr) pins fp s H) elt te)
    (hsw : swapsWith (.ListComp elt [⟨.Name x px, iter, ifs, 0⟩] scope pos) (some (.Name y py)) spos.line X.env = pure true := by rfl)
    (hs : ∀ v, foldedSetIterable iter X.env v = pure v := by intro _; rfl) (hf : X.fn y = true ∨ X.env.scope.names.lookup y = some .local := by first | exact .inl rfl | exact .inr rfl | assumption) :
    PS X (.Assign [.Name y py] (.ListComp elt [⟨.Name x px, iter, ifs, 0⟩] scope pos) spos) (fun D σ H => tComp wi js tc te σ H fun v H1 => D.nx (σ.set i (some v)) H1) := by
  intro pins s σ H D I h
  rw [exec_Assign_Name_used _ _ _ _ hsw]
  refine wpAny_bind (wpAny_standAt (wpAny_bind ?_))
  show wpAny _ X.A (do let _ ← comprehension (.ListComp elt [⟨.Name x px, iter, ifs, 0⟩] scope pos) scope X.env _ (newList []) false (eval iter X.env) (some (assign (.Name y py) X.env))) _ _ s
  refine wpAny_bind (wpAny_mono (wpAny_comprehension_free (use := some (assign (.Name y py) X.env)) (Q := fun _ s' => SP X pins D .next s') rfl hs (closureFor_free (cells_of S I.ok)) S.kind S.loc
    (comp_core (RR := fun acc C => compPost (model X.prog X.w) X.A X.xe (some (assign (.Name y py) X.env)) (fun _ s' => SP X pins D .next s') acc C) hc S hi ht he I h ?_)) (fun _ s' hq => wpAny_pure (wpAny_pure hq)) fun _ _ e => e)
  intro acc C H' s' m hn I' hC h1 h2 h3 h4 q
  show wpAny _ X.A (assign (.Name y py) X.env (.ref acc)) _ _ _
  refine wpAny_assign_Name (store_ok2 I' hN hiN hy (v := .ref acc) rfl (fun s'' I'' ⟨a, hsb, ha⟩ => ?_) hf)
  have hne : C ≠ a := by
    rcases ha with ha | ha
    · rw [ha]; exact h1
    · exact fun z => h3 y a ha z.symm
  obtain ⟨o, es, ep, ho, hr⟩ := hn
  refine ⟨m, ⟨o, es, ep, (hsb.2 C hne).trans ho, hr⟩, fun h' hs' => ?_⟩
  exact ⟨_, H', I''.turned (t' := s''.toks) (fun b o hb e => (hs'.2 b hb).trans e) hC h1 (.inr h2) h3 h4, q⟩
end
theorem comp_list {K : PySem.W.Frag} {a : Addr} {xs : List V} {js : List Nat} {tc : TT} {te : TE} {σ : St} {H1 : Hp} {Q : VK} {acc : Addr} (Pv : Nat → List V → Hp → Prop) (h0 : Pv 0 [] (upd H1 acc (.lst []))) (hl : ∀ i ys H, Pv i ys H → i ≤ xs.length ∧ SqL K H a xs)
    (hs : ∀ i x ys H, xs[i]? = some x → Pv i ys H → tc (some x :: impS σ js) H fun b H2 => if b = true then te (some x :: impS σ js) H2 fun y H3 => H3 acc = some (.lst ys) ∧ ys.length < sizeLine ∧ Pv (i + 1) (ys ++ [y]) (upd H3 acc (.lst (ys ++ [y]))) else Pv (i + 1) ys H2)
    (hd : ∀ ys H, Pv xs.length ys H → Q (.ref acc) H) :
    CompT (Itl K a) js tc te σ acc H1 Q := by
  refine ⟨xs.length, Pv, h0, fun i ys H p => ?_⟩
  obtain ⟨hi, q⟩ := hl i ys H p
  by_cases hlt : i < xs.length
  · refine .inr ⟨hlt, ⟨xs, xs[i], q, by simp [hlt]⟩, fun x H' y => ?_⟩
    obtain ⟨e, y⟩ := y
    subst e
    exact hs i x ys _ (y xs q) p
  · have e : i = xs.length := by omega
    subst e
    exact .inl ⟨⟨xs, q, Nat.le_refl _⟩, hd ys H p⟩
theorem comp_range {lo : Int} {n : Nat} {js : List Nat} {tc : TT} {te : TE} {σ : St} {H1 : Hp} {Q : VK} {acc : Addr} (Pv : Nat → List V → Hp → Prop) (h0 : Pv 0 [] (upd H1 acc (.lst []))) (hl : ∀ i ys H, Pv i ys H → i ≤ n)
    (hs : ∀ i ys H, i < n → Pv i ys H → tc (some (.int (lo + i)) :: impS σ js) H fun b H2 => if b = true then te (some (.int (lo + i)) :: impS σ js) H2 fun y H3 => H3 acc = some (.lst ys) ∧ ys.length < sizeLine ∧ Pv (i + 1) (ys ++ [y]) (upd H3 acc (.lst (ys ++ [y]))) else Pv (i + 1) ys H2)
    (hd : ∀ ys H, Pv n ys H → Q (.ref acc) H) :
    CompT (Itr lo n) js tc te σ acc H1 Q := by
  refine ⟨n, Pv, h0, fun i ys H p => ?_⟩
  have hi := hl i ys H p
  by_cases hlt : i < n
  · refine .inr ⟨hlt, hlt, fun x H' y => ?_⟩
    obtain ⟨e, y⟩ := y
    subst e y
    exact hs i ys _ hlt p
  · have e : i = n := by omega
    subst e
    exact .inl ⟨Nat.le_refl _, hd ys H p⟩
theorem bools_get {bs : List Bool} {its : List Value} (r : Vals (bs.map V.bl) its) {i : Nat} {v : Value} (h : its[i]? = some v) : ∃ b, bs[i]? = some b ∧ v = .bool b := by
  have hl := r.length
  rw [List.length_map] at hl
  have hi : i < bs.length := by rw [hl]; exact (List.getElem?_eq_some_iff.mp h).1
  obtain ⟨u, hu, ru⟩ := r.get (i := i) (x := V.bl bs[i]) (by simp [hi])
  rw [h] at hu
  cases hu
  exact ⟨bs[i], by simp [hi], ru⟩
section
variable {X : Cx}
theorem call_all (hc : X.calm = true) : CallR X (.builtin "all") (fun xs H Q => ∃ (p : Addr) (bs : List Bool), xs = [.ref p] ∧ SqL X.K H p (bs.map V.bl) ∧ Q (.bl (bs.all id)) H) := by
  intro pins s σ H xs us Q I r h
  obtain ⟨p, bs, rfl, hq, q⟩ := h
  obtain ⟨u, rfl, rx⟩ := vals1 r
  cases rx
  obtain ⟨its, rv, pl, hz⟩ := I.list hq
  have hl := pl.isList
  have hlt : p < s.heap.objs.size := by obtain ⟨_, e, _⟩ := hl; exact Heap.lt_size e
  have hlen := rv.length
  rw [List.length_map] at hlen
  refine call_all_walk (wpAny_pyIter_list hl ?_)
  refine ⟨s.heap.objs.size, [s.heap.objs.size, p], [s.heap.objs.size], its.toArray.size, _, _, fun i => (bs[i]?).getD true, rfl, Walks.list (A := X.A.in1) (I.ok.hd hc) _ p (Nat.ne_of_lt hlt) its.toArray,
    ⟨⟨_, Heap.get?_push_size _ rfl, rfl, rfl⟩, hl.push _⟩, fun i v s' Q' E' hP hQ => ?_, fun h' tk hk => ?_⟩
  · obtain ⟨b, e, rfl⟩ := bools_get rv (i := i) (v := v) (by simpa using hP)
    simp only [e, Option.getD_some] at hQ
    exact wpAny_truthy_bool hQ
  · have e : ((List.range its.toArray.size).all fun i => (bs[i]?).getD true) = bs.all id := by
      rw [List.size_toArray, ← hlen]; exact LSm.range_all bs
    rw [e]
    exact ⟨.bl _, H, I.kept (LSm.kept_iter hk), rfl, q⟩
def rIsi (K : PySem.W.Frag) : List V → Hp → VK → Prop := fun xs H Q => ∃ x T t b, xs = [x, .ty T] ∧ TyOf K H x t ∧ PySem.W.kitOne K t (.type T) = some b ∧ Q (.bl b) H
theorem call_isinst : CallR X (.builtin "isinstance") (rIsi X.K) := by
  intro pins s σ H xs us Q I r h
  obtain ⟨x, T, t, b, rfl, ty, e, q⟩ := h
  obtain ⟨u, v, rfl, rx, ry⟩ := r.two
  cases ry
  exact isinst_ok I rx ty e fun tk => ⟨.bl b, H, I.tok tk, rfl, q⟩
def eqVs : List V → List V → Bool
  | [], [] => true
  | x :: xs, y :: ys => eqV x y && eqVs xs ys
  | _, _ => false
theorem range_all_succ (n : Nat) (e : Nat → Bool) : (List.range (n + 1)).all e = (e 0 && (List.range n).all fun i => e (i + 1)) := by
  rw [List.range_succ_eq_map, List.all_cons, List.all_map]
  rfl
theorem eqVs_range : ∀ (xs ys : List V), xs.length = ys.length → (List.range xs.length).all (fun j => eqV ((xs[j]?).getD .non) ((ys[j]?).getD .non)) = eqVs xs ys
  | [], [], _ => rfl
  | [], _ :: _, h => by cases h
  | _ :: _, [], h => by cases h
  | x :: xs, y :: ys, h => by
    have ih := eqVs_range xs ys (by simpa using h)
    rw [List.length_cons, range_all_succ]
    simp only [List.getElem?_cons_zero, Option.getD_some, List.getElem?_cons_succ]
    rw [ih]
    rfl
theorem eqVs_ints : ∀ (ns ms : List Int), eqVs (ns.map V.int) (ms.map V.int) = decide (ns = ms)
  | [], [] => by simp [eqVs]
  | [], _ :: _ => by simp [eqVs]
  | _ :: _, [] => by simp [eqVs]
  | n :: ns, m :: ms => by
    have ih := eqVs_ints ns ms
    show ((n == m) && eqVs (ns.map V.int) (ms.map V.int)) = _
    rw [ih, Bool.eq_iff_iff]
    simp
def rEqL (K : PySem.W.Frag) (neg : Bool) : R2 := fun x y H Q => ∃ a b xs ys, x = .ref a ∧ y = .ref b ∧ SqL K H a xs ∧ SqL K H b ys ∧ xs.all flatV = true ∧ ys.all flatV = true ∧ Q (.bl (if neg then !eqVs xs ys else eqVs xs ys)) H
theorem items_eqAt {A : Around} {s : Shared} {xs ys : List V} {us ws : List Value} (rx : Vals xs us) (ry : Vals ys ws) (fx : xs.all flatV = true) (fy : ys.all flatV = true) :
    ∀ j (h1 : j < us.toArray.size) (h2 : j < ws.toArray.size), SeqAt.EqAt A s us.toArray[j] ws.toArray[j] (eqV ((xs[j]?).getD .non) ((ys[j]?).getD .non)) := fun j h1 h2 => by
  have l1 := rx.length
  have l2 := ry.length
  have h1' : j < xs.length := by simpa [l1] using h1
  have h2' : j < ys.length := by simpa [l2] using h2
  obtain ⟨u, hu, ru⟩ := rx.get (i := j) (x := xs[j]) (by simp [h1'])
  obtain ⟨w, hw, rw'⟩ := ry.get (i := j) (x := ys[j]) (by simp [h2'])
  have eu : us.toArray[j] = u := by
    have := List.getElem?_eq_some_iff.mp hu
    obtain ⟨_, e⟩ := this
    simpa using e
  have ew : ws.toArray[j] = w := by
    have := List.getElem?_eq_some_iff.mp hw
    obtain ⟨_, e⟩ := this
    simpa using e
  rw [eu, ew, List.getElem?_eq_getElem h1', List.getElem?_eq_getElem h2', Option.getD_some, Option.getD_some]
  exact eqAt_V ru rw' (List.all_eq_true.mp fx _ (List.getElem_mem h1')) (List.all_eq_true.mp fy _ (List.getElem_mem h2'))
end
end L2
set_option maxHeartbeats 4000000
namespace LS
open PySem PyProof.Rows
def gallop' : Bool → Keyed → Array Keyed → Nat → Nat → Nat → StateT SortSt Sem (Option Nat) := sortPriv% PySem.Builtin.gallop
def probe (lf : Bool) (ky : Keyed) (xs : Array Keyed) (b j : Nat) : StateT SortSt Sem (Option Bool) := do
  let z ← elem' xs (b + j)
  if lf then lt' z ky else return (← lt' ky z).map (!·)
theorem gallop'_eq (lf : Bool) (ky : Keyed) (xs : Array Keyed) (b n h : Nat) : gallop' lf ky xs b n h = (do
    let mut last := 0; let mut step := 1; let mut lo := 0; let mut hi := 0
    let some r ← probe lf ky xs b h | return none
    if r then
      let top := n - h
      for _ in [0:n] do
        if step ≥ top then break
        let some go ← probe lf ky xs b (h + step) | return none
        if !go then break
        last := step; step := 2 * step + 1
      lo := h + last + 1
      hi := h + min step top
    else
      let top := h + 1
      for _ in [0:n] do
        if step ≥ top then break
        let some hit ← probe lf ky xs b (h - step) | return none
        if hit then break
        last := step; step := 2 * step + 1
      lo := h + 1 - min step top
      hi := h - last
    for _ in [0:n] do
      if lo ≥ hi then break
      let mid := lo + (hi - lo) / 2
      let some go ← probe lf ky xs b mid | return none
      if go then lo := mid + 1 else hi := mid
    return some hi) := rfl
section
variable {M : Model} {A : Around} {E : Value → Shared → Prop} {s : Shared}
theorem wp_gallop {lf : Bool} {ky : Keyed} {xs : Array Keyed} {b n h : Nat} {p : Nat → Bool} {st : SortSt} {Q : Option Nat → SortSt → Prop}
    (hp : ∀ j (R : Option Bool → SortSt → Prop), j < n → R (some (p j)) st → wpS M A E s (probe lf ky xs b j) R st) (hh : h < n)
    (anti : ∀ i j, i ≤ j → j < n → p j = true → p i = true) (hq : ∀ k, k ≤ n → (∀ i, i < k → p i = true) → (∀ i, k ≤ i → i < n → p i = false) → Q (some k) st) : wpS M A E s (gallop' lf ky xs b n h) Q st := by
  have anti' : ∀ i j, i ≤ j → j < n → p i = false → p j = false := fun i j h1 h2 h3 => by
    cases e : p j with
    | false => rfl
    | true => rw [anti i j h1 h2 e] at h3; cases h3
  rw [gallop'_eq]
  dsimp only
  refine wpS_bind (hp h _ hh ?_)
  dsimp only
  cases e0 : p h with
  | true =>
    rw [if_pos rfl]
    refine wpS_bind (wpS_mono (wpS_forRange (I := fun x c st' => st' = st ∧ ∃ la sp, c = (none, la, sp) ∧ h + la < n ∧ p (h + la) = true ∧ la < sp ∧ x < sp)
      (Q := fun c st' => st' = st ∧ ∃ la sp, c = (none, la, sp) ∧ h + la < n ∧ p (h + la) = true ∧ la < sp ∧ (n - h ≤ sp ∨ (h + sp < n ∧ p (h + sp) = false))) ?step ?done ⟨rfl, 0, 1, rfl, hh, e0, by omega, by omega⟩) ?post)
    case done =>
      rintro c st' ⟨rfl, la, sp, rfl, h1, h2, h3, h4⟩
      exact ⟨rfl, la, sp, rfl, h1, h2, h3, .inl (by omega)⟩
    case step =>
      rintro x c st' _ hx ⟨rfl, la, sp, rfl, h1, h2, h3, h4⟩
      dsimp only
      by_cases hge : sp ≥ n - h
      · rw [if_pos hge]
        exact wpS_pure ⟨rfl, la, sp, rfl, h1, h2, h3, .inl hge⟩
      · rw [if_neg hge]
        refine wpS_bind (hp _ _ (by omega) ?_)
        dsimp only
        cases e : p (h + sp) with
        | true =>
          rw [if_neg (by decide)]
          exact wpS_pure ⟨rfl, sp, 2 * sp + 1, rfl, by omega, e, by omega, by omega⟩
        | false =>
          rw [if_pos (show (!false) = true from rfl)]
          exact wpS_pure ⟨rfl, la, sp, rfl, h1, h2, h3, .inr ⟨by omega, e⟩⟩
    case post =>
      rintro c st' ⟨rfl, la, sp, rfl, h1, h2, h3, h4⟩
      have a3 : ∀ i, i < h + la + 1 → p i = true := fun i hi => anti i (h + la) (by omega) h1 h2
      have a4 : ∀ i, h + min sp (n - h) ≤ i → i < n → p i = false := fun i hi hn => by
        rcases h4 with h4 | ⟨h4, h5⟩
        · omega
        · exact anti' (h + sp) i (by omega) hn h5
      dsimp only
      have a1 : h + la + 1 ≤ h + min sp (n - h) := by omega
      have a2 : h + min sp (n - h) ≤ n := by omega
      generalize h + la + 1 = lo at a1 a3 ⊢
      generalize h + min sp (n - h) = hi at a1 a2 a4 ⊢
      refine wpS_bind (wpS_mono (wpS_forRange (I := fun x c st'' => st'' = st' ∧ ∃ lo hi, c = (none, lo, hi) ∧ lo ≤ hi ∧ hi ≤ n ∧ hi - lo ≤ n - x ∧ (∀ i, i < lo → p i = true) ∧ (∀ i, hi ≤ i → i < n → p i = false))
        (Q := fun c st'' => st'' = st' ∧ ∃ k, c = (none, k, k) ∧ k ≤ n ∧ (∀ i, i < k → p i = true) ∧ (∀ i, k ≤ i → i < n → p i = false)) ?step2 ?done2 ⟨rfl, lo, hi, rfl, a1, a2, by omega, a3, a4⟩) ?post2)
      case done2 =>
        rintro c st' ⟨rfl, lo, hi, rfl, h1, h2, h5, h3, h4⟩
        have e : lo = hi := by omega
        subst e
        exact ⟨rfl, lo, rfl, h2, h3, h4⟩
      case step2 =>
        rintro x c st' _ hx ⟨rfl, lo, hi, rfl, h1, h2, h5, h3, h4⟩
        dsimp only
        by_cases hge : lo ≥ hi
        · rw [if_pos hge]
          have e : lo = hi := by omega
          subst e
          exact wpS_pure ⟨rfl, lo, rfl, h2, h3, h4⟩
        · rw [if_neg hge]
          refine wpS_bind (hp _ _ (by omega) ?_)
          dsimp only
          cases e : p (lo + (hi - lo) / 2) with
          | true =>
            rw [if_pos rfl]
            exact wpS_pure ⟨rfl, _, hi, rfl, by omega, h2, by omega, fun i hi' => anti i (lo + (hi - lo) / 2) (by omega) (by omega) e, h4⟩
          | false =>
            rw [if_neg Bool.false_ne_true]
            exact wpS_pure ⟨rfl, lo, _, rfl, by omega, by omega, by omega, h3, fun i h6 h7 => anti' _ i h6 h7 e⟩
      case post2 =>
        rintro c st' ⟨rfl, k, rfl, hk, h3, h4⟩
        exact wpS_pure (hq k hk h3 h4)
  | false =>
    rw [if_neg Bool.false_ne_true]
    refine wpS_bind (wpS_mono (wpS_forRange (I := fun x c st' => st' = st ∧ ∃ la sp, c = (none, la, sp) ∧ la ≤ h ∧ p (h - la) = false ∧ la < sp ∧ x < sp)
      (Q := fun c st' => st' = st ∧ ∃ la sp, c = (none, la, sp) ∧ la ≤ h ∧ p (h - la) = false ∧ la < sp ∧ (h + 1 ≤ sp ∨ (sp ≤ h ∧ p (h - sp) = true))) ?step ?done ⟨rfl, 0, 1, rfl, by omega, e0, by omega, by omega⟩) ?post)
    case done =>
      rintro c st' ⟨rfl, la, sp, rfl, h1, h2, h3, h4⟩
      exact ⟨rfl, la, sp, rfl, h1, h2, h3, .inl (by omega)⟩
    case step =>
      rintro x c st' _ hx ⟨rfl, la, sp, rfl, h1, h2, h3, h4⟩
      dsimp only
      by_cases hge : sp ≥ h + 1
      · rw [if_pos hge]
        exact wpS_pure ⟨rfl, la, sp, rfl, h1, h2, h3, .inl hge⟩
      · rw [if_neg hge]
        refine wpS_bind (hp _ _ (by omega) ?_)
        dsimp only
        cases e : p (h - sp) with
        | true =>
          rw [if_pos rfl]
          exact wpS_pure ⟨rfl, la, sp, rfl, h1, h2, h3, .inr ⟨by omega, e⟩⟩
        | false =>
          rw [if_neg Bool.false_ne_true]
          exact wpS_pure ⟨rfl, sp, 2 * sp + 1, rfl, by omega, e, by omega, by omega⟩
    case post =>
      rintro c st' ⟨rfl, la, sp, rfl, h1, h2, h3, h4⟩
      have a3 : ∀ i, i < h + 1 - min sp (h + 1) → p i = true := fun i hi => by
        rcases h4 with h4 | ⟨h4, h5⟩
        · omega
        · exact anti i (h - sp) (by omega) (by omega) h5
      have a4 : ∀ i, h - la ≤ i → i < n → p i = false := fun i hi hn => anti' (h - la) i (by omega) hn h2
      dsimp only
      have a1 : h + 1 - min sp (h + 1) ≤ h - la := by omega
      have a2 : h - la ≤ n := by omega
      generalize h + 1 - min sp (h + 1) = lo at a1 a3 ⊢
      generalize h - la = hi at a1 a2 a4 ⊢
      refine wpS_bind (wpS_mono (wpS_forRange (I := fun x c st'' => st'' = st' ∧ ∃ lo hi, c = (none, lo, hi) ∧ lo ≤ hi ∧ hi ≤ n ∧ hi - lo ≤ n - x ∧ (∀ i, i < lo → p i = true) ∧ (∀ i, hi ≤ i → i < n → p i = false))
        (Q := fun c st'' => st'' = st' ∧ ∃ k, c = (none, k, k) ∧ k ≤ n ∧ (∀ i, i < k → p i = true) ∧ (∀ i, k ≤ i → i < n → p i = false)) ?step2 ?done2 ⟨rfl, lo, hi, rfl, a1, a2, by omega, a3, a4⟩) ?post2)
      case done2 =>
        rintro c st' ⟨rfl, lo, hi, rfl, h1, h2, h5, h3, h4⟩
        have e : lo = hi := by omega
        subst e
        exact ⟨rfl, lo, rfl, h2, h3, h4⟩
      case step2 =>
        rintro x c st' _ hx ⟨rfl, lo, hi, rfl, h1, h2, h5, h3, h4⟩
        dsimp only
        by_cases hge : lo ≥ hi
        · rw [if_pos hge]
          have e : lo = hi := by omega
          subst e
          exact wpS_pure ⟨rfl, lo, rfl, h2, h3, h4⟩
        · rw [if_neg hge]
          refine wpS_bind (hp _ _ (by omega) ?_)
          dsimp only
          cases e : p (lo + (hi - lo) / 2) with
          | true =>
            rw [if_pos rfl]
            exact wpS_pure ⟨rfl, _, hi, rfl, by omega, h2, by omega, fun i hi' => anti i (lo + (hi - lo) / 2) (by omega) (by omega) e, h4⟩
          | false =>
            rw [if_neg Bool.false_ne_true]
            exact wpS_pure ⟨rfl, lo, _, rfl, by omega, by omega, by omega, h3, fun i h6 h7 => anti' _ i h6 h7 e⟩
      case post2 =>
        rintro c st' ⟨rfl, k, rfl, hk, h3, h4⟩
        exact wpS_pure (hq k hk h3 h4)
theorem wp_elem {xs : Array Keyed} {i : Nat} {st : SortSt} {Q : Keyed → SortSt → Prop} (hi : i < xs.size) (h : Q xs[i] st) : wpS M A E s (elem' xs i) Q st := by
  rw [elem'_eq, getElem?_pos xs i hi]
  exact wpS_pure h
end
def mergeLo' : Array Keyed → Array Keyed → StateT SortSt Sem (Array Keyed) := sortPriv% PySem.Builtin.mergeLo
def mergeHi' : Array Keyed → Array Keyed → StateT SortSt Sem (Array Keyed) := sortPriv% PySem.Builtin.mergeHi
def setMin' : Nat → StateT SortSt Sem Unit := sortPriv% PySem.Builtin.setMinGallop
theorem mergeLo'_eq (a b : Array Keyed) : mergeLo' a b = (do
    rule "list.sort.merge-lo"
    let tot := a.size + b.size
    let dn (o : Array Keyed) (i j : Nat) := o ++ a.extract i a.size ++ b.extract j b.size
    let lst (o : Array Keyed) (i j : Nat) := o ++ b.extract j b.size ++ a.extract i a.size
    let mut o : Array Keyed := #[← elem' b 0]
    let mut i := 0; let mut j := 1
    if j == b.size then return dn o i j
    if i + 1 == a.size then return lst o i j
    let mut g := gallopOf (← get)
    for _ in [0:tot] do
      let mut ca := 0; let mut cb := 0
      for _ in [0:tot] do
        let some w ← lt' (← elem' b j) (← elem' a i) | return dn o i j
        if w then
          o := o.push (← elem' b j); j := j + 1; cb := cb + 1; ca := 0
          if j == b.size then return dn o i j
          if cb ≥ g then break
        else
          o := o.push (← elem' a i); i := i + 1; ca := ca + 1; cb := 0
          if i + 1 == a.size then return lst o i j
          if ca ≥ g then break
      rule "list.sort.gallop"
      g := g + 1
      for _ in [0:tot] do
        if g > 1 then g := g - 1
        setMin' g
        let some k ← gallop' false (← elem' b j) a i (a.size - i) 0 | return dn o i j
        ca := k
        if k > 0 then
          o := o ++ a.extract i (i + k); i := i + k
          if i + 1 == a.size then return lst o i j
          if i == a.size then return dn o i j
        o := o.push (← elem' b j); j := j + 1
        if j == b.size then return dn o i j
        let some k ← gallop' true (← elem' a i) b j (b.size - j) 0 | return dn o i j
        cb := k
        if k > 0 then
          o := o ++ b.extract j (j + k); j := j + k
          if j == b.size then return dn o i j
        o := o.push (← elem' a i); i := i + 1
        if i + 1 == a.size then return lst o i j
        if ca < 7 && cb < 7 then break
      g := g + 1
      setMin' g
    unsupported "internal:list.sort.merge-bound") := rfl
theorem mergeHi'_eq (a b : Array Keyed) : mergeHi' a b = (do
    rule "list.sort.merge-hi"
    let tot := a.size + b.size
    let dn (o : Array Keyed) (i j : Nat) := a.extract 0 i ++ b.extract 0 j ++ o.reverse
    let fst (o : Array Keyed) (i j : Nat) := b.extract 0 j ++ a.extract 0 i ++ o.reverse
    let mut i := a.size - 1; let mut j := b.size
    let mut o : Array Keyed := #[← elem' a i]
    if i == 0 then return dn o i j
    if j == 1 then return fst o i j
    let mut g := gallopOf (← get)
    for _ in [0:tot] do
      let mut ca := 0; let mut cb := 0
      for _ in [0:tot] do
        let some w ← lt' (← elem' b (j - 1)) (← elem' a (i - 1)) | return dn o i j
        if w then
          i := i - 1; o := o.push (← elem' a i); ca := ca + 1; cb := 0
          if i == 0 then return dn o i j
          if ca ≥ g then break
        else
          j := j - 1; o := o.push (← elem' b j); cb := cb + 1; ca := 0
          if j == 1 then return fst o i j
          if cb ≥ g then break
      rule "list.sort.gallop"
      g := g + 1
      for _ in [0:tot] do
        if g > 1 then g := g - 1
        setMin' g
        let some p ← gallop' false (← elem' b (j - 1)) a 0 i (i - 1) | return dn o i j
        let k := i - p
        ca := k
        if k > 0 then
          o := o ++ (a.extract p i).reverse; i := p
          if i == 0 then return dn o i j
        j := j - 1; o := o.push (← elem' b j)
        if j == 1 then return fst o i j
        let some p ← gallop' true (← elem' a (i - 1)) b 0 j (j - 1) | return dn o i j
        let k := j - p
        cb := k
        if k > 0 then
          o := o ++ (b.extract p j).reverse; j := p
          if j == 1 then return fst o i j
          if j == 0 then return dn o i j
        i := i - 1; o := o.push (← elem' a i)
        if i == 0 then return dn o i j
        if ca < 7 && cb < 7 then break
      g := g + 1
      setMin' g
    unsupported "internal:list.sort.merge-bound") := rfl
theorem setMin'_eq (g : Nat) : setMin' g = modify fun st => SortSt.mk' (kindOf st) (arrOf st) (pendingOf st) g (failedOf st) := rfl
def countRun2 : Nat → Nat → StateT SortSt Sem (Option Nat) := sortPriv% PySem.Builtin.countRun
theorem mergeAt'_eq (i : Nat) : mergeAt' i = (do
    let st ← get
    let (some (sa, na, pw), some (sb, nb, _)) := ((pendingOf st)[i]?, (pendingOf st)[i + 1]?) | unsupported "internal:list.sort.pending"
    set (SortSt.mk' (kindOf st) (arrOf st) (((pendingOf st).setIfInBounds i (sa, na + nb, pw)).eraseIdxIfInBounds (i + 1)) (gallopOf st) (failedOf st))
    let some k ← gallop' false (← elem' (arrOf st) sb) (arrOf st) sa na 0 | return false
    let (sa, na) := (sa + k, na - k)
    if na == 0 then return true
    let some nb ← gallop' true (← elem' (arrOf st) (sa + na - 1)) (arrOf st) sb nb (nb - 1) | return false
    if nb == 0 then return true
    let x := (arrOf st).extract sa sb
    let y := (arrOf st).extract sb (sb + nb)
    let merged ← if na ≤ nb then mergeLo' x y else mergeHi' x y
    modify fun st => setArr st (merged.toList.zipIdx.foldl (fun a (p, j) => a.setIfInBounds (sa + j) p) (arrOf st))
    return (failedOf (← get)).isNone) := rfl
section
variable {M : Model} {A : Around} {E : Value → Shared → Prop} {s : Shared} {O : KeyOrd} {kf : Keyed → O.α} {G : Keyed → Prop} {kd : SortKind}
def Le (kf : Keyed → O.α) (x y : Keyed) : Prop := O.kle (kf x) (kf y)
abbrev Srt (kf : Keyed → O.α) (l : List Keyed) : Prop := l.Pairwise (Le kf)
def LtOk (M : Model) (A : Around) (E : Value → Shared → Prop) (s : Shared) (kf : Keyed → O.α) (G : Keyed → Prop) (kd : SortKind) : Prop :=
  ∀ (x y : Keyed) (st : SortSt) (Q : Option Bool → SortSt → Prop), G x → G y → kindOf st = kd → Q (some (O.blt (kf x) (kf y))) st → wpS M A E s (lt' x y) Q st
theorem seg_get {xs : Array Keyed} {b n : Nat} (hn : b + n ≤ xs.size) {j : Nat} (hj : j < n) (h : b + j < xs.size) : ((xs.toList.drop b).take n)[j]? = some xs[b + j] := by
  rw [List.getElem?_take_of_lt hj, List.getElem?_drop, Array.getElem?_toList, Array.getElem?_eq_getElem h]
theorem wp_probe (hlt : LtOk M A E s kf G kd) {lf : Bool} {ky : Keyed} {xs : Array Keyed} {b j : Nat} {st : SortSt} {R : Option Bool → SortSt → Prop} (hG : ∀ z ∈ xs.toList, G z) (hk : G ky) (hkd : kindOf st = kd) (hj : b + j < xs.size)
    (h : R (some (if lf = true then O.blt (kf xs[b + j]) (kf ky) else !(O.blt (kf ky) (kf xs[b + j])))) st) : wpS M A E s (probe lf ky xs b j) R st := by
  unfold probe
  have hz : G xs[b + j] := hG _ (by simp)
  refine wpS_bind (wp_elem hj ?_)
  cases lf with
  | true =>
    rw [if_pos rfl] at h ⊢
    exact hlt _ _ st _ hz hk hkd h
  | false =>
    rw [if_neg Bool.false_ne_true] at h ⊢
    exact wpS_bind (hlt _ _ st _ hk hz hkd (wpS_pure h))
theorem srt_get {l : List Keyed} (hs : Srt kf l) {i j : Nat} {x y : Keyed} (hij : i ≤ j) (hx : l[i]? = some x) (hy : l[j]? = some y) : Le kf x y := by
  rcases Nat.lt_or_ge i j with h | h
  · obtain ⟨h1, e1⟩ := List.getElem?_eq_some_iff.mp hx
    obtain ⟨h2, e2⟩ := List.getElem?_eq_some_iff.mp hy
    have := List.pairwise_iff_getElem.mp hs i j h1 h2 h
    rw [e1, e2] at this
    exact this
  · have e : i = j := by omega
    subst e
    rw [hx] at hy
    cases hy
    exact KeyOrd.kle_refl _
theorem mem_take_get {l : List Keyed} {k : Nat} {x : Keyed} (h : x ∈ l.take k) : ∃ i, i < k ∧ l[i]? = some x := by
  obtain ⟨i, hi⟩ := List.mem_iff_getElem?.mp h
  have hik : i < k := by
    rcases Nat.lt_or_ge i k with z | z
    · exact z
    · rw [List.getElem?_eq_none (by rw [List.length_take]; omega)] at hi; cases hi
  rw [List.getElem?_take_of_lt hik] at hi
  exact ⟨i, hik, hi⟩
theorem mem_drop_get {l : List Keyed} {k : Nat} {x : Keyed} (h : x ∈ l.drop k) : ∃ i, k ≤ i ∧ i < l.length ∧ l[i]? = some x := by
  obtain ⟨i, hi⟩ := List.mem_iff_getElem?.mp h
  rw [List.getElem?_drop] at hi
  exact ⟨k + i, by omega, (List.getElem?_eq_some_iff.mp hi).1, hi⟩
theorem wp_gallopL (hlt : LtOk M A E s kf G kd) {lf : Bool} {ky : Keyed} {xs : Array Keyed} {b n h : Nat} {st : SortSt} {Q : Option Nat → SortSt → Prop} (hG : ∀ z ∈ xs.toList, G z) (hk : G ky) (hkd : kindOf st = kd)
    (hn : b + n ≤ xs.size) (hh : h < n) (hs : Srt kf ((xs.toList.drop b).take n))
    (hq : ∀ k, k ≤ n → (lf = false → (∀ x ∈ ((xs.toList.drop b).take n).take k, Le kf x ky) ∧ ∀ y ∈ ((xs.toList.drop b).take n).drop k, O.klt (kf ky) (kf y)) →
      (lf = true → (∀ x ∈ ((xs.toList.drop b).take n).take k, O.klt (kf x) (kf ky)) ∧ ∀ y ∈ ((xs.toList.drop b).take n).drop k, Le kf ky y) → Q (some k) st) : wpS M A E s (gallop' lf ky xs b n h) Q st := by
  have hlen : ((xs.toList.drop b).take n).length = n := by
    rw [List.length_take, List.length_drop, Array.length_toList]
    omega
  generalize hL : (xs.toList.drop b).take n = L at hs hq hlen
  have hget : ∀ j, j < n → ∃ hj : b + j < xs.size, L[j]? = some xs[b + j] := fun j hj => ⟨by omega, hL ▸ seg_get hn hj (by omega)⟩
  refine wp_gallop (p := fun j => (L[j]?).elim false fun z => if lf = true then O.blt (kf z) (kf ky) else !(O.blt (kf ky) (kf z))) (fun j R hj hR => ?_) hh (fun i j hij hj hp => ?_) fun k hkn h1 h2 => ?_
  · obtain ⟨hj', e⟩ := hget j hj
    rw [e] at hR
    exact wp_probe hlt hG hk hkd hj' hR
  · obtain ⟨hi', e1⟩ := hget i (by omega)
    obtain ⟨hj', e2⟩ := hget j hj
    have hle := srt_get hs hij e1 e2
    simp only [e1, e2, Option.elim_some] at hp ⊢
    cases lf with
    | true =>
      rw [if_pos rfl] at hp ⊢
      exact KeyOrd.klt_of_kle_of_klt hle hp
    | false =>
      rw [if_neg Bool.false_ne_true] at hp ⊢
      have hp' : O.kle (kf xs[b + j]) (kf ky) := by simpa [KeyOrd.kle] using hp
      have := KeyOrd.kle_trans hle hp'
      simpa [KeyOrd.kle] using this
  · refine hq k hkn (fun hl => ⟨fun x hx => ?_, fun y hy => ?_⟩) fun hl => ⟨fun x hx => ?_, fun y hy => ?_⟩
    · obtain ⟨i, hi, e⟩ := mem_take_get hx
      have := h1 i hi
      simp only [e, Option.elim_some, hl, Bool.false_eq_true, if_false] at this
      simpa [Le, KeyOrd.kle] using this
    · obtain ⟨i, hi, hi2, e⟩ := mem_drop_get hy
      have := h2 i hi (by omega)
      simp only [e, Option.elim_some, hl, Bool.false_eq_true, if_false] at this
      simpa [KeyOrd.klt] using this
    · obtain ⟨i, hi, e⟩ := mem_take_get hx
      have := h1 i hi
      simp only [e, Option.elim_some, hl, if_true] at this
      exact this
    · obtain ⟨i, hi, hi2, e⟩ := mem_drop_get hy
      have := h2 i hi (by omega)
      simp only [e, Option.elim_some, hl, if_true] at this
      exact this
structure MI (kf : Keyed → O.α) (T o ra rb : List Keyed) : Prop where
  perm : (o ++ ra ++ rb).Perm T
  so : Srt kf o
  le : ∀ x ∈ o, ∀ y ∈ ra ++ rb, Le kf x y
  sa : Srt kf ra
  sb : Srt kf rb
theorem MI.takeA {T o c ra rb : List Keyed} (m : MI kf T o (c ++ ra) rb) (h : ∀ x ∈ c, ∀ y ∈ rb, Le kf x y) : MI kf T (o ++ c) ra rb := by
  obtain ⟨s1, s2, s3⟩ := List.pairwise_append.mp m.sa
  refine ⟨by simpa [List.append_assoc] using m.perm, List.pairwise_append.mpr ⟨m.so, s1, fun x hx y hy => m.le x hx y (by simp [hy])⟩, fun x hx y hy => ?_, s2, m.sb⟩
  rcases List.mem_append.mp hx with hx | hx
  · exact m.le x hx y (by rcases List.mem_append.mp hy with hy | hy <;> simp [hy])
  · rcases List.mem_append.mp hy with hy | hy
    · exact s3 x hx y hy
    · exact h x hx y hy
theorem MI.takeB {T o c ra rb : List Keyed} (m : MI kf T o ra (c ++ rb)) (h : ∀ x ∈ c, ∀ y ∈ ra, Le kf x y) : MI kf T (o ++ c) ra rb := by
  obtain ⟨s1, s2, s3⟩ := List.pairwise_append.mp m.sb
  refine ⟨?_, List.pairwise_append.mpr ⟨m.so, s1, fun x hx y hy => m.le x hx y (by simp [hy])⟩, fun x hx y hy => ?_, m.sa, s2⟩
  · refine List.Perm.trans ?_ m.perm
    rw [List.append_assoc, List.append_assoc, List.append_assoc]
    refine List.Perm.append_left o ?_
    rw [← List.append_assoc, ← List.append_assoc]
    exact List.Perm.append_right rb List.perm_append_comm
  · rcases List.mem_append.mp hx with hx | hx
    · exact m.le x hx y (by rcases List.mem_append.mp hy with hy | hy <;> simp [hy])
    · rcases List.mem_append.mp hy with hy | hy
      · exact h x hx y hy
      · exact s3 x hx y hy
theorem MI.endB {T o ra : List Keyed} (m : MI kf T o ra []) : (o ++ ra).Perm T ∧ Srt kf (o ++ ra) :=
  ⟨by simpa using m.perm, List.pairwise_append.mpr ⟨m.so, m.sa, fun x hx y hy => m.le x hx y (by simp [hy])⟩⟩
theorem MI.endA {T o rb : List Keyed} (m : MI kf T o [] rb) : (o ++ rb).Perm T ∧ Srt kf (o ++ rb) :=
  ⟨by simpa using m.perm, List.pairwise_append.mpr ⟨m.so, m.sb, fun x hx y hy => m.le x hx y (by simp [hy])⟩⟩
theorem MI.lastA {T o rb ra : List Keyed} (m : MI kf T o ra rb) (h : ∀ x ∈ rb, ∀ y ∈ ra, Le kf x y) : (o ++ rb ++ ra).Perm T ∧ Srt kf (o ++ rb ++ ra) := by
  refine ⟨List.Perm.trans ?_ m.perm, List.pairwise_append.mpr ⟨List.pairwise_append.mpr ⟨m.so, m.sb, fun x hx y hy => m.le x hx y (by simp [hy])⟩, m.sa, fun x hx y hy => ?_⟩⟩
  · rw [List.append_assoc, List.append_assoc]
    exact List.Perm.append_left o List.perm_append_comm
  · rcases List.mem_append.mp hx with hx | hx
    · exact m.le x hx y (by simp [hy])
    · exact h x hx y hy
structure Eqv (st st' : SortSt) : Prop where
  a : arrOf st' = arrOf st
  p : pendingOf st' = pendingOf st
  f : failedOf st' = failedOf st
  k : kindOf st' = kindOf st
theorem Eqv.refl (st : SortSt) : Eqv st st := ⟨rfl, rfl, rfl, rfl⟩
theorem Eqv.trans {st st' st'' : SortSt} (a : Eqv st st') (b : Eqv st' st'') : Eqv st st'' := ⟨b.a.trans a.a, b.p.trans a.p, b.f.trans a.f, b.k.trans a.k⟩
theorem wp_setMin {g : Nat} {st : SortSt} {Q : Unit → SortSt → Prop} (h : ∀ st', Eqv st st' → Q () st') : wpS M A E s (setMin' g) Q st := by
  rw [setMin'_eq]
  exact wpS_modify (h _ ⟨rfl, rfl, rfl, rfl⟩)
theorem drop_cons {xs : Array Keyed} {i : Nat} (h : i < xs.size) : xs.toList.drop i = [xs[i]] ++ xs.toList.drop (i + 1) := by
  rw [List.drop_eq_getElem_cons (by rw [Array.length_toList]; exact h)]
  simp
theorem drop_chunk {xs : Array Keyed} {i k : Nat} : xs.toList.drop i = (xs.toList.drop i).take k ++ xs.toList.drop (i + k) := by
  rw [← List.drop_drop, List.take_append_drop]
theorem ext_toList (xs : Array Keyed) (i k : Nat) : (xs.extract i (i + k)).toList = (xs.toList.drop i).take k := by
  rw [Array.toList_extract, List.extract_eq_drop_take]
  congr 1
  omega
theorem ext_end (xs : Array Keyed) (i : Nat) : (xs.extract i xs.size).toList = xs.toList.drop i := by
  rw [Array.toList_extract, List.extract_eq_drop_take, List.take_of_length_le]
  rw [List.length_drop, Array.length_toList]
  omega
theorem head_le {xs : Array Keyed} {i : Nat} (h : i < xs.size) (hs : Srt kf (xs.toList.drop i)) : ∀ y ∈ xs.toList.drop i, Le kf xs[i] y := fun y hy => by
  rw [drop_cons h] at hs hy
  rcases List.mem_append.mp hy with z | z
  · have e : y = xs[i] := by simpa using z
    rw [e]
    exact KeyOrd.kle_refl _
  · exact (List.pairwise_append.mp hs).2.2 _ (by simp) y z
theorem seg_all (xs : Array Keyed) (i : Nat) : (xs.toList.drop i).take (xs.size - i) = xs.toList.drop i := by
  rw [List.take_of_length_le]
  rw [List.length_drop, Array.length_toList]
  exact Nat.le_refl _
theorem Le.trans {x y z : Keyed} (h1 : Le kf x y) (h2 : Le kf y z) : Le kf x z := KeyOrd.kle_trans h1 h2
theorem Le.of_lt {x y : Keyed} (h : O.klt (kf x) (kf y)) : Le kf x y := KeyOrd.kle_of_klt h
theorem Le.of_not {x y : Keyed} (h : O.blt (kf x) (kf y) = false) : Le kf y x := h
theorem MI.pushB {T : List Keyed} {o a b : Array Keyed} {i j : Nat} (m : MI kf T o.toList (a.toList.drop i) (b.toList.drop j)) (hj : j < b.size) (h : ∀ y ∈ a.toList.drop i, Le kf b[j] y) : MI kf T (o.push b[j]).toList (a.toList.drop i) (b.toList.drop (j + 1)) := by
  rw [drop_cons hj] at m
  rw [Array.toList_push]
  exact m.takeB fun x hx y hy => by
    have e : x = b[j] := by simpa using hx
    rw [e]
    exact h y hy
theorem MI.pushA {T : List Keyed} {o a b : Array Keyed} {i j : Nat} (m : MI kf T o.toList (a.toList.drop i) (b.toList.drop j)) (hi : i < a.size) (h : ∀ y ∈ b.toList.drop j, Le kf a[i] y) : MI kf T (o.push a[i]).toList (a.toList.drop (i + 1)) (b.toList.drop j) := by
  rw [drop_cons hi] at m
  rw [Array.toList_push]
  exact m.takeA fun x hx y hy => by
    have e : x = a[i] := by simpa using hx
    rw [e]
    exact h y hy
theorem MI.runA {T : List Keyed} {o a b : Array Keyed} {i j k : Nat} (m : MI kf T o.toList (a.toList.drop i) (b.toList.drop j)) (h : ∀ x ∈ (a.toList.drop i).take k, ∀ y ∈ b.toList.drop j, Le kf x y) :
    MI kf T (o ++ a.extract i (i + k)).toList (a.toList.drop (i + k)) (b.toList.drop j) := by
  rw [drop_chunk (xs := a) (i := i) (k := k)] at m
  rw [Array.toList_append, ext_toList]
  exact m.takeA h
theorem MI.runB {T : List Keyed} {o a b : Array Keyed} {i j k : Nat} (m : MI kf T o.toList (a.toList.drop i) (b.toList.drop j)) (h : ∀ x ∈ (b.toList.drop j).take k, ∀ y ∈ a.toList.drop i, Le kf x y) :
    MI kf T (o ++ b.extract j (j + k)).toList (a.toList.drop i) (b.toList.drop (j + k)) := by
  rw [drop_chunk (xs := b) (i := j) (k := k)] at m
  rw [Array.toList_append, ext_toList]
  exact m.takeB h
structure Pend (kf : Keyed → O.α) (T : List Keyed) (v : Array Keyed) : Prop where
  p : v.toList.Perm T
  s : Srt kf v.toList
theorem MI.doneB {T : List Keyed} {o a b : Array Keyed} {i j : Nat} (m : MI kf T o.toList (a.toList.drop i) (b.toList.drop j)) (hj : j = b.size) : Pend kf T (o ++ a.extract i a.size ++ b.extract j b.size) := by
  subst hj
  have e1 : (o ++ a.extract i a.size ++ b.extract b.size b.size).toList = o.toList ++ a.toList.drop i := by
    rw [Array.toList_append, Array.toList_append, ext_end, ext_end, List.drop_eq_nil_of_le (Nat.le_of_eq (Array.length_toList)), List.append_nil]
  rw [List.drop_eq_nil_of_le (Nat.le_of_eq (Array.length_toList))] at m
  exact ⟨by rw [e1]; exact m.endB.1, by rw [e1]; exact m.endB.2⟩
theorem MI.doneA {T : List Keyed} {o a b : Array Keyed} {i j : Nat} (m : MI kf T o.toList (a.toList.drop i) (b.toList.drop j)) (hi : i = a.size) : Pend kf T (o ++ a.extract i a.size ++ b.extract j b.size) := by
  subst hi
  have e1 : (o ++ a.extract a.size a.size ++ b.extract j b.size).toList = o.toList ++ b.toList.drop j := by
    rw [Array.toList_append, Array.toList_append, ext_end, ext_end, List.drop_eq_nil_of_le (Nat.le_of_eq (Array.length_toList)), List.append_nil]
  rw [List.drop_eq_nil_of_le (Nat.le_of_eq (Array.length_toList))] at m
  exact ⟨by rw [e1]; exact m.endA.1, by rw [e1]; exact m.endA.2⟩
theorem MI.doneL {T : List Keyed} {o a b : Array Keyed} {i j : Nat} (m : MI kf T o.toList (a.toList.drop i) (b.toList.drop j)) (hi : i + 1 = a.size) (hl : ∀ x ∈ b.toList, ∀ y ∈ a.toList.drop (a.size - 1), Le kf x y) : Pend kf T (o ++ b.extract j b.size ++ a.extract i a.size) := by
  have e1 : (o ++ b.extract j b.size ++ a.extract i a.size).toList = o.toList ++ b.toList.drop j ++ a.toList.drop i := by
    rw [Array.toList_append, Array.toList_append, ext_end, ext_end]
  have h := m.lastA fun x hx y hy => hl x (List.mem_of_mem_drop hx) y (by rw [show a.size - 1 = i by omega]; exact hy)
  exact ⟨by rw [e1]; exact h.1, by rw [e1]; exact h.2⟩
theorem wp_mergeLo (hlt : LtOk M A E s kf G kd) {a b : Array Keyed} {st : SortSt} {Q : Array Keyed → SortSt → Prop} (hGa : ∀ z ∈ a.toList, G z) (hGb : ∀ z ∈ b.toList, G z) (hkd : kindOf st = kd)
    (ha : 1 ≤ a.size) (hb : 1 ≤ b.size) (sa : Srt kf a.toList) (sb : Srt kf b.toList) (h0 : ∀ y ∈ a.toList, Le kf b[0] y) (hl : ∀ x ∈ b.toList, ∀ y ∈ a.toList.drop (a.size - 1), Le kf x y)
    (hq : ∀ (v : Array Keyed) st', Eqv st st' → Pend kf (a.toList ++ b.toList) v → Q v st') : wpS M A E s (mergeLo' a b) Q st := by
  rw [mergeLo'_eq]
  refine wpS_bind (wpS_lift (wpAny_rule ⟨rfl, ?_⟩))
  dsimp only
  refine wpS_bind (wp_elem (by omega) ?_)
  have m0 : MI kf (a.toList ++ b.toList) (#[b[0]] : Array Keyed).toList (a.toList.drop 0) (b.toList.drop (0 + 1)) := by
    have m : MI kf (a.toList ++ b.toList) (#[] : Array Keyed).toList (a.toList.drop 0) (b.toList.drop 0) := ⟨by simp, List.Pairwise.nil, (fun _ z => nomatch z), by simpa using sa, by simpa using sb⟩
    exact m.pushB (by omega) fun y hy => h0 y (by simpa using hy)
  by_cases hb1 : 1 = b.size
  · rw [if_pos (beq_iff_eq.mpr hb1)]
    exact wpS_pure (hq _ st (Eqv.refl st) (m0.doneB hb1))
  · rw [if_neg (fun z => hb1 (beq_iff_eq.mp z))]
    by_cases ha1 : 0 + 1 = a.size
    · rw [if_pos (beq_iff_eq.mpr ha1)]
      exact wpS_pure (hq _ st (Eqv.refl st) (m0.doneL ha1 hl))
    · rw [if_neg (fun z => ha1 (beq_iff_eq.mp z))]
      refine wpS_bind (wpS_get ?_)
      refine wpS_bind (wpS_mono (wpS_forRange (I := fun x c st' => Eqv st st' ∧ ∃ (o : Array Keyed) (i j g : Nat), c = (none, o, i, j, g) ∧ MI kf (a.toList ++ b.toList) o.toList (a.toList.drop i) (b.toList.drop j) ∧ i + 1 < a.size ∧ j < b.size ∧ 1 + x ≤ i + j)
        (Q := fun c st' => Eqv st st' ∧ ∃ v r, c = (some v, r) ∧ Pend kf (a.toList ++ b.toList) v) ?step ?fin ⟨Eqv.refl st, _, 0, 1, _, rfl, m0, by omega, by omega, by omega⟩) ?post)
      case fin =>
        rintro c st' ⟨_, o, i, j, g, _, _, h1, h2, h3⟩
        omega
      case post =>
        rintro c st' ⟨ev, v, r, rfl, pe⟩
        exact wpS_pure (hq v st' ev pe)
      case step =>
        rintro x c st' _ hx ⟨ev, o, i, j, g, rfl, m, hi, hj, hs⟩
        dsimp only
        refine wpS_bind (wpS_mono (wpS_forRange (I := fun y c st' => Eqv st st' ∧ ∃ (o : Array Keyed) (i2 j2 ca cb : Nat), c = (none, o, i2, j2, ca, cb) ∧ MI kf (a.toList ++ b.toList) o.toList (a.toList.drop i2) (b.toList.drop j2) ∧ i2 + 1 < a.size ∧ j2 < b.size ∧ i + j + y ≤ i2 + j2)
          (Q := fun c st' => Eqv st st' ∧ ((∃ v r, c = (some v, r) ∧ Pend kf (a.toList ++ b.toList) v) ∨ ∃ (o : Array Keyed) (i2 j2 ca cb : Nat), c = (none, o, i2, j2, ca, cb) ∧ MI kf (a.toList ++ b.toList) o.toList (a.toList.drop i2) (b.toList.drop j2) ∧ i2 + 1 < a.size ∧ j2 < b.size ∧ i + j + 1 ≤ i2 + j2))
          ?step1 ?fin1 ⟨ev, o, i, j, 0, 0, rfl, m, hi, hj, by omega⟩) ?post1)
        case fin1 =>
          rintro c st' ⟨ev, o, i2, j2, ca, cb, rfl, m, h1, h2, h3⟩
          exact ⟨ev, .inr ⟨o, i2, j2, ca, cb, rfl, m, h1, h2, by omega⟩⟩
        case step1 =>
          rintro y c st' _ hy ⟨ev, o, i2, j2, ca, cb, rfl, m, h1, h2, h3⟩
          dsimp only
          refine wpS_bind (wp_elem h2 ?_)
          refine wpS_bind (wp_elem (by omega) ?_)
          refine wpS_bind (hlt _ _ st' _ (hGb _ (by simp)) (hGa _ (by simp)) (ev.k.trans hkd) ?_)
          dsimp only
          cases hw : O.blt (kf b[j2]) (kf a[i2]) with
          | true =>
            rw [if_pos rfl]
            refine wpS_bind (wp_elem h2 ?_)
            have m2 := m.pushB h2 fun y hy => (Le.of_lt hw).trans (head_le (by omega) m.sa y hy)
            by_cases hE : j2 + 1 = b.size
            · rw [if_pos (beq_iff_eq.mpr hE)]
              exact wpS_pure ⟨ev, .inl ⟨_, _, rfl, m2.doneB hE⟩⟩
            · rw [if_neg (fun z => hE (beq_iff_eq.mp z))]
              by_cases hg : cb + 1 ≥ g
              · rw [if_pos hg]
                exact wpS_pure ⟨ev, .inr ⟨_, _, _, _, _, rfl, m2, h1, by omega, by omega⟩⟩
              · rw [if_neg hg]
                exact wpS_pure ⟨ev, _, _, _, _, _, rfl, m2, h1, by omega, by omega⟩
          | false =>
            rw [if_neg Bool.false_ne_true]
            refine wpS_bind (wp_elem (by omega) ?_)
            have m2 := m.pushA (by omega) fun y hy => (Le.of_not hw).trans (head_le h2 m.sb y hy)
            by_cases hE : i2 + 1 + 1 = a.size
            · rw [if_pos (beq_iff_eq.mpr hE)]
              exact wpS_pure ⟨ev, .inl ⟨_, _, rfl, m2.doneL hE hl⟩⟩
            · rw [if_neg (fun z => hE (beq_iff_eq.mp z))]
              by_cases hg : ca + 1 ≥ g
              · rw [if_pos hg]
                exact wpS_pure ⟨ev, .inr ⟨_, _, _, _, _, rfl, m2, by omega, h2, by omega⟩⟩
              · rw [if_neg hg]
                exact wpS_pure ⟨ev, _, _, _, _, _, rfl, m2, by omega, h2, by omega⟩
        case post1 =>
          rintro c st1 ⟨ev, ⟨v, r, rfl, pe⟩ | ⟨o, i1, j1, ca, cb, rfl, m, hi, hj, hs1⟩⟩
          · exact wpS_pure ⟨ev, v, _, rfl, pe⟩
          · dsimp only
            refine wpS_bind (wpS_lift (wpAny_rule ⟨rfl, ?_⟩))
            refine wpS_bind (wpS_mono (wpS_forRange (I := fun _ c st' => Eqv st st' ∧ ∃ (o : Array Keyed) (i2 j2 g ca cb : Nat), c = (none, o, i2, j2, g, ca, cb) ∧ MI kf (a.toList ++ b.toList) o.toList (a.toList.drop i2) (b.toList.drop j2) ∧ i2 + 1 < a.size ∧ j2 < b.size ∧ i1 + j1 ≤ i2 + j2)
              (Q := fun c st' => Eqv st st' ∧ ((∃ v r, c = (some v, r) ∧ Pend kf (a.toList ++ b.toList) v) ∨ ∃ (o : Array Keyed) (i2 j2 g ca cb : Nat), c = (none, o, i2, j2, g, ca, cb) ∧ MI kf (a.toList ++ b.toList) o.toList (a.toList.drop i2) (b.toList.drop j2) ∧ i2 + 1 < a.size ∧ j2 < b.size ∧ i1 + j1 ≤ i2 + j2))
              ?step2 ?fin2 ⟨ev, o, i1, j1, _, ca, cb, rfl, m, hi, hj, by omega⟩) ?post2)
            case fin2 =>
              rintro c st' ⟨ev, o, i2, j2, g, ca, cb, rfl, m, h1, h2, h3⟩
              exact ⟨ev, .inr ⟨o, i2, j2, g, ca, cb, rfl, m, h1, h2, h3⟩⟩
            case post2 =>
              rintro c st2 ⟨ev, ⟨v, r, rfl, pe⟩ | ⟨o, i2, j2, g, ca, cb, rfl, m, hi2, hj2, hs2⟩⟩
              · exact wpS_pure ⟨ev, v, _, rfl, pe⟩
              · dsimp only
                refine wpS_bind (wp_setMin fun st3 e3 => wpS_pure ⟨ev.trans e3, o, i2, j2, _, rfl, m, hi2, hj2, by omega⟩)
            case step2 =>
              rintro y c st' _ hy ⟨ev, o, i, j, g, ca, cb, rfl, m, hi, hj, hs2⟩
              dsimp only
              by_cases hg : g > 1
              · rw [if_pos hg]
                refine wpS_bind (wp_setMin fun st2 e2 => ?_)
                have ev2 := ev.trans e2
                have kd2 : kindOf st2 = kd := ev2.k.trans hkd
                refine wpS_bind (wp_elem hj ?_)
                refine wpS_bind (wp_gallopL hlt hGa (hGb _ (by simp)) kd2 (by omega) (by omega) (by rw [seg_all]; exact m.sa) fun k hk hr _ => ?_)
                obtain ⟨r1, r2⟩ := hr rfl
                rw [seg_all] at r1 r2
                dsimp only
                by_cases hk0 : k > 0
                · rw [if_pos hk0]
                  have m1 := m.runA (k := k) fun x hx y hy => (r1 x hx).trans (head_le hj m.sb y hy)
                  rw [List.drop_drop] at r2
                  by_cases hE1 : i + k + 1 = a.size
                  · rw [if_pos (beq_iff_eq.mpr hE1)]
                    exact wpS_pure ⟨ev2, .inl ⟨_, _, rfl, m1.doneL hE1 hl⟩⟩
                  · rw [if_neg (fun z => hE1 (beq_iff_eq.mp z))]
                    by_cases hE2 : i + k = a.size
                    · rw [if_pos (beq_iff_eq.mpr hE2)]
                      exact wpS_pure ⟨ev2, .inl ⟨_, _, rfl, m1.doneA hE2⟩⟩
                    · rw [if_neg (fun z => hE2 (beq_iff_eq.mp z))]
                      refine wpS_bind (wp_elem hj ?_)
                      have m2 := m1.pushB hj fun y hy => Le.of_lt (r2 y hy)
                      by_cases hE3 : j + 1 = b.size
                      · rw [if_pos (beq_iff_eq.mpr hE3)]
                        exact wpS_pure ⟨ev2, .inl ⟨_, _, rfl, m2.doneB hE3⟩⟩
                      · rw [if_neg (fun z => hE3 (beq_iff_eq.mp z))]
                        refine wpS_bind (wp_elem (by omega) ?_)
                        refine wpS_bind (wp_gallopL hlt hGb (hGa _ (by simp)) kd2 (by omega) (by omega) (by rw [seg_all]; exact m2.sb) fun k1 hk1 _ hr1 => ?_)
                        obtain ⟨q1, q2⟩ := hr1 rfl
                        rw [seg_all] at q1 q2
                        dsimp only
                        by_cases hk10 : k1 > 0
                        · rw [if_pos hk10]
                          have m3 := m2.runB (k := k1) fun x hx y hy => (Le.of_lt (q1 x hx)).trans (head_le (by omega) m2.sa y hy)
                          rw [List.drop_drop] at q2
                          by_cases hE4 : j + 1 + k1 = b.size
                          · rw [if_pos (beq_iff_eq.mpr hE4)]
                            exact wpS_pure ⟨ev2, .inl ⟨_, _, rfl, m3.doneB hE4⟩⟩
                          · rw [if_neg (fun z => hE4 (beq_iff_eq.mp z))]
                            refine wpS_bind (wp_elem (by omega) ?_)
                            have mA := m3.pushA (by omega) q2
                            by_cases hA : i + k + 1 + 1 = a.size
                            · rw [if_pos (beq_iff_eq.mpr hA)]
                              exact wpS_pure ⟨ev2, .inl ⟨_, _, rfl, mA.doneL hA hl⟩⟩
                            · rw [if_neg (fun z => hA (beq_iff_eq.mp z))]
                              by_cases h7 : (decide (k < 7) && decide (k1 < 7)) = true
                              · rw [if_pos h7]
                                exact wpS_pure ⟨ev2, .inr ⟨_, _, _, _, _, _, rfl, mA, by omega, by omega, by omega⟩⟩
                              · rw [if_neg h7]
                                exact wpS_pure ⟨ev2, _, _, _, _, _, _, rfl, mA, by omega, by omega, by omega⟩
                        · rw [if_neg hk10]
                          have k10 : k1 = 0 := by omega
                          subst k10
                          rw [List.drop_zero] at q2
                          refine wpS_bind (wp_elem (by omega) ?_)
                          have mA := m2.pushA (by omega) q2
                          by_cases hA : i + k + 1 + 1 = a.size
                          · rw [if_pos (beq_iff_eq.mpr hA)]
                            exact wpS_pure ⟨ev2, .inl ⟨_, _, rfl, mA.doneL hA hl⟩⟩
                          · rw [if_neg (fun z => hA (beq_iff_eq.mp z))]
                            by_cases h7 : (decide (k < 7) && decide (0 < 7)) = true
                            · rw [if_pos h7]
                              exact wpS_pure ⟨ev2, .inr ⟨_, _, _, _, _, _, rfl, mA, by omega, by omega, by omega⟩⟩
                            · rw [if_neg h7]
                              exact wpS_pure ⟨ev2, _, _, _, _, _, _, rfl, mA, by omega, by omega, by omega⟩
                · rw [if_neg hk0]
                  have k00 : k = 0 := by omega
                  subst k00
                  rw [List.drop_zero] at r2
                  refine wpS_bind (wp_elem hj ?_)
                  have m2 := m.pushB hj fun y hy => Le.of_lt (r2 y hy)
                  by_cases hE3 : j + 1 = b.size
                  · rw [if_pos (beq_iff_eq.mpr hE3)]
                    exact wpS_pure ⟨ev2, .inl ⟨_, _, rfl, m2.doneB hE3⟩⟩
                  · rw [if_neg (fun z => hE3 (beq_iff_eq.mp z))]
                    refine wpS_bind (wp_elem (by omega) ?_)
                    refine wpS_bind (wp_gallopL hlt hGb (hGa _ (by simp)) kd2 (by omega) (by omega) (by rw [seg_all]; exact m2.sb) fun k1 hk1 _ hr1 => ?_)
                    obtain ⟨q1, q2⟩ := hr1 rfl
                    rw [seg_all] at q1 q2
                    dsimp only
                    by_cases hk10 : k1 > 0
                    · rw [if_pos hk10]
                      have m3 := m2.runB (k := k1) fun x hx y hy => (Le.of_lt (q1 x hx)).trans (head_le (by omega) m2.sa y hy)
                      rw [List.drop_drop] at q2
                      by_cases hE4 : j + 1 + k1 = b.size
                      · rw [if_pos (beq_iff_eq.mpr hE4)]
                        exact wpS_pure ⟨ev2, .inl ⟨_, _, rfl, m3.doneB hE4⟩⟩
                      · rw [if_neg (fun z => hE4 (beq_iff_eq.mp z))]
                        refine wpS_bind (wp_elem (by omega) ?_)
                        have mA := m3.pushA (by omega) q2
                        by_cases hA : i + 1 + 1 = a.size
                        · rw [if_pos (beq_iff_eq.mpr hA)]
                          exact wpS_pure ⟨ev2, .inl ⟨_, _, rfl, mA.doneL hA hl⟩⟩
                        · rw [if_neg (fun z => hA (beq_iff_eq.mp z))]
                          by_cases h7 : (decide (0 < 7) && decide (k1 < 7)) = true
                          · rw [if_pos h7]
                            exact wpS_pure ⟨ev2, .inr ⟨_, _, _, _, _, _, rfl, mA, by omega, by omega, by omega⟩⟩
                          · rw [if_neg h7]
                            exact wpS_pure ⟨ev2, _, _, _, _, _, _, rfl, mA, by omega, by omega, by omega⟩
                    · rw [if_neg hk10]
                      have k10 : k1 = 0 := by omega
                      subst k10
                      rw [List.drop_zero] at q2
                      refine wpS_bind (wp_elem (by omega) ?_)
                      have mA := m2.pushA (by omega) q2
                      by_cases hA : i + 1 + 1 = a.size
                      · rw [if_pos (beq_iff_eq.mpr hA)]
                        exact wpS_pure ⟨ev2, .inl ⟨_, _, rfl, mA.doneL hA hl⟩⟩
                      · rw [if_neg (fun z => hA (beq_iff_eq.mp z))]
                        by_cases h7 : (decide (0 < 7) && decide (0 < 7)) = true
                        · rw [if_pos h7]
                          exact wpS_pure ⟨ev2, .inr ⟨_, _, _, _, _, _, rfl, mA, by omega, by omega, by omega⟩⟩
                        · rw [if_neg h7]
                          exact wpS_pure ⟨ev2, _, _, _, _, _, _, rfl, mA, by omega, by omega, by omega⟩
              · rw [if_neg hg]
                refine wpS_bind (wp_setMin fun st2 e2 => ?_)
                have ev2 := ev.trans e2
                have kd2 : kindOf st2 = kd := ev2.k.trans hkd
                refine wpS_bind (wp_elem hj ?_)
                refine wpS_bind (wp_gallopL hlt hGa (hGb _ (by simp)) kd2 (by omega) (by omega) (by rw [seg_all]; exact m.sa) fun k hk hr _ => ?_)
                obtain ⟨r1, r2⟩ := hr rfl
                rw [seg_all] at r1 r2
                dsimp only
                by_cases hk0 : k > 0
                · rw [if_pos hk0]
                  have m1 := m.runA (k := k) fun x hx y hy => (r1 x hx).trans (head_le hj m.sb y hy)
                  rw [List.drop_drop] at r2
                  by_cases hE1 : i + k + 1 = a.size
                  · rw [if_pos (beq_iff_eq.mpr hE1)]
                    exact wpS_pure ⟨ev2, .inl ⟨_, _, rfl, m1.doneL hE1 hl⟩⟩
                  · rw [if_neg (fun z => hE1 (beq_iff_eq.mp z))]
                    by_cases hE2 : i + k = a.size
                    · rw [if_pos (beq_iff_eq.mpr hE2)]
                      exact wpS_pure ⟨ev2, .inl ⟨_, _, rfl, m1.doneA hE2⟩⟩
                    · rw [if_neg (fun z => hE2 (beq_iff_eq.mp z))]
                      refine wpS_bind (wp_elem hj ?_)
                      have m2 := m1.pushB hj fun y hy => Le.of_lt (r2 y hy)
                      by_cases hE3 : j + 1 = b.size
                      · rw [if_pos (beq_iff_eq.mpr hE3)]
                        exact wpS_pure ⟨ev2, .inl ⟨_, _, rfl, m2.doneB hE3⟩⟩
                      · rw [if_neg (fun z => hE3 (beq_iff_eq.mp z))]
                        refine wpS_bind (wp_elem (by omega) ?_)
                        refine wpS_bind (wp_gallopL hlt hGb (hGa _ (by simp)) kd2 (by omega) (by omega) (by rw [seg_all]; exact m2.sb) fun k1 hk1 _ hr1 => ?_)
                        obtain ⟨q1, q2⟩ := hr1 rfl
                        rw [seg_all] at q1 q2
                        dsimp only
                        by_cases hk10 : k1 > 0
                        · rw [if_pos hk10]
                          have m3 := m2.runB (k := k1) fun x hx y hy => (Le.of_lt (q1 x hx)).trans (head_le (by omega) m2.sa y hy)
                          rw [List.drop_drop] at q2
                          by_cases hE4 : j + 1 + k1 = b.size
                          · rw [if_pos (beq_iff_eq.mpr hE4)]
                            exact wpS_pure ⟨ev2, .inl ⟨_, _, rfl, m3.doneB hE4⟩⟩
                          · rw [if_neg (fun z => hE4 (beq_iff_eq.mp z))]
                            refine wpS_bind (wp_elem (by omega) ?_)
                            have mA := m3.pushA (by omega) q2
                            by_cases hA : i + k + 1 + 1 = a.size
                            · rw [if_pos (beq_iff_eq.mpr hA)]
                              exact wpS_pure ⟨ev2, .inl ⟨_, _, rfl, mA.doneL hA hl⟩⟩
                            · rw [if_neg (fun z => hA (beq_iff_eq.mp z))]
                              by_cases h7 : (decide (k < 7) && decide (k1 < 7)) = true
                              · rw [if_pos h7]
                                exact wpS_pure ⟨ev2, .inr ⟨_, _, _, _, _, _, rfl, mA, by omega, by omega, by omega⟩⟩
                              · rw [if_neg h7]
                                exact wpS_pure ⟨ev2, _, _, _, _, _, _, rfl, mA, by omega, by omega, by omega⟩
                        · rw [if_neg hk10]
                          have k10 : k1 = 0 := by omega
                          subst k10
                          rw [List.drop_zero] at q2
                          refine wpS_bind (wp_elem (by omega) ?_)
                          have mA := m2.pushA (by omega) q2
                          by_cases hA : i + k + 1 + 1 = a.size
                          · rw [if_pos (beq_iff_eq.mpr hA)]
                            exact wpS_pure ⟨ev2, .inl ⟨_, _, rfl, mA.doneL hA hl⟩⟩
                          · rw [if_neg (fun z => hA (beq_iff_eq.mp z))]
                            by_cases h7 : (decide (k < 7) && decide (0 < 7)) = true
                            · rw [if_pos h7]
                              exact wpS_pure ⟨ev2, .inr ⟨_, _, _, _, _, _, rfl, mA, by omega, by omega, by omega⟩⟩
                            · rw [if_neg h7]
                              exact wpS_pure ⟨ev2, _, _, _, _, _, _, rfl, mA, by omega, by omega, by omega⟩
                · rw [if_neg hk0]
                  have k00 : k = 0 := by omega
                  subst k00
                  rw [List.drop_zero] at r2
                  refine wpS_bind (wp_elem hj ?_)
                  have m2 := m.pushB hj fun y hy => Le.of_lt (r2 y hy)
                  by_cases hE3 : j + 1 = b.size
                  · rw [if_pos (beq_iff_eq.mpr hE3)]
                    exact wpS_pure ⟨ev2, .inl ⟨_, _, rfl, m2.doneB hE3⟩⟩
                  · rw [if_neg (fun z => hE3 (beq_iff_eq.mp z))]
                    refine wpS_bind (wp_elem (by omega) ?_)
                    refine wpS_bind (wp_gallopL hlt hGb (hGa _ (by simp)) kd2 (by omega) (by omega) (by rw [seg_all]; exact m2.sb) fun k1 hk1 _ hr1 => ?_)
                    obtain ⟨q1, q2⟩ := hr1 rfl
                    rw [seg_all] at q1 q2
                    dsimp only
                    by_cases hk10 : k1 > 0
                    · rw [if_pos hk10]
                      have m3 := m2.runB (k := k1) fun x hx y hy => (Le.of_lt (q1 x hx)).trans (head_le (by omega) m2.sa y hy)
                      rw [List.drop_drop] at q2
                      by_cases hE4 : j + 1 + k1 = b.size
                      · rw [if_pos (beq_iff_eq.mpr hE4)]
                        exact wpS_pure ⟨ev2, .inl ⟨_, _, rfl, m3.doneB hE4⟩⟩
                      · rw [if_neg (fun z => hE4 (beq_iff_eq.mp z))]
                        refine wpS_bind (wp_elem (by omega) ?_)
                        have mA := m3.pushA (by omega) q2
                        by_cases hA : i + 1 + 1 = a.size
                        · rw [if_pos (beq_iff_eq.mpr hA)]
                          exact wpS_pure ⟨ev2, .inl ⟨_, _, rfl, mA.doneL hA hl⟩⟩
                        · rw [if_neg (fun z => hA (beq_iff_eq.mp z))]
                          by_cases h7 : (decide (0 < 7) && decide (k1 < 7)) = true
                          · rw [if_pos h7]
                            exact wpS_pure ⟨ev2, .inr ⟨_, _, _, _, _, _, rfl, mA, by omega, by omega, by omega⟩⟩
                          · rw [if_neg h7]
                            exact wpS_pure ⟨ev2, _, _, _, _, _, _, rfl, mA, by omega, by omega, by omega⟩
                    · rw [if_neg hk10]
                      have k10 : k1 = 0 := by omega
                      subst k10
                      rw [List.drop_zero] at q2
                      refine wpS_bind (wp_elem (by omega) ?_)
                      have mA := m2.pushA (by omega) q2
                      by_cases hA : i + 1 + 1 = a.size
                      · rw [if_pos (beq_iff_eq.mpr hA)]
                        exact wpS_pure ⟨ev2, .inl ⟨_, _, rfl, mA.doneL hA hl⟩⟩
                      · rw [if_neg (fun z => hA (beq_iff_eq.mp z))]
                        by_cases h7 : (decide (0 < 7) && decide (0 < 7)) = true
                        · rw [if_pos h7]
                          exact wpS_pure ⟨ev2, .inr ⟨_, _, _, _, _, _, rfl, mA, by omega, by omega, by omega⟩⟩
                        · rw [if_neg h7]
                          exact wpS_pure ⟨ev2, _, _, _, _, _, _, rfl, mA, by omega, by omega, by omega⟩
structure MH (kf : Keyed → O.α) (T r ra rb : List Keyed) : Prop where
  perm : (ra ++ rb ++ r).Perm T
  sr : Srt kf r
  le : ∀ x ∈ ra ++ rb, ∀ y ∈ r, Le kf x y
  sa : Srt kf ra
  sb : Srt kf rb
theorem MH.takeA {T r c ra rb : List Keyed} (m : MH kf T r (ra ++ c) rb) (h : ∀ x ∈ rb, ∀ y ∈ c, Le kf x y) : MH kf T (c ++ r) ra rb := by
  obtain ⟨s1, s2, s3⟩ := List.pairwise_append.mp m.sa
  refine ⟨List.Perm.trans ?_ m.perm, List.pairwise_append.mpr ⟨s2, m.sr, fun x hx y hy => m.le x (by simp [hx]) y hy⟩, fun x hx y hy => ?_, s1, m.sb⟩
  · rw [List.append_assoc, List.append_assoc, List.append_assoc]
    refine List.Perm.append_left ra ?_
    rw [← List.append_assoc, ← List.append_assoc]
    exact List.Perm.append_right r List.perm_append_comm
  · rcases List.mem_append.mp hy with hy | hy
    · rcases List.mem_append.mp hx with hx | hx
      · exact s3 x hx y hy
      · exact h x hx y hy
    · exact m.le x (by rcases List.mem_append.mp hx with hx | hx <;> simp [hx]) y hy
theorem MH.takeB {T r c ra rb : List Keyed} (m : MH kf T r ra (rb ++ c)) (h : ∀ x ∈ ra, ∀ y ∈ c, Le kf x y) : MH kf T (c ++ r) ra rb := by
  obtain ⟨s1, s2, s3⟩ := List.pairwise_append.mp m.sb
  refine ⟨by simpa [List.append_assoc] using m.perm, List.pairwise_append.mpr ⟨s2, m.sr, fun x hx y hy => m.le x (by simp [hx]) y hy⟩, fun x hx y hy => ?_, m.sa, s1⟩
  rcases List.mem_append.mp hy with hy | hy
  · rcases List.mem_append.mp hx with hx | hx
    · exact h x hx y hy
    · exact s3 x hx y hy
  · exact m.le x (by rcases List.mem_append.mp hx with hx | hx <;> simp [hx]) y hy
theorem take_last {xs : Array Keyed} {i : Nat} (h1 : 1 ≤ i) (h : i - 1 < xs.size) : xs.toList.take i = xs.toList.take (i - 1) ++ [xs[i - 1]] := by
  obtain ⟨k, rfl⟩ : ∃ k, i = k + 1 := ⟨i - 1, by omega⟩
  have h' : k < xs.size := by omega
  simp only [Nat.add_sub_cancel]
  rw [List.take_add_one, Array.getElem?_toList, Array.getElem?_eq_getElem h']
  rfl
theorem ext_to (xs : Array Keyed) (i : Nat) : (xs.extract 0 i).toList = xs.toList.take i := by
  rw [Array.toList_extract, List.extract_eq_drop_take, List.drop_zero, Nat.sub_zero]
theorem take_chunk {xs : Array Keyed} {p i : Nat} (h : p ≤ i) : xs.toList.take i = xs.toList.take p ++ (xs.extract p i).toList := by
  rw [Array.toList_extract, List.extract_eq_drop_take]
  have e : xs.toList.take p = (xs.toList.take i).take p := by rw [List.take_take, Nat.min_eq_left h]
  rw [e, ← List.drop_take, List.take_append_drop]
theorem seg0 (xs : Array Keyed) (i : Nat) : (xs.toList.drop 0).take i = xs.toList.take i := by rw [List.drop_zero]
theorem last_ge {xs : Array Keyed} {i : Nat} (h1 : 1 ≤ i) (h : i - 1 < xs.size) (hs : Srt kf (xs.toList.take i)) : ∀ x ∈ xs.toList.take i, Le kf x xs[i - 1] := fun x hx => by
  rw [take_last h1 h] at hs hx
  rcases List.mem_append.mp hx with z | z
  · exact (List.pairwise_append.mp hs).2.2 x z _ (by simp)
  · have e : x = xs[i - 1] := by simpa using z
    rw [e]
    exact KeyOrd.kle_refl _
theorem MH.pushA {T : List Keyed} {o a b : Array Keyed} {i j : Nat} (m : MH kf T o.toList.reverse (a.toList.take i) (b.toList.take j)) (h1 : 1 ≤ i) (hi : i - 1 < a.size) (h : ∀ x ∈ b.toList.take j, Le kf x a[i - 1]) : MH kf T (o.push a[i - 1]).toList.reverse (a.toList.take (i - 1)) (b.toList.take j) := by
  rw [take_last h1 hi] at m
  rw [Array.toList_push, List.reverse_append]
  exact m.takeA fun x hx y hy => by
    have e : y = a[i - 1] := by simpa using hy
    rw [e]
    exact h x hx
theorem MH.pushB {T : List Keyed} {o a b : Array Keyed} {i j : Nat} (m : MH kf T o.toList.reverse (a.toList.take i) (b.toList.take j)) (h1 : 1 ≤ j) (hj : j - 1 < b.size) (h : ∀ x ∈ a.toList.take i, Le kf x b[j - 1]) : MH kf T (o.push b[j - 1]).toList.reverse (a.toList.take i) (b.toList.take (j - 1)) := by
  rw [take_last h1 hj] at m
  rw [Array.toList_push, List.reverse_append]
  exact m.takeB fun x hx y hy => by
    have e : y = b[j - 1] := by simpa using hy
    rw [e]
    exact h x hx
theorem rev_app (o c : Array Keyed) : (o ++ c.reverse).toList.reverse = c.toList ++ o.toList.reverse := by
  rw [Array.toList_append, Array.toList_reverse, List.reverse_append, List.reverse_reverse]
theorem MH.runA {T : List Keyed} {o a b : Array Keyed} {i j p : Nat} (m : MH kf T o.toList.reverse (a.toList.take i) (b.toList.take j)) (hp : p ≤ i) (h : ∀ x ∈ b.toList.take j, ∀ y ∈ (a.extract p i).toList, Le kf x y) :
    MH kf T (o ++ (a.extract p i).reverse).toList.reverse (a.toList.take p) (b.toList.take j) := by
  rw [take_chunk hp] at m
  rw [rev_app]
  exact m.takeA h
theorem MH.runB {T : List Keyed} {o a b : Array Keyed} {i j p : Nat} (m : MH kf T o.toList.reverse (a.toList.take i) (b.toList.take j)) (hp : p ≤ j) (h : ∀ x ∈ a.toList.take i, ∀ y ∈ (b.extract p j).toList, Le kf x y) :
    MH kf T (o ++ (b.extract p j).reverse).toList.reverse (a.toList.take i) (b.toList.take p) := by
  rw [take_chunk hp] at m
  rw [rev_app]
  exact m.takeB h
theorem MH.doneA {T : List Keyed} {o a b : Array Keyed} {i j : Nat} (m : MH kf T o.toList.reverse (a.toList.take i) (b.toList.take j)) (hi : i = 0) : Pend kf T (a.extract 0 i ++ b.extract 0 j ++ o.reverse) := by
  subst hi
  have e1 : (a.extract 0 0 ++ b.extract 0 j ++ o.reverse).toList = b.toList.take j ++ o.toList.reverse := by
    rw [Array.toList_append, Array.toList_append, ext_to, ext_to, Array.toList_reverse, List.take_zero, List.nil_append]
  rw [List.take_zero] at m
  exact ⟨by rw [e1]; simpa using m.perm, by rw [e1]; exact List.pairwise_append.mpr ⟨m.sb, m.sr, fun x hx y hy => m.le x (by simp [hx]) y hy⟩⟩
theorem MH.doneB {T : List Keyed} {o a b : Array Keyed} {i j : Nat} (m : MH kf T o.toList.reverse (a.toList.take i) (b.toList.take j)) (hj : j = 0) : Pend kf T (a.extract 0 i ++ b.extract 0 j ++ o.reverse) := by
  subst hj
  have e1 : (a.extract 0 i ++ b.extract 0 0 ++ o.reverse).toList = a.toList.take i ++ o.toList.reverse := by
    rw [Array.toList_append, Array.toList_append, ext_to, ext_to, Array.toList_reverse, List.take_zero, List.append_nil]
  rw [List.take_zero] at m
  exact ⟨by rw [e1]; simpa using m.perm, by rw [e1]; exact List.pairwise_append.mpr ⟨m.sa, m.sr, fun x hx y hy => m.le x (by simp [hx]) y hy⟩⟩
theorem MH.doneF {T : List Keyed} {o a b : Array Keyed} {i j : Nat} (m : MH kf T o.toList.reverse (a.toList.take i) (b.toList.take j)) (hj : j = 1) (h0 : ∀ x ∈ b.toList.take 1, ∀ y ∈ a.toList, Le kf x y) : Pend kf T (b.extract 0 j ++ a.extract 0 i ++ o.reverse) := by
  subst hj
  have e1 : (b.extract 0 1 ++ a.extract 0 i ++ o.reverse).toList = b.toList.take 1 ++ a.toList.take i ++ o.toList.reverse := by
    rw [Array.toList_append, Array.toList_append, ext_to, ext_to, Array.toList_reverse]
  refine ⟨by rw [e1]; exact (List.Perm.append_right _ List.perm_append_comm).trans m.perm, by
    rw [e1]
    refine List.pairwise_append.mpr ⟨List.pairwise_append.mpr ⟨m.sb, m.sa, fun x hx y hy => h0 x hx y (List.mem_of_mem_take hy)⟩, m.sr, fun x hx y hy => m.le x ?_ y hy⟩
    rcases List.mem_append.mp hx with hx | hx <;> simp [hx]⟩
theorem wp_mergeHi (hlt : LtOk M A E s kf G kd) {a b : Array Keyed} {st : SortSt} {Q : Array Keyed → SortSt → Prop} (hGa : ∀ z ∈ a.toList, G z) (hGb : ∀ z ∈ b.toList, G z) (hkd : kindOf st = kd)
    (ha : 1 ≤ a.size) (hb : 1 ≤ b.size) (sa : Srt kf a.toList) (sb : Srt kf b.toList) (h0 : ∀ x ∈ b.toList.take 1, ∀ y ∈ a.toList, Le kf x y) (hl : ∀ x ∈ b.toList, Le kf x a[a.size - 1])
    (hq : ∀ (v : Array Keyed) st', Eqv st st' → Pend kf (a.toList ++ b.toList) v → Q v st') : wpS M A E s (mergeHi' a b) Q st := by
  rw [mergeHi'_eq]
  refine wpS_bind (wpS_lift (wpAny_rule ⟨rfl, ?_⟩))
  dsimp only
  refine wpS_bind (wp_elem (by omega) ?_)
  have m0 : MH kf (a.toList ++ b.toList) (#[a[a.size - 1]] : Array Keyed).toList.reverse (a.toList.take (a.size - 1)) (b.toList.take b.size) := by
    have eb : b.toList.take b.size = b.toList := List.take_of_length_le (Nat.le_of_eq Array.length_toList)
    have ea : a.toList.take a.size = a.toList := List.take_of_length_le (Nat.le_of_eq Array.length_toList)
    have m : MH kf (a.toList ++ b.toList) (#[] : Array Keyed).toList.reverse (a.toList.take a.size) (b.toList.take b.size) := ⟨by rw [eb, ea]; simp, List.Pairwise.nil, (fun _ _ _ z => by simp at z), by rw [ea]; exact sa, by rw [eb]; exact sb⟩
    exact m.pushA ha (by omega) fun x hx => hl x (by rw [eb] at hx; exact hx)
  by_cases ha1 : a.size - 1 = 0
  · rw [if_pos (beq_iff_eq.mpr ha1)]
    exact wpS_pure (hq _ st (Eqv.refl st) (m0.doneA ha1))
  · rw [if_neg (fun z => ha1 (beq_iff_eq.mp z))]
    by_cases hb1 : b.size = 1
    · rw [if_pos (beq_iff_eq.mpr hb1)]
      exact wpS_pure (hq _ st (Eqv.refl st) (m0.doneF hb1 h0))
    · rw [if_neg (fun z => hb1 (beq_iff_eq.mp z))]
      refine wpS_bind (wpS_get ?_)
      refine wpS_bind (wpS_mono (wpS_forRange (I := fun x c st' => Eqv st st' ∧ ∃ (i j : Nat) (o : Array Keyed) (g : Nat), c = (none, i, j, o, g) ∧ MH kf (a.toList ++ b.toList) o.toList.reverse (a.toList.take i) (b.toList.take j) ∧ 1 ≤ i ∧ 2 ≤ j ∧ i ≤ a.size ∧ j ≤ b.size ∧ i + j + 1 + x ≤ a.size + b.size)
        (Q := fun c st' => Eqv st st' ∧ ∃ v r, c = (some v, r) ∧ Pend kf (a.toList ++ b.toList) v) ?step ?fin ⟨Eqv.refl st, _, _, _, _, rfl, m0, by omega, by omega, by omega, by omega, by omega⟩) ?post)
      case fin =>
        rintro c st' ⟨_, i, j, o, g, _, _, h1, h2, h3, h4, h5⟩
        omega
      case post =>
        rintro c st' ⟨ev, v, r, rfl, pe⟩
        exact wpS_pure (hq v st' ev pe)
      case step =>
        rintro x c st' _ hx ⟨ev, i, j, o, g, rfl, m, hi, hj, hi2, hj2, hs⟩
        dsimp only
        refine wpS_bind (wpS_mono (wpS_forRange (I := fun y c st' => Eqv st st' ∧ ∃ (i2 j2 : Nat) (o : Array Keyed) (ca cb : Nat), c = (none, i2, j2, o, ca, cb) ∧ MH kf (a.toList ++ b.toList) o.toList.reverse (a.toList.take i2) (b.toList.take j2) ∧ 1 ≤ i2 ∧ 2 ≤ j2 ∧ i2 ≤ a.size ∧ j2 ≤ b.size ∧ i2 + j2 + y ≤ i + j)
          (Q := fun c st' => Eqv st st' ∧ ((∃ v r, c = (some v, r) ∧ Pend kf (a.toList ++ b.toList) v) ∨ ∃ (i2 j2 : Nat) (o : Array Keyed) (ca cb : Nat), c = (none, i2, j2, o, ca, cb) ∧ MH kf (a.toList ++ b.toList) o.toList.reverse (a.toList.take i2) (b.toList.take j2) ∧ 1 ≤ i2 ∧ 2 ≤ j2 ∧ i2 ≤ a.size ∧ j2 ≤ b.size ∧ i2 + j2 + 1 ≤ i + j))
          ?step1 ?fin1 ⟨ev, i, j, o, 0, 0, rfl, m, hi, hj, hi2, hj2, by omega⟩) ?post1)
        case fin1 =>
          rintro c st' ⟨ev, i2, j2, o, ca, cb, rfl, m, h1, h2, h3, h4, h5⟩
          exact ⟨ev, .inr ⟨i2, j2, o, ca, cb, rfl, m, h1, h2, h3, h4, by omega⟩⟩
        case step1 =>
          rintro y c st' _ hy ⟨ev, i2, j2, o, ca, cb, rfl, m, h1, h2, h3, h4, h5⟩
          dsimp only
          refine wpS_bind (wp_elem (by omega) ?_)
          refine wpS_bind (wp_elem (by omega) ?_)
          refine wpS_bind (hlt _ _ st' _ (hGb _ (by simp)) (hGa _ (by simp)) (ev.k.trans hkd) ?_)
          dsimp only
          cases hw : O.blt (kf b[j2 - 1]) (kf a[i2 - 1]) with
          | true =>
            rw [if_pos rfl]
            refine wpS_bind (wp_elem (by omega) ?_)
            have m2 := m.pushA h1 (by omega) fun y hy => (last_ge (by omega) (by omega) m.sb y hy).trans (Le.of_lt hw)
            by_cases hE : i2 - 1 = 0
            · rw [if_pos (beq_iff_eq.mpr hE)]
              exact wpS_pure ⟨ev, .inl ⟨_, _, rfl, m2.doneA hE⟩⟩
            · rw [if_neg (fun z => hE (beq_iff_eq.mp z))]
              by_cases hg : ca + 1 ≥ g
              · rw [if_pos hg]
                exact wpS_pure ⟨ev, .inr ⟨_, _, _, _, _, rfl, m2, by omega, h2, by omega, h4, by omega⟩⟩
              · rw [if_neg hg]
                exact wpS_pure ⟨ev, _, _, _, _, _, rfl, m2, by omega, h2, by omega, h4, by omega⟩
          | false =>
            rw [if_neg Bool.false_ne_true]
            refine wpS_bind (wp_elem (by omega) ?_)
            have m2 := m.pushB (by omega) (by omega) fun y hy => (last_ge (by omega) (by omega) m.sa y hy).trans (Le.of_not hw)
            by_cases hE : j2 - 1 = 1
            · rw [if_pos (beq_iff_eq.mpr hE)]
              exact wpS_pure ⟨ev, .inl ⟨_, _, rfl, m2.doneF hE h0⟩⟩
            · rw [if_neg (fun z => hE (beq_iff_eq.mp z))]
              by_cases hg : cb + 1 ≥ g
              · rw [if_pos hg]
                exact wpS_pure ⟨ev, .inr ⟨_, _, _, _, _, rfl, m2, h1, by omega, h3, by omega, by omega⟩⟩
              · rw [if_neg hg]
                exact wpS_pure ⟨ev, _, _, _, _, _, rfl, m2, h1, by omega, h3, by omega, by omega⟩
        case post1 =>
          rintro c st1 ⟨ev, ⟨v, r, rfl, pe⟩ | ⟨i1, j1, o, ca, cb, rfl, m, hi, hj, hi2, hj2, hs1⟩⟩
          · exact wpS_pure ⟨ev, v, _, rfl, pe⟩
          · dsimp only
            refine wpS_bind (wpS_lift (wpAny_rule ⟨rfl, ?_⟩))
            refine wpS_bind (wpS_mono (wpS_forRange (I := fun _ c st' => Eqv st st' ∧ ∃ (i2 j2 : Nat) (o : Array Keyed) (g ca cb : Nat), c = (none, i2, j2, o, g, ca, cb) ∧ MH kf (a.toList ++ b.toList) o.toList.reverse (a.toList.take i2) (b.toList.take j2) ∧ 1 ≤ i2 ∧ 2 ≤ j2 ∧ i2 ≤ a.size ∧ j2 ≤ b.size ∧ i2 + j2 ≤ i1 + j1)
              (Q := fun c st' => Eqv st st' ∧ ((∃ v r, c = (some v, r) ∧ Pend kf (a.toList ++ b.toList) v) ∨ ∃ (i2 j2 : Nat) (o : Array Keyed) (g ca cb : Nat), c = (none, i2, j2, o, g, ca, cb) ∧ MH kf (a.toList ++ b.toList) o.toList.reverse (a.toList.take i2) (b.toList.take j2) ∧ 1 ≤ i2 ∧ 2 ≤ j2 ∧ i2 ≤ a.size ∧ j2 ≤ b.size ∧ i2 + j2 ≤ i1 + j1))
              ?step2 ?fin2 ⟨ev, i1, j1, o, _, ca, cb, rfl, m, hi, hj, hi2, hj2, by omega⟩) ?post2)
            case fin2 =>
              rintro c st' ⟨ev, i2, j2, o, g, ca, cb, rfl, m, h1, h2, h3, h4, h5⟩
              exact ⟨ev, .inr ⟨i2, j2, o, g, ca, cb, rfl, m, h1, h2, h3, h4, h5⟩⟩
            case post2 =>
              rintro c st2 ⟨ev, ⟨v, r, rfl, pe⟩ | ⟨i2, j2, o, g, ca, cb, rfl, m, h1, h2, h3, h4, h5⟩⟩
              · exact wpS_pure ⟨ev, v, _, rfl, pe⟩
              · dsimp only
                refine wpS_bind (wp_setMin fun st3 e3 => wpS_pure ⟨ev.trans e3, i2, j2, o, _, rfl, m, h1, h2, h3, h4, by omega⟩)
            case step2 =>
              rintro y c st' _ hy ⟨ev, i, j, o, g, ca, cb, rfl, m, hi, hj, hi2, hj2, hs2⟩
              dsimp only
              by_cases hg : g > 1
              · rw [if_pos hg]
                refine wpS_bind (wp_setMin fun st2 e2 => ?_)
                have ev2 := ev.trans e2
                have kd2 : kindOf st2 = kd := ev2.k.trans hkd
                refine wpS_bind (wp_elem (by omega) ?_)
                refine wpS_bind (wp_gallopL hlt hGa (hGb _ (by simp)) kd2 (by omega) (by omega) (by rw [seg0]; exact m.sa) fun p hp hr _ => ?_)
                obtain ⟨r1, r2⟩ := hr rfl
                rw [seg0] at r1 r2
                have r1 : ∀ x ∈ a.toList.take p, Le kf x b[j - 1] := fun x hx => r1 x (by rw [List.take_take, Nat.min_eq_left hp]; exact hx)
                have r2 : ∀ y ∈ (a.extract p i).toList, Le kf b[j - 1] y := fun y hy => Le.of_lt (r2 y (by rw [Array.toList_extract, List.extract_eq_drop_take, ← List.drop_take] at hy; exact hy))
                dsimp only
                by_cases hk0 : i - p > 0
                · rw [if_pos hk0]
                  have m1 := m.runA hp fun x hx y hy => (last_ge (by omega) (by omega) m.sb x hx).trans (r2 y hy)
                  by_cases hE1 : p = 0
                  · rw [if_pos (beq_iff_eq.mpr hE1)]
                    exact wpS_pure ⟨ev2, .inl ⟨_, _, rfl, m1.doneA hE1⟩⟩
                  · rw [if_neg (fun z => hE1 (beq_iff_eq.mp z))]
                    refine wpS_bind (wp_elem (by omega) ?_)
                    have m2 := m1.pushB (by omega) (by omega) r1
                    by_cases hE3 : j - 1 = 1
                    · rw [if_pos (beq_iff_eq.mpr hE3)]
                      exact wpS_pure ⟨ev2, .inl ⟨_, _, rfl, m2.doneF hE3 h0⟩⟩
                    · rw [if_neg (fun z => hE3 (beq_iff_eq.mp z))]
                      refine wpS_bind (wp_elem (by omega) ?_)
                      refine wpS_bind (wp_gallopL hlt hGb (hGa _ (by simp)) kd2 (by omega) (by omega) (by rw [seg0]; exact m2.sb) fun p2 hp2 _ hr1 => ?_)
                      obtain ⟨q1, q2⟩ := hr1 rfl
                      rw [seg0] at q1 q2
                      have q1 : ∀ x ∈ b.toList.take p2, Le kf x a[p - 1] := fun x hx => Le.of_lt (q1 x (by rw [List.take_take, Nat.min_eq_left hp2]; exact hx))
                      have q2 : ∀ y ∈ (b.extract p2 (j - 1)).toList, Le kf a[p - 1] y := fun y hy => q2 y (by rw [Array.toList_extract, List.extract_eq_drop_take, ← List.drop_take] at hy; exact hy)
                      dsimp only
                      by_cases hk10 : j - 1 - p2 > 0
                      · rw [if_pos hk10]
                        have m3 := m2.runB hp2 fun x hx y hy => (last_ge (by omega) (by omega) m2.sa x hx).trans (q2 y hy)
                        by_cases hE4 : p2 = 1
                        · rw [if_pos (beq_iff_eq.mpr hE4)]
                          exact wpS_pure ⟨ev2, .inl ⟨_, _, rfl, m3.doneF hE4 h0⟩⟩
                        · rw [if_neg (fun z => hE4 (beq_iff_eq.mp z))]
                          by_cases hE5 : p2 = 0
                          · rw [if_pos (beq_iff_eq.mpr hE5)]
                            exact wpS_pure ⟨ev2, .inl ⟨_, _, rfl, m3.doneB hE5⟩⟩
                          · rw [if_neg (fun z => hE5 (beq_iff_eq.mp z))]
                            refine wpS_bind (wp_elem (by omega) ?_)
                            have mA := m3.pushA (by omega) (by omega) q1
                            by_cases hA : p - 1 = 0
                            · rw [if_pos (beq_iff_eq.mpr hA)]
                              exact wpS_pure ⟨ev2, .inl ⟨_, _, rfl, mA.doneA hA⟩⟩
                            · rw [if_neg (fun z => hA (beq_iff_eq.mp z))]
                              by_cases h7 : (decide (i - p < 7) && decide (j - 1 - p2 < 7)) = true
                              · rw [if_pos h7]
                                exact wpS_pure ⟨ev2, .inr ⟨_, _, _, _, _, _, rfl, mA, by omega, by omega, by omega, by omega, by omega⟩⟩
                              · rw [if_neg h7]
                                exact wpS_pure ⟨ev2, _, _, _, _, _, _, rfl, mA, by omega, by omega, by omega, by omega, by omega⟩
                      · rw [if_neg hk10]
                        have ep : p2 = j - 1 := by omega
                        subst ep
                        refine wpS_bind (wp_elem (by omega) ?_)
                        have mA := m2.pushA (by omega) (by omega) q1
                        by_cases hA : p - 1 = 0
                        · rw [if_pos (beq_iff_eq.mpr hA)]
                          exact wpS_pure ⟨ev2, .inl ⟨_, _, rfl, mA.doneA hA⟩⟩
                        · rw [if_neg (fun z => hA (beq_iff_eq.mp z))]
                          by_cases h7 : (decide (i - p < 7) && decide (j - 1 - (j - 1) < 7)) = true
                          · rw [if_pos h7]
                            exact wpS_pure ⟨ev2, .inr ⟨_, _, _, _, _, _, rfl, mA, by omega, by omega, by omega, by omega, by omega⟩⟩
                          · rw [if_neg h7]
                            exact wpS_pure ⟨ev2, _, _, _, _, _, _, rfl, mA, by omega, by omega, by omega, by omega, by omega⟩
                · rw [if_neg hk0]
                  have ep : p = i := by omega
                  subst ep
                  refine wpS_bind (wp_elem (by omega) ?_)
                  have m2 := m.pushB (by omega) (by omega) r1
                  by_cases hE3 : j - 1 = 1
                  · rw [if_pos (beq_iff_eq.mpr hE3)]
                    exact wpS_pure ⟨ev2, .inl ⟨_, _, rfl, m2.doneF hE3 h0⟩⟩
                  · rw [if_neg (fun z => hE3 (beq_iff_eq.mp z))]
                    refine wpS_bind (wp_elem (by omega) ?_)
                    refine wpS_bind (wp_gallopL hlt hGb (hGa _ (by simp)) kd2 (by omega) (by omega) (by rw [seg0]; exact m2.sb) fun p2 hp2 _ hr1 => ?_)
                    obtain ⟨q1, q2⟩ := hr1 rfl
                    rw [seg0] at q1 q2
                    have q1 : ∀ x ∈ b.toList.take p2, Le kf x a[p - 1] := fun x hx => Le.of_lt (q1 x (by rw [List.take_take, Nat.min_eq_left hp2]; exact hx))
                    have q2 : ∀ y ∈ (b.extract p2 (j - 1)).toList, Le kf a[p - 1] y := fun y hy => q2 y (by rw [Array.toList_extract, List.extract_eq_drop_take, ← List.drop_take] at hy; exact hy)
                    dsimp only
                    by_cases hk10 : j - 1 - p2 > 0
                    · rw [if_pos hk10]
                      have m3 := m2.runB hp2 fun x hx y hy => (last_ge (by omega) (by omega) m2.sa x hx).trans (q2 y hy)
                      by_cases hE4 : p2 = 1
                      · rw [if_pos (beq_iff_eq.mpr hE4)]
                        exact wpS_pure ⟨ev2, .inl ⟨_, _, rfl, m3.doneF hE4 h0⟩⟩
                      · rw [if_neg (fun z => hE4 (beq_iff_eq.mp z))]
                        by_cases hE5 : p2 = 0
                        · rw [if_pos (beq_iff_eq.mpr hE5)]
                          exact wpS_pure ⟨ev2, .inl ⟨_, _, rfl, m3.doneB hE5⟩⟩
                        · rw [if_neg (fun z => hE5 (beq_iff_eq.mp z))]
                          refine wpS_bind (wp_elem (by omega) ?_)
                          have mA := m3.pushA (by omega) (by omega) q1
                          by_cases hA : p - 1 = 0
                          · rw [if_pos (beq_iff_eq.mpr hA)]
                            exact wpS_pure ⟨ev2, .inl ⟨_, _, rfl, mA.doneA hA⟩⟩
                          · rw [if_neg (fun z => hA (beq_iff_eq.mp z))]
                            by_cases h7 : (decide (p - p < 7) && decide (j - 1 - p2 < 7)) = true
                            · rw [if_pos h7]
                              exact wpS_pure ⟨ev2, .inr ⟨_, _, _, _, _, _, rfl, mA, by omega, by omega, by omega, by omega, by omega⟩⟩
                            · rw [if_neg h7]
                              exact wpS_pure ⟨ev2, _, _, _, _, _, _, rfl, mA, by omega, by omega, by omega, by omega, by omega⟩
                    · rw [if_neg hk10]
                      have ep : p2 = j - 1 := by omega
                      subst ep
                      refine wpS_bind (wp_elem (by omega) ?_)
                      have mA := m2.pushA (by omega) (by omega) q1
                      by_cases hA : p - 1 = 0
                      · rw [if_pos (beq_iff_eq.mpr hA)]
                        exact wpS_pure ⟨ev2, .inl ⟨_, _, rfl, mA.doneA hA⟩⟩
                      · rw [if_neg (fun z => hA (beq_iff_eq.mp z))]
                        by_cases h7 : (decide (p - p < 7) && decide (j - 1 - (j - 1) < 7)) = true
                        · rw [if_pos h7]
                          exact wpS_pure ⟨ev2, .inr ⟨_, _, _, _, _, _, rfl, mA, by omega, by omega, by omega, by omega, by omega⟩⟩
                        · rw [if_neg h7]
                          exact wpS_pure ⟨ev2, _, _, _, _, _, _, rfl, mA, by omega, by omega, by omega, by omega, by omega⟩
              · rw [if_neg hg]
                refine wpS_bind (wp_setMin fun st2 e2 => ?_)
                have ev2 := ev.trans e2
                have kd2 : kindOf st2 = kd := ev2.k.trans hkd
                refine wpS_bind (wp_elem (by omega) ?_)
                refine wpS_bind (wp_gallopL hlt hGa (hGb _ (by simp)) kd2 (by omega) (by omega) (by rw [seg0]; exact m.sa) fun p hp hr _ => ?_)
                obtain ⟨r1, r2⟩ := hr rfl
                rw [seg0] at r1 r2
                have r1 : ∀ x ∈ a.toList.take p, Le kf x b[j - 1] := fun x hx => r1 x (by rw [List.take_take, Nat.min_eq_left hp]; exact hx)
                have r2 : ∀ y ∈ (a.extract p i).toList, Le kf b[j - 1] y := fun y hy => Le.of_lt (r2 y (by rw [Array.toList_extract, List.extract_eq_drop_take, ← List.drop_take] at hy; exact hy))
                dsimp only
                by_cases hk0 : i - p > 0
                · rw [if_pos hk0]
                  have m1 := m.runA hp fun x hx y hy => (last_ge (by omega) (by omega) m.sb x hx).trans (r2 y hy)
                  by_cases hE1 : p = 0
                  · rw [if_pos (beq_iff_eq.mpr hE1)]
                    exact wpS_pure ⟨ev2, .inl ⟨_, _, rfl, m1.doneA hE1⟩⟩
                  · rw [if_neg (fun z => hE1 (beq_iff_eq.mp z))]
                    refine wpS_bind (wp_elem (by omega) ?_)
                    have m2 := m1.pushB (by omega) (by omega) r1
                    by_cases hE3 : j - 1 = 1
                    · rw [if_pos (beq_iff_eq.mpr hE3)]
                      exact wpS_pure ⟨ev2, .inl ⟨_, _, rfl, m2.doneF hE3 h0⟩⟩
                    · rw [if_neg (fun z => hE3 (beq_iff_eq.mp z))]
                      refine wpS_bind (wp_elem (by omega) ?_)
                      refine wpS_bind (wp_gallopL hlt hGb (hGa _ (by simp)) kd2 (by omega) (by omega) (by rw [seg0]; exact m2.sb) fun p2 hp2 _ hr1 => ?_)
                      obtain ⟨q1, q2⟩ := hr1 rfl
                      rw [seg0] at q1 q2
                      have q1 : ∀ x ∈ b.toList.take p2, Le kf x a[p - 1] := fun x hx => Le.of_lt (q1 x (by rw [List.take_take, Nat.min_eq_left hp2]; exact hx))
                      have q2 : ∀ y ∈ (b.extract p2 (j - 1)).toList, Le kf a[p - 1] y := fun y hy => q2 y (by rw [Array.toList_extract, List.extract_eq_drop_take, ← List.drop_take] at hy; exact hy)
                      dsimp only
                      by_cases hk10 : j - 1 - p2 > 0
                      · rw [if_pos hk10]
                        have m3 := m2.runB hp2 fun x hx y hy => (last_ge (by omega) (by omega) m2.sa x hx).trans (q2 y hy)
                        by_cases hE4 : p2 = 1
                        · rw [if_pos (beq_iff_eq.mpr hE4)]
                          exact wpS_pure ⟨ev2, .inl ⟨_, _, rfl, m3.doneF hE4 h0⟩⟩
                        · rw [if_neg (fun z => hE4 (beq_iff_eq.mp z))]
                          by_cases hE5 : p2 = 0
                          · rw [if_pos (beq_iff_eq.mpr hE5)]
                            exact wpS_pure ⟨ev2, .inl ⟨_, _, rfl, m3.doneB hE5⟩⟩
                          · rw [if_neg (fun z => hE5 (beq_iff_eq.mp z))]
                            refine wpS_bind (wp_elem (by omega) ?_)
                            have mA := m3.pushA (by omega) (by omega) q1
                            by_cases hA : p - 1 = 0
                            · rw [if_pos (beq_iff_eq.mpr hA)]
                              exact wpS_pure ⟨ev2, .inl ⟨_, _, rfl, mA.doneA hA⟩⟩
                            · rw [if_neg (fun z => hA (beq_iff_eq.mp z))]
                              by_cases h7 : (decide (i - p < 7) && decide (j - 1 - p2 < 7)) = true
                              · rw [if_pos h7]
                                exact wpS_pure ⟨ev2, .inr ⟨_, _, _, _, _, _, rfl, mA, by omega, by omega, by omega, by omega, by omega⟩⟩
                              · rw [if_neg h7]
                                exact wpS_pure ⟨ev2, _, _, _, _, _, _, rfl, mA, by omega, by omega, by omega, by omega, by omega⟩
                      · rw [if_neg hk10]
                        have ep : p2 = j - 1 := by omega
                        subst ep
                        refine wpS_bind (wp_elem (by omega) ?_)
                        have mA := m2.pushA (by omega) (by omega) q1
                        by_cases hA : p - 1 = 0
                        · rw [if_pos (beq_iff_eq.mpr hA)]
                          exact wpS_pure ⟨ev2, .inl ⟨_, _, rfl, mA.doneA hA⟩⟩
                        · rw [if_neg (fun z => hA (beq_iff_eq.mp z))]
                          by_cases h7 : (decide (i - p < 7) && decide (j - 1 - (j - 1) < 7)) = true
                          · rw [if_pos h7]
                            exact wpS_pure ⟨ev2, .inr ⟨_, _, _, _, _, _, rfl, mA, by omega, by omega, by omega, by omega, by omega⟩⟩
                          · rw [if_neg h7]
                            exact wpS_pure ⟨ev2, _, _, _, _, _, _, rfl, mA, by omega, by omega, by omega, by omega, by omega⟩
                · rw [if_neg hk0]
                  have ep : p = i := by omega
                  subst ep
                  refine wpS_bind (wp_elem (by omega) ?_)
                  have m2 := m.pushB (by omega) (by omega) r1
                  by_cases hE3 : j - 1 = 1
                  · rw [if_pos (beq_iff_eq.mpr hE3)]
                    exact wpS_pure ⟨ev2, .inl ⟨_, _, rfl, m2.doneF hE3 h0⟩⟩
                  · rw [if_neg (fun z => hE3 (beq_iff_eq.mp z))]
                    refine wpS_bind (wp_elem (by omega) ?_)
                    refine wpS_bind (wp_gallopL hlt hGb (hGa _ (by simp)) kd2 (by omega) (by omega) (by rw [seg0]; exact m2.sb) fun p2 hp2 _ hr1 => ?_)
                    obtain ⟨q1, q2⟩ := hr1 rfl
                    rw [seg0] at q1 q2
                    have q1 : ∀ x ∈ b.toList.take p2, Le kf x a[p - 1] := fun x hx => Le.of_lt (q1 x (by rw [List.take_take, Nat.min_eq_left hp2]; exact hx))
                    have q2 : ∀ y ∈ (b.extract p2 (j - 1)).toList, Le kf a[p - 1] y := fun y hy => q2 y (by rw [Array.toList_extract, List.extract_eq_drop_take, ← List.drop_take] at hy; exact hy)
                    dsimp only
                    by_cases hk10 : j - 1 - p2 > 0
                    · rw [if_pos hk10]
                      have m3 := m2.runB hp2 fun x hx y hy => (last_ge (by omega) (by omega) m2.sa x hx).trans (q2 y hy)
                      by_cases hE4 : p2 = 1
                      · rw [if_pos (beq_iff_eq.mpr hE4)]
                        exact wpS_pure ⟨ev2, .inl ⟨_, _, rfl, m3.doneF hE4 h0⟩⟩
                      · rw [if_neg (fun z => hE4 (beq_iff_eq.mp z))]
                        by_cases hE5 : p2 = 0
                        · rw [if_pos (beq_iff_eq.mpr hE5)]
                          exact wpS_pure ⟨ev2, .inl ⟨_, _, rfl, m3.doneB hE5⟩⟩
                        · rw [if_neg (fun z => hE5 (beq_iff_eq.mp z))]
                          refine wpS_bind (wp_elem (by omega) ?_)
                          have mA := m3.pushA (by omega) (by omega) q1
                          by_cases hA : p - 1 = 0
                          · rw [if_pos (beq_iff_eq.mpr hA)]
                            exact wpS_pure ⟨ev2, .inl ⟨_, _, rfl, mA.doneA hA⟩⟩
                          · rw [if_neg (fun z => hA (beq_iff_eq.mp z))]
                            by_cases h7 : (decide (p - p < 7) && decide (j - 1 - p2 < 7)) = true
                            · rw [if_pos h7]
                              exact wpS_pure ⟨ev2, .inr ⟨_, _, _, _, _, _, rfl, mA, by omega, by omega, by omega, by omega, by omega⟩⟩
                            · rw [if_neg h7]
                              exact wpS_pure ⟨ev2, _, _, _, _, _, _, rfl, mA, by omega, by omega, by omega, by omega, by omega⟩
                    · rw [if_neg hk10]
                      have ep : p2 = j - 1 := by omega
                      subst ep
                      refine wpS_bind (wp_elem (by omega) ?_)
                      have mA := m2.pushA (by omega) (by omega) q1
                      by_cases hA : p - 1 = 0
                      · rw [if_pos (beq_iff_eq.mpr hA)]
                        exact wpS_pure ⟨ev2, .inl ⟨_, _, rfl, mA.doneA hA⟩⟩
                      · rw [if_neg (fun z => hA (beq_iff_eq.mp z))]
                        by_cases h7 : (decide (p - p < 7) && decide (j - 1 - (j - 1) < 7)) = true
                        · rw [if_pos h7]
                          exact wpS_pure ⟨ev2, .inr ⟨_, _, _, _, _, _, rfl, mA, by omega, by omega, by omega, by omega, by omega⟩⟩
                        · rw [if_neg h7]
                          exact wpS_pure ⟨ev2, _, _, _, _, _, _, rfl, mA, by omega, by omega, by omega, by omega, by omega⟩
end
end LS
set_option maxHeartbeats 4000000
namespace LS
open PySem PyProof.Rows
section
variable {M : Model} {A : Around} {E : Value → Shared → Prop} {s : Shared} {O : KeyOrd} {kf : Keyed → O.α} {G : Keyed → Prop} {kd : SortKind}
abbrev dK : Keyed := (Value.none, Value.none)
def ky (kf : Keyed → O.α) (a : Array Keyed) (i : Nat) : O.α := kf ((a[i]?).getD dK)
def Up (kf : Keyed → O.α) (a : Array Keyed) (lo hi : Nat) : Prop := ∀ i j, lo ≤ i → i ≤ j → j < hi → O.kle (ky kf a i) (ky kf a j)
def Dn (kf : Keyed → O.α) (a : Array Keyed) (lo hi : Nat) : Prop := ∀ i j, lo ≤ i → i ≤ j → j < hi → O.kle (ky kf a j) (ky kf a i)
theorem ky_of {a b : Array Keyed} {i j : Nat} (h : a[i]? = b[j]?) : ky kf a i = ky kf b j := by
  unfold ky
  rw [h]
theorem Up.one (a : Array Keyed) (lo : Nat) : Up kf a lo (lo + 1) := fun i j h1 h2 h3 => by
  have e : i = j := by omega
  subst e
  exact KeyOrd.kle_refl _
theorem Up.eq {a b : Array Keyed} {lo hi : Nat} (h : Up kf a lo hi) (e : ∀ i, lo ≤ i → i < hi → b[i]? = a[i]?) : Up kf b lo hi := fun i j h1 h2 h3 => by
  rw [ky_of (e i h1 (by omega)), ky_of (e j (by omega) h3)]
  exact h i j h1 h2 h3
structure Chg (st st' : SortSt) (lo hi : Nat) : Prop where
  sz : (arrOf st').size = (arrOf st).size
  out : ∀ i, i < lo ∨ hi ≤ i → (arrOf st')[i]? = (arrOf st)[i]?
  perm : (arrOf st').toList.Perm (arrOf st).toList
  p : pendingOf st' = pendingOf st
  f : failedOf st' = failedOf st
  k : kindOf st' = kindOf st
theorem Chg.refl (st : SortSt) (lo hi : Nat) : Chg st st lo hi := ⟨rfl, fun _ _ => rfl, List.Perm.refl _, rfl, rfl, rfl⟩
theorem Chg.trans {st st' st'' : SortSt} {lo hi : Nat} (a : Chg st st' lo hi) (b : Chg st' st'' lo hi) : Chg st st'' lo hi :=
  ⟨b.sz.trans a.sz, fun i h => (b.out i h).trans (a.out i h), b.perm.trans a.perm, b.p.trans a.p, b.f.trans a.f, b.k.trans a.k⟩
theorem Chg.good {st st' : SortSt} {lo hi : Nat} (a : Chg st st' lo hi) (h : ∀ z ∈ (arrOf st).toList, G z) : ∀ z ∈ (arrOf st').toList, G z := fun z hz => h z (a.perm.mem_iff.mp hz)
theorem Chg.set {st : SortSt} {xs : Array Keyed} {lo hi : Nat} (h1 : xs.size = (arrOf st).size) (h2 : ∀ i, i < lo ∨ hi ≤ i → xs[i]? = (arrOf st)[i]?) (h3 : xs.Perm (arrOf st)) : Chg st (setArr st xs) lo hi :=
  ⟨h1, h2, Array.perm_iff_toList_perm.mp h3, rfl, rfl, rfl⟩
theorem wp_ltAt (hlt : LtOk M A E s kf G kd) {st : SortSt} {i j : Nat} {Q : Option Bool → SortSt → Prop} (hG : ∀ z ∈ (arrOf st).toList, G z) (hkd : kindOf st = kd) (hi : i < (arrOf st).size) (hj : j < (arrOf st).size)
    (h : Q (some (O.blt (ky kf (arrOf st) i) (ky kf (arrOf st) j))) st) : wpS M A E s (ltAt' i j) Q st := by
  rw [ltAt'_eq]
  refine wpS_bind (wpS_get (wpS_bind (wp_elem hi (wpS_bind (wp_elem hj ?_)))))
  refine hlt _ _ st _ (hG _ (by simp)) (hG _ (by simp)) hkd ?_
  have e1 : ky kf (arrOf st) i = kf (arrOf st)[i] := by unfold ky; rw [Array.getElem?_eq_getElem hi, Option.getD_some]
  have e2 : ky kf (arrOf st) j = kf (arrOf st)[j] := by unfold ky; rw [Array.getElem?_eq_getElem hj, Option.getD_some]
  rw [← e1, ← e2]
  exact h
theorem ky_bubble {a : Array Keyed} {src d : Nat} (hs : src < a.size) (hd : d ≤ src) (k : Nat) :
    ky kf (bubble a src d) k = if k = src - d then ky kf a src else if src - d < k ∧ k ≤ src then ky kf a (k - 1) else ky kf a k := by
  have e := getElem?_bubble hs d hd k
  split
  · rename_i h1
    rw [if_pos h1] at e
    exact ky_of e
  · rename_i h1
    rw [if_neg h1] at e
    split
    · rename_i h2
      rw [if_pos h2] at e
      exact ky_of e
    · rename_i h2
      rw [if_neg h2] at e
      exact ky_of e
theorem ky_mirror {a : Array Keyed} {i j : Nat} (hj : j ≤ a.size) (k : Nat) : ky kf (mirror a i j ((j - i) / 2)) k = if i ≤ k ∧ k < j then ky kf a (i + j - 1 - k) else ky kf a k := by
  have e := getElem?_mirror_all (i := i) hj k
  split
  · rename_i h1
    rw [if_pos h1] at e
    exact ky_of e
  · rename_i h1
    rw [if_neg h1] at e
    exact ky_of e
theorem wp_binarySort (hlt : LtOk M A E s kf G kd) {st : SortSt} {lo n ok : Nat} {Q : Bool → SortSt → Prop} (hG : ∀ z ∈ (arrOf st).toList, G z) (hkd : kindOf st = kd) (hn : lo + n ≤ (arrOf st).size) (hok : ok ≤ n) (hs : Up kf (arrOf st) lo (lo + ok))
    (h : ∀ st', Chg st st' lo (lo + n) → Up kf (arrOf st') lo (lo + n) → Q true st') : wpS M A E s (binarySort' lo n ok) Q st := by
  rw [binarySort'_eq]
  refine wpS_bind (wpS_mono (wpS_forRange (I := fun k c st' => c = (none, ()) ∧ Chg st st' lo (lo + n) ∧ Up kf (arrOf st') lo (lo + min k n)) (Q := fun c st' => c = (none, ()) ∧ Chg st st' lo (lo + n) ∧ Up kf (arrOf st') lo (lo + n)) ?step ?fin ?init) ?post)
  case post =>
    rintro c st' ⟨rfl, hc, hu⟩
    exact wpS_pure (h st' hc hu)
  case init =>
    refine ⟨rfl, Chg.refl st _ _, fun i j h1 h2 h3 => ?_⟩
    by_cases h0 : ok = 0
    · exact Up.one _ lo i j h1 h2 (by omega)
    · exact hs i j h1 h2 (by omega)
  case fin =>
    rintro c st' ⟨rfl, hc, hu⟩
    rw [show min (max (max ok 1) n) n = n by omega] at hu
    exact ⟨rfl, hc, hu⟩
  case step =>
    rintro k c st' hk1 hk2 ⟨rfl, hc, hu⟩
    rw [show min k n = k by omega] at hu
    have hG' := hc.good hG
    have hkd' : kindOf st' = kd := hc.k.trans hkd
    have hsz := hc.sz
    refine wpS_bind (wpS_mono (wpS_forRange (I := fun x c st'' => st'' = st' ∧ ∃ l r, c = (none, l, r) ∧ l ≤ r ∧ r ≤ k ∧ r - l ≤ k - x ∧ (∀ i, lo ≤ i → i < lo + l → O.kle (ky kf (arrOf st') i) (ky kf (arrOf st') (lo + k))) ∧ (∀ i, lo + r ≤ i → i < lo + k → O.klt (ky kf (arrOf st') (lo + k)) (ky kf (arrOf st') i)))
      (Q := fun c st'' => st'' = st' ∧ ∃ l r, c = (none, l, r) ∧ l ≤ k ∧ (∀ i, lo ≤ i → i < lo + l → O.kle (ky kf (arrOf st') i) (ky kf (arrOf st') (lo + k))) ∧ (∀ i, lo + l ≤ i → i < lo + k → O.klt (ky kf (arrOf st') (lo + k)) (ky kf (arrOf st') i)))
      ?istep ?ifin ⟨rfl, 0, k, rfl, by omega, by omega, by omega, fun i h1 h2 => by omega, fun i h1 h2 => by omega⟩) ?ipost)
    case ifin =>
      rintro c st'' ⟨rfl, l, r, rfl, h1, h2, h3, h4, h5⟩
      have e : l = r := by omega
      subst e
      exact ⟨rfl, l, l, rfl, h2, h4, h5⟩
    case istep =>
      rintro x c st'' _ hx ⟨rfl, l, r, rfl, h1, h2, h3, h4, h5⟩
      dsimp only
      by_cases hge : l ≥ r
      · rw [if_pos hge]
        have e : l = r := by omega
        subst e
        exact wpS_pure ⟨rfl, l, l, rfl, h2, h4, h5⟩
      · rw [if_neg hge]
        refine wpS_bind (wp_ltAt hlt hG' hkd' (by omega) (by omega) ?_)
        dsimp only
        cases hw : O.blt (ky kf (arrOf st'') (lo + k)) (ky kf (arrOf st'') (lo + (l + r) / 2)) with
        | true =>
          rw [if_pos rfl]
          exact wpS_pure ⟨rfl, l, _, rfl, by omega, by omega, by omega, h4, fun i a1 a2 => KeyOrd.klt_of_klt_of_kle hw (hu _ _ (by omega) a1 a2)⟩
        | false =>
          rw [if_neg Bool.false_ne_true]
          exact wpS_pure ⟨rfl, _, r, rfl, by omega, by omega, by omega, fun i a1 a2 => KeyOrd.kle_trans (hu i (lo + (l + r) / 2) a1 (by omega) (by omega)) hw, h5⟩
    case ipost =>
      rintro c st'' ⟨rfl, l, r, rfl, hlk, h4, h5⟩
      dsimp only
      rw [moveDown'_eq]
      have hsrc : lo + k < (arrOf st'').size := by omega
      have hd : lo + k - (lo + l) ≤ lo + k := by omega
      refine wpS_bind (wpS_modify (wpS_pure ⟨rfl, hc.trans (Chg.set (bubble_size _ _ _) (fun i hi => ?_) (bubble_perm _ _ _)), fun i j a1 a2 a3 => ?_⟩))
      · rw [getElem?_bubble hsrc _ hd i, if_neg (by omega), if_neg (by omega)]
      · rw [show min (k + 1) n = k + 1 by omega] at a3
        show O.kle (ky kf (bubble (arrOf st'') (lo + k) (lo + k - (lo + l))) i) (ky kf (bubble (arrOf st'') (lo + k) (lo + k - (lo + l))) j)
        rw [ky_bubble hsrc hd, ky_bubble hsrc hd, show lo + k - (lo + k - (lo + l)) = lo + l by omega]
        repeat' split
        all_goals first
          | (exfalso; omega)
          | exact KeyOrd.kle_refl _
          | exact h4 _ (by omega) (by omega)
          | exact KeyOrd.kle_of_klt (h5 _ (by omega) (by omega))
          | exact hu _ _ (by omega) (by omega) (by omega)
def ascFrom (lo n m : Nat) : StateT SortSt Sem (Option Nat) := do
  let mut n := n
  for _ in [n:m] do
    let some sm ← ltAt' (lo + n) (lo + n - 1) | return none
    if sm then break
    n := n + 1
  return some n
def downPart (lo n m : Nat) : StateT SortSt Sem (Option Nat) := do
  rule "list.sort.descending-run"
  let mut n := n + 1
  let mut q := 0
  for _ in [n:m] do
    let some sm ← ltAt' (lo + n) (lo + n - 1) | return none
    if sm then
      if q > 0 then reverseSlice' (lo + n - (q + 1)) (lo + n)
      q := 0
    else
      let some lg ← ltAt' (lo + n - 1) (lo + n) | return none
      if lg then break
      q := q + 1
    n := n + 1
  if q > 0 then reverseSlice' (lo + n - (q + 1)) (lo + n)
  reverseSlice' lo (lo + n)
  ascFrom lo n m
theorem run_eq (lo m : Nat) : countRun' lo m = (do
    let mut n := 1
    for _ in [1:m] do
      let some sm ← ltAt' (lo + n) (lo + n - 1) | return none
      if sm then break
      n := n + 1
    if n == m then return some n
    if n > 1 then
      let some up ← ltAt' lo (lo + n - 1) | return none
      if up then return some n
      reverseSlice' lo (lo + n)
    downPart lo n m) := rfl
theorem wp_ascFrom (hlt : LtOk M A E s kf G kd) {st : SortSt} {lo n m : Nat} {Q : Option Nat → SortSt → Prop} (hG : ∀ z ∈ (arrOf st).toList, G z) (hkd : kindOf st = kd) (h1 : 1 ≤ n) (hnm : n ≤ m) (hm : lo + m ≤ (arrOf st).size) (hs : Up kf (arrOf st) lo (lo + n))
    (h : ∀ k, n ≤ k → k ≤ m → Up kf (arrOf st) lo (lo + k) → Q (some k) st) : wpS M A E s (ascFrom lo n m) Q st := by
  unfold ascFrom
  refine wpS_bind (wpS_mono (wpS_forRange (I := fun x c st' => st' = st ∧ c = (none, x) ∧ Up kf (arrOf st) lo (lo + x)) (Q := fun c st' => st' = st ∧ ∃ k, c = (none, k) ∧ n ≤ k ∧ k ≤ m ∧ Up kf (arrOf st) lo (lo + k)) ?step ?fin ⟨rfl, rfl, hs⟩) ?post)
  case fin =>
    rintro c st' ⟨rfl, rfl, hu⟩
    rw [show max n m = m by omega] at hu ⊢
    exact ⟨rfl, m, rfl, hnm, Nat.le_refl _, hu⟩
  case post =>
    rintro c st' ⟨rfl, k, rfl, a1, a2, hu⟩
    exact wpS_pure (h k a1 a2 hu)
  case step =>
    rintro x c st' a1 a2 ⟨rfl, rfl, hu⟩
    dsimp only
    refine wpS_bind (wp_ltAt hlt hG hkd (by omega) (by omega) ?_)
    dsimp only
    cases hw : O.blt (ky kf (arrOf st') (lo + x)) (ky kf (arrOf st') (lo + x - 1)) with
    | true =>
      rw [if_pos rfl]
      exact wpS_pure ⟨rfl, x, rfl, a1, by omega, hu⟩
    | false =>
      rw [if_neg Bool.false_ne_true]
      refine wpS_pure ⟨rfl, rfl, fun i j b1 b2 b3 => ?_⟩
      by_cases hj : j < lo + x
      · exact hu i j b1 b2 hj
      · have e : j = lo + x := by omega
        subst e
        by_cases hi : i = lo + x
        · rw [hi]
          exact KeyOrd.kle_refl _
        · exact KeyOrd.kle_trans (hu i (lo + x - 1) b1 (by omega) (by omega)) hw
theorem ky_flat {a : Array Keyed} {i j : Nat} (hj : j ≤ a.size) (he : ∀ k, i ≤ k → k < j → ky kf a k = ky kf a (j - 1)) (k : Nat) : ky kf (mirror a i j ((j - i) / 2)) k = ky kf a k := by
  rw [ky_mirror hj]
  split
  · rw [he _ (by omega) (by omega), he k (by omega) (by omega)]
  · rfl
theorem chg_mirror {st : SortSt} {i j lo hi : Nat} (hj : j ≤ (arrOf st).size) (h1 : lo ≤ i) (h2 : j ≤ hi) : Chg st (setArr st (mirror (arrOf st) i j ((j - i) / 2))) lo hi :=
  Chg.set (mirror_size _ _ _ _) (fun k hk => by rw [getElem?_mirror_all hj, if_neg (by omega)]) (mirror_perm _ _ _ _)
theorem wp_mirror {st : SortSt} {i j : Nat} {Q : Unit → SortSt → Prop} (h : Q () (setArr st (mirror (arrOf st) i j ((j - i) / 2)))) : wpS M A E s (reverseSlice' i j) Q st := by
  rw [reverseSlice'_eq]
  exact wpS_modify h
theorem wp_down (hlt : LtOk M A E s kf G kd) {st : SortSt} {lo n m : Nat} {Q : Option Nat → SortSt → Prop} (hG : ∀ z ∈ (arrOf st).toList, G z) (hkd : kindOf st = kd) (hnm : n + 1 ≤ m) (hm : lo + m ≤ (arrOf st).size) (hs : Dn kf (arrOf st) lo (lo + (n + 1)))
    (h : ∀ k st', Chg st st' lo (lo + m) → 1 ≤ k → k ≤ m → Up kf (arrOf st') lo (lo + k) → Q (some k) st') : wpS M A E s (downPart lo n m) Q st := by
  unfold downPart
  refine wpS_bind (wpS_lift (wpAny_rule ⟨rfl, ?_⟩))
  dsimp only
  refine wpS_bind (wpS_mono (wpS_forRange (I := fun x c st' => ∃ q, c = (none, x, q) ∧ Chg st st' lo (lo + m) ∧ Dn kf (arrOf st') lo (lo + x) ∧ q + 1 ≤ x ∧ (∀ i, lo + x - (q + 1) ≤ i → i < lo + x → ky kf (arrOf st') i = ky kf (arrOf st') (lo + x - 1)))
    (Q := fun c st' => ∃ k q, c = (none, k, q) ∧ k ≤ m ∧ Chg st st' lo (lo + m) ∧ Dn kf (arrOf st') lo (lo + k) ∧ q + 1 ≤ k ∧ (∀ i, lo + k - (q + 1) ≤ i → i < lo + k → ky kf (arrOf st') i = ky kf (arrOf st') (lo + k - 1))) ?step ?fin
    ⟨0, rfl, Chg.refl st _ _, hs, by omega, fun i a1 a2 => by rw [show i = lo + (n + 1) - 1 by omega]⟩) ?post)
  case fin =>
    rintro c st' ⟨q, rfl, hc, hd, hq, he⟩
    rw [show max (n + 1) m = m by omega] at hd hq he ⊢
    exact ⟨m, q, rfl, Nat.le_refl _, hc, hd, hq, he⟩
  case step =>
    rintro x c st' a1 a2 ⟨q, rfl, hc, hd, hq, he⟩
    have hG' := hc.good hG
    have hkd' : kindOf st' = kd := hc.k.trans hkd
    have hsz := hc.sz
    dsimp only
    refine wpS_bind (wp_ltAt hlt hG' hkd' (by omega) (by omega) ?_)
    dsimp only
    cases hw : O.blt (ky kf (arrOf st') (lo + x)) (ky kf (arrOf st') (lo + x - 1)) with
    | true =>
      rw [if_pos rfl]
      have go : ∀ b : Array Keyed, (∀ k, ky kf b k = ky kf (arrOf st') k) → Dn kf b lo (lo + (x + 1)) := fun b hb i j b1 b2 b3 => by
        rw [hb, hb]
        by_cases hj : j < lo + x
        · exact hd i j b1 b2 hj
        · have e : j = lo + x := by omega
          subst e
          by_cases hi : i = lo + x
          · rw [hi]
            exact KeyOrd.kle_refl _
          · exact KeyOrd.kle_trans (KeyOrd.kle_of_klt hw) (hd i (lo + x - 1) b1 (by omega) (by omega))
      by_cases hq0 : q > 0
      · rw [if_pos hq0]
        refine wpS_bind (wp_mirror (wpS_pure ⟨0, rfl, hc.trans (chg_mirror (by omega) (by omega) (by omega)), go _ (ky_flat (by omega) he), by omega, fun i b1 b2 => by rw [show i = lo + (x + 1) - 1 by omega]⟩))
      · rw [if_neg hq0]
        exact wpS_pure ⟨0, rfl, hc, go _ fun _ => rfl, by omega, fun i b1 b2 => by rw [show i = lo + (x + 1) - 1 by omega]⟩
    | false =>
      rw [if_neg Bool.false_ne_true]
      refine wpS_bind (wp_ltAt hlt hG' hkd' (by omega) (by omega) ?_)
      dsimp only
      cases hv : O.blt (ky kf (arrOf st') (lo + x - 1)) (ky kf (arrOf st') (lo + x)) with
      | true =>
        rw [if_pos rfl]
        exact wpS_pure ⟨x, q, rfl, by omega, hc, hd, hq, he⟩
      | false =>
        rw [if_neg Bool.false_ne_true]
        have ex : ky kf (arrOf st') (lo + x) = ky kf (arrOf st') (lo + x - 1) := KeyOrd.kle_antisymm hv hw
        refine wpS_pure ⟨q + 1, rfl, hc, fun i j b1 b2 b3 => ?_, by omega, fun i b1 b2 => ?_⟩
        · by_cases hj : j < lo + x
          · exact hd i j b1 b2 hj
          · have e : j = lo + x := by omega
            subst e
            by_cases hi : i = lo + x
            · rw [hi]
              exact KeyOrd.kle_refl _
            · rw [ex]
              exact hd i (lo + x - 1) b1 (by omega) (by omega)
        · rw [show lo + (x + 1) - 1 = lo + x by omega]
          by_cases hi : i = lo + x
          · rw [hi]
          · rw [ex]
            exact he i (by omega) (by omega)
  case post =>
    rintro c st' ⟨k, q, rfl, hk, hc, hd, hq, he⟩
    have hsz := hc.sz
    dsimp only
    have fin : ∀ st2, Chg st st2 lo (lo + m) → Dn kf (arrOf st2) lo (lo + k) → wpS M A E s (do reverseSlice' lo (lo + k); ascFrom lo k m) Q st2 := fun st2 hc2 hd2 => by
      have hz := hc2.sz
      have hc3 : Chg st (setArr st2 (mirror (arrOf st2) lo (lo + k) ((lo + k - lo) / 2))) lo (lo + m) := hc2.trans (chg_mirror (by omega) (Nat.le_refl _) (by omega))
      refine wpS_bind (wp_mirror (wp_ascFrom hlt (hc3.good hG) (hc3.k.trans hkd) (by omega) hk (by have := hc3.sz; omega) (fun i j b1 b2 b3 => ?_) fun k' b1 b2 hu => h k' _ hc3 (by omega) b2 hu))
      show O.kle (ky kf (mirror (arrOf st2) lo (lo + k) ((lo + k - lo) / 2)) i) (ky kf (mirror (arrOf st2) lo (lo + k) ((lo + k - lo) / 2)) j)
      rw [ky_mirror (by omega), ky_mirror (by omega), if_pos (by omega), if_pos (by omega)]
      exact hd2 _ _ (by omega) (by omega) (by omega)
    by_cases hq0 : q > 0
    · rw [if_pos hq0]
      refine wpS_bind (wp_mirror ?_)
      refine fin _ (hc.trans (chg_mirror (by omega) (by omega) (by omega))) fun i j b1 b2 b3 => ?_
      show O.kle (ky kf (mirror (arrOf st') _ _ _) j) (ky kf (mirror (arrOf st') _ _ _) i)
      rw [ky_flat (by omega) he, ky_flat (by omega) he]
      exact hd i j b1 b2 b3
    · rw [if_neg hq0]
      exact fin _ hc hd
theorem wp_run (hlt : LtOk M A E s kf G kd) {st : SortSt} {lo m : Nat} {Q : Option Nat → SortSt → Prop} (hG : ∀ z ∈ (arrOf st).toList, G z) (hkd : kindOf st = kd) (h1 : 1 ≤ m) (hm : lo + m ≤ (arrOf st).size)
    (h : ∀ k st', Chg st st' lo (lo + m) → 1 ≤ k → k ≤ m → Up kf (arrOf st') lo (lo + k) → Q (some k) st') : wpS M A E s (countRun' lo m) Q st := by
  rw [run_eq]
  refine wpS_bind (wpS_mono (wpS_forRange (I := fun x c st' => st' = st ∧ c = (none, x) ∧ Up kf (arrOf st) lo (lo + x))
    (Q := fun c st' => st' = st ∧ ∃ k, c = (none, k) ∧ 1 ≤ k ∧ k ≤ m ∧ Up kf (arrOf st) lo (lo + k) ∧ (k = m ∨ O.klt (ky kf (arrOf st) (lo + k)) (ky kf (arrOf st) (lo + k - 1)))) ?step ?fin ⟨rfl, rfl, Up.one _ _⟩) ?post)
  case fin =>
    rintro c st' ⟨rfl, rfl, hu⟩
    rw [show max 1 m = m by omega] at hu ⊢
    exact ⟨rfl, m, rfl, h1, Nat.le_refl _, hu, .inl rfl⟩
  case step =>
    rintro x c st' a1 a2 ⟨rfl, rfl, hu⟩
    dsimp only
    refine wpS_bind (wp_ltAt hlt hG hkd (by omega) (by omega) ?_)
    dsimp only
    cases hw : O.blt (ky kf (arrOf st') (lo + x)) (ky kf (arrOf st') (lo + x - 1)) with
    | true =>
      rw [if_pos rfl]
      exact wpS_pure ⟨rfl, x, rfl, a1, by omega, hu, .inr hw⟩
    | false =>
      rw [if_neg Bool.false_ne_true]
      refine wpS_pure ⟨rfl, rfl, fun i j b1 b2 b3 => ?_⟩
      by_cases hj : j < lo + x
      · exact hu i j b1 b2 hj
      · have e : j = lo + x := by omega
        subst e
        by_cases hi : i = lo + x
        · rw [hi]
          exact KeyOrd.kle_refl _
        · exact KeyOrd.kle_trans (hu i (lo + x - 1) b1 (by omega) (by omega)) hw
  case post =>
    rintro c st' ⟨rfl, k, rfl, a1, a2, hu, hor⟩
    dsimp only
    by_cases hkm : k = m
    · rw [if_pos (beq_iff_eq.mpr hkm)]
      exact wpS_pure (h k st' (Chg.refl _ _ _) a1 a2 hu)
    · rw [if_neg (fun z => hkm (beq_iff_eq.mp z))]
      have hw := hor.resolve_left hkm
      by_cases hk1 : k > 1
      · rw [if_pos hk1]
        refine wpS_bind (wp_ltAt hlt hG hkd (by omega) (by omega) ?_)
        dsimp only
        cases hr : O.blt (ky kf (arrOf st') lo) (ky kf (arrOf st') (lo + k - 1)) with
        | true =>
          rw [if_pos rfl]
          exact wpS_pure (h k st' (Chg.refl _ _ _) a1 a2 hu)
        | false =>
          rw [if_neg Bool.false_ne_true]
          have all : ∀ i, lo ≤ i → i < lo + k → ky kf (arrOf st') i = ky kf (arrOf st') (lo + k - 1) := fun i b1 b2 =>
            KeyOrd.kle_antisymm (hu i (lo + k - 1) b1 (by omega) (by omega)) (KeyOrd.kle_trans hr (hu lo i (Nat.le_refl _) b1 b2))
          have hc : Chg st' (setArr st' (mirror (arrOf st') lo (lo + k) ((lo + k - lo) / 2))) lo (lo + m) := chg_mirror (by omega) (Nat.le_refl _) (by omega)
          refine wpS_bind (wp_mirror (wp_down hlt (hc.good hG) (hc.k.trans hkd) (by omega) (by have := hc.sz; omega) (fun i j b1 b2 b3 => ?_) fun k' st2 hc2 => h k' st2 (hc.trans hc2)))
          show O.kle (ky kf (mirror (arrOf st') _ _ _) j) (ky kf (mirror (arrOf st') _ _ _) i)
          rw [ky_flat (by omega) all, ky_flat (by omega) all]
          by_cases hj : j < lo + k
          · rw [all i b1 (by omega), all j (by omega) hj]
            exact KeyOrd.kle_refl _
          · have e : j = lo + k := by omega
            subst e
            by_cases hi : i = lo + k
            · rw [hi]
              exact KeyOrd.kle_refl _
            · rw [all i b1 (by omega)]
              exact KeyOrd.kle_of_klt hw
      · rw [if_neg hk1]
        have e : k = 1 := by omega
        subst e
        refine wp_down hlt hG hkd (by omega) hm (fun i j b1 b2 b3 => ?_) h
        by_cases hij : i = j
        · rw [hij]
          exact KeyOrd.kle_refl _
        · have e1 : i = lo := by omega
          have e2 : j = lo + 1 := by omega
          rw [e1, e2]
          exact KeyOrd.kle_of_klt hw
end
end LS
set_option maxHeartbeats 4000000
namespace LS
open PySem PyProof.Rows
section
variable {M : Model} {A : Around} {E : Value → Shared → Prop} {s : Shared} {O : KeyOrd} {kf : Keyed → O.α} {G : Keyed → Prop} {kd : SortKind}
theorem wp_set {x st : SortSt} {Q : PUnit → SortSt → Prop} (h : Q ⟨⟩ x) : wpS M A E s (set x : StateT SortSt Sem PUnit) Q st := by
  unfold wpS
  rw [StateT.run_set]
  exact wpAny_pure ⟨rfl, h⟩
theorem lay_toList (b : Nat) : ∀ (l : List Keyed) (j : Nat) (a : Array Keyed), b + j + l.length ≤ a.size →
    ((l.zipIdx j).foldl (fun a (x : Keyed × Nat) => a.setIfInBounds (b + x.2) x.1) a).toList = a.toList.take (b + j) ++ l ++ a.toList.drop (b + j + l.length)
  | [], j, a, _ => by simp
  | p :: r, j, a, h => by
    rw [List.length_cons] at h
    rw [List.zipIdx_cons, List.foldl_cons]
    have hz : (a.setIfInBounds (b + j) p).size = a.size := Array.size_setIfInBounds
    have hl : b + j < a.toList.length := by rw [Array.length_toList]; omega
    rw [lay_toList b r (j + 1) _ (by rw [hz]; omega), Array.toList_setIfInBounds]
    have e1 : (a.toList.set (b + j) p).take (b + (j + 1)) = a.toList.take (b + j) ++ [p] := by
      rw [show b + (j + 1) = b + j + 1 by omega, List.take_add_one, List.getElem?_set_self hl, List.take_set_of_le (Nat.le_refl _)]
      rfl
    have e2 : (a.toList.set (b + j) p).drop (b + (j + 1) + r.length) = a.toList.drop (b + j + (p :: r).length) := by
      rw [List.drop_set_of_lt (by omega), List.length_cons]
      congr 1
      omega
    rw [e1, e2]
    simp [List.append_assoc]
abbrev seg (a : Array Keyed) (lo n : Nat) : List Keyed := (a.toList.drop lo).take n
theorem seg_len {a : Array Keyed} {lo n : Nat} (h : lo + n ≤ a.size) : (seg a lo n).length = n := by
  rw [List.length_take, List.length_drop, Array.length_toList]
  omega
theorem Up.srt {a : Array Keyed} {lo n : Nat} (h : Up kf a lo (lo + n)) (hn : lo + n ≤ a.size) : Srt kf (seg a lo n) := by
  refine List.pairwise_iff_getElem.mpr fun i j hi hj hij => ?_
  rw [seg_len hn] at hi hj
  have e1 : (seg a lo n)[i]? = some a[lo + i] := seg_get hn hi (by omega)
  have e2 : (seg a lo n)[j]? = some a[lo + j] := seg_get hn hj (by omega)
  have f1 := (List.getElem?_eq_some_iff.mp e1).2
  have f2 := (List.getElem?_eq_some_iff.mp e2).2
  rw [f1, f2]
  have := h (lo + i) (lo + j) (by omega) (by omega) (by omega)
  unfold ky at this
  rw [Array.getElem?_eq_getElem (by omega), Array.getElem?_eq_getElem (by omega)] at this
  exact this
theorem up_of {a : Array Keyed} {lo n : Nat} (h : Srt kf (seg a lo n)) (hn : lo + n ≤ a.size) : Up kf a lo (lo + n) := fun i j h1 h2 h3 => by
  have e1 := seg_get (xs := a) hn (j := i - lo) (by omega) (by omega)
  have e2 := seg_get (xs := a) hn (j := j - lo) (by omega) (by omega)
  have := srt_get h (i := i - lo) (j := j - lo) (by omega) e1 e2
  unfold ky
  rw [Array.getElem?_eq_getElem (by omega), Array.getElem?_eq_getElem (by omega)]
  have g1 : a[lo + (i - lo)] = a[i] := by congr 1; omega
  have g2 : a[lo + (j - lo)] = a[j] := by congr 1; omega
  rw [g1, g2] at this
  exact this
theorem ext_seg (a : Array Keyed) {lo hi n : Nat} (h : hi = lo + n) : (a.extract lo hi).toList = seg a lo n := by
  rw [h, ext_toList]
theorem seg_drop (a : Array Keyed) (lo n k : Nat) : (seg a lo n).drop k = seg a (lo + k) (n - k) := by
  rw [List.drop_take, List.drop_drop]
theorem seg_take (a : Array Keyed) (lo n k : Nat) (h : k ≤ n) : (seg a lo n).take k = seg a lo k := by
  rw [List.take_take, Nat.min_eq_left h]
theorem seg_cat (a : Array Keyed) (lo n k : Nat) : seg a lo n ++ seg a (lo + n) k = seg a lo (n + k) := by
  show (a.toList.drop lo).take n ++ (a.toList.drop (lo + n)).take k = (a.toList.drop lo).take (n + k)
  rw [List.take_add, List.drop_drop]
theorem take_seg (a : Array Keyed) (lo n : Nat) : a.toList.take (lo + n) = a.toList.take lo ++ seg a lo n := List.take_add
theorem drop_seg (a : Array Keyed) (lo n : Nat) : a.toList.drop lo = seg a lo n ++ a.toList.drop (lo + n) := by
  rw [← List.drop_drop, List.take_append_drop]
theorem lay_chg {st : SortSt} {a' : Array Keyed} {m : List Keyed} {lo n l0 h0 : Nat} (hn : lo + n ≤ (arrOf st).size) (hm : m.length = n) (hp : m.Perm (seg (arrOf st) lo n)) (e : a'.toList = (arrOf st).toList.take lo ++ m ++ (arrOf st).toList.drop (lo + n)) (b1 : l0 ≤ lo) (b2 : lo + n ≤ h0) : Chg st (setArr st a') l0 h0 := by
  have hl : ((arrOf st).toList.take lo).length = lo := by rw [List.length_take, Array.length_toList]; omega
  have hsz : a'.size = (arrOf st).size := by
    have := congrArg List.length e
    simp only [List.length_append, hl, hm, List.length_drop, Array.length_toList] at this
    omega
  refine Chg.set hsz (fun i hi => ?_) (Array.perm_iff_toList_perm.mpr ?_)
  · rw [← Array.getElem?_toList, ← Array.getElem?_toList, e]
    rcases hi with hi | hi
    · rw [List.getElem?_append_left (by rw [List.length_append]; omega), List.getElem?_append_left (by omega), List.getElem?_take_of_lt (by omega)]
    · rw [List.getElem?_append_right (by rw [List.length_append]; omega), List.getElem?_drop, List.length_append, hl, hm]
      congr 1
      omega
  · rw [e]
    have e2 : (arrOf st).toList = (arrOf st).toList.take lo ++ seg (arrOf st) lo n ++ (arrOf st).toList.drop (lo + n) := by
      rw [List.append_assoc, ← drop_seg, List.take_append_drop]
    refine List.Perm.trans ?_ (List.Perm.of_eq e2.symm)
    exact List.Perm.append_right _ (List.Perm.append_left _ hp)
theorem lay_seg {a a' : Array Keyed} {m : List Keyed} {lo k n j p : Nat} (hn : lo + k + n + j ≤ a.size) (hm : m.length = n) (e : a'.toList = a.toList.take (lo + k) ++ m ++ a.toList.drop (lo + k + n)) (hp : p = k + n + j) : seg a' lo p = seg a lo k ++ m ++ seg a (lo + k + n) j := by
  have hl : (a.toList.take lo).length = lo := by rw [List.length_take, Array.length_toList]; omega
  have e' : a'.toList = a.toList.take lo ++ ((seg a lo k ++ m ++ seg a (lo + k + n) j) ++ a.toList.drop (lo + k + n + j)) := by
    rw [e, take_seg, drop_seg a (lo + k + n) j]
    simp only [List.append_assoc]
  have l1 : (seg a lo k ++ m ++ seg a (lo + k + n) j).length = p := by
    rw [List.length_append, List.length_append, seg_len (by omega), seg_len (by omega), hm]
    omega
  rw [show seg a' lo p = (a'.toList.drop lo).take p from rfl, e', List.drop_left' hl, List.take_left' l1]
theorem wp_mergeAt (hlt : LtOk M A E s kf G kd) {st : SortSt} {i sa na pw sb nb pw' : Nat} {Q : Bool → SortSt → Prop} (hG : ∀ z ∈ (arrOf st).toList, G z) (hkd : kindOf st = kd) (hf : failedOf st = none)
    (e1 : (pendingOf st)[i]? = some (sa, na, pw)) (e2 : (pendingOf st)[i + 1]? = some (sb, nb, pw')) (hsb : sb = sa + na) (hna : 1 ≤ na) (hnb : 1 ≤ nb) (hsz : sb + nb ≤ (arrOf st).size) (u1 : Up kf (arrOf st) sa sb) (u2 : Up kf (arrOf st) sb (sb + nb))
    (h : ∀ st', Chg (setPending st (((pendingOf st).setIfInBounds i (sa, na + nb, pw)).eraseIdxIfInBounds (i + 1))) st' sa (sb + nb) → Up kf (arrOf st') sa (sb + nb) → Q true st') : wpS M A E s (mergeAt' i) Q st := by
  subst hsb
  rw [mergeAt'_eq]
  refine wpS_bind (wpS_get ?_)
  rw [e1, e2]
  dsimp only
  refine wpS_bind (wp_set ?_)
  obtain ⟨st1, hst1⟩ : ∃ st1, st1 = setPending st (((pendingOf st).setIfInBounds i (sa, na + nb, pw)).eraseIdxIfInBounds (i + 1)) := ⟨_, rfl⟩
  have ha1 : arrOf st1 = arrOf st := by rw [hst1]
  have hk1 : kindOf st1 = kd := by rw [hst1]; exact hkd
  have hf1 : failedOf st1 = none := by rw [hst1]; exact hf
  rw [← hst1] at h
  show wpS M A E s _ Q (setPending st (((pendingOf st).setIfInBounds i (sa, na + nb, pw)).eraseIdxIfInBounds (i + 1)))
  rw [← hst1]
  rw [← ha1] at hG hsz u1 u2 ⊢
  generalize hA : arrOf st1 = a at hG hsz u1 u2 ⊢
  have s1 := u1.srt (n := na) (by omega)
  have s2 := u2.srt (n := nb) (by omega)
  have Hsb : (seg a (sa + na) nb)[0]? = some a[sa + na] := seg_get (by omega) (j := 0) (by omega) (by omega)
  have lead : ∀ y ∈ seg a (sa + na) nb, Le kf a[sa + na] y := fun y hy => by
    obtain ⟨j, hj⟩ := List.mem_iff_getElem?.mp hy
    exact srt_get s2 (Nat.zero_le _) Hsb hj
  have whole : Srt kf (seg a sa (na + nb)) → Q true st1 := fun hs => h st1 (Chg.refl _ _ _) (by rw [hA, show sa + na + nb = sa + (na + nb) by omega]; exact up_of hs (by omega))
  refine wpS_bind (wp_elem (by omega) ?_)
  refine wpS_bind (wp_gallopL hlt hG (hG _ (by simp)) hk1 (by omega) (by omega) s1 fun k hk hr _ => ?_)
  obtain ⟨r1, r2⟩ := hr rfl
  dsimp only
  by_cases hz1 : na - k = 0
  · rw [if_pos (beq_iff_eq.mpr hz1)]
    refine wpS_pure (whole ?_)
    rw [← seg_cat]
    refine List.pairwise_append.mpr ⟨s1, s2, fun x hx y hy => ?_⟩
    exact (r1 x (by rw [List.take_of_length_le (by rw [seg_len (by omega)]; omega)]; exact hx)).trans (lead y hy)
  · rw [if_neg (fun z => hz1 (beq_iff_eq.mp z))]
    refine wpS_bind (wp_elem (by omega) ?_)
    refine wpS_bind (wp_gallopL hlt hG (hG _ (by simp)) hk1 (by omega) (by omega) s2 fun j hj _ hr2 => ?_)
    obtain ⟨q1, q2⟩ := hr2 rfl
    have el : a[sa + k + (na - k) - 1] = a[sa + na - 1] := by congr 1; omega
    rw [el] at q1 q2
    have Hl : (seg a sa na)[na - 1]? = some a[sa + na - 1] := by
      have := seg_get (xs := a) (b := sa) (n := na) (by omega) (j := na - 1) (by omega) (by omega)
      have e3 : a[sa + (na - 1)] = a[sa + na - 1] := by congr 1; omega
      rw [e3] at this
      exact this
    have trail : ∀ x ∈ seg a sa na, Le kf x a[sa + na - 1] := fun x hx => by
      obtain ⟨j', hj'⟩ := List.mem_iff_getElem?.mp hx
      have := (List.getElem?_eq_some_iff.mp hj').1
      rw [seg_len (by omega)] at this
      exact srt_get s1 (by omega) hj' Hl
    dsimp only
    by_cases hz2 : j = 0
    · rw [if_pos (beq_iff_eq.mpr hz2)]
      refine wpS_pure (whole ?_)
      rw [← seg_cat]
      refine List.pairwise_append.mpr ⟨s1, s2, fun x hx y hy => (trail x hx).trans (q2 y ?_)⟩
      rw [hz2, List.drop_zero]
      exact hy
    · rw [if_neg (fun z => hz2 (beq_iff_eq.mp z))]
      have ex : (a.extract (sa + k) (sa + na)).toList = (seg a sa na).drop k := by rw [ext_seg a (n := na - k) (by omega), seg_drop]
      have ey : (a.extract (sa + na) (sa + na + j)).toList = (seg a (sa + na) nb).take j := by rw [ext_seg a (n := j) rfl, seg_take _ _ _ _ hj]
      have zx : (a.extract (sa + k) (sa + na)).size = na - k := by rw [← Array.length_toList, ex, List.length_drop, seg_len (by omega)]
      have zy : (a.extract (sa + na) (sa + na + j)).size = j := by rw [← Array.length_toList, ey, List.length_take, seg_len (by omega)]; omega
      have gx : ∀ z ∈ (a.extract (sa + k) (sa + na)).toList, G z := fun z hz => hG z (by rw [ex] at hz; exact List.mem_of_mem_drop (List.mem_of_mem_take (List.mem_of_mem_drop hz)))
      have gy : ∀ z ∈ (a.extract (sa + na) (sa + na + j)).toList, G z := fun z hz => hG z (by rw [ey] at hz; exact List.mem_of_mem_drop (List.mem_of_mem_take (List.mem_of_mem_take hz)))
      have sx : Srt kf (a.extract (sa + k) (sa + na)).toList := by rw [ex]; exact s1.sublist (List.drop_sublist _ _)
      have sy : Srt kf (a.extract (sa + na) (sa + na + j)).toList := by rw [ey]; exact s2.sublist (List.take_sublist _ _)
      have fin : ∀ (v : Array Keyed) (st2 : SortSt), Eqv st1 st2 → Pend kf ((a.extract (sa + k) (sa + na)).toList ++ (a.extract (sa + na) (sa + na + j)).toList) v → wpS M A E s (do
          modify fun st => setArr st (v.toList.zipIdx.foldl (fun a (x : Keyed × Nat) => a.setIfInBounds (sa + k + x.2) x.1) (arrOf st))
          return (failedOf (← get)).isNone) Q st2 := fun v st2 ev pe => by
        have hv : v.toList.length = na - k + j := by
          rw [pe.p.length_eq, List.length_append, Array.length_toList, Array.length_toList, zx, zy]
        have ea2 : arrOf st2 = a := ev.a.trans hA
        have hlay := lay_toList (sa + k) v.toList 0 (arrOf st2) (by rw [ea2]; omega)
        refine wpS_bind (wpS_modify (wpS_bind (wpS_get ?_)))
        have hf2 : failedOf st2 = none := ev.f.trans hf1
        show wpS M A E s (pure (failedOf st2).isNone) Q _
        rw [hf2]
        have c0 : Chg st1 st2 sa (sa + na + nb) := ⟨by rw [ev.a], fun _ _ => by rw [ev.a], by rw [ev.a], ev.p, ev.f, ev.k⟩
        have hseg : seg (arrOf st2) (sa + k) (na - k + j) = (a.extract (sa + k) (sa + na)).toList ++ (a.extract (sa + na) (sa + na + j)).toList := by
          rw [ea2, ex, ey, seg_drop, seg_take _ _ _ _ hj, ← seg_cat]
          congr 2
          omega
        have hlay' : ((v.toList.zipIdx.foldl (fun a (x : Keyed × Nat) => a.setIfInBounds (sa + k + x.2) x.1) (arrOf st2))).toList = (arrOf st2).toList.take (sa + k) ++ v.toList ++ (arrOf st2).toList.drop (sa + k + (na - k + j)) := by
          rw [← hv]
          exact hlay
        generalize v.toList.zipIdx.foldl (fun a (x : Keyed × Nat) => a.setIfInBounds (sa + k + x.2) x.1) (arrOf st2) = a' at hlay' ⊢
        have C : Chg st2 (setArr st2 a') sa (sa + na + nb) := lay_chg (lo := sa + k) (n := na - k + j) (by rw [ea2]; omega) hv (by rw [hseg]; exact pe.p) hlay' (by omega) (by omega)
        have hz' : a'.size = a.size := by
          have := C.sz
          rw [ea2] at this
          exact this
        refine wpS_pure (h _ (c0.trans C) ?_)
        rw [ea2] at hlay'
        have key := lay_seg (a := a) (lo := sa) (k := k) (n := na - k + j) (j := nb - j) (p := na + nb) (by omega) hv hlay' (by omega)
        show Up kf a' sa (sa + na + nb)
        rw [show sa + na + nb = sa + (na + nb) by omega]
        refine up_of ?_ (by omega)
        rw [key]
        have et : seg a sa k = (seg a sa na).take k := (seg_take _ _ _ _ hk).symm
        have ed : seg a (sa + k + (na - k + j)) (nb - j) = (seg a (sa + na) nb).drop j := by
          rw [seg_drop, show sa + k + (na - k + j) = sa + na + j by omega]
        rw [et, ed]
        have mem : ∀ z ∈ v.toList, z ∈ (seg a sa na).drop k ∨ z ∈ (seg a (sa + na) nb).take j := fun z hz => by
          have := pe.p.mem_iff.mp hz
          rw [ex, ey] at this
          exact List.mem_append.mp this
        have c1 : ∀ x ∈ (seg a sa na).take k, ∀ y ∈ (seg a sa na).drop k, Le kf x y := fun x hx y hy => by
          have := s1
          rw [← List.take_append_drop k (seg a sa na)] at this
          exact (List.pairwise_append.mp this).2.2 x hx y hy
        have c2 : ∀ x ∈ (seg a (sa + na) nb).take j, ∀ y ∈ (seg a (sa + na) nb).drop j, Le kf x y := fun x hx y hy => by
          have := s2
          rw [← List.take_append_drop j (seg a (sa + na) nb)] at this
          exact (List.pairwise_append.mp this).2.2 x hx y hy
        refine List.pairwise_append.mpr ⟨List.pairwise_append.mpr ⟨s1.sublist (List.take_sublist _ _), pe.s, fun x hx y hy => ?_⟩, s2.sublist (List.drop_sublist _ _), fun x hx y hy => ?_⟩
        · rcases mem y hy with hy | hy
          · exact c1 x hx y hy
          · exact (r1 x hx).trans (lead y (List.mem_of_mem_take hy))
        · rcases List.mem_append.mp hx with hx | hx
          · exact (trail x (List.mem_of_mem_take hx)).trans (q2 y hy)
          · rcases mem x hx with hx | hx
            · exact (trail x (List.mem_of_mem_drop hx)).trans (q2 y hy)
            · exact c2 x hx y hy
      have y0 : ∀ h0 : 0 < (a.extract (sa + na) (sa + na + j)).size, (a.extract (sa + na) (sa + na + j))[0] = a[sa + na] := fun h0 => by simp
      have x0 : ∀ h0 : (a.extract (sa + k) (sa + na)).size - 1 < (a.extract (sa + k) (sa + na)).size, (a.extract (sa + k) (sa + na))[(a.extract (sa + k) (sa + na)).size - 1] = a[sa + na - 1] := fun h0 => by
        simp only [Array.getElem_extract]
        congr 1
        omega
      have hxl : ∀ w ∈ (a.extract (sa + na) (sa + na + j)).toList, Le kf w a[sa + na - 1] := fun w hw => by
        rw [ey] at hw
        exact Le.of_lt (q1 w hw)
      have hxa : ∀ z ∈ (a.extract (sa + k) (sa + na)).toList, Le kf a[sa + na] z := fun z hz => by
        rw [ex] at hz
        exact Le.of_lt (r2 z hz)
      by_cases hle : na - k ≤ j
      · rw [if_pos hle]
        refine wpS_bind (wp_mergeLo hlt gx gy hk1 (by omega) (by omega) sx sy (fun z hz => ?_) (fun w hw z hz => ?_) fun v st2 ev pe => fin v st2 ev pe)
        · rw [y0]
          exact hxa z hz
        · rw [drop_cons (by omega)] at hz
          rcases List.mem_append.mp hz with hz | hz
          · have e : z = (a.extract (sa + k) (sa + na))[(a.extract (sa + k) (sa + na)).size - 1] := List.mem_singleton.mp hz
            rw [e, x0 (by omega)]
            exact hxl w hw
          · rw [List.drop_of_length_le (by rw [Array.length_toList]; omega)] at hz
            cases hz
      · rw [if_neg hle]
        refine wpS_bind (wp_mergeHi hlt gx gy hk1 (by omega) (by omega) sx sy (fun w hw z hz => ?_) (fun w hw => ?_) fun v st2 ev pe => fin v st2 ev pe)
        · rw [take_last (by omega) (by omega)] at hw
          have e : w = a[sa + na] := by simpa using hw
          rw [e]
          exact hxa z hz
        · rw [x0]
          exact hxl w hw
end
end LS
set_option maxHeartbeats 4000000
namespace LS
open PySem PyProof.Rows
section
variable {M : Model} {A : Around} {E : Value → Shared → Prop} {s : Shared} {O : KeyOrd} {kf : Keyed → O.α} {G : Keyed → Prop} {kd : SortKind}
def Runs (kf : Keyed → O.α) (a : Array Keyed) : Nat → List (Nat × Nat × Nat) → Nat → Prop
  | lo, [], hi => lo = hi
  | lo, r :: rs, hi => r.1 = lo ∧ 1 ≤ r.2.1 ∧ Up kf a lo (lo + r.2.1) ∧ Runs kf a (lo + r.2.1) rs hi
theorem runs_append {a : Array Keyed} : ∀ {p q : List (Nat × Nat × Nat)} {lo hi : Nat}, Runs kf a lo (p ++ q) hi ↔ ∃ m, Runs kf a lo p m ∧ Runs kf a m q hi
  | [], q, lo, hi => ⟨fun h => ⟨lo, rfl, h⟩, fun ⟨m, h1, h2⟩ => by cases (show lo = m from h1); exact h2⟩
  | r :: p, q, lo, hi => by
    constructor
    · rintro ⟨h1, h2, h3, h4⟩
      obtain ⟨m, h5, h6⟩ := runs_append.mp h4
      exact ⟨m, ⟨h1, h2, h3, h5⟩, h6⟩
    · rintro ⟨m, ⟨h1, h2, h3, h5⟩, h6⟩
      exact ⟨h1, h2, h3, runs_append.mpr ⟨m, h5, h6⟩⟩
theorem Runs.le {a : Array Keyed} : ∀ {p : List (Nat × Nat × Nat)} {lo hi : Nat}, Runs kf a lo p hi → lo + p.length ≤ hi
  | [], lo, hi, h => by cases (show lo = hi from h); exact Nat.le_refl _
  | r :: p, lo, hi, h => by
    obtain ⟨_, h2, _, h4⟩ := h
    have := Runs.le h4
    rw [List.length_cons]
    omega
theorem Runs.eq {a b : Array Keyed} : ∀ {p : List (Nat × Nat × Nat)} {lo hi : Nat}, Runs kf a lo p hi → (∀ i, lo ≤ i → i < hi → b[i]? = a[i]?) → Runs kf b lo p hi
  | [], _, _, h, _ => h
  | r :: p, lo, hi, h, e => by
    obtain ⟨h1, h2, h3, h4⟩ := h
    have hl := Runs.le h4
    exact ⟨h1, h2, h3.eq fun i a1 a2 => e i a1 (by omega), h4.eq fun i a1 a2 => e i (by omega) a2⟩
structure SI (kf : Keyed → O.α) (kd : SortKind) (a₀ : Array Keyed) (st : SortSt) (hi : Nat) : Prop where
  perm : (arrOf st).toList.Perm a₀.toList
  f : failedOf st = none
  k : kindOf st = kd
  runs : Runs kf (arrOf st) 0 (pendingOf st).toList hi
theorem SI.sz {a₀ : Array Keyed} {st : SortSt} {hi : Nat} (h : SI kf kd a₀ st hi) : (arrOf st).size = a₀.size := by
  have := h.perm.length_eq
  simpa using this
theorem SI.good {a₀ : Array Keyed} {st : SortSt} {hi : Nat} (h : SI kf kd a₀ st hi) (hG : ∀ z ∈ a₀.toList, G z) : ∀ z ∈ (arrOf st).toList, G z := fun z hz => hG z (h.perm.mem_iff.mp hz)
theorem SI.chg {a₀ : Array Keyed} {st st' : SortSt} {hi lo up : Nat} (h : SI kf kd a₀ st hi) (c : Chg st st' lo up) (hl : hi ≤ lo) : SI kf kd a₀ st' hi :=
  ⟨c.perm.trans h.perm, c.f.trans h.f, c.k.trans h.k, by rw [c.p]; exact h.runs.eq fun i _ a2 => c.out i (.inl (by omega))⟩
theorem split_at {α : Type} {l : List α} {i : Nat} (h : i + 1 < l.length) : l = l.take i ++ l[i] :: l[i + 1] :: l.drop (i + 2) := by
  conv => lhs; rw [← List.take_append_drop i l]
  rw [List.drop_eq_getElem_cons (by omega), List.drop_eq_getElem_cons h]
theorem two_to_one {α : Type} (p q : List α) (x y v : α) : ((p ++ x :: y :: q).set p.length v).eraseIdx (p.length + 1) = p ++ v :: q := by
  rw [List.set_append_right _ _ (Nat.le_refl _), Nat.sub_self, List.eraseIdx_append_of_length_le (by omega)]
  simp
theorem si_merge (hlt : LtOk M A E s kf G kd) {a₀ : Array Keyed} {st : SortSt} {i hi : Nat} {Q : Bool → SortSt → Prop} (hG : ∀ z ∈ a₀.toList, G z) (I : SI kf kd a₀ st hi) (hh : hi ≤ a₀.size) (hi1 : i + 1 < (pendingOf st).size)
    (h : ∀ st', SI kf kd a₀ st' hi → (pendingOf st').size + 1 = (pendingOf st).size → (∀ i, hi ≤ i → (arrOf st')[i]? = (arrOf st)[i]?) → Q true st') : wpS M A E s (mergeAt' i) Q st := by
  have hl : i + 1 < (pendingOf st).toList.length := by rw [Array.length_toList]; exact hi1
  have hr := I.runs
  obtain ⟨P, hP⟩ : ∃ P, P = (pendingOf st).toList := ⟨_, rfl⟩
  rw [← hP] at hr hl
  have hsp := split_at hl
  have hpl : (P.take i).length = i := by rw [List.length_take]; omega
  have g1 : (pendingOf st)[i]? = some P[i] := by rw [← Array.getElem?_toList, ← hP, List.getElem?_eq_getElem (by omega)]
  have g2 : (pendingOf st)[i + 1]? = some P[i + 1] := by rw [← Array.getElem?_toList, ← hP, List.getElem?_eq_getElem hl]
  generalize P[i] = x at hsp g1
  generalize P[i + 1] = y at hsp g2
  generalize P.take i = pre at hsp hpl
  generalize P.drop (i + 2) = post at hsp
  rw [hsp] at hr
  obtain ⟨m, r1, ex, nx, ux, ey, ny, uy, r2⟩ := runs_append.mp hr
  obtain ⟨sx, lx, wx⟩ := x
  obtain ⟨sy, ly, wy⟩ := y
  dsimp only at ex nx ux ey ny uy r2
  subst ex
  have hend := r2.le
  have hsz := I.sz
  refine wp_mergeAt hlt (I.good hG) I.k I.f g1 g2 ey nx ny (by rw [ey]; omega) (by rw [ey]; exact ux) (by rw [ey]; exact uy) fun st' c u => ?_
  rw [ey] at c u
  have hnew : (((pendingOf st).setIfInBounds i (sx, lx + ly, wx)).eraseIdxIfInBounds (i + 1)).toList = pre ++ (sx, lx + ly, wx) :: post := by
    rw [Array.toList_eraseIdxIfInBounds, Array.toList_setIfInBounds, ← hP, hsp]
    have := two_to_one pre post (sx, lx, wx) (sy, ly, wy) (sx, lx + ly, wx)
    rw [hpl] at this
    exact this
  have hp' : (pendingOf st').toList = pre ++ (sx, lx + ly, wx) :: post := by rw [c.p]; exact hnew
  refine h st' ⟨c.perm.trans I.perm, c.f.trans I.f, c.k.trans I.k, ?_⟩ ?_ ?_
  · rw [hp']
    refine runs_append.mpr ⟨sx, r1.eq fun i _ a2 => c.out i (.inl a2), rfl, Nat.le_trans nx (Nat.le_add_right _ _), by rw [← Nat.add_assoc]; exact u, ?_⟩
    rw [← Nat.add_assoc]
    exact r2.eq fun i a1 _ => c.out i (.inr a1)
  · rw [← Array.length_toList, hp', ← Array.length_toList, ← hP, hsp]
    simp only [List.length_append, List.length_cons]
    omega
  · exact fun i a1 => c.out i (.inr (by omega))
theorem pick_lt {n : Nat} (c : Prop) [Decidable c] (h : 2 ≤ n) : (if c then n - 2 - 1 else n - 2) + 1 < n := by split <;> omega
theorem Runs.same {a : Array Keyed} : ∀ {p q : List (Nat × Nat × Nat)} {lo hi : Nat}, p.map (fun r => (r.1, r.2.1)) = q.map (fun r => (r.1, r.2.1)) → Runs kf a lo p hi → Runs kf a lo q hi
  | [], [], _, _, _, h => h
  | [], _ :: _, _, _, e, _ => by cases e
  | _ :: _, [], _, _, e, _ => by cases e
  | r :: p, t :: q, lo, hi, e, h => by
    rw [List.map_cons, List.map_cons] at e
    injection e with e1 e2
    injection e1 with e3 e4
    obtain ⟨h1, h2, h3, h4⟩ := h
    rw [e3] at h1
    rw [e4] at h2 h3 h4
    exact ⟨h1, h2, h3, h4.same e2⟩
theorem map_modify {α β : Type} (f : α → α) (g : α → β) (hg : ∀ x, g (f x) = g x) : ∀ (l : List α) (i : Nat), (l.modify i f).map g = l.map g
  | [], i => by cases i <;> rfl
  | x :: l, 0 => by simp [hg]
  | x :: l, i + 1 => by simp [map_modify f g hg l i]
theorem SI.relabel {a₀ : Array Keyed} {st : SortSt} {hi i : Nat} {f : Nat × Nat × Nat → Nat × Nat × Nat} (h : SI kf kd a₀ st hi) (hf : ∀ x, ((f x).1, (f x).2.1) = (x.1, x.2.1)) : SI kf kd a₀ (setPending st ((pendingOf st).modify i f)) hi := by
  refine ⟨h.perm, h.f, h.k, ?_⟩
  refine Runs.same ?_ h.runs
  show (pendingOf st).toList.map (fun r => (r.1, r.2.1)) = ((pendingOf st).modify i f).toList.map fun r => (r.1, r.2.1)
  rw [Array.toList_modify]
  exact (map_modify f (fun r => (r.1, r.2.1)) hf _ _).symm
theorem SI.add {a₀ : Array Keyed} {st : SortSt} {lo n w : Nat} (h : SI kf kd a₀ st lo) (hn : 1 ≤ n) (u : Up kf (arrOf st) lo (lo + n)) : SI kf kd a₀ (setPending st ((pendingOf st).push (lo, n, w))) (lo + n) := by
  refine ⟨h.perm, h.f, h.k, ?_⟩
  show Runs kf (arrOf st) 0 ((pendingOf st).push (lo, n, w)).toList (lo + n)
  rw [Array.toList_push]
  exact runs_append.mpr ⟨lo, h.runs, rfl, hn, u, rfl⟩
theorem wp_sortRuns (hlt : LtOk M A E s kf G kd) {a₀ : Array Keyed} {st : SortSt} {Q : Unit → SortSt → Prop} (h2 : 2 ≤ a₀.size) (hG : ∀ z ∈ a₀.toList, G z) (I : SI kf kd a₀ st 0)
    (h : ∀ st', (arrOf st').toList.Perm a₀.toList → failedOf st' = none → Up kf (arrOf st') 0 a₀.size → Q () st') : wpS M A E s sortRuns' Q st := by
  rw [sortRuns'_eq]
  refine wpS_bind (wpS_get ?_)
  dsimp only
  rw [I.sz]
  generalize minRun' a₀.size a₀.size 0 = mr
  refine wpS_bind (wpS_mono (wpS_forRange (I := fun x c st' => ∃ lo, c = (none, lo) ∧ SI kf kd a₀ st' lo ∧ lo ≤ a₀.size ∧ x ≤ lo) (Q := fun c st' => c = (none, a₀.size) ∧ SI kf kd a₀ st' a₀.size) ?step ?fin ⟨0, rfl, I, by omega, by omega⟩) ?post)
  case fin =>
    rintro c st' ⟨lo, rfl, J, b1, b2⟩
    have e : lo = a₀.size := by omega
    subst e
    exact ⟨rfl, J⟩
  case post =>
    rintro c st' ⟨rfl, J⟩
    dsimp only
    refine wpS_bind (wpS_mono (wpS_forRange (I := fun x c st2 => c = (none, ()) ∧ SI kf kd a₀ st2 a₀.size ∧ (pendingOf st2).size + x ≤ a₀.size + 1) (Q := fun c st2 => c = (none, ()) ∧ SI kf kd a₀ st2 a₀.size ∧ (pendingOf st2).size ≤ 1) ?s3 ?f3 ⟨rfl, J, ?i3⟩) ?p3)
    case i3 =>
      have := J.runs.le
      rw [Array.length_toList] at this
      omega
    case f3 =>
      rintro c st2 ⟨rfl, J2, h3⟩
      exact ⟨rfl, J2, by omega⟩
    case s3 =>
      rintro x c st2 _ hx ⟨rfl, J2, h3⟩
      refine wpS_bind (wpS_get ?_)
      by_cases hp1 : (pendingOf st2).size ≤ 1
      · rw [if_pos hp1]
        exact wpS_pure ⟨rfl, J2, hp1⟩
      · rw [if_neg hp1]
        refine wpS_bind (si_merge hlt hG J2 (Nat.le_refl _) (pick_lt _ (by omega)) fun st3 J3 hs3 _ => ?_)
        rw [if_neg (by decide)]
        exact wpS_pure ⟨rfl, J3, by omega⟩
    case p3 =>
      rintro c st2 ⟨rfl, J2, h3⟩
      refine wpS_pure (h st2 J2.perm J2.f ?_)
      have hr := J2.runs
      rw [← Array.length_toList] at h3
      generalize (pendingOf st2).toList = P at hr h3
      match P, hr, h3 with
      | [], hr, _ =>
        have : 0 = a₀.size := hr
        omega
      | [r], hr, _ =>
        obtain ⟨_, _, u, e⟩ := hr
        have e' : 0 + r.2.1 = a₀.size := e
        rw [e'] at u
        exact u
      | _ :: _ :: _, _, h3 =>
        rw [List.length_cons, List.length_cons] at h3
        omega
  case step =>
    rintro x c st' _ hx ⟨lo, rfl, J, b1, b2⟩
    dsimp only
    by_cases hge : lo ≥ a₀.size
    · rw [if_pos hge]
      have e : lo = a₀.size := by omega
      subst e
      exact wpS_pure ⟨rfl, J⟩
    · rw [if_neg hge]
      have hsz := J.sz
      refine wpS_bind (wp_run hlt (J.good hG) J.k (by omega) (by omega) fun k st1 c1 k1 k2 u1 => ?_)
      have J1 := J.chg c1 (Nat.le_refl _)
      have hsz1 := J1.sz
      dsimp only
      by_cases hmr : k < mr
      · rw [if_pos hmr]
        refine wpS_bind (wpS_lift (wpAny_rule ⟨rfl, ?_⟩))
        refine wpS_bind (wp_binarySort hlt (J1.good hG) J1.k (by omega) (by omega) u1 fun st4 c4 u4 => ?_)
        have J4 := J1.chg c4 (Nat.le_refl _)
        rw [if_neg (by decide)]
        refine wpS_bind (wpS_get ?_)
        cases hb : (pendingOf st4).back? with
        | none =>
          dsimp only
          exact wpS_bind (wpS_modify (wpS_pure ⟨lo + min (a₀.size - lo) mr, rfl, J4.add (by omega) u4, by omega, by omega⟩))
        | some r =>
          obtain ⟨s1, n1, w1⟩ := r
          dsimp only
          refine wpS_bind (wpS_mono (wpS_forRange (I := fun _ c st2 => c = (none, ()) ∧ SI kf kd a₀ st2 lo ∧ Up kf (arrOf st2) lo (lo + min (a₀.size - lo) mr)) (Q := fun c st2 => c = (none, ()) ∧ SI kf kd a₀ st2 lo ∧ Up kf (arrOf st2) lo (lo + min (a₀.size - lo) mr)) ?s2 (fun _ _ z => z) ⟨rfl, J4, u4⟩) ?p2)
          case s2 =>
            rintro y c st2 _ _ ⟨rfl, J2, u2⟩
            refine wpS_bind (wpS_get ?_)
            by_cases hp1 : (pendingOf st2).size > 1
            · rw [if_pos hp1]
              cases hp : (pendingOf st2)[(pendingOf st2).size - 2]? with
              | none => exact wpS_pure ⟨rfl, J2, u2⟩
              | some r2 =>
                obtain ⟨q1, q2, old⟩ := r2
                dsimp only
                by_cases hol : old ≤ power' a₀.size (2 * s1 + n1) (2 * s1 + n1 + n1 + min (a₀.size - lo) mr) a₀.size
                · rw [if_pos hol]
                  exact wpS_pure ⟨rfl, J2, u2⟩
                · rw [if_neg hol]
                  refine wpS_bind (si_merge hlt hG J2 b1 (by omega) fun st3 J3 _ ho3 => ?_)
                  rw [if_neg (by decide)]
                  exact wpS_pure ⟨rfl, J3, u2.eq fun i a1 _ => ho3 i a1⟩
            · rw [if_neg hp1]
              exact wpS_pure ⟨rfl, J2, u2⟩
          case p2 =>
            rintro c st2 ⟨rfl, J2, u2⟩
            dsimp only
            refine wpS_bind (wpS_modify (wpS_bind (wpS_modify (wpS_pure ⟨lo + min (a₀.size - lo) mr, rfl, (J2.relabel ?_).add (by omega) u2, by omega, by omega⟩))))
            intro x
            rfl
      · rw [if_neg hmr]
        refine wpS_bind (wpS_get ?_)
        cases hb : (pendingOf st1).back? with
        | none =>
          dsimp only
          exact wpS_bind (wpS_modify (wpS_pure ⟨lo + k, rfl, J1.add (by omega) u1, by omega, by omega⟩))
        | some r =>
          obtain ⟨s1, n1, w1⟩ := r
          dsimp only
          refine wpS_bind (wpS_mono (wpS_forRange (I := fun _ c st2 => c = (none, ()) ∧ SI kf kd a₀ st2 lo ∧ Up kf (arrOf st2) lo (lo + k)) (Q := fun c st2 => c = (none, ()) ∧ SI kf kd a₀ st2 lo ∧ Up kf (arrOf st2) lo (lo + k)) ?s2 (fun _ _ z => z) ⟨rfl, J1, u1⟩) ?p2)
          case s2 =>
            rintro y c st2 _ _ ⟨rfl, J2, u2⟩
            refine wpS_bind (wpS_get ?_)
            by_cases hp1 : (pendingOf st2).size > 1
            · rw [if_pos hp1]
              cases hp : (pendingOf st2)[(pendingOf st2).size - 2]? with
              | none => exact wpS_pure ⟨rfl, J2, u2⟩
              | some r2 =>
                obtain ⟨q1, q2, old⟩ := r2
                dsimp only
                by_cases hol : old ≤ power' a₀.size (2 * s1 + n1) (2 * s1 + n1 + n1 + k) a₀.size
                · rw [if_pos hol]
                  exact wpS_pure ⟨rfl, J2, u2⟩
                · rw [if_neg hol]
                  refine wpS_bind (si_merge hlt hG J2 b1 (by omega) fun st3 J3 _ ho3 => ?_)
                  rw [if_neg (by decide)]
                  exact wpS_pure ⟨rfl, J3, u2.eq fun i a1 _ => ho3 i a1⟩
            · rw [if_neg hp1]
              exact wpS_pure ⟨rfl, J2, u2⟩
          case p2 =>
            rintro c st2 ⟨rfl, J2, u2⟩
            dsimp only
            refine wpS_bind (wpS_modify (wpS_bind (wpS_modify (wpS_pure ⟨lo + k, rfl, (J2.relabel ?_).add (by omega) u2, by omega, by omega⟩))))
            intro x
            rfl
end
end LS
set_option maxHeartbeats 4000000
namespace LS
open PySem PyProof.Rows
section
variable {prog : Program} {w : World} {A : Around} {E : Value → Shared → Prop} {s : Shared} {O : KeyOrd} {kf : Keyed → O.α} {G : Keyed → Prop} {kd : SortKind}
theorem zip_dup : ∀ l : List Value, l.zip l = l.map fun v => (v, v)
  | [] => rfl
  | x :: l => by rw [List.zip_cons_cons, zip_dup l]; rfl
theorem zip_self (vs : List Value) : (vs.toArray.zip vs.toArray).toList = vs.map fun v => (v, v) := by
  rw [Array.toList_zip]
  exact zip_dup vs
theorem snd_of {vs : List Value} {l : List Keyed} (h : l.Perm (vs.map fun v => (v, v))) : l = (l.map (·.2)).map fun v => (v, v) := by
  have : ∀ p ∈ l, p = (p.2, p.2) := fun p hp => by
    obtain ⟨v, _, e⟩ := List.mem_map.mp (h.mem_iff.mp hp)
    rw [← e]
  rw [List.map_map]
  conv => lhs; rw [← List.map_id l]
  exact List.map_congr_left fun p hp => this p hp
theorem pair_le {a : Array Keyed} {n : Nat} (hn : a.size = n) (u : Up kf a 0 n) : Srt kf a.toList := by
  have := u
  rw [show n = 0 + n by omega] at this
  have := Up.srt this (by omega)
  rw [show seg a 0 n = a.toList from by
    show (a.toList.drop 0).take n = a.toList
    rw [List.drop_zero, List.take_of_length_le (by rw [Array.length_toList]; omega)]] at this
  exact this
theorem sort_any {a : Addr} {vs : List Value} {n : Nat} {P : PySem.Fin → Shared → Prop} (ho : s.heap.get? a = some (seqObj "list" vs.toArray n)) (hz : vs.length ≤ sizeLine) (hG : ∀ v ∈ vs, G (v, v))
    (hkk : ∀ h', (∀ b o, b ≠ a → s.heap.get? b = some o → h'.get? b = some o) → 2 ≤ vs.length → ∀ (Q : SortKind → Shared → Prop), Q kd { s with heap := h' } → wpAny (model prog w) A (keyKind' vs.toArray) Q E { s with heap := h' })
    (hlt : ∀ h', (∀ b o, b ≠ a → s.heap.get? b = some o → h'.get? b = some o) → LtOk (model prog w) A E { s with heap := h' } kf G kd)
    (h : ∀ out : List Value, out.Perm vs → out.Pairwise (fun x y => O.kle (kf (x, x)) (kf (y, y))) → P (.done (.ret .none)) { s with heap := sortedHeap s.heap a vs out.toArray }) :
    wpAny (model prog w) A (Builtin.«list.sort» ⟨[.ref a], []⟩) P E s := by
  rw [list_sort_plain]
  have hE := get?_update_seq ho fun _ => (#[] : Array Value)
  generalize hn2 : (if (#[] : Array Value).size == vs.toArray.size then n else n + 1) = n2 at hE
  have hlt0 := Heap.lt_size ho
  have z0 : vs.toArray.size ≤ sizeLine := by simpa using hz
  have z1 : ∀ f : Array Value → Array Value, f = (fun _ => #[]) → (f vs.toArray).size ≤ sizeLine + 1 := fun f e => by rw [e]; exact Nat.zero_le _
  refine wpAny_bind (listItems_at ho rfl (wpAny_bind (listUpdate_at ho rfl ?_ z0 (z1 _ rfl))))
  refine wpAny_bind (seqEpoch_at hE rfl (wpAny_bind (wpAny_newTuple (wpAny_bind (wpAny_newList (wpAny_holding ?_))))))
  dsimp only
  have keep6 : ∀ b o, b ≠ a → s.heap.get? b = some o → (((s.heap.update a (Obj.mapSeq fun _ => (#[] : Array Value))).push (seqObj "tuple" vs.toArray 0)).push (seqObj "list" #[] 0)).get? b = some o := fun b o hb e =>
    Heap.get?_push_of_some _ (Heap.get?_push_of_some _ ((Heap.get?_update_other s.heap _ (Ne.symm hb)).trans e))
  have hk6 : (((s.heap.update a (Obj.mapSeq fun _ => (#[] : Array Value))).push (seqObj "tuple" vs.toArray 0)).push (seqObj "list" #[] 0)).get? a = some (seqObj "list" #[] n2) := Heap.get?_push_of_some _ (Heap.get?_push_of_some _ hE)
  have fin : ∀ st' : SortSt, (arrOf st').toList.Perm (vs.map fun v => (v, v)) → failedOf st' = none → Srt kf (arrOf st').toList → wpAny (model prog w) A (do
      let ep ← seqEpoch a
      Builtin.List.listUpdate (Value.ref a) fun _ => Array.map (fun x => x.snd) (arrOf st')
      match failedOf st' with
        | some e => do
          rule "list.sort.comparison-raised"
          throw e
          if (ep != n2) = true then do
              rule "list.sort.modified"
              raiseErrorWords "ValueError" "list modified during sort"
              ret Value.none
            else ret Value.none
        | x =>
          if (ep != n2) = true then do
            rule "list.sort.modified"
            raiseErrorWords "ValueError" "list modified during sort"
            ret Value.none
          else ret Value.none) P E { s with heap := ((s.heap.update a (Obj.mapSeq fun _ => (#[] : Array Value))).push (seqObj "tuple" vs.toArray 0)).push (seqObj "list" #[] 0) } := fun st' hp hf hs => by
    have hm : Array.map (fun x : Keyed => x.snd) (arrOf st') = ((arrOf st').toList.map (·.2)).toArray := by
      apply Array.ext'
      simp
    have hlen : (Array.map (fun x : Keyed => x.snd) (arrOf st')).size = vs.length := by
      have := hp.length_eq
      rw [List.length_map, Array.length_toList] at this
      rw [Array.size_map, this]
    have pv : ((arrOf st').toList.map (·.2)).Perm vs := by
      have := hp.map (fun p : Keyed => p.2)
      rw [List.map_map] at this
      have e : ((fun p : Keyed => p.2) ∘ fun v : Value => (v, v)) = id := rfl
      rw [e, List.map_id] at this
      exact this
    have sv : ((arrOf st').toList.map (·.2)).Pairwise (fun x y => O.kle (kf (x, x)) (kf (y, y))) := by
      have e := snd_of hp
      rw [e] at hs
      exact (List.pairwise_map (f := fun v : Value => ((v, v) : Keyed)) (R := Le kf)).mp hs
    refine wpAny_bind (seqEpoch_at hk6 rfl (wpAny_bind (listUpdate_at hk6 rfl ?_ (Nat.zero_le _) (by show (Array.map (fun x : Keyed => x.snd) (arrOf st')).size ≤ _; rw [hlen]; omega))))
    rw [hf]
    dsimp only
    rw [if_neg (by simp)]
    have := h _ pv sv
    rw [← hm] at this
    exact wpAny_pure this
  by_cases h2 : vs.toArray.size < 2
  · rw [if_pos h2, if_pos h2]
    refine wpAny_bind (wpAny_pure ?_)
    rw [StateT.run_pure]
    refine wpAny_bind (wpAny_pure ?_)
    have hsm : vs.length < 2 := by simpa using h2
    refine fin (SortSt.mk' general' (vs.toArray.zip vs.toArray) #[] 7 none) (by show (vs.toArray.zip vs.toArray).toList.Perm _; rw [zip_self]) rfl ?_
    show Srt kf (vs.toArray.zip vs.toArray).toList
    rw [zip_self]
    match vs, hsm with
    | [], _ => exact List.Pairwise.nil
    | [v], _ => exact List.pairwise_singleton _ _
    | _ :: _ :: _, hsm => simp at hsm; omega
  · rw [if_neg h2, if_neg h2]
    have h2' : 2 ≤ vs.length := by
      have : ¬ vs.length < 2 := by simpa using h2
      omega
    refine wpAny_bind (hkk _ keep6 h2' _ ?_)
    have hsz : (vs.toArray.zip vs.toArray).size = vs.length := by
      have := congrArg List.length (zip_self vs)
      rw [Array.length_toList, List.length_map] at this
      exact this
    have I : SI kf kd (vs.toArray.zip vs.toArray) (SortSt.mk' kd (vs.toArray.zip vs.toArray) #[] 7 none) 0 := ⟨List.Perm.refl _, rfl, rfl, rfl⟩
    have W := wp_sortRuns (Q := fun _ st' => (arrOf st').toList.Perm (vs.map fun v => (v, v)) ∧ failedOf st' = none ∧ Srt kf (arrOf st').toList) (hlt _ keep6) (by omega) (fun z hz => by
      rw [zip_self] at hz
      obtain ⟨v, hv, rfl⟩ := List.mem_map.mp hz
      exact hG v hv) I fun st' b1 b2 b3 => ⟨by rw [← zip_self]; exact b1, b2, pair_le (by
        have := b1.length_eq
        rw [Array.length_toList, Array.length_toList] at this
        exact this) b3⟩
    refine wpAny_bind (wpAny_mono W (fun r s' hr => ?_) fun _ _ e => e)
    obtain ⟨rfl, c1, c2, c3⟩ := hr
    exact fin r.2 c1 c2 c3
theorem LtOk.any {M : Model} (h : LtOk M A (fun _ _ => False) s kf G kd) : LtOk M A E s kf G kd := fun x y st Q gx gy hk q => wpAny_mono (h x y st Q gx gy hk q) (fun _ _ z => z) fun _ _ z => z.elim
theorem sorted_any {l : Addr} {vs : List Value} {Q : Value → Shared → Prop} (hl : s.heap.IsList l vs.toArray) (hz : vs.length ≤ sizeLine) (hG : ∀ v ∈ vs, G (v, v))
    (hkk : ∀ h', (∀ b o, s.heap.get? b = some o → h'.get? b = some o) → 2 ≤ vs.length → ∀ (Q : SortKind → Shared → Prop), Q kd { s with heap := h' } → wpAny (model prog w) A.in1.in1 (keyKind' vs.toArray) Q (fun _ _ => False) { s with heap := h' })
    (hlt : ∀ h', (∀ b o, s.heap.get? b = some o → h'.get? b = some o) → LtOk (model prog w) A.in1.in1 (fun _ _ => False) { s with heap := h' } kf G kd)
    (h : ∀ out : List Value, out.Perm vs → out.Pairwise (fun x y => O.kle (kf (x, x)) (kf (y, y))) → Q (.ref (s.heap.objs.size + 1)) { s with heap := sortedAll s.heap vs out.toArray }) :
    wpAny (model prog w) A (call (.builtin "sorted") [.ref l]) Q E s := by
  refine Calls.call_function_entry kind_sorted plain_sorted entry_sorted (args_sorted1 _) ?_
  unfold Builtin.«sorted»
  refine wpAny_bind (m := checkCount "sorted" 1 1 _) (wpAny_pure (wpAny_bind (collect_list hl (wpAny_bind (wpAny_newList ?_)) hz)))
  have hsz : ((s.heap.push (seqObj "list" #[] 0)).update s.heap.objs.size (Obj.mapSeq fun x => x ++ vs.toArray)).objs.size = s.heap.objs.size + 1 := (Heap.size_update _ _ _).trans (size_push' _ _)
  have keep1 : ∀ b o, s.heap.get? b = some o → ((s.heap.push (seqObj "list" #[] 0)).update s.heap.objs.size (Obj.mapSeq fun x => x ++ vs.toArray)).get? b = some o := fun b o e =>
    (Heap.get?_update_other _ _ (Nat.ne_of_gt (Heap.lt_size e))).trans (Heap.get?_push_of_some _ e)
  dsimp only
  have hoL : (((s.heap.push (seqObj "list" #[] 0)).update s.heap.objs.size (Obj.mapSeq fun x => x ++ vs.toArray)).push (seqObj "list" vs.toArray 0)).get? (s.heap.objs.size + 1) = some (seqObj "list" vs.toArray 0) := hsz ▸ Heap.get?_push_size _ rfl
  have keep2 : ∀ h' : Heap, (∀ b o, b ≠ s.heap.objs.size + 1 → (((s.heap.push (seqObj "list" #[] 0)).update s.heap.objs.size (Obj.mapSeq fun x => x ++ vs.toArray)).push (seqObj "list" vs.toArray 0)).get? b = some o → h'.get? b = some o) → ∀ b o, s.heap.get? b = some o → h'.get? b = some o := fun h' k b o e =>
    k b o (Nat.ne_of_lt (Nat.lt_succ_of_lt (Heap.lt_size e))) (Heap.get?_push_of_some _ (keep1 b o e))
  rw [hsz]
  refine wpAny_bind (wpAny_holding (wpAny_call_entry slot_list_sort ⟨_, hoL, rfl⟩ entry_list_sort (sort_any (kf := kf) (G := G) (kd := kd) hoL hz hG (fun h' k h2 Q' q => ?_) (fun h' k => ?_) fun out p q => ⟨_, rfl, ?_⟩) (args_list_sort _)))
  · exact wpAny_mono (hkk h' (keep2 h' k) h2 Q' q) (fun _ _ z => z) fun _ _ z => z.elim
  · exact LtOk.any (hlt h' (keep2 h' k))
  · exact wpAny_pure ⟨_, rfl, h out p q⟩
end
end LS
set_option maxHeartbeats 4000000
namespace LS
open PySem PyProof.Rows
def lexB : List Int → List Int → Bool
  | [], [] => false
  | [], _ :: _ => true
  | _ :: _, [] => false
  | x :: xs, y :: ys => if x = y then lexB xs ys else decide (x < y)
section
open PySem.SeqAt
open PySem.AutoSeq1 (wpAny_loadPart')
open PySem.MeetsSeq PySem.MeetsSeq2 PySem.MeetsSeq3
theorem ints_at {us : Array Value} {ns : List Int} (h : IntsAre us.toList ns) {i : Nat} (hi : i < ns.length) : ∃ t, us[i]? = some (.int ns[i] t) := by
  have h1 : us.toList[i]? = us[i]? := Array.getElem?_toList
  rw [← h1]
  generalize us.toList = l at h
  clear h1
  induction h generalizing i with
  | nil => simp at hi
  | cons n t h ih =>
    cases i with
    | zero => exact ⟨t, rfl⟩
    | succ i =>
      obtain ⟨t', e⟩ := ih (i := i) (by simpa using hi)
      exact ⟨t', by simpa using e⟩
theorem lt_loop (l b : Addr) (us ws : Array Value) (n n2 : Nat) (dd dd2 : Option Addr) (sl sl2 : Array (Option Value)) (ns ms : List Int) (hu : IntsAre us.toList ns) (hw : IntsAre ws.toList ms) (k : Nat) :
    ∀ i : Nat, ns.length - i = k → i ≤ ns.length → i ≤ ms.length → Meets (Builtin.«list.__eq__.loop» ⟨[.ref l, .ref b, rawInt i, rawInt 0], []⟩)
      (fun A R s => s.heap.get? l = some { cls := .type "list", dict := dd, data := .seq us n, slots := sl } ∧ s.heap.get? b = some { cls := .type "list", dict := dd2, data := .seq ws n2, slots := sl2 } ∧ R (.ok (.ret (.bool (lexB (ns.drop i) (ms.drop i))))) s) := by
  have zu : us.size = ns.length := by rw [← hu.length]; simp
  have zw : ws.size = ms.length := by rw [← hw.length]; simp
  induction k with
  | zero =>
    intro i hk hi1 hi2 prog w A R s h
    obtain ⟨hp, g, d, tk, os⟩ := s; obtain ⟨hl, hb, h⟩ := h
    wp_walk using wpAny_loadPart' hl, wpAny_loadPart' hb
    have e0 : ((i : Nat) : Int).toNat = i := by omega
    have ei : i = ns.length := by omega
    have e1 : us[i]? = none := by rw [Array.getElem?_eq_none (by omega)]
    have ex : lexB (ns.drop i) (ms.drop i) = decide (us.size < ws.size) := by
      rw [List.drop_of_length_le (by omega), zu, zw]
      cases e : ms.drop i with
      | nil =>
        have : ms.length ≤ i := List.drop_eq_nil_iff.mp e
        exact (decide_eq_false (by omega)).symm
      | cons y r =>
        have : ¬ ms.length ≤ i := fun z => by rw [List.drop_of_length_le z] at e; cases e
        exact (decide_eq_true (by omega)).symm
    rw [ex] at h
    rw [e0, e1]
    wp_walk using wpAny_loadPart' hl, wpAny_loadPart' hb
    exact h
  | succ k ih =>
    intro i hk hi1 hi2 prog w A R s h
    obtain ⟨hp, g, d, tk, os⟩ := s; obtain ⟨hl, hb, h⟩ := h
    wp_walk using wpAny_loadPart' hl, wpAny_loadPart' hb
    have e0 : ((i : Nat) : Int).toNat = i := by omega
    have hin : i < ns.length := by omega
    obtain ⟨t, e1⟩ := ints_at hu hin
    rw [List.drop_eq_getElem_cons hin] at h
    by_cases him : i < ms.length
    · obtain ⟨u, e2⟩ := ints_at hw him
      rw [List.drop_eq_getElem_cons him] at h
      rw [e0, e1, e2]
      dsimp only
      have hc : ((i : Int) + 1) = ((i + 1 : Nat) : Int) := by omega
      have h' : R (.ok (.ret (.bool (if ns[i] = ms[i] then lexB (ns.drop (i + 1)) (ms.drop (i + 1)) else decide (ns[i] < ms[i]))))) ⟨hp, g, d, tk, os⟩ := h
      refine wpAny_bind (EqAt.int_int ns[i] t ms[i] u prog w _ _ ?_)
      by_cases hab : ns[i] = ms[i]
      · rw [if_pos hab] at h'
        rw [if_pos (beq_iff_eq.mpr hab), hc]
        exact wpAny_pure ⟨plainId_quiet plain_eq_loop _, codeAny_builtin entry_eq_loop (by
          rw [Around.under_plainId plain_eq_loop _]
          exact ih (i + 1) (by omega) (by omega) (by omega) prog w A R _ ⟨hl, hb, h'⟩)⟩
      · rw [if_neg hab] at h'
        rw [if_neg (fun z => hab (beq_iff_eq.mp z))]
        wp_walk using wpAny_loadPart' hl, wpAny_loadPart' hb
        rw [e1, e2]
        dsimp only
        have W : wpAny (model prog w) A.in1 (richCompare .Lt (.int ns[i] t) (.int ms[i] u)) (fun v s' => v = .bool (decide (ns[i] < ms[i])) ∧ s' = ⟨hp, g, d, tk, os⟩) (fun e s' => R (.error e) s') ⟨hp, g, d, tk, os⟩ := by
          show wpAny (model prog w) A.in1 (compareOp .Lt (.int ns[i] t) (.int ms[i] u)) _ _ _
          exact PyProof.Rows.lt_int ⟨rfl, rfl⟩
        refine wpAny_bind (wpAny_mono W (fun v s' hv => ?_) fun _ _ e => e)
        obtain ⟨rfl, rfl⟩ := hv
        exact wpAny_pure h'
    · have e2 : ws[i]? = none := by rw [Array.getElem?_eq_none (by omega)]
      have ex : lexB (ns[i] :: ns.drop (i + 1)) (ms.drop i) = decide (us.size < ws.size) := by
        rw [List.drop_of_length_le (l := ms) (i := i) (by omega), zu, zw]
        exact (decide_eq_false (by omega)).symm
      rw [ex] at h
      rw [e0, e1, e2]
      wp_walk using wpAny_loadPart' hl, wpAny_loadPart' hb
      exact h
theorem list_lt (l b : Addr) (us ws : Array Value) (n n2 : Nat) (dd dd2 : Option Addr) (sl sl2 : Array (Option Value)) (ns ms : List Int) (hu : IntsAre us.toList ns) (hw : IntsAre ws.toList ms) :
    Meets (Builtin.«list.__lt__» ⟨[.ref l, .ref b], []⟩)
      (fun A R s => s.heap.get? l = some { cls := .type "list", dict := dd, data := .seq us n, slots := sl } ∧ s.heap.get? b = some { cls := .type "list", dict := dd2, data := .seq ws n2, slots := sl2 } ∧ R (.ok (.ret (.bool (lexB ns ms)))) s) := by
  intro prog w A R s h
  obtain ⟨hp, g, d, tk, os⟩ := s; obtain ⟨hl, hb, h⟩ := h
  have f3 := AutoSeq1.sub_list_list
  wp_walk using wpAny_loadPart' hl, wpAny_loadPart' hb
  exact ⟨plainId_quiet plain_eq_loop _, codeAny_builtin entry_eq_loop (by
    rw [Around.under_plainId plain_eq_loop _]
    exact lt_loop l b us ws n n2 dd dd2 sl sl2 ns ms hu hw _ 0 rfl (Nat.zero_le _) (Nat.zero_le _) prog w A R _ ⟨hl, hb, h⟩)⟩
end
section
variable {prog : Program} {w : World} {A : Around} {E : Value → Shared → Prop} {s : Shared}
theorem call_list_lt {l b : Addr} {us ws : Array Value} {ns ms : List Int} {Q : Value → Shared → Prop} (hl : s.heap.IsList l us) (hb : s.heap.IsList b ws) (hu : IntsAre us.toList ns) (hw : IntsAre ws.toList ms)
    (h : Q (.bool (lexB ns ms)) s) : wpAny (model prog w) A (call (.builtin "list.__lt__") [.ref l, .ref b]) Q E s := by
  obtain ⟨⟨c1, d1, t1, z1⟩, o1, e1, n1, f1⟩ := id hl
  obtain ⟨⟨c2, d2, t2, z2⟩, o2, e2, n2, f2⟩ := id hb
  simp only at e1 f1 e2 f2
  subst e1 f1 e2 f2
  exact call_meets F.slot_list_lt ⟨_, o1, rfl⟩ F.entry_list_lt (F.args_list_lt_2 _ _) (list_lt l b us ws n1 n2 d1 d2 z1 z2 ns ms hu hw) ⟨o1, o2, h⟩
theorem oneLt_lists {l b : Addr} {us ws : Array Value} {ns ms : List Int} {Q : Bool → Shared → Prop} (hr : A.units < cLine) (hl : s.heap.IsList l us) (hb : s.heap.IsList b ws) (hu : IntsAre us.toList ns) (hw : IntsAre ws.toList ms)
    (h : Q (lexB ns ms) s) : wpAny (model prog w) A (keyLt' oneType' (.ref l) (.ref b)) Q E s := by
  rw [keyLt'_oneType, oneLt'_eq]
  simp only [if_true]
  have hT : s.TypeIs (.ref l) "list" := by
    obtain ⟨o, e, c, _⟩ := id hl
    exact ⟨o, e, c⟩
  refine wpAny_bind (wpAny_cRoomFor hr (wpAny_bind (wpAny_callSpecialIfBound?_slot hT F.slot_list_lt (call_list_lt hl hb hu hw ?_))))
  exact wpAny_truthy_bool h
end
theorem lexB_irr : ∀ a, lexB a a = false
  | [] => rfl
  | x :: a => by rw [lexB, if_pos rfl]; exact lexB_irr a
theorem lexB_tr : ∀ a b c, lexB a b = true → lexB b c = true → lexB a c = true
  | [], [], _, h, _ => by cases h
  | [], _ :: _, [], _, h => by cases h
  | [], _ :: _, _ :: _, _, _ => rfl
  | _ :: _, [], _, h, _ => by cases h
  | _ :: _, _ :: _, [], _, h => by cases h
  | x :: a, y :: b, z :: c, h1, h2 => by
    have ih := lexB_tr a b c
    unfold lexB at h1 h2 ⊢
    split at h1 <;> split at h2 <;> split
    · exact ih h1 h2
    · omega
    · omega
    · have := of_decide_eq_true h2; exact decide_eq_true (by omega)
    · omega
    · have := of_decide_eq_true h1; exact decide_eq_true (by omega)
    · have := of_decide_eq_true h1; have := of_decide_eq_true h2; omega
    · have := of_decide_eq_true h1; have := of_decide_eq_true h2; exact decide_eq_true (by omega)
theorem lexB_neg : ∀ a b c, lexB a c = true → lexB a b = true ∨ lexB b c = true
  | [], [], _, h => .inr h
  | [], _ :: _, _, _ => .inl rfl
  | _ :: _, _, [], h => by cases h
  | _ :: _, [], _ :: _, _ => .inr rfl
  | x :: a, y :: b, z :: c, h => by
    have ih := lexB_neg a b c
    unfold lexB at h ⊢
    split at h
    · split
      · rw [if_pos (by omega)]; exact ih h
      · rcases Int.lt_or_gt_of_ne (show x ≠ y by omega) with k | k
        · exact .inl (decide_eq_true k)
        · right; rw [if_neg (by omega)]; exact decide_eq_true (by omega)
    · have hk := of_decide_eq_true h
      split
      · right; rw [if_neg (by omega)]; exact decide_eq_true (by omega)
      · rcases Int.lt_or_gt_of_ne (show x ≠ y by omega) with k | k
        · exact .inl (decide_eq_true k)
        · right; rw [if_neg (by omega)]; exact decide_eq_true (by omega)
theorem lexB_tot : ∀ a b, lexB a b = false → lexB b a = false → a = b
  | [], [], _, _ => rfl
  | [], _ :: _, h, _ => by cases h
  | _ :: _, [], _, h => by cases h
  | x :: a, y :: b, h1, h2 => by
    have ih := lexB_tot a b
    unfold lexB at h1 h2
    split at h1
    · rename_i e
      rw [if_pos e.symm] at h2
      rw [e, ih h1 h2]
    · rename_i e
      rw [if_neg (fun z => e z.symm)] at h2
      have := of_decide_eq_false h1
      have := of_decide_eq_false h2
      omega
def lexO : KeyOrd := ⟨List Int, lexB, lexB_irr, lexB_tr, lexB_neg, lexB_tot⟩
def numsAt (H : Heap) : Value → List Int
  | .ref l => match H.get? l with
    | some o => match o.data with
      | .seq us _ => us.toList.filterMap fun v => match v with
        | .int n _ => some n
        | _ => none
      | _ => []
    | none => []
  | _ => []
def NumL (H : Heap) (v : Value) (ns : List Int) : Prop := ∃ l us, v = .ref l ∧ H.IsList l us ∧ IntsAre us.toList ns
theorem numsAt_eq {H : Heap} {v : Value} {ns : List Int} (h : NumL H v ns) : numsAt H v = ns := by
  obtain ⟨l, us, rfl, ⟨o, e, _, n, hd⟩, hi⟩ := h
  show (match H.get? l with
    | some o => match o.data with
      | .seq us _ => us.toList.filterMap fun v => match v with
        | .int n _ => some n
        | _ => none
      | _ => []
    | none => []) = ns
  rw [e]
  dsimp only
  rw [hd]
  dsimp only
  clear e hd
  generalize us.toList = q at hi
  induction hi with
  | nil => rfl
  | cons n t h ih =>
    rw [List.filterMap_cons]
    dsimp only
    rw [ih]
theorem NumL.keep {H H' : Heap} {v : Value} {ns : List Int} (h : NumL H v ns) (k : ∀ b o, H.get? b = some o → H'.get? b = some o) : NumL H' v ns := by
  obtain ⟨l, us, rfl, ⟨o, e, r⟩, hi⟩ := h
  exact ⟨l, us, rfl, ⟨o, k _ _ e, r⟩, hi⟩
section
variable {prog : Program} {w : World} {A : Around} {E : Value → Shared → Prop} {s : Shared}
theorem lt_lists {H : Heap} (hr : A.units < cLine) (k : ∀ b o, H.get? b = some o → s.heap.get? b = some o) : LtOk (O := lexO) (model prog w) A (fun _ _ => False) s (fun p => numsAt H p.1) (fun p => ∃ ns, NumL H p.1 ns) oneType' := by
  intro x y st Q ⟨ns, hx⟩ ⟨ms, hy⟩ hk q
  have q1 : Q (some (lexB (numsAt H x.1) (numsAt H y.1))) st := q
  rw [numsAt_eq hx, numsAt_eq hy] at q1
  obtain ⟨l, us, ex, hl, hu⟩ := hx.keep k
  obtain ⟨b, ws, ey, hb, hw⟩ := hy.keep k
  rw [lt'_eq]
  refine wpS_bind (wpS_get ?_)
  rw [hk, ex, ey]
  refine wpS_bind (wpS_lift (wpAny_attempt (oneLt_lists hr hl hb hu hw ⟨rfl, ?_⟩)))
  exact wpS_pure q1
theorem kind_lists {H : Heap} {vs : List Value} {Q : SortKind → Shared → Prop} (h2 : 2 ≤ vs.length) (hv : ∀ v ∈ vs, ∃ ns, NumL H v ns) (k : ∀ b o, H.get? b = some o → s.heap.get? b = some o) (q : Q oneType' s) : wpAny (model prog w) A (keyKind' vs.toArray) Q E s := by
  refine PySem.W.kas_kind (T := .type "list") h2 (fun v h => ?_) rfl rfl q
  intro A Q E s' k' q'
  obtain ⟨ns, hn⟩ := hv v h
  obtain ⟨l, us, rfl, ⟨o, e, c, _⟩, _⟩ := (hn.keep k).keep k'
  exact wpAny_typeOf ⟨o, e, c⟩ q'
theorem sorted_lists {l : Addr} {vs : List Value} {Q : Value → Shared → Prop} (hr : A.units + 2 < cLine) (hl : s.heap.IsList l vs.toArray) (hz : vs.length ≤ sizeLine) (hv : ∀ v ∈ vs, ∃ ns, NumL s.heap v ns)
    (h : ∀ out : List Value, out.Perm vs → out.Pairwise (fun x y => lexB (numsAt s.heap y) (numsAt s.heap x) = false) → Q (.ref (s.heap.objs.size + 1)) { s with heap := sortedAll s.heap vs out.toArray }) :
    wpAny (model prog w) A (call (.builtin "sorted") [.ref l]) Q E s := by
  refine sorted_any (O := lexO) (kf := fun p => numsAt s.heap p.1) (G := fun p => ∃ ns, NumL s.heap p.1 ns) (kd := oneType') hl hz hv (fun h' k h2 Q' q => kind_lists h2 hv k q) (fun h' k => lt_lists (H := s.heap) ?_ k) h
  show A.units + 1 + 1 < cLine
  omega
end
end LS
set_option maxHeartbeats 4000000
namespace L2
open PySem PySem.Spec PyProof.Rows
theorem perm_of_map {α β : Type} (f : α → β) {l m : List β} (h : l.Perm m) : ∀ ps : List α, m = ps.map f → ∃ ps' : List α, ps'.Perm ps ∧ l = ps'.map f := by
  induction h with
  | nil =>
    intro ps e
    cases ps with
    | nil => exact ⟨[], .refl _, rfl⟩
    | cons _ _ => cases e
  | cons x _ ih =>
    intro ps e
    cases ps with
    | nil => cases e
    | cons p ps =>
      rw [List.map_cons] at e
      injection e with e1 e2
      obtain ⟨ps', hp, rfl⟩ := ih ps e2
      exact ⟨p :: ps', hp.cons p, by rw [List.map_cons, e1]⟩
  | swap x y l =>
    intro ps e
    match ps, e with
    | p :: q :: ps, e =>
      rw [List.map_cons, List.map_cons] at e
      injection e with e1 e
      injection e with e2 e3
      exact ⟨q :: p :: ps, .swap _ _ _, by rw [List.map_cons, List.map_cons, e1, e2, e3]⟩
  | trans _ _ ih1 ih2 =>
    intro ps e
    obtain ⟨ps', hp, e'⟩ := ih2 ps e
    obtain ⟨ps'', hp', e''⟩ := ih1 ps' e'
    exact ⟨ps'', hp'.trans hp, e''⟩
theorem vals_refs {α : Type} (f : α → Addr) : ∀ {ps : List α} {us : List Value}, Vals (ps.map fun e => V.ref (f e)) us → us = ps.map fun e => Value.ref (f e)
  | [], _, r => by cases r; rfl
  | p :: ps, _, r => by
    cases r with
    | cons r1 r2 =>
      cases r1
      rw [List.map_cons, vals_refs f r2]
theorem refs_vals {α : Type} (f : α → Addr) : ∀ (ps : List α), Vals (ps.map fun e => V.ref (f e)) (ps.map fun e => Value.ref (f e))
  | [] => .nil
  | p :: ps => .cons rfl (refs_vals f ps)
section
variable {X : Cx}
def rSortLL (K : PySem.W.Frag) : List V → Hp → VK → Prop := fun xs H Q => ∃ (p : Addr) (ps : List (Addr × List Int)), xs = [.ref p] ∧ SqL K H p (ps.map fun e => V.ref e.1) ∧ (∀ e ∈ ps, SqL K H e.1 (e.2.map V.int)) ∧
  ∀ (l : Addr) (qs : List (Addr × List Int)), H l = none → qs.Perm ps → qs.Pairwise (fun e f => LS.lexB f.2 e.2 = false) → Q (.ref l) (upd H l (.lst (qs.map fun e => V.ref e.1)))
theorem call_sortedLL (hu : X.A.units + 2 < cLine) : CallR X (.builtin "sorted") (rSortLL X.K) := by
  intro pins s σ H xs us Q I r h
  obtain ⟨p, ps, rfl, hq, hs, q⟩ := h
  obtain ⟨u, rfl, rx⟩ := vals1 r
  cases rx
  obtain ⟨its, rv, pl, hz⟩ := I.list hq
  have ei := vals_refs _ rv
  subst ei
  have nl : ∀ e ∈ ps, LS.NumL s.heap (.ref e.1) e.2 := fun e he => by
    obtain ⟨ws, rw', pw, _⟩ := I.list (hs e he)
    exact ⟨e.1, ws.toArray, rfl, pw.isList, by rw [List.toList_toArray]; exact intsAre_of rw'⟩
  refine LS.sorted_lists hu pl.isList (by rw [List.length_map] at hz ⊢; exact hz) (fun v hv => ?_) fun out hp hs' => ?_
  · obtain ⟨e, he, rfl⟩ := List.mem_map.mp hv
    exact ⟨e.2, nl e he⟩
  · obtain ⟨qs, hqp, rfl⟩ := perm_of_map _ hp ps rfl
    obtain ⟨ep, ee⟩ := sortedAll_at s.heap (ps.map fun e => Value.ref e.1) (qs.map fun e => Value.ref e.1).toArray
    have hl2 : qs.length = ps.length := hqp.length_eq
    refine ⟨.ref _, _, I.laid (t' := s.toks) (fun b o e => sortedAll_old e) (Nat.le_succ _) (show ObjOk X.prog X.w _ _ _ (.lst (qs.map fun e => V.ref e.1)) from ⟨?_, _, ep, refs_vals _ qs, ee⟩), rfl, q _ qs (I.hok.fresh (Nat.le_succ _)) hqp ?_⟩
    · rw [List.length_map] at hz ⊢
      omega
    · have := List.pairwise_map.mp hs'
      refine this.imp_of_mem fun {a b} ha hb k => ?_
      rw [LS.numsAt_eq (nl a (hqp.mem_iff.mp ha)), LS.numsAt_eq (nl b (hqp.mem_iff.mp hb))] at k
      exact k
theorem op_isB : OpR X (compareOp .Is) (fun x y H Q => ∃ b, y = .bl b ∧ Q (.bl (decide (x = .bl b))) H) := by
  intro pins s σ H x y v u Q I rx ry h
  obtain ⟨b, rfl, q⟩ := h
  cases ry
  cases x <;> first
    | (cases rx; exact wpAny_is_plain rfl (fin_bl I q (by rw [Bool.eq_iff_iff]; simp)))
    | (obtain ⟨t, rfl⟩ := rx; exact wpAny_is_plain rfl (fin_bl I q (by rw [Bool.eq_iff_iff]; simp)))
theorem call_minL (hc : X.calm = true) : CallR X (.builtin "min") (fun xs H Q => ∃ (p : Addr) (ns : List Int), xs = [.ref p] ∧ SqL X.K H p (ns.map V.int) ∧ ns ≠ [] ∧ ∀ m, m ∈ ns → (∀ a ∈ ns, m ≤ a) → Q (.int m) H) := by
  intro pins s σ H xs us Q I r h
  obtain ⟨p, ns, rfl, hq, hne, q⟩ := h
  obtain ⟨u, rfl, rx⟩ := vals1 r
  cases rx
  obtain ⟨its, rv, pl, hz⟩ := I.list hq
  have hi : IntsAre its ns := intsAre_of rv
  obtain ⟨zs, e⟩ := hi.allInts.items
  have hns : ns = zs.toList.map (·.1) := by rw [← hi.numsOf, ← nums_intItems, ← e]
  have h3 : 0 < zs.size := by
    have := List.length_pos_iff.mpr hne
    rw [hns, List.length_map, Array.length_toList] at this
    exact this
  have hl := pl.isList
  rw [e] at hl
  refine min_intList (I.ok.hd hc) hl h3 fun v h' tk hv hk => ?_
  obtain ⟨t, rfl⟩ := intItems_at hv
  obtain ⟨h1, h2⟩ := argBest_lt (numAt zs) (zs.size - 1)
  refine ⟨.int _, H, I.kept hk, ⟨t, rfl⟩, q _ ?_ fun a ha => ?_⟩
  · rw [hns, numAt_eq]
    exact getD_mem (by rw [List.length_map, Array.length_toList]; omega)
  · rw [hns] at ha
    obtain ⟨j, hj, rfl⟩ := mem_getD ha
    rw [List.length_map, Array.length_toList] at hj
    rw [← numAt_eq]
    exact h2 j (by omega)
def pickL {α : Type} (xs : List α) (lo hi st : Option Int) : List α := (sliceRange (sliceBounds lo hi st xs.length).1 (sliceBounds lo hi st xs.length).2.1 (sliceBounds lo hi st xs.length).2.2).filterMap (xs[·]?)
def tSl3 (r : V → Option Int → Option Int → Option Int → Hp → VK → Prop) (te : TE) (tl th tk : TO) : TE := fun σ H Q => te σ H fun x H1 => tl σ H1 fun l H2 => th σ H2 fun u H3 => tk σ H3 fun k H4 => r x l u k H4 Q
def rSlL3 (K : PySem.W.Frag) : V → Option Int → Option Int → Option Int → Hp → VK → Prop := fun x lo hi st H Q => ∃ a xs, x = .ref a ∧ SqL K H a xs ∧ st ≠ some 0 ∧ ∀ p, H p = none → Q (.ref p) (upd H p (.lst (pickL xs lo hi st)))
theorem ints_flat (ns : List Int) : (ns.map V.int).all flatV = true := by
  rw [List.all_map, List.all_eq_true]
  intro n _
  rfl
theorem nums_inj {ns ms : List Int} (h : ns.map V.int = ms.map V.int) : ns = ms := by
  have f : ∀ l : List Int, (l.map V.int).map (fun v => match v with
    | .int i => i
    | _ => 0) = l := fun l => by
    rw [List.map_map]
    exact List.map_id l
  have := congrArg (List.map fun v : V => match v with
    | .int i => i
    | _ => 0) h
  rw [f, f] at this
  exact this
theorem rc_nums {pins : List (Addr × Obj)} {s : Shared} {σ : St} {H : Hp} {A : Around} {a b : Addr} {ns ms : List Int} (I : Inv X pins σ H s) (hu : A.units < cLine) (ha : SqL X.K H a (ns.map V.int)) (hb : SqL X.K H b (ms.map V.int)) :
    SeqAt.EqAt A s (.ref a) (.ref b) (decide (ns = ms)) := by
  by_cases hab : a = b
  · subst hab
    rw [nums_inj (I.list_inj ha hb), decide_eq_true rfl]
    exact SeqAt.EqAt.same _
  · refine SeqAt.EqAt.of_refs hab ?_
    obtain ⟨us, r1, p1, z1⟩ := I.list ha
    obtain ⟨ws, r2, p2, z2⟩ := I.list hb
    have l1 := r1.length
    have l2 := r2.length
    by_cases hl : ns.length = ms.length
    · have := SeqAt.RcAt.lists (A := A) p1.isList p2.isList (by rw [List.size_toArray, List.size_toArray, ← l1, ← l2, List.length_map, List.length_map]; exact hl) hu (items_eqAt r1 r2 (ints_flat ns) (ints_flat ms))
      rw [List.size_toArray, ← l1, eqVs_range _ _ (by rw [List.length_map, List.length_map]; exact hl), eqVs_ints] at this
      exact this
    · rw [decide_eq_false (fun e => hl (by rw [e]))]
      exact SeqAt.RcAt.lists_lengths p1.isList p2.isList (by
        rw [List.size_toArray, List.size_toArray, ← l1, ← l2, List.length_map, List.length_map]
        simpa using hl) hu
theorem range_eqs : ∀ (ps qs : List (Addr × List Int)), ps.length = qs.length → (List.range ps.length).all (fun j => decide (((ps[j]?).getD (0, [])).2 = ((qs[j]?).getD (0, [])).2)) = decide (ps.map (·.2) = qs.map (·.2))
  | [], [], _ => rfl
  | [], _ :: _, h => by cases h
  | _ :: _, [], h => by cases h
  | p :: ps, q :: qs, h => by
    have ih := range_eqs ps qs (by simpa using h)
    rw [List.length_cons, range_all_succ]
    simp only [List.getElem?_cons_zero, Option.getD_some, List.getElem?_cons_succ]
    rw [ih, Bool.eq_iff_iff]
    simp
def rEqLL (K : PySem.W.Frag) (neg : Bool) : R2 := fun x y H Q => ∃ (a b : Addr) (ps qs : List (Addr × List Int)), x = .ref a ∧ y = .ref b ∧ SqL K H a (ps.map fun e => V.ref e.1) ∧ SqL K H b (qs.map fun e => V.ref e.1) ∧
  (∀ e ∈ ps, SqL K H e.1 (e.2.map V.int)) ∧ (∀ e ∈ qs, SqL K H e.1 (e.2.map V.int)) ∧ Q (.bl (if neg then !decide (ps.map (·.2) = qs.map (·.2)) else decide (ps.map (·.2) = qs.map (·.2)))) H
theorem items_eqLL {pins : List (Addr × Obj)} {s : Shared} {σ : St} {H : Hp} {A : Around} {ps qs : List (Addr × List Int)} (I : Inv X pins σ H s) (hu : A.units < cLine) (hp : ∀ e ∈ ps, SqL X.K H e.1 (e.2.map V.int)) (hq : ∀ e ∈ qs, SqL X.K H e.1 (e.2.map V.int)) :
    ∀ j (h1 : j < (ps.map fun e => Value.ref e.1).toArray.size) (h2 : j < (qs.map fun e => Value.ref e.1).toArray.size), SeqAt.EqAt A s (ps.map fun e => Value.ref e.1).toArray[j] (qs.map fun e => Value.ref e.1).toArray[j] (decide (((ps[j]?).getD (0, [])).2 = ((qs[j]?).getD (0, [])).2)) := fun j h1 h2 => by
  have h1' : j < ps.length := by simpa using h1
  have h2' : j < qs.length := by simpa using h2
  rw [List.getElem?_eq_getElem h1', List.getElem?_eq_getElem h2', Option.getD_some, Option.getD_some]
  have e1 : (ps.map fun e => Value.ref e.1).toArray[j] = .ref ps[j].1 := by simp
  have e2 : (qs.map fun e => Value.ref e.1).toArray[j] = .ref qs[j].1 := by simp
  rw [e1, e2]
  exact rc_nums I hu (hp _ (List.getElem_mem h1')) (hq _ (List.getElem_mem h2'))
theorem op_neLL (hu : X.A.units + 1 < cLine) : OpR X (compareOp .NotEq) (rEqLL X.K true) := by
  intro pins s σ H x y v u Q I rx ry h
  obtain ⟨a, b, ps, qs, rfl, rfl, ha, hb, hp, hq, q⟩ := h
  cases rx
  cases ry
  obtain ⟨us, r1, p1, z1⟩ := I.list ha
  obtain ⟨ws, r2, p2, z2⟩ := I.list hb
  have e1 := vals_refs _ r1
  have e2 := vals_refs _ r2
  subst e1 e2
  rw [if_pos rfl] at q
  by_cases hl : ps.length = qs.length
  · refine SeqAt.RcNeAt.lists p1.isList p2.isList (by simpa using hl) (by omega) (items_eqLL I (by show X.A.units + 1 < cLine; omega) hp hq) _ _ _ _ (fin_bl I q ?_)
    rw [List.size_toArray, List.length_map, range_eqs ps qs hl]
  · refine SeqAt.RcNeAt.lists_lengths p1.isList p2.isList (by simpa using hl) (by omega) _ _ _ _ (fin_bl I q ?_)
    rw [decide_eq_false fun e => hl (by have := congrArg List.length e; simpa using this)]
    rfl
end
end L2
set_option maxHeartbeats 4000000
namespace L2
open PySem PySem.Spec PyProof.Rows
section
variable {X : Cx}
def repS (z : Str) (k : Nat) : Str := ⟨(List.replicate k z.cps).foldl (· ++ ·) #[]⟩
def rRepS : R2 := fun x y H Q => ∃ (z : Str) (n : Nat), x = .str z ∧ y = .int n ∧ n ≤ 1000 ∧ z.length ≤ 1000 ∧ Q (.str (repS z n)) H
def rJoin (K : PySem.W.Frag) : V → List V → Hp → VK → Prop := fun x vs H Q => ∃ (sep : Str) (p : Addr) (zs : List Str), x = .str sep ∧ vs = [.ref p] ∧ SqL K H p (zs.map V.str) ∧ JoinOk sep zs = true ∧ Q (.str (Txt.join sep zs)) H
open Builtin Builtin.Str in
def rSplit : V → List V → Hp → VK → Prop := fun x vs H Q => ∃ (z y : Str), x = .str z ∧ vs = [.str y] ∧ (y.length == 0) = false ∧ z.length ≤ sizeLine ∧ (partsBetween z (occurrences z y 0 z.length (z.length + 1)) y.length).length ≤ sizeLine ∧
  ∀ p, H p = none → Q (.ref p) (upd H p (.lst ((Txt.split z y).map V.str)))
open Builtin Builtin.Str in
def rSlS : V → Option Int → Option Int → Hp → VK → Prop := fun x lo hi H Q => ∃ z, x = .str z ∧ z.length ≤ sizeLine ∧ Q (.str (Txt.slice z lo hi)) H
def Its (z : Str) : It := ⟨fun i _ => i < z.cps.size, fun i H x H' => H' = H ∧ ∃ c, z.cps[i]? = some c ∧ x = .str ⟨#[c]⟩, fun i _ => z.cps.size ≤ i⟩
def iStr (tl : TE) : TI := fun σ H R => tl σ H fun x H1 => ∃ z, x = .str z ∧ R (Its z) H1
def rIsiC (K : PySem.W.Frag) : List V → Hp → VK → Prop := fun xs H Q => ∃ x C t b, xs = [x, .ref C] ∧ TyOf K H x t ∧ PySem.W.kitOne K t (.ref C) = some b ∧ Q (.bl b) H
theorem call_isinstC : CallR X (.builtin "isinstance") (rIsiC X.K) := by
  intro pins s σ H xs us Q I r h
  obtain ⟨x, C, t, b, rfl, ty, e, q⟩ := h
  obtain ⟨u, v, rfl, rx, ry⟩ := r.two
  cases ry
  exact isinst_ok I rx ty e fun tk => ⟨.bl b, H, I.tok tk, rfl, q⟩
theorem pe_isiC {C : Addr} {y : Str} {e : Expr} {te : TE} {p p2 pos : Pos} (hm : X.mg "isinstance" = none) (hm2 : X.mg y = some (.ref C)) (he : PE X e te) (hg : Gl X "isinstance" := by rfl) (hg2 : Gl X y := by rfl) (hd : (y == ("__debug__" : Str)) = false := by decide)
    (hs : starEach [e, .Name y p2] X.env = (false, eval e X.env) :: starEach [.Name y p2] X.env := by rfl) (hpl : (backTo pos (starEach [.Name y p2] X.env)).any (·.1) = false := by rfl) (hs2 : starEach [.Name y p2] X.env = (false, eval (.Name y p2) X.env) :: starEach [] X.env := by rfl) :
    PE X (.Call (.Name "isinstance" p) [e, .Name y p2] [] pos) (tCB (rIsiC X.K) (tCons te (tCons (tC (.ref C)) tNil))) :=
  pe_callB call_isinstC hg hm PyProof.Rows.boot_isinstance (pa_cons he (pa_cons (pe_glob hg2 hm2 (v := .ref C) rfl hd) pa_nil hs2) hs) (by decide) (by decide) hs hpl
end
end L2
set_option maxHeartbeats 4000000
namespace L2
open PySem PySem.Spec PyProof.Rows
def Stay (h h' : Heap) : Prop := ∀ b o, h.get? b = some o → h'.get? b = some o
section
variable {P : Program} {w : World} {A : Around} {s : Shared} {l I S : Addr} {kid : String} {vs : List Value} {R : Result → Shared → Prop}
def KeyTurn (P : Program) (w : World) (A : Around) (s : Shared) (kid : String) (vs : List Value) (kf : Nat → Int) : Prop :=
  ∀ (i : Nat) (v : Value), vs[i]? = some v → ∀ (h : Heap) (tk : Nat) (Q E : Value → Shared → Prop), Stay s.heap h → (∀ t tk', Q (.int (kf i) t) { s with heap := h, toks := tk' }) → wpAny (model P w) A.in1 (call (.builtin kid) [v]) Q E { s with heap := h, toks := tk }
def Best (kf : Nat → Int) (i n : Nat) : Prop := ∀ j, j < n → kf i ≤ kf j ∧ (j < i → kf i < kf j)
theorem stay_but {h h' h'' : Heap} {a : Addr} (k : Stay h h') (ha : h.objs.size ≤ a) (k' : ∀ b o, b ≠ a → h'.get? b = some o → h''.get? b = some o) : Stay h h'' := fun b o e =>
  k' b o (Nat.ne_of_lt (Nat.lt_of_lt_of_le (Heap.lt_size e) ha)) (k b o e)
theorem min_walk (kf : Nat → Int) (hh : A.handled = none) (hl : s.heap.IsList l vs.toArray) (hI : s.heap.objs.size ≤ I) (hS : s.heap.objs.size ≤ S) (hSI : S ≠ I) (turn : KeyTurn P w A s kid vs kf)
    (hR : ∀ i v h' tk', vs[i]? = some v → Best kf i vs.length → Stay s.heap h' → R (.ok (.ret v)) { s with heap := h', toks := tk' }) :
    ∀ (r j i : Nat) (h : Heap) (tk : Nat) (vb : Value) (tb : Tok) (c : Nat), vs.length - (j + 1) = r → j + 1 ≤ vs.length → Stay s.heap h → h.get? S = some (seqObj "list" #[vb, .int (kf i) tb] c) → h.IsListIter I l (j + 1) → vs[i]? = some vb → i ≤ j → Best kf i (j + 1) →
      codeAny (model P w) A (.builtin "min.loop" ⟨[.ref I, .builtin kid, .ref S], []⟩) R { s with heap := h, toks := tk } := by
  have nm : (toString "min" ++ toString ".loop" : String) = "min.loop" := by decide
  have lI : l ≠ I := by
    obtain ⟨o, e, _⟩ := id hl
    exact Nat.ne_of_lt (Nat.lt_of_lt_of_le (Heap.lt_size e) hI)
  have W := Walks.list (prog := P) (w := w) (A := A.in1) hh I l lI vs.toArray
  have sz : vs.toArray.size = vs.length := List.size_toArray ..
  intro r
  induction r with
  | zero =>
    intro j i h tk vb tb c hr hj st hs hit hvb hij hb
    have hjn : j + 1 = vs.length := by omega
    refine codeAny_builtin PySem.F.entry_min_loop ?_; rw [Around.under_plainId PySem.F.plain_min_loop _]; show wpAny _ A.in1 (seqItems? (.ref S) >>= _) _ _ _
    refine wpAny_bind (wpAny_seqItems hs rfl ?_); show wpAny _ A.in1 (tryCatch (pyNext (.ref I)) _ >>= _) _ _ _
    refine wpAny_bind (wpAny_tryCatch (W.done _ _ _ ⟨by rw [sz, ← hjn]; exact hit, hl.at fun o e => st _ o e⟩ fun h1 tk1 k1 => ?_))
    have st1 : Stay s.heap h1 := stay_but st hI fun b o hb e => k1 b o (by simpa using hb) e
    have hs1 := k1 S _ (by simpa using hSI) hs
    have sb := Heap.SameBut.update h1 S (Obj.mapSeq fun _ => (#[] : Array Value))
    show wpAny _ A.in1 (updateSeq S (fun _ => #[]) >>= _) _ _ _; refine wpAny_bind ?_; refine wpAny_updateSeq hs1 rfl (wpAny_bind (wpAny_letGo (wpAny_pure ?_)))
    exact hR i vb _ _ hvb (by rw [← hjn]; exact hb) (stay_but st1 hS fun b o hb e => (sb.2 b hb).trans e)
  | succ r ih =>
    intro j i h tk vb tb c hr hj st hs hit hvb hij hb
    have hjn : j + 1 < vs.length := by omega
    refine codeAny_builtin PySem.F.entry_min_loop ?_; rw [Around.under_plainId PySem.F.plain_min_loop _]; show wpAny _ A.in1 (seqItems? (.ref S) >>= _) _ _ _
    refine wpAny_bind (wpAny_seqItems hs rfl ?_); show wpAny _ A.in1 (tryCatch (pyNext (.ref I)) _ >>= _) _ _ _
    refine wpAny_bind (wpAny_tryCatch (W.item (j + 1) _ _ _ (by rw [sz]; exact hjn) ⟨hit, hl.at fun o e => st _ o e⟩ fun v h1 tk1 hP it1 k1 => ?_))
    have hv : vs[j + 1]? = some v := by simpa using hP
    have st1 : Stay s.heap h1 := stay_but st hI fun b o hb e => k1 b o (by simpa using hb) e
    have hs1 := k1 S _ (by simpa using hSI) hs
    show wpAny _ A.in1 (tryCatch (holding [v] (call (.builtin kid) [v])) _ >>= _) _ _ _; refine wpAny_bind (wpAny_tryCatch (wpAny_holding (turn (j + 1) v hv h1 tk1 _ _ st1 fun t2 tk2 => ?_)))
    show wpAny _ A.in1 (tryCatch (holding [v, .int (kf (j + 1)) t2] (richCompare .Lt (.int (kf (j + 1)) t2) (.int (kf i) tb) >>= _)) _ >>= _) _ _ _; refine wpAny_bind (wpAny_tryCatch (wpAny_holding (wpAny_bind (CmpOf.ints_lt (prog := P) (w := w) (A := A.in1) (P := fun i v => ∃ t, v = .int (kf i) t) kf (fun i v h => h) (j + 1) i _ _ _ _ _ ⟨t2, rfl⟩ ⟨tb, rfl⟩ ?_))))
    refine wpAny_bind (wpAny_holding (wpAny_truthy_bool ?_)); refine wpAny_bind (wpAny_letGo (wpAny_pure ?_))
    by_cases hlt : kf (j + 1) < kf i
    · have sb := Heap.SameBut.update h1 S (Obj.mapSeq fun _ => #[v, .int (kf (j + 1)) t2])
      obtain ⟨c2, hc2⟩ : ∃ c2, (h1.update S (Obj.mapSeq fun _ => #[v, .int (kf (j + 1)) t2])).get? S = some (seqObj "list" #[v, .int (kf (j + 1)) t2] c2) := ⟨_, get?_update_seq hs1 fun _ => #[v, .int (kf (j + 1)) t2]⟩
      simp only [hlt, decide_true, if_true]; refine wpAny_bind ?_; refine wpAny_updateSeq hs1 rfl (wpAny_bind (wpAny_letGo ?_)); rw [nm]
      refine wpAny_pure ⟨plainId_quiet PySem.F.plain_min_loop _, ih (j + 1) (j + 1) _ _ v t2 c2 (by omega) hjn (stay_but st1 hS fun b o hb e => (sb.2 b hb).trans e) hc2 (it1.1.at fun o e => (sb.2 I hSI.symm).trans e) hv (Nat.le_refl _) fun j' hj' => ?_⟩
      by_cases e : j' = j + 1
      · subst e
        exact ⟨by omega, fun _ => by omega⟩
      · have h1 := hb j' (by omega)
        have h2 := h1.1
        exact ⟨by omega, fun _ => by omega⟩
    · simp only [hlt, decide_false, Bool.false_eq_true, if_false]; refine wpAny_bind (wpAny_letGo ?_); rw [nm]
      refine wpAny_pure ⟨plainId_quiet PySem.F.plain_min_loop _, ih (j + 1) i _ _ vb tb c (by omega) hjn st1 hs1 it1.1 hvb (by omega) fun j' hj' => ?_⟩
      by_cases e : j' = j + 1
      · subst e
        exact ⟨by omega, fun _ => by omega⟩
      · exact hb j' (by omega)
theorem call_min_by {Q E : Value → Shared → Prop} (kf : Nat → Int) (hh : A.handled = none) (hl : s.heap.IsList l vs.toArray) (hne : 0 < vs.length) (turn : KeyTurn P w A s kid vs kf)
    (hQ : ∀ i v h' tk', vs[i]? = some v → Best kf i vs.length → Stay s.heap h' → Q v { s with heap := h', toks := tk' }) :
    wpAny (model P w) A (call (.builtin "min") [.ref l] [(Str.ofString "key", .builtin kid)]) Q E s := by
  have nm : (toString "min" ++ toString ".loop" : String) = "min.loop" := by decide
  have ll : l < s.heap.objs.size := by
    obtain ⟨o, e, _⟩ := id hl
    exact Heap.lt_size e
  refine kmb_tree PySem.F.kind_min PySem.F.plain_min PySem.F.entry_min (kmb_min_key _ _) ?_
  show wpAny _ A.in1 (Builtin.Builtins.bindParams "min" ["key", "default"] 0 ⟨[], [(Str.ofString "key", .builtin kid)]⟩ >>= _) _ _ s; refine wpAny_bind (wpAny_of_eq (show Builtin.Builtins.bindParams "min" ["key", "default"] 0 ⟨[], [(Str.ofString "key", .builtin kid)]⟩ = pure [some (.builtin kid), none] from rfl) ?_)
  refine wpAny_bind (wpAny_pure ?_); refine wpAny_bind (wpAny_pyIter_list hl ?_); refine wpAny_bind (wpAny_newList ?_ (Nat.zero_le _)); rw [nm]
  have g2 : ∀ b o, s.heap.get? b = some o → ((s.heap.push { cls := .type "list_iterator", data := .fields #[.ref l, .int 0 0] }).push (seqObj "list" #[] 0)).get? b = some o := fun b o e => Heap.get?_push_of_some _ (Heap.get?_push_of_some _ e)
  have zS : (s.heap.push { cls := .type "list_iterator", data := .fields #[.ref l, .int 0 0] }).objs.size = s.heap.objs.size + 1 := Heap.size_push ..
  have gI : ((s.heap.push { cls := .type "list_iterator", data := .fields #[.ref l, .int 0 0] }).push (seqObj "list" #[] 0)).get? s.heap.objs.size = some { cls := .type "list_iterator", data := .fields #[.ref l, .int 0 0] } := Heap.get?_push_of_some _ (Heap.get?_push_size _ rfl)
  have gS : ((s.heap.push { cls := .type "list_iterator", data := .fields #[.ref l, .int 0 0] }).push (seqObj "list" #[] 0)).get? (s.heap.push { cls := .type "list_iterator", data := .fields #[.ref l, .int 0 0] }).objs.size = some (seqObj "list" #[] 0) := Heap.get?_push_size _ rfl
  refine wpAny_pure ⟨plainId_quiet PySem.F.plain_min_loop _, ?_⟩
  have zI : s.heap.objs.size ≤ (s.heap.push { cls := .type "list_iterator", data := .fields #[.ref l, .int 0 0] }).objs.size := by omega
  have hSI : (s.heap.push { cls := .type "list_iterator", data := .fields #[.ref l, .int 0 0] }).objs.size ≠ s.heap.objs.size := by omega
  generalize (s.heap.push { cls := .type "list_iterator", data := .fields #[.ref l, .int 0 0] }).objs.size = S at zS gS zI hSI
  generalize ((s.heap.push { cls := .type "list_iterator", data := .fields #[.ref l, .int 0 0] }).push (seqObj "list" #[] 0)) = h0 at g2 gI gS
  have W := Walks.list (prog := P) (w := w) (A := A.in1) hh s.heap.objs.size l (Nat.ne_of_lt ll) vs.toArray
  have sz : vs.toArray.size = vs.length := List.size_toArray ..
  refine codeAny_builtin PySem.F.entry_min_loop ?_; rw [Around.under_plainId PySem.F.plain_min_loop _]; show wpAny _ A.in1 (seqItems? (.ref _) >>= _) _ _ _
  refine wpAny_bind (wpAny_seqItems gS rfl ?_); show wpAny _ A.in1 (tryCatch (pyNext (.ref s.heap.objs.size)) _ >>= _) _ _ _
  refine wpAny_bind (wpAny_tryCatch (W.item 0 _ _ _ (by rw [sz]; exact hne) ⟨⟨_, gI, rfl, rfl⟩, hl.at fun o e => g2 _ o e⟩ fun v h1 tk1 hP it1 k1 => ?_))
  have hv : vs[0]? = some v := by simpa using hP
  have st1 : Stay s.heap h1 := stay_but g2 (Nat.le_refl _) fun b o hb e => k1 b o (by simpa using hb) e
  have hs1 := k1 S _ (by simpa using hSI) gS
  show wpAny _ A.in1 (tryCatch (holding [v] (call (.builtin kid) [v])) _ >>= _) _ _ _; refine wpAny_bind (wpAny_tryCatch (wpAny_holding (turn 0 v hv h1 tk1 _ _ st1 fun t2 tk2 => ?_)))
  have sb := Heap.SameBut.update h1 S (Obj.mapSeq fun _ => #[v, .int (kf 0) t2])
  obtain ⟨c2, hc2⟩ : ∃ c2, (h1.update S (Obj.mapSeq fun _ => #[v, .int (kf 0) t2])).get? S = some (seqObj "list" #[v, .int (kf 0) t2] c2) := ⟨_, get?_update_seq hs1 fun _ => #[v, .int (kf 0) t2]⟩
  show wpAny _ A.in1 (updateSeq S (fun _ => #[v, .int (kf 0) t2]) >>= _) _ _ _; refine wpAny_bind ?_; refine wpAny_updateSeq hs1 rfl ?_; rw [nm]
  refine wpAny_pure ⟨plainId_quiet PySem.F.plain_min_loop _, min_walk kf hh hl (Nat.le_refl _) zI hSI turn hQ _ 0 0 _ _ v t2 c2 rfl hne (stay_but st1 zI fun b o hb e => (sb.2 b hb).trans e) hc2 (it1.1.at fun o e => (sb.2 _ hSI.symm).trans e) hv (Nat.le_refl _) fun j' hj' => ?_⟩
  have e : j' = 0 := by omega
  subst e
  exact ⟨by omega, fun h => absurd h (Nat.lt_irrefl _)⟩
end
section
variable {X : Cx}
def MinWant (K : PySem.W.Frag) (Q : VK) (x : V) (H1 : Hp) : Prop := ∃ (p : Addr) (ps : List (Addr × List V)), x = .ref p ∧ SqL K H1 p (ps.map fun e => V.ref e.1) ∧ (∀ e ∈ ps, SqL K H1 e.1 e.2) ∧ ps ≠ [] ∧ ∀ e ∈ ps, (∀ e' ∈ ps, e.2.length ≤ e'.2.length) → Q (.ref e.1) H1
def tMinLen (K : PySem.W.Frag) (te : TE) : TE := fun σ H Q => te σ H (MinWant K Q)
def one1 (B : V → Hp → Prop) : List V → Hp → Prop
  | [x], H => B x H
  | _, _ => False
theorem pe_minLen {e : Expr} {te : TE} {p p2 pos kpos : Pos} (hc : X.calm = true) (hm : X.mg "min" = none) (hm2 : X.mg "len" = none) (he : PE X e te) (hg : Gl X "min" := by rfl) (hg2 : Gl X "len" := by rfl)
    (hs : starEach [e] X.env = (false, eval e X.env) :: starEach [] X.env := by rfl) (hs2 : backTo pos (starEach [e] X.env) = (false, eval e X.env) :: backTo pos (starEach [] X.env) := by rfl) (hs3 : (backTo pos (starEach [e] X.env)).any (·.1) = false := by rfl) :
    PE X (.Call (.Name "min" p) [e] [⟨some "key", .Name "len" p2, kpos⟩] pos) (tMinLen X.K te) := by
  intro pins s σ H Q I h
  refine wpAny_Call_Name_kw (ld_blt I hg hm PyProof.Rows.boot_min ?_)
  refine PyProof.Rows.callWith_kw (thn (pa_cons he pa_nil hs pos pins s σ H (one1 (MinWant X.K Q)) I h) fun us s1 ⟨vs, H1, I1, r1, q1⟩ => ?_) hs2 hs3
  match vs, q1 with
  | [x], q1 =>
  obtain ⟨p, ps, rfl, hq, hall, hne, q⟩ := q1
  obtain ⟨u, rfl, rx⟩ := vals1 r1
  cases rx
  refine wpAny_evalAll_cons (wpAny_bind (ld_blt I1 hg2 hm2 PySem.boot_len (wpAny_bind (wpAny_standAt (wpAny_pure (wpAny_evalAll_nil ?_))))))
  show wpAny _ _ (call (.builtin "min") [.ref p] [(Str.ofString "key", .builtin "len")]) _ _ _
  obtain ⟨its, rv, pl, hz⟩ := I1.list hq
  have hits := vals_refs (fun e : Addr × List V => e.1) rv
  have hlen : its.length = ps.length := by rw [hits, List.length_map]
  have hnp : 0 < its.length := by rw [hlen]; exact List.length_pos_iff.mpr hne
  refine call_min_by (fun i => (((ps.getD i (0, [])).2.length : Nat) : Int)) (I1.ok.hd hc) pl.isList hnp (fun i v hv h' tk Q' E' st hQ' => ?_) fun i v h' tk' hv hb st => ?_
  · have hi : i < ps.length := by
      rw [← hlen]
      exact (List.getElem?_eq_some_iff.mp hv).1
    rw [hits, List.getElem?_map, List.getElem?_eq_getElem hi] at hv
    cases hv
    obtain ⟨its', rv', pl', hz'⟩ := I1.list (hall _ (List.getElem_mem hi))
    have hl' := rv'.length
    have hn := line63
    refine Calls.call_len_list (pl'.isList.at fun o e => st _ o e) (by simp only [List.size_toArray] <;> omega) ?_
    have e : (ps.getD i (0, [])).2.length = its'.toArray.size := by
      rw [List.getD_eq_getElem?_getD, List.getElem?_eq_getElem hi, List.size_toArray, ← hl']
      rfl
    have hq' := hQ' (tk + 1) (tk + 2)
    dsimp only at hq'
    rw [e] at hq'
    exact hq'
  · have hi : i < ps.length := by
      rw [← hlen]
      exact (List.getElem?_eq_some_iff.mp hv).1
    rw [hits, List.getElem?_map, List.getElem?_eq_getElem hi] at hv
    cases hv
    refine ⟨.ref _, H1, I1.kept st, rfl, q _ (List.getElem_mem hi) fun e' he' => ?_⟩
    obtain ⟨j, hj, ej⟩ := List.getElem_of_mem he'
    have := (hb j (by omega)).1
    dsimp only at this
    rw [List.getD_eq_getElem?_getD, List.getElem?_eq_getElem hi, List.getD_eq_getElem?_getD, List.getElem?_eq_getElem hj, ej] at this
    have h2 : ((ps[i].2.length : Nat) : Int) ≤ ((e'.2.length : Nat) : Int) := this
    omega
def Ite (K : PySem.W.Frag) (a : Addr) : It :=
  ⟨fun i H => ∃ xs x, SqL K H a xs ∧ xs[i]? = some x, fun i H y H' => ∃ T, H T = none ∧ y = .ref T ∧ ∃ x, (∀ xs, SqL K H a xs → xs[i]? = some x) ∧ H' = upd H T (.tup [.int i, x]), fun i H => ∃ xs, SqL K H a xs ∧ xs.length ≤ i⟩
def iEnum (K : PySem.W.Frag) (ta : TA) : TI := fun σ H R => ta σ H (one1 fun x H1 => ∃ a, x = .ref a ∧ (∃ xs, SqL K H1 a xs) ∧ R (Ite K a) H1)
end
end L2
set_option maxHeartbeats 4000000
namespace Sw
open PySem L2
theorem nat_xor_and (n : Nat) : ∀ x y : Nat, x < 2 ^ n → (x ^^^ y) + 2 * (x &&& y) = x + y := by
  induction n with
  | zero =>
    intro x y h
    have : x = 0 := by omega
    subst this
    simp
  | succ n ih =>
    intro x y h
    have h1 := ih (x / 2) (y / 2) (by rw [Nat.pow_succ] at h; omega)
    have e1 : (x ^^^ y) / 2 = x / 2 ^^^ y / 2 := Nat.xor_div_two
    have e2 : (x &&& y) / 2 = x / 2 &&& y / 2 := Nat.and_div_two
    have e3 : (x ^^^ y) % 2 = 1 ↔ ¬ (x % 2 = 1 ↔ y % 2 = 1) := Nat.xor_mod_two_eq_one
    have e4 : (x &&& y) % 2 = 1 ↔ x % 2 = 1 ∧ y % 2 = 1 := Nat.and_mod_two_eq_one
    rw [← e1, ← e2] at h1
    have l1 : (x ^^^ y) % 2 < 2 := Nat.mod_lt _ (by decide)
    have l2 : (x &&& y) % 2 < 2 := Nat.mod_lt _ (by decide)
    generalize x ^^^ y = p at *
    generalize x &&& y = q at *
    rcases Nat.mod_two_eq_zero_or_one x with hx | hx <;> rcases Nat.mod_two_eq_zero_or_one y with hy | hy <;> rw [hx, hy] at e3 e4 <;> simp at e3 e4 <;> omega
theorem xor_and (x y : Nat) : (x ^^^ y) + 2 * (x &&& y) = x + y := nat_xor_and x x y Nat.lt_two_pow_self
theorem bitXor_nat (x y : Nat) : Builtin.bitXor (x : Int) (y : Int) = ((x ^^^ y : Nat) : Int) := by
  have e := xor_and x y
  have e1 : Builtin.bitAnd (x : Int) (y : Int) = ((x &&& y : Nat) : Int) := by simp [Builtin.bitAnd]
  have e2 : Builtin.bitXor (x : Int) (y : Int) = (x : Int) + (y : Int) - 2 * Builtin.bitAnd (x : Int) (y : Int) := PyProof.Rows.bitXor_and _ _
  rw [e2, e1]
  omega
theorem bitAnd_nat (x y : Nat) : Builtin.bitAnd (x : Int) (y : Int) = ((x &&& y : Nat) : Int) := by simp [Builtin.bitAnd]
abbrev nv (a : Nat) : V := .int (a : Int)
def turned (sw ps : List Nat) : Nat := ps.foldl (fun a i => a ^^^ sw.getD i 0) 0
theorem turned_snoc (sw ps : List Nat) (i : Nat) : turned sw (ps ++ [i]) = turned sw ps ^^^ sw.getD i 0 := by
  unfold turned
  rw [List.foldl_append]
  rfl
theorem getD_lt {sw : List Nat} {n : Nat} (h : ∀ a ∈ sw, a < 2 ^ n) (i : Nat) : sw.getD i 0 < 2 ^ n := by
  rw [List.getD_eq_getElem?_getD]
  cases e : sw[i]? with
  | none => exact Nat.two_pow_pos n
  | some a => exact h a (List.mem_of_getElem? e)
structure Press (ps : List Nat) (m : Nat) : Prop where
  up : ps.Pairwise (· < ·)
  lt : ∀ a ∈ ps, a < m
def pressV (before : Int) (m : Int) : List V → Bool
  | [] => decide (before < m)
  | .int a :: r => if a ≤ before then false else pressV a m r
  | _ :: _ => false
theorem pressV_nats {m : Nat} : ∀ (ps : List Nat) (b : Int), ps.Pairwise (· < ·) → (∀ a ∈ ps, b < (a : Int)) → (∀ a ∈ ps, a < m) → b < (m : Int) → pressV b m (ps.map nv) = true
  | [], b, _, _, _, h => by simp [pressV, h]
  | a :: r, b, hp, h1, h2, h3 => by
    have e1 := h1 a List.mem_cons_self
    show (if (a : Int) ≤ b then false else pressV a m (r.map nv)) = true
    rw [if_neg (by omega)]
    have hp' := List.pairwise_cons.mp hp
    refine pressV_nats r a hp'.2 (fun c hc => ?_) (fun c hc => h2 c (List.mem_cons_of_mem _ hc)) ?_
    · have := hp'.1 c hc
      omega
    · have := h2 a List.mem_cons_self
      omega
theorem press_ok {ps : List Nat} {m : Nat} (h : Press ps m) : pressV (-1) m (ps.map nv) = true :=
  pressV_nats ps (-1) h.up (fun a _ => by omega) h.lt (by omega)
theorem Press.snoc {ps : List Nat} {m : Nat} (h : Press ps m) : Press (ps ++ [m]) (m + 1) := by
  refine ⟨List.pairwise_append.mpr ⟨h.up, List.pairwise_singleton _ _, fun a ha b hb => ?_⟩, fun a ha => ?_⟩
  · have hb' : b = m := by simpa using hb
    rw [hb']
    exact h.lt a ha
  · rcases List.mem_append.mp ha with z | z
    · exact Nat.lt_succ_of_lt (h.lt a z)
    · have : a = m := by simpa using z
      omega
theorem nv_get {xs : List Nat} {i : Nat} {x : V} (h : (xs.map nv)[i]? = some x) : ∃ a, xs[i]? = some a ∧ x = nv a := by
  rw [List.getElem?_map] at h
  cases e : xs[i]? with
  | none => rw [e] at h; cases h
  | some a => rw [e] at h; exact ⟨a, rfl, (Option.some.inj h).symm⟩
theorem tab_ix (ks : List Int) {i : Int} (h0 : 0 ≤ i) (h1 : i < (ks.length : Int)) : ∃ k, k ∈ ks ∧ atI (ks.map V.int) i = some (.int k) := by
  obtain ⟨j, rfl⟩ : ∃ j : Nat, i = (j : Int) := ⟨i.toNat, by omega⟩
  have hj : j < ks.length := by omega
  refine ⟨ks[j], List.getElem_mem hj, atI_nat ?_⟩
  rw [List.getElem?_map, List.getElem?_eq_getElem hj]
  rfl
end Sw
namespace Sw
open PySem L2
def FnAt (P : Program) (w : World) (K : PySem.W.Frag) (mg : Str → Option Value) (base : Heap) (x : Str) (k : Nat) (ps : List Str) (sp : Sp) : Prop :=
  ∃ f fd, mg x = some (.ref f) ∧ PySem.W.keepIn K (.ref f) = true ∧ Binds K fd ps [] ∧ FnOk P w K mg base CX0 k f fd ps sp
theorem pe_fn {X : Cx} {x : Str} {k k' : Nat} {ps : List Str} {sp : Sp} {e : Expr} {es : List Expr} {t : TA} {p pos : Pos} (F : FnAt X.prog X.w X.K X.mg X.base x k ps sp) (hr : Room k' X.A) (ha : PA X (e :: es) t) (hk : k ≤ k' := by decide) (hg : Gl X x := by rfl)
    (hdb : (x == ("__debug__" : Str)) = false := by decide) (he : starEach (e :: es) X.env = (false, eval e X.env) :: starEach es X.env := by rfl) (hpl : (backTo pos (starEach es X.env)).any (·.1) = false := by rfl) :
    PE X (.Call (.Name x p) (e :: es) [] pos) (tCall sp [] E0 t) := by
  obtain ⟨f, fd, hm, hkp, hb, G⟩ := F
  exact pe_call G (hr.mono hk) hg hm hkp hb .nil pass0 ha hdb he hpl
def MethAt (P : Program) (w : World) (K : PySem.W.Frag) (mg : Str → Option Value) (base : Heap) (C : Addr) (m : Str) (k : Nat) (ps : List Str) (sp : Sp) : Prop :=
  ∃ f fd, Meth K C m f ∧ Binds K fd ps [] ∧ FnOk P w K mg base CX0 k f fd ps sp
theorem pe_mt0 {X : Cx} {C : Addr} {m : Str} {k k' : Nat} {ps : List Str} {sp : Sp} {o : Expr} {ta : TE} {apos pos : Pos} {pl : Sem Bool} (F : MethAt X.prog X.w X.K X.mg X.base C m k ps sp) (c : Cls X.K C) (hr : Room k' X.A) (he : PE X o ta) (hk : k ≤ k' := by decide)
    (ht : eval (.Call (.Attribute o m apos) [] [] pos) X.env = (do
      let ov ← eval o X.env
      standAt apos.atName
      let (f, first) ← holding [ov] (getMethod ov m pl)
      callWith pos f first (backTo pos (starEach [] X.env)) (backToKw pos (keywordEach [] X.env))) := by rfl) : PE X (.Call (.Attribute o m apos) [] [] pos) (tMeth C m sp [] E0 ta tNil) := by
  obtain ⟨f, fd, hm, hb, G⟩ := F
  exact pe_meth0 he c hm G (hr.mono hk) hb .nil pass0 ht
theorem pe_isi {X : Cx} {T : String} {y : Str} {e : Expr} {te : TE} {p p2 pos : Pos} (hm : X.mg "isinstance" = none) (hm2 : X.mg y = none) (hv : bootBuiltins y = some (.type T)) (he : PE X e te) (hg : Gl X "isinstance" := by rfl) (hg2 : Gl X y := by rfl) (hn : y ≠ "__name__" := by decide) (hd : (y == ("__debug__" : Str)) = false := by decide)
    (hs : starEach [e, .Name y p2] X.env = (false, eval e X.env) :: starEach [.Name y p2] X.env := by rfl) (hpl : (backTo pos (starEach [.Name y p2] X.env)).any (·.1) = false := by rfl) (hs2 : starEach [.Name y p2] X.env = (false, eval (.Name y p2) X.env) :: starEach [] X.env := by rfl) :
    PE X (.Call (.Name "isinstance" p) [e, .Name y p2] [] pos) (tCB (rIsi X.K) (tCons te (tCons (tC (.ty T)) tNil))) :=
  pe_callB call_isinst hg hm PyProof.Rows.boot_isinstance (pa_cons he (pa_cons (pe_bltn hg2 hm2 hv (v := .ty T) rfl hn hd) pa_nil hs2) hs) (by decide) (by decide) hs hpl
def numV : V → Option Int
  | .int z => some z
  | _ => none
structure KindOf (K : PySem.W.Frag) (H : Hp) (v : V) (t : Value) (b1 b2 : Bool) : Prop where
  ty : TyOf K H v t
  i : PySem.W.kitOne K t (.type "int") = some b1
  b : PySem.W.kitOne K t (.type "bool") = some b2
theorem kind_int (K : PySem.W.Frag) (H : Hp) (z : Int) : KindOf K H (.int z) (.type "int") true false := ⟨.int z, by rfl, by rfl⟩
theorem pe_mt {X : Cx} {C : Addr} {m : Str} {k k' : Nat} {ps : List Str} {sp : Sp} {o e : Expr} {es : List Expr} {ta : TE} {t : TA} {apos pos : Pos} {pl : Sem Bool} (F : MethAt X.prog X.w X.K X.mg X.base C m k ps sp) (c : Cls X.K C) (hr : Room k' X.A) (he : PE X o ta) (ha : PA X (e :: es) t) (hk : k ≤ k' := by decide)
    (hst : starEach (e :: es) X.env = (false, eval e X.env) :: starEach es X.env := by rfl) (hpl : (backTo pos (starEach es X.env)).any (·.1) = false := by rfl)
    (ht : eval (.Call (.Attribute o m apos) (e :: es) [] pos) X.env = (do
      let ov ← eval o X.env
      standAt apos.atName
      let (f, first) ← holding [ov] (getMethod ov m pl)
      callWith pos f first (backTo pos (starEach (e :: es) X.env)) (backToKw pos (keywordEach [] X.env))) := by rfl) : PE X (.Call (.Attribute o m apos) (e :: es) [] pos) (tMeth C m sp [] E0 ta t) := by
  obtain ⟨f, fd, hm, hb, G⟩ := F
  exact pe_meth he c hm G (hr.mono hk) hb .nil pass0 ha hst hpl ht
def MkAt (P : Program) (w : World) (K : PySem.W.Frag) (mg : Str → Option Value) (base : Heap) (x : Str) (C : Addr) (k : Nat) (ps : List Str) (sp : Sp) : Prop :=
  ∃ f fd, mg x = some (.ref C) ∧ Mk K C f ∧ Binds K fd ps [] ∧ FnOk P w K mg base CX0 k f fd ps sp
theorem pe_mk {X : Cx} {x : Str} {C : Addr} {k k' : Nat} {ps : List Str} {sp : Sp} {e : Expr} {es : List Expr} {t : TA} {p pos : Pos} (F : MkAt X.prog X.w X.K X.mg X.base x C k ps sp) (hr : Room k' X.A) (ha : PA X (e :: es) t) (hk : k + 1 ≤ k' := by decide) (hg : Gl X x := by rfl)
    (hdb : (x == ("__debug__" : Str)) = false := by decide) (he : starEach (e :: es) X.env = (false, eval e X.env) :: starEach es X.env := by rfl) (hpl : (backTo pos (starEach es X.env)).any (·.1) = false := by rfl) :
    PE X (.Call (.Name x p) (e :: es) [] pos) (tMake C sp [] E0 t) := by
  obtain ⟨f, fd, hm, M, hb, G⟩ := F
  exact pe_make M G (hr.mono hk) hg hm hb .nil pass0 ha hdb he hpl
def top (i : Nat) : Stmt := PySem.Challenge.pw_switchlamps_k02_whole_telling.main.body.getD i (.Pass ⟨0, 0, 0, 0⟩)
abbrev sInit : Stmt := inClass (top 7) 0
abbrev sSwitches : Stmt := inClass (top 7) 1
abbrev sIsNumber : Stmt := top 8
abbrev sAreLamps : Stmt := top 9
abbrev sIsPress : Stmt := top 10
abbrev sTurnedBy : Stmt := top 11
abbrev sCellAt : Stmt := top 22
abbrev sDraw : Stmt := top 23
abbrev sTold : Stmt := top 24
abbrev sTurned : Stmt := top 26
abbrev sNumber : Stmt := top 29
abbrev sLaw : Stmt := top 33
theorem lw : ¬ (("lamps" : Str) = "wiring") := by decide +kernel
def flds (n : Nat) (w : Addr) : List (Str × V) := putF "wiring" (.ref w) (putF "lamps" (nv n) [])
theorem flds_lamps (n : Nat) (w : Addr) : (flds n w).lookup ("lamps" : Str) = some (nv n) := by
  unfold flds
  rw [lookup_putF, if_neg lw, lookup_putF, if_pos rfl]
theorem flds_wiring (n : Nat) (w : Addr) : (flds n w).lookup ("wiring" : Str) = some (.ref w) := by
  unfold flds
  rw [lookup_putF, if_pos rfl]
theorem flds_no (n : Nat) (w : Addr) {m : Str} (h1 : ¬ m = "wiring") (h2 : ¬ m = "lamps") : (flds n w).lookup m = none := by
  unfold flds
  rw [lookup_putF, if_neg h1, lookup_putF, if_neg h2]
  all_goals rfl
structure HouseAt (C : Addr) (H : Hp) (p : Addr) (n : Nat) (sw : List Nat) : Prop where
  ob : ∃ dx w, H p = some (.ins C dx (flds n w)) ∧ H w = some (.tup (sw.map nv))
theorem HouseAt.same {C : Addr} {H H' : Hp} {p : Addr} {n : Nat} {sw : List Nat} (h : HouseAt C H p n sw) (s : Same H H') : HouseAt C H' p n sw := by
  obtain ⟨dx, w, h1, h2⟩ := h.ob
  exact ⟨dx, w, s _ _ h1, s _ _ h2⟩
structure Good (n : Nat) (sw : List Nat) : Prop where
  n1 : 1 ≤ n
  n10 : n ≤ 10
  s8 : sw.length ≤ 8
  lt : ∀ a ∈ sw, a < 2 ^ n
theorem same_upd {H : Hp} {a : Addr} {o : HO} (h : H a = none) : Same H (upd H a o) := fun b u e => by rw [upd_ne (ne_of_none e h)]; exact e
theorem small9 {n : Nat} (h : n ≤ 100) : n < sizeLine := small1000 (by omega)
structure Txt (K : PySem.W.Frag) (mg : Str → Option Value) (C : Addr) : Prop where
  cl : Cls K C
  nL : NoAttr K C "lamps"
  nW : NoAttr K C "wiring"
  mgC : mg "House" = some (.ref C)
  mL : ∃ t, mg "MOST_LAMPS" = some (.int 10 t)
  mS : ∃ t, mg "MOST_SWITCHES" = some (.int 8 t)
  len : mg "len" = none
  range : mg "range" = none
  isi : mg "isinstance" = none
  int : mg "int" = none
  bool : mg "bool" = none
  list : mg "list" = none
  tuple : mg "tuple" = none
  all : mg "all" = none
def spIsNumber (K : PySem.W.Frag) : Sp := fun vs H Q _ => ∃ v t b1 b2, vs = [v] ∧ KindOf K H v t b1 b2 ∧ Q (.bl (b1 && !b2)) H
def spAreLamps (K : PySem.W.Frag) : Sp := fun vs H Q _ => ∃ (c : Nat) (v : V) (t : Value) (b1 b2 : Bool), vs = [nv c, v] ∧ c ≤ 1000 ∧ KindOf K H v t b1 b2 ∧
  ((b1 && !b2) = true → ∃ z, v = .int z ∧ Q (.bl (decide (0 ≤ z) && decide (z < 2 ^ c))) H) ∧ ((b1 && !b2) = false → Q (.bl false) H)
def spInit (K : PySem.W.Frag) (C : Addr) : Sp := fun vs H Q _ => ∃ (p dx l : Addr) (n : Nat) (sw : List Nat), vs = [.ref p, nv n, .ref l] ∧ H p = some (.ins C dx []) ∧ H l = some (.lst (sw.map nv)) ∧ Good n sw ∧
  ∀ H', HouseAt C H' p n sw → (∀ b o, H b = some o → b ≠ p → H' b = some o) → Q .non H'
def spSwitches (C : Addr) : Sp := fun vs H Q _ => ∃ (p : Addr) (n : Nat) (sw : List Nat), vs = [.ref p] ∧ HouseAt C H p n sw ∧ ∀ l, H l = none → Q (.ref l) (upd H l (.lst (sw.map nv)))
def spIsPress (C : Addr) : Sp := fun vs H Q _ => ∃ (p l : Addr) (n : Nat) (sw : List Nat) (zs : List Int), vs = [.ref p, .ref l] ∧ HouseAt C H p n sw ∧ sw.length ≤ 8 ∧ H l = some (.lst (zs.map V.int)) ∧
  ∀ H', Same H H' → Q (.bl (pressV (-1) sw.length (zs.map V.int))) H'
def spTurnedBy (C : Addr) : Sp := fun vs H Q _ => ∃ (p l : Addr) (n : Nat) (sw ps : List Nat), vs = [.ref p, .ref l] ∧ HouseAt C H p n sw ∧ H l = some (.lst (ps.map nv)) ∧ (∀ a ∈ ps, a < sw.length) ∧
  ∀ H', Same H H' → Q (nv (turned sw ps)) H'
def spCellAt (K : PySem.W.Frag) : Sp := fun vs H Q _ => ∃ (a : Addr) (ns : List Int) (k : Nat), vs = [.ref a, nv k] ∧ SqL K H a (ns.map V.int) ∧ ∀ z : Int, Q (.int z) H
def spDraw : Sp := fun vs H Q _ => ∃ (c : Int) (k m : Nat), vs = [.int c, nv k, nv m] ∧ 0 < m ∧ ∀ (z : Nat) H', Same H H' → z < m → Q (nv z) H'
def spTold (K : PySem.W.Frag) : Sp := fun vs H Q _ => ∃ (a : Addr) (ns : List Int) (k : Nat), vs = [.ref a, nv k] ∧ SqL K H a (ns.map V.int) ∧
  ∀ (p l : Addr) (n : Nat) (sw : List Nat) H', Same H H' → H p = none → H l = none → H' p = some (.tup [nv n, .ref l]) → H' l = some (.lst (sw.map nv)) → Good n sw → Q (.ref p) H'
def spTurned : Sp := fun vs H Q _ => ∃ (p l q : Addr) (n : Nat) (sw ps : List Nat), vs = [.ref p, .ref q] ∧ H p = some (.tup [nv n, .ref l]) ∧ H l = some (.lst (sw.map nv)) ∧ H q = some (.lst (ps.map nv)) ∧ (∀ a ∈ ps, a < sw.length) ∧ Q (nv (turned sw ps)) H
def spNumber (K : PySem.W.Frag) : Sp := fun vs H Q _ => ∃ (z : Nat) (m : Int), vs = [nv z, .int m] ∧ Q (.bl (decide ((z : Int) < m))) H
def spLaw (K : PySem.W.Frag) : Sp := fun vs H Q _ => ∃ (a : Addr) (ns : List Int), vs = [.ref a] ∧ SqL K H a (ns.map V.int) ∧ ns.length ≤ 63 ∧ ∀ H', Q (.bl true) H'
section
variable {X : Cx}
theorem shl_nat (n : Nat) : (1 : Int) * 2 ^ ((n : Int).toNat) = ((2 ^ n : Nat) : Int) := by simp
theorem op_shl1 : OpR X (binaryOp .LShift) (fun x y H Q => ∃ n : Nat, x = .int 1 ∧ y = nv n ∧ n ≤ 1000 ∧ Q (nv (2 ^ n)) H) := fun pins s σ H x y v u Q I rx ry h => by
  obtain ⟨n, rfl, rfl, hn, q⟩ := h
  exact op_shl pins s σ H _ _ v u Q I rx ry ⟨1, n, rfl, rfl, ⟨by omega, by omega, by decide⟩, by show Q (.int (1 * 2 ^ ((n : Int).toNat))) H; rw [shl_nat]; exact q⟩
theorem op_pred : OpR X (binaryOp .Sub) (fun x y H Q => ∃ a : Nat, x = nv a ∧ y = .int 1 ∧ 0 < a ∧ Q (nv (a - 1)) H) := fun pins s σ H x y v u Q I rx ry h => by
  obtain ⟨a, rfl, rfl, ha, q⟩ := h
  have e : nv (a - 1) = V.int ((a : Int) - 1) := congrArg V.int (by omega)
  rw [e] at q
  exact op_sub pins s σ H _ _ v u Q I rx ry ⟨a, 1, rfl, rfl, q⟩
theorem op_xorN : OpR X (binaryOp .BitXor) (fun x y H Q => ∃ a b : Nat, x = nv a ∧ y = nv b ∧ Q (nv (a ^^^ b)) H) := fun pins s σ H x y v u Q I rx ry h => by
  obtain ⟨a, b, rfl, rfl, q⟩ := h
  exact op_xor pins s σ H _ _ v u Q I rx ry ⟨a, b, rfl, rfl, by show Q (.int (Builtin.bitXor a b)) H; rw [bitXor_nat]; exact q⟩
theorem op_andN : OpR X (binaryOp .BitAnd) (fun x y H Q => ∃ a b : Nat, x = nv a ∧ y = nv b ∧ Q (nv (a &&& b)) H) := fun pins s σ H x y v u Q I rx ry h => by
  obtain ⟨a, b, rfl, rfl, q⟩ := h
  exact op_and pins s σ H _ _ v u Q I rx ry ⟨a, b, rfl, rfl, by show Q (.int (Builtin.bitAnd a b)) H; rw [bitAnd_nat]; exact q⟩
end
theorem iteP {c A B : Prop} [Decidable c] (hc : c) (h : A) : if decide c = true then A else B := by rw [if_pos (decide_eq_true hc)]; exact h
theorem iteN {c A B : Prop} [Decidable c] (hc : ¬ c) (h : B) : if decide c = true then A else B := by rw [decide_eq_false hc, if_neg Bool.false_ne_true]; exact h
theorem iteB {b : Bool} {A B : Prop} (hb : b = false) (h : B) : if b = true then A else B := by subst hb; exact iteF h
theorem iteBT {b : Bool} {A B : Prop} (hb : b = true) (h : A) : if b = true then A else B := by subst hb; exact iteT h
section
variable {P : Program} {w : World} {K : PySem.W.Frag} {mg : Str → Option Value} {base : Heap} {C : Addr}
theorem scN : FnScope ["value"] ["value"] (defScope sIsNumber) := ⟨rfl, rfl, rfl, by decide +kernel, rfl, by decide +kernel, by decide +kernel⟩
theorem ok_isNumber {f : Addr} {fd : FuncData} (F : Fun K "is_number" "is_number" sIsNumber f fd) (T : Txt K mg C) : FnOk P w K mg base CX0 1 f fd ["value"] (spIsNumber K) := by
  refine F.ok scN (fun vs H Q E h => ?_) (fun cdv A outer s H vs Q E hr h => ?_)
  · obtain ⟨v, t, b1, b2, rfl, _⟩ := h
    rfl
  · obtain ⟨v, t, b1, b2, rfl, kd, k⟩ := h
    refine ⟨_, pss_one (ps_ret (pe_and (pe_isi T.isi T.int PyProof.Rows.boot_int (pv 0)) (pe_one (pe_not (pe_isi T.isi T.bool PyProof.Rows.boot_bool (pv 0)))))), ?_⟩
    refine ⟨_, rfl, v, "int", t, b1, rfl, kd.ty, kd.i, b1, rfl, ?_⟩
    cases b1 with
    | false => exact iteF k
    | true => exact iteT ⟨_, rfl, v, "bool", t, b2, rfl, kd.ty, kd.b, b2, rfl, k⟩
theorem scA : FnScope ["count", "value"] ["count", "value"] (defScope sAreLamps) := ⟨rfl, rfl, rfl, by decide +kernel, rfl, by decide +kernel, by decide +kernel⟩
theorem ok_areLamps {f : Addr} {fd : FuncData} (F : Fun K "are_lamps" "are_lamps" sAreLamps f fd) (FN : FnAt P w K mg base "is_number" 1 ["value"] (spIsNumber K)) : FnOk P w K mg base CX0 2 f fd ["count", "value"] (spAreLamps K) := by
  refine F.ok scA (fun vs H Q E h => ?_) (fun cdv A outer s H vs Q E hr h => ?_)
  · obtain ⟨c, v, t, b1, b2, rfl, _⟩ := h
    rfl
  · obtain ⟨c, v, t, b1, b2, rfl, hc, kd, k1, k2⟩ := h
    refine ⟨_, pss_one (ps_ret (pe_and (pe_fn FN hr (pa_cons (pv 1) pa_nil)) (pe_one (pe_chain op_le op_lt pe_int (pv 1) (pe_op op_shl1 pe_int (pv 0)))))), ?_⟩
    refine ⟨_, rfl, v, t, b1, b2, rfl, kd, _, rfl, ?_⟩
    refine ite2 (fun hb => ?_) (fun hb => ?_)
    · obtain ⟨z, rfl, q⟩ := k1 hb
      refine ⟨_, rfl, 0, z, rfl, rfl, _, rfl, ?_⟩
      refine ite2 (fun h0 => ?_) (fun h0 => ?_)
      · refine ⟨_, rfl, c, rfl, rfl, hc, z, _, rfl, rfl, ?_⟩
        rw [h0, Bool.true_and] at q
        have e : (2 : Int) ^ c = ((2 ^ c : Nat) : Int) := by simp
        rw [e] at q
        exact q
      · have h0' : decide (0 ≤ z) = false := by simpa using h0
        rw [h0', Bool.false_and] at q
        exact q
    · exact k2 (by simpa using hb)
def compOfInit : Scope := match (defBody sInit).getD 2 (.Pass ⟨0, 0, 0, 0⟩) with
  | .If (.UnaryOp _ (.Call _ [.ListComp _ _ sc _] _ _) _) _ _ _ => sc
  | _ => defScope sInit
theorem scI : FnScope ["self", "lamps", "switches"] ["self", "lamps", "switches"] (defScope sInit) := ⟨rfl, rfl, rfl, by decide +kernel, rfl, by decide +kernel, by decide +kernel⟩
theorem csI : CompScope (defScope sInit) compOfInit ["self", "lamps", "switches"] "turned" [1] ["lamps"] := ⟨rfl, by decide +kernel, by decide +kernel, by decide +kernel, by decide +kernel, by decide +kernel, by decide +kernel, by decide +kernel⟩
theorem lamps_ok {a n : Nat} (h : a < 2 ^ n) : (decide (0 ≤ (a : Int)) && decide ((a : Int) < 2 ^ n)) = true := by
  have e : (2 : Int) ^ n = ((2 ^ n : Nat) : Int) := by simp
  rw [e, Bool.and_eq_true]
  exact ⟨decide_eq_true (by omega), decide_eq_true (by omega)⟩
theorem ok_init {f : Addr} {fd : FuncData} (F : Fun K "__init__" "House.__init__" sInit f fd) (T : Txt K mg C) (FN : FnAt P w K mg base "is_number" 1 ["value"] (spIsNumber K)) (FA : FnAt P w K mg base "are_lamps" 2 ["count", "value"] (spAreLamps K)) :
    FnOk P w K mg base CX0 3 f fd ["self", "lamps", "switches"] (spInit K C) := by
  refine F.ok scI (fun vs H Q E h => ?_) (fun cdv A outer s H vs Q E hr h => ?_)
  · obtain ⟨p, dx, l, n, sw, rfl, _⟩ := h
    rfl
  · obtain ⟨p, dx, l, n, sw, rfl, hp, hl, g, k⟩ := h
    obtain ⟨tL, mL⟩ := T.mL
    obtain ⟨tS, mS⟩ := T.mS
    refine ⟨_, pss_cons (ps_if (PW.pt (pw_or (pt_not (pt_val (pe_fn FN hr (pa_cons (pv 1) pa_nil)))) (pw_or1 (pt_not (pt_chain op_le op_le pe_int (pv 1) (pe_glob (v := .int 10) rfl mL ⟨_, rfl⟩)))))) pss_never pss_nil)
      (pss_cons (ps_if (PW.pt (pw_or (pt_not (pt_val (pe_isi T.isi T.list PyProof.Rows.boot_list (pv 2)))) (pw_or1 (pt_cmpR op_gt (pe_callB call_len_seq rfl T.len PySem.boot_len (pa_cons (pv 2) pa_nil)) (pe_glob (v := .int 8) rfl mS ⟨_, rfl⟩) (nomark _))))) pss_never pss_nil)
      (pss_cons (ps_if (pt_not (pt_val (pe_callB (call_all rfl) rfl T.all PyProof.Rows.boot_all (pa_cons (pe_comp rfl csI (pi_list (pv 2)) (fun _ _ _ _ => pts_nil) (fun _ _ _ _ => pe_fn FA hr (pa_cons (pv 1) (pa_cons (pv 0) pa_nil)))) pa_nil)))) pss_never pss_nil)
      (pss_cons (ps_fld (pv 0) (pv 1) rfl)
      (pss_one (ps_fld (pv 0) (pe_callTy call_tuple_of rfl T.tuple PyProof.Rows.boot_tuple (pa_cons (pv 2) pa_nil)) rfl))))), ?_⟩
    refine ⟨_, rfl, nv n, _, true, false, rfl, kind_int K H n, _, rfl, ?_⟩
    refine iteF ?_
    refine ⟨_, rfl, 1, n, rfl, rfl, _, rfl, ?_⟩
    refine iteP (by have := g.n1; omega) ?_
    refine ⟨n, 10, rfl, rfl, _, rfl, ?_⟩
    refine iteNS (by have := g.n10; omega) ?_
    refine ⟨_, rfl, .ref l, "list", _, true, rfl, .lst hl, by rfl, _, rfl, ?_⟩
    refine iteF ?_
    refine ⟨_, rfl, l, _, rfl, .inl (SqL.of hl), _, 8, rfl, rfl, _, rfl, ?_⟩
    refine iteN (by rw [List.length_map]; have := g.s8; omega) ?_
    refine ⟨_, rfl, l, rfl, ⟨_, SqL.of hl⟩, fun acc hacc => comp_list (K := K) (a := l) (xs := sw.map nv) (fun i ys H' => i ≤ sw.length ∧ ys = (List.replicate i true).map V.bl ∧ H' = upd H acc (.lst ys)) ⟨Nat.zero_le _, rfl, rfl⟩ ?_ ?_ ?_⟩
    · rintro i ys H' ⟨hi, _, rfl⟩
      exact ⟨by rw [List.length_map]; exact hi, SqL.of (by rw [upd_ne (ne_of_none hl hacc)]; exact hl)⟩
    · rintro i x ys H' hx ⟨hi, rfl, rfl⟩
      obtain ⟨a, ha, rfl⟩ := nv_get hx
      have hilt : i < sw.length := (List.getElem?_eq_some_iff.mp ha).1
      refine tTrue_mk ?_
      refine iteT ?_
      refine ⟨nv n, rfl, nv a, rfl, n, nv a, _, true, false, rfl, by have := g.n10; omega, kind_int K _ a, fun _ => ⟨a, rfl, upd_same, ?_, hilt, ?_, ?_⟩, fun z => by cases z⟩
      · rw [List.length_map, List.length_replicate]
        exact small9 (by have := g.s8; omega)
      · rw [lamps_ok (g.lt a (List.mem_of_getElem? ha)), List.replicate_succ', List.map_append]
        rfl
      · rw [upd_upd]
    · rintro ys H' ⟨_, rfl, rfl⟩
      refine ⟨acc, List.replicate (sw.map nv).length true, rfl, SqL.of upd_same, _, rfl, ?_⟩
      have e : (!(List.replicate (sw.map nv).length true).all id) = false := by simp
      refine iteB e ?_
      have npl : p ≠ l := ne_of hp hl (by intro z; cases z)
      have npa : p ≠ acc := ne_of_none hp hacc
      refine ⟨_, rfl, _, rfl, p, C, dx, [], rfl, (by rw [upd_ne npa]; exact hp), T.cl, T.nL, (by show 0 < 1000; decide), ?_⟩
      refine ⟨_, rfl, l, _, rfl, .inl ⟨SqL.of (by rw [upd_ne npl.symm, upd_ne (ne_of_none hl hacc)]; exact hl), fun u hu => ?_⟩⟩
      have hu1 : H u = none := by
        cases e1 : H u with
        | none => rfl
        | some o =>
          by_cases hup : u = p
          · rw [hup, upd_same] at hu; cases hu
          · rw [upd_ne hup, upd_ne (ne_of_none e1 hacc), e1] at hu; cases hu
      have npu : p ≠ u := ne_of_none hp hu1
      refine ⟨_, rfl, p, C, dx, _, rfl, (by rw [upd_ne npu, upd_same]), T.cl, T.nW, (by show 1 < 1000; decide), ?_⟩
      refine k _ ⟨dx, u, upd_same, by rw [upd_ne npu.symm, upd_same]⟩ fun b o hb hbp => ?_
      rw [upd_ne hbp, upd_ne (ne_of_none hb hu1), upd_ne hbp, upd_ne (ne_of_none hb hacc)]
      exact hb
theorem scS : FnScope ["self"] ["self"] (defScope sSwitches) := ⟨rfl, rfl, rfl, by decide +kernel, rfl, by decide +kernel, by decide +kernel⟩
theorem ok_switches {f : Addr} {fd : FuncData} (F : Fun K "switches" "House.switches" sSwitches f fd) (T : Txt K mg C) : FnOk P w K mg base CX0 1 f fd ["self"] (spSwitches C) := by
  refine F.ok scS (fun vs H Q E h => ?_) (fun cdv A outer s H vs Q E hr h => ?_)
  · obtain ⟨p, n, sw, rfl, _⟩ := h
    rfl
  · obtain ⟨p, n, sw, rfl, hh, k⟩ := h
    obtain ⟨dx, u, h1, h2⟩ := hh.ob
    refine ⟨_, pss_one (ps_ret (pe_callTy call_list_of rfl T.list PyProof.Rows.boot_list (pa_cons (pe_fld (pv 0) rfl) pa_nil))), ?_⟩
    exact ⟨_, rfl, p, C, dx, _, _, rfl, h1, T.cl, T.nW, flds_wiring n u, u, _, rfl, .inr (SqT.of h2), k⟩
abbrev FSw (P : Program) (w : World) (K : PySem.W.Frag) (mg : Str → Option Value) (base : Heap) (C : Addr) : Prop := MethAt P w K mg base C "switches" 1 ["self"] (spSwitches C)
theorem sw_no (n : Nat) (u : Addr) : (flds n u).lookup ("switches" : Str) = none := flds_no n u (by decide +kernel) (by decide +kernel)
theorem scP : FnScope ["house", "value", "before", "at"] ["house", "value"] (defScope sIsPress) := ⟨rfl, rfl, rfl, by decide +kernel, rfl, by decide +kernel, by decide +kernel⟩
theorem int_get {xs : List Int} {i : Nat} {x : V} (h : (xs.map V.int)[i]? = some x) : ∃ a, xs[i]? = some a ∧ x = .int a := by
  rw [List.getElem?_map] at h
  cases e : xs[i]? with
  | none => rw [e] at h; cases h
  | some a => rw [e] at h; exact ⟨a, rfl, (Option.some.inj h).symm⟩
theorem drop_int {ps : List Int} {i : Nat} {a : Int} (h : ps[i]? = some a) : (ps.drop i).map V.int = V.int a :: (ps.drop (i + 1)).map V.int := by
  obtain ⟨hi, rfl⟩ := List.getElem?_eq_some_iff.mp h
  rw [List.drop_eq_getElem_cons hi]
  rfl
theorem ok_isPress {f : Addr} {fd : FuncData} (F : Fun K "is_press" "is_press" sIsPress f fd) (T : Txt K mg C) (FN : FnAt P w K mg base "is_number" 1 ["value"] (spIsNumber K)) (FS : FSw P w K mg base C) : FnOk P w K mg base CX0 2 f fd ["house", "value"] (spIsPress C) := by
  refine F.ok scP (fun vs H Q E h => ?_) (fun cdv A outer s H vs Q E hr h => ?_)
  · obtain ⟨p, l, n, sw, zs, rfl, _⟩ := h
    rfl
  · obtain ⟨p, l, n, sw, zs, rfl, hh, h8, hl, k⟩ := h
    refine ⟨_, pss_cons (ps_if (pt_not (pt_val (pe_isi T.isi T.list PyProof.Rows.boot_list (pv 1)))) (pss_one (ps_ret pe_bl)) pss_nil)
      (pss_cons (ps_set (i := 2) scP.nd rfl (Or.inl rfl) (pe_un un_neg pe_int))
      (pss_cons (ps_for PassesOwn.never rfl (pi_list (pv 1)) (pg_name (i := 3) scP.nd rfl (Or.inl rfl))
        (pss_cons (ps_if (PW.pt (pw_or (pt_not (pt_val (pe_fn FN hr (pa_cons (pv 3) pa_nil)))) (pw_or1 (pt_cmpR op_le (pv 3) (pv 2) (nomark _))))) (pss_one (ps_ret pe_bl)) pss_nil)
        (pss_one (ps_set (i := 2) scP.nd rfl (Or.inl rfl) (pv 3)))))
      (pss_one (ps_ret (pe_cmpR op_lt (pv 2) (pe_callB call_len_seq rfl T.len PySem.boot_len (pa_cons (pe_mt0 FS T.cl hr (pv 0)) pa_nil)) (nomark _)))))), ?_⟩
    refine ⟨_, rfl, .ref l, "list", _, true, rfl, .lst hl, by rfl, _, rfl, ?_⟩
    refine iteF ?_
    refine ⟨1, rfl, ?_⟩
    refine ⟨_, rfl, l, rfl, ⟨_, SqL.of hl⟩, for_list (K := K) (a := l) (xs := zs.map V.int) (fun i σ H' => ∃ (b : Int) (v : Option V), σ = [some (.ref p), some (.ref l), some (.int b), v] ∧ H' = H ∧ pressV (-1) sw.length (zs.map V.int) = pressV b sw.length ((zs.drop i).map V.int))
      ⟨-1, none, rfl, rfl, by rw [List.drop_zero]⟩ ?_ ?_ ?_⟩
    · rintro i σ H' _ ⟨b, v, _, rfl, _⟩
      exact SqL.of hl
    · rintro i x σ H' hx ⟨b, v, rfl, rfl, e⟩
      obtain ⟨a, ha, rfl⟩ := int_get hx
      rw [drop_int ha] at e
      refine ⟨_, rfl, .int a, _, true, false, rfl, kind_int K _ a, _, rfl, ?_⟩
      refine iteF ?_
      refine ⟨_, rfl, _, rfl, _, _, rfl, rfl, _, rfl, ?_⟩
      have e2 : pressV b sw.length (.int a :: (zs.drop (i + 1)).map V.int) = if (a : Int) ≤ b then false else pressV a sw.length ((zs.drop (i + 1)).map V.int) := rfl
      rw [e2] at e
      refine ite2 (fun h1 => ?_) (fun h1 => ?_)
      · have h1' : (a : Int) ≤ b := of_decide_eq_true h1
        rw [if_pos h1'] at e
        have := k H' (Same.refl _)
        rw [e] at this
        exact this
      · have h1' : ¬ (a : Int) ≤ b := fun z => h1 (decide_eq_true z)
        rw [if_neg h1'] at e
        exact ⟨_, rfl, a, some (V.int a), rfl, rfl, e⟩
    · rintro σ H' ⟨b, v, rfl, rfl, e⟩
      obtain ⟨dx, u, h1, h2⟩ := hh.ob
      refine ⟨_, rfl, _, rfl, p, dx, _, rfl, h1, sw_no n u, p, n, sw, rfl, hh, fun q hq => ?_⟩
      refine ⟨q, _, rfl, .inl (SqL.of upd_same), _, _, rfl, rfl, ?_⟩
      have := k _ (same_upd (o := .lst (sw.map nv)) hq)
      rw [e, List.length_map, List.drop_length] at this
      rw [List.length_map]
      exact this
theorem scTB : FnScope ["house", "press", "switches", "turned", "at"] ["house", "press"] (defScope sTurnedBy) := ⟨rfl, rfl, rfl, by decide +kernel, rfl, by decide +kernel, by decide +kernel⟩
theorem take_snoc {α : Type} {ps : List α} {i : Nat} {a : α} (h : ps[i]? = some a) : ps.take (i + 1) = ps.take i ++ [a] := by
  rw [List.take_add_one, h]
  rfl
theorem sw_at {sw : List Nat} {a : Nat} (h : a < sw.length) : atI (sw.map nv) (a : Int) = some (nv (sw.getD a 0)) := by
  refine atI_nat ?_
  rw [List.getElem?_map, List.getD_eq_getElem?_getD, List.getElem?_eq_getElem h]
  rfl
theorem ok_turnedBy {f : Addr} {fd : FuncData} (F : Fun K "turned_by" "turned_by" sTurnedBy f fd) (T : Txt K mg C) (FS : FSw P w K mg base C) : FnOk P w K mg base CX0 2 f fd ["house", "press"] (spTurnedBy C) := by
  refine F.ok scTB (fun vs H Q E h => ?_) (fun cdv A outer s H vs Q E hr h => ?_)
  · obtain ⟨p, l, n, sw, ps, rfl, _⟩ := h
    rfl
  · obtain ⟨p, l, n, sw, ps, rfl, hh, hl, hps, k⟩ := h
    obtain ⟨dx, u, h1, h2⟩ := hh.ob
    refine ⟨_, pss_cons (ps_set (i := 2) scTB.nd rfl (Or.inl rfl) (pe_mt0 FS T.cl hr (pv 0)))
      (pss_cons (ps_set (i := 3) scTB.nd rfl (Or.inl rfl) pe_int)
      (pss_cons (ps_for PassesOwn.never rfl (pi_list (pv 1)) (pg_name (i := 4) scTB.nd rfl (Or.inl rfl))
        (pss_one (ps_set (i := 3) scTB.nd rfl (Or.inl rfl) (pe_op op_xorN (pv 3) (pe_ix ix_list (pv 2) (pv 4) (fun _ _ => rfl))))))
      (pss_one (ps_ret (pv 3))))), ?_⟩
    refine ⟨_, rfl, p, dx, _, rfl, h1, sw_no n u, p, n, sw, rfl, hh, fun q hq => ?_⟩
    have nlq : l ≠ q := ne_of_none hl hq
    refine ⟨_, rfl, l, rfl, ⟨_, SqL.of (by rw [upd_ne nlq]; exact hl)⟩, for_list (K := K) (a := l) (xs := ps.map nv) (fun i σ H' => ∃ (v : Option V), σ = [some (.ref p), some (.ref l), some (.ref q), some (nv (turned sw (ps.take i))), v] ∧ H' = upd H q (.lst (sw.map nv)))
      ⟨none, rfl, rfl⟩ ?_ ?_ ?_⟩
    · rintro i σ H' _ ⟨v, _, rfl⟩
      exact SqL.of (by rw [upd_ne nlq]; exact hl)
    · rintro i x σ H' hx ⟨v, rfl, rfl⟩
      obtain ⟨a, ha, rfl⟩ := nv_get hx
      refine ⟨_, rfl, _, rfl, _, rfl, q, _, _, _, rfl, rfl, SqL.of upd_same, sw_at (hps a (List.mem_of_getElem? ha)), _, _, rfl, rfl, some (nv a), ?_, rfl⟩
      rw [take_snoc ha, turned_snoc]
      rfl
    · rintro σ H' ⟨v, rfl, rfl⟩
      refine ⟨_, rfl, ?_⟩
      have := k _ (same_upd (o := .lst (sw.map nv)) hq)
      rw [List.length_map, List.take_length]
      exact this
end
end Sw
set_option maxHeartbeats 4000000
namespace Sw
open PySem L2
section
variable {P : Program} {w : World} {K : PySem.W.Frag} {mg : Str → Option Value} {base : Heap} {C : Addr}
theorem scC : FnScope ["_law_script", "_law_k"] ["_law_script", "_law_k"] (defScope sCellAt) := ⟨rfl, rfl, rfl, by decide +kernel, rfl, by decide +kernel, by decide +kernel⟩
theorem ok_cellAt {f : Addr} {fd : FuncData} (F : Fun K "_law_cell_at" "_law_cell_at" sCellAt f fd) (len : mg "len" = none) : FnOk P w K mg base CX0 1 f fd ["_law_script", "_law_k"] (spCellAt K) := by
  refine F.ok scC (fun vs H Q E h => ?_) (fun cdv A outer s H vs Q E hr h => ?_)
  · obtain ⟨a, ns, k, rfl, _⟩ := h
    rfl
  · obtain ⟨a, ns, k, rfl, hS, q⟩ := h
    refine ⟨_, pss_cons (ps_if (pt_cmpR op_lt (pv 1) (pe_callB call_len_seq rfl len PySem.boot_len (pa_cons (pv 0) pa_nil)) (nomark _)) (pss_one (ps_ret (pe_ix ix_list (pv 0) (pv 1) (fun _ _ => rfl)))) pss_nil)
      (pss_one (ps_ret pe_int)), ?_⟩
    refine ⟨_, rfl, _, rfl, a, _, rfl, .inl hS, _, _, rfl, rfl, _, rfl, ?_⟩
    refine ite2 (fun h1 => ?_) (fun h1 => ?_)
    · have h1' : (k : Int) < ((ns.map V.int).length : Int) := of_decide_eq_true h1
      rw [List.length_map] at h1'
      have hk : k < ns.length := by omega
      refine ⟨_, rfl, _, rfl, a, _, _, V.int ns[k], rfl, rfl, hS, atI_nat ?_, q _⟩
      rw [List.getElem?_map, List.getElem?_eq_getElem hk]
      rfl
    · exact q 0
theorem scD : FnScope ["_law_cell", "_law_k", "_law_many", "_law_primes", "_law_blend"] ["_law_cell", "_law_k", "_law_many"] (defScope sDraw) := ⟨rfl, rfl, rfl, by decide +kernel, rfl, by decide +kernel, by decide +kernel⟩
def primes : List Int := [1000003, 1000033, 1000037, 1000039, 1000081, 1000099, 1000117, 1000121]
theorem primes_pos : ∀ k ∈ primes, 0 < k := by decide
theorem ok_draw {f : Addr} {fd : FuncData} (F : Fun K "_law_draw" "_law_draw" sDraw f fd) : FnOk P w K mg base CX0 1 f fd ["_law_cell", "_law_k", "_law_many"] spDraw := by
  refine F.ok scD (fun vs H Q E h => ?_) (fun cdv A outer s H vs Q E hr h => ?_)
  · obtain ⟨c, k, m, rfl, _⟩ := h
    rfl
  · obtain ⟨c, k, m, rfl, hm, q⟩ := h
    refine ⟨_, pss_cons (ps_set (i := 3) scD.nd rfl (Or.inl rfl) (pe_tup (pa_cons pe_int (pa_cons pe_int (pa_cons pe_int (pa_cons pe_int (pa_cons pe_int (pa_cons pe_int (pa_cons pe_int (pa_cons pe_int pa_nil))))))))))
      (pss_cons (ps_set (i := 4) scD.nd rfl (Or.inl rfl) (pe_op op_add (pe_op op_add (pe_op op_mul (pv 0) pe_int) (pe_op op_mul (pv 1) pe_int)) (pe_op op_mul (pe_op op_mod (pe_op op_fdiv (pv 0) pe_int) pe_int) pe_int)))
      (pss_one (ps_ret (pe_op op_mod (pe_op op_mod (pv 4) (pe_ix ix_tup (pv 3) (pe_op op_mod (pv 1) pe_int) (fun _ _ => rfl))) (pv 2))))), ?_⟩
    refine ⟨by show 8 ≤ sizeLine; decide, fun t ht => ?_⟩
    refine ⟨_, rfl, _, _, rfl, rfl, .inr ⟨by decide, by decide⟩, _, rfl, _, _, rfl, rfl, .inr ⟨by decide, by decide⟩, _, _, rfl, rfl, _, rfl, _, _, rfl, rfl, ⟨by decide, by decide⟩, _, _, rfl, rfl, (by show (0 : Int) < 1000003; decide),
      _, _, rfl, rfl, .inr ⟨by decide, by decide⟩, _, _, rfl, rfl, ?_⟩
    have hk0 : 0 ≤ (k : Int) % 8 := Int.emod_nonneg _ (by decide)
    have hk1 : (k : Int) % 8 < (primes.length : Int) := Int.emod_lt_of_pos _ (by decide)
    obtain ⟨pr, hpr, hat⟩ := tab_ix primes hk0 hk1
    refine ⟨_, rfl, _, rfl, _, rfl, _, _, rfl, rfl, (by show (0 : Int) < 8; decide), t, _, _, _, rfl, rfl, SqT.of upd_same, hat, _, _, rfl, rfl, primes_pos pr hpr, _, rfl, _, _, rfl, rfl, (by show (0 : Int) < (m : Int); omega), ?_⟩
    generalize (c * 48271 + (k : Int) * 69621 + c / 1000003 % 1000003 * 40692) % pr = y
    have hy0 : 0 ≤ y % (m : Int) := Int.emod_nonneg _ (by omega)
    have hy1 : y % (m : Int) < (m : Int) := Int.emod_lt_of_pos _ (by omega)
    obtain ⟨z, hz⟩ : ∃ z : Nat, y % (m : Int) = (z : Int) := ⟨(y % (m : Int)).toNat, by omega⟩
    show Q (.int (y % (m : Int))) _
    rw [hz]
    exact q z _ (same_upd ht) (by omega)
theorem scNu : FnScope ["_law_found", "_law_most"] ["_law_found", "_law_most"] (defScope sNumber) := ⟨rfl, rfl, rfl, by decide +kernel, rfl, by decide +kernel, by decide +kernel⟩
theorem ok_number {f : Addr} {fd : FuncData} (F : Fun K "_law_number" "_law_number" sNumber f fd) (T : Txt K mg C) : FnOk P w K mg base CX0 1 f fd ["_law_found", "_law_most"] (spNumber K) := by
  refine F.ok scNu (fun vs H Q E h => ?_) (fun cdv A outer s H vs Q E hr h => ?_)
  · obtain ⟨z, m, rfl, _⟩ := h
    rfl
  · obtain ⟨z, m, rfl, q⟩ := h
    refine ⟨_, pss_one (ps_ret (pe_and (pe_isi T.isi T.int PyProof.Rows.boot_int (pv 0)) (pe_and (pe_not (pe_isi T.isi T.bool PyProof.Rows.boot_bool (pv 0))) (pe_one (pe_chain op_le op_lt pe_int (pv 0) (pv 1)))))), ?_⟩
    refine ⟨_, rfl, nv z, "int", _, true, rfl, .int z, by rfl, _, rfl, ?_⟩
    refine iteT ?_
    refine ⟨_, rfl, nv z, "bool", _, false, rfl, .int z, by rfl, _, rfl, _, rfl, ?_⟩
    refine iteT ?_
    refine ⟨_, rfl, 0, z, rfl, rfl, _, rfl, ?_⟩
    refine iteP (by omega) ?_
    exact ⟨_, rfl, z, m, rfl, rfl, q⟩
theorem scTu : FnScope ["_law_told_here", "_law_press", "_law_found", "_law_at"] ["_law_told_here", "_law_press"] (defScope sTurned) := ⟨rfl, rfl, rfl, by decide +kernel, rfl, by decide +kernel, by decide +kernel⟩
theorem ok_turned {f : Addr} {fd : FuncData} (F : Fun K "_law_turned" "_law_turned" sTurned f fd) : FnOk P w K mg base CX0 1 f fd ["_law_told_here", "_law_press"] spTurned := by
  refine F.ok scTu (fun vs H Q E h => ?_) (fun cdv A outer s H vs Q E hr h => ?_)
  · obtain ⟨p, l, q, n, sw, ps, rfl, _⟩ := h
    rfl
  · obtain ⟨p, l, q, n, sw, ps, rfl, hp, hl, hq, hps, k⟩ := h
    refine ⟨_, pss_cons (ps_set (i := 2) scTu.nd rfl (Or.inl rfl) pe_int)
      (pss_cons (ps_for PassesOwn.never rfl (pi_list (pv 1)) (pg_name (i := 3) scTu.nd rfl (Or.inl rfl))
        (pss_one (ps_set (i := 2) scTu.nd rfl (Or.inl rfl) (pe_op op_xorN (pv 2) (pe_ix ix_list (pe_ix ix_tup (pv 0) pe_int (fun _ _ => rfl)) (pv 3) (fun _ _ => rfl))))))
      (pss_one (ps_ret (pv 2)))), ?_⟩
    refine ⟨_, rfl, q, rfl, ⟨_, SqL.of hq⟩, for_list (K := K) (a := q) (xs := ps.map nv) (fun i σ H' => ∃ (v : Option V), σ = [some (.ref p), some (.ref q), some (nv (turned sw (ps.take i))), v] ∧ H' = H)
      ⟨none, rfl, rfl⟩ ?_ ?_ ?_⟩
    · rintro i σ H' _ ⟨v, _, rfl⟩
      exact SqL.of hq
    · rintro i x σ H' hx ⟨v, rfl, rfl⟩
      obtain ⟨a, ha, rfl⟩ := nv_get hx
      refine ⟨_, rfl, _, rfl, p, _, _, _, rfl, rfl, SqT.of hp, atI_nat (j := 1) rfl, _, rfl, l, _, _, _, rfl, rfl, SqL.of hl, sw_at (hps a (List.mem_of_getElem? ha)), _, _, rfl, rfl, some (nv a), ?_, rfl⟩
      rw [take_snoc ha, turned_snoc]
      rfl
    · rintro σ H' ⟨v, rfl, rfl⟩
      refine ⟨_, rfl, ?_⟩
      rw [List.length_map, List.take_length]
      exact k
abbrev FCell (P : Program) (w : World) (K : PySem.W.Frag) (mg : Str → Option Value) (base : Heap) : Prop := FnAt P w K mg base "_law_cell_at" 1 ["_law_script", "_law_k"] (spCellAt K)
abbrev FDraw (P : Program) (w : World) (K : PySem.W.Frag) (mg : Str → Option Value) (base : Heap) : Prop := FnAt P w K mg base "_law_draw" 1 ["_law_cell", "_law_k", "_law_many"] spDraw
theorem scTo : FnScope ["_law_script", "_law_first", "_law_cell", "_law_other", "_law_lamps", "_law_many", "_law_switches", "_law_k", "_law_one"] ["_law_script", "_law_first"] (defScope sTold) := ⟨rfl, rfl, rfl, by decide +kernel, rfl, by decide +kernel, by decide +kernel⟩
def tRest : TS := fun D σ H => ∃ (a f : V) (c o : Int) (n m : Nat), σ = [some a, some f, some (.int c), some (.int o), some (nv n), some (nv m), none, none, none] ∧ 1 ≤ n ∧ n ≤ 10 ∧ m ≤ 8 ∧
  ∀ (p l : Addr) (sw : List Nat) H', Same H H' → H p = none → H l = none → H' p = some (.tup [nv n, .ref l]) → H' l = some (.lst (sw.map nv)) → Good n sw → D.rt (.ref p) H'
def tPut : TS := fun D σ H => ∃ (a f : V) (c o k : Int) (n m z : Nat) (l : Addr) (sw : List Nat), σ = [some a, some f, some (.int c), some (.int o), some (nv n), some (nv m), some (.ref l), some (.int k), some (nv z)] ∧
  H l = some (.lst (sw.map nv)) ∧ sw.length ≤ 8 ∧ D.nx σ (upd H l (.lst ((sw ++ [z]).map nv)))
def tSum : TS := fun D σ H => ∃ (a f : V) (c o : Int) (n m z : Nat) (l : Addr) (sw : List Nat), σ = [some a, some f, some (.int c), some (.int o), some (nv n), some (nv m), some (.ref l), some (nv sw.length), some (nv z)] ∧
  H l = some (.lst (sw.map nv)) ∧ sw.length ≤ 8 ∧ (∀ a ∈ sw, a < 2 ^ n) ∧ z < 2 ^ n ∧ ∀ (z' : Nat) H', Same H H' → z' < 2 ^ n →
    D.nx [some a, some f, some (.int c), some (.int o), some (nv n), some (nv m), some (.ref l), some (nv sw.length), some (nv z')] (upd H' l (.lst ((sw ++ [z']).map nv)))
theorem ok_told {f : Addr} {fd : FuncData} (F : Fun K "_law_told" "_law_told" sTold f fd) (range : mg "range" = none) (FC : FCell P w K mg base) (FD : FDraw P w K mg base) : FnOk P w K mg base CX0 2 f fd ["_law_script", "_law_first"] (spTold K) := by
  refine F.ok scTo (fun vs H Q E h => ?_) (fun cdv A outer s H vs Q E hr h => ?_)
  · obtain ⟨a, ns, k, rfl, _⟩ := h
    rfl
  · obtain ⟨a, ns, k, rfl, hS, q⟩ := h
    refine ⟨_, pss_cons (ps_set (i := 2) scTo.nd rfl (Or.inl rfl) (pe_fn FC hr (pa_cons (pv 0) (pa_cons (pv 1) pa_nil))))
      (pss_cons (ps_set (i := 3) scTo.nd rfl (Or.inl rfl) (pe_fn FC hr (pa_cons (pv 0) (pa_cons (pe_op op_add (pv 1) pe_int) pa_nil))))
      (pss_cons (ps_set (i := 4) scTo.nd rfl (Or.inl rfl) (pe_ix ix_tup (pe_tup (pa_cons pe_int (pa_cons pe_int (pa_cons pe_int (pa_cons pe_int (pa_cons pe_int (pa_cons pe_int (pa_cons pe_int pa_nil)))))))) (pe_op op_mod (pv 2) pe_int) (fun _ _ => rfl)))
      (pss_cons (ps_set (i := 5) scTo.nd rfl (Or.inl rfl) (pe_ix ix_tup (pe_tup (pa_cons pe_int (pa_cons pe_int (pa_cons pe_int (pa_cons pe_int (pa_cons pe_int (pa_cons pe_int (pa_cons pe_int (pa_cons pe_int pa_nil))))))))) (pe_op op_mod (pe_op op_fdiv (pv 2) pe_int) pe_int) (fun _ _ => rfl)))
      (pss_cons (ps_if (pt_cmpR op_eq (pe_op op_mod (pe_op op_fdiv (pv 2) pe_int) pe_int) pe_int (nomark _))
        (pss_cons (ps_set (i := 4) scTo.nd rfl (Or.inl rfl) (pe_op op_add pe_int (pe_op op_mod (pe_op op_fdiv (pv 2) pe_int) pe_int)))
        (pss_one (ps_set (i := 5) scTo.nd rfl (Or.inl rfl) (pe_ix ix_tup (pe_tup (pa_cons pe_int (pa_cons pe_int (pa_cons pe_int (pa_cons pe_int (pa_cons pe_int (pa_cons pe_int pa_nil))))))) (pe_op op_mod (pe_op op_fdiv (pv 2) pe_int) pe_int) (fun _ _ => rfl))))) pss_nil)
      (PSs.imp (t' := tRest) (pss_cons (ps_set (i := 6) scTo.nd rfl (Or.inl rfl) (pe_lst pa_nil))
      (pss_cons (ps_for PassesOwn.never rfl (pi_range1 rfl range (pa_cons (pv 5) pa_nil)) (pg_name (i := 7) scTo.nd rfl (Or.inl rfl))
        (pss_cons (ps_set (i := 8) scTo.nd rfl (Or.inl rfl) (pe_fn FD hr (pa_cons (pe_op op_add (pe_op op_fdiv (pv 3) pe_int) (pe_op op_mul pe_int (pv 7))) (pa_cons pe_int (pa_cons (pe_op op_shl1 pe_int (pv 4)) pa_nil)))))
        (pss_cons (ps_if (pt_cmpR op_eq (pe_op op_mod (pe_op op_fdiv (pv 2) pe_int) pe_int) pe_int (nomark _))
          (pss_one (ps_set (i := 8) scTo.nd rfl (Or.inl rfl) (pe_op op_andN (pv 8) (pe_fn FD hr (pa_cons (pe_op op_add (pe_op op_fdiv (pv 3) pe_int) (pe_op op_mul pe_int (pv 7))) (pa_cons pe_int (pa_cons (pe_op op_shl1 pe_int (pv 4)) pa_nil))))))) pss_nil)
        (PSs.imp (t' := tSum) (pss_cons (ps_if (PW.pt (pw_and (pt_cmpR op_gt (pv 7) pe_int (nomark _)) (pw_and1 (pt_cmpR op_eq (pe_fn FD hr (pa_cons (pe_op op_add (pe_op op_fdiv (pv 3) pe_int) (pe_op op_mul pe_int (pv 7))) (pa_cons pe_int (pa_cons pe_int pa_nil)))) pe_int (nomark _)))))
          (pss_one (ps_set (i := 8) scTo.nd rfl (Or.inl rfl) (pe_op op_xorN (pe_ix ix_list (pv 6) (pe_op op_sub (pv 7) pe_int) (fun _ _ => rfl)) (pe_ix ix_list (pv 6) (pe_op op_sub (pv 7) pe_int) (fun _ _ => rfl))))) pss_nil)
        (PSs.imp (t' := tPut) (pss_one (ps_expr (pe_bm PySem.F.plainAttrs_list PySem.F.slot_list_append PySem.F.type_list_append mt_append (pv 6) (pa_cons (pv 8) pa_nil)))) ?put)) ?sum))))
      (pss_one (ps_ret (pe_tup (pa_cons (pv 4) (pa_cons (pv 6) pa_nil))))))) ?rest))))), ?main⟩
    case put =>
      rintro D σ H ⟨a, f, c, o, k, n, m, z, l, sw, rfl, hl, h8, q⟩
      refine ⟨_, rfl, .inl ⟨rfl, _, SqL.of hl⟩, _, rfl, l, _, _, rfl, rfl, hl, ?_, ?_⟩
      · rw [List.length_map]
        exact small9 (by omega)
      · rw [List.map_append] at q
        exact q
    case sum =>
      rintro D σ H ⟨a, f, c, o, n, m, z, l, sw, rfl, hl, h8, hlt, hz, q⟩
      have put : ∀ (z' : Nat) H', Same H H' → z' < 2 ^ n → tPut D [some a, some f, some (.int c), some (.int o), some (nv n), some (nv m), some (.ref l), some (nv sw.length), some (nv z')] H' := fun z' H' hs hz' =>
        ⟨a, f, c, o, sw.length, n, m, z', l, sw, rfl, hs _ _ hl, h8, q z' H' hs hz'⟩
      refine ⟨_, rfl, _, _, rfl, rfl, _, rfl, ?_⟩
      refine ite2 (fun h1 => ?_) (fun h1 => ?_)
      · have h1' : (1 : Int) < (sw.length : Int) := of_decide_eq_true h1
        refine ⟨_, rfl, _, _, rfl, rfl, ⟨by decide, by decide⟩, _, rfl, _, _, rfl, rfl, .inl ⟨by decide, by decide⟩, _, _, rfl, rfl, _, 3, 4, rfl, by decide, fun y H' hs _ => ⟨rfl, _, rfl, ?_⟩⟩
        refine ite2 (fun h2 => ?_) (fun h2 => ?_)
        · obtain ⟨i, hi⟩ : ∃ i, sw.length = i + 2 := ⟨sw.length - 2, by omega⟩
          have e1 : (sw.length : Int) - 1 = ((i + 1 : Nat) : Int) := by omega
          have e2 : (sw.length : Int) - 2 = ((i : Nat) : Int) := by omega
          refine ⟨_, rfl, _, rfl, _, _, rfl, rfl, l, _, _, _, rfl, rfl, SqL.of (hs _ _ hl), (by rw [e1]; exact sw_at (by omega)), _, rfl, _, rfl, _, _, rfl, rfl, l, _, _, _, rfl, rfl, SqL.of (hs _ _ hl), (by rw [e2]; exact sw_at (by omega)), _, _, rfl, rfl, ?_⟩
          exact put _ H' hs (Nat.xor_lt_two_pow (getD_lt hlt _) (getD_lt hlt _))
        · exact put z H' hs hz
      · exact iteF (put z H (Same.refl _) hz)
    case rest =>
      rintro D σ H ⟨a, f, c, o, n, m, rfl, h1, h10, h8, q⟩
      refine ⟨Nat.zero_le _, fun l hl => ?_⟩
      refine ⟨_, rfl, m, rfl, by omega, by omega, for_range (n := (m : Int).toNat) (fun i σ H' => ∃ (u v : Option V) (sw : List Nat), σ = [some a, some f, some (.int c), some (.int o), some (nv n), some (nv m), some (.ref l), u, v] ∧ sw.length = i ∧ i ≤ m ∧ (∀ a ∈ sw, a < 2 ^ n) ∧ Same H H' ∧ H' l = some (.lst (sw.map nv)))
        ⟨none, none, [], rfl, rfl, Nat.zero_le _, (fun _ z => nomatch z), same_upd hl, upd_same⟩ ?_ ?_⟩
      · rintro i σ H' hi ⟨u, v, sw, rfl, rfl, him, hlt, hs, hl'⟩
        have him' : sw.length < m := by omega
        have e0 : (0 : Int) + (sw.length : Int) = ((sw.length : Nat) : Int) := by omega
        have fin : ∀ (z : Nat) H1, Same H' H1 → z < 2 ^ n → ∀ D' : Ends, D'.nx = (fun σ H'' => ∃ (u v : Option V) (sw' : List Nat), σ = [some a, some f, some (.int c), some (.int o), some (nv n), some (nv m), some (.ref l), u, v] ∧ sw'.length = sw.length + 1 ∧ sw.length + 1 ≤ m ∧ (∀ a ∈ sw', a < 2 ^ n) ∧ Same H H'' ∧ H'' l = some (.lst (sw'.map nv))) →
            tSum D' [some a, some f, some (.int c), some (.int o), some (nv n), some (nv m), some (.ref l), some (nv sw.length), some (nv z)] H1 := fun z H1 hs1 hz D' hD =>
          ⟨a, f, c, o, n, m, z, l, sw, rfl, hs1 _ _ hl', by omega, hlt, hz, fun z' H2 hs2 hz' => by
            rw [hD]
            refine ⟨_, _, sw ++ [z'], rfl, by rw [List.length_append]; rfl, him', fun b hb => ?_, fun b ob e => ?_, upd_same⟩
            · rcases List.mem_append.mp hb with hb | hb
              · exact hlt b hb
              · have : b = z' := by simpa using hb
                omega
            · rw [upd_ne (ne_of_none e hl)]
              exact hs2 _ _ (hs1 _ _ (hs _ _ e))⟩
        rw [e0]
        refine ⟨_, rfl, _, _, rfl, rfl, ⟨by decide, by decide⟩, _, rfl, _, _, rfl, rfl, .inl ⟨by decide, by decide⟩, _, _, rfl, rfl, _, rfl, n, rfl, rfl, by omega, _, 1, 2 ^ n, rfl, Nat.two_pow_pos n, fun z H1 hs1 hz => ?_⟩
        refine ⟨_, rfl, _, _, rfl, rfl, ⟨by decide, by decide⟩, _, _, rfl, rfl, (by show (0 : Int) < 3; decide), rfl, _, rfl, ?_⟩
        refine ite2 (fun _ => ?_) (fun _ => ?_)
        · refine ⟨_, rfl, _, rfl, _, _, rfl, rfl, ⟨by decide, by decide⟩, _, rfl, _, _, rfl, rfl, .inl ⟨by decide, by decide⟩, _, _, rfl, rfl, _, rfl, n, rfl, rfl, by omega, _, 2, 2 ^ n, rfl, Nat.two_pow_pos n, fun z2 H2 hs2 hz2 => ⟨z, z2, rfl, rfl, ?_⟩⟩
          exact fin (z &&& z2) H2 (hs1.trans hs2) (Nat.lt_of_le_of_lt Nat.and_le_left hz) _ rfl
        · exact fin z H1 hs1 hz _ rfl
      · rintro σ H' ⟨u, v, sw, rfl, hlen, him, hlt, hs, hl'⟩
        refine ⟨_, rfl, _, rfl, by show 2 ≤ sizeLine; decide, fun p hp => ?_⟩
        have hlp : l ≠ p := ne_of_none hl' hp
        exact q p l sw _ (fun b ob e => by rw [upd_ne (ne_of_none (hs _ _ e) hp)]; exact hs _ _ e) (hs.free hp) hl upd_same (by rw [upd_ne hlp]; exact hl') ⟨h1, h10, by omega, hlt⟩
    case main =>
      refine ⟨_, rfl, _, rfl, a, ns, k, rfl, hS, fun c => ?_⟩
      refine ⟨_, rfl, _, rfl, _, _, rfl, rfl, a, ns, k + 1, rfl, hS, fun o => ?_⟩
      have m7 : 0 ≤ c % 7 ∧ c % 7 < 7 := ⟨Int.emod_nonneg _ (by decide), Int.emod_lt_of_pos _ (by decide)⟩
      have m8 : 0 ≤ c / 7 % 8 ∧ c / 7 % 8 < 8 := ⟨Int.emod_nonneg _ (by decide), Int.emod_lt_of_pos _ (by decide)⟩
      have m6 : 0 ≤ c / 672 % 6 ∧ c / 672 % 6 < 6 := ⟨Int.emod_nonneg _ (by decide), Int.emod_lt_of_pos _ (by decide)⟩
      have m4 : 0 ≤ c / 672 % 4 ∧ c / 672 % 4 < 4 := ⟨Int.emod_nonneg _ (by decide), Int.emod_lt_of_pos _ (by decide)⟩
      obtain ⟨n0, hn0, at0⟩ := tab_ix [3, 4, 5, 2, 4, 6, 1] m7.1 m7.2
      obtain ⟨n1, hn1, at1⟩ := tab_ix [3, 2, 4, 0, 5, 3, 4, 1] m8.1 m8.2
      obtain ⟨n2, hn2, at2⟩ := tab_ix [5, 5, 6, 5, 5, 8] m6.1 m6.2
      have b0 : 1 ≤ n0 ∧ n0 ≤ 10 := (show ∀ x ∈ ([3, 4, 5, 2, 4, 6, 1] : List Int), 1 ≤ x ∧ x ≤ 10 by decide) n0 hn0
      have b1 : 0 ≤ n1 ∧ n1 ≤ 8 := (show ∀ x ∈ ([3, 2, 4, 0, 5, 3, 4, 1] : List Int), 0 ≤ x ∧ x ≤ 8 by decide) n1 hn1
      have b2 : 0 ≤ n2 ∧ n2 ≤ 8 := (show ∀ x ∈ ([5, 5, 6, 5, 5, 8] : List Int), 0 ≤ x ∧ x ≤ 8 by decide) n2 hn2
      have rest : ∀ (n m : Int) H', Same H H' → 1 ≤ n → n ≤ 10 → 0 ≤ m → m ≤ 8 → ∀ D : Ends, D.rt = Q → tRest D [some (.ref a), some (nv k), some (.int c), some (.int o), some (.int n), some (.int m), none, none, none] H' := fun n m H' hs h1 h2 h3 h4 D hD => by
        obtain ⟨n', rfl⟩ : ∃ n' : Nat, n = (n' : Int) := ⟨n.toNat, by omega⟩
        obtain ⟨m', rfl⟩ : ∃ m' : Nat, m = (m' : Int) := ⟨m.toNat, by omega⟩
        refine ⟨_, _, c, o, n', m', rfl, by omega, by omega, by omega, fun p l sw H2 hs2 hp hl e1 e2 g => ?_⟩
        rw [hD]
        exact q p l n' sw H2 (hs.trans hs2) (hs.free hp) (hs.free hl) e1 e2 g
      refine ⟨by show 7 ≤ sizeLine; decide, fun t0 ht0 => ?_⟩
      refine ⟨_, rfl, _, _, rfl, rfl, (by show (0 : Int) < 7; decide), t0, _, _, _, rfl, rfl, SqT.of upd_same, at0, ?_⟩
      refine ⟨by show 8 ≤ sizeLine; decide, fun t1 ht1 => ?_⟩
      refine ⟨_, rfl, _, _, rfl, rfl, ⟨by decide, by decide⟩, _, _, rfl, rfl, (by show (0 : Int) < 8; decide), t1, _, _, _, rfl, rfl, SqT.of upd_same, at1, ?_⟩
      refine ⟨_, rfl, _, _, rfl, rfl, ⟨by decide, by decide⟩, _, _, rfl, rfl, (by show (0 : Int) < 12; decide), rfl, _, rfl, ?_⟩
      have s1 := (same_upd (o := .tup [.int 3, .int 4, .int 5, .int 2, .int 4, .int 6, .int 1]) ht0).trans (same_upd (o := .tup [.int 3, .int 2, .int 4, .int 0, .int 5, .int 3, .int 4, .int 1]) ht1)
      refine ite2 (fun _ => ?_) (fun _ => ?_)
      · refine ⟨_, rfl, _, _, rfl, rfl, ⟨by decide, by decide⟩, _, _, rfl, rfl, (by show (0 : Int) < 4; decide), _, _, rfl, rfl, ?_⟩
        refine ⟨by show 6 ≤ sizeLine; decide, fun t2 ht2 => ?_⟩
        refine ⟨_, rfl, _, _, rfl, rfl, ⟨by decide, by decide⟩, _, _, rfl, rfl, (by show (0 : Int) < 6; decide), t2, _, _, _, rfl, rfl, SqT.of upd_same, at2, ?_⟩
        exact rest (7 + c / 672 % 4) n2 _ (s1.trans (same_upd ht2)) (by omega) (by omega) b2.1 b2.2 _ rfl
      · exact rest n0 n1 _ s1 b0.1 b0.2 b1.1 b1.2 _ rfl
end
end Sw
set_option maxHeartbeats 4000000
namespace Sw
open PySem L2
def castL (l : List Nat) : List Int := l.map fun a : Nat => (a : Int)
theorem castL_inj {a b : List Nat} (h : castL a = castL b) : a = b := by
  have f : ∀ l : List Nat, (castL l).map Int.toNat = l := fun l => by
    unfold castL
    rw [List.map_map]
    conv => rhs; rw [← List.map_id l]
    exact List.map_congr_left fun x _ => Int.toNat_natCast x
  rw [← f a, ← f b, h]
theorem castL_nv (l : List Nat) : (castL l).map V.int = l.map nv := by
  unfold castL
  rw [List.map_map]
  rfl
def lexN (a b : List Nat) : Bool := LS.lexB (castL a) (castL b)
def leN (a b : List Nat) : Bool := !lexN b a
def subs : Nat → List (List Nat)
  | 0 => [[]]
  | m + 1 => subs m ++ (subs m).map fun a => a ++ [m]
def presses (m : Nat) : List (List Nat) := (subs m).mergeSort leN
theorem leN_of {a b : List Nat} : leN a b = true ↔ lexN b a = false := by
  unfold leN
  cases lexN b a <;> simp
theorem leN_trans (a b c : List Nat) (h1 : leN a b = true) (h2 : leN b c = true) : leN a c = true := by
  rw [leN_of] at h1 h2 ⊢
  cases e : lexN c a with
  | false => rfl
  | true =>
    rcases LS.lexB_neg _ (castL b) _ e with h | h
    · rw [show LS.lexB (castL c) (castL b) = lexN c b from rfl, h2] at h; cases h
    · rw [show LS.lexB (castL b) (castL a) = lexN b a from rfl, h1] at h; cases h
theorem leN_total (a b : List Nat) : (leN a b || leN b a) = true := by
  cases e : leN a b with
  | true => rfl
  | false =>
    rw [Bool.false_or, leN_of]
    have h : lexN b a = true := by
      unfold leN at e
      simpa using e
    cases e2 : lexN a b with
    | false => rfl
    | true =>
      have := LS.lexB_tr _ _ _ h e2
      rw [LS.lexB_irr] at this
      cases this
theorem leN_anti {a b : List Nat} (h1 : leN a b = true) (h2 : leN b a = true) : a = b := castL_inj (LS.lexB_tot _ _ (leN_of.mp h2) (leN_of.mp h1))
theorem sorted_presses (m : Nat) : (presses m).Pairwise fun a b => leN a b = true := List.pairwise_mergeSort leN_trans leN_total _
theorem perm_presses (m : Nat) : (presses m).Perm (subs m) := List.mergeSort_perm _ _
theorem sorted_one {l k : List (List Nat)} (hp : l.Perm k) (hl : l.Pairwise fun a b => leN a b = true) (hk : k.Pairwise fun a b => leN a b = true) : l = k :=
  List.Perm.eq_of_pairwise (le := fun a b => leN a b = true) (fun a b _ _ h1 h2 => leN_anti h1 h2) hl hk hp
theorem presses_eq {m : Nat} {l : List (List Nat)} (hp : l.Perm (subs m)) (hs : l.Pairwise fun a b => leN a b = true) : l = presses m := sorted_one (hp.trans (perm_presses m).symm) hs (sorted_presses m)
theorem length_subs : ∀ m, (subs m).length = 2 ^ m
  | 0 => rfl
  | m + 1 => by
    show (subs m ++ (subs m).map fun a => a ++ [m]).length = _
    rw [List.length_append, List.length_map, length_subs m, Nat.pow_succ]
    omega
theorem len_subs : ∀ {m : Nat} {a : List Nat}, a ∈ subs m → a.length ≤ m
  | 0, a, h => by
    have : a = [] := by simpa [subs] using h
    subst this
    exact Nat.le_refl _
  | m + 1, a, h => by
    rcases List.mem_append.mp h with h | h
    · have := len_subs h
      omega
    · obtain ⟨b, hb, rfl⟩ := List.mem_map.mp h
      have := len_subs hb
      rw [List.length_append]
      exact Nat.succ_le_succ this
theorem Press.up1 {ps : List Nat} {m : Nat} (h : Press ps m) : Press ps (m + 1) := ⟨h.up, fun a ha => Nat.lt_succ_of_lt (h.lt a ha)⟩
theorem mem_subs : ∀ {m : Nat} {ps : List Nat}, ps ∈ subs m ↔ Press ps m
  | 0, ps => by
    constructor
    · intro h
      have : ps = [] := by simpa [subs] using h
      subst this
      exact ⟨.nil, fun _ z => nomatch z⟩
    · intro h
      match ps, h with
      | [], _ => exact List.mem_singleton.mpr rfl
      | a :: r, h => exact absurd (h.lt a (.head _)) (Nat.not_lt_zero _)
  | m + 1, ps => by
    constructor
    · intro h
      rcases List.mem_append.mp h with h | h
      · exact (mem_subs.mp h).up1
      · obtain ⟨a, ha, rfl⟩ := List.mem_map.mp h
        exact (mem_subs.mp ha).snoc
    · intro h
      show ps ∈ subs m ++ _
      rcases List.eq_nil_or_concat ps with rfl | ⟨a, b, rfl⟩
      · exact List.mem_append_left _ (mem_subs.mpr ⟨.nil, fun _ z => nomatch z⟩)
      · rw [List.concat_eq_append] at h ⊢
        obtain ⟨u1, _, u3⟩ := List.pairwise_append.mp h.up
        have hb : b < m + 1 := h.lt b (List.mem_append_right _ (List.mem_singleton.mpr rfl))
        have ha : ∀ c ∈ a, c < b := fun c hc => u3 c hc b (List.mem_singleton.mpr rfl)
        by_cases e : b = m
        · subst e
          exact List.mem_append_right _ (List.mem_map.mpr ⟨a, mem_subs.mpr ⟨u1, ha⟩, rfl⟩)
        · refine List.mem_append_left _ (mem_subs.mpr ⟨h.up, fun c hc => ?_⟩)
          rcases List.mem_append.mp hc with h1 | h1
          · have := ha c h1
            omega
          · have : c = b := by simpa using h1
            omega
theorem mem_presses {m : Nat} {ps : List Nat} : ps ∈ presses m ↔ Press ps m := (perm_presses m).mem_iff.trans mem_subs
end Sw
namespace Sw
open PySem L2
abbrev sPresses : Stmt := top 27
def spPresses : Sp := fun vs H Q _ => ∃ (p l : Addr) (n : Nat) (sw : List Nat), vs = [.ref p] ∧ H p = some (.tup [nv n, .ref l]) ∧ H l = some (.lst (sw.map nv)) ∧ sw.length ≤ 8 ∧
  ∀ (q : Addr) (es : List (Addr × List Nat)) H', Same H H' → H q = none → H' q = some (.lst (es.map fun e => V.ref e.1)) → (∀ e ∈ es, H e.1 = none ∧ e.1 ≠ q ∧ H' e.1 = some (.lst (e.2.map nv))) → es.map (·.2) = presses sw.length → Q (.ref q) H'
section
variable {P : Program} {w : World} {K : PySem.W.Frag} {mg : Str → Option Value} {base : Heap} {C : Addr}
abbrev NLP : List Str := ["_law_told_here", "_law_found", "_law_at"]
theorem scLP : FnScope NLP ["_law_told_here"] (defScope sPresses) := ⟨rfl, rfl, rfl, by decide +kernel, rfl, by decide +kernel, by decide +kernel⟩
def compLP : Scope := match (defBody sPresses).getD 1 (.Pass ⟨0, 0, 0, 0⟩) with
  | .For _ _ body _ _ => (match body.getD 0 (.Pass ⟨0, 0, 0, 0⟩) with
    | .Assign _ (.BinOp _ _ (.ListComp _ _ sc _) _) _ => sc
    | _ => defScope sPresses)
  | _ => defScope sPresses
theorem csLP : CompScope (defScope sPresses) compLP NLP "_law_some" [2] ["_law_at"] := ⟨rfl, by decide +kernel, by decide +kernel, by decide +kernel, by decide +kernel, by decide +kernel, by decide +kernel, by decide +kernel⟩
structure Pres (H H' : Hp) (q : Addr) (es : List (Addr × List Nat)) : Prop where
  same : Same H H'
  q0 : H q = none
  q1 : H' q = some (.lst (es.map fun e => V.ref e.1))
  all : ∀ e ∈ es, H e.1 = none ∧ e.1 ≠ q ∧ H' e.1 = some (.lst (e.2.map nv))
theorem ok_presses {f : Addr} {fd : FuncData} (F : Fun K "_law_presses" "_law_presses" sPresses f fd) (len : mg "len" = none) (range : mg "range" = none) (sorted : mg "sorted" = none) : FnOk P w K mg base CX0 1 f fd ["_law_told_here"] spPresses := by
  refine F.ok scLP (fun vs H Q E h => ?_) (fun cdv A outer s H vs Q E hr h => ?_)
  · obtain ⟨p, l, n, sw, rfl, _⟩ := h
    rfl
  · obtain ⟨p, l, n, sw, rfl, hp, hl, h8, k⟩ := h
    have hu := hr.units
    refine ⟨_, pss_cons (ps_set (i := 1) scLP.nd rfl (Or.inl rfl) (pe_lst (pa_cons (pe_lst pa_nil) pa_nil)))
      (pss_cons (ps_for PassesOwn.never rfl (pi_range1 rfl range (pa_cons (pe_callB call_len_seq rfl len PySem.boot_len (pa_cons (pe_ix ix_tup (pv 0) pe_int (fun _ _ => rfl)) pa_nil)) pa_nil)) (pg_name (i := 2) scLP.nd rfl (Or.inr rfl))
        (pss_one (ps_set (i := 1) scLP.nd rfl (Or.inl rfl) (pe_op op_cat (pv 1) (pe_comp rfl csLP (pi_list (pv 1)) (fun _ _ _ _ => pts_nil) (fun _ _ _ _ => pe_op op_cat (pv 0) (pe_lst (pa_cons (pv 1) pa_nil))))))))
      (pss_one (ps_ret (pe_callB (call_sortedLL (Nat.lt_of_le_of_lt (Nat.add_le_add_left (by decide : 2 ≤ 64) _) hu)) rfl sorted PyProof.Rows.boot_sorted (pa_cons (pv 1) pa_nil))))), ?_⟩
    refine ⟨Nat.zero_le _, fun e0 he0 => ⟨by show 1 ≤ sizeLine; decide, fun q0 hq0 => ?_⟩⟩
    have hne : e0 ≠ q0 := fun z => by rw [z, upd_same] at hq0; cases hq0
    have hq0' : H q0 = none := by rw [← hq0, upd_ne (Ne.symm hne)]
    have sm : Same H (upd (upd H e0 (.lst [])) q0 (.lst [.ref e0])) := (same_upd he0).trans (same_upd hq0)
    refine ⟨_, rfl, p, [nv n, .ref l], 1, .ref l, rfl, rfl, SqT.of (sm _ _ hp), atI_nat (j := 1) rfl, l, _, rfl, .inl (SqL.of (sm _ _ hl)), ?_⟩
    have hlen : ((sw.map nv).length : Int).toNat = sw.length := by rw [List.length_map]; omega
    have hln : (sw.map nv).length = sw.length := List.length_map _
    refine ⟨_, rfl, by omega, by omega, for_range (n := ((sw.map nv).length : Int).toNat) (fun i σ H' => ∃ (q : Addr) (es : List (Addr × List Nat)) (v : Option V), σ = [some (.ref p), some (.ref q), v] ∧ i ≤ sw.length ∧ Pres H H' q es ∧ es.map (·.2) = subs i)
      ⟨q0, [(e0, [])], none, rfl, Nat.zero_le _, ⟨sm, hq0', upd_same, fun e he => ?_⟩, rfl⟩ ?_ ?_⟩
    · have : e = (e0, []) := by simpa using he
      subst this
      exact ⟨he0, hne, by rw [upd_ne hne, upd_same]; rfl⟩
    · rintro i σ H' hi ⟨q, es, v, rfl, _, pr, hes⟩
      have hel : es.length = 2 ^ i := by rw [← length_subs i, ← hes, List.length_map]
      have hil : i < sw.length := by omega
      have h256 : es.length ≤ 256 := by rw [hel]; exact Nat.pow_le_pow_right (by decide) (show i ≤ 8 by omega)
      have ei : (0 : Int) + (i : Int) = ((i : Nat) : Int) := by omega
      rw [ei]
      refine ⟨_, rfl, _, rfl, q, rfl, ⟨_, SqL.of pr.q1⟩, fun acc hacc => comp_list (K := K) (a := q) (xs := es.map fun e => V.ref e.1)
        (fun j ys Hc => j ≤ es.length ∧ ∃ fs : List (Addr × List Nat), ys = fs.map (fun e => V.ref e.1) ∧ fs.map (·.2) = (es.take j).map (fun e => e.2 ++ [i]) ∧ Same H' Hc ∧ Hc acc = some (.lst ys) ∧ ∀ e ∈ fs, H' e.1 = none ∧ e.1 ≠ acc ∧ Hc e.1 = some (.lst (e.2.map nv)))
        ⟨Nat.zero_le _, [], rfl, rfl, same_upd hacc, upd_same, fun _ z => nomatch z⟩ ?_ ?_ ?_⟩
      · rintro j ys Hc ⟨hj, fs, _, _, sm', _⟩
        exact ⟨by rw [List.length_map]; exact hj, SqL.of (sm' _ _ pr.q1)⟩
      · rintro j x ys Hc hx ⟨hj, fs, rfl, hfs, sm', hacc', hall⟩
        rw [List.getElem?_map] at hx
        cases ee : es[j]? with
        | none => rw [ee] at hx; cases hx
        | some e =>
          rw [ee] at hx
          cases hx
          have hem : e ∈ es := List.mem_of_getElem? ee
          have hjl : j < es.length := (List.getElem?_eq_some_iff.mp ee).1
          have hfl : fs.length = j := by
            have := congrArg List.length hfs
            rw [List.length_map, List.length_map, List.length_take] at this
            omega
          have he1 := sm' _ _ (pr.all e hem).2.2
          refine tTrue_mk ?_
          refine iteT ?_
          refine ⟨_, rfl, _, rfl, by show 1 ≤ sizeLine; decide, fun t ht => ?_⟩
          have s7 : Same Hc (upd Hc t (.lst [nv i])) := same_upd ht
          have h8' : e.2.length ≤ i := len_subs (by rw [← hes]; exact List.mem_map_of_mem hem)
          refine ⟨e.1, t, _, _, rfl, rfl, s7 _ _ he1, upd_same, ?_, fun r hr' => ?_⟩
          · rw [List.length_map]
            exact Nat.le_of_lt (small9 (by show e.2.length + 1 ≤ 100; omega))
          · have s8 := s7.trans (same_upd (o := .lst (e.2.map nv ++ [nv i])) hr')
            refine ⟨s8 _ _ hacc', ?_, hjl, fs ++ [(r, e.2 ++ [i])], by rw [List.map_append]; rfl, ?_, fun b o eb => ?_, upd_same, fun g hg => ?_⟩
            · rw [List.length_map]
              exact small1000 (by omega)
            · rw [List.map_append, hfs, List.take_add_one, ee, List.map_append]
              rfl
            · rw [upd_ne (ne_of_none eb hacc)]
              exact s8 _ _ (sm' _ _ eb)
            · rcases List.mem_append.mp hg with hg | hg
              · obtain ⟨h1, h2, h3⟩ := hall g hg
                exact ⟨h1, h2, by rw [upd_ne h2]; exact s8 _ _ h3⟩
              · have : g = (r, e.2 ++ [i]) := by simpa using hg
                subst this
                have hra : r ≠ acc := Ne.symm (ne_of_none (s7 _ _ hacc') hr')
                refine ⟨(sm'.trans s7).free hr', hra, ?_⟩
                rw [upd_ne hra, upd_same, List.map_append]
                rfl
      · rintro ys Hc ⟨hj, fs, rfl, hfs, sm', hacc', hall⟩
        rw [List.length_map, List.take_length] at hfs
        have hfl : fs.length = es.length := by
          have := congrArg List.length hfs
          rw [List.length_map, List.length_map] at this
          exact this
        refine ⟨q, acc, _, _, rfl, rfl, sm' _ _ pr.q1, hacc', ?_, fun r hr' => ⟨r, es ++ fs, _, rfl, hil, ⟨(pr.same.trans sm').trans (same_upd hr'), (pr.same.trans sm').free hr', ?_, fun g hg => ?_⟩, ?_⟩⟩
        · rw [List.length_map, List.length_map]
          exact Nat.le_of_lt (small1000 (by omega))
        · rw [List.map_append]
          exact upd_same
        · rcases List.mem_append.mp hg with hg | hg
          · obtain ⟨h1, h2, h3⟩ := pr.all g hg
            have hgr := ne_of_none (sm' _ _ h3) hr'
            exact ⟨h1, hgr, by rw [upd_ne hgr]; exact sm' _ _ h3⟩
          · obtain ⟨h1, h2, h3⟩ := hall g hg
            have hgr := ne_of_none h3 hr'
            exact ⟨pr.same.free h1, hgr, by rw [upd_ne hgr]; exact h3⟩
        · rw [List.map_append, hfs]
          show es.map (·.2) ++ _ = subs i ++ (subs i).map fun a => a ++ [i]
          rw [← hes, List.map_map]
          rfl
    · rintro σ H' ⟨q, es, v, rfl, _, pr, hes⟩
      rw [hlen] at hes
      refine ⟨_, rfl, q, es.map (fun e => (e.1, castL e.2)), rfl, SqL.of (by rw [List.map_map]; exact pr.q1), fun e he => ?_, fun l' qs hl' hp' hs' => ?_⟩
      · obtain ⟨e', he', rfl⟩ := List.mem_map.mp he
        exact SqL.of (by rw [castL_nv]; exact (pr.all e' he').2.2)
      · obtain ⟨es', hp'', rfl⟩ := perm_of_map _ hp' es rfl
        refine k l' es' _ (pr.same.trans (same_upd hl')) (pr.same.free hl') (by rw [List.map_map]; exact upd_same) (fun e he => ?_) ?_
        · obtain ⟨h1, h2, h3⟩ := pr.all e (hp''.mem_iff.mp he)
          have hg := ne_of_none h3 hl'
          exact ⟨h1, hg, by rw [upd_ne hg]; exact h3⟩
        · refine presses_eq (by rw [← hes]; exact hp''.map _) (List.pairwise_map.mpr ((List.pairwise_map.mp hs').imp fun {a b} h => leN_of.mpr h))
end
end Sw
namespace Sw
open PySem L2
abbrev sBits : Stmt := top 25
abbrev sIsPressL : Stmt := top 28
def bitsN (z : Nat) : Nat := if h : z = 0 then 0 else z % 2 + bitsN (z / 2)
decreasing_by omega
theorem bitsN_zero : bitsN 0 = 0 := by unfold bitsN; rfl
theorem bitsN_pos {z : Nat} (h : 0 < z) : bitsN z = z % 2 + bitsN (z / 2) := by
  rw [bitsN]
  exact dif_neg (by omega)
def spBits : Sp := fun vs H Q _ => ∃ z : Nat, vs = [nv z] ∧ Q (nv (bitsN z)) H
def riseB (last m : Int) : List Int → Bool
  | [] => true
  | z :: r => if last < z ∧ z < m then riseB z m r else false
theorem riseB_cons (last m z : Int) (r : List Int) : riseB last m (z :: r) = if last < z ∧ z < m then riseB z m r else false := rfl
def spIsPressL (K : PySem.W.Frag) : Sp := fun vs H Q _ => ∃ (l : Addr) (m : Int) (zs : List Int), vs = [.ref l, .int m] ∧ H l = some (.lst (zs.map V.int)) ∧ Q (.bl (riseB (-1) m zs)) H
section
variable {P : Program} {w : World} {K : PySem.W.Frag} {mg : Str → Option Value} {base : Heap} {C : Addr}
theorem scBi : FnScope ["_law_number_here", "_law_found"] ["_law_number_here"] (defScope sBits) := ⟨rfl, rfl, rfl, by decide +kernel, rfl, by decide +kernel, by decide +kernel⟩
theorem ok_bits {f : Addr} {fd : FuncData} (F : Fun K "_law_bits" "_law_bits" sBits f fd) : FnOk P w K mg base CX0 1 f fd ["_law_number_here"] spBits := by
  refine F.ok scBi (fun vs H Q E h => ?_) (fun cdv A outer s H vs Q E hr h => ?_)
  · obtain ⟨z, rfl, _⟩ := h
    rfl
  · obtain ⟨z, rfl, k⟩ := h
    refine ⟨_, pss_cons (ps_set (i := 1) scBi.nd rfl (Or.inl rfl) pe_int)
      (pss_cons (ps_while PassesOwn.never (pt_cmpR op_gt (pv 0) pe_int (nomark _))
        (pss_cons (ps_set (i := 1) scBi.nd rfl (Or.inl rfl) (pe_op op_add (pv 1) (pe_op op_mod (pv 0) pe_int)))
        (pss_one (ps_set (i := 0) scBi.nd rfl (Or.inl rfl) (pe_op op_fdiv (pv 0) pe_int)))))
      (pss_one (ps_ret (pv 1)))), ?_⟩
    refine ⟨fun m σ H' => ∃ a b : Nat, σ = [some (nv a), some (nv b)] ∧ H' = H ∧ b + bitsN a = bitsN z ∧ m = a, ⟨z, z, 0, rfl, rfl, Nat.zero_add _, rfl⟩, ?_⟩
    rintro m σ H' ⟨a, b, rfl, rfl, e, rfl⟩
    refine ⟨_, rfl, _, _, rfl, rfl, _, rfl, ?_⟩
    refine ite2 (fun h1 => ?_) (fun h1 => ?_)
    · have h1' : (0 : Int) < (m : Int) := of_decide_eq_true h1
      rw [bitsN_pos (show 0 < m by omega)] at e
      refine ⟨fun σ H'' => σ = [some (nv (m / 2)), some (nv (b + m % 2))] ∧ H'' = H', fun σ H'' ⟨e1, e2⟩ => ⟨m / 2, by omega, m / 2, b + m % 2, e1, e2, by omega, rfl⟩, ?_⟩
      refine ⟨_, rfl, _, rfl, _, _, rfl, rfl, (by show (0 : Int) < 2; decide), _, _, rfl, rfl, ?_⟩
      refine ⟨_, rfl, _, _, rfl, rfl, ⟨by decide, by decide⟩, ?_, rfl⟩
      rfl
    · have h1' : ¬ (0 : Int) < (m : Int) := fun z => h1 (decide_eq_true z)
      have : m = 0 := by omega
      subst this
      rw [bitsN_zero] at e
      have : b = bitsN z := by omega
      subst this
      exact ⟨_, rfl, k⟩
theorem scIP : FnScope ["_law_found", "_law_many", "_law_last", "_law_one"] ["_law_found", "_law_many"] (defScope sIsPressL) := ⟨rfl, rfl, rfl, by decide +kernel, rfl, by decide +kernel, by decide +kernel⟩
theorem ok_isPressL {f : Addr} {fd : FuncData} (F : Fun K "_law_is_press" "_law_is_press" sIsPressL f fd) (isi : mg "isinstance" = none) (int : mg "int" = none) (bool : mg "bool" = none) (list : mg "list" = none) : FnOk P w K mg base CX0 1 f fd ["_law_found", "_law_many"] (spIsPressL K) := by
  refine F.ok scIP (fun vs H Q E h => ?_) (fun cdv A outer s H vs Q E hr h => ?_)
  · obtain ⟨l, m, zs, rfl, _⟩ := h
    rfl
  · obtain ⟨l, m, zs, rfl, hl, k⟩ := h
    refine ⟨_, pss_cons (ps_if (pt_not (pt_val (pe_isi isi list PyProof.Rows.boot_list (pv 0)))) (pss_one (ps_ret pe_bl)) pss_nil)
      (pss_cons (ps_set (i := 2) scIP.nd rfl (Or.inl rfl) (pe_un un_neg pe_int))
      (pss_cons (ps_for PassesOwn.never rfl (pi_list (pv 0)) (pg_name (i := 3) scIP.nd rfl (Or.inl rfl))
        (pss_cons (ps_if (PW.pt (pw_or (pt_val (pe_isi isi bool PyProof.Rows.boot_bool (pv 3))) (pw_or (pt_not (pt_val (pe_isi isi int PyProof.Rows.boot_int (pv 3)))) (pw_or1 (pt_not (pt_chain op_lt op_lt (pv 2) (pv 3) (pv 1))))))) (pss_one (ps_ret pe_bl)) pss_nil)
        (pss_one (ps_set (i := 2) scIP.nd rfl (Or.inl rfl) (pv 3)))))
      (pss_one (ps_ret pe_bl)))), ?_⟩
    refine ⟨_, rfl, .ref l, "list", _, true, rfl, .lst hl, by rfl, _, rfl, ?_⟩
    refine iteF ?_
    refine ⟨1, rfl, _, rfl, l, rfl, ⟨_, SqL.of hl⟩, for_list (K := K) (a := l) (xs := zs.map V.int) (fun i σ H' => ∃ (y : Int) (v : Option V), σ = [some (.ref l), some (.int m), some (.int y), v] ∧ H' = H ∧ riseB y m (zs.drop i) = riseB (-1) m zs)
      ⟨-1, none, rfl, rfl, rfl⟩ ?_ ?_ ?_⟩
    · rintro i σ H' _ ⟨y, v, _, rfl, _⟩
      exact SqL.of hl
    · rintro i x σ H' hx ⟨y, v, rfl, rfl, e⟩
      rw [List.getElem?_map] at hx
      cases ez : zs[i]? with
      | none => rw [ez] at hx; cases hx
      | some z =>
        rw [ez] at hx
        cases hx
        obtain ⟨hi, ei⟩ := List.getElem?_eq_some_iff.mp ez
        rw [List.drop_eq_getElem_cons hi, ei] at e
        refine ⟨_, rfl, .int z, "bool", _, false, rfl, .int z, by rfl, _, rfl, ?_⟩
        refine iteF ?_
        refine ⟨_, rfl, .int z, "int", _, true, rfl, .int z, by rfl, _, rfl, ?_⟩
        refine iteF ?_
        rw [riseB_cons] at e
        by_cases h1 : y < z
        · by_cases h2 : z < m
          · rw [if_pos ⟨h1, h2⟩] at e
            refine ⟨_, rfl, _, rfl, y, z, rfl, rfl, _, rfl, iteP h1 ⟨_, rfl, z, m, rfl, rfl, _, rfl, iteNS h2 ⟨_, rfl, z, _, rfl, rfl, e⟩⟩⟩
          · rw [if_neg (fun q => h2 q.2)] at e
            rw [← e] at k
            refine ⟨_, rfl, _, rfl, y, z, rfl, rfl, _, rfl, iteP h1 ⟨_, rfl, z, m, rfl, rfl, _, rfl, iteBT (by rw [decide_eq_false h2]; rfl) k⟩⟩
        · rw [if_neg (fun q => h1 q.1)] at e
          rw [← e] at k
          exact ⟨_, rfl, _, rfl, y, z, rfl, rfl, _, rfl, iteN h1 ⟨_, rfl, iteT k⟩⟩
    · rintro σ H' ⟨y, v, rfl, rfl, e⟩
      rw [List.length_map, List.drop_length] at e
      rw [← e] at k
      exact k
end
end Sw
namespace Sw
open PySem L2
theorem bitsN_two (k : Nat) : bitsN (2 * k) = bitsN k := by
  by_cases h : k = 0
  · subst h; rfl
  · rw [bitsN_pos (by omega), show 2 * k % 2 = 0 by omega, show 2 * k / 2 = k by omega, Nat.zero_add]
theorem low_odd (k : Nat) : (2 * k + 1) &&& (2 * k) = 2 * k := by
  have e1 : ((2 * k + 1) &&& (2 * k)) / 2 = (2 * k + 1) / 2 &&& 2 * k / 2 := Nat.and_div_two
  have e2 : ((2 * k + 1) &&& (2 * k)) % 2 = 1 ↔ (2 * k + 1) % 2 = 1 ∧ (2 * k) % 2 = 1 := Nat.and_mod_two_eq_one
  rw [show (2 * k + 1) / 2 = k by omega, show 2 * k / 2 = k by omega, Nat.and_self] at e1
  omega
theorem low_even {k : Nat} (h : 0 < k) : (2 * k) &&& (2 * k - 1) = 2 * (k &&& (k - 1)) := by
  have e1 : ((2 * k) &&& (2 * k - 1)) / 2 = (2 * k) / 2 &&& (2 * k - 1) / 2 := Nat.and_div_two
  have e2 : ((2 * k) &&& (2 * k - 1)) % 2 = 1 ↔ (2 * k) % 2 = 1 ∧ (2 * k - 1) % 2 = 1 := Nat.and_mod_two_eq_one
  rw [show (2 * k) / 2 = k by omega, show (2 * k - 1) / 2 = k - 1 by omega] at e1
  omega
theorem bitsN_low (z : Nat) : 0 < z → bitsN (z &&& (z - 1)) + 1 = bitsN z := by
  induction z using Nat.strongRecOn with
  | _ z ih =>
    intro h
    rcases Nat.mod_two_eq_zero_or_one z with e | e
    · obtain ⟨k, rfl⟩ : ∃ k, z = 2 * k := ⟨z / 2, by omega⟩
      rw [low_even (by omega), bitsN_two, bitsN_two]
      exact ih k (by omega) (by omega)
    · obtain ⟨k, rfl⟩ : ∃ k, z = 2 * k + 1 := ⟨z / 2, by omega⟩
      rw [show 2 * k + 1 - 1 = 2 * k by omega, low_odd, bitsN_two, bitsN_pos (by omega : 0 < 2 * k + 1), show (2 * k + 1) % 2 = 1 by omega, show (2 * k + 1) / 2 = k by omega]
      omega
theorem low_lt {z : Nat} (h : 0 < z) : z &&& (z - 1) < z := by
  have := @Nat.and_le_right z (z - 1)
  omega
def oddB (z : Nat) : Bool := decide (bitsN z % 2 = 1)
theorem odd0 : oddB 0 = false := by
  unfold oddB
  rw [bitsN_zero]
  rfl
theorem oddB_not (z : Nat) : decide (bitsN z % 2 = 0) = !oddB z := by
  unfold oddB
  rcases Nat.mod_two_eq_zero_or_one (bitsN z) with h | h <;> rw [h] <;> rfl
theorem press_rise (m : Int) : ∀ (zs : List Int) (b : Int), pressV b m (zs.map V.int) = (decide (b < m) && riseB b m zs)
  | [], b => by simp [pressV, riseB]
  | z :: r, b => by
    show (if z ≤ b then false else pressV z m (r.map V.int)) = _
    rw [riseB_cons, press_rise m r z]
    by_cases h1 : z ≤ b
    · rw [if_pos h1, if_neg (by omega), Bool.and_false]
    · rw [if_neg h1]
      by_cases h2 : z < m
      · rw [if_pos ⟨by omega, h2⟩, decide_eq_true h2, decide_eq_true (show b < m by omega)]
      · rw [if_neg (fun q => h2 q.2), decide_eq_false h2, Bool.and_false, Bool.false_and]
theorem rise_press {m : Nat} : ∀ (zs : List Int) (b : Int), -1 ≤ b → riseB b m zs = true → ∃ ps : List Nat, zs = castL ps ∧ ps.Pairwise (· < ·) ∧ (∀ a ∈ ps, b < (a : Int)) ∧ ∀ a ∈ ps, a < m
  | [], b, _, _ => ⟨[], rfl, List.Pairwise.nil, (fun _ z => nomatch z), fun _ z => nomatch z⟩
  | z :: r, b, hb, h => by
    rw [riseB_cons] at h
    by_cases hc : b < z ∧ z < (m : Int)
    · rw [if_pos hc] at h
      obtain ⟨ps, rfl, h1, h2, h3⟩ := rise_press r z (by omega) h
      refine ⟨z.toNat :: ps, ?_, List.pairwise_cons.mpr ⟨fun a ha => ?_, h1⟩, fun a ha => ?_, fun a ha => ?_⟩
      · show z :: castL ps = ((z.toNat : Nat) : Int) :: castL ps
        rw [show ((z.toNat : Nat) : Int) = z by omega]
      · have := h2 a ha
        omega
      · rcases List.mem_cons.mp ha with e | e
        · omega
        · have := h2 a e
          omega
      · rcases List.mem_cons.mp ha with e | e
        · omega
        · exact h3 a e
    · rw [if_neg hc] at h
      cases h
theorem castL_toNat (ps : List Nat) : (castL ps).map Int.toNat = ps := by
  unfold castL
  rw [List.map_map]
  exact (List.map_congr_left fun a _ => rfl).trans (List.map_id _)
theorem press_of {m : Nat} {zs : List Int} (h : pressV (-1) m (zs.map V.int) = true) : ∃ ps : List Nat, zs = castL ps ∧ Press ps m := by
  rw [press_rise, Bool.and_eq_true] at h
  obtain ⟨ps, e, h1, _, h3⟩ := rise_press zs (-1) (by omega) h.2
  exact ⟨ps, e, h1, h3⟩
theorem press_len : ∀ {ps : List Nat} {m : Nat}, Press ps m → ps.length ≤ m := fun {ps m} h => by
  have nd : ps.Nodup := h.up.imp fun {a b} hab => Nat.ne_of_lt hab
  have := List.Nodup.length_le_of_subset nd (l₂ := List.range m) fun a ha => List.mem_range.mpr (h.lt a ha)
  rw [List.length_range] at this
  exact this
theorem rise_ok {m : Nat} {ps : List Nat} (h : Press ps m) : riseB (-1) m (castL ps) = true := by
  have := press_ok h
  rw [← castL_nv, press_rise, Bool.and_eq_true] at this
  exact this.2
section
variable {X : Cx} {K : PySem.W.Frag}
theorem pe_fldK {e : Expr} {f : Str} {pos : Pos} {ta : TE} (hK : X.K = K) (he : PE X e ta) (hb : attributeBase e f X.env (eval e X.env) = eval e X.env) : PE X (.Attribute e f pos) (tFld K ta f) := by
  subst hK
  exact pe_fld he hb
theorem ix_tupK (hK : X.K = K) : IxR X (rIxT K) := by
  subst hK
  exact ix_tup
theorem call_lenK (hK : X.K = K) : CallR X (.builtin "len") (fun xs H Q => ∃ p ys, xs = [.ref p] ∧ (SqL K H p ys ∨ SqT K H p ys) ∧ Q (.int ys.length) H) := by
  subst hK
  exact call_len_seq
end
end Sw
namespace Sw
open PySem L2
abbrev sPInit : Stmt := inClass (top 14) 0
abbrev sBrings : Stmt := inClass (top 14) 1
abbrev sEInit : Stmt := inClass (top 15) 0
abbrev sBars : Stmt := inClass (top 15) 1
abbrev sIsOdd : Stmt := top 16
def bringsB (sw : List Nat) (zs : List Int) (st wi as : Nat) : Bool := pressV (-1) sw.length (zs.map V.int) && decide ((st ^^^ turned sw (zs.map Int.toNat) ^^^ wi) &&& as = 0)
def barsB (sw : List Nat) (z st wi as : Nat) : Bool := decide (z &&& as = z) && (sw.all (fun t => !oddB (z &&& t)) && oddB (z &&& (st ^^^ wi)))
theorem dec_nv (a b : Nat) : decide (nv a = nv b) = decide (a = b) := decide_eq_decide.mpr ⟨fun h => by have := V.int.inj h; omega, fun h => by rw [h]⟩
theorem dec_nv0 (a : Nat) : decide (nv a = V.int 0) = decide (a = 0) := dec_nv a 0
def fldP (u : Addr) : List (Str × V) := putF "press" (.ref u) []
def fldE (v : V) : List (Str × V) := putF "lamps" v []
theorem fldP_press (u : Addr) : (fldP u).lookup ("press" : Str) = some (.ref u) := by
  unfold fldP
  rw [lookup_putF, if_pos rfl]
theorem fldP_no (u : Addr) {m : Str} (h : ¬ m = "press") : (fldP u).lookup m = none := by
  unfold fldP
  rw [lookup_putF, if_neg h]
  rfl
theorem fldE_lamps (v : V) : (fldE v).lookup ("lamps" : Str) = some v := by
  unfold fldE
  rw [lookup_putF, if_pos rfl]
theorem fldE_no (v : V) {m : Str} (h : ¬ m = "lamps") : (fldE v).lookup m = none := by
  unfold fldE
  rw [lookup_putF, if_neg h]
  rfl
structure PressAt (CP : Addr) (H : Hp) (p u : Addr) (xs : List V) : Prop where
  ob : ∃ dx, H p = some (.ins CP dx (fldP u)) ∧ H u = some (.lst xs)
structure EvenAt (CE : Addr) (H : Hp) (p : Addr) (v : V) : Prop where
  ob : ∃ dx, H p = some (.ins CE dx (fldE v))
theorem PressAt.same {CP : Addr} {H H' : Hp} {p u : Addr} {xs : List V} (h : PressAt CP H p u xs) (s : Same H H') : PressAt CP H' p u xs := by
  obtain ⟨dx, h1, h2⟩ := h.ob
  exact ⟨dx, s _ _ h1, s _ _ h2⟩
theorem EvenAt.same {CE : Addr} {H H' : Hp} {p : Addr} {v : V} (h : EvenAt CE H p v) (s : Same H H') : EvenAt CE H' p v := by
  obtain ⟨dx, h1⟩ := h.ob
  exact ⟨dx, s _ _ h1⟩
structure TxtA (K : PySem.W.Frag) (mg : Str → Option Value) (CP CE : Addr) : Prop where
  clP : Cls K CP
  clE : Cls K CE
  nP : NoAttr K CP "press"
  nE : NoAttr K CE "lamps"
def spPInit (CP : Addr) : Sp := fun vs H Q _ => ∃ (p dx l : Addr) (xs : List V), vs = [.ref p, .ref l] ∧ H p = some (.ins CP dx []) ∧ H l = some (.lst xs) ∧
  ∀ u H', H u = none → H' p = some (.ins CP dx (fldP u)) → H' u = some (.lst xs) → (∀ b o, H b = some o → b ≠ p → H' b = some o) → Q .non H'
def spEInit (CE : Addr) : Sp := fun vs H Q _ => ∃ (p dx : Addr) (v : V), vs = [.ref p, v] ∧ H p = some (.ins CE dx []) ∧ Q .non (upd H p (.ins CE dx (fldE v)))
def spBrings (CP C : Addr) : Sp := fun vs H Q _ => ∃ (p u h : Addr) (n : Nat) (sw : List Nat) (zs : List Int) (st wi as : Nat), vs = [.ref p, .ref h, nv st, nv wi, nv as] ∧ PressAt CP H p u (zs.map V.int) ∧ HouseAt C H h n sw ∧ sw.length ≤ 8 ∧
  ∀ H', Same H H' → Q (.bl (bringsB sw zs st wi as)) H'
def spBars (CE C : Addr) : Sp := fun vs H Q _ => ∃ (p h : Addr) (n : Nat) (sw : List Nat) (z st wi as : Nat), vs = [.ref p, .ref h, nv st, nv wi, nv as] ∧ EvenAt CE H p (nv z) ∧ HouseAt C H h n sw ∧
  ∀ H', Same H H' → Q (.bl (barsB sw z st wi as)) H'
def spIsOdd : Sp := fun vs H Q _ => ∃ z : Nat, vs = [nv z] ∧ Q (.bl (oddB z)) H
theorem make_house {K : PySem.W.Frag} {C l x dx : Addr} {H : Hp} {n : Nat} {sw : List Nat} {Q : VK} {E : XK} (nx : H x = none) (ndx : H dx = none) (nex : dx ≠ x) (hl : H l = some (.lst (sw.map nv))) (g : Good n sw) (k : ∀ H', HouseAt C H' x n sw → Same H H' → Q .non H') :
    spInit K C [.ref x, nv n, .ref l] (upd (upd H dx (.own x)) x (.ins C dx [])) Q E := by
  have s2 : Same H (upd (upd H dx (.own x)) x (.ins C dx [])) := fun b o e => by
    rw [upd_ne (ne_of_none e nx), upd_ne (ne_of_none e ndx)]
    exact e
  exact ⟨x, dx, l, n, sw, rfl, upd_same, s2 _ _ hl, g, fun H2 hh kp => k H2 hh fun b o e => kp b o (s2 b o e) (ne_of_none e nx)⟩
theorem make_press {CP l x dx : Addr} {H : Hp} {xs : List V} {Q : VK} {E : XK} (nx : H x = none) (ndx : H dx = none) (nex : dx ≠ x) (hl : H l = some (.lst xs)) (k : ∀ u H', H u = none → PressAt CP H' x u xs → Same H H' → Q .non H') :
    spPInit CP [.ref x, .ref l] (upd (upd H dx (.own x)) x (.ins CP dx [])) Q E := by
  have s2 : Same H (upd (upd H dx (.own x)) x (.ins CP dx [])) := fun b o e => by
    rw [upd_ne (ne_of_none e nx), upd_ne (ne_of_none e ndx)]
    exact e
  exact ⟨x, dx, l, xs, rfl, upd_same, s2 _ _ hl, fun u H2 hu h1 h2 kp => k u H2 (s2.free hu) ⟨dx, h1, h2⟩ fun b o e => kp b o (s2 b o e) (ne_of_none e nx)⟩
theorem make_even {CE x dx : Addr} {H : Hp} {v : V} {Q : VK} {E : XK} (nx : H x = none) (ndx : H dx = none) (nex : dx ≠ x) (k : ∀ H', EvenAt CE H' x v → Same H H' → Q .non H') :
    spEInit CE [.ref x, v] (upd (upd H dx (.own x)) x (.ins CE dx [])) Q E := by
  refine ⟨x, dx, v, rfl, upd_same, k _ ⟨dx, upd_same⟩ fun b o e => ?_⟩
  rw [upd_ne (ne_of_none e nx), upd_ne (ne_of_none e nx), upd_ne (ne_of_none e ndx)]
  exact e
section
variable {P : Program} {w : World} {K : PySem.W.Frag} {mg : Str → Option Value} {base : Heap} {C CP CE : Addr}
theorem scPI : FnScope ["self", "press"] ["self", "press"] (defScope sPInit) := ⟨rfl, rfl, rfl, by decide +kernel, rfl, by decide +kernel, by decide +kernel⟩
theorem ok_pinit {f : Addr} {fd : FuncData} (F : Fun K "__init__" "Press.__init__" sPInit f fd) (TA : TxtA K mg CP CE) (list : mg "list" = none) : FnOk P w K mg base CX0 1 f fd ["self", "press"] (spPInit CP) := by
  refine F.ok scPI (fun vs H Q E h => ?_) (fun cdv A outer s H vs Q E hr h => ?_)
  · obtain ⟨p, dx, l, xs, rfl, _⟩ := h
    rfl
  · obtain ⟨p, dx, l, xs, rfl, hp, hl, k⟩ := h
    refine ⟨_, pss_one (ps_fld (pv 0) (pe_callTy call_list_of rfl list PyProof.Rows.boot_list (pa_cons (pv 1) pa_nil)) rfl), ?_⟩
    refine ⟨_, rfl, l, _, rfl, .inl (SqL.of hl), fun u hu => ⟨_, rfl, p, CP, dx, [], rfl, (by rw [upd_ne (ne_of_none hp hu)]; exact hp), TA.clP, TA.nP, (by show 0 < 1000; decide), ?_⟩⟩
    refine k u _ hu upd_same (by rw [upd_ne (Ne.symm (ne_of_none hp hu))]; exact upd_same) fun b o hb hbp => ?_
    rw [upd_ne hbp, upd_ne (ne_of_none hb hu)]
    exact hb
theorem scEI : FnScope ["self", "lamps"] ["self", "lamps"] (defScope sEInit) := ⟨rfl, rfl, rfl, by decide +kernel, rfl, by decide +kernel, by decide +kernel⟩
theorem ok_einit {f : Addr} {fd : FuncData} (F : Fun K "__init__" "Even.__init__" sEInit f fd) (TA : TxtA K mg CP CE) : FnOk P w K mg base CX0 1 f fd ["self", "lamps"] (spEInit CE) := by
  refine F.ok scEI (fun vs H Q E h => ?_) (fun cdv A outer s H vs Q E hr h => ?_)
  · obtain ⟨p, dx, v, rfl, _⟩ := h
    rfl
  · obtain ⟨p, dx, v, rfl, hp, k⟩ := h
    refine ⟨_, pss_one (ps_fld (pv 0) (pv 1) rfl), ?_⟩
    exact ⟨_, rfl, _, rfl, p, CE, dx, [], rfl, hp, TA.clE, TA.nE, (by show 0 < 1000; decide), k⟩
theorem scOd : FnScope ["lamps", "odd"] ["lamps"] (defScope sIsOdd) := ⟨rfl, rfl, rfl, by decide +kernel, rfl, by decide +kernel, by decide +kernel⟩
theorem ok_isOdd {f : Addr} {fd : FuncData} (F : Fun K "is_odd" "is_odd" sIsOdd f fd) : FnOk P w K mg base CX0 1 f fd ["lamps"] spIsOdd := by
  refine F.ok scOd (fun vs H Q E h => ?_) (fun cdv A outer s H vs Q E hr h => ?_)
  · obtain ⟨z, rfl, _⟩ := h
    rfl
  · obtain ⟨z, rfl, k⟩ := h
    refine ⟨_, pss_cons (ps_set (i := 1) scOd.nd rfl (Or.inl rfl) pe_bl)
      (pss_cons (ps_while PassesOwn.never (pt_cmpR op_gt (pv 0) pe_int (nomark _))
        (pss_cons (ps_set (i := 0) scOd.nd rfl (Or.inl rfl) (pe_op op_andN (pv 0) (pe_op op_sub (pv 0) pe_int)))
        (pss_one (ps_set (i := 1) scOd.nd rfl (Or.inl rfl) (pe_not (pv 1))))))
      (pss_one (ps_ret (pv 1)))), ?_⟩
    refine ⟨fun m σ H' => ∃ (a : Nat) (b : Bool), σ = [some (nv a), some (.bl b)] ∧ H' = H ∧ (b ^^ oddB a) = oddB z ∧ m = a, ⟨z, z, false, rfl, rfl, Bool.false_xor _, rfl⟩, ?_⟩
    rintro m σ H' ⟨a, b, rfl, rfl, e, rfl⟩
    refine ⟨_, rfl, _, _, rfl, rfl, _, rfl, ?_⟩
    refine ite2 (fun h1 => ?_) (fun h1 => ?_)
    · have h1' : (0 : Int) < (m : Int) := of_decide_eq_true h1
      have hm : 0 < m := by omega
      refine ⟨fun σ H'' => σ = [some (nv (m &&& (m - 1))), some (.bl (!b))] ∧ H'' = H', fun σ H'' ⟨e1, e2⟩ => ⟨m &&& (m - 1), low_lt hm, m &&& (m - 1), !b, e1, e2, ?_, rfl⟩, ?_⟩
      · rw [← e]
        have := bitsN_low m hm
        have : oddB m = !oddB (m &&& (m - 1)) := by
          unfold oddB
          rw [← this]
          rcases Nat.mod_two_eq_zero_or_one (bitsN (m &&& (m - 1))) with h | h
          · rw [decide_eq_false (by omega : ¬ bitsN (m &&& (m - 1)) % 2 = 1), decide_eq_true (by omega)]; rfl
          · rw [decide_eq_true h, decide_eq_false (by omega)]; rfl
        rw [this]
        cases b <;> cases oddB (m &&& (m - 1)) <;> rfl
      · refine ⟨_, rfl, _, rfl, _, _, rfl, rfl, m, m - 1, rfl, ?_, ?_⟩
        · show V.int ((m : Int) - 1) = V.int ((m - 1 : Nat) : Int)
          congr 1
          omega
        · exact ⟨_, rfl, _, rfl, rfl, rfl⟩
    · have h1' : ¬ (0 : Int) < (m : Int) := fun z => h1 (decide_eq_true z)
      have : m = 0 := by omega
      subst this
      have e' : b = oddB z := by
        rw [← e, odd0]
        cases b <;> rfl
      subst e'
      exact ⟨_, rfl, k⟩
theorem scBr : FnScope ["self", "house", "state", "wish", "asked", "behind"] ["self", "house", "state", "wish", "asked"] (defScope sBrings) := ⟨rfl, rfl, rfl, by decide +kernel, rfl, by decide +kernel, by decide +kernel⟩
theorem ok_brings {f : Addr} {fd : FuncData} (F : Fun K "brings" "Press.brings" sBrings f fd) (TA : TxtA K mg CP CE) (FP : FnAt P w K mg base "is_press" 2 ["house", "value"] (spIsPress C))
    (FT : FnAt P w K mg base "turned_by" 2 ["house", "press"] (spTurnedBy C)) : FnOk P w K mg base CX0 3 f fd ["self", "house", "state", "wish", "asked"] (spBrings CP C) := by
  refine F.ok scBr (fun vs H Q E h => ?_) (fun cdv A outer s H vs Q E hr h => ?_)
  · obtain ⟨p, u, h, n, sw, zs, st, wi, as, rfl, _⟩ := h
    rfl
  · obtain ⟨p, u, h, n, sw, zs, st, wi, as, rfl, hp, hh, h8, k⟩ := h
    obtain ⟨dx, hp1, hu⟩ := hp.ob
    refine ⟨_, pss_cons (ps_if (pt_not (pt_val (pe_fn FP hr (pa_cons (pv 1) (pa_cons (pe_fld (pv 0) rfl) pa_nil))))) (pss_one (ps_ret pe_bl)) pss_nil)
      (pss_cons (ps_set (i := 5) scBr.nd rfl (Or.inl rfl) (pe_op op_xorN (pv 2) (pe_fn FT hr (pa_cons (pv 1) (pa_cons (pe_fld (pv 0) rfl) pa_nil)))))
      (pss_one (ps_ret (pe_cmpR op_eq (pe_op op_andN (pe_op op_xorN (pv 5) (pv 3)) (pv 4)) pe_int (nomark _))))), ?_⟩
    refine ⟨_, rfl, _, rfl, p, CP, dx, _, _, rfl, hp1, TA.clP, TA.nP, fldP_press u, h, u, n, sw, zs, rfl, hh, h8, hu, fun H1 s1 => ⟨_, rfl, ?_⟩⟩
    cases e : pressV (-1) sw.length (zs.map V.int) with
    | false =>
      refine iteT ?_
      have := k H1 s1
      unfold bringsB at this
      rw [e] at this
      exact this
    | true =>
      refine iteF ?_
      obtain ⟨ps, rfl, hps⟩ := press_of e
      refine ⟨_, rfl, _, rfl, _, rfl, p, CP, dx, _, _, rfl, s1 _ _ hp1, TA.clP, TA.nP, fldP_press u, h, u, n, sw, ps, rfl, hh.same s1, (by rw [← castL_nv]; exact s1 _ _ hu), hps.lt, fun H2 s2 => ⟨st, turned sw ps, rfl, rfl, ?_⟩⟩
      refine ⟨_, rfl, _, rfl, _, _, rfl, rfl, _, rfl, _, _, rfl, rfl, rfl, ?_⟩
      have := k H2 (s1.trans s2)
      unfold bringsB at this
      rw [e, castL_toNat, Bool.true_and, ← dec_nv0] at this
      exact this
theorem scBa : FnScope ["self", "house", "state", "wish", "asked", "turned"] ["self", "house", "state", "wish", "asked"] (defScope sBars) := ⟨rfl, rfl, rfl, by decide +kernel, rfl, by decide +kernel, by decide +kernel⟩
theorem ok_bars {f : Addr} {fd : FuncData} (F : Fun K "bars" "Even.bars" sBars f fd) (TA : TxtA K mg CP CE) (T : Txt K mg C) (FN : FnAt P w K mg base "is_number" 1 ["value"] (spIsNumber K)) (FS : FSw P w K mg base C)
    (FO : FnAt P w K mg base "is_odd" 1 ["lamps"] spIsOdd) : FnOk P w K mg base CX0 2 f fd ["self", "house", "state", "wish", "asked"] (spBars CE C) := by
  refine F.ok scBa (fun vs H Q E h => ?_) (fun cdv A outer s H vs Q E hr h => ?_)
  · obtain ⟨p, h, n, sw, z, st, wi, as, rfl, _⟩ := h
    rfl
  · obtain ⟨p, h, n, sw, z, st, wi, as, rfl, hp, hh, k⟩ := h
    obtain ⟨dx, hp1⟩ := hp.ob
    obtain ⟨dh, u, h1, h2⟩ := hh.ob
    refine ⟨_, pss_cons (ps_if (PW.pt (pw_or (pt_not (pt_val (pe_fn FN hr (pa_cons (pe_fld (pv 0) rfl) pa_nil)))) (pw_or1 (pt_cmpR op_ne (pe_op op_andN (pe_fld (pv 0) rfl) (pv 4)) (pe_fld (pv 0) rfl) (nomark _))))) (pss_one (ps_ret pe_bl)) pss_nil)
      (pss_cons (ps_for PassesOwn.never rfl (pi_list (pe_mt0 FS T.cl hr (pv 1))) (pg_name (i := 5) scBa.nd rfl (Or.inl rfl))
        (pss_one (ps_if (pt_val (pe_fn FO hr (pa_cons (pe_op op_andN (pe_fld (pv 0) rfl) (pv 5)) pa_nil))) (pss_one (ps_ret pe_bl)) pss_nil)))
      (pss_one (ps_ret (pe_fn FO hr (pa_cons (pe_op op_andN (pe_fld (pv 0) rfl) (pe_op op_xorN (pv 2) (pv 3))) pa_nil))))), ?_⟩
    refine ⟨_, rfl, p, CE, dx, _, _, rfl, hp1, TA.clE, TA.nE, fldE_lamps _, nv z, _, true, false, rfl, kind_int K H z, _, rfl, ?_⟩
    refine iteF ?_
    refine ⟨_, rfl, p, CE, dx, _, _, rfl, hp1, TA.clE, TA.nE, fldE_lamps _, _, rfl, z, as, rfl, rfl, _, rfl, p, CE, dx, _, _, rfl, hp1, TA.clE, TA.nE, fldE_lamps _, rfl, _, rfl, ?_⟩
    rw [dec_nv]
    by_cases hz : z &&& as = z
    · refine iteB (by rw [decide_eq_true hz]; rfl) ?_
      refine ⟨_, rfl, h, dh, _, rfl, h1, sw_no n u, h, n, sw, rfl, hh, fun q hq => ?_⟩
      have s1 : Same H (upd H q (.lst (sw.map nv))) := same_upd hq
      refine ⟨q, rfl, ⟨_, SqL.of upd_same⟩, for_list (K := K) (a := q) (xs := sw.map nv) (fun i σ H' => ∃ v, σ = [some (.ref p), some (.ref h), some (nv st), some (nv wi), some (nv as), v] ∧ H' = upd H q (.lst (sw.map nv)) ∧ (sw.take i).all (fun t => !oddB (z &&& t)) = true)
        ⟨none, rfl, rfl, rfl⟩ ?_ ?_ ?_⟩
      · rintro i σ H' _ ⟨v, _, rfl, _⟩
        exact SqL.of upd_same
      · rintro i x σ H' hx ⟨v, rfl, rfl, ha⟩
        obtain ⟨a, hga, rfl⟩ := nv_get hx
        refine ⟨_, rfl, p, CE, dx, _, _, rfl, s1 _ _ hp1, TA.clE, TA.nE, fldE_lamps _, _, rfl, z, a, rfl, rfl, z &&& a, rfl, _, rfl, ?_⟩
        refine ite2 (fun ho => ?_) (fun ho => ?_)
        · have := k _ s1
          have e : sw.all (fun t => !oddB (z &&& t)) = false := by
            rw [List.all_eq_false]
            exact ⟨a, List.mem_of_getElem? hga, by rw [ho]; exact Bool.false_ne_true⟩
          unfold barsB at this
          rw [e, Bool.false_and, Bool.and_false] at this
          exact this
        · refine ⟨some (nv a), rfl, rfl, ?_⟩
          have ho' : oddB (z &&& a) = false := by simpa using ho
          rw [take_snoc hga, List.all_append, ha]
          simp [ho']
      · rintro σ H' ⟨v, rfl, rfl, ha⟩
        rw [List.length_map, List.take_length] at ha
        refine ⟨_, rfl, p, CE, dx, _, _, rfl, s1 _ _ hp1, TA.clE, TA.nE, fldE_lamps _, _, rfl, _, rfl, st, wi, rfl, rfl, z, st ^^^ wi, rfl, rfl, z &&& (st ^^^ wi), rfl, ?_⟩
        have := k _ s1
        unfold barsB at this
        rw [ha, decide_eq_true hz, Bool.true_and, Bool.true_and] at this
        exact this
    · refine iteBT (by rw [decide_eq_false hz]; rfl) ?_
      have := k H (Same.refl _)
      unfold barsB at this
      rw [decide_eq_false hz, Bool.false_and] at this
      exact this
end
end Sw
namespace Sw
open PySem L2
theorem par_xor_lt (n : Nat) : ∀ x y : Nat, x < 2 ^ n → y < 2 ^ n → bitsN (x ^^^ y) % 2 = (bitsN x + bitsN y) % 2 := by
  induction n with
  | zero =>
    intro x y hx hy
    have : x = 0 := by omega
    subst this
    have : y = 0 := by omega
    subst this
    rw [Nat.xor_self, bitsN_zero]
  | succ n ih =>
    intro x y hx hy
    rw [Nat.pow_succ] at hx hy
    have h1 := ih (x / 2) (y / 2) (by omega) (by omega)
    have e1 : (x ^^^ y) / 2 = x / 2 ^^^ y / 2 := Nat.xor_div_two
    have e3 : (x ^^^ y) % 2 = 1 ↔ ¬ (x % 2 = 1 ↔ y % 2 = 1) := Nat.xor_mod_two_eq_one
    have step : ∀ z : Nat, bitsN z % 2 = (z % 2 + bitsN (z / 2)) % 2 := fun z => by
      by_cases hz : 0 < z
      · rw [bitsN_pos hz]
      · have : z = 0 := by omega
        subst this
        rw [Nat.zero_div, bitsN_zero]
    have s1 := step x
    have s2 := step y
    have s3 := step (x ^^^ y)
    rw [e1] at s3
    omega
theorem par_xor (x y : Nat) : bitsN (x ^^^ y) % 2 = (bitsN x + bitsN y) % 2 :=
  par_xor_lt (max x y) x y (Nat.lt_of_lt_of_le Nat.lt_two_pow_self (Nat.pow_le_pow_right (by decide) (Nat.le_max_left _ _))) (Nat.lt_of_lt_of_le Nat.lt_two_pow_self (Nat.pow_le_pow_right (by decide) (Nat.le_max_right _ _)))
def odd (y a : Nat) : Bool := decide (bitsN (y &&& a) % 2 = 1)
theorem odd_xor (y a b : Nat) : odd y (a ^^^ b) = (odd y a != odd y b) := by
  unfold odd
  have e : y &&& (a ^^^ b) = (y &&& a) ^^^ (y &&& b) := Nat.and_xor_distrib_left ..
  have := par_xor (y &&& a) (y &&& b)
  rw [e, Bool.eq_iff_iff]
  simp only [bne_iff_ne, ne_eq, decide_eq_true_eq, decide_eq_decide]
  omega
theorem odd_xor_left (y z a : Nat) : odd (y ^^^ z) a = (odd y a != odd z a) := by
  unfold odd
  have e : (y ^^^ z) &&& a = (y &&& a) ^^^ (z &&& a) := Nat.and_xor_distrib_right ..
  have := par_xor (y &&& a) (z &&& a)
  rw [e, Bool.eq_iff_iff]
  simp only [bne_iff_ne, ne_eq, decide_eq_true_eq, decide_eq_decide]
  omega
theorem turned_front {sw : List Nat} {v : Nat} : ∀ {ps : List Nat} {a : Nat}, (∀ i ∈ ps, i < sw.length) → ps.foldl (fun a i => a ^^^ (sw ++ [v]).getD i 0) a = ps.foldl (fun a i => a ^^^ sw.getD i 0) a
  | [], _, _ => rfl
  | i :: ps, a, h => by
    have hi : (sw ++ [v]).getD i 0 = sw.getD i 0 := by
      rw [List.getD_eq_getElem?_getD, List.getD_eq_getElem?_getD, List.getElem?_append_left (h i (.head _))]
    show ps.foldl _ (a ^^^ (sw ++ [v]).getD i 0) = ps.foldl _ (a ^^^ sw.getD i 0)
    rw [hi]
    exact turned_front fun j hj => h j (.tail _ hj)
theorem getD_last (sw : List Nat) (v : Nat) : (sw ++ [v]).getD sw.length 0 = v := by
  rw [List.getD_eq_getElem?_getD, List.getElem?_append_right (Nat.le_refl _), Nat.sub_self]
  rfl
theorem some_bit {t : Nat} (h : t ≠ 0) : ∃ k, t.testBit k = true := by
  refine Classical.byContradiction fun z => h (Nat.eq_of_testBit_eq fun i => ?_)
  rw [Nat.zero_testBit]
  cases e : t.testBit i with
  | false => rfl
  | true => exact absurd ⟨i, e⟩ z
theorem bits_pow : ∀ k, bitsN (2 ^ k) = 1
  | 0 => by
    rw [bitsN_pos (by decide)]
    show 1 % 2 + bitsN (1 / 2) = 1
    rw [show 1 / 2 = 0 from rfl, bitsN_zero]
  | k + 1 => by
    rw [bitsN_pos (Nat.two_pow_pos _), Nat.pow_succ, Nat.mul_mod_left, Nat.mul_div_cancel _ (by decide), bits_pow k]
theorem pow_and {t k : Nat} (h : t.testBit k = true) : 2 ^ k &&& t = 2 ^ k := by
  apply Nat.eq_of_testBit_eq
  intro i
  rw [Nat.testBit_and, Nat.testBit_two_pow]
  by_cases e : k = i
  · subst e
    simp [h]
  · simp [e]
theorem one_of : ∀ (sw : List Nat) (t asked : Nat), (∃ ps, Press ps sw.length ∧ (t ^^^ turned sw ps) &&& asked = 0) ∨ ∃ y, y &&& asked = y ∧ odd y t = true ∧ ∀ a ∈ sw, odd y a = false := by
  intro sw
  induction h : sw.length generalizing sw with
  | zero =>
    have : sw = [] := List.eq_nil_of_length_eq_zero h
    subst this
    intro t asked
    by_cases e : t &&& asked = 0
    · refine .inl ⟨[], ⟨.nil, fun _ z => nomatch z⟩, ?_⟩
      show (t ^^^ 0) &&& asked = 0
      rw [Nat.xor_zero]
      exact e
    · obtain ⟨k, hk⟩ := some_bit e
      rw [Nat.testBit_and, Bool.and_eq_true] at hk
      refine .inr ⟨2 ^ k, pow_and hk.2, ?_, fun _ z => nomatch z⟩
      unfold odd
      rw [pow_and hk.1, bits_pow]
      rfl
  | succ m ih =>
    rcases List.eq_nil_or_concat sw with rfl | ⟨sw', v, rfl⟩
    · cases h
    · rw [List.concat_eq_append] at h ⊢
      have hm : sw'.length = m := by
        rw [List.length_append] at h
        exact Nat.succ.inj h
      intro t asked
      rcases ih sw' hm t asked with ⟨ps, hp, e⟩ | ⟨y1, s1, o1, a1⟩
      · refine .inl ⟨ps, ⟨hp.up, fun a ha => Nat.lt_succ_of_lt (hp.lt a ha)⟩, ?_⟩
        unfold turned
        rw [turned_front fun i hi => by rw [hm]; exact hp.lt i hi]
        exact e
      · rcases ih sw' hm (t ^^^ v) asked with ⟨ps, hp, e⟩ | ⟨y2, s2, o2, a2⟩
        · refine .inl ⟨ps ++ [m], hp.snoc, ?_⟩
          have e2 : turned (sw' ++ [v]) (ps ++ [m]) = turned sw' ps ^^^ v := by
            rw [turned_snoc, ← hm, getD_last]
            unfold turned
            rw [turned_front fun i hi => by rw [hm]; exact hp.lt i hi]
          rw [e2, Nat.xor_comm (turned sw' ps) v, ← Nat.xor_assoc]
          exact e
        · rw [odd_xor] at o2
          have all : ∀ y, odd y v = false → (∀ a ∈ sw', odd y a = false) → ∀ a ∈ sw' ++ [v], odd y a = false := fun y hv ha a hm => by
            rcases List.mem_append.mp hm with h | h
            · exact ha a h
            · rw [List.mem_singleton.mp h]
              exact hv
          cases v1 : odd y1 v with
          | false => exact .inr ⟨y1, s1, o1, all y1 v1 a1⟩
          | true =>
            cases v2 : odd y2 v with
            | false =>
              rw [v2] at o2
              exact .inr ⟨y2, s2, by simpa using o2, all y2 v2 a2⟩
            | true =>
              rw [v2] at o2
              have o2' : odd y2 t = false := by simpa using o2
              refine .inr ⟨y1 ^^^ y2, ?_, by rw [odd_xor_left, o1, o2']; rfl, all _ (by rw [odd_xor_left, v1, v2]; rfl) fun a ha => by rw [odd_xor_left, a1 a ha, a2 a ha]; rfl⟩
              rw [Nat.and_xor_distrib_right, s1, s2]
end Sw
set_option maxHeartbeats 4000000
namespace Sw
open PySem L2
abbrev sPressesOf : Stmt := top 18
def spPressesOf (C : Addr) : Sp := fun vs H Q _ => ∃ (p : Addr) (n : Nat) (sw : List Nat), vs = [.ref p] ∧ HouseAt C H p n sw ∧ sw.length ≤ 8 ∧
  ∀ (q : Addr) (es : List (Addr × List Nat)) H', Same H H' → H q = none → H' q = some (.lst (es.map fun e => V.ref e.1)) → (∀ e ∈ es, H e.1 = none ∧ e.1 ≠ q ∧ H' e.1 = some (.lst (e.2.map nv))) → es.map (·.2) = presses sw.length → Q (.ref q) H'
section
variable {P : Program} {w : World} {K : PySem.W.Frag} {mg : Str → Option Value} {base : Heap} {C : Addr}
abbrev NPO : List Str := ["house", "found", "at"]
theorem scPO : FnScope NPO ["house"] (defScope sPressesOf) := ⟨rfl, rfl, rfl, by decide +kernel, rfl, by decide +kernel, by decide +kernel⟩
def compPO : Scope := match (defBody sPressesOf).getD 1 (.Pass ⟨0, 0, 0, 0⟩) with
  | .For _ _ body _ _ => (match body.getD 0 (.Pass ⟨0, 0, 0, 0⟩) with
    | .Assign _ (.BinOp _ _ (.ListComp _ _ sc _) _) _ => sc
    | _ => defScope sPressesOf)
  | _ => defScope sPressesOf
theorem csPO : CompScope (defScope sPressesOf) compPO NPO "press" [2] ["at"] := ⟨rfl, by decide +kernel, by decide +kernel, by decide +kernel, by decide +kernel, by decide +kernel, by decide +kernel, by decide +kernel⟩
theorem ok_pressesOf {f : Addr} {fd : FuncData} (F : Fun K "presses_of" "presses_of" sPressesOf f fd) (T : Txt K mg C) (FS : FSw P w K mg base C) (sorted : mg "sorted" = none) : FnOk P w K mg base CX0 2 f fd ["house"] (spPressesOf C) := by
  refine F.ok scPO (fun vs H Q E h => ?_) (fun cdv A outer s H vs Q E hr h => ?_)
  · obtain ⟨p, n, sw, rfl, _⟩ := h
    rfl
  · obtain ⟨p, n, sw, rfl, hh, h8, k⟩ := h
    obtain ⟨dx, u0, h1, h2⟩ := hh.ob
    have hu := hr.units
    refine ⟨_, pss_cons (ps_set (i := 1) scPO.nd rfl (Or.inl rfl) (pe_lst (pa_cons (pe_lst pa_nil) pa_nil)))
      (pss_cons (ps_for PassesOwn.never rfl (pi_range1 rfl T.range (pa_cons (pe_callB call_len_seq rfl T.len PySem.boot_len (pa_cons (pe_mt0 FS T.cl hr (pv 0)) pa_nil)) pa_nil)) (pg_name (i := 2) scPO.nd rfl (Or.inr rfl))
        (pss_one (ps_set (i := 1) scPO.nd rfl (Or.inl rfl) (pe_op op_cat (pv 1) (pe_comp rfl csPO (pi_list (pv 1)) (fun _ _ _ _ => pts_nil) (fun _ _ _ _ => pe_op op_cat (pv 0) (pe_lst (pa_cons (pv 1) pa_nil))))))))
      (pss_one (ps_ret (pe_callB (call_sortedLL (Nat.lt_of_le_of_lt (Nat.add_le_add_left (by decide : 2 ≤ 64) _) hu)) rfl sorted PyProof.Rows.boot_sorted (pa_cons (pv 1) pa_nil))))), ?_⟩
    refine ⟨Nat.zero_le _, fun e0 he0 => ⟨by show 1 ≤ sizeLine; decide, fun q0 hq0 => ?_⟩⟩
    have hne : e0 ≠ q0 := fun z => by rw [z, upd_same] at hq0; cases hq0
    have hq0' : H q0 = none := by rw [← hq0, upd_ne (Ne.symm hne)]
    have sm : Same H (upd (upd H e0 (.lst [])) q0 (.lst [.ref e0])) := (same_upd he0).trans (same_upd hq0)
    refine ⟨_, rfl, p, dx, _, rfl, sm _ _ h1, sw_no n u0, p, n, sw, rfl, hh.same sm, fun fl hfl => ⟨fl, _, rfl, .inl (SqL.of upd_same), ?_⟩⟩
    have sm2 := sm.trans (same_upd (o := .lst (sw.map nv)) hfl)
    have nq : q0 ≠ fl := ne_of_none (H := upd (upd H e0 (.lst [])) q0 (.lst [.ref e0])) upd_same hfl
    have ne : e0 ≠ fl := ne_of_none (H := upd (upd H e0 (.lst [])) q0 (.lst [.ref e0])) (by rw [upd_ne hne]; exact upd_same) hfl
    have hlen : ((sw.map nv).length : Int).toNat = sw.length := by rw [List.length_map]; omega
    have hln : (sw.map nv).length = sw.length := List.length_map _
    refine ⟨_, rfl, by omega, by omega, for_range (n := ((sw.map nv).length : Int).toNat) (fun i σ H' => ∃ (q : Addr) (es : List (Addr × List Nat)) (v : Option V), σ = [some (.ref p), some (.ref q), v] ∧ i ≤ sw.length ∧ Pres H H' q es ∧ es.map (·.2) = subs i)
      ⟨q0, [(e0, [])], none, rfl, Nat.zero_le _, ⟨sm2, hq0', (by rw [upd_ne nq]; exact upd_same), fun e he => ?_⟩, rfl⟩ ?_ ?_⟩
    · have : e = (e0, []) := by simpa using he
      subst this
      exact ⟨he0, hne, by rw [upd_ne ne, upd_ne hne, upd_same]; rfl⟩
    · rintro i σ H' hi ⟨q, es, v, rfl, _, pr, hes⟩
      have hel : es.length = 2 ^ i := by rw [← length_subs i, ← hes, List.length_map]
      have hil : i < sw.length := by omega
      have h256 : es.length ≤ 256 := by rw [hel]; exact Nat.pow_le_pow_right (by decide) (show i ≤ 8 by omega)
      have ei : (0 : Int) + (i : Int) = ((i : Nat) : Int) := by omega
      rw [ei]
      refine ⟨_, rfl, _, rfl, q, rfl, ⟨_, SqL.of pr.q1⟩, fun acc hacc => comp_list (K := K) (a := q) (xs := es.map fun e => V.ref e.1)
        (fun j ys Hc => j ≤ es.length ∧ ∃ fs : List (Addr × List Nat), ys = fs.map (fun e => V.ref e.1) ∧ fs.map (·.2) = (es.take j).map (fun e => e.2 ++ [i]) ∧ Same H' Hc ∧ Hc acc = some (.lst ys) ∧ ∀ e ∈ fs, H' e.1 = none ∧ e.1 ≠ acc ∧ Hc e.1 = some (.lst (e.2.map nv)))
        ⟨Nat.zero_le _, [], rfl, rfl, same_upd hacc, upd_same, fun _ z => nomatch z⟩ ?_ ?_ ?_⟩
      · rintro j ys Hc ⟨hj, fs, _, _, sm', _⟩
        exact ⟨by rw [List.length_map]; exact hj, SqL.of (sm' _ _ pr.q1)⟩
      · rintro j x ys Hc hx ⟨hj, fs, rfl, hfs, sm', hacc', hall⟩
        rw [List.getElem?_map] at hx
        cases ee : es[j]? with
        | none => rw [ee] at hx; cases hx
        | some e =>
          rw [ee] at hx
          cases hx
          have hem : e ∈ es := List.mem_of_getElem? ee
          have hjl : j < es.length := (List.getElem?_eq_some_iff.mp ee).1
          have hfl : fs.length = j := by
            have := congrArg List.length hfs
            rw [List.length_map, List.length_map, List.length_take] at this
            omega
          have he1 := sm' _ _ (pr.all e hem).2.2
          refine tTrue_mk ?_
          refine iteT ?_
          refine ⟨_, rfl, _, rfl, by show 1 ≤ sizeLine; decide, fun t ht => ?_⟩
          have s7 : Same Hc (upd Hc t (.lst [nv i])) := same_upd ht
          have h8' : e.2.length ≤ i := len_subs (by rw [← hes]; exact List.mem_map_of_mem hem)
          refine ⟨e.1, t, _, _, rfl, rfl, s7 _ _ he1, upd_same, ?_, fun r hr' => ?_⟩
          · rw [List.length_map]
            exact Nat.le_of_lt (small9 (by show e.2.length + 1 ≤ 100; omega))
          · have s8 := s7.trans (same_upd (o := .lst (e.2.map nv ++ [nv i])) hr')
            refine ⟨s8 _ _ hacc', ?_, hjl, fs ++ [(r, e.2 ++ [i])], by rw [List.map_append]; rfl, ?_, fun b o eb => ?_, upd_same, fun g hg => ?_⟩
            · rw [List.length_map]
              exact small1000 (by omega)
            · rw [List.map_append, hfs, List.take_add_one, ee, List.map_append]
              rfl
            · rw [upd_ne (ne_of_none eb hacc)]
              exact s8 _ _ (sm' _ _ eb)
            · rcases List.mem_append.mp hg with hg | hg
              · obtain ⟨h1, h2, h3⟩ := hall g hg
                exact ⟨h1, h2, by rw [upd_ne h2]; exact s8 _ _ h3⟩
              · have : g = (r, e.2 ++ [i]) := by simpa using hg
                subst this
                have hra : r ≠ acc := Ne.symm (ne_of_none (s7 _ _ hacc') hr')
                refine ⟨(sm'.trans s7).free hr', hra, ?_⟩
                rw [upd_ne hra, upd_same, List.map_append]
                rfl
      · rintro ys Hc ⟨hj, fs, rfl, hfs, sm', hacc', hall⟩
        rw [List.length_map, List.take_length] at hfs
        have hfl : fs.length = es.length := by
          have := congrArg List.length hfs
          rw [List.length_map, List.length_map] at this
          exact this
        refine ⟨q, acc, _, _, rfl, rfl, sm' _ _ pr.q1, hacc', ?_, fun r hr' => ⟨r, es ++ fs, _, rfl, hil, ⟨(pr.same.trans sm').trans (same_upd hr'), (pr.same.trans sm').free hr', ?_, fun g hg => ?_⟩, ?_⟩⟩
        · rw [List.length_map, List.length_map]
          exact Nat.le_of_lt (small1000 (by omega))
        · rw [List.map_append]
          exact upd_same
        · rcases List.mem_append.mp hg with hg | hg
          · obtain ⟨h1, h2, h3⟩ := pr.all g hg
            have hgr := ne_of_none (sm' _ _ h3) hr'
            exact ⟨h1, hgr, by rw [upd_ne hgr]; exact sm' _ _ h3⟩
          · obtain ⟨h1, h2, h3⟩ := hall g hg
            have hgr := ne_of_none h3 hr'
            exact ⟨pr.same.free h1, hgr, by rw [upd_ne hgr]; exact h3⟩
        · rw [List.map_append, hfs]
          show es.map (·.2) ++ _ = subs i ++ (subs i).map fun a => a ++ [i]
          rw [← hes, List.map_map]
          rfl
    · rintro σ H' ⟨q, es, v, rfl, _, pr, hes⟩
      rw [hlen] at hes
      refine ⟨_, rfl, q, es.map (fun e => (e.1, castL e.2)), rfl, SqL.of (by rw [List.map_map]; exact pr.q1), fun e he => ?_, fun l' qs hl' hp' hs' => ?_⟩
      · obtain ⟨e', he', rfl⟩ := List.mem_map.mp he
        exact SqL.of (by rw [castL_nv]; exact (pr.all e' he').2.2)
      · obtain ⟨es', hp'', rfl⟩ := perm_of_map _ hp' es rfl
        refine k l' es' _ (pr.same.trans (same_upd hl')) (pr.same.free hl') (by rw [List.map_map]; exact upd_same) (fun e he => ?_) ?_
        · obtain ⟨h1, h2, h3⟩ := pr.all e (hp''.mem_iff.mp he)
          have hg := ne_of_none h3 hl'
          exact ⟨h1, hg, by rw [upd_ne hg]; exact h3⟩
        · refine presses_eq (by rw [← hes]; exact hp''.map _) (List.pairwise_map.mpr ((List.pairwise_map.mp hs').imp fun {a b} h => leN_of.mpr h))
end
end Sw
namespace Sw
open PySem L2
abbrev sRefuse : Stmt := top 17
abbrev sAll : Stmt := top 19
abbrev sTelling : Stmt := top 20
def NAsk : List Str := ["house", "state", "wish", "asked"]
def spRefuse (C : Addr) : Sp := fun vs H Q _ => ∃ (p : Addr) (n : Nat) (sw : List Nat) (st wi as : Nat), vs = [.ref p, nv st, nv wi, nv as] ∧ HouseAt C H p n sw ∧ n ≤ 10 ∧ st < 2 ^ n ∧ wi < 2 ^ n ∧ as < 2 ^ n ∧ ∀ H', Same H H' → Q .non H'
def due (sw : List Nat) (st wi as : Nat) : List (List Nat) := (presses sw.length).filter fun ps => bringsB sw (castL ps) st wi as
def spAll (C : Addr) : Sp := fun vs H Q _ => ∃ (p : Addr) (n : Nat) (sw : List Nat) (st wi as : Nat), vs = [.ref p, nv st, nv wi, nv as] ∧ HouseAt C H p n sw ∧ Good n sw ∧ st < 2 ^ n ∧ wi < 2 ^ n ∧ as < 2 ^ n ∧
  ∀ (q : Addr) (es : List (Addr × List Nat)) H', Same H H' → H q = none → H' q = some (.lst (es.map fun e => V.ref e.1)) → (∀ e ∈ es, H e.1 = none ∧ e.1 ≠ q ∧ H' e.1 = some (.lst (e.2.map nv))) → es.map (·.2) = due sw st wi as → Q (.ref q) H'
def spTelling (C CP CE : Addr) : Sp := fun vs H Q _ => ∃ (p : Addr) (n : Nat) (sw : List Nat) (st wi as : Nat), vs = [.ref p, nv st, nv wi, nv as] ∧ HouseAt C H p n sw ∧ Good n sw ∧ st < 2 ^ n ∧ wi < 2 ^ n ∧ as < 2 ^ n ∧
  (∀ (x u : Addr) (ps : List Nat) H', Same H H' → H x = none → H u = none → PressAt CP H' x u (ps.map nv) → ps ∈ due sw st wi as → (∀ qs ∈ due sw st wi as, ps.length ≤ qs.length) → Q (.ref x) H') ∧
  (∀ (x : Addr) (z : Nat) H', Same H H' → H x = none → EvenAt CE H' x (nv z) → barsB sw z st wi as = true → due sw st wi as = [] → Q (.ref x) H')
theorem len_presses (m : Nat) : (presses m).length = 2 ^ m := by rw [(perm_presses m).length_eq, length_subs]
theorem len256 {m : Nat} (h : m ≤ 8) : (presses m).length ≤ 256 := by
  rw [len_presses]
  exact Nat.pow_le_pow_right (by decide) h
theorem sub_le {z as : Nat} (h : z &&& as = z) : z ≤ as := by
  rw [← h]
  exact Nat.and_le_right
theorem bars_of {sw : List Nat} {st wi as : Nat} (h : due sw st wi as = []) : ∃ z, z ≤ as ∧ barsB sw z st wi as = true := by
  rcases one_of sw (st ^^^ wi) as with ⟨ps, hp, e⟩ | ⟨y, h1, h2, h3⟩
  · have hm : ps ∈ due sw st wi as := by
      refine List.mem_filter.mpr ⟨mem_presses.mpr hp, ?_⟩
      unfold bringsB
      rw [castL_nv, press_ok hp, castL_toNat, Bool.true_and, decide_eq_true]
      rw [← e, Nat.xor_assoc st, Nat.xor_comm _ wi, ← Nat.xor_assoc]
    rw [h] at hm
    cases hm
  · refine ⟨y, sub_le h1, ?_⟩
    unfold barsB
    rw [decide_eq_true h1, Bool.true_and, Bool.and_eq_true]
    refine ⟨List.all_eq_true.mpr fun t ht => ?_, h2⟩
    have := h3 t ht
    unfold odd at this
    unfold oddB
    rw [this]
    rfl
section
variable {P : Program} {w : World} {K : PySem.W.Frag} {mg : Str → Option Value} {base : Heap} {C CP CE : Addr}
theorem scRf : FnScope ["house", "state", "wish", "asked", "lamps"] ["house", "state", "wish", "asked"] (defScope sRefuse) := ⟨rfl, rfl, rfl, by decide +kernel, rfl, by decide +kernel, by decide +kernel⟩
theorem ok_refuse {f : Addr} {fd : FuncData} (F : Fun K "refuse_wrong_lamps" "refuse_wrong_lamps" sRefuse f fd) (T : Txt K mg C) (FA : FnAt P w K mg base "are_lamps" 2 ["count", "value"] (spAreLamps K)) :
    FnOk P w K mg base CX0 3 f fd ["house", "state", "wish", "asked"] (spRefuse C) := by
  refine F.ok scRf (fun vs H Q E h => ?_) (fun cdv A outer s H vs Q E hr h => ?_)
  · obtain ⟨p, n, sw, st, wi, as, rfl, _⟩ := h
    rfl
  · obtain ⟨p, n, sw, st, wi, as, rfl, hh, h10, h1, h2, h3, k⟩ := h
    obtain ⟨dx, u, hp, hw⟩ := hh.ob
    refine ⟨_, pss_one (ps_for PassesOwn.never rfl (pi_tup (pe_tup (pa_cons (pv 1) (pa_cons (pv 2) (pa_cons (pv 3) pa_nil))))) (pg_name (i := 4) scRf.nd rfl (Or.inl rfl))
      (pss_one (ps_if (pt_not (pt_val (pe_fn FA hr (pa_cons (pe_fld (pv 0) rfl) (pa_cons (pv 4) pa_nil))))) pss_never pss_nil))), ?_⟩
    refine ⟨_, rfl, _, rfl, _, rfl, by show 3 ≤ sizeLine; decide, fun t ht => ?_⟩
    have s1 : Same H (upd H t (.tup [nv st, nv wi, nv as])) := same_upd ht
    refine ⟨t, rfl, ⟨_, SqT.of upd_same⟩, for_tup (K := K) (a := t) (xs := [nv st, nv wi, nv as]) (fun i σ H' => ∃ v, σ = [some (.ref p), some (nv st), some (nv wi), some (nv as), v] ∧ H' = upd H t (.tup [nv st, nv wi, nv as])) ⟨none, rfl, rfl⟩ ?_ ?_ ?_⟩
    · rintro i σ H' _ ⟨v, _, rfl⟩
      exact SqT.of upd_same
    · rintro i x σ H' hx ⟨v, rfl, rfl⟩
      obtain ⟨z, hz, rfl⟩ : ∃ z, z < 2 ^ n ∧ x = nv z := by
        have := List.mem_of_getElem? hx
        rcases List.mem_cons.mp this with rfl | this
        · exact ⟨st, h1, rfl⟩
        rcases List.mem_cons.mp this with rfl | this
        · exact ⟨wi, h2, rfl⟩
        have : x = nv as := by simpa using this
        exact ⟨as, h3, this⟩
      refine ⟨_, rfl, p, C, dx, _, _, rfl, s1 _ _ hp, T.cl, T.nL, flds_lamps n u, _, rfl, n, nv z, _, true, false, rfl, by omega, kind_int K _ z, fun _ => ⟨z, rfl, _, rfl, ?_⟩, fun z => by cases z⟩
      refine iteB (by rw [lamps_ok hz]; rfl) ?_
      exact ⟨_, rfl, rfl⟩
    · rintro σ H' ⟨v, rfl, rfl⟩
      exact k _ s1
def compAl : Scope := match (defBody sAll).getD 1 (.Pass ⟨0, 0, 0, 0⟩) with
  | .Return (some (.ListComp _ _ sc _)) _ => sc
  | _ => defScope sAll
theorem scAl : FnScope ["house", "state", "wish", "asked"] ["house", "state", "wish", "asked"] (defScope sAll) := ⟨rfl, rfl, rfl, by decide +kernel, rfl, by decide +kernel, by decide +kernel⟩
theorem csAl : CompScope (defScope sAll) compAl ["house", "state", "wish", "asked"] "press" [3, 0, 1, 2] ["asked", "house", "state", "wish"] := ⟨rfl, by decide +kernel, by decide +kernel, by decide +kernel, by decide +kernel, by decide +kernel, by decide +kernel, by decide +kernel⟩
theorem take_filter_snoc {α : Type} {xs : List α} {i : Nat} {a : α} {f : α → Bool} (h : xs[i]? = some a) : (xs.take (i + 1)).filter f = (xs.take i).filter f ++ (if f a = true then [a] else []) := by
  rw [List.take_add_one, h, List.filter_append]
  cases e : f a <;> simp [e]
theorem ref_get {es : List (Addr × List Nat)} {i : Nat} {x : V} (h : (es.map fun e => V.ref e.1)[i]? = some x) : ∃ e, es[i]? = some e ∧ x = .ref e.1 := by
  rw [List.getElem?_map] at h
  cases e : es[i]? with
  | none => rw [e] at h; cases h
  | some a => rw [e] at h; exact ⟨a, rfl, (Option.some.inj h).symm⟩
theorem ok_all {f : Addr} {fd : FuncData} (F : Fun K "all_presses" "all_presses" sAll f fd) (TA : TxtA K mg CP CE) (FR : FnAt P w K mg base "refuse_wrong_lamps" 3 ["house", "state", "wish", "asked"] (spRefuse C)) (FPO : FnAt P w K mg base "presses_of" 2 ["house"] (spPressesOf C))
    (MP : MkAt P w K mg base "Press" CP 1 ["self", "press"] (spPInit CP)) (FBr : MethAt P w K mg base CP "brings" 3 ["self", "house", "state", "wish", "asked"] (spBrings CP C)) :
    FnOk P w K mg base CX0 5 f fd ["house", "state", "wish", "asked"] (spAll C) := by
  refine F.ok scAl (fun vs H Q E h => ?_) (fun cdv A outer s H vs Q E hr h => ?_)
  · obtain ⟨p, n, sw, st, wi, as, rfl, _⟩ := h
    rfl
  · obtain ⟨p, n, sw, st, wi, as, rfl, hh, g, h1, h2, h3, k⟩ := h
    refine ⟨_, pss_cons (ps_expr (pe_fn FR hr (pa_cons (pv 0) (pa_cons (pv 1) (pa_cons (pv 2) (pa_cons (pv 3) pa_nil))))))
      (pss_one (ps_ret (pe_comp rfl csAl (pi_list (pe_fn FPO hr (pa_cons (pv 0) pa_nil)))
        (fun _ _ _ _ => pts_one (pt_val (pe_mt FBr TA.clP hr (pe_mk MP hr (pa_cons (pv 0) pa_nil)) (pa_cons (pv 2) (pa_cons (pv 3) (pa_cons (pv 4) (pa_cons (pv 1) pa_nil))))))) (fun _ _ _ _ => pv 0)))), ?_⟩
    refine ⟨_, rfl, _, rfl, _, rfl, _, rfl, p, n, sw, st, wi, as, rfl, hh, g.n10, h1, h2, h3, fun H1 s1 => ?_⟩
    refine ⟨_, rfl, p, n, sw, rfl, hh.same s1, g.s8, fun q0 es H2 s2 nq0 hq0 hes hp => ?_⟩
    have hel : es.length ≤ 256 := by
      have := congrArg List.length hp
      rw [List.length_map] at this
      rw [this]
      exact len256 g.s8
    have hh2 := (hh.same s1).same s2
    refine ⟨q0, rfl, ⟨_, SqL.of hq0⟩, fun acc hacc => comp_list (K := K) (a := q0) (xs := es.map fun e => V.ref e.1)
      (fun i ys Hc => i ≤ es.length ∧ ys = ((es.take i).filter fun e => bringsB sw (castL e.2) st wi as).map (fun e => V.ref e.1) ∧ Same H2 Hc ∧ Hc acc = some (.lst ys)) ⟨Nat.zero_le _, rfl, same_upd hacc, upd_same⟩ ?_ ?_ ?_⟩
    · rintro i ys Hc ⟨hi, _, sc, _⟩
      exact ⟨by rw [List.length_map]; exact hi, SqL.of (sc _ _ hq0)⟩
    · rintro i x ys Hc hx ⟨hi, rfl, sc, hac⟩
      obtain ⟨e, he, rfl⟩ := ref_get hx
      have hilt : i < es.length := (List.getElem?_eq_some_iff.mp he).1
      have hem := List.mem_of_getElem? he
      have hel1 := sc _ _ (hes e hem).2.2
      refine ⟨_, rfl, fun x dx nx ndx nex => make_press nx ndx nex hel1 fun u H3 nu hx s3 => ⟨rfl, ?_⟩⟩
      obtain ⟨dx, hx1, hu1⟩ := hx.ob
      rw [← castL_nv] at hx
      refine ⟨x, dx, _, rfl, hx1, fldP_no _ (by decide +kernel), _, rfl, _, rfl, _, rfl, _, rfl, x, u, p, n, sw, castL e.2, st, wi, as, rfl, hx, (hh2.same sc).same s3, g.s8, fun H4 s4 => ⟨_, rfl, ?_⟩⟩
      have s34 := s3.trans s4
      have fl : (((es.take i).filter fun e => bringsB sw (castL e.2) st wi as).map fun e => V.ref e.1).length ≤ es.length := by
        rw [List.length_map]
        exact Nat.le_trans (List.length_filter_le _ _) (by rw [List.length_take]; omega)
      refine ite2 (fun hb => ?_) (fun hb => ?_)
      · refine ⟨_, rfl, s34 _ _ hac, small1000 (by omega), hilt, ?_, fun b o eb => ?_, upd_same⟩
        · rw [take_filter_snoc he, if_pos hb, List.map_append]
          rfl
        · rw [upd_ne (ne_of_none eb hacc)]
          exact s34 _ _ (sc _ _ eb)
      · refine ⟨hilt, ?_, sc.trans s34, s34 _ _ hac⟩
        rw [take_filter_snoc he, if_neg hb, List.append_nil]
    · rintro ys Hc ⟨_, rfl, sc, hac⟩
      rw [List.length_map, List.take_length] at hac
      refine k acc (es.filter fun e => bringsB sw (castL e.2) st wi as) Hc ((s1.trans s2).trans sc) ((s1.trans s2).free hacc) hac (fun e he => ?_) ?_
      · have hem := (List.mem_filter.mp he).1
        obtain ⟨z1, z2, z3⟩ := hes e hem
        exact ⟨s1.free z1, ne_of_none z3 hacc, sc _ _ z3⟩
      · unfold due
        rw [← hp, List.filter_map]
        rfl
def compTe : Scope := match (defBody sTelling).getD 2 (.Pass ⟨0, 0, 0, 0⟩) with
  | .Return (some (.Call _ [.Call _ [.ListComp _ _ sc _] _ _] _ _)) _ => sc
  | _ => defScope sTelling
abbrev NTe : List Str := ["house", "state", "wish", "asked", "found"]
theorem scTe : FnScope NTe ["house", "state", "wish", "asked"] (defScope sTelling) := ⟨rfl, rfl, rfl, by decide +kernel, rfl, by decide +kernel, by decide +kernel⟩
theorem csTe : CompScope (defScope sTelling) compTe NTe "lamps" [3, 0, 1, 2] ["asked", "house", "state", "wish"] := ⟨rfl, by decide +kernel, by decide +kernel, by decide +kernel, by decide +kernel, by decide +kernel, by decide +kernel, by decide +kernel⟩
theorem ok_telling {f : Addr} {fd : FuncData} (F : Fun K "telling" "telling" sTelling f fd) (T : Txt K mg C) (TA : TxtA K mg CP CE) (min : mg "min" = none) (FA : FnAt P w K mg base "all_presses" 5 ["house", "state", "wish", "asked"] (spAll C))
    (MP : MkAt P w K mg base "Press" CP 1 ["self", "press"] (spPInit CP)) (ME : MkAt P w K mg base "Even" CE 1 ["self", "lamps"] (spEInit CE)) (FBa : MethAt P w K mg base CE "bars" 2 ["self", "house", "state", "wish", "asked"] (spBars CE C)) :
    FnOk P w K mg base CX0 6 f fd ["house", "state", "wish", "asked"] (spTelling C CP CE) := by
  refine F.ok scTe (fun vs H Q E h => ?_) (fun cdv A outer s H vs Q E hr h => ?_)
  · obtain ⟨p, n, sw, st, wi, as, rfl, _⟩ := h
    rfl
  · obtain ⟨p, n, sw, st, wi, as, rfl, hh, g, h1, h2, h3, kP, kE⟩ := h
    refine ⟨_, pss_cons (ps_set (i := 4) scTe.nd rfl (Or.inl rfl) (pe_fn FA hr (pa_cons (pv 0) (pa_cons (pv 1) (pa_cons (pv 2) (pa_cons (pv 3) pa_nil))))))
      (pss_cons (ps_if (pt_cmpR op_gt (pe_callB call_len_seq rfl T.len PySem.boot_len (pa_cons (pv 4) pa_nil)) pe_int (nomark _)) (pss_one (ps_ret (pe_mk MP hr (pa_cons (pe_minLen rfl min T.len (pv 4)) pa_nil)))) pss_nil)
      (pss_one (ps_ret (pe_mk ME hr (pa_cons (pe_callB (call_minL rfl) rfl min PyProof.Rows.boot_min (pa_cons (pe_comp rfl csTe (pi_range1 rfl T.range (pa_cons (pe_op op_add (pv 3) pe_int) pa_nil))
        (fun _ _ _ _ => pts_one (pt_val (pe_mt FBa TA.clE hr (pe_mk ME hr (pa_cons (pv 0) pa_nil)) (pa_cons (pv 2) (pa_cons (pv 3) (pa_cons (pv 4) (pa_cons (pv 1) pa_nil))))))) (fun _ _ _ _ => pv 0)) pa_nil)) pa_nil))))), ?_⟩
    refine ⟨_, rfl, _, rfl, _, rfl, _, rfl, p, n, sw, st, wi, as, rfl, hh, g, h1, h2, h3, fun q es H1 s1 nq hq hes hdue => ?_⟩
    refine ⟨_, rfl, q, _, rfl, .inl (SqL.of hq), _, _, rfl, rfl, _, rfl, ?_⟩
    rw [List.length_map]
    refine ite2 (fun hl => ?_) (fun hl => ?_)
    · have hl' : (0 : Int) < (es.length : Int) := of_decide_eq_true hl
      refine ⟨_, rfl, q, es.map (fun e => (e.1, e.2.map nv)), rfl, SqL.of (by rw [List.map_map]; exact hq), fun e he => ?_, ?_, fun e he hmin => ?_⟩
      · obtain ⟨e', he', rfl⟩ := List.mem_map.mp he
        exact SqL.of (hes e' he').2.2
      · intro z
        rw [List.map_eq_nil_iff] at z
        rw [z] at hl'
        exact absurd hl' (by decide)
      · obtain ⟨e', he', rfl⟩ := List.mem_map.mp he
        refine fun x dx nx ndx nex => make_press nx ndx nex (hes e' he').2.2 fun u H3 nu hx s3 => ⟨rfl, kP x u e'.2 H3 (s1.trans s3) (s1.free nx) (s1.free nu) hx (by rw [← hdue]; exact List.mem_map_of_mem he') fun qs hqs => ?_⟩
        rw [← hdue] at hqs
        obtain ⟨e2, he2, rfl⟩ := List.mem_map.mp hqs
        have := hmin (e2.1, e2.2.map nv) (List.mem_map_of_mem (f := fun e : Addr × List Nat => (e.1, e.2.map nv)) he2)
        simpa using this
    · have hl' : ¬ (0 : Int) < (es.length : Int) := fun z => hl (decide_eq_true z)
      have hes0 : es = [] := List.length_eq_zero_iff.mp (by omega)
      have hd0 : due sw st wi as = [] := by rw [← hdue, hes0]; rfl
      obtain ⟨z0, hz0, hb0⟩ := bars_of hd0
      have hh1 := hh.same s1
      refine ⟨_, rfl, _, _, rfl, rfl, _, rfl, by omega, by have := Nat.pow_le_pow_right (show 0 < 2 by decide) g.n10; omega, fun acc hacc =>
          comp_range (fun i ys Hc => i ≤ as + 1 ∧ ys = (((List.range i).filter fun z => barsB sw z st wi as).map nv) ∧ Same H1 Hc ∧ Hc acc = some (.lst ys)) ⟨Nat.zero_le _, rfl, same_upd hacc, upd_same⟩ ?_ ?_ ?_⟩
      · rintro i ys Hc ⟨hi, _⟩
        omega
      · rintro i ys Hc hi ⟨hi2, rfl, sc, hac⟩
        have hi3 : i < as + 1 := by omega
        have e0 : (0 : Int) + (i : Int) = ((i : Nat) : Int) := by omega
        rw [e0]
        refine ⟨_, rfl, fun x dx nx ndx nex => make_even nx ndx nex fun H3 hx s3 => ⟨rfl, ?_⟩⟩
        obtain ⟨dx, hx1⟩ := hx.ob
        refine ⟨x, dx, _, rfl, hx1, fldE_no _ (by decide +kernel), _, rfl, _, rfl, _, rfl, _, rfl, x, p, n, sw, i, st, wi, as, rfl, hx, (hh1.same sc).same s3, fun H4 s4 => ⟨_, rfl, ?_⟩⟩
        have s34 := s3.trans s4
        have fl : (((List.range i).filter fun z => barsB sw z st wi as).map nv).length ≤ i := by
          rw [List.length_map]
          exact Nat.le_trans (List.length_filter_le _ _) (by rw [List.length_range]; omega)
        refine ite2 (fun hb => ?_) (fun hb => ?_)
        · refine ⟨_, rfl, s34 _ _ hac, ?_, hi3, ?_, fun b o eb => ?_, upd_same⟩
          · have := Nat.pow_le_pow_right (show 0 < 2 by decide) g.n10
            have : (2 : Nat) ^ 10 = 1024 := by decide
            exact Nat.lt_of_le_of_lt (Nat.le_trans fl (show i ≤ 1024 by omega)) (by decide)
          · rw [List.range_succ, List.filter_append, List.map_append]
            simp [hb]
          · rw [upd_ne (ne_of_none eb hacc)]
            exact s34 _ _ (sc _ _ eb)
        · refine ⟨hi3, ?_, sc.trans s34, s34 _ _ hac⟩
          rw [List.range_succ, List.filter_append, List.map_append]
          have hb' : barsB sw i st wi as = false := by simpa using hb
          simp [hb']
      · rintro ys Hc ⟨_, rfl, sc, hac⟩
        have e1 : ((as : Int) + 1).toNat = as + 1 := by omega
        rw [e1] at hac
        have z0m : z0 ∈ (List.range (as + 1)).filter fun z => barsB sw z st wi as := List.mem_filter.mpr ⟨List.mem_range.mpr (by omega), hb0⟩
        refine ⟨acc, castL ((List.range (as + 1)).filter fun z => barsB sw z st wi as), rfl, SqL.of (by rw [castL_nv]; exact hac), ?_, fun m hm _ => ?_⟩
        · intro z
          have : (List.range (as + 1)).filter (fun z => barsB sw z st wi as) = [] := castL_inj z
          rw [this] at z0m
          cases z0m
        · obtain ⟨z, hz, rfl⟩ := List.mem_map.mp hm
          refine fun x dx nx ndx nex => make_even nx ndx nex fun H3 hx s3 => ⟨rfl, kE x z H3 ((s1.trans sc).trans s3) ((s1.trans sc).free nx) hx (List.mem_filter.mp hz).2 hd0⟩
end
end Sw
set_option maxHeartbeats 4000000
namespace Sw
open PySem L2
structure TxtI (K : PySem.W.Frag) (mg : Str → Option Value) (CA CP CE : Addr) : Prop where
  mA : mg "Answer" = some (.ref CA)
  mP : mg "Press" = some (.ref CP)
  mE : mg "Even" = some (.ref CE)
  tyP : ∀ {H : Hp} {a dx : Addr} {fs : List (Str × V)}, H a = some (.ins CP dx fs) → TyOf K H (.ref a) (.ref CP)
  tyE : ∀ {H : Hp} {a dx : Addr} {fs : List (Str × V)}, H a = some (.ins CE dx fs) → TyOf K H (.ref a) (.ref CE)
  pa : PySem.W.kitOne K (.ref CP) (.ref CA) = some true
  pp : PySem.W.kitOne K (.ref CP) (.ref CP) = some true
  pe : PySem.W.kitOne K (.ref CP) (.ref CE) = some false
  ea : PySem.W.kitOne K (.ref CE) (.ref CA) = some true
  ep : PySem.W.kitOne K (.ref CE) (.ref CP) = some false
  ee : PySem.W.kitOne K (.ref CE) (.ref CE) = some true
inductive Ans where
  | pr (u : Addr) (ps : List Nat)
  | ev (z : Nat)
def AnsAt (CP CE : Addr) (H : Hp) (x : Addr) : Ans → Prop
  | .pr u ps => PressAt CP H x u (ps.map nv)
  | .ev z => EvenAt CE H x (nv z)
def word (sw : List Nat) (st wi as : Nat) : Ans → Bool
  | .pr _ ps => bringsB sw (castL ps) st wi as
  | .ev z => barsB sw z st wi as
theorem AnsAt.same {CP CE : Addr} {H H' : Hp} {x : Addr} : ∀ {an : Ans}, AnsAt CP CE H x an → Same H H' → AnsAt CP CE H' x an
  | .pr _ _, h, s => PressAt.same h s
  | .ev _, h, s => EvenAt.same h s
def OkAns (m : Nat) : Ans → Prop
  | .pr _ ps => Press ps m
  | .ev _ => True
theorem brings_press {sw ps : List Nat} {st wi as : Nat} (h : Press ps sw.length) : bringsB sw (castL ps) st wi as = decide ((st ^^^ wi ^^^ turned sw ps) &&& as = 0) := by
  unfold bringsB
  rw [castL_nv, press_ok h, castL_toNat, Bool.true_and]
  rw [Nat.xor_assoc st wi, Nat.xor_comm wi, ← Nat.xor_assoc]
end Sw
namespace Sw
open PySem L2
abbrev sBrought : Stmt := top 30
abbrev sSays : Stmt := top 31
abbrev sRight : Stmt := top 32
def spBrought (CP CE : Addr) : Sp := fun vs H Q _ => ∃ (t l x : Addr) (n : Nat) (sw : List Nat) (st wi as : Nat) (an : Ans), vs = [.ref t, .ref x, nv st, nv wi, nv as] ∧ H t = some (.tup [nv n, .ref l]) ∧ H l = some (.lst (sw.map nv)) ∧ sw.length ≤ 8 ∧
  AnsAt CP CE H x an ∧ OkAns sw.length an ∧ ∀ H', Same H H' → Q (.bl (word sw st wi as an)) H'
def spSays (C CP CE : Addr) : Sp := fun vs H Q _ => ∃ (h x : Addr) (n : Nat) (sw : List Nat) (st wi as : Nat) (d : Bool) (an : Ans), vs = [.ref h, .ref x, nv st, nv wi, nv as, .bl d] ∧ HouseAt C H h n sw ∧ sw.length ≤ 8 ∧
  AnsAt CP CE H x an ∧ ∀ H', Same H H' → Q (.bl (decide (word sw st wi as an = d))) H'
structure DueAt (H : Hp) (q : Addr) (es : List (Addr × List Nat)) : Prop where
  q1 : H q = some (.lst (es.map fun e => V.ref e.1))
  all : ∀ e ∈ es, H e.1 = some (.lst (e.2.map nv))
theorem DueAt.same {H H' : Hp} {q : Addr} {es : List (Addr × List Nat)} (h : DueAt H q es) (s : Same H H') : DueAt H' q es := ⟨s _ _ h.q1, fun e he => s _ _ (h.all e he)⟩
def spRight (C : Addr) : Sp := fun vs H Q _ => ∃ (t l h q : Addr) (n : Nat) (sw : List Nat) (st wi as : Nat) (es : List (Addr × List Nat)), vs = [.ref t, .ref h, nv st, nv wi, nv as, .ref q] ∧ H t = some (.tup [nv n, .ref l]) ∧ H l = some (.lst (sw.map nv)) ∧ HouseAt C H h n sw ∧ Good n sw ∧
  st < 2 ^ n ∧ wi < 2 ^ n ∧ as < 2 ^ n ∧ DueAt H q es ∧ es.map (·.2) = due sw st wi as ∧ ∀ H', Same H H' → Q (.bl true) H'
section
variable {P : Program} {w : World} {K : PySem.W.Frag} {mg : Str → Option Value} {base : Heap} {C CA CP CE : Addr}
abbrev NBr : List Str := ["_law_told_here", "_law_found", "_law_state", "_law_wish", "_law_asked"]
def compBr : Scope := match (defBody sBrought).getD 2 (.Pass ⟨0, 0, 0, 0⟩) with
  | .Return (some (.Call _ [.ListComp _ _ sc _] _ _)) _ => sc
  | _ => defScope sBrought
theorem scBg : FnScope NBr NBr (defScope sBrought) := ⟨rfl, rfl, rfl, by decide +kernel, rfl, by decide +kernel, by decide +kernel⟩
theorem csBg : CompScope (defScope sBrought) compBr NBr "_law_one" [1] ["_law_found"] := ⟨rfl, by decide +kernel, by decide +kernel, by decide +kernel, by decide +kernel, by decide +kernel, by decide +kernel, by decide +kernel⟩
theorem odd_dec (z : Nat) : decide (V.int ((bitsN z : Int) % 2) = V.int 0) = !oddB z := by
  rw [← oddB_not, ← dec_nv0]
  rfl
theorem ok_brought {f : Addr} {fd : FuncData} (F : Fun K "_law_brought" "_law_brought" sBrought f fd) (T : Txt K mg C) (TA : TxtA K mg CP CE) (TI : TxtI K mg CA CP CE) (FB : FnAt P w K mg base "_law_bits" 1 ["_law_number_here"] spBits) (FU : FnAt P w K mg base "_law_turned" 1 ["_law_told_here", "_law_press"] spTurned) :
    FnOk P w K mg base CX0 2 f fd NBr (spBrought CP CE) := by
  refine F.ok scBg (fun vs H Q E h => ?_) (fun cdv A outer s H vs Q E hr h => ?_)
  · obtain ⟨t, l, x, n, sw, st, wi, as, an, rfl, _⟩ := h
    rfl
  · obtain ⟨t, l, x, n, sw, st, wi, as, an, rfl, ht, hl, h8, hx, ok, k⟩ := h
    refine ⟨_, pss_cons (ps_if (pt_val (pe_isiC T.isi TI.mP (pv 1))) (pss_one (ps_ret (pe_cmpR op_eq (pe_op op_andN (pe_op op_xorN (pe_op op_xorN (pv 2) (pv 3)) (pe_fn FU hr (pa_cons (pv 0) (pa_cons (pe_fld (pv 1) rfl) pa_nil)))) (pv 4)) pe_int (nomark _)))) pss_nil)
      (pss_cons (ps_if (PW.pt (pw_or (pt_cmpR op_ne (pe_op op_andN (pe_fld (pv 1) rfl) (pv 4)) (pe_fld (pv 1) rfl) (nomark _)) (pw_or1 (pt_cmpR op_eq (pe_op op_mod (pe_fn FB hr (pa_cons (pe_op op_andN (pe_fld (pv 1) rfl) (pe_op op_xorN (pv 2) (pv 3))) pa_nil)) pe_int) pe_int (nomark _))))) (pss_one (ps_ret pe_bl)) pss_nil)
      (pss_one (ps_ret (pe_callB (call_all rfl) rfl T.all PyProof.Rows.boot_all (pa_cons (pe_comp rfl csBg (pi_list (pe_ix ix_tup (pv 0) pe_int (fun _ _ => rfl))) (fun _ _ _ _ => pts_nil)
        (fun _ _ _ _ => pe_cmpR op_eq (pe_op op_mod (pe_fn FB hr (pa_cons (pe_op op_andN (pe_fldK (K := K) rfl (pv 1) rfl) (pv 0)) pa_nil)) pe_int) pe_int (nomark _))) pa_nil))))), ?_⟩
    cases an with
    | pr u ps =>
      have hp : Press ps sw.length := ok
      have hx' : PressAt CP H x u (ps.map nv) := hx
      obtain ⟨dx, hx1, hu⟩ := hx'.ob
      refine ⟨_, rfl, .ref x, CP, _, true, rfl, TI.tyP hx1, TI.pp, _, rfl, ?_⟩
      refine iteT ?_
      refine ⟨_, rfl, _, rfl, st, wi, rfl, rfl, _, rfl, _, rfl, x, CP, dx, _, _, rfl, hx1, TA.clP, TA.nP, fldP_press u, t, l, u, n, sw, ps, rfl, ht, hl, hu, hp.lt, st ^^^ wi, turned sw ps, rfl, rfl, _, rfl, _, _, rfl, rfl, rfl, ?_⟩
      have this : Q (.bl (bringsB sw (castL ps) st wi as)) H := k H (Same.refl _)
      rw [brings_press hp, ← dec_nv0] at this
      exact this
    | ev z =>
      have hx' : EvenAt CE H x (nv z) := hx
      obtain ⟨dx, hx1⟩ := hx'.ob
      refine ⟨_, rfl, .ref x, CP, _, false, rfl, TI.tyE hx1, TI.ep, _, rfl, ?_⟩
      refine iteF ?_
      refine ⟨_, rfl, x, CE, dx, _, _, rfl, hx1, TA.clE, TA.nE, fldE_lamps _, _, rfl, z, as, rfl, rfl, _, rfl, x, CE, dx, _, _, rfl, hx1, TA.clE, TA.nE, fldE_lamps _, rfl, _, rfl, ?_⟩
      rw [dec_nv]
      have k' : ∀ H', Same H H' → Q (.bl (decide (z &&& as = z) && (sw.all (fun t => !oddB (z &&& t)) && oddB (z &&& (st ^^^ wi))))) H' := k
      by_cases hz : z &&& as = z
      · rw [decide_eq_true hz] at k'
        refine iteB (by rw [decide_eq_true hz]; rfl) ?_
        refine ⟨_, rfl, x, CE, dx, _, _, rfl, hx1, TA.clE, TA.nE, fldE_lamps _, _, rfl, _, rfl, st, wi, rfl, rfl, z, st ^^^ wi, rfl, rfl, z &&& (st ^^^ wi), rfl, _, _, rfl, rfl, (by show (0 : Int) < 2; decide), rfl, _, rfl, ?_⟩
        rw [odd_dec]
        cases eo : oddB (z &&& (st ^^^ wi)) with
        | false =>
          rw [eo, Bool.and_false, Bool.and_false] at k'
          exact iteT (k' H (Same.refl _))
        | true =>
          rw [eo] at k'
          refine iteF ?_
          refine ⟨_, rfl, t, _, _, _, rfl, rfl, SqT.of ht, atI_nat (j := 1) rfl, l, rfl, ⟨_, SqL.of hl⟩, fun acc hacc => comp_list (K := K) (a := l) (xs := sw.map nv) (fun i ys H' => i ≤ sw.length ∧ ys = ((sw.take i).map fun t => !oddB (z &&& t)).map V.bl ∧ H' = upd H acc (.lst ys)) ⟨Nat.zero_le _, rfl, rfl⟩ ?_ ?_ ?_⟩
          · rintro i ys H' ⟨hi, _, rfl⟩
            exact ⟨by rw [List.length_map]; exact hi, SqL.of (by rw [upd_ne (ne_of_none hl hacc)]; exact hl)⟩
          · rintro i y ys H' hy ⟨hi, rfl, rfl⟩
            obtain ⟨a, ha, rfl⟩ := nv_get hy
            have hilt : i < sw.length := (List.getElem?_eq_some_iff.mp ha).1
            refine tTrue_mk ?_
            refine iteT ?_
            refine ⟨.ref x, rfl, x, CE, dx, _, _, rfl, (by rw [upd_ne (ne_of_none hx1 hacc)]; exact hx1), TA.clE, TA.nE, fldE_lamps _, nv a, rfl, z, a, rfl, rfl, z &&& a, rfl, _, _, rfl, rfl, (by show (0 : Int) < 2; decide), rfl, upd_same, ?_, hilt, ?_, ?_⟩
            · rw [List.length_map, List.length_map, List.length_take]
              exact small9 (by omega)
            · rw [odd_dec, take_snoc ha, List.map_append, List.map_append]
              rfl
            · rw [upd_upd]
          · rintro ys H' ⟨_, rfl, rfl⟩
            refine ⟨acc, (sw.take (sw.map nv).length).map fun t => !oddB (z &&& t), rfl, SqL.of upd_same, ?_⟩
            have := k' _ (same_upd (o := .lst (((sw.take (sw.map nv).length).map fun t => !oddB (z &&& t)).map V.bl)) hacc)
            rw [Bool.true_and, Bool.and_true] at this
            rw [List.length_map, List.take_length, List.all_map]
            rw [List.length_map, List.take_length] at this
            exact this
      · rw [decide_eq_false hz] at k'
        refine iteBT (by rw [decide_eq_false hz]; rfl) ?_
        exact k' H (Same.refl _)
abbrev NSy : List Str := ["_law_house", "_law_found", "_law_state", "_law_wish", "_law_asked", "_law_due", "_law_said"]
abbrev NSy0 : List Str := ["_law_house", "_law_found", "_law_state", "_law_wish", "_law_asked", "_law_due"]
theorem scSy : FnScope NSy NSy0 (defScope sSays) := ⟨rfl, rfl, rfl, by decide +kernel, rfl, by decide +kernel, by decide +kernel⟩
theorem dec_bl (a b : Bool) : decide (V.bl a = V.bl b) = decide (a = b) := decide_eq_decide.mpr ⟨fun h => V.bl.inj h, fun h => by rw [h]⟩
theorem ok_says {f : Addr} {fd : FuncData} (F : Fun K "_law_says" "_law_says" sSays f fd) (T : Txt K mg C) (TA : TxtA K mg CP CE) (TI : TxtI K mg CA CP CE)
    (FBr : MethAt P w K mg base CP "brings" 3 ["self", "house", "state", "wish", "asked"] (spBrings CP C)) (FBa : MethAt P w K mg base CE "bars" 2 ["self", "house", "state", "wish", "asked"] (spBars CE C)) :
    FnOk P w K mg base CX0 4 f fd NSy0 (spSays C CP CE) := by
  refine F.ok scSy (fun vs H Q E h => ?_) (fun cdv A outer s H vs Q E hr h => ?_)
  · obtain ⟨h, x, n, sw, st, wi, as, d, an, rfl, _⟩ := h
    rfl
  · obtain ⟨h, x, n, sw, st, wi, as, d, an, rfl, hh, h8, hx, k⟩ := h
    refine ⟨_, pss_cons (ps_if (pt_val (pe_isiC T.isi TI.mP (pv 1)))
        (pss_one (ps_set (i := 6) scSy.nd rfl (Or.inl rfl) (pe_mt FBr TA.clP hr (pv 1) (pa_cons (pv 0) (pa_cons (pv 2) (pa_cons (pv 3) (pa_cons (pv 4) pa_nil)))))))
        (pss_one (ps_set (i := 6) scSy.nd rfl (Or.inl rfl) (pe_mt FBa TA.clE hr (pv 1) (pa_cons (pv 0) (pa_cons (pv 2) (pa_cons (pv 3) (pa_cons (pv 4) pa_nil))))))))
      (pss_one (ps_ret (pe_and (pe_isi T.isi T.bool PyProof.Rows.boot_bool (pv 6)) (pe_one (pe_cmpR op_eq (pv 6) (pv 5) (nomark _)))))), ?_⟩
    cases an with
    | pr u ps =>
      have hx' : PressAt CP H x u (ps.map nv) := hx
      obtain ⟨dx, hx1, hu⟩ := hx'.ob
      refine ⟨_, rfl, .ref x, CP, _, true, rfl, TI.tyP hx1, TI.pp, _, rfl, ?_⟩
      refine iteT ?_
      rw [← castL_nv] at hx'
      refine ⟨_, rfl, x, dx, _, rfl, hx1, fldP_no _ (by decide +kernel), _, rfl, _, rfl, _, rfl, _, rfl, x, u, h, n, sw, castL ps, st, wi, as, rfl, hx', hh, h8, fun H1 s1 => ?_⟩
      refine ⟨_, rfl, .bl _, "bool", _, true, rfl, .bl _, by rfl, _, rfl, ?_⟩
      refine iteT ?_
      refine ⟨_, rfl, _, rfl, rfl, ?_⟩
      rw [dec_bl]
      exact k H1 s1
    | ev z =>
      have hx' : EvenAt CE H x (nv z) := hx
      obtain ⟨dx, hx1⟩ := hx'.ob
      refine ⟨_, rfl, .ref x, CP, _, false, rfl, TI.tyE hx1, TI.ep, _, rfl, ?_⟩
      refine iteF ?_
      refine ⟨_, rfl, x, dx, _, rfl, hx1, fldE_no _ (by decide +kernel), _, rfl, _, rfl, _, rfl, _, rfl, x, h, n, sw, z, st, wi, as, rfl, hx', hh, fun H1 s1 => ?_⟩
      refine ⟨_, rfl, .bl _, "bool", _, true, rfl, .bl _, by rfl, _, rfl, ?_⟩
      refine iteT ?_
      refine ⟨_, rfl, _, rfl, rfl, ?_⟩
      rw [dec_bl]
      exact k H1 s1
abbrev NRi : List Str := ["_law_told_here", "_law_house", "_law_state", "_law_wish", "_law_asked", "_law_due", "_law_found", "_law_more"]
abbrev NRi0 : List Str := ["_law_told_here", "_law_house", "_law_state", "_law_wish", "_law_asked", "_law_due"]
def compRi : Scope := match (defBody sRight).getD 3 (.Pass ⟨0, 0, 0, 0⟩) with
  | .If _ body _ _ => (match body.getD 0 (.Pass ⟨0, 0, 0, 0⟩) with
    | .If (.BoolOp _ [_, .Compare _ _ [.Call _ [.ListComp _ _ sc _] _ _] _] _) _ _ _ => sc
    | _ => defScope sRight)
  | _ => defScope sRight
theorem scRi : FnScope NRi NRi0 (defScope sRight) := ⟨rfl, rfl, rfl, by decide +kernel, rfl, by decide +kernel, by decide +kernel⟩
theorem csRi : CompScope (defScope sRight) compRi NRi "_law_press" [] [] := ⟨rfl, by decide +kernel, by decide +kernel, by decide +kernel, by decide +kernel, by decide +kernel, by decide +kernel, by decide +kernel⟩
def tWord (C CP CE : Addr) : TS := fun D σ H => ∃ (t l h x : Addr) (n : Nat) (sw : List Nat) (st wi as : Nat) (v5 v7 : Option V) (an : Ans), σ = [some (.ref t), some (.ref h), some (nv st), some (nv wi), some (nv as), v5, some (.ref x), v7] ∧ H t = some (.tup [nv n, .ref l]) ∧ H l = some (.lst (sw.map nv)) ∧ HouseAt C H h n sw ∧ Good n sw ∧
  AnsAt CP CE H x an ∧ OkAns sw.length an ∧ word sw st wi as an = true ∧ (∀ u ps, an = .pr u ps → u ≠ l) ∧ ∀ H', (∀ b o, H b = some o → (∀ u ps, an = .pr u ps → b ≠ u) → H' b = some o) → D.rt (.bl true) H'
theorem bars0 (sw : List Nat) (st wi as : Nat) : barsB sw 0 st wi as = false := by
  unfold barsB
  rw [Nat.zero_and]
  have : oddB 0 = false := by
    unfold oddB
    rw [bitsN_zero]
    rfl
  rw [Nat.zero_and, this, Bool.and_false, Bool.and_false]
theorem brings99 {sw ps : List Nat} (h8 : sw.length ≤ 8) (st wi as : Nat) : bringsB sw (castL ps ++ [99]) st wi as = false := by
  unfold bringsB
  have : pressV (-1) sw.length ((castL ps ++ [99]).map V.int) = false := by
    cases e : pressV (-1) sw.length ((castL ps ++ [99]).map V.int) with
    | false => rfl
    | true =>
      obtain ⟨qs, eq, hq⟩ := press_of e
      have hm : (99 : Int) ∈ castL qs := by
        rw [← eq]
        exact List.mem_append_right _ (.head _)
      obtain ⟨a, ha, ea⟩ := List.mem_map.mp hm
      have := hq.lt a ha
      omega
  rw [this, Bool.false_and]
theorem ok_right {f : Addr} {fd : FuncData} (F : Fun K "_law_right" "_law_right" sRight f fd) (T : Txt K mg C) (TA : TxtA K mg CP CE) (TI : TxtI K mg CA CP CE) (min : mg "min" = none)
    (FT : FnAt P w K mg base "telling" 6 ["house", "state", "wish", "asked"] (spTelling C CP CE)) (FLI : FnAt P w K mg base "_law_is_press" 1 ["_law_found", "_law_many"] (spIsPressL K)) (FM : FnAt P w K mg base "_law_number" 1 ["_law_found", "_law_most"] (spNumber K))
    (FBg : FnAt P w K mg base "_law_brought" 2 NBr (spBrought CP CE)) (FSy : FnAt P w K mg base "_law_says" 4 NSy0 (spSays C CP CE)) (ME : MkAt P w K mg base "Even" CE 1 ["self", "lamps"] (spEInit CE))
    (FBr : MethAt P w K mg base CP "brings" 3 ["self", "house", "state", "wish", "asked"] (spBrings CP C)) (FBa : MethAt P w K mg base CE "bars" 2 ["self", "house", "state", "wish", "asked"] (spBars CE C)) :
    FnOk P w K mg base CX0 7 f fd NRi0 (spRight C) := by
  refine F.ok scRi (fun vs H Q E h => ?_) (fun cdv A outer s H vs Q E hr h => ?_)
  · obtain ⟨t, l, h, q, n, sw, st, wi, as, es, rfl, _⟩ := h
    rfl
  · obtain ⟨t, l, h, q, n, sw, st, wi, as, es, rfl, ht, hl, hh, g, h1, h2, h3, hd, hdue, k⟩ := h
    have hu := hr.units
    refine ⟨_, pss_cons (ps_set (i := 6) scRi.nd rfl (Or.inl rfl) (pe_fn FT hr (pa_cons (pv 1) (pa_cons (pv 2) (pa_cons (pv 3) (pa_cons (pv 4) pa_nil))))))
      (pss_cons (ps_if (PW.pt (pw_or (pt_not (pt_val (pe_isiC T.isi TI.mA (pv 6)))) (pw_or1 (pt_cmpR op_eq (pe_isiC T.isi TI.mP (pv 6)) (pe_isiC T.isi TI.mE (pv 6)) (nomark _))))) (pss_one (ps_ret pe_bl)) pss_nil)
      (pss_cons (ps_if (pt_cmpR op_ne (pe_isiC T.isi TI.mP (pv 6)) (pe_cmpR (op_neLL (Nat.lt_of_le_of_lt (Nat.add_le_add_left (by decide : 1 ≤ 64) _) hu)) (pv 5) (pe_lst pa_nil) (nomark _)) (nomark _)) (pss_one (ps_ret pe_bl)) pss_nil)
      (pss_cons (ps_if (pt_val (pe_isiC T.isi TI.mP (pv 6)))
        (pss_one (ps_if (PW.pt (pw_or (pt_not (pt_val (pe_fn FLI hr (pa_cons (pe_fld (pv 6) rfl) (pa_cons (pe_callB call_len_seq rfl T.len PySem.boot_len (pa_cons (pe_ix ix_tup (pv 0) pe_int (fun _ _ => rfl)) pa_nil)) pa_nil)))))
          (pw_or1 (pt_cmpR op_ne (pe_callB call_len_seq rfl T.len PySem.boot_len (pa_cons (pe_fld (pv 6) rfl) pa_nil)) (pe_callB (call_minL rfl) rfl min PyProof.Rows.boot_min (pa_cons (pe_comp rfl csRi (pi_list (pv 5)) (fun _ _ _ _ => pts_nil) (fun _ _ _ _ => pe_callB (call_lenK (K := K) rfl) rfl T.len PySem.boot_len (pa_cons (pv 0) pa_nil))) pa_nil)) (nomark _))))) (pss_one (ps_ret pe_bl)) pss_nil))
        (pss_one (ps_if (pt_not (pt_val (pe_fn FM hr (pa_cons (pe_fld (pv 6) rfl) (pa_cons (pe_op op_shl1 pe_int (pe_ix ix_tup (pv 0) pe_int (fun _ _ => rfl))) pa_nil))))) (pss_one (ps_ret pe_bl)) pss_nil)))
      (PSs.imp (t' := tWord C CP CE)
      (pss_cons (ps_if (PW.pt (pw_or (pt_not (pt_val (pe_fn FBg hr (pa_cons (pv 0) (pa_cons (pv 6) (pa_cons (pv 2) (pa_cons (pv 3) (pa_cons (pv 4) pa_nil)))))))) (pw_or1 (pt_not (pt_val (pe_fn FSy hr (pa_cons (pv 1) (pa_cons (pv 6) (pa_cons (pv 2) (pa_cons (pv 3) (pa_cons (pv 4) (pa_cons pe_bl pa_nil)))))))))))) (pss_one (ps_ret pe_bl)) pss_nil)
      (pss_cons (ps_set (i := 7) scRi.nd rfl (Or.inl rfl) (pe_op op_xorN (pv 3) (pe_op op_shl1 pe_int (pe_op op_mod (pv 2) (pe_ix ix_tup (pv 0) pe_int (fun _ _ => rfl))))))
      (pss_cons (ps_if (pt_not (pt_val (pe_fn FSy hr (pa_cons (pv 1) (pa_cons (pv 6) (pa_cons (pv 2) (pa_cons (pv 7) (pa_cons (pv 4) (pa_cons (pe_fn FBg hr (pa_cons (pv 0) (pa_cons (pv 6) (pa_cons (pv 2) (pa_cons (pv 7) (pa_cons (pv 4) pa_nil)))))) pa_nil))))))))) (pss_one (ps_ret pe_bl)) pss_nil)
      (pss_cons (ps_if (pt_val (pe_isiC T.isi TI.mP (pv 6)))
        (pss_cons (ps_expr (pe_bm PySem.F.plainAttrs_list PySem.F.slot_list_append PySem.F.type_list_append mt_append (pe_fld (pv 6) rfl) (pa_cons pe_int pa_nil)))
        (pss_one (ps_ret (pe_cmpR op_isB (pe_mt FBr TA.clP hr (pv 6) (pa_cons (pv 1) (pa_cons (pv 2) (pa_cons (pv 3) (pa_cons (pv 4) pa_nil))))) pe_bl (nomark _))))) pss_nil)
      (pss_one (ps_ret (pe_cmpR op_isB (pe_mt FBa TA.clE hr (pe_mk ME hr (pa_cons pe_int pa_nil)) (pa_cons (pv 1) (pa_cons (pv 2) (pa_cons (pv 3) (pa_cons (pv 4) pa_nil))))) pe_bl (nomark _)))))))) ?word)))), ?main⟩
    case word =>
      rintro D σ H ⟨t, l, h, x, n, sw, st, wi, as, v5, v7, an, rfl, ht, hl, hh, g, hx, ok, hw, hul, k⟩
      have hn : (0 : Int) < (n : Int) := by have := g.n1; omega
      refine ⟨_, rfl, _, rfl, _, rfl, _, rfl, _, rfl, t, l, x, n, sw, st, wi, as, an, rfl, ht, hl, g.s8, hx, ok, fun H1 s1 => ⟨_, rfl, ?_⟩⟩
      refine iteB (by rw [hw]; rfl) ?_
      refine ⟨_, rfl, _, rfl, _, rfl, _, rfl, _, rfl, h, x, n, sw, st, wi, as, true, an, rfl, hh.same s1, g.s8, hx.same s1, fun H2 s2 => ⟨_, rfl, ?_⟩⟩
      refine iteB (by rw [hw]; rfl) ?_
      have s12 := s1.trans s2
      have m0 : 0 ≤ (st : Int) % (n : Int) := Int.emod_nonneg _ (by omega)
      have m1 : (st : Int) % (n : Int) < (n : Int) := Int.emod_lt_of_pos _ hn
      obtain ⟨j, hj⟩ : ∃ j : Nat, (st : Int) % (n : Int) = (j : Int) := ⟨((st : Int) % (n : Int)).toNat, by omega⟩
      refine ⟨_, rfl, _, rfl, _, rfl, t, _, _, _, rfl, rfl, SqT.of (s12 _ _ ht), atI_nat (j := 0) rfl, _, _, rfl, rfl, hn, j, rfl, congrArg V.int hj, by have := g.n10; omega, wi, 2 ^ j, rfl, rfl, ?_⟩
      generalize wi ^^^ 2 ^ j = mo
      refine ⟨_, rfl, _, rfl, _, rfl, _, rfl, _, rfl, _, rfl, _, rfl, _, rfl, _, rfl, _, rfl, t, l, x, n, sw, st, mo, as, an, rfl, s12 _ _ ht, s12 _ _ hl, g.s8, hx.same s12, ok, fun H3 s3 => ?_⟩
      have s13 := s12.trans s3
      refine ⟨h, x, n, sw, st, mo, as, _, an, rfl, hh.same s13, g.s8, hx.same s13, fun H4 s4 => ⟨_, rfl, ?_⟩⟩
      have s14 := s13.trans s4
      refine iteB (by simp) ?_
      cases an with
      | pr u ps =>
        have hx' : PressAt CP H4 x u (ps.map nv) := hx.same s14
        obtain ⟨dx, hx1, hu⟩ := hx'.ob
        refine ⟨_, rfl, .ref x, CP, _, true, rfl, TI.tyP hx1, TI.pp, _, rfl, ?_⟩
        refine iteT ?_
        have hps : Press ps sw.length := ok
        have hlen : ps.length ≤ 8 := Nat.le_trans (press_len hps) g.s8
        refine ⟨_, rfl, x, CP, dx, _, _, rfl, hx1, TA.clP, TA.nP, fldP_press u, .inl ⟨rfl, _, SqL.of hu⟩, u, _, _, rfl, rfl, hu, (by rw [List.length_map]; exact small9 (by omega)), ?_⟩
        have nxu : x ≠ u := ne_of hx1 hu (by intro z; cases z)
        have hxn : PressAt CP (upd H4 u (.lst (ps.map nv ++ [.int 99]))) x u ((castL ps ++ [99]).map V.int) := ⟨dx, by rw [upd_ne nxu]; exact hx1, by rw [upd_same, List.map_append, castL_nv]; rfl⟩
        have keep : ∀ b o, H b = some o → b ≠ u → (upd H4 u (.lst (ps.map nv ++ [.int 99]))) b = some o := fun b o e hb => by
          rw [upd_ne hb]
          exact s14 _ _ e
        have hhn : HouseAt C (upd H4 u (.lst (ps.map nv ++ [.int 99]))) h n sw := by
          obtain ⟨dh, uh, e1, e2⟩ := (hh.same s14).ob
          exact ⟨dh, uh, by rw [upd_ne (ne_of e1 hu (by intro z; cases z))]; exact e1, by rw [upd_ne (ne_of e2 hu (by intro z; cases z))]; exact e2⟩
        refine ⟨_, rfl, x, dx, _, rfl, (by rw [upd_ne nxu]; exact hx1), fldP_no _ (by decide +kernel), _, rfl, _, rfl, _, rfl, _, rfl, x, u, h, n, sw, castL ps ++ [99], st, wi, as, rfl, hxn, hhn, g.s8, fun H5 s5 => ⟨false, rfl, ?_⟩⟩
        rw [brings99 g.s8]
        exact k H5 fun b o e hb => s5 _ _ (keep b o e (hb u ps rfl))
      | ev z =>
        have hx' : EvenAt CE H4 x (nv z) := hx.same s14
        obtain ⟨dx, hx1⟩ := hx'.ob
        refine ⟨_, rfl, .ref x, CP, _, false, rfl, TI.tyE hx1, TI.ep, _, rfl, ?_⟩
        refine iteF ?_
        refine fun y dy ny ndy ney => make_even (v := nv 0) ny ndy ney fun H5 hy s5 => ⟨rfl, ?_⟩
        obtain ⟨dy, hy1⟩ := hy.ob
        refine ⟨y, dy, _, rfl, hy1, fldE_no _ (by decide +kernel), _, rfl, _, rfl, _, rfl, _, rfl, y, h, n, sw, 0, st, wi, as, rfl, hy, (hh.same s14).same s5, fun H6 s6 => ⟨false, rfl, ?_⟩⟩
        rw [bars0]
        exact k H6 fun b o e _ => s6 _ _ (s5 _ _ (s14 _ _ e))
    case main =>
      have esn : es = [] ↔ due sw st wi as = [] := by rw [← hdue, List.map_eq_nil_iff]
      refine ⟨_, rfl, _, rfl, _, rfl, _, rfl, h, n, sw, st, wi, as, rfl, hh, g, h1, h2, h3, fun x u ps H1 s1 nx nu hx hmem hmin => ?_, fun x z H1 s1 nx hx hb hd0 => ?_⟩
      · obtain ⟨dx, hx1, hu1⟩ := hx.ob
        have hps : Press ps sw.length := mem_presses.mp (List.mem_filter.mp hmem).1
        have hwd : bringsB sw (castL ps) st wi as = true := (List.mem_filter.mp hmem).2
        have hne : es ≠ [] := fun z => by
          rw [esn.mp z] at hmem
          cases hmem
        refine ⟨_, rfl, .ref x, CA, _, true, rfl, TI.tyP hx1, TI.pa, _, rfl, ?_⟩
        refine iteF ?_
        refine ⟨_, rfl, .ref x, CP, _, true, rfl, TI.tyP hx1, TI.pp, _, rfl, .ref x, CE, _, false, rfl, TI.tyP hx1, TI.pe, rfl, _, rfl, ?_⟩
        refine iteN (by decide) ?_
        refine ⟨_, rfl, .ref x, CP, _, true, rfl, TI.tyP hx1, TI.pp, _, rfl, Nat.zero_le _, fun e0 he0 => ?_⟩
        have s2 := same_upd (o := .lst []) he0
        have hd2 := (hd.same s1).same s2
        refine ⟨q, e0, es.map (fun e => (e.1, castL e.2)), [], rfl, rfl, SqL.of (by rw [List.map_map]; exact hd2.q1), SqL.of upd_same, fun e he => ?_, (fun _ z => nomatch z), rfl, _, rfl, ?_⟩
        · obtain ⟨e', he', rfl⟩ := List.mem_map.mp he
          exact SqL.of (by rw [castL_nv]; exact hd2.all e' he')
        have hx2 := s2 _ _ hx1
        have hu2 := s2 _ _ hu1
        have hl2 := s2 _ _ (s1 _ _ hl)
        have ht2 := s2 _ _ (s1 _ _ ht)
        have hh2 := (hh.same s1).same s2
        have hxa := hx.same s2
        have sH := s1.trans s2
        generalize upd H1 e0 (.lst []) = H2 at s2 hd2 hx2 hu2 hl2 ht2 hh2 hxa sH
        refine iteB ?_ ?_
        · have : decide ((es.map (fun e => (e.1, castL e.2))).map (·.2) = ([] : List (Addr × List Int)).map (·.2)) = false := by
            refine decide_eq_false fun z => hne ?_
            rw [List.map_map] at z
            exact List.map_eq_nil_iff.mp z
          rw [this]
          rfl
        refine ⟨_, rfl, .ref x, CP, _, true, rfl, TI.tyP hx2, TI.pp, _, rfl, ?_⟩
        refine iteT ?_
        refine ⟨_, rfl, x, CP, dx, _, _, rfl, hx2, TA.clP, TA.nP, fldP_press u, _, rfl, t, _, _, _, rfl, rfl, SqT.of ht2, atI_nat (j := 1) rfl, l, _, rfl, .inl (SqL.of hl2), u, _, castL ps, rfl, (by rw [castL_nv]; exact hu2), _, rfl, ?_⟩
        refine iteB (by rw [List.length_map, rise_ok hps]; rfl) ?_
        have hel : es.length ≤ 256 := by
          have := congrArg List.length hdue
          rw [List.length_map] at this
          rw [this]
          exact Nat.le_trans (List.length_filter_le _ _) (len256 g.s8)
        refine ⟨_, rfl, x, CP, dx, _, _, rfl, hx2, TA.clP, TA.nP, fldP_press u, u, _, rfl, .inl (SqL.of hu2), _, rfl, q, rfl, ⟨_, SqL.of hd2.q1⟩, fun acc hacc => comp_list (K := K) (a := q) (xs := es.map fun e => V.ref e.1) (fun i ys Hc => i ≤ es.length ∧ ys = (es.take i).map (fun e => nv e.2.length) ∧ Hc = upd H2 acc (.lst ys)) ⟨Nat.zero_le _, rfl, rfl⟩ ?_ ?_ ?_⟩
        · rintro i ys Hc ⟨hi, _, rfl⟩
          exact ⟨by rw [List.length_map]; exact hi, SqL.of (by rw [upd_ne (ne_of_none hd2.q1 hacc)]; exact hd2.q1)⟩
        · rintro i y ys Hc hy ⟨hi, rfl, rfl⟩
          obtain ⟨e, he, rfl⟩ := ref_get hy
          have hilt : i < es.length := (List.getElem?_eq_some_iff.mp he).1
          have hem := hd2.all e (List.mem_of_getElem? he)
          refine tTrue_mk ?_
          refine iteT ?_
          refine ⟨_, rfl, e.1, _, rfl, .inl (SqL.of (by rw [upd_ne (ne_of_none hem hacc)]; exact hem)), upd_same, ?_, hilt, ?_, ?_⟩
          · rw [List.length_map, List.length_take]
            exact small1000 (by omega)
          · rw [take_snoc he, List.map_append, List.length_map]
            rfl
          · rw [upd_upd]
        · rintro ys Hc ⟨_, rfl, rfl⟩
          rw [List.length_map, List.take_length]
          refine ⟨acc, es.map (fun e => ((e.2.length : Nat) : Int)), rfl, SqL.of (by rw [List.map_map]; exact upd_same), (fun z => hne (List.map_eq_nil_iff.mp z)), fun m hm hmn => ⟨rfl, _, rfl, ?_⟩⟩
          have em : m = ((ps.length : Nat) : Int) := by
            obtain ⟨e, he, rfl⟩ := List.mem_map.mp hm
            have a1 := hmin e.2 (by rw [← hdue]; exact List.mem_map_of_mem he)
            rw [← hdue] at hmem
            obtain ⟨e2, he2, rfl⟩ := List.mem_map.mp hmem
            have a2 := hmn _ (List.mem_map_of_mem (f := fun e : Addr × List Nat => ((e.2.length : Nat) : Int)) he2)
            have a3 : ((e.2.length : Nat) : Int) ≤ ((e2.2.length : Nat) : Int) := a2
            omega
          refine iteNS (by rw [List.length_map, em]) ?_
          have s3 := same_upd (o := .lst (es.map fun e => nv e.2.length)) hacc
          have sF := sH.trans s3
          exact ⟨t, l, h, x, n, sw, st, wi, as, _, _, .pr u ps, rfl, s3 _ _ ht2, s3 _ _ hl2, hh2.same s3, g, hxa.same s3, hps, hwd, (fun u' ps' e => by cases e; exact Ne.symm (ne_of_none hl nu)), fun H' kp => k H' fun b o e => kp b o (sF _ _ e) fun u' ps' e' => by cases e'; exact ne_of_none e nu⟩
      · obtain ⟨dx, hx1⟩ := hx.ob
        have hz : z &&& as = z := by
          have hb' : (decide (z &&& as = z) && (sw.all (fun t => !oddB (z &&& t)) && oddB (z &&& (st ^^^ wi)))) = true := hb
          rw [Bool.and_eq_true] at hb'
          exact of_decide_eq_true hb'.1
        have hz2 : z < 2 ^ n := Nat.lt_of_le_of_lt (sub_le hz) h3
        have hes0 : es = [] := esn.mpr hd0
        subst hes0
        refine ⟨_, rfl, .ref x, CA, _, true, rfl, TI.tyE hx1, TI.ea, _, rfl, ?_⟩
        refine iteF ?_
        refine ⟨_, rfl, .ref x, CP, _, false, rfl, TI.tyE hx1, TI.ep, _, rfl, .ref x, CE, _, true, rfl, TI.tyE hx1, TI.ee, rfl, _, rfl, ?_⟩
        refine iteN (by decide) ?_
        refine ⟨_, rfl, .ref x, CP, _, false, rfl, TI.tyE hx1, TI.ep, _, rfl, Nat.zero_le _, fun e0 he0 => ?_⟩
        have s2 := same_upd (o := .lst []) he0
        have hd2 := (hd.same s1).same s2
        refine ⟨q, e0, [], [], rfl, rfl, SqL.of hd2.q1, SqL.of upd_same, (fun _ z => nomatch z), (fun _ z => nomatch z), rfl, _, rfl, ?_⟩
        refine iteB (by rfl) ?_
        have hx2 := s2 _ _ hx1
        refine ⟨_, rfl, .ref x, CP, _, false, rfl, TI.tyE hx2, TI.ep, _, rfl, ?_⟩
        refine iteF ?_
        refine ⟨_, rfl, x, CE, dx, _, _, rfl, hx2, TA.clE, TA.nE, fldE_lamps _, _, rfl, t, _, _, _, rfl, rfl, SqT.of (s2 _ _ (s1 _ _ ht)), atI_nat (j := 0) rfl, n, rfl, rfl, by have := g.n10; omega, z, ((2 ^ n : Nat) : Int), rfl, _, rfl, ?_⟩
        refine iteNS (by omega) ?_
        have sF := s1.trans s2
        exact ⟨t, l, h, x, n, sw, st, wi, as, _, _, .ev z, rfl, sF _ _ ht, sF _ _ hl, hh.same sF, g, hx.same s2, trivial, hb, (fun u' ps' e => by cases e), fun H' kp => k H' fun b o e => kp b o (sF _ _ e) fun u' ps' e' => by cases e'⟩
end
end Sw
set_option maxHeartbeats 4000000
namespace Sw
open PySem L2
abbrev NL : List Str := ["_law_script", "_law_told_here", "_law_house", "_law_at", "_law_cell", "_law_state", "_law_wish", "_law_asked", "_law_due", "_law_again", "_law_found"]
theorem scL : FnScope NL ["_law_script"] (defScope sLaw) := ⟨rfl, rfl, rfl, by decide +kernel, rfl, by decide +kernel, by decide +kernel⟩
def compL1 : Scope := match (defBody sLaw).getD 2 (.Pass ⟨0, 0, 0, 0⟩) with
  | .For _ _ body _ _ => (match body.getD 4 (.Pass ⟨0, 0, 0, 0⟩) with
    | .Assign _ (.ListComp _ _ sc _) _ => sc
    | _ => defScope sLaw)
  | _ => defScope sLaw
def compL2 : Scope := match (defBody sLaw).getD 2 (.Pass ⟨0, 0, 0, 0⟩) with
  | .For _ _ body _ _ => (match body.getD 5 (.Pass ⟨0, 0, 0, 0⟩) with
    | .For _ _ body2 _ _ => (match body2.getD 3 (.Pass ⟨0, 0, 0, 0⟩) with
      | .If (.UnaryOp _ (.Call _ [.ListComp _ _ sc _] _ _) _) _ _ _ => sc
      | _ => defScope sLaw)
    | _ => defScope sLaw)
  | _ => defScope sLaw
theorem csL1 : CompScope (defScope sLaw) compL1 NL "_law_press" [7, 5, 1, 6] ["_law_asked", "_law_state", "_law_told_here", "_law_wish"] := ⟨rfl, by decide +kernel, by decide +kernel, by decide +kernel, by decide +kernel, by decide +kernel, by decide +kernel, by decide +kernel⟩
theorem csL2 : CompScope (defScope sLaw) compL2 NL "_law_press" [1] ["_law_told_here"] := ⟨rfl, by decide +kernel, by decide +kernel, by decide +kernel, by decide +kernel, by decide +kernel, by decide +kernel, by decide +kernel⟩
structure Kept (C : Addr) (H : Hp) (t l h : Addr) (n : Nat) (sw : List Nat) : Prop where
  t : H t = some (.tup [nv n, .ref l])
  l : H l = some (.lst (sw.map nv))
  h : HouseAt C H h n sw
theorem Kept.same {C : Addr} {H H' : Hp} {t l h : Addr} {n : Nat} {sw : List Nat} (k : Kept C H t l h n sw) (s : Same H H') : Kept C H' t l h n sw := ⟨s _ _ k.t, s _ _ k.l, k.h.same s⟩
def tGrow : TS := fun D σ H => ∃ (v0 v1 v2 v3 v4 v5 v6 v7 v8 v9 : Option V) (q : Addr) (es : List (Addr × List Nat)), σ = [v0, v1, v2, v3, v4, v5, v6, v7, v8, v9, some (.ref q)] ∧ H q = some (.lst (es.map fun e => V.ref e.1)) ∧ es.length ≤ 256 ∧
  ∀ H', (∀ b o, H b = some o → b ≠ q → H' b = some o) → D.nx σ H'
section
variable {P : Program} {w : World} {K : PySem.W.Frag} {mg : Str → Option Value} {base : Heap} {C CA CP CE : Addr}
theorem ok_law {f : Addr} {fd : FuncData} (F : Fun K "law" "law" sLaw f fd) (T : Txt K mg C)
    (MH : MkAt P w K mg base "House" C 3 ["self", "lamps", "switches"] (spInit K C)) (FC : FCell P w K mg base) (FD : FDraw P w K mg base) (FT : FnAt P w K mg base "_law_told" 2 ["_law_script", "_law_first"] (spTold K)) (FU : FnAt P w K mg base "_law_turned" 1 ["_law_told_here", "_law_press"] spTurned)
    (FLP : FnAt P w K mg base "_law_presses" 1 ["_law_told_here"] spPresses) (FLI : FnAt P w K mg base "_law_is_press" 1 ["_law_found", "_law_many"] (spIsPressL K)) (FR : FnAt P w K mg base "_law_right" 7 NRi0 (spRight C)) (FA : FnAt P w K mg base "all_presses" 5 ["house", "state", "wish", "asked"] (spAll C)) :
    FnOk P w K mg base CX0 8 f fd ["_law_script"] (spLaw K) := by
  refine F.ok scL (fun vs H Q E h => ?_) (fun cdv A outer s H vs Q E hr h => ?_)
  · obtain ⟨a, ns, rfl, _⟩ := h
    rfl
  · obtain ⟨a, ns, rfl, hS, _, q⟩ := h
    have hu := hr.units
    have hu1 := Nat.lt_of_le_of_lt (Nat.add_le_add_left (by decide : 1 ≤ 64) _) hu
    refine ⟨_, pss_cons (ps_set (i := 1) scL.nd rfl (Or.inr rfl) (pe_fn FT hr (pa_cons (pv 0) (pa_cons pe_int pa_nil))))
      (pss_cons (ps_set (i := 2) scL.nd rfl (Or.inl rfl) (pe_mk MH hr (pa_cons (pe_ix ix_tup (pv 1) pe_int (fun _ _ => rfl)) (pa_cons (pe_ix ix_tup (pv 1) pe_int (fun _ _ => rfl)) pa_nil))))
      (pss_cons (ps_for PassesOwn.never rfl (pi_range1 rfl T.range (pa_cons pe_int pa_nil)) (pg_name (i := 3) scL.nd rfl (Or.inl rfl))
        (pss_cons (ps_set (i := 4) scL.nd rfl (Or.inl rfl) (pe_op op_add (pe_fn FC hr (pa_cons (pv 0) (pa_cons (pe_op op_add pe_int (pv 3)) pa_nil))) (pe_op op_mul pe_int (pv 3))))
        (pss_cons (ps_set (i := 5) scL.nd rfl (Or.inr rfl) (pe_fn FD hr (pa_cons (pv 4) (pa_cons pe_int (pa_cons (pe_op op_shl1 pe_int (pe_ix ix_tup (pv 1) pe_int (fun _ _ => rfl))) pa_nil)))))
        (pss_cons (ps_set (i := 6) scL.nd rfl (Or.inr rfl) (pe_fn FD hr (pa_cons (pv 4) (pa_cons pe_int (pa_cons (pe_op op_shl1 pe_int (pe_ix ix_tup (pv 1) pe_int (fun _ _ => rfl))) pa_nil)))))
        (pss_cons (ps_set (i := 7) scL.nd rfl (Or.inr rfl) (pe_ix ix_tup (pe_tup (pa_cons (pe_op op_pred (pe_op op_shl1 pe_int (pe_ix ix_tup (pv 1) pe_int (fun _ _ => rfl))) pe_int) (pa_cons (pe_fn FD hr (pa_cons (pv 4) (pa_cons pe_int (pa_cons (pe_op op_shl1 pe_int (pe_ix ix_tup (pv 1) pe_int (fun _ _ => rfl))) pa_nil)))) (pa_cons (pe_op op_pred (pe_op op_shl1 pe_int (pe_ix ix_tup (pv 1) pe_int (fun _ _ => rfl))) pe_int) (pa_cons pe_int pa_nil))))) (pe_op op_mod (pv 4) pe_int) (fun _ _ => rfl)))
        (pss_cons (ps_setComp (i := 8) rfl scL.nd rfl (Or.inl rfl) csL1 (pi_list (pe_fn FLP hr (pa_cons (pv 1) pa_nil)))
            (fun _ _ _ _ => pts_one (pt_cmpR op_eq (pe_op op_andN (pe_op op_xorN (pe_op op_xorN (pv 2) (pv 4)) (pe_fn FU hr (pa_cons (pv 3) (pa_cons (pv 0) pa_nil)))) (pv 1)) pe_int (nomark _))) (fun _ _ _ _ => pv 0))
        (pss_one (ps_for PassesOwn.never rfl (pi_range1 rfl T.range (pa_cons pe_int pa_nil)) (pg_name (i := 9) scL.nd rfl (Or.inl rfl))
          (pss_cons (ps_if (pt_not (pt_val (pe_fn FR hr (pa_cons (pv 1) (pa_cons (pv 2) (pa_cons (pv 5) (pa_cons (pv 6) (pa_cons (pv 7) (pa_cons (pv 8) pa_nil))))))))) (pss_one (ps_ret pe_bl)) pss_nil)
          (pss_cons (ps_set (i := 10) scL.nd rfl (Or.inl rfl) (pe_fn FA hr (pa_cons (pv 2) (pa_cons (pv 5) (pa_cons (pv 6) (pa_cons (pv 7) pa_nil))))))
          (pss_cons (ps_if (PW.pt (pw_or (pt_not (pt_val (pe_isi T.isi T.list PyProof.Rows.boot_list (pv 10)))) (pw_or1 (pt_cmpR (op_neLL hu1) (pv 10) (pv 8) (nomark _))))) (pss_one (ps_ret pe_bl)) pss_nil)
          (pss_cons (ps_if (pt_not (pt_val (pe_callB (call_all rfl) rfl T.all PyProof.Rows.boot_all (pa_cons (pe_comp rfl csL2 (pi_list (pv 10)) (fun _ _ _ _ => pts_nil)
              (fun _ _ _ _ => pe_fn FLI hr (pa_cons (pv 0) (pa_cons (pe_callB (call_lenK (K := K) rfl) rfl T.len PySem.boot_len (pa_cons (pe_ix (ix_tupK (K := K) rfl) (pv 1) pe_int (fun _ _ => rfl)) pa_nil)) pa_nil)))) pa_nil)))) (pss_one (ps_ret pe_bl)) pss_nil)
          (pss_cons (ps_if (pt_cmpR (op_neLL hu1) (pv 10) (pe_lst pa_nil) (nomark _)) (pss_one (ps_expr (pe_bm PySem.F.plainAttrs_list PySem.F.slot_list_append PySem.F.type_list_append mt_append (pe_ix ix_list (pv 10) pe_int (fun _ _ => rfl)) (pa_cons pe_int pa_nil)))) pss_nil)
          (PSs.imp (t' := tGrow) (pss_one (ps_expr (pe_bm PySem.F.plainAttrs_list PySem.F.slot_list_append PySem.F.type_list_append mt_append (pv 10) (pa_cons (pe_lst pa_nil) pa_nil)))) ?grow))))))))))))))
      (pss_one (ps_ret pe_bl)))), ?main⟩
    case grow =>
      rintro D σ H ⟨v0, v1, v2, v3, v4, v5, v6, v7, v8, v9, q, es, rfl, hq, hel, k⟩
      refine ⟨_, rfl, .inl ⟨rfl, _, SqL.of hq⟩, Nat.zero_le _, fun e he => ?_⟩
      have hqe := same_upd (o := .lst []) he _ _ hq
      refine ⟨q, _, _, rfl, rfl, hqe, (by rw [List.length_map]; exact small1000 (by omega)), k _ fun b o eb hb => ?_⟩
      rw [upd_ne hb]
      exact same_upd he _ _ eb
    case main =>
      refine ⟨_, rfl, a, ns, 0, rfl, hS, fun t l n sw H1 s1 ht0 hl0 ht hl g => ?_⟩
      refine ⟨_, rfl, t, _, _, _, rfl, rfl, SqT.of ht, atI_nat (j := 0) rfl, _, rfl, t, _, _, _, rfl, rfl, SqT.of ht, atI_nat (j := 1) rfl, fun h dh nh ndh neh => make_house nh ndh neh hl g fun H2 hh s2 => ⟨rfl, ?_⟩⟩
      have kp : Kept C H2 t l h n sw := ⟨s2 _ _ ht, s2 _ _ hl, hh⟩
      have sH2 : Same H H2 := s1.trans s2
      refine ⟨3, rfl, by decide, by decide, for_range (n := 3) (fun _ σ H' => ∃ y3 y4 y5 y6 y7 y8 y9 y10, σ = [some (.ref a), some (.ref t), some (.ref h), y3, y4, y5, y6, y7, y8, y9, y10] ∧ Kept C H' t l h n sw ∧ Same H H')
        ⟨_, _, _, _, _, _, _, _, rfl, kp, sH2⟩ ?_ ?_⟩
      · rintro i σ H' _ ⟨y3, y4, y5, y6, y7, y8, y9, y10, rfl, kp, sm⟩
        have e0 : (0 : Int) + (i : Int) = ((i : Nat) : Int) := by omega
        rw [e0]
        refine ⟨_, rfl, _, rfl, _, _, rfl, rfl, a, ns, 2 + i, (show [V.ref a, V.int (2 + (i : Int))] = [V.ref a, nv (2 + i)] by rw [show nv (2 + i) = V.int (2 + (i : Int)) from congrArg V.int (by omega)]), sm.seq hS, fun c => ?_⟩
        refine ⟨_, rfl, _, _, rfl, rfl, .inl ⟨by decide, by decide⟩, _, _, rfl, rfl, ?_⟩
        refine ⟨_, rfl, _, rfl, t, _, _, _, rfl, rfl, SqT.of kp.t, atI_nat (j := 0) rfl, n, rfl, rfl, by have := g.n10; omega, _, 1, 2 ^ n, rfl, Nat.two_pow_pos n, fun st H3 s3 hst => ?_⟩
        have kp3 := kp.same s3
        refine ⟨_, rfl, _, rfl, t, _, _, _, rfl, rfl, SqT.of kp3.t, atI_nat (j := 0) rfl, n, rfl, rfl, by have := g.n10; omega, _, 2, 2 ^ n, rfl, Nat.two_pow_pos n, fun wi H4 s4 hwi => ?_⟩
        have kp4 := kp3.same s4
        refine ⟨_, rfl, t, _, _, _, rfl, rfl, SqT.of kp4.t, atI_nat (j := 0) rfl, n, rfl, rfl, by have := g.n10; omega, 2 ^ n, rfl, rfl, Nat.two_pow_pos n, ?_⟩
        refine ⟨_, rfl, _, rfl, t, _, _, _, rfl, rfl, SqT.of kp4.t, atI_nat (j := 0) rfl, n, rfl, rfl, by have := g.n10; omega, _, 3, 2 ^ n, rfl, Nat.two_pow_pos n, fun as2 H5 s5 has2 => ?_⟩
        have kp5 := kp4.same s5
        refine ⟨_, rfl, t, _, _, _, rfl, rfl, SqT.of kp5.t, atI_nat (j := 0) rfl, n, rfl, rfl, by have := g.n10; omega, 2 ^ n, rfl, rfl, Nat.two_pow_pos n, ?_⟩
        refine ⟨by show 4 ≤ sizeLine; decide, fun t0 ht0 => ?_⟩
        have m2 : 0 ≤ (c + 977 * (i : Int)) % 4 ∧ (c + 977 * (i : Int)) % 4 < 4 := ⟨Int.emod_nonneg _ (by decide), Int.emod_lt_of_pos _ (by decide)⟩
        have p2 := Nat.two_pow_pos n
        obtain ⟨as, has, at0⟩ : ∃ as : Nat, as < 2 ^ n ∧ atI [nv (2 ^ n - 1), nv as2, nv (2 ^ n - 1), V.int 0] ((c + 977 * (i : Int)) % 4) = some (nv as) := by
          obtain ⟨j, hj⟩ : ∃ j : Nat, (c + 977 * (i : Int)) % 4 = (j : Int) := ⟨((c + 977 * (i : Int)) % 4).toNat, by omega⟩
          rw [hj]
          rcases (show j = 0 ∨ j = 1 ∨ j = 2 ∨ j = 3 by omega) with rfl | rfl | rfl | rfl
          · exact ⟨_, by omega, atI_nat (j := 0) rfl⟩
          · exact ⟨_, has2, atI_nat (j := 1) rfl⟩
          · exact ⟨2 ^ n - 1, by omega, atI_nat (j := 2) rfl⟩
          · exact ⟨0, by omega, atI_nat (j := 3) rfl⟩
        refine ⟨_, rfl, _, _, rfl, rfl, (by show (0 : Int) < 4; decide), t0, _, _, _, rfl, rfl, SqT.of upd_same, at0, ?_⟩
        have s6 := same_upd (o := .tup [nv (2 ^ n - 1), nv as2, nv (2 ^ n - 1), V.int 0]) ht0
        have kp6 := kp5.same s6
        have sm6 := sm.trans (s3.trans (s4.trans (s5.trans s6)))
        generalize upd H5 t0 (.tup [nv (2 ^ n - 1), nv as2, nv (2 ^ n - 1), V.int 0]) = H6 at s6 kp6 sm6
        refine ⟨_, rfl, t, l, n, sw, rfl, kp6.t, kp6.l, g.s8, fun q0 es H7 s7 nq0 hq0 hes hp => ?_⟩
        have kp7 := kp6.same s7
        have hel : es.length ≤ 256 := by
          have := congrArg List.length hp
          rw [List.length_map] at this
          rw [this]
          exact len256 g.s8
        refine ⟨q0, rfl, ⟨_, SqL.of hq0⟩, fun acc hacc => comp_list (K := K) (a := q0) (xs := es.map fun e => V.ref e.1)
          (fun i ys Hc => i ≤ es.length ∧ ys = ((es.take i).filter fun e => bringsB sw (castL e.2) st wi as).map (fun e => V.ref e.1) ∧ Same H7 Hc ∧ Hc acc = some (.lst ys)) ⟨Nat.zero_le _, rfl, same_upd hacc, upd_same⟩ ?_ ?_ ?_⟩
        · rintro i ys Hc ⟨hi, _, sc, _⟩
          exact ⟨by rw [List.length_map]; exact hi, SqL.of (sc _ _ hq0)⟩
        · rintro i x ys Hc hx ⟨hi, rfl, sc, hac⟩
          obtain ⟨e, he, rfl⟩ := ref_get hx
          have hilt : i < es.length := (List.getElem?_eq_some_iff.mp he).1
          have hem := List.mem_of_getElem? he
          have hel1 := sc _ _ (hes e hem).2.2
          have hpe : Press e.2 sw.length := mem_presses.mp (by rw [← hp]; exact List.mem_map_of_mem hem)
          have kpc := kp7.same sc
          refine ⟨_, rfl, _, rfl, st, wi, rfl, rfl, _, rfl, _, rfl, t, l, e.1, n, sw, e.2, rfl, kpc.t, kpc.l, hel1, hpe.lt, st ^^^ wi, turned sw e.2, rfl, rfl, _, rfl, _, _, rfl, rfl, rfl, _, rfl, ?_⟩
          have fl : (((es.take i).filter fun e => bringsB sw (castL e.2) st wi as).map fun e => V.ref e.1).length ≤ es.length := by
            rw [List.length_map]
            exact Nat.le_trans (List.length_filter_le _ _) (by rw [List.length_take]; omega)
          have eb : decide (nv ((st ^^^ wi ^^^ turned sw e.2) &&& as) = V.int 0) = bringsB sw (castL e.2) st wi as := by rw [dec_nv0, brings_press hpe]
          refine ite2 (fun hb => ?_) (fun hb => ?_)
          · refine ⟨_, rfl, hac, small1000 (by omega), hilt, ?_, fun b o e' => ?_, upd_same⟩
            · rw [take_filter_snoc he, if_pos (eb.symm.trans hb), List.map_append]
              rfl
            · rw [upd_ne (ne_of_none e' hacc)]
              exact sc _ _ e'
          · refine ⟨hilt, ?_, sc, hac⟩
            rw [take_filter_snoc he, if_neg (fun z => hb (eb.trans z)), List.append_nil]
        · rintro ys H8 ⟨_, rfl, s8, hac⟩
          rw [List.length_map, List.take_length] at hac
          have kp8 := kp7.same s8
          have sm8 := sm6.trans (s7.trans s8)
          have hd8 : DueAt H8 acc (es.filter fun e => bringsB sw (castL e.2) st wi as) := ⟨hac, fun e he => s8 _ _ (hes e (List.mem_filter.mp he).1).2.2⟩
          have hdue : (es.filter fun e => bringsB sw (castL e.2) st wi as).map (·.2) = due sw st wi as := by
            unfold due
            rw [← hp, List.filter_map]
            rfl
          have hfl : (es.filter fun e => bringsB sw (castL e.2) st wi as).length ≤ 256 := Nat.le_trans (List.length_filter_le _ _) hel
          generalize (es.filter fun e => bringsB sw (castL e.2) st wi as) = ds at hd8 hdue hac hfl
          refine ⟨2, rfl, by decide, by decide, for_range (n := 2) (fun _ σ H' => ∃ y9 y10, σ = [some (.ref a), some (.ref t), some (.ref h), some (nv i), some (.int (c + 977 * (i : Int))), some (nv st), some (nv wi), some (nv as), some (.ref acc), y9, y10] ∧ Kept C H' t l h n sw ∧ Same H H' ∧ DueAt H' acc ds)
            ⟨_, _, rfl, kp8, sm8, hd8⟩ ?_ ?_⟩
          · rintro j σ H9 _ ⟨y9, y10, rfl, kp9, sm9, hd9⟩
            refine ⟨_, rfl, _, rfl, _, rfl, _, rfl, _, rfl, _, rfl, t, l, h, acc, n, sw, st, wi, as, ds, rfl, kp9.t, kp9.l, kp9.h, g, hst, hwi, has, hd9, hdue, fun H10 s10 => ⟨_, rfl, ?_⟩⟩
            refine iteF ?_
            have kp10 := kp9.same s10
            have hd10 := hd9.same s10
            refine ⟨_, rfl, _, rfl, _, rfl, _, rfl, h, n, sw, st, wi, as, rfl, kp10.h, g, hst, hwi, has, fun q1 fs H11 s11 nq1 hq1 hfs hfd => ?_⟩
            have kp11 := kp10.same s11
            have hd11 := hd10.same s11
            refine ⟨_, rfl, .ref q1, "list", _, true, rfl, .lst hq1, by rfl, _, rfl, ?_⟩
            refine iteF ?_
            refine ⟨_, rfl, _, rfl, q1, acc, fs.map (fun e => (e.1, castL e.2)), ds.map (fun e => (e.1, castL e.2)), rfl, rfl, SqL.of (by rw [List.map_map]; exact hq1), SqL.of (by rw [List.map_map]; exact hd11.q1), fun e he => ?_, fun e he => ?_, _, rfl, ?_⟩
            · obtain ⟨e', he', rfl⟩ := List.mem_map.mp he
              exact SqL.of (by rw [castL_nv]; exact (hfs e' he').2.2)
            · obtain ⟨e', he', rfl⟩ := List.mem_map.mp he
              exact SqL.of (by rw [castL_nv]; exact hd11.all e' he')
            have efd : (fs.map (fun e => (e.1, castL e.2))).map (·.2) = (ds.map (fun e => (e.1, castL e.2))).map (·.2) := by
              have e1 : fs.map (·.2) = ds.map (·.2) := hfd.trans hdue.symm
              have e2 := congrArg (List.map castL) e1
              rw [List.map_map, List.map_map] at e2
              rw [List.map_map, List.map_map]
              exact e2
            refine iteB (by rw [decide_eq_true efd]; rfl) ?_
            have hfsl : fs.length ≤ 256 := by
              have := congrArg List.length (hfd.trans hdue.symm)
              rw [List.length_map, List.length_map] at this
              omega
            refine ⟨_, rfl, q1, rfl, ⟨_, SqL.of hq1⟩, fun acc2 hacc2 => comp_list (K := K) (a := q1) (xs := fs.map fun e => V.ref e.1) (fun i ys Hc => i ≤ fs.length ∧ ys = (List.replicate i true).map V.bl ∧ Hc = upd H11 acc2 (.lst ys)) ⟨Nat.zero_le _, rfl, rfl⟩ ?_ ?_ ?_⟩
            · rintro i ys Hc ⟨hi, _, rfl⟩
              exact ⟨by rw [List.length_map]; exact hi, SqL.of (by rw [upd_ne (ne_of_none hq1 hacc2)]; exact hq1)⟩
            · rintro i y ys Hc hy ⟨hi, rfl, rfl⟩
              obtain ⟨e, he, rfl⟩ := ref_get hy
              have hilt : i < fs.length := (List.getElem?_eq_some_iff.mp he).1
              have hem := List.mem_of_getElem? he
              have he3 := (hfs e hem).2.2
              have hpe : Press e.2 sw.length := by
                have : e.2 ∈ due sw st wi as := by rw [← hfd]; exact List.mem_map_of_mem hem
                exact mem_presses.mp (List.mem_filter.mp this).1
              have sx := same_upd (o := .lst ((List.replicate i true).map V.bl)) hacc2
              refine tTrue_mk ?_
              refine iteT ?_
              refine ⟨_, rfl, _, rfl, t, _, _, _, rfl, rfl, SqT.of (sx _ _ kp11.t), atI_nat (j := 1) rfl, l, _, rfl, .inl (SqL.of (sx _ _ kp11.l)), e.1, _, castL e.2, rfl, (by rw [castL_nv]; exact sx _ _ he3), upd_same, ?_, hilt, ?_, ?_⟩
              · rw [List.length_map, List.length_replicate]
                exact small1000 (by omega)
              · rw [List.length_map, rise_ok hpe, List.replicate_succ', List.map_append]
                rfl
              · rw [upd_upd]
            · rintro ys Hc ⟨_, rfl, rfl⟩
              refine ⟨acc2, List.replicate (fs.map fun e => V.ref e.1).length true, rfl, SqL.of upd_same, _, rfl, ?_⟩
              refine iteB (by simp) ?_
              have s12 := same_upd (o := .lst ((List.replicate (fs.map fun e => V.ref e.1).length true).map V.bl)) hacc2
              have hq12 := s12 _ _ hq1
              have kp12 := kp11.same s12
              have hd12 := hd11.same s12
              have sm12 := sm9.trans (s10.trans (s11.trans s12))
              have hfs12 : ∀ e ∈ fs, H9 e.1 = none ∧ upd H11 acc2 (.lst ((List.replicate (fs.map fun e => V.ref e.1).length true).map V.bl)) e.1 = some (.lst (e.2.map nv)) := fun e he => ⟨s10.free (hfs e he).1, s12 _ _ (hfs e he).2.2⟩
              have nq9 : H9 q1 = none := s10.free nq1
              have s912 := s10.trans (s11.trans s12)
              generalize upd H11 acc2 (.lst ((List.replicate (fs.map fun e => V.ref e.1).length true).map V.bl)) = H12 at s12 hq12 kp12 hd12 sm12 hfs12 s912
              refine ⟨_, rfl, Nat.zero_le _, fun e0 he0 => ?_⟩
              have s13 := same_upd (o := .lst []) he0
              refine ⟨q1, e0, fs.map (fun e => (e.1, castL e.2)), [], rfl, rfl, SqL.of (by rw [List.map_map]; exact s13 _ _ hq12), SqL.of upd_same, fun e he => ?_, (fun _ z => nomatch z), _, rfl, ?_⟩
              · obtain ⟨e', he', rfl⟩ := List.mem_map.mp he
                exact SqL.of (by rw [castL_nv]; exact s13 _ _ (hfs12 e' he').2)
              have fin : ∀ H13, (∀ b o, H9 b = some o → H13 b = some o) → H13 q1 = some (.lst (fs.map fun e => V.ref e.1)) → ∀ D : Ends, D.nx = (fun σ H' => ∃ y9 y10, σ = [some (.ref a), some (.ref t), some (.ref h), some (nv i), some (.int (c + 977 * (i : Int))), some (nv st), some (nv wi), some (nv as), some (.ref acc), y9, y10] ∧ Kept C H' t l h n sw ∧ Same H H' ∧ DueAt H' acc ds) →
                  tGrow D [some (.ref a), some (.ref t), some (.ref h), some (nv i), some (.int (c + 977 * (i : Int))), some (nv st), some (nv wi), some (nv as), some (.ref acc), some (.int (0 + (j : Int))), some (.ref q1)] H13 := fun H13 s913 hq13 D hD =>
                ⟨_, _, _, _, _, _, _, _, _, _, q1, fs, rfl, hq13, hfsl, fun H' kp' => by
                  rw [hD]
                  have sx : Same H9 H' := fun b o e => kp' b o (s913 b o e) (ne_of_none e nq9)
                  exact ⟨_, _, rfl, kp9.same sx, sm9.trans sx, hd9.same sx⟩⟩
              have s913 : Same H9 (upd H12 e0 (.lst [])) := s912.trans s13
              have hq13 := s13 _ _ hq12
              refine ite2 (fun hne => ?_) (fun hne => ?_)
              · cases fs with
                | nil => exact absurd hne (by decide)
                | cons e1 fr =>
                  have h1 := hfs12 e1 (.head _)
                  have h13 := s13 _ _ h1.2
                  have nq : q1 ≠ e1.1 := Ne.symm (hfs e1 (.head _)).2.1
                  have hl8 : e1.2.length ≤ 8 := by
                    have : e1.2 ∈ due sw st wi as := by rw [← hfd]; exact .head _
                    exact Nat.le_trans (press_len (mem_presses.mp (List.mem_filter.mp this).1)) g.s8
                  refine ⟨_, rfl, q1, _, 0, .ref e1.1, rfl, rfl, SqL.of hq13, atI_nat (j := 0) rfl, .inl ⟨rfl, _, SqL.of h13⟩, e1.1, _, _, rfl, rfl, h13, (by rw [List.length_map]; exact small9 (by omega)), ?_⟩
                  refine fin _ (fun b o e => ?_) (by rw [upd_ne nq]; exact hq13) _ rfl
                  rw [upd_ne (ne_of_none e h1.1)]
                  exact s913 b o e
              · exact fin _ s913 hq13 _ rfl
          · rintro σ H9 ⟨y9, y10, rfl, kp9, sm9, _⟩
            exact ⟨_, _, _, _, _, _, _, _, rfl, kp9, sm9⟩
      · rintro σ H' ⟨y3, y4, y5, y6, y7, y8, y9, y10, rfl, kp, sm⟩
        exact q _
end
end Sw
namespace Sw
open PySem L2
theorem cls_some {K : PySem.W.Frag} {B : Addr} (hm : PySem.W.mroIn K B (.type "object") = some true) : (PySem.W.clsIn K B).isSome = true := by
  unfold PySem.W.mroIn at hm
  cases e : PySem.W.clsIn K B with
  | none => rw [e] at hm; cases hm
  | some cd => rfl
theorem kit_sub {K : PySem.W.Frag} {A B : Addr} {b : Bool} (hm : PySem.W.mroIn K B (.type "object") = some true) (ht : PySem.W.typeIn K (.ref B) = some (.type "type")) (hs : PySem.W.subIn K (.ref A) (.ref B) = some b) : PySem.W.kitCls K (.ref A) (.ref B) = some b := by
  show (if ((PySem.W.clsIn K B).isSome && PySem.W.typeIn K (.ref B) == some (.type "type")) = true then PySem.W.subIn K (.ref A) (.ref B) else none) = some b
  rw [cls_some hm, ht, if_pos (by decide)]
  exact hs
theorem kit_t {K : PySem.W.Frag} {A B : Addr} (hm : PySem.W.mroIn K B (.type "object") = some true) (ht : PySem.W.typeIn K (.ref B) = some (.type "type")) (hs : PySem.W.subIn K (.ref A) (.ref B) = some true) : PySem.W.kitOne K (.ref A) (.ref B) = some true := by
  unfold PySem.W.kitOne
  split
  · rfl
  · exact kit_sub hm ht hs
theorem kit_f {K : PySem.W.Frag} {A B : Addr} (hm : PySem.W.mroIn K B (.type "object") = some true) (ht : PySem.W.typeIn K (.ref B) = some (.type "type")) (hs : PySem.W.subIn K (.ref A) (.ref B) = some false) (hss : PySem.W.subIn K (.ref A) (.ref A) = some true) : PySem.W.kitOne K (.ref A) (.ref B) = some false := by
  unfold PySem.W.kitOne
  split
  · rename_i h
    have e : Value.ref A = Value.ref B := eq_of_beq h
    rw [← e, hss] at hs
    cases hs
  · exact kit_sub hm ht hs
end Sw
namespace Sw
open PySem L2
theorem all_mk {l : PySem.W.OpenLaw} {w : World} {K : PySem.W.Frag} {h : Heap} {mg : Str → Option Value} {fa : Addr} {C CP CE CA f1 f2 f3 f4 f5 f6 f7 f8 f9 f10 f11 f12 f13 f14 f15 f16 f17 f18 f19 f20 f21 f22 f23 f24 f25 f26 f27 : Addr} {tk0 tk1 : Tok}
    {od1 an1 od2 an2 od3 an3 od4 an4 od5 an5 od6 an6 od7 an7 od8 an8 od9 an9 od10 an10 od11 an11 od12 an12 od13 an13 od14 an14 od15 an15 od16 an16 od17 an17 od18 an18 od19 an19 od20 an20 od21 an21 od22 an22 od23 an23 od24 an24 od25 an25 od26 an26 od27 an27 : Option Addr} {sl1 sl2 sl3 sl4 sl5 sl6 sl7 sl8 sl9 sl10 sl11 sl12 sl13 sl14 sl15 sl16 sl17 sl18 sl19 sl20 sl21 sl22 sl23 sl24 sl25 sl26 sl27 : Array (Option Value)} {oc1 kV1 dc1 pm1 cd1 ct1 oc2 kV2 dc2 pm2 cd2 ct2 oc3 kV3 dc3 pm3 cd3 ct3 oc4 kV4 dc4 pm4 cd4 ct4 oc5 kV5 dc5 pm5 cd5 ct5 oc6 kV6 dc6 pm6 cd6 ct6 oc7 kV7 dc7 pm7 cd7 ct7 oc8 kV8 dc8 pm8 cd8 ct8 oc9 kV9 dc9 pm9 cd9 ct9 oc10 kV10 dc10 pm10 cd10 ct10 oc11 kV11 dc11 pm11 cd11 ct11 oc12 kV12 dc12 pm12 cd12 ct12 oc13 kV13 dc13 pm13 cd13 ct13 oc14 kV14 dc14 pm14 cd14 ct14 oc15 kV15 dc15 pm15 cd15 ct15 oc16 kV16 dc16 pm16 cd16 ct16 oc17 kV17 dc17 pm17 cd17 ct17 oc18 kV18 dc18 pm18 cd18 ct18 oc19 kV19 dc19 pm19 cd19 ct19 oc20 kV20 dc20 pm20 cd20 ct20 oc21 kV21 dc21 pm21 cd21 ct21 oc22 kV22 dc22 pm22 cd22 ct22 oc23 kV23 dc23 pm23 cd23 ct23 oc24 kV24 dc24 pm24 cd24 ct24 oc25 kV25 dc25 pm25 cd25 ct25 oc26 kV26 dc26 pm26 cd26 ct26 oc27 kV27 dc27 pm27 cd27 ct27 : Value}
  (X : K.In h) (G : h.Ns mainGlobals mg) (hfa : mg "law" = some (.ref fa))
    (aC : PySem.W.nsIn K mainGlobals "House" = some (some (.ref C)))
    (aCP : PySem.W.nsIn K mainGlobals "Press" = some (some (.ref CP)))
    (aCE : PySem.W.nsIn K mainGlobals "Even" = some (some (.ref CE)))
    (aCA : PySem.W.nsIn K mainGlobals "Answer" = some (some (.ref CA)))
    (a1 : PySem.W.findIn K (.ref C) "__init__" = some (some (.ref f1))) (i1 : PySem.W.isFn K (.ref f1) = true)
    (l1 : K.lookup f1 = some ⟨oc1, od1, .func (PySem.W.fnOf "__init__" "House.__init__" (defArgs sInit) (defBody sInit) (defScope sInit) .none kV1 dc1 pm1 an1 cd1 ct1), sl1⟩) (c1 : PySem.W.codeIn K cd1 "House.__init__" = true) (k1 : PySem.W.keepIn K (.ref f1) = true)
    (a2 : PySem.W.findIn K (.ref C) "switches" = some (some (.ref f2))) (i2 : PySem.W.isFn K (.ref f2) = true)
    (l2 : K.lookup f2 = some ⟨oc2, od2, .func (PySem.W.fnOf "switches" "House.switches" (defArgs sSwitches) (defBody sSwitches) (defScope sSwitches) .none kV2 dc2 pm2 an2 cd2 ct2), sl2⟩) (c2 : PySem.W.codeIn K cd2 "House.switches" = true) (k2 : PySem.W.keepIn K (.ref f2) = true)
    (a3 : PySem.W.findIn K (.ref CP) "__init__" = some (some (.ref f3))) (i3 : PySem.W.isFn K (.ref f3) = true)
    (l3 : K.lookup f3 = some ⟨oc3, od3, .func (PySem.W.fnOf "__init__" "Press.__init__" (defArgs sPInit) (defBody sPInit) (defScope sPInit) .none kV3 dc3 pm3 an3 cd3 ct3), sl3⟩) (c3 : PySem.W.codeIn K cd3 "Press.__init__" = true) (k3 : PySem.W.keepIn K (.ref f3) = true)
    (a4 : PySem.W.findIn K (.ref CP) "brings" = some (some (.ref f4))) (i4 : PySem.W.isFn K (.ref f4) = true)
    (l4 : K.lookup f4 = some ⟨oc4, od4, .func (PySem.W.fnOf "brings" "Press.brings" (defArgs sBrings) (defBody sBrings) (defScope sBrings) .none kV4 dc4 pm4 an4 cd4 ct4), sl4⟩) (c4 : PySem.W.codeIn K cd4 "Press.brings" = true) (k4 : PySem.W.keepIn K (.ref f4) = true)
    (a5 : PySem.W.findIn K (.ref CE) "__init__" = some (some (.ref f5))) (i5 : PySem.W.isFn K (.ref f5) = true)
    (l5 : K.lookup f5 = some ⟨oc5, od5, .func (PySem.W.fnOf "__init__" "Even.__init__" (defArgs sEInit) (defBody sEInit) (defScope sEInit) .none kV5 dc5 pm5 an5 cd5 ct5), sl5⟩) (c5 : PySem.W.codeIn K cd5 "Even.__init__" = true) (k5 : PySem.W.keepIn K (.ref f5) = true)
    (a6 : PySem.W.findIn K (.ref CE) "bars" = some (some (.ref f6))) (i6 : PySem.W.isFn K (.ref f6) = true)
    (l6 : K.lookup f6 = some ⟨oc6, od6, .func (PySem.W.fnOf "bars" "Even.bars" (defArgs sBars) (defBody sBars) (defScope sBars) .none kV6 dc6 pm6 an6 cd6 ct6), sl6⟩) (c6 : PySem.W.codeIn K cd6 "Even.bars" = true) (k6 : PySem.W.keepIn K (.ref f6) = true)
    (a7 : PySem.W.nsIn K mainGlobals "is_number" = some (some (.ref f7)))
    (l7 : K.lookup f7 = some ⟨oc7, od7, .func (PySem.W.fnOf "is_number" "is_number" (defArgs sIsNumber) (defBody sIsNumber) (defScope sIsNumber) .none kV7 dc7 pm7 an7 cd7 ct7), sl7⟩) (c7 : PySem.W.codeIn K cd7 "is_number" = true) (k7 : PySem.W.keepIn K (.ref f7) = true)
    (a8 : PySem.W.nsIn K mainGlobals "are_lamps" = some (some (.ref f8)))
    (l8 : K.lookup f8 = some ⟨oc8, od8, .func (PySem.W.fnOf "are_lamps" "are_lamps" (defArgs sAreLamps) (defBody sAreLamps) (defScope sAreLamps) .none kV8 dc8 pm8 an8 cd8 ct8), sl8⟩) (c8 : PySem.W.codeIn K cd8 "are_lamps" = true) (k8 : PySem.W.keepIn K (.ref f8) = true)
    (a9 : PySem.W.nsIn K mainGlobals "is_press" = some (some (.ref f9)))
    (l9 : K.lookup f9 = some ⟨oc9, od9, .func (PySem.W.fnOf "is_press" "is_press" (defArgs sIsPress) (defBody sIsPress) (defScope sIsPress) .none kV9 dc9 pm9 an9 cd9 ct9), sl9⟩) (c9 : PySem.W.codeIn K cd9 "is_press" = true) (k9 : PySem.W.keepIn K (.ref f9) = true)
    (a10 : PySem.W.nsIn K mainGlobals "turned_by" = some (some (.ref f10)))
    (l10 : K.lookup f10 = some ⟨oc10, od10, .func (PySem.W.fnOf "turned_by" "turned_by" (defArgs sTurnedBy) (defBody sTurnedBy) (defScope sTurnedBy) .none kV10 dc10 pm10 an10 cd10 ct10), sl10⟩) (c10 : PySem.W.codeIn K cd10 "turned_by" = true) (k10 : PySem.W.keepIn K (.ref f10) = true)
    (a11 : PySem.W.nsIn K mainGlobals "is_odd" = some (some (.ref f11)))
    (l11 : K.lookup f11 = some ⟨oc11, od11, .func (PySem.W.fnOf "is_odd" "is_odd" (defArgs sIsOdd) (defBody sIsOdd) (defScope sIsOdd) .none kV11 dc11 pm11 an11 cd11 ct11), sl11⟩) (c11 : PySem.W.codeIn K cd11 "is_odd" = true) (k11 : PySem.W.keepIn K (.ref f11) = true)
    (a12 : PySem.W.nsIn K mainGlobals "refuse_wrong_lamps" = some (some (.ref f12)))
    (l12 : K.lookup f12 = some ⟨oc12, od12, .func (PySem.W.fnOf "refuse_wrong_lamps" "refuse_wrong_lamps" (defArgs sRefuse) (defBody sRefuse) (defScope sRefuse) .none kV12 dc12 pm12 an12 cd12 ct12), sl12⟩) (c12 : PySem.W.codeIn K cd12 "refuse_wrong_lamps" = true) (k12 : PySem.W.keepIn K (.ref f12) = true)
    (a13 : PySem.W.nsIn K mainGlobals "presses_of" = some (some (.ref f13)))
    (l13 : K.lookup f13 = some ⟨oc13, od13, .func (PySem.W.fnOf "presses_of" "presses_of" (defArgs sPressesOf) (defBody sPressesOf) (defScope sPressesOf) .none kV13 dc13 pm13 an13 cd13 ct13), sl13⟩) (c13 : PySem.W.codeIn K cd13 "presses_of" = true) (k13 : PySem.W.keepIn K (.ref f13) = true)
    (a14 : PySem.W.nsIn K mainGlobals "all_presses" = some (some (.ref f14)))
    (l14 : K.lookup f14 = some ⟨oc14, od14, .func (PySem.W.fnOf "all_presses" "all_presses" (defArgs sAll) (defBody sAll) (defScope sAll) .none kV14 dc14 pm14 an14 cd14 ct14), sl14⟩) (c14 : PySem.W.codeIn K cd14 "all_presses" = true) (k14 : PySem.W.keepIn K (.ref f14) = true)
    (a15 : PySem.W.nsIn K mainGlobals "telling" = some (some (.ref f15)))
    (l15 : K.lookup f15 = some ⟨oc15, od15, .func (PySem.W.fnOf "telling" "telling" (defArgs sTelling) (defBody sTelling) (defScope sTelling) .none kV15 dc15 pm15 an15 cd15 ct15), sl15⟩) (c15 : PySem.W.codeIn K cd15 "telling" = true) (k15 : PySem.W.keepIn K (.ref f15) = true)
    (a16 : PySem.W.nsIn K mainGlobals "_law_cell_at" = some (some (.ref f16)))
    (l16 : K.lookup f16 = some ⟨oc16, od16, .func (PySem.W.fnOf "_law_cell_at" "_law_cell_at" (defArgs sCellAt) (defBody sCellAt) (defScope sCellAt) .none kV16 dc16 pm16 an16 cd16 ct16), sl16⟩) (c16 : PySem.W.codeIn K cd16 "_law_cell_at" = true) (k16 : PySem.W.keepIn K (.ref f16) = true)
    (a17 : PySem.W.nsIn K mainGlobals "_law_draw" = some (some (.ref f17)))
    (l17 : K.lookup f17 = some ⟨oc17, od17, .func (PySem.W.fnOf "_law_draw" "_law_draw" (defArgs sDraw) (defBody sDraw) (defScope sDraw) .none kV17 dc17 pm17 an17 cd17 ct17), sl17⟩) (c17 : PySem.W.codeIn K cd17 "_law_draw" = true) (k17 : PySem.W.keepIn K (.ref f17) = true)
    (a18 : PySem.W.nsIn K mainGlobals "_law_told" = some (some (.ref f18)))
    (l18 : K.lookup f18 = some ⟨oc18, od18, .func (PySem.W.fnOf "_law_told" "_law_told" (defArgs sTold) (defBody sTold) (defScope sTold) .none kV18 dc18 pm18 an18 cd18 ct18), sl18⟩) (c18 : PySem.W.codeIn K cd18 "_law_told" = true) (k18 : PySem.W.keepIn K (.ref f18) = true)
    (a19 : PySem.W.nsIn K mainGlobals "_law_bits" = some (some (.ref f19)))
    (l19 : K.lookup f19 = some ⟨oc19, od19, .func (PySem.W.fnOf "_law_bits" "_law_bits" (defArgs sBits) (defBody sBits) (defScope sBits) .none kV19 dc19 pm19 an19 cd19 ct19), sl19⟩) (c19 : PySem.W.codeIn K cd19 "_law_bits" = true) (k19 : PySem.W.keepIn K (.ref f19) = true)
    (a20 : PySem.W.nsIn K mainGlobals "_law_turned" = some (some (.ref f20)))
    (l20 : K.lookup f20 = some ⟨oc20, od20, .func (PySem.W.fnOf "_law_turned" "_law_turned" (defArgs sTurned) (defBody sTurned) (defScope sTurned) .none kV20 dc20 pm20 an20 cd20 ct20), sl20⟩) (c20 : PySem.W.codeIn K cd20 "_law_turned" = true) (k20 : PySem.W.keepIn K (.ref f20) = true)
    (a21 : PySem.W.nsIn K mainGlobals "_law_presses" = some (some (.ref f21)))
    (l21 : K.lookup f21 = some ⟨oc21, od21, .func (PySem.W.fnOf "_law_presses" "_law_presses" (defArgs sPresses) (defBody sPresses) (defScope sPresses) .none kV21 dc21 pm21 an21 cd21 ct21), sl21⟩) (c21 : PySem.W.codeIn K cd21 "_law_presses" = true) (k21 : PySem.W.keepIn K (.ref f21) = true)
    (a22 : PySem.W.nsIn K mainGlobals "_law_is_press" = some (some (.ref f22)))
    (l22 : K.lookup f22 = some ⟨oc22, od22, .func (PySem.W.fnOf "_law_is_press" "_law_is_press" (defArgs sIsPressL) (defBody sIsPressL) (defScope sIsPressL) .none kV22 dc22 pm22 an22 cd22 ct22), sl22⟩) (c22 : PySem.W.codeIn K cd22 "_law_is_press" = true) (k22 : PySem.W.keepIn K (.ref f22) = true)
    (a23 : PySem.W.nsIn K mainGlobals "_law_number" = some (some (.ref f23)))
    (l23 : K.lookup f23 = some ⟨oc23, od23, .func (PySem.W.fnOf "_law_number" "_law_number" (defArgs sNumber) (defBody sNumber) (defScope sNumber) .none kV23 dc23 pm23 an23 cd23 ct23), sl23⟩) (c23 : PySem.W.codeIn K cd23 "_law_number" = true) (k23 : PySem.W.keepIn K (.ref f23) = true)
    (a24 : PySem.W.nsIn K mainGlobals "_law_brought" = some (some (.ref f24)))
    (l24 : K.lookup f24 = some ⟨oc24, od24, .func (PySem.W.fnOf "_law_brought" "_law_brought" (defArgs sBrought) (defBody sBrought) (defScope sBrought) .none kV24 dc24 pm24 an24 cd24 ct24), sl24⟩) (c24 : PySem.W.codeIn K cd24 "_law_brought" = true) (k24 : PySem.W.keepIn K (.ref f24) = true)
    (a25 : PySem.W.nsIn K mainGlobals "_law_says" = some (some (.ref f25)))
    (l25 : K.lookup f25 = some ⟨oc25, od25, .func (PySem.W.fnOf "_law_says" "_law_says" (defArgs sSays) (defBody sSays) (defScope sSays) .none kV25 dc25 pm25 an25 cd25 ct25), sl25⟩) (c25 : PySem.W.codeIn K cd25 "_law_says" = true) (k25 : PySem.W.keepIn K (.ref f25) = true)
    (a26 : PySem.W.nsIn K mainGlobals "_law_right" = some (some (.ref f26)))
    (l26 : K.lookup f26 = some ⟨oc26, od26, .func (PySem.W.fnOf "_law_right" "_law_right" (defArgs sRight) (defBody sRight) (defScope sRight) .none kV26 dc26 pm26 an26 cd26 ct26), sl26⟩) (c26 : PySem.W.codeIn K cd26 "_law_right" = true) (k26 : PySem.W.keepIn K (.ref f26) = true)
    (a27 : PySem.W.nsIn K mainGlobals "law" = some (some (.ref f27)))
    (l27 : K.lookup f27 = some ⟨oc27, od27, .func (PySem.W.fnOf "law" "law" (defArgs sLaw) (defBody sLaw) (defScope sLaw) .none kV27 dc27 pm27 an27 cd27 ct27), sl27⟩) (c27 : PySem.W.codeIn K cd27 "law" = true) (k27 : PySem.W.keepIn K (.ref f27) = true)
    (pgC : PySem.W.plainGet K C Str.empty = true) (hdC : PySem.W.hasDictIn K C = true) (poC : PySem.W.plainOver K C = true) (saC : PySem.W.findIn K (.ref C) "__setattr__" = some (some (.builtin "object.__setattr__"))) (mkC : PySem.W.makesIn K C = true) (kcC : PySem.W.keepIn K (.ref C) = true)
    (pgCP : PySem.W.plainGet K CP Str.empty = true) (hdCP : PySem.W.hasDictIn K CP = true) (poCP : PySem.W.plainOver K CP = true) (saCP : PySem.W.findIn K (.ref CP) "__setattr__" = some (some (.builtin "object.__setattr__"))) (mkCP : PySem.W.makesIn K CP = true) (kcCP : PySem.W.keepIn K (.ref CP) = true)
    (pgCE : PySem.W.plainGet K CE Str.empty = true) (hdCE : PySem.W.hasDictIn K CE = true) (poCE : PySem.W.plainOver K CE = true) (saCE : PySem.W.findIn K (.ref CE) "__setattr__" = some (some (.builtin "object.__setattr__"))) (mkCE : PySem.W.makesIn K CE = true) (kcCE : PySem.W.keepIn K (.ref CE) = true)
    (pgCA : PySem.W.plainGet K CA Str.empty = true) (hdCA : PySem.W.hasDictIn K CA = true) (poCA : PySem.W.plainOver K CA = true) (saCA : PySem.W.findIn K (.ref CA) "__setattr__" = some (some (.builtin "object.__setattr__"))) (mkCA : PySem.W.makesIn K CA = true) (kcCA : PySem.W.keepIn K (.ref CA) = true)
    (na0 : PySem.W.findIn K (.ref C) "lamps" = some none)
    (na1 : PySem.W.findIn K (.ref C) "wiring" = some none)
    (na2 : PySem.W.findIn K (.ref CP) "press" = some none)
    (na3 : PySem.W.findIn K (.ref CE) "lamps" = some none)
    (co0 : PySem.W.nsIn K mainGlobals "MOST_LAMPS" = some (some (.int 10 tk0)))
    (co1 : PySem.W.nsIn K mainGlobals "MOST_SWITCHES" = some (some (.int 8 tk1)))
    (z_len : PySem.W.nsIn K mainGlobals "len" = some none)
    (z_range : PySem.W.nsIn K mainGlobals "range" = some none)
    (z_isinstance : PySem.W.nsIn K mainGlobals "isinstance" = some none)
    (z_int : PySem.W.nsIn K mainGlobals "int" = some none)
    (z_bool : PySem.W.nsIn K mainGlobals "bool" = some none)
    (z_list : PySem.W.nsIn K mainGlobals "list" = some none)
    (z_tuple : PySem.W.nsIn K mainGlobals "tuple" = some none)
    (z_all : PySem.W.nsIn K mainGlobals "all" = some none)
    (z_sorted : PySem.W.nsIn K mainGlobals "sorted" = some none)
    (z_min : PySem.W.nsIn K mainGlobals "min" = some none)
    (clCP : PySem.W.findIn K (.ref CP) "__class__" = some (some (.builtin "object.__class__")))
    (mrCP : PySem.W.mroIn K CP (.type "object") = some true)
    (clCE : PySem.W.findIn K (.ref CE) "__class__" = some (some (.builtin "object.__class__")))
    (mrCE : PySem.W.mroIn K CE (.type "object") = some true)
    (cg : PySem.W.specialIn K (.builtin "object.__class__") "__get__" = some (some (.builtin "getset_descriptor.__get__")))
    (ct : PySem.W.takesIn K (.builtin "object.__class__") = some true)
    (mrCA : PySem.W.mroIn K CA (.type "object") = some true)
    (tyCA : PySem.W.typeIn K (.ref CA) = some (.type "type"))
    (tyCP : PySem.W.typeIn K (.ref CP) = some (.type "type"))
    (tyCE : PySem.W.typeIn K (.ref CE) = some (.type "type"))
    (suCPCA : PySem.W.subIn K (.ref CP) (.ref CA) = some true)
    (suCPCP : PySem.W.subIn K (.ref CP) (.ref CP) = some true)
    (suCPCE : PySem.W.subIn K (.ref CP) (.ref CE) = some false)
    (suCECA : PySem.W.subIn K (.ref CE) (.ref CA) = some true)
    (suCECP : PySem.W.subIn K (.ref CE) (.ref CP) = some false)
    (suCECE : PySem.W.subIn K (.ref CE) (.ref CE) = some true) :
    ∃ fd : FuncData, (∀ (s : Shared) (v : Value), BindsTo s fd ⟨[v], []⟩ [("_law_script", v)]) ∧ ∀ base : Heap, K.In base → base.Ns mainGlobals mg → FnOk l.prog w K mg base CX0 8 fa fd ["_law_script"] (spLaw K) := by
  have e := hfa.symm.trans (PySem.W.mg_of X G a27)
  cases e
  have F1 := fun_mk (st := sInit) l1 c1 k1
  have b1 := F1.binds (ps := ["self", "lamps", "switches"]) fun _ _ _ _ _ _ us hl => match us, hl with | [_, _, _], _ => rfl
  have F2 := fun_mk (st := sSwitches) l2 c2 k2
  have b2 := F2.binds (ps := ["self"]) fun _ _ _ _ _ _ us hl => match us, hl with | [_], _ => rfl
  have F3 := fun_mk (st := sPInit) l3 c3 k3
  have b3 := F3.binds (ps := ["self", "press"]) fun _ _ _ _ _ _ us hl => match us, hl with | [_, _], _ => rfl
  have F4 := fun_mk (st := sBrings) l4 c4 k4
  have b4 := F4.binds (ps := ["self", "house", "state", "wish", "asked"]) fun _ _ _ _ _ _ us hl => match us, hl with | [_, _, _, _, _], _ => rfl
  have F5 := fun_mk (st := sEInit) l5 c5 k5
  have b5 := F5.binds (ps := ["self", "lamps"]) fun _ _ _ _ _ _ us hl => match us, hl with | [_, _], _ => rfl
  have F6 := fun_mk (st := sBars) l6 c6 k6
  have b6 := F6.binds (ps := ["self", "house", "state", "wish", "asked"]) fun _ _ _ _ _ _ us hl => match us, hl with | [_, _, _, _, _], _ => rfl
  have F7 := fun_mk (st := sIsNumber) l7 c7 k7
  have b7 := F7.binds (ps := ["value"]) fun _ _ _ _ _ _ us hl => match us, hl with | [_], _ => rfl
  have F8 := fun_mk (st := sAreLamps) l8 c8 k8
  have b8 := F8.binds (ps := ["count", "value"]) fun _ _ _ _ _ _ us hl => match us, hl with | [_, _], _ => rfl
  have F9 := fun_mk (st := sIsPress) l9 c9 k9
  have b9 := F9.binds (ps := ["house", "value"]) fun _ _ _ _ _ _ us hl => match us, hl with | [_, _], _ => rfl
  have F10 := fun_mk (st := sTurnedBy) l10 c10 k10
  have b10 := F10.binds (ps := ["house", "press"]) fun _ _ _ _ _ _ us hl => match us, hl with | [_, _], _ => rfl
  have F11 := fun_mk (st := sIsOdd) l11 c11 k11
  have b11 := F11.binds (ps := ["lamps"]) fun _ _ _ _ _ _ us hl => match us, hl with | [_], _ => rfl
  have F12 := fun_mk (st := sRefuse) l12 c12 k12
  have b12 := F12.binds (ps := ["house", "state", "wish", "asked"]) fun _ _ _ _ _ _ us hl => match us, hl with | [_, _, _, _], _ => rfl
  have F13 := fun_mk (st := sPressesOf) l13 c13 k13
  have b13 := F13.binds (ps := ["house"]) fun _ _ _ _ _ _ us hl => match us, hl with | [_], _ => rfl
  have F14 := fun_mk (st := sAll) l14 c14 k14
  have b14 := F14.binds (ps := ["house", "state", "wish", "asked"]) fun _ _ _ _ _ _ us hl => match us, hl with | [_, _, _, _], _ => rfl
  have F15 := fun_mk (st := sTelling) l15 c15 k15
  have b15 := F15.binds (ps := ["house", "state", "wish", "asked"]) fun _ _ _ _ _ _ us hl => match us, hl with | [_, _, _, _], _ => rfl
  have F16 := fun_mk (st := sCellAt) l16 c16 k16
  have b16 := F16.binds (ps := ["_law_script", "_law_k"]) fun _ _ _ _ _ _ us hl => match us, hl with | [_, _], _ => rfl
  have F17 := fun_mk (st := sDraw) l17 c17 k17
  have b17 := F17.binds (ps := ["_law_cell", "_law_k", "_law_many"]) fun _ _ _ _ _ _ us hl => match us, hl with | [_, _, _], _ => rfl
  have F18 := fun_mk (st := sTold) l18 c18 k18
  have b18 := F18.binds (ps := ["_law_script", "_law_first"]) fun _ _ _ _ _ _ us hl => match us, hl with | [_, _], _ => rfl
  have F19 := fun_mk (st := sBits) l19 c19 k19
  have b19 := F19.binds (ps := ["_law_number_here"]) fun _ _ _ _ _ _ us hl => match us, hl with | [_], _ => rfl
  have F20 := fun_mk (st := sTurned) l20 c20 k20
  have b20 := F20.binds (ps := ["_law_told_here", "_law_press"]) fun _ _ _ _ _ _ us hl => match us, hl with | [_, _], _ => rfl
  have F21 := fun_mk (st := sPresses) l21 c21 k21
  have b21 := F21.binds (ps := ["_law_told_here"]) fun _ _ _ _ _ _ us hl => match us, hl with | [_], _ => rfl
  have F22 := fun_mk (st := sIsPressL) l22 c22 k22
  have b22 := F22.binds (ps := ["_law_found", "_law_many"]) fun _ _ _ _ _ _ us hl => match us, hl with | [_, _], _ => rfl
  have F23 := fun_mk (st := sNumber) l23 c23 k23
  have b23 := F23.binds (ps := ["_law_found", "_law_most"]) fun _ _ _ _ _ _ us hl => match us, hl with | [_, _], _ => rfl
  have F24 := fun_mk (st := sBrought) l24 c24 k24
  have b24 := F24.binds (ps := ["_law_told_here", "_law_found", "_law_state", "_law_wish", "_law_asked"]) fun _ _ _ _ _ _ us hl => match us, hl with | [_, _, _, _, _], _ => rfl
  have F25 := fun_mk (st := sSays) l25 c25 k25
  have b25 := F25.binds (ps := ["_law_house", "_law_found", "_law_state", "_law_wish", "_law_asked", "_law_due"]) fun _ _ _ _ _ _ us hl => match us, hl with | [_, _, _, _, _, _], _ => rfl
  have F26 := fun_mk (st := sRight) l26 c26 k26
  have b26 := F26.binds (ps := ["_law_told_here", "_law_house", "_law_state", "_law_wish", "_law_asked", "_law_due"]) fun _ _ _ _ _ _ us hl => match us, hl with | [_, _, _, _, _, _], _ => rfl
  have F27 := fun_mk (st := sLaw) l27 c27 k27
  have b27 := F27.binds (ps := ["_law_script"]) fun _ _ _ _ _ _ us hl => match us, hl with | [_], _ => rfl
  refine ⟨PySem.W.fnOf "law" "law" (defArgs sLaw) (defBody sLaw) (defScope sLaw) .none kV27 dc27 pm27 an27 cd27 ct27, fun s v => .of_eq rfl, fun base _ _ => ?_⟩
  have T : Txt K mg C := ⟨⟨pgC, hdC, poC, saC⟩, na0, na1, PySem.W.mg_of X G aC, ⟨_, PySem.W.mg_of X G co0⟩, ⟨_, PySem.W.mg_of X G co1⟩, PySem.W.mg_none_of X G z_len, PySem.W.mg_none_of X G z_range, PySem.W.mg_none_of X G z_isinstance, PySem.W.mg_none_of X G z_int, PySem.W.mg_none_of X G z_bool, PySem.W.mg_none_of X G z_list, PySem.W.mg_none_of X G z_tuple, PySem.W.mg_none_of X G z_all⟩
  have FN : FnAt l.prog w K mg base "is_number" 1 ["value"] (spIsNumber K) := ⟨_, _, PySem.W.mg_of X G a7, k7, b7, ok_isNumber F7 T⟩
  have FAL : FnAt l.prog w K mg base "are_lamps" 2 ["count", "value"] (spAreLamps K) := ⟨_, _, PySem.W.mg_of X G a8, k8, b8, ok_areLamps F8 FN⟩
  have MH : MkAt l.prog w K mg base "House" C 3 ["self", "lamps", "switches"] (spInit K C) := ⟨_, _, PySem.W.mg_of X G aC, ⟨mkC, a1, i1, kcC⟩, b1, ok_init F1 T FN FAL⟩
  have FS : FSw l.prog w K mg base C := ⟨_, _, ⟨a2, i2, k2⟩, b2, ok_switches F2 T⟩
  have FIP : FnAt l.prog w K mg base "is_press" 2 ["house", "value"] (spIsPress C) := ⟨_, _, PySem.W.mg_of X G a9, k9, b9, ok_isPress F9 T FN FS⟩
  have FTB : FnAt l.prog w K mg base "turned_by" 2 ["house", "press"] (spTurnedBy C) := ⟨_, _, PySem.W.mg_of X G a10, k10, b10, ok_turnedBy F10 T FS⟩
  have TA : TxtA K mg CP CE := ⟨⟨pgCP, hdCP, poCP, saCP⟩, ⟨pgCE, hdCE, poCE, saCE⟩, na2, na3⟩
  have MP : MkAt l.prog w K mg base "Press" CP 1 ["self", "press"] (spPInit CP) := ⟨_, _, PySem.W.mg_of X G aCP, ⟨mkCP, a3, i3, kcCP⟩, b3, ok_pinit F3 TA T.list⟩
  have ME : MkAt l.prog w K mg base "Even" CE 1 ["self", "lamps"] (spEInit CE) := ⟨_, _, PySem.W.mg_of X G aCE, ⟨mkCE, a5, i5, kcCE⟩, b5, ok_einit F5 TA⟩
  have FO : FnAt l.prog w K mg base "is_odd" 1 ["lamps"] spIsOdd := ⟨_, _, PySem.W.mg_of X G a11, k11, b11, ok_isOdd F11⟩
  have FBr : MethAt l.prog w K mg base CP "brings" 3 ["self", "house", "state", "wish", "asked"] (spBrings CP C) := ⟨_, _, ⟨a4, i4, k4⟩, b4, ok_brings F4 TA FIP FTB⟩
  have FBa : MethAt l.prog w K mg base CE "bars" 2 ["self", "house", "state", "wish", "asked"] (spBars CE C) := ⟨_, _, ⟨a6, i6, k6⟩, b6, ok_bars F6 TA T FN FS FO⟩
  have TI : TxtI K mg CA CP CE := ⟨PySem.W.mg_of X G aCA, PySem.W.mg_of X G aCP, PySem.W.mg_of X G aCE, fun e => .ins e TA.clP clCP cg ct mrCP, fun e => .ins e TA.clE clCE cg ct mrCE, (kit_t mrCA tyCA suCPCA), (kit_t mrCP tyCP suCPCP), (kit_f mrCE tyCE suCPCE suCPCP), (kit_t mrCA tyCA suCECA), (kit_f mrCP tyCP suCECP suCECE), (kit_t mrCE tyCE suCECE)⟩
  have FRf : FnAt l.prog w K mg base "refuse_wrong_lamps" 3 ["house", "state", "wish", "asked"] (spRefuse C) := ⟨_, _, PySem.W.mg_of X G a12, k12, b12, ok_refuse F12 T FAL⟩
  have FPO : FnAt l.prog w K mg base "presses_of" 2 ["house"] (spPressesOf C) := ⟨_, _, PySem.W.mg_of X G a13, k13, b13, ok_pressesOf F13 T FS (PySem.W.mg_none_of X G z_sorted)⟩
  have FAP : FnAt l.prog w K mg base "all_presses" 5 ["house", "state", "wish", "asked"] (spAll C) := ⟨_, _, PySem.W.mg_of X G a14, k14, b14, ok_all F14 TA FRf FPO MP FBr⟩
  have FTe : FnAt l.prog w K mg base "telling" 6 ["house", "state", "wish", "asked"] (spTelling C CP CE) := ⟨_, _, PySem.W.mg_of X G a15, k15, b15, ok_telling F15 T TA (PySem.W.mg_none_of X G z_min) FAP MP ME FBa⟩
  have FC : FCell l.prog w K mg base := ⟨_, _, PySem.W.mg_of X G a16, k16, b16, ok_cellAt F16 T.len⟩
  have FD : FDraw l.prog w K mg base := ⟨_, _, PySem.W.mg_of X G a17, k17, b17, ok_draw F17⟩
  have FT : FnAt l.prog w K mg base "_law_told" 2 ["_law_script", "_law_first"] (spTold K) := ⟨_, _, PySem.W.mg_of X G a18, k18, b18, ok_told F18 T.range FC FD⟩
  have FB : FnAt l.prog w K mg base "_law_bits" 1 ["_law_number_here"] spBits := ⟨_, _, PySem.W.mg_of X G a19, k19, b19, ok_bits F19⟩
  have FU : FnAt l.prog w K mg base "_law_turned" 1 ["_law_told_here", "_law_press"] spTurned := ⟨_, _, PySem.W.mg_of X G a20, k20, b20, ok_turned F20⟩
  have FLI : FnAt l.prog w K mg base "_law_is_press" 1 ["_law_found", "_law_many"] (spIsPressL K) := ⟨_, _, PySem.W.mg_of X G a22, k22, b22, ok_isPressL F22 T.isi T.int T.bool T.list⟩
  have FM : FnAt l.prog w K mg base "_law_number" 1 ["_law_found", "_law_most"] (spNumber K) := ⟨_, _, PySem.W.mg_of X G a23, k23, b23, ok_number F23 T⟩
  have FLP : FnAt l.prog w K mg base "_law_presses" 1 ["_law_told_here"] spPresses := ⟨_, _, PySem.W.mg_of X G a21, k21, b21, ok_presses F21 T.len T.range (PySem.W.mg_none_of X G z_sorted)⟩
  have FBg : FnAt l.prog w K mg base "_law_brought" 2 NBr (spBrought CP CE) := ⟨_, _, PySem.W.mg_of X G a24, k24, b24, ok_brought F24 T TA TI FB FU⟩
  have FSy : FnAt l.prog w K mg base "_law_says" 4 NSy0 (spSays C CP CE) := ⟨_, _, PySem.W.mg_of X G a25, k25, b25, ok_says F25 T TA TI FBr FBa⟩
  have FRi : FnAt l.prog w K mg base "_law_right" 7 NRi0 (spRight C) := ⟨_, _, PySem.W.mg_of X G a26, k26, b26, ok_right F26 T TA TI (PySem.W.mg_none_of X G z_min) FTe FLI FM FBg FSy ME FBr FBa⟩
  exact ok_law F27 T MH FC FD FT FU FLP FLI FRi FAP
theorem walk {l : PySem.W.OpenLaw} {q : Program} {loose : List Str} {XP : (Str → Option Value) → Heap → Prop} {YP : World → Heap → Prop} {d : DefRec} {K : Params → PySem.W.Frag} (hn : l.most = some 63) (hdf : d.params.defaults = [])
    (hY : ∀ (w : World) (h : Heap), YP w h → (K w.params).In h)
    (F : ∀ (w : World) (mg : Str → Option Value) (fa : Addr) (h : Heap), (K w.params).In h → h.Ns mainGlobals mg → mg d.name = some (.ref fa) →
      ∃ fd : FuncData, (∀ (s : Shared) (u : Value), BindsTo s fd ⟨[u], []⟩ [("_law_script", u)]) ∧ ∀ base : Heap, (K w.params).In base → base.Ns mainGlobals mg → FnOk l.prog w (K w.params) mg base CX0 8 fa fd ["_law_script"] (spLaw (K w.params))) :
    PySem.W.WalkO q loose XP YP l.row.toRowW d [] (fun f vs => PySem.call f vs) :=
  L2.walk_of (n := 63) (k := 8) (x := "_law_script") (CX := fun _ => CX0) (sp := fun w => spLaw (K w.params)) hn (by decide) hdf ⟨rfl, by decide, by decide⟩ hY F (fun _ _ a ns hl _ hS => ⟨a, ns, rfl, hS, hl, fun _ => rfl⟩) fun _ _ _ _ _ z => z
end Sw
open PySem PySem.W PyProof.Rows
set_option maxRecDepth 100000 in
set_option maxHeartbeats 0 in
theorem PySem.Challenge.cw_switchlamps_k02_whole_telling_holds : PySem.Challenge.rw_switchlamps_k02_whole_telling.Holds := by
  w_on; o_law; k_head; (case hw => w_witness2)
  k_fill
  refine Sw.walk (l := PySem.Challenge.rw_switchlamps_k02_whole_telling) rfl rfl (fun w h Y => PySem.W.kIn_of Y) ?F
  case F =>
    intro w mg fa h KX G hmg
    refine' Sw.all_mk KX G hmg ?aC ?aCP ?aCE ?aCA ?a1 ?i1 ?l1 ?c1 ?k1 ?a2 ?i2 ?l2 ?c2 ?k2 ?a3 ?i3 ?l3 ?c3 ?k3 ?a4 ?i4 ?l4 ?c4 ?k4 ?a5 ?i5 ?l5 ?c5 ?k5 ?a6 ?i6 ?l6 ?c6 ?k6 ?a7 ?l7 ?c7 ?k7 ?a8 ?l8 ?c8 ?k8 ?a9 ?l9 ?c9 ?k9 ?a10 ?l10 ?c10 ?k10 ?a11 ?l11 ?c11 ?k11 ?a12 ?l12 ?c12 ?k12 ?a13 ?l13 ?c13 ?k13 ?a14 ?l14 ?c14 ?k14 ?a15 ?l15 ?c15 ?k15 ?a16 ?l16 ?c16 ?k16 ?a17 ?l17 ?c17 ?k17 ?a18 ?l18 ?c18 ?k18 ?a19 ?l19 ?c19 ?k19 ?a20 ?l20 ?c20 ?k20 ?a21 ?l21 ?c21 ?k21 ?a22 ?l22 ?c22 ?k22 ?a23 ?l23 ?c23 ?k23 ?a24 ?l24 ?c24 ?k24 ?a25 ?l25 ?c25 ?k25 ?a26 ?l26 ?c26 ?k26 ?a27 ?l27 ?c27 ?k27 ?pgC ?hdC ?poC ?saC ?mkC ?kcC ?pgCP ?hdCP ?poCP ?saCP ?mkCP ?kcCP ?pgCE ?hdCE ?poCE ?saCE ?mkCE ?kcCE ?pgCA ?hdCA ?poCA ?saCA ?mkCA ?kcCA ?na0 ?na1 ?na2 ?na3 ?co0 ?co1 ?z_len ?z_range ?z_isinstance ?z_int ?z_bool ?z_list ?z_tuple ?z_all ?z_sorted ?z_min ?clCP ?mrCP ?clCE ?mrCE ?cg ?ct ?mrCA ?tyCA ?tyCP ?tyCE ?suCPCA ?suCPCP ?suCPCE ?suCECA ?suCECP ?suCECE
    (case aC => k_is)
    (case aCP => k_is)
    (case aCE => k_is)
    (case aCA => k_is)
    (case a1 => k_is)
    (case i1 => k_is)
    (case l1 => k_is)
    (case c1 => k_is)
    (case k1 => k_is)
    (case a2 => k_is)
    (case i2 => k_is)
    (case l2 => k_is)
    (case c2 => k_is)
    (case k2 => k_is)
    (case a3 => k_is)
    (case i3 => k_is)
    (case l3 => k_is)
    (case c3 => k_is)
    (case k3 => k_is)
    (case a4 => k_is)
    (case i4 => k_is)
    (case l4 => k_is)
    (case c4 => k_is)
    (case k4 => k_is)
    (case a5 => k_is)
    (case i5 => k_is)
    (case l5 => k_is)
    (case c5 => k_is)
    (case k5 => k_is)
    (case a6 => k_is)
    (case i6 => k_is)
    (case l6 => k_is)
    (case c6 => k_is)
    (case k6 => k_is)
    (case a7 => k_is)
    (case l7 => k_is)
    (case c7 => k_is)
    (case k7 => k_is)
    (case a8 => k_is)
    (case l8 => k_is)
    (case c8 => k_is)
    (case k8 => k_is)
    (case a9 => k_is)
    (case l9 => k_is)
    (case c9 => k_is)
    (case k9 => k_is)
    (case a10 => k_is)
    (case l10 => k_is)
    (case c10 => k_is)
    (case k10 => k_is)
    (case a11 => k_is)
    (case l11 => k_is)
    (case c11 => k_is)
    (case k11 => k_is)
    (case a12 => k_is)
    (case l12 => k_is)
    (case c12 => k_is)
    (case k12 => k_is)
    (case a13 => k_is)
    (case l13 => k_is)
    (case c13 => k_is)
    (case k13 => k_is)
    (case a14 => k_is)
    (case l14 => k_is)
    (case c14 => k_is)
    (case k14 => k_is)
    (case a15 => k_is)
    (case l15 => k_is)
    (case c15 => k_is)
    (case k15 => k_is)
    (case a16 => k_is)
    (case l16 => k_is)
    (case c16 => k_is)
    (case k16 => k_is)
    (case a17 => k_is)
    (case l17 => k_is)
    (case c17 => k_is)
    (case k17 => k_is)
    (case a18 => k_is)
    (case l18 => k_is)
    (case c18 => k_is)
    (case k18 => k_is)
    (case a19 => k_is)
    (case l19 => k_is)
    (case c19 => k_is)
    (case k19 => k_is)
    (case a20 => k_is)
    (case l20 => k_is)
    (case c20 => k_is)
    (case k20 => k_is)
    (case a21 => k_is)
    (case l21 => k_is)
    (case c21 => k_is)
    (case k21 => k_is)
    (case a22 => k_is)
    (case l22 => k_is)
    (case c22 => k_is)
    (case k22 => k_is)
    (case a23 => k_is)
    (case l23 => k_is)
    (case c23 => k_is)
    (case k23 => k_is)
    (case a24 => k_is)
    (case l24 => k_is)
    (case c24 => k_is)
    (case k24 => k_is)
    (case a25 => k_is)
    (case l25 => k_is)
    (case c25 => k_is)
    (case k25 => k_is)
    (case a26 => k_is)
    (case l26 => k_is)
    (case c26 => k_is)
    (case k26 => k_is)
    (case a27 => k_is)
    (case l27 => k_is)
    (case c27 => k_is)
    (case k27 => k_is)
    (case pgC => k_is)
    (case hdC => k_is)
    (case poC => k_is)
    (case saC => k_is)
    (case mkC => k_is)
    (case kcC => k_is)
    (case pgCP => k_is)
    (case hdCP => k_is)
    (case poCP => k_is)
    (case saCP => k_is)
    (case mkCP => k_is)
    (case kcCP => k_is)
    (case pgCE => k_is)
    (case hdCE => k_is)
    (case poCE => k_is)
    (case saCE => k_is)
    (case mkCE => k_is)
    (case kcCE => k_is)
    (case pgCA => k_is)
    (case hdCA => k_is)
    (case poCA => k_is)
    (case saCA => k_is)
    (case mkCA => k_is)
    (case kcCA => k_is)
    (case na0 => k_is)
    (case na1 => k_is)
    (case na2 => k_is)
    (case na3 => k_is)
    (case co0 => k_is)
    (case co1 => k_is)
    (case z_len => k_is)
    (case z_range => k_is)
    (case z_isinstance => k_is)
    (case z_int => k_is)
    (case z_bool => k_is)
    (case z_list => k_is)
    (case z_tuple => k_is)
    (case z_all => k_is)
    (case z_sorted => k_is)
    (case z_min => k_is)
    (case clCP => k_is)
    (case mrCP => k_is)
    (case clCE => k_is)
    (case mrCE => k_is)
    (case cg => k_is)
    (case ct => k_is)
    (case mrCA => k_is)
    (case tyCA => k_is)
    (case tyCP => k_is)
    (case tyCE => k_is)
    (case suCPCA => k_is)
    (case suCPCP => k_is)
    (case suCPCE => k_is)
    (case suCECA => k_is)
    (case suCECP => k_is)
    (case suCECE => k_is)
