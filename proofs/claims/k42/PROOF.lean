import PyProof.Rows.All
import Wide.All
import OpenK.AllK
import Wide.FinOn
import Lean
import PyProof.EqAt
import PyProof.EqKinds
import PyProof.TupleCall
import PyProof.P3Eq
import PyProof.NeData
import PyProof.FitsBits
import PyProof.ZipIter
import PyProof.TupleIter
import KE.KRevIter
import PyProof.TupleOfGen
import PyProof.ListRange
import KE.KIsAll
import PyProof.ExcArgsOwn
import OpenK.KDescr
import PyProof.StationsW
import PyProof.ExcBaseAll.ValueError
import OpenK.KOwn
import PyProof.RulesAs
import PyProof.RulesDel
import PyProof.Rows.SortWalk
import PyProof.CompUse
import KE.KDictSum
import PyProof.WalkInts
import KE.KSortTup
import PyProof.Rows.TupDisplay
import KE.KIntText
import PyProof.JoinWalk
import PyProof.ExcInit
import PyProof.ExcClass2
import PySem.Challenge.RW_pebbletoll_k42_always_refused
set_option Elab.async false
set_option linter.all false
set_option maxRecDepth 100000
namespace Hd
open PySem
def top (i:Nat):Stmt:=PySem.Challenge.pw_pebbletoll_k42_always_refused.main.body.getD i (.Pass ⟨0,0,0,0⟩)
def inC (s:Stmt) (j:Nat):Stmt:=match s with
 | .ClassDef _ _ _ b _ _ _ _ _ _ _=>b.getD j (.Pass ⟨0,0,0,0⟩)
 | _=>.Pass ⟨0,0,0,0⟩
def kA (s:Stmt):Arguments:=match s with
 | .FunctionDef _ a _ _ _ _ _ _ _ _=>a
 | _=>{ posonlyargs:=[],args:=[],vararg:=none,kwonlyargs:=[],kw_defaults:=[],kwarg:=none,defaults:=[] }
def kB (s:Stmt):List Stmt:=match s with
 | .FunctionDef _ _ b _ _ _ _ _ _ _=>b
 | _=>[]
def kS (s:Stmt):Scope:=match s with
 | .FunctionDef _ _ _ _ _ _ sc _ _ _=>sc
 | _=>{ kind:=.function,names:=[],isGenerator:=false,isCoroutine:=false }
open PySem.W PySem.Calls PyProof.Rows
def en (P:Params) (s:Str) (t:Tok) (v:Value):DictEntry:=.mk (PyData.keyHash P s) (.str s t) v
def cO (a b:Str) (t1 t2 t3:Tok) (i1 i2 i3 i4 i5:Int) (r1:Value) (b1:Bool) (i6:Int) (r2 v1 v2 v3 r3:Value) (i7 i8:Int) (t4:Tok):Obj:=.mk (.type "code") none (.fields #[.str a t1,.str b t2,.str "/claim/cut.py" t3,.int i1 0,.int i2 0,.int i3 0,.int i4 0,.int i5 0,r1,.bool b1,.int i6 0,r2,v1,v2,v3,r3,.int i7 0,.int i8 0,.str "/claim/cut.py" t4]) #[]
def fR (a b:Str) (s:Stmt):Obj:=.mk .none none (.func (.mk a b (kA s) (.stmts (kB s)) (kS s) 0 [] .none .none .none .none none .none .none 0)) #[]
def fO (a b:Str) (s:Stmt) (pm cd:Value):Obj:=.mk (.type "function") none (.func (PySem.W.fnOf a b (kA s) (kB s) (kS s) .none .none .none pm none cd .none)) #[]
def tO (xs:Array Value):Obj:=.mk (.type "tuple") none (.seq xs 0) #[]
def x0:Obj:=(tO #[])
def x1:Obj:=(.mk .none none (.fields #[]) #[])
def x2:Obj:=(cO "<module>" "<module>" 182 183 184 1 0 0 0 0 (.ref 11) false 181 (.ref 12) .none .none .none .none 185 1 186)
def x3:Obj:=(.mk (.type "frame") none .plain #[(some (.ref 13)),(some (.ref 3)),(some (.ref 3)),none,(some (.str "__main__" 164)),none,(some (.ref 0))])
noncomputable def ha (P:Params):Heap:=.mk (.mk (boot_o_0 P::boot_o_1 P::boot_o_2 P::boot_o_3 P::boot_o_4 P::boot_o_5 P::boot_o_6 P::boot_o_7 P::boot_o_8 P::boot_o_9 P::boot_o_10 P::x0::x1::x2::x3::[])) (.mk [] [] [] 0 [] [] false #[] [] 0 false false false 0 [2000,10,10] false 0 true [] [] 0 false)
noncomputable def hb (P:Params):Heap:=.mk (.mk (boot_o_0 P::boot_o_1 P::boot_o_2 P::boot_o_3 P::boot_o_4 P::boot_o_5 P::boot_o_6 P::boot_o_7 P::boot_o_8 P::boot_o_9 P::boot_o_10 P::x0::x1::x2::x3::[])) (.mk [] [] [] 0 [] [] false #[] [] 0 false false false 0 [2000,10,10] false 0 true [] [] 0 false)
abbrev st0:List Stmt:=[top 0,top 1,top 2,top 3,top 4,top 5,top 6,top 7,top 8,top 9,top 10,top 11,top 12,top 13,top 14,top 15,top 16,top 17,top 18,top 19,top 20]
abbrev st1:List Stmt:=[top 21,top 22,top 23,top 24,top 25,top 26,top 27,top 28,top 29,top 30,top 31,top 32,top 33,top 34,top 35,top 36,top 37,top 38,top 39,top 40,top 41,top 42,top 43,top 44,top 45,top 46,top 47,top 48,top 49,top 50,top 51,top 52,top 53,top 54,top 55]
abbrev bb:List Stmt:=st0++(st1++([]))
def env:Env:={ scope:=PySem.Challenge.pw_pebbletoll_k42_always_refused.main.scope,locals:=mainNs,globals:=mainNs,cells:=[],code:=(.ref 13),frame:=some 14 }
abbrev cE:Code:=.body bb env
theorem OT (w:World) (os:OsState):topGo treeTable PySem.Challenge.pw_pebbletoll_k42_always_refused w 11 (some (.ref 6)) 12 (Shared.mk (boot_heap w.params) (.mk []) boot_drawn boot_toks os) (topStub PySem.Challenge.pw_pebbletoll_k42_always_refused)=some ((Shared.mk (ha w.params) (.mk []) (.mk 0 0 0 0) 187 os),Thread.mk (denote treeTable cE) cE (.mk 0 0 0 0) [topFrame (.mk 0 0 0 0)]):=by kernel_rfl
theorem OV (w:World) (os:OsState):segRun treeTable PySem.Challenge.pw_pebbletoll_k42_always_refused w 11 (some (.ref 6)) 1 1 (Shared.mk (ha w.params) (.mk []) (.mk 0 0 0 0) 187 os) (blockOf bb env cE (.mk 0 0 0 0) [topFrame (.mk 0 0 0 0)])=some (.next,(Shared.mk (hb w.params) (.mk []) (.mk 0 0 0 0) 187 os),cE,(.mk 0 0 0 0)):=by kernel_rfl
def x4 (P:Params):Obj:=(.mk (.type "dict") none (.dict #[(en P "__name__" 165 (.str "pebbletoll.webs" 303)),(en P "__doc__" 166 .none),(en P "__package__" 167 .none),(en P "__loader__" 168 (.builtin "__main__.__loader__#opaque")),(en P "__spec__" 169 .none),(en P "__annotations__" 170 (.ref 6)),(en P "__builtins__" 171 (.ref 4)),(en P "__file__" 173 (.str "/claim/cut.py" 172)),(en P "__cached__" 174 .none),(en P "TollError" 206 (.ref 24)),(en P "BadWeb" 222 (.ref 37)),(en P "NoPlace" 238 (.ref 49)),(en P "NoRoad" 254 (.ref 61)),(en P "BadLaying" 270 (.ref 73)),(en P "BadWish" 286 (.ref 85)),(en P "NoWorst" 302 (.ref 97)),(en P "MOST_PLACES" 306 (.int 24 305)),(en P "LEAST_TOLL" 308 (.int 2 307)),(en P "MOST_TOLL" 310 (.int 1000000 309)),(en P "Web" 338 (.ref 114)),(en P "toll" 351 (.ref 125)),(en P "neighbours" 359 (.ref 132)),(en P "check_place" 367 (.ref 139)),(en P "is_place" 375 (.ref 146)),(en P "check_counts" 383 (.ref 153)),(en P "check_ends" 391 (.ref 160)),(en P "check_tolls" 399 (.ref 167)),(en P "check_joined" 411 (.ref 174))] 28) #[])
def x5:Obj:=(.mk .none none (.fields #[(.int 2 0),(.int 0 0),(.ref 20),(.int 4 0),(.int 0 0),(.ref 33),(.int 6 0),(.int 0 0),(.ref 45),(.int 8 0),(.int 0 0),(.ref 57),(.int 10 0),(.int 0 0),(.ref 69),(.int 12 0),(.int 0 0),(.ref 81),(.int 14 0),(.int 0 0),(.ref 93),(.int 20 0),(.int 0 0),(.ref 105),(.int 31 0),(.int 0 0),(.ref 124),(.int 40 0),(.int 0 0),(.ref 131),(.int 43 0),(.int 0 0),(.ref 138),(.int 46 0),(.int 0 0),(.ref 145),(.int 48 0),(.int 0 0),(.ref 152),(.int 53 0),(.int 0 0),(.ref 159),(.int 58 0),(.int 0 0),(.ref 166),(.int 62 0),(.int 0 0),(.ref 173)]) #[])
def x6:Obj:=(tO #[(.type "ValueError")])
def x7:Obj:=(.mk (.type "builtin_function_or_method") none (.fields #[(.builtin "type.__prepare__"),(.type "type")]) #[])
def x8 (P:Params):Obj:=(.mk (.type "dict") none (.dict #[(en P "__module__" 196 (.str "pebbletoll.errors" 187)),(en P "__qualname__" 198 (.str "TollError" 197)),(en P "__firstlineno__" 200 (.int 2 199)),(en P "__static_attributes__" 201 (.ref 22))] 4) #[])
def x9:Obj:=(cO "TollError" "TollError" 191 192 193 2 0 0 0 0 (.ref 18) false 181 (.ref 19) .none .none .none .none 194 2 195)
def x10:Obj:=(.mk (.type "frame") none .plain #[(some (.ref 20)),(some (.ref 3)),(some (.ref 17)),none,(some (.str "pebbletoll.errors" 187)),none,(some (.ref 0))])
def x11 (P:Params):Obj:=(.mk (.type "dict") none (.dict #[(en P "__module__" 196 (.str "pebbletoll.errors" 187)),(en P "__firstlineno__" 200 (.int 2 199)),(en P "__static_attributes__" 201 (.ref 22)),(en P "__weakref__" 203 (.ref 25)),(en P "__doc__" 204 .none)] 3) #[])
def x12:Obj:=(.mk (.type "type") none (.cls (.mk "TollError" [(.type "ValueError")] [(.ref 24),(.type "ValueError"),(.type "Exception"),(.type "BaseException"),(.type "object")] 23 "TollError" true [] [(.ref 37),(.ref 49),(.ref 61),(.ref 73),(.ref 85),(.ref 97)] false none false)) #[(some (.ref 15)),none,(some (.str "TollError" 189)),(some (.str "TollError" 197)),(some (.builtin "ValueError.__new__")),(some (.bool true))])
def x13:Obj:=(.mk (.type "getset_descriptor") none (.fields #[(.str "__weakref__" 202),(.ref 24),(.builtin "ExceptionGroup.__weakref__"),.none]) #[])
def x14:Obj:=(.mk (.type "super") none (.fields #[(.ref 24),(.ref 24),(.ref 24)]) #[])
def x15:Obj:=(.mk (.type "builtin_function_or_method") none (.fields #[(.builtin "object.__init_subclass__"),(.ref 24)]) #[])
def x16:Obj:=(tO #[(.ref 24)])
def x17 (P:Params):Obj:=(.mk (.type "dict") none (.dict #[(en P "__module__" 214 (.str "pebbletoll.errors" 187)),(en P "__qualname__" 216 (.str "BadWeb" 215)),(en P "__firstlineno__" 218 (.int 4 217)),(en P "__static_attributes__" 219 (.ref 35))] 4) #[])
def x18:Obj:=(cO "BadWeb" "BadWeb" 209 210 211 4 0 0 0 0 (.ref 31) false 181 (.ref 32) .none .none .none .none 212 4 213)
def x19:Obj:=(.mk (.type "frame") none .plain #[(some (.ref 33)),(some (.ref 3)),(some (.ref 30)),none,(some (.str "pebbletoll.errors" 187)),none,(some (.ref 0))])
def x20 (P:Params):Obj:=(.mk (.type "dict") none (.dict #[(en P "__module__" 214 (.str "pebbletoll.errors" 187)),(en P "__firstlineno__" 218 (.int 4 217)),(en P "__static_attributes__" 219 (.ref 35)),(en P "__doc__" 220 .none)] 2) #[])
def x21:Obj:=(.mk (.type "type") none (.cls (.mk "BadWeb" [(.ref 24)] [(.ref 37),(.ref 24),(.type "ValueError"),(.type "Exception"),(.type "BaseException"),(.type "object")] 36 "BadWeb" true [] [] false none false)) #[(some (.ref 28)),none,(some (.str "BadWeb" 207)),(some (.str "BadWeb" 215)),(some (.builtin "ValueError.__new__")),(some (.bool true))])
def x22:Obj:=(.mk (.type "super") none (.fields #[(.ref 37),(.ref 37),(.ref 37)]) #[])
def x23:Obj:=(.mk (.type "builtin_function_or_method") none (.fields #[(.builtin "object.__init_subclass__"),(.ref 37)]) #[])
def x24 (P:Params):Obj:=(.mk (.type "dict") none (.dict #[(en P "__module__" 230 (.str "pebbletoll.errors" 187)),(en P "__qualname__" 232 (.str "NoPlace" 231)),(en P "__firstlineno__" 234 (.int 6 233)),(en P "__static_attributes__" 235 (.ref 47))] 4) #[])
def x25:Obj:=(cO "NoPlace" "NoPlace" 225 226 227 6 0 0 0 0 (.ref 43) false 181 (.ref 44) .none .none .none .none 228 6 229)
def x26:Obj:=(.mk (.type "frame") none .plain #[(some (.ref 45)),(some (.ref 3)),(some (.ref 42)),none,(some (.str "pebbletoll.errors" 187)),none,(some (.ref 0))])
def x27 (P:Params):Obj:=(.mk (.type "dict") none (.dict #[(en P "__module__" 230 (.str "pebbletoll.errors" 187)),(en P "__firstlineno__" 234 (.int 6 233)),(en P "__static_attributes__" 235 (.ref 47)),(en P "__doc__" 236 .none)] 2) #[])
def x28:Obj:=(.mk (.type "type") none (.cls (.mk "NoPlace" [(.ref 24)] [(.ref 49),(.ref 24),(.type "ValueError"),(.type "Exception"),(.type "BaseException"),(.type "object")] 48 "NoPlace" true [] [] false none false)) #[(some (.ref 40)),none,(some (.str "NoPlace" 223)),(some (.str "NoPlace" 231)),(some (.builtin "ValueError.__new__")),(some (.bool true))])
def x29:Obj:=(.mk (.type "super") none (.fields #[(.ref 49),(.ref 49),(.ref 49)]) #[])
def x30:Obj:=(.mk (.type "builtin_function_or_method") none (.fields #[(.builtin "object.__init_subclass__"),(.ref 49)]) #[])
def x31 (P:Params):Obj:=(.mk (.type "dict") none (.dict #[(en P "__module__" 246 (.str "pebbletoll.errors" 187)),(en P "__qualname__" 248 (.str "NoRoad" 247)),(en P "__firstlineno__" 250 (.int 8 249)),(en P "__static_attributes__" 251 (.ref 59))] 4) #[])
def x32:Obj:=(cO "NoRoad" "NoRoad" 241 242 243 8 0 0 0 0 (.ref 55) false 181 (.ref 56) .none .none .none .none 244 8 245)
def x33:Obj:=(.mk (.type "frame") none .plain #[(some (.ref 57)),(some (.ref 3)),(some (.ref 54)),none,(some (.str "pebbletoll.errors" 187)),none,(some (.ref 0))])
def x34 (P:Params):Obj:=(.mk (.type "dict") none (.dict #[(en P "__module__" 246 (.str "pebbletoll.errors" 187)),(en P "__firstlineno__" 250 (.int 8 249)),(en P "__static_attributes__" 251 (.ref 59)),(en P "__doc__" 252 .none)] 2) #[])
def x35:Obj:=(.mk (.type "type") none (.cls (.mk "NoRoad" [(.ref 24)] [(.ref 61),(.ref 24),(.type "ValueError"),(.type "Exception"),(.type "BaseException"),(.type "object")] 60 "NoRoad" true [] [] false none false)) #[(some (.ref 52)),none,(some (.str "NoRoad" 239)),(some (.str "NoRoad" 247)),(some (.builtin "ValueError.__new__")),(some (.bool true))])
def x36:Obj:=(.mk (.type "super") none (.fields #[(.ref 61),(.ref 61),(.ref 61)]) #[])
def x37:Obj:=(.mk (.type "builtin_function_or_method") none (.fields #[(.builtin "object.__init_subclass__"),(.ref 61)]) #[])
def x38 (P:Params):Obj:=(.mk (.type "dict") none (.dict #[(en P "__module__" 262 (.str "pebbletoll.errors" 187)),(en P "__qualname__" 264 (.str "BadLaying" 263)),(en P "__firstlineno__" 266 (.int 10 265)),(en P "__static_attributes__" 267 (.ref 71))] 4) #[])
def x39:Obj:=(cO "BadLaying" "BadLaying" 257 258 259 10 0 0 0 0 (.ref 67) false 181 (.ref 68) .none .none .none .none 260 10 261)
def x40:Obj:=(.mk (.type "frame") none .plain #[(some (.ref 69)),(some (.ref 3)),(some (.ref 66)),none,(some (.str "pebbletoll.errors" 187)),none,(some (.ref 0))])
def x41 (P:Params):Obj:=(.mk (.type "dict") none (.dict #[(en P "__module__" 262 (.str "pebbletoll.errors" 187)),(en P "__firstlineno__" 266 (.int 10 265)),(en P "__static_attributes__" 267 (.ref 71)),(en P "__doc__" 268 .none)] 2) #[])
def x42:Obj:=(.mk (.type "type") none (.cls (.mk "BadLaying" [(.ref 24)] [(.ref 73),(.ref 24),(.type "ValueError"),(.type "Exception"),(.type "BaseException"),(.type "object")] 72 "BadLaying" true [] [] false none false)) #[(some (.ref 64)),none,(some (.str "BadLaying" 255)),(some (.str "BadLaying" 263)),(some (.builtin "ValueError.__new__")),(some (.bool true))])
def x43:Obj:=(.mk (.type "super") none (.fields #[(.ref 73),(.ref 73),(.ref 73)]) #[])
def x44:Obj:=(.mk (.type "builtin_function_or_method") none (.fields #[(.builtin "object.__init_subclass__"),(.ref 73)]) #[])
def x45 (P:Params):Obj:=(.mk (.type "dict") none (.dict #[(en P "__module__" 278 (.str "pebbletoll.errors" 187)),(en P "__qualname__" 280 (.str "BadWish" 279)),(en P "__firstlineno__" 282 (.int 12 281)),(en P "__static_attributes__" 283 (.ref 83))] 4) #[])
def x46:Obj:=(cO "BadWish" "BadWish" 273 274 275 12 0 0 0 0 (.ref 79) false 181 (.ref 80) .none .none .none .none 276 12 277)
def x47:Obj:=(.mk (.type "frame") none .plain #[(some (.ref 81)),(some (.ref 3)),(some (.ref 78)),none,(some (.str "pebbletoll.errors" 187)),none,(some (.ref 0))])
def x48 (P:Params):Obj:=(.mk (.type "dict") none (.dict #[(en P "__module__" 278 (.str "pebbletoll.errors" 187)),(en P "__firstlineno__" 282 (.int 12 281)),(en P "__static_attributes__" 283 (.ref 83)),(en P "__doc__" 284 .none)] 2) #[])
def x49:Obj:=(.mk (.type "type") none (.cls (.mk "BadWish" [(.ref 24)] [(.ref 85),(.ref 24),(.type "ValueError"),(.type "Exception"),(.type "BaseException"),(.type "object")] 84 "BadWish" true [] [] false none false)) #[(some (.ref 76)),none,(some (.str "BadWish" 271)),(some (.str "BadWish" 279)),(some (.builtin "ValueError.__new__")),(some (.bool true))])
def x50:Obj:=(.mk (.type "super") none (.fields #[(.ref 85),(.ref 85),(.ref 85)]) #[])
def x51:Obj:=(.mk (.type "builtin_function_or_method") none (.fields #[(.builtin "object.__init_subclass__"),(.ref 85)]) #[])
def x52 (P:Params):Obj:=(.mk (.type "dict") none (.dict #[(en P "__module__" 294 (.str "pebbletoll.errors" 187)),(en P "__qualname__" 296 (.str "NoWorst" 295)),(en P "__firstlineno__" 298 (.int 14 297)),(en P "__static_attributes__" 299 (.ref 95))] 4) #[])
def x53:Obj:=(cO "NoWorst" "NoWorst" 289 290 291 14 0 0 0 0 (.ref 91) false 181 (.ref 92) .none .none .none .none 292 14 293)
def x54:Obj:=(.mk (.type "frame") none .plain #[(some (.ref 93)),(some (.ref 3)),(some (.ref 90)),none,(some (.str "pebbletoll.errors" 187)),none,(some (.ref 0))])
def x55 (P:Params):Obj:=(.mk (.type "dict") none (.dict #[(en P "__module__" 294 (.str "pebbletoll.errors" 187)),(en P "__firstlineno__" 298 (.int 14 297)),(en P "__static_attributes__" 299 (.ref 95)),(en P "__doc__" 300 .none)] 2) #[])
def x56:Obj:=(.mk (.type "type") none (.cls (.mk "NoWorst" [(.ref 24)] [(.ref 97),(.ref 24),(.type "ValueError"),(.type "Exception"),(.type "BaseException"),(.type "object")] 96 "NoWorst" true [] [] false none false)) #[(some (.ref 88)),none,(some (.str "NoWorst" 287)),(some (.str "NoWorst" 295)),(some (.builtin "ValueError.__new__")),(some (.bool true))])
def x57:Obj:=(.mk (.type "super") none (.fields #[(.ref 97),(.ref 97),(.ref 97)]) #[])
def x58:Obj:=(.mk (.type "builtin_function_or_method") none (.fields #[(.builtin "object.__init_subclass__"),(.ref 97)]) #[])
def x59 (P:Params):Obj:=(.mk (.type "dict") none (.dict #[(en P "__module__" 318 (.str "pebbletoll.webs" 303)),(en P "__qualname__" 320 (.str "Web" 319)),(en P "__firstlineno__" 322 (.int 20 321)),(en P "__init__" 328 (.ref 111)),(en P "__static_attributes__" 331 (.ref 112))] 5) #[])
def x60:Obj:=(.mk .none none (.fields #[(.int 22 0),(.int 4 0),(.ref 110)]) #[])
def x61:Obj:=(cO "Web" "Web" 313 314 315 20 0 0 0 0 (.ref 103) false 181 (.ref 104) .none .none .none .none 316 20 317)
def x62:Obj:=(.mk (.type "frame") none .plain #[(some (.ref 105)),(some (.ref 3)),(some (.ref 102)),none,(some (.str "pebbletoll.webs" 303)),none,(some (.ref 0))])
def x63:Obj:=(fR "__init__" "Web.__init__" (inC (top 12) 0))
def x64:Obj:=(cO "__init__" "Web.__init__" 323 324 325 22 3 0 0 3 (.ref 107) true 181 (.ref 108) .none .none .none (.ref 109) 326 22 327)
def x65:Obj:=(fO "__init__" "Web.__init__" (inC (top 12) 0) (.str "pebbletoll.webs" 303) (.ref 110))
def x66:Obj:=(tO #[(.str "many" 329),(.str "roads" 330)])
def x67 (P:Params):Obj:=(.mk (.type "dict") none (.dict #[(en P "__module__" 318 (.str "pebbletoll.webs" 303)),(en P "__firstlineno__" 322 (.int 20 321)),(en P "__init__" 328 (.ref 111)),(en P "__static_attributes__" 331 (.ref 112)),(en P "__dict__" 333 (.ref 115)),(en P "__weakref__" 335 (.ref 116)),(en P "__doc__" 336 .none)] 4) #[])
def x68:Obj:=(.mk (.type "type") none (.cls (.mk "Web" [(.type "object")] [(.ref 114),(.type "object")] 113 "Web" true [] [] false none false)) #[none,none,(some (.str "Web" 311)),(some (.str "Web" 319)),(some (.builtin "object.__new__")),(some (.bool true))])
def x69:Obj:=(.mk (.type "getset_descriptor") none (.fields #[(.str "__dict__" 332),(.ref 114),(.builtin "function.__dict__"),(.builtin "function.__dict__#set")]) #[])
def x70:Obj:=(.mk (.type "getset_descriptor") none (.fields #[(.str "__weakref__" 334),(.ref 114),(.builtin "ExceptionGroup.__weakref__"),.none]) #[])
def x71:Obj:=(.mk (.type "super") none (.fields #[(.ref 114),(.ref 114),(.ref 114)]) #[])
def x72:Obj:=(.mk (.type "builtin_function_or_method") none (.fields #[(.builtin "object.__init_subclass__"),(.ref 114)]) #[])
def x73:Obj:=(tO #[(.str "web" 342),(.str "a" 343),(.str "b" 344),(.str "one" 345),(.str "other" 346),(.str "there" 347),(.str "back" 348)])
def x74:Obj:=(fR "toll" "toll" (top 13))
def x75:Obj:=(cO "toll" "toll" 339 340 341 31 3 0 0 3 (.ref 119) true 181 (.ref 120) .none (.ref 121) (.ref 122) (.ref 123) 349 31 350)
def x76:Obj:=(fO "toll" "toll" (top 13) (.str "pebbletoll.webs" 303) (.ref 124))
def x77:Obj:=(tO #[(.str "web" 355),(.str "a" 356)])
def x78:Obj:=(fR "neighbours" "neighbours" (top 14))
def x79:Obj:=(cO "neighbours" "neighbours" 352 353 354 40 2 0 0 3 (.ref 126) true 181 (.ref 127) .none (.ref 128) (.ref 129) (.ref 130) 357 40 358)
def x80:Obj:=(fO "neighbours" "neighbours" (top 14) (.str "pebbletoll.webs" 303) (.ref 131))
def x81:Obj:=(tO #[(.str "web" 363),(.str "number" 364)])
def x82:Obj:=(fR "check_place" "check_place" (top 15))
def x83:Obj:=(cO "check_place" "check_place" 360 361 362 43 2 0 0 3 (.ref 133) true 181 (.ref 134) .none (.ref 135) (.ref 136) (.ref 137) 365 43 366)
def x84:Obj:=(fO "check_place" "check_place" (top 15) (.str "pebbletoll.webs" 303) (.ref 138))
def x85:Obj:=(tO #[(.str "many" 371),(.str "number" 372)])
def x86:Obj:=(fR "is_place" "is_place" (top 16))
def x87:Obj:=(cO "is_place" "is_place" 368 369 370 46 2 0 0 3 (.ref 140) true 181 (.ref 141) .none (.ref 142) (.ref 143) (.ref 144) 373 46 374)
def x88:Obj:=(fO "is_place" "is_place" (top 16) (.str "pebbletoll.webs" 303) (.ref 145))
def x89:Obj:=(tO #[(.str "many" 379),(.str "roads" 380)])
def x90:Obj:=(fR "check_counts" "check_counts" (top 17))
def x91:Obj:=(cO "check_counts" "check_counts" 376 377 378 48 2 0 0 3 (.ref 147) true 181 (.ref 148) .none (.ref 149) (.ref 150) (.ref 151) 381 48 382)
def x92:Obj:=(fO "check_counts" "check_counts" (top 17) (.str "pebbletoll.webs" 303) (.ref 152))
def x93:Obj:=(tO #[(.str "many" 387),(.str "road" 388)])
def x94:Obj:=(fR "check_ends" "check_ends" (top 18))
def x95:Obj:=(cO "check_ends" "check_ends" 384 385 386 53 2 0 0 3 (.ref 154) true 181 (.ref 155) .none (.ref 156) (.ref 157) (.ref 158) 389 53 390)
def x96:Obj:=(fO "check_ends" "check_ends" (top 18) (.str "pebbletoll.webs" 303) (.ref 159))
def x97:Obj:=(tO #[(.str "road" 395),(.str "number" 396)])
def x98:Obj:=(fR "check_tolls" "check_tolls" (top 19))
def x99:Obj:=(cO "check_tolls" "check_tolls" 392 393 394 58 1 0 0 3 (.ref 161) true 181 (.ref 162) .none (.ref 163) (.ref 164) (.ref 165) 397 58 398)
def FU:Obj:=(fO "check_tolls" "check_tolls" (top 19) (.str "pebbletoll.webs" 303) (.ref 166))
def Fr:Obj:=(tO #[(.str "many" 403),(.str "roads" 404),(.str "reached" 405),(.str "waiting" 406),(.str "place" 407),(.str "end" 408)])
def KL:Obj:=(fR "check_joined" "check_joined" (top 20))
def Gj:Obj:=(cO "check_joined" "check_joined" 400 401 402 62 2 0 0 3 (.ref 168) true 181 (.ref 169) .none (.ref 170) (.ref 171) (.ref 172) 409 62 410)
def Fv:Obj:=(fO "check_joined" "check_joined" (top 20) (.str "pebbletoll.webs" 303) (.ref 173))
noncomputable def h0 (P:Params):Heap:=.mk (.mk (boot_o_0 P::boot_o_1 P::boot_o_2 P::x4 P::boot_o_4 P::boot_o_5 P::boot_o_6 P::boot_o_7 P::boot_o_8 P::boot_o_9 P::boot_o_10 P::x0::x5::x2::x3::x6::x7::x8 P::x0::x1::x9::x10::x0::x11 P::x12::x13::x14::x15::x16::x7::x17 P::x0::x1::x18::x19::x0::x20 P::x21::x22::x23::x16::x7::x24 P::x0::x1::x25::x26::x0::x27 P::x28::x29::x30::x16::x7::x31 P::x0::x1::x32::x33::x0::x34 P::x35::x36::x37::x16::x7::x38 P::x0::x1::x39::x40::x0::x41 P::x42::x43::x44::x16::x7::x45 P::x0::x1::x46::x47::x0::x48 P::x49::x50::x51::x16::x7::x52 P::x0::x1::x53::x54::x0::x55 P::x56::x57::x58::x0::x7::x59 P::x0::x60::x61::x62::x0::x1::x63::x64::x65::x66::x67 P::x68::x69::x70::x71::x72::x0::x1::x73::x0::x74::x75::x76::x0::x1::x77::x0::x78::x79::x80::x0::x1::x81::x0::x82::x83::x84::x0::x1::x85::x0::x86::x87::x88::x0::x1::x89::x0::x90::x91::x92::x0::x1::x93::x0::x94::x95::x96::x0::x1::x97::x0::x98::x99::FU::x0::x1::Fr::x0::KL::Gj::Fv::[])) (.mk [] [] [] 0 [] [] false #[] [] 0 false false false 0 [2000,10,10] false 0 true [] [] 0 false)
theorem OM (w:World) (os:OsState):segRun treeTable PySem.Challenge.pw_pebbletoll_k42_always_refused w 11 (some (.ref 6)) 1 1978 (Shared.mk (hb w.params) (.mk []) (.mk 0 0 0 0) 187 os) (piecesOf st0 env cE (.mk 0 0 0 0) [topFrame (.mk 0 0 0 0)])=some (.next,(Shared.mk (h0 w.params) (.mk []) (.mk 0 0 0 0) 412 os),cE,(.mk 62 0 72 75)):=by kernel_rfl
def Ku (P:Params):Obj:=(.mk (.type "dict") none (.dict #[(en P "__name__" 165 (.str "law_pebbletoll_k42_always_refused" 622)),(en P "__doc__" 166 .none),(en P "__package__" 167 .none),(en P "__loader__" 168 (.builtin "__main__.__loader__#opaque")),(en P "__spec__" 169 .none),(en P "__annotations__" 170 (.ref 6)),(en P "__builtins__" 171 (.ref 4)),(en P "__file__" 173 (.str "/claim/cut.py" 172)),(en P "__cached__" 174 .none),(en P "TollError" 206 (.ref 24)),(en P "BadWeb" 222 (.ref 37)),(en P "NoPlace" 238 (.ref 49)),(en P "NoRoad" 254 (.ref 61)),(en P "BadLaying" 270 (.ref 73)),(en P "BadWish" 286 (.ref 85)),(en P "NoWorst" 302 (.ref 97)),(en P "MOST_PLACES" 306 (.int 24 305)),(en P "LEAST_TOLL" 308 (.int 2 307)),(en P "MOST_TOLL" 310 (.int 1000000 309)),(en P "Web" 338 (.ref 114)),(en P "toll" 351 (.ref 125)),(en P "neighbours" 359 (.ref 132)),(en P "check_place" 367 (.ref 139)),(en P "is_place" 375 (.ref 146)),(en P "check_counts" 383 (.ref 153)),(en P "check_ends" 391 (.ref 160)),(en P "check_tolls" 399 (.ref 167)),(en P "check_joined" 411 (.ref 174)),(en P "other_ends" 421 (.ref 181)),(en P "is_filled" 429 (.ref 186)),(en P "total" 436 (.ref 193)),(en P "ahead" 451 (.ref 200)),(en P "down" 464 (.ref 207)),(en P "kids" 470 (.ref 212)),(en P "inward" 476 (.ref 217)),(en P "wish_of" 486 (.ref 224)),(en P "pile_need" 497 (.ref 231)),(en P "needs" 509 (.ref 238)),(en P "always" 517 (.ref 245)),(en P "fails" 523 (.ref 250)),(en P "is_idle" 531 (.ref 257)),(en P "failing" 540 (.ref 264)),(en P "Outlook" 570 (.ref 279)),(en P "idle_load" 579 (.ref 290)),(en P "idle_kids" 590 (.ref 297)),(en P "added" 596 (.ref 302)),(en P "greatest_load" 609 (.ref 309)),(en P "load_by" 621 (.ref 316)),(en P "_law_drawn" 634 (.ref 323)),(en P "_law_toll" 641 (.ref 330)),(en P "_law_roads" 656 (.ref 337)),(en P "_law_web" 666 (.ref 344)),(en P "_law_bound" 674 (.ref 351)),(en P "_law_laying" 686 (.ref 358)),(en P "_law_wish" 698 (.ref 365)),(en P "_law_spoilt" 708 (.ref 372)),(en P "_law_kinds" 720 (.ref 379)),(en P "law" 737 (.ref 386))] 58) #[])
def Nd:Obj:=(.mk .none none (.fields #[(.int 2 0),(.int 0 0),(.ref 20),(.int 4 0),(.int 0 0),(.ref 33),(.int 6 0),(.int 0 0),(.ref 45),(.int 8 0),(.int 0 0),(.ref 57),(.int 10 0),(.int 0 0),(.ref 69),(.int 12 0),(.int 0 0),(.ref 81),(.int 14 0),(.int 0 0),(.ref 93),(.int 20 0),(.int 0 0),(.ref 105),(.int 31 0),(.int 0 0),(.ref 124),(.int 40 0),(.int 0 0),(.ref 131),(.int 43 0),(.int 0 0),(.ref 138),(.int 46 0),(.int 0 0),(.ref 145),(.int 48 0),(.int 0 0),(.ref 152),(.int 53 0),(.int 0 0),(.ref 159),(.int 58 0),(.int 0 0),(.ref 166),(.int 62 0),(.int 0 0),(.ref 173),(.int 73 0),(.int 0 0),(.ref 180),(.int 82 0),(.int 0 0),(.ref 185),(.int 84 0),(.int 0 0),(.ref 192),(.int 87 0),(.int 0 0),(.ref 199),(.int 98 0),(.int 0 0),(.ref 206),(.int 108 0),(.int 0 0),(.ref 211),(.int 110 0),(.int 0 0),(.ref 216),(.int 114 0),(.int 0 0),(.ref 223),(.int 119 0),(.int 0 0),(.ref 230),(.int 121 0),(.int 0 0),(.ref 237),(.int 126 0),(.int 0 0),(.ref 244),(.int 130 0),(.int 0 0),(.ref 249),(.int 135 0),(.int 0 0),(.ref 256),(.int 137 0),(.int 0 0),(.ref 263),(.int 139 0),(.int 0 0),(.ref 270),(.int 148 0),(.int 0 0),(.ref 289),(.int 152 0),(.int 0 0),(.ref 296),(.int 158 0),(.int 0 0),(.ref 301),(.int 160 0),(.int 0 0),(.ref 308),(.int 169 0),(.int 0 0),(.ref 315),(.int 174 0),(.int 0 0),(.ref 322),(.int 183 0),(.int 0 0),(.ref 329),(.int 187 0),(.int 0 0),(.ref 336),(.int 202 0),(.int 0 0),(.ref 343),(.int 208 0),(.int 0 0),(.ref 350),(.int 211 0),(.int 0 0),(.ref 357),(.int 218 0),(.int 0 0),(.ref 364),(.int 225 0),(.int 0 0),(.ref 371),(.int 239 0),(.int 0 0),(.ref 378),(.int 252 0),(.int 0 0),(.ref 385)]) #[])
def Kj:Obj:=(tO #[(.str "roads" 415),(.str "place" 416),(.str "ends" 417),(.str "road" 418)])
def NX:Obj:=(fR "other_ends" "other_ends" (top 21))
def Ll:Obj:=(cO "other_ends" "other_ends" 412 413 414 73 2 0 0 3 (.ref 175) true 181 (.ref 176) .none (.ref 177) (.ref 178) (.ref 179) 419 73 420)
def IZ:Obj:=(fO "other_ends" "other_ends" (top 21) (.str "pebbletoll.webs" 303) (.ref 180))
def N3:Obj:=(fR "is_filled" "is_filled" (top 23))
def J8:Obj:=(cO "is_filled" "is_filled" 424 425 426 82 2 0 0 3 (.ref 182) true 181 (.ref 183) .none .none .none (.ref 184) 427 82 428)
def Iu:Obj:=(fO "is_filled" "is_filled" (top 23) (.str "pebbletoll.layings" 422) (.ref 185))
def Jq:Obj:=(tO #[(.str "numbers" 433)])
def Nn:Obj:=(fR "total" "total" (top 24))
def J7:Obj:=(cO "total" "total" 430 431 432 84 1 0 0 3 (.ref 187) true 181 (.ref 188) .none (.ref 189) (.ref 190) (.ref 191) 434 84 435)
def IY:Obj:=(fO "total" "total" (top 24) (.str "pebbletoll.layings" 422) (.ref 192))
def Ki:Obj:=(tO #[(.str "web" 442),(.str "r" 443),(.str "nearer" 444),(.str "waiting" 445),(.str "place" 446),(.str "front" 447),(.str "kid" 448)])
def Nv:Obj:=(fR "ahead" "ahead" (top 26))
def JS:Obj:=(cO "ahead" "ahead" 439 440 441 87 2 0 0 3 (.ref 194) true 181 (.ref 195) .none (.ref 196) (.ref 197) (.ref 198) 449 87 450)
def HZ:Obj:=(fO "ahead" "ahead" (top 26) (.str "pebbletoll.ways" 437) (.ref 199))
def Kz:Obj:=(tO #[(.str "web" 455),(.str "r" 456),(.str "nearer" 457),(.str "places" 458),(.str "waiting" 459),(.str "place" 460),(.str "kid" 461)])
def MT:Obj:=(fR "down" "down" (top 27))
def Kk:Obj:=(cO "down" "down" 452 453 454 98 2 0 0 3 (.ref 201) true 181 (.ref 202) .none (.ref 203) (.ref 204) (.ref 205) 462 98 463)
def KW:Obj:=(fO "down" "down" (top 27) (.str "pebbletoll.ways" 437) (.ref 206))
def Ni:Obj:=(fR "kids" "kids" (top 28))
def Iv:Obj:=(cO "kids" "kids" 465 466 467 108 3 0 0 3 (.ref 208) true 181 (.ref 209) .none .none .none (.ref 210) 468 108 469)
def Ln:Obj:=(fO "kids" "kids" (top 28) (.str "pebbletoll.ways" 437) (.ref 211))
def NT:Obj:=(fR "inward" "inward" (top 29))
def Jy:Obj:=(cO "inward" "inward" 471 472 473 110 2 0 0 3 (.ref 213) true 181 (.ref 214) .none .none .none (.ref 215) 474 110 475)
def Ke:Obj:=(fO "inward" "inward" (top 29) (.str "pebbletoll.ways" 437) (.ref 216))
def KF:Obj:=(tO #[(.str "web" 482),(.str "numbers" 483)])
def N5:Obj:=(fR "wish_of" "wish_of" (top 31))
def Jb:Obj:=(cO "wish_of" "wish_of" 479 480 481 114 2 0 0 3 (.ref 218) true 181 (.ref 219) .none (.ref 220) (.ref 221) (.ref 222) 484 114 485)
def Kv:Obj:=(fO "wish_of" "wish_of" (top 31) (.str "pebbletoll.wishes" 477) (.ref 223))
def Jf:Obj:=(tO #[(.str "web" 492),(.str "wish" 493),(.str "v" 494)])
def Oc:Obj:=(fR "pile_need" "pile_need" (top 33))
def Jk:Obj:=(cO "pile_need" "pile_need" 489 490 491 119 3 0 0 3 (.ref 225) true 181 (.ref 226) .none (.ref 227) (.ref 228) (.ref 229) 495 119 496)
def Iw:Obj:=(fO "pile_need" "pile_need" (top 33) (.str "pebbletoll.always" 487) (.ref 230))
def Lf:Obj:=(tO #[(.str "web" 501),(.str "wish" 502),(.str "r" 503),(.str "found" 504),(.str "place" 505),(.str "front" 506)])
def NL:Obj:=(fR "needs" "needs" (top 34))
def KZ:Obj:=(cO "needs" "needs" 498 499 500 121 3 0 0 3 (.ref 232) true 181 (.ref 233) .none (.ref 234) (.ref 235) (.ref 236) 507 121 508)
def KJ:Obj:=(fO "needs" "needs" (top 34) (.str "pebbletoll.always" 487) (.ref 237))
def K9:Obj:=(tO #[(.str "web" 513),(.str "wish" 514)])
def NA:Obj:=(fR "always" "always" (top 35))
def KU:Obj:=(cO "always" "always" 510 511 512 126 2 0 0 3 (.ref 239) true 181 (.ref 240) .none (.ref 241) (.ref 242) (.ref 243) 515 126 516)
def Ks:Obj:=(fO "always" "always" (top 35) (.str "pebbletoll.always" 487) (.ref 244))
def NB:Obj:=(fR "fails" "fails" (top 36))
def JD:Obj:=(cO "fails" "fails" 518 519 520 130 2 0 0 3 (.ref 246) true 181 (.ref 247) .none .none .none (.ref 248) 521 130 522)
def Ix:Obj:=(fO "fails" "fails" (top 36) (.str "pebbletoll.always" 487) (.ref 249))
def Kg:Obj:=(tO #[(.str "web" 527),(.str "wish" 528)])
def NF:Obj:=(fR "is_idle" "is_idle" (top 37))
def JQ:Obj:=(cO "is_idle" "is_idle" 524 525 526 135 2 0 0 3 (.ref 251) true 181 (.ref 252) .none (.ref 253) (.ref 254) (.ref 255) 529 135 530)
def IU:Obj:=(fO "is_idle" "is_idle" (top 37) (.str "pebbletoll.always" 487) (.ref 256))
def IT:Obj:=(tO #[(.str "web" 535),(.str "wish" 536),(.str "r" 537)])
def NC:Obj:=(fR "failing" "failing" (top 38))
def Lj:Obj:=(cO "failing" "failing" 532 533 534 137 3 0 0 3 (.ref 258) true 181 (.ref 259) .none (.ref 260) (.ref 261) (.ref 262) 538 137 539)
def Kb:Obj:=(fO "failing" "failing" (top 38) (.str "pebbletoll.always" 487) (.ref 263))
def NV (P:Params):Obj:=(.mk (.type "dict") none (.dict #[(en P "__module__" 548 (.str "pebbletoll.always" 487)),(en P "__qualname__" 550 (.str "Outlook" 549)),(en P "__firstlineno__" 552 (.int 139 551)),(en P "__init__" 558 (.ref 276)),(en P "__static_attributes__" 563 (.ref 277))] 5) #[])
def Oe:Obj:=(.mk .none none (.fields #[(.int 141 0),(.int 4 0),(.ref 275)]) #[])
def Oi:Obj:=(cO "Outlook" "Outlook" 543 544 545 139 0 0 0 0 (.ref 268) false 181 (.ref 269) .none .none .none .none 546 139 547)
def M8:Obj:=(.mk (.type "frame") none .plain #[(some (.ref 270)),(some (.ref 3)),(some (.ref 267)),none,(some (.str "pebbletoll.always" 487)),none,(some (.ref 0))])
def NR:Obj:=(fR "__init__" "Outlook.__init__" (inC (top 39) 0))
def IL:Obj:=(cO "__init__" "Outlook.__init__" 553 554 555 141 4 0 0 3 (.ref 272) true 181 (.ref 273) .none .none .none (.ref 274) 556 141 557)
def JR:Obj:=(fO "__init__" "Outlook.__init__" (inC (top 39) 0) (.str "pebbletoll.always" 487) (.ref 275))
def IR:Obj:=(tO #[(.str "idle" 559),(.str "kids" 560),(.str "needs" 561),(.str "web" 562)])
def Ie (P:Params):Obj:=(.mk (.type "dict") none (.dict #[(en P "__module__" 548 (.str "pebbletoll.always" 487)),(en P "__firstlineno__" 552 (.int 139 551)),(en P "__init__" 558 (.ref 276)),(en P "__static_attributes__" 563 (.ref 277)),(en P "__dict__" 565 (.ref 280)),(en P "__weakref__" 567 (.ref 281)),(en P "__doc__" 568 .none)] 4) #[])
def JO:Obj:=(.mk (.type "type") none (.cls (.mk "Outlook" [(.type "object")] [(.ref 279),(.type "object")] 278 "Outlook" true [] [] false none false)) #[none,none,(some (.str "Outlook" 541)),(some (.str "Outlook" 549)),(some (.builtin "object.__new__")),(some (.bool true))])
def Kc:Obj:=(.mk (.type "getset_descriptor") none (.fields #[(.str "__dict__" 564),(.ref 279),(.builtin "function.__dict__"),(.builtin "function.__dict__#set")]) #[])
def IJ:Obj:=(.mk (.type "getset_descriptor") none (.fields #[(.str "__weakref__" 566),(.ref 279),(.builtin "ExceptionGroup.__weakref__"),.none]) #[])
def NN:Obj:=(.mk (.type "super") none (.fields #[(.ref 279),(.ref 279),(.ref 279)]) #[])
def Oh:Obj:=(.mk (.type "builtin_function_or_method") none (.fields #[(.builtin "object.__init_subclass__"),(.ref 279)]) #[])
def Jx:Obj:=(tO #[(.str "outlook" 574),(.str "place" 575),(.str "front" 576)])
def On:Obj:=(fR "idle_load" "idle_load" (top 40))
def Lb:Obj:=(cO "idle_load" "idle_load" 571 572 573 148 3 0 0 3 (.ref 284) true 181 (.ref 285) .none (.ref 286) (.ref 287) (.ref 288) 577 148 578)
def IP:Obj:=(fO "idle_load" "idle_load" (top 40) (.str "pebbletoll.always" 487) (.ref 289))
def KM:Obj:=(tO #[(.str "outlook" 583),(.str "place" 584),(.str "left_out" 585),(.str "load" 586),(.str "kid" 587)])
def M9:Obj:=(fR "idle_kids" "idle_kids" (top 41))
def IB:Obj:=(cO "idle_kids" "idle_kids" 580 581 582 152 3 0 0 3 (.ref 291) true 181 (.ref 292) .none (.ref 293) (.ref 294) (.ref 295) 588 152 589)
def IX:Obj:=(fO "idle_kids" "idle_kids" (top 41) (.str "pebbletoll.always" 487) (.ref 296))
def Oq:Obj:=(fR "added" "added" (top 42))
def Lz:Obj:=(cO "added" "added" 591 592 593 158 2 0 0 3 (.ref 298) true 181 (.ref 299) .none .none .none (.ref 300) 594 158 595)
def Lp:Obj:=(fO "added" "added" (top 42) (.str "pebbletoll.always" 487) (.ref 301))
def IV:Obj:=(tO #[(.str "outlook" 600),(.str "place" 601),(.str "over" 602),(.str "room" 603),(.str "best" 604),(.str "kid" 605),(.str "load" 606)])
def N9:Obj:=(fR "greatest_load" "greatest_load" (top 43))
def Lw:Obj:=(cO "greatest_load" "greatest_load" 597 598 599 160 3 0 0 3 (.ref 303) true 181 (.ref 304) .none (.ref 305) (.ref 306) (.ref 307) 607 160 608)
def Jr:Obj:=(fO "greatest_load" "greatest_load" (top 43) (.str "pebbletoll.always" 487) (.ref 308))
def K0:Obj:=(tO #[(.str "outlook" 613),(.str "place" 614),(.str "kid" 615),(.str "room" 616),(.str "given" 617),(.str "over" 618)])
def Ng:Obj:=(fR "load_by" "load_by" (top 44))
def Ly:Obj:=(cO "load_by" "load_by" 610 611 612 169 4 0 0 3 (.ref 310) true 181 (.ref 311) .none (.ref 312) (.ref 313) (.ref 314) 619 169 620)
def Kr:Obj:=(fO "load_by" "load_by" (top 44) (.str "pebbletoll.always" 487) (.ref 315))
def Jh:Obj:=(tO #[(.str "script" 627),(.str "k" 628),(.str "cell" 629),(.str "near" 630),(.str "far" 631)])
def NS:Obj:=(fR "_law_drawn" "_law_drawn" (top 46))
def JA:Obj:=(cO "_law_drawn" "_law_drawn" 624 625 626 174 2 0 0 3 (.ref 317) true 181 (.ref 318) .none (.ref 319) (.ref 320) (.ref 321) 632 174 633)
def KN:Obj:=(fO "_law_drawn" "_law_drawn" (top 46) (.str "law_pebbletoll_k42_always_refused" 622) (.ref 322))
def KQ:Obj:=(tO #[(.str "part" 638)])
def Op:Obj:=(fR "_law_toll" "_law_toll" (top 47))
def Km:Obj:=(cO "_law_toll" "_law_toll" 635 636 637 183 1 0 0 3 (.ref 324) true 181 (.ref 325) .none (.ref 326) (.ref 327) (.ref 328) 639 183 640)
def Jt:Obj:=(fO "_law_toll" "_law_toll" (top 47) (.str "law_pebbletoll_k42_always_refused" 622) (.ref 329))
def JZ:Obj:=(tO #[(.str "script" 645),(.str "many" 646),(.str "shape" 647),(.str "roads" 648),(.str "k" 649),(.str "part" 650),(.str "to" 651),(.str "there" 652),(.str "back" 653)])
def Np:Obj:=(fR "_law_roads" "_law_roads" (top 48))
def J5:Obj:=(cO "_law_roads" "_law_roads" 642 643 644 187 3 0 0 3 (.ref 331) true 181 (.ref 332) .none (.ref 333) (.ref 334) (.ref 335) 654 187 655)
def Ir:Obj:=(fO "_law_roads" "_law_roads" (top 48) (.str "law_pebbletoll_k42_always_refused" 622) (.ref 336))
def Kl:Obj:=(tO #[(.str "script" 660),(.str "reach" 661),(.str "head" 662),(.str "many" 663)])
def MX:Obj:=(fR "_law_web" "_law_web" (top 49))
def JB:Obj:=(cO "_law_web" "_law_web" 657 658 659 202 2 0 0 3 (.ref 338) true 181 (.ref 339) .none (.ref 340) (.ref 341) (.ref 342) 664 202 665)
def JY:Obj:=(fO "_law_web" "_law_web" (top 49) (.str "law_pebbletoll_k42_always_refused" 622) (.ref 343))
def IQ:Obj:=(tO #[(.str "script" 670),(.str "head" 671)])
def Nj:Obj:=(fR "_law_bound" "_law_bound" (top 50))
def Iy:Obj:=(cO "_law_bound" "_law_bound" 667 668 669 208 1 0 0 3 (.ref 345) true 181 (.ref 346) .none (.ref 347) (.ref 348) (.ref 349) 672 208 673)
def Jo:Obj:=(fO "_law_bound" "_law_bound" (top 50) (.str "law_pebbletoll_k42_always_refused" 622) (.ref 350))
def Om:Obj:=(tO #[(.str "script" 678),(.str "many" 679),(.str "bound" 680),(.str "laying" 681),(.str "k" 682),(.str "place" 683)])
def Nf:Obj:=(fR "_law_laying" "_law_laying" (top 51))
def MR:Obj:=(cO "_law_laying" "_law_laying" 675 676 677 211 3 0 0 3 (.ref 352) true 181 (.ref 353) .none (.ref 354) (.ref 355) (.ref 356) 684 211 685)
def NK:Obj:=(fO "_law_laying" "_law_laying" (top 51) (.str "law_pebbletoll_k42_always_refused" 622) (.ref 357))
def Jg:Obj:=(tO #[(.str "script" 690),(.str "many" 691),(.str "bound" 692),(.str "wish" 693),(.str "k" 694),(.str "place" 695)])
def NY:Obj:=(fR "_law_wish" "_law_wish" (top 52))
def Kh:Obj:=(cO "_law_wish" "_law_wish" 687 688 689 218 3 0 0 3 (.ref 359) true 181 (.ref 360) .none (.ref 361) (.ref 362) (.ref 363) 696 218 697)
def KY:Obj:=(fO "_law_wish" "_law_wish" (top 52) (.str "law_pebbletoll_k42_always_refused" 622) (.ref 364))
def Lc:Obj:=(tO #[(.str "numbers" 702),(.str "cell" 703),(.str "at" 704),(.str "made" 705)])
def NG:Obj:=(fR "_law_spoilt" "_law_spoilt" (top 53))
def Jz:Obj:=(cO "_law_spoilt" "_law_spoilt" 699 700 701 225 2 0 0 3 (.ref 366) true 181 (.ref 367) .none (.ref 368) (.ref 369) (.ref 370) 706 225 707)
def Ls:Obj:=(fO "_law_spoilt" "_law_spoilt" (top 53) (.str "law_pebbletoll_k42_always_refused" 622) (.ref 371))
def Ky:Obj:=(tO #[(.str "sort" 712),(.str "web" 713),(.str "wish" 714),(.str "r" 715),(.str "kinds" 716),(.str "e" 717)])
def Nq:Obj:=(fR "_law_kinds" "_law_kinds" (top 54))
def Lv:Obj:=(cO "_law_kinds" "_law_kinds" 709 710 711 239 4 0 0 3 (.ref 373) true 181 (.ref 374) .none (.ref 375) (.ref 376) (.ref 377) 718 239 719)
def Ik:Obj:=(fO "_law_kinds" "_law_kinds" (top 54) (.str "law_pebbletoll_k42_always_refused" 622) (.ref 378))
def Ib:Obj:=(tO #[(.str "script" 724),(.str "many" 725),(.str "roads" 726),(.str "web" 727),(.str "wish" 728),(.str "cell" 729),(.str "k" 730),(.str "bad" 731),(.str "place" 732),(.str "sort" 733),(.str "fuller" 734)])
def ND:Obj:=(fR "law" "law" (top 55))
def K1:Obj:=(cO "law" "law" 721 722 723 252 1 0 0 3 (.ref 380) true 181 (.ref 381) .none (.ref 382) (.ref 383) (.ref 384) 735 252 736)
def Ko:Obj:=(fO "law" "law" (top 55) (.str "law_pebbletoll_k42_always_refused" 622) (.ref 385))
noncomputable def h1 (P:Params):Heap:=.mk (.mk (boot_o_0 P::boot_o_1 P::boot_o_2 P::Ku P::boot_o_4 P::boot_o_5 P::boot_o_6 P::boot_o_7 P::boot_o_8 P::boot_o_9 P::boot_o_10 P::x0::Nd::x2::x3::x6::x7::x8 P::x0::x1::x9::x10::x0::x11 P::x12::x13::x14::x15::x16::x7::x17 P::x0::x1::x18::x19::x0::x20 P::x21::x22::x23::x16::x7::x24 P::x0::x1::x25::x26::x0::x27 P::x28::x29::x30::x16::x7::x31 P::x0::x1::x32::x33::x0::x34 P::x35::x36::x37::x16::x7::x38 P::x0::x1::x39::x40::x0::x41 P::x42::x43::x44::x16::x7::x45 P::x0::x1::x46::x47::x0::x48 P::x49::x50::x51::x16::x7::x52 P::x0::x1::x53::x54::x0::x55 P::x56::x57::x58::x0::x7::x59 P::x0::x60::x61::x62::x0::x1::x63::x64::x65::x66::x67 P::x68::x69::x70::x71::x72::x0::x1::x73::x0::x74::x75::x76::x0::x1::x77::x0::x78::x79::x80::x0::x1::x81::x0::x82::x83::x84::x0::x1::x85::x0::x86::x87::x88::x0::x1::x89::x0::x90::x91::x92::x0::x1::x93::x0::x94::x95::x96::x0::x1::x97::x0::x98::x99::FU::x0::x1::Fr::x0::KL::Gj::Fv::x0::x1::Kj::x0::NX::Ll::IZ::x0::x1::N3::J8::Iu::x0::x1::Jq::x0::Nn::J7::IY::x0::x1::Ki::x0::Nv::JS::HZ::x0::x1::Kz::x0::MT::Kk::KW::x0::x1::Ni::Iv::Ln::x0::x1::NT::Jy::Ke::x0::x1::KF::x0::N5::Jb::Kv::x0::x1::Jf::x0::Oc::Jk::Iw::x0::x1::Lf::x0::NL::KZ::KJ::x0::x1::K9::x0::NA::KU::Ks::x0::x1::NB::JD::Ix::x0::x1::Kg::x0::NF::JQ::IU::x0::x1::IT::x0::NC::Lj::Kb::x0::x7::NV P::x0::Oe::Oi::M8::x0::x1::NR::IL::JR::IR::Ie P::JO::Kc::IJ::NN::Oh::x0::x1::Jx::x0::On::Lb::IP::x0::x1::KM::x0::M9::IB::IX::x0::x1::Oq::Lz::Lp::x0::x1::IV::x0::N9::Lw::Jr::x0::x1::K0::x0::Ng::Ly::Kr::x0::x1::Jh::x0::NS::JA::KN::x0::x1::KQ::x0::Op::Km::Jt::x0::x1::JZ::x0::Np::J5::Ir::x0::x1::Kl::x0::MX::JB::JY::x0::x1::IQ::x0::Nj::Iy::Jo::x0::x1::Om::x0::Nf::MR::NK::x0::x1::Jg::x0::NY::Kh::KY::x0::x1::Lc::x0::NG::Jz::Ls::x0::x1::Ky::x0::Nq::Lv::Ik::x0::x1::Ib::x0::ND::K1::Ko::[])) (.mk [] [] [] 0 [] [] false #[] [] 0 false false false 0 [2000,10,10] false 0 true [] [] 0 false)
theorem OO (w:World) (os:OsState):segRun treeTable PySem.Challenge.pw_pebbletoll_k42_always_refused w 11 (some (.ref 6)) 1 1181 (Shared.mk (h0 w.params) (.mk []) (.mk 0 0 0 0) 412 os) (piecesOf st1 env cE (.mk 62 0 72 75) [topFrame (.mk 0 0 0 0)])=some (.next,(Shared.mk (h1 w.params) (.mk []) (.mk 0 0 0 0) 738 os),cE,(.mk 252 0 274 39)):=by kernel_rfl
noncomputable def hf (P:Params):Heap:=.mk (.mk (boot_o_0 P::boot_o_1 P::boot_o_2 P::Ku P::boot_o_4 P::boot_o_5 P::boot_o_6 P::boot_o_7 P::boot_o_8 P::boot_o_9 P::boot_o_10 P::x0::Nd::x2::x3::x6::x7::x8 P::x0::x1::x9::x10::x0::x11 P::x12::x13::x14::x15::x16::x7::x17 P::x0::x1::x18::x19::x0::x20 P::x21::x22::x23::x16::x7::x24 P::x0::x1::x25::x26::x0::x27 P::x28::x29::x30::x16::x7::x31 P::x0::x1::x32::x33::x0::x34 P::x35::x36::x37::x16::x7::x38 P::x0::x1::x39::x40::x0::x41 P::x42::x43::x44::x16::x7::x45 P::x0::x1::x46::x47::x0::x48 P::x49::x50::x51::x16::x7::x52 P::x0::x1::x53::x54::x0::x55 P::x56::x57::x58::x0::x7::x59 P::x0::x60::x61::x62::x0::x1::x63::x64::x65::x66::x67 P::x68::x69::x70::x71::x72::x0::x1::x73::x0::x74::x75::x76::x0::x1::x77::x0::x78::x79::x80::x0::x1::x81::x0::x82::x83::x84::x0::x1::x85::x0::x86::x87::x88::x0::x1::x89::x0::x90::x91::x92::x0::x1::x93::x0::x94::x95::x96::x0::x1::x97::x0::x98::x99::FU::x0::x1::Fr::x0::KL::Gj::Fv::x0::x1::Kj::x0::NX::Ll::IZ::x0::x1::N3::J8::Iu::x0::x1::Jq::x0::Nn::J7::IY::x0::x1::Ki::x0::Nv::JS::HZ::x0::x1::Kz::x0::MT::Kk::KW::x0::x1::Ni::Iv::Ln::x0::x1::NT::Jy::Ke::x0::x1::KF::x0::N5::Jb::Kv::x0::x1::Jf::x0::Oc::Jk::Iw::x0::x1::Lf::x0::NL::KZ::KJ::x0::x1::K9::x0::NA::KU::Ks::x0::x1::NB::JD::Ix::x0::x1::Kg::x0::NF::JQ::IU::x0::x1::IT::x0::NC::Lj::Kb::x0::x7::NV P::x0::Oe::Oi::M8::x0::x1::NR::IL::JR::IR::Ie P::JO::Kc::IJ::NN::Oh::x0::x1::Jx::x0::On::Lb::IP::x0::x1::KM::x0::M9::IB::IX::x0::x1::Oq::Lz::Lp::x0::x1::IV::x0::N9::Lw::Jr::x0::x1::K0::x0::Ng::Ly::Kr::x0::x1::Jh::x0::NS::JA::KN::x0::x1::KQ::x0::Op::Km::Jt::x0::x1::JZ::x0::Np::J5::Ir::x0::x1::Kl::x0::MX::JB::JY::x0::x1::IQ::x0::Nj::Iy::Jo::x0::x1::Om::x0::Nf::MR::NK::x0::x1::Jg::x0::NY::Kh::KY::x0::x1::Lc::x0::NG::Jz::Ls::x0::x1::Ky::x0::Nq::Lv::Ik::x0::x1::Ib::x0::ND::K1::Ko::[])) (.mk [] [] [] 0 [] [] false #[] [] 0 false false false 0 [2000,10,10] false 0 true [] [] 0 false)
theorem OS (w:World) (os:OsState):topRun treeTable PySem.Challenge.pw_pebbletoll_k42_always_refused w 11 (some (.ref 6)) 2 (Shared.mk (h1 w.params) (.mk []) (.mk 0 0 0 0) 738 os) (restOf [] env cE (.mk 252 0 274 39) [topFrame (.mk 0 0 0 0)])=some (Shared.mk (hf w.params) (.mk []) (.mk 0 0 0 0) 738 os):=by kernel_rfl
theorem run (w:World) (os:OsState):topRun treeTable PySem.Challenge.pw_pebbletoll_k42_always_refused w 11 (some (.ref 6)) (12+(1+(1978+(1181+(2))))) (Shared.mk (boot_heap w.params) (.mk []) boot_drawn boot_toks os) (topStub PySem.Challenge.pw_pebbletoll_k42_always_refused)=some (Shared.mk (hf w.params) (.mk []) (.mk 0 0 0 0) 738 os):=go_top (OT w os) (piece_block (OV w os) (piece_app (OM w os) (piece_app (OO w os) (OS w os))))
theorem opn:∀ w:World,(fencedOpening treeTable PySem.Challenge.pw_pebbletoll_k42_always_refused w 6440).map (fun s=>(s.heap,s.gens,s.drawn,s.toks))=some (boot_heap w.params,Array.mk [],boot_drawn,boot_toks):=boot_open (by kernel_rfl) (by decide) fun s=>by kernel_rfl
theorem siz (w:World):((boot_heap w.params).isNs mainGlobals && (Array.mk ([]:List GenState)).size == 0,(boot_heap w.params).objs.size,(boot_heap w.params).nsMap mainGlobals "__annotations__")=(true,11,(some (.ref 6))):=by kernel_rfl
noncomputable def KK:Params->Frag:=fun P =>
 (nat_lit 2,boot_o_2 P) ::
 (nat_lit 3,Ku P) ::
 (nat_lit 15,x6) ::
 (nat_lit 22,x0) ::
 (nat_lit 23,x11 P) ::
 (nat_lit 24,x12) ::
 (nat_lit 25,x13) ::
 (nat_lit 28,x16) ::
 (nat_lit 35,x0) ::
 (nat_lit 36,x20 P) ::
 (nat_lit 37,x21) ::
 (nat_lit 40,x16) ::
 (nat_lit 47,x0) ::
 (nat_lit 48,x27 P) ::
 (nat_lit 49,x28) ::
 (nat_lit 52,x16) ::
 (nat_lit 59,x0) ::
 (nat_lit 60,x34 P) ::
 (nat_lit 61,x35) ::
 (nat_lit 64,x16) ::
 (nat_lit 71,x0) ::
 (nat_lit 72,x41 P) ::
 (nat_lit 73,x42) ::
 (nat_lit 76,x16) ::
 (nat_lit 83,x0) ::
 (nat_lit 84,x48 P) ::
 (nat_lit 85,x49) ::
 (nat_lit 88,x16) ::
 (nat_lit 95,x0) ::
 (nat_lit 96,x55 P) ::
 (nat_lit 97,x56) ::
 (nat_lit 107,x0) ::
 (nat_lit 110,x64) ::
 (nat_lit 111,x65) ::
 (nat_lit 112,x66) ::
 (nat_lit 113,x67 P) ::
 (nat_lit 114,x68) ::
 (nat_lit 115,x69) ::
 (nat_lit 116,x70) ::
 (nat_lit 119,x0) ::
 (nat_lit 121,x73) ::
 (nat_lit 122,x0) ::
 (nat_lit 124,x75) ::
 (nat_lit 125,x76) ::
 (nat_lit 126,x0) ::
 (nat_lit 128,x77) ::
 (nat_lit 129,x0) ::
 (nat_lit 131,x79) ::
 (nat_lit 132,x80) ::
 (nat_lit 133,x0) ::
 (nat_lit 135,x81) ::
 (nat_lit 136,x0) ::
 (nat_lit 138,x83) ::
 (nat_lit 139,x84) ::
 (nat_lit 140,x0) ::
 (nat_lit 142,x85) ::
 (nat_lit 143,x0) ::
 (nat_lit 145,x87) ::
 (nat_lit 146,x88) ::
 (nat_lit 147,x0) ::
 (nat_lit 149,x89) ::
 (nat_lit 150,x0) ::
 (nat_lit 152,x91) ::
 (nat_lit 153,x92) ::
 (nat_lit 154,x0) ::
 (nat_lit 156,x93) ::
 (nat_lit 157,x0) ::
 (nat_lit 159,x95) ::
 (nat_lit 160,x96) ::
 (nat_lit 161,x0) ::
 (nat_lit 163,x97) ::
 (nat_lit 164,x0) ::
 (nat_lit 166,x99) ::
 (nat_lit 167,FU) ::
 (nat_lit 168,x0) ::
 (nat_lit 170,Fr) ::
 (nat_lit 171,x0) ::
 (nat_lit 173,Gj) ::
 (nat_lit 174,Fv) ::
 (nat_lit 175,x0) ::
 (nat_lit 177,Kj) ::
 (nat_lit 178,x0) ::
 (nat_lit 180,Ll) ::
 (nat_lit 181,IZ) ::
 (nat_lit 182,x0) ::
 (nat_lit 185,J8) ::
 (nat_lit 186,Iu) ::
 (nat_lit 187,x0) ::
 (nat_lit 189,Jq) ::
 (nat_lit 190,x0) ::
 (nat_lit 192,J7) ::
 (nat_lit 193,IY) ::
 (nat_lit 194,x0) ::
 (nat_lit 196,Ki) ::
 (nat_lit 197,x0) ::
 (nat_lit 199,JS) ::
 (nat_lit 200,HZ) ::
 (nat_lit 201,x0) ::
 (nat_lit 203,Kz) ::
 (nat_lit 204,x0) ::
 (nat_lit 206,Kk) ::
 (nat_lit 207,KW) ::
 (nat_lit 208,x0) ::
 (nat_lit 211,Iv) ::
 (nat_lit 212,Ln) ::
 (nat_lit 213,x0) ::
 (nat_lit 216,Jy) ::
 (nat_lit 217,Ke) ::
 (nat_lit 218,x0) ::
 (nat_lit 220,KF) ::
 (nat_lit 221,x0) ::
 (nat_lit 223,Jb) ::
 (nat_lit 224,Kv) ::
 (nat_lit 225,x0) ::
 (nat_lit 227,Jf) ::
 (nat_lit 228,x0) ::
 (nat_lit 230,Jk) ::
 (nat_lit 231,Iw) ::
 (nat_lit 232,x0) ::
 (nat_lit 234,Lf) ::
 (nat_lit 235,x0) ::
 (nat_lit 237,KZ) ::
 (nat_lit 238,KJ) ::
 (nat_lit 239,x0) ::
 (nat_lit 241,K9) ::
 (nat_lit 242,x0) ::
 (nat_lit 244,KU) ::
 (nat_lit 245,Ks) ::
 (nat_lit 246,x0) ::
 (nat_lit 249,JD) ::
 (nat_lit 250,Ix) ::
 (nat_lit 251,x0) ::
 (nat_lit 253,Kg) ::
 (nat_lit 254,x0) ::
 (nat_lit 256,JQ) ::
 (nat_lit 257,IU) ::
 (nat_lit 258,x0) ::
 (nat_lit 260,IT) ::
 (nat_lit 261,x0) ::
 (nat_lit 263,Lj) ::
 (nat_lit 264,Kb) ::
 (nat_lit 272,x0) ::
 (nat_lit 275,IL) ::
 (nat_lit 276,JR) ::
 (nat_lit 277,IR) ::
 (nat_lit 278,Ie P) ::
 (nat_lit 279,JO) ::
 (nat_lit 280,Kc) ::
 (nat_lit 281,IJ) ::
 (nat_lit 284,x0) ::
 (nat_lit 286,Jx) ::
 (nat_lit 287,x0) ::
 (nat_lit 289,Lb) ::
 (nat_lit 290,IP) ::
 (nat_lit 291,x0) ::
 (nat_lit 293,KM) ::
 (nat_lit 294,x0) ::
 (nat_lit 296,IB) ::
 (nat_lit 297,IX) ::
 (nat_lit 298,x0) ::
 (nat_lit 301,Lz) ::
 (nat_lit 302,Lp) ::
 (nat_lit 303,x0) ::
 (nat_lit 305,IV) ::
 (nat_lit 306,x0) ::
 (nat_lit 308,Lw) ::
 (nat_lit 309,Jr) ::
 (nat_lit 310,x0) ::
 (nat_lit 312,K0) ::
 (nat_lit 313,x0) ::
 (nat_lit 315,Ly) ::
 (nat_lit 316,Kr) ::
 (nat_lit 317,x0) ::
 (nat_lit 319,Jh) ::
 (nat_lit 320,x0) ::
 (nat_lit 322,JA) ::
 (nat_lit 323,KN) ::
 (nat_lit 324,x0) ::
 (nat_lit 326,KQ) ::
 (nat_lit 327,x0) ::
 (nat_lit 329,Km) ::
 (nat_lit 330,Jt) ::
 (nat_lit 331,x0) ::
 (nat_lit 333,JZ) ::
 (nat_lit 334,x0) ::
 (nat_lit 336,J5) ::
 (nat_lit 337,Ir) ::
 (nat_lit 338,x0) ::
 (nat_lit 340,Kl) ::
 (nat_lit 341,x0) ::
 (nat_lit 343,JB) ::
 (nat_lit 344,JY) ::
 (nat_lit 345,x0) ::
 (nat_lit 347,IQ) ::
 (nat_lit 348,x0) ::
 (nat_lit 350,Iy) ::
 (nat_lit 351,Jo) ::
 (nat_lit 359,x0) ::
 (nat_lit 361,Jg) ::
 (nat_lit 362,x0) ::
 (nat_lit 364,Kh) ::
 (nat_lit 365,KY) ::
 (nat_lit 366,x0) ::
 (nat_lit 368,Lc) ::
 (nat_lit 369,x0) ::
 (nat_lit 371,Jz) ::
 (nat_lit 372,Ls) ::
 (nat_lit 373,x0) ::
 (nat_lit 375,Ky) ::
 (nat_lit 376,x0) ::
 (nat_lit 378,Lv) ::
 (nat_lit 379,Ik) ::
 (nat_lit 380,x0) ::
 (nat_lit 382,Ib) ::
 (nat_lit 383,x0) ::
 (nat_lit 385,K1) ::
 (nat_lit 386,Ko)::[]
abbrev qq:Program:=PySem.W.view PySem.Challenge.pw_pebbletoll_k42_always_refused [1,2,3,4,5,6,7,9,10,11,12,13,14,15,16,17,18,19,20,21,23,24,26,27,28,29,31,33,34,35,36,37,38,39,40,41,42,43,44,46,47,48,49,50,51,52,53,54,55]
abbrev asK:List Addr:=[2,3,15,22,23,24,25,28,35,36,37,40,47,48,49,52,59,60,61,64,71,72,73,76,83,84,85,88,95,96,97,107,110,111,112,113,114,115,116,119,121,122,124,125,126,128,129,131,132,133,135,136,138,139,140,142,143,145,146,147,149,150,152,153,154,156,157,159,160,161,163,164,166,167,168,170,171,173,174,175,177,178,180,181,182,185,186,187,189,190,192,193,194,196,197,199,200,201,203,204,206,207,208,211,212,213,216,217,218,220,221,223,224,225,227,228,230,231,232,234,235,237,238,239,241,242,244,245,246,249,250,251,253,254,256,257,258,260,261,263,264,272,275,276,277,278,279,280,281,284,286,287,289,290,291,293,294,296,297,298,301,302,303,305,306,308,309,310,312,313,315,316,317,319,320,322,323,324,326,327,329,330,331,333,334,336,337,338,340,341,343,344,345,347,348,350,351,359,361,362,364,365,366,368,369,371,372,373,375,376,378,379,380,382,383,385,386]
theorem asK_eq:∀ P,asK=(KK P).map (·.1):=fun _=>by kernel_rfl
theorem OC (w:World):(fun os=>((staticsOk (importedModules PySem.Challenge.pw_pebbletoll_k42_always_refused.main.body) (boot_heap w.params) (hf w.params) && namesBound PySem.Challenge.pw_pebbletoll_k42_always_refused (hf w.params) && gensDone (Shared.mk (Hd.hf w.params) (.mk []) (.mk 0 0 0 0) 738 os) && laidKept (boot_heap w.params) (hf w.params)),openSeen qq [] (importedModules PySem.Challenge.pw_pebbletoll_k42_always_refused.main.body) (fun s=>PySem.W.xlAt Hd.qq [] s && PySem.W.recOk (PySem.W.RowW.records (PySem.W.OpenRow.toRowW (PySem.Challenge.rw_pebbletoll_k42_always_refused).row)) s) true (Shared.mk (Hd.hf w.params) (.mk []) (.mk 0 0 0 0) 738 os),Hook.obs (PySem.W.kHook Hd.KK Hd.asK Hd.asK_eq) (Shared.mk (Hd.hf w.params) (.mk []) (.mk 0 0 0 0) 738 os)))=fun _=>(true,openGood qq [],Hook.val (PySem.W.kHook Hd.KK Hd.asK Hd.asK_eq) w):=by kernel_rfl
theorem left:PySem.W.LeftO (PySem.Challenge.rw_pebbletoll_k42_always_refused).row.prog qq [] (fun s=>PySem.W.xlAt Hd.qq [] s && PySem.W.recOk (PySem.W.RowW.records (PySem.W.OpenRow.toRowW (PySem.Challenge.rw_pebbletoll_k42_always_refused).row)) s) (PySem.W.Hook.obs (PySem.W.kHook Hd.KK Hd.asK Hd.asK_eq)) (PySem.W.Hook.val (PySem.W.kHook Hd.KK Hd.asK Hd.asK_eq)) 6440:=LeftO.of_pieces opn siz run (by decide) OC
end Hd
set_option Elab.async false
set_option linter.all false
set_option maxRecDepth 100000
namespace L2
open PySem PySem.Spec PyProof.Rows
abbrev Key:=Sum Int Str
def vY:Key->Value->Bool
 | .inl k,v=>Value.isInt k v
 | .inr x,v=>Value.isStrOf x v
def OW (w:World):Key->Int
 | .inl k=>hashInt k
 | .inr x=>hashStr w x
theorem dz:∀ {k:Key} {v:Value},vY k v=true->(∃ i t,k=Sum.inl i/\v=Value.int i t)\/(∃ x t,k=Sum.inr x/\v=Value.str x t)
 | .inl i,v,h=>by
   obtain ⟨t,e⟩:=Value.isInt_shape (k:=i) (v:=v) h;exact .inl ⟨i,t,rfl,e⟩
 | .inr x,v,h=>by
   obtain ⟨t,e⟩:=Value.isStrOf_shape (x:=x) (v:=v) h;exact .inr ⟨x,t,rfl,e⟩
theorem HU (i:Int) (t:Tok):vY (.inl i) (.int i t)=true:=by simp [vY,Value.isInt]
theorem GJ (x:Str) (t:Tok):vY (.inr x) (.str x t)=true:=by simp [vY,Value.isStrOf]
theorem MU (a b:Int):decide ((Sum.inl a:Key)=Sum.inl b)=(a == b):=by
 by_cases e:a=b
 . subst e;simp
 . have h:¬ (Sum.inl a:Key)=Sum.inl b:=fun q=>e (Sum.inl.inj q);rw [decide_eq_false h];exact (beq_eq_false_iff_ne.mpr e).symm
theorem Oa (a b:Str):decide ((Sum.inr a:Key)=Sum.inr b)=decide (a=b):=by
 by_cases e:a=b
 . subst e;simp
 . have h:¬ (Sum.inr a:Key)=Sum.inr b:=fun q=>e (Sum.inr.inj q);rw [decide_eq_false h,decide_eq_false e]
theorem NU (a:Int) (b:Str):decide ((Sum.inl a:Key)=Sum.inr b)=false:=decide_eq_false (fun q=>nomatch q)
theorem No (a:Str) (b:Int):decide ((Sum.inr a:Key)=Sum.inl b)=false:=decide_eq_false (fun q=>nomatch q)
def da (prog:Program) (w:World):PySem.KeyKind prog w Key where
 is:=vY
 hash:=OW w
 inj:=fun v a b ha hb=>by
   rcases dz ha with ⟨i,t,rfl,rfl⟩|⟨x,t,rfl,rfl⟩
   . rcases dz hb with ⟨j,u,rfl,e⟩|⟨y,u,rfl,e⟩
     . injection e with e1 _;rw [e1]
     . exact nomatch e
   . rcases dz hb with ⟨j,u,rfl,e⟩|⟨y,u,rfl,e⟩
     . exact nomatch e
     . injection e with e1 _;rw [e1]
 byValue:=fun k v h=>by
   rcases dz h with ⟨i,t,rfl,rfl⟩|⟨x,t,rfl,rfl⟩ <;> rfl
 pyHash:=fun hv h=>by
   rcases dz hv with ⟨i,t,rfl,rfl⟩|⟨x,t,rfl,rfl⟩
   . exact wpAny_pyHash_int h
   . exact wpAny_pyHash_str h
 eqBool:=fun hu hv h=>by
   rcases dz hu with ⟨i,t,rfl,rfl⟩|⟨x,t,rfl,rfl⟩
   . rcases dz hv with ⟨j,u,rfl,rfl⟩|⟨y,u,rfl,rfl⟩
     . rw [MU] at h;exact wpAny_eqBool_int h
     . rw [NU] at h;exact SeqAt.EqAt.int_str i t y u _ _ _ _ h
   . rcases dz hv with ⟨j,u,rfl,rfl⟩|⟨y,u,rfl,rfl⟩
     . rw [No] at h;exact SeqAt.EqAt.str_int x t j u _ _ _ _ h
     . rw [Oa] at h;exact wpAny_eqBool_str h
 «strs»:=fun k x t v h=>by
   rcases dz h with ⟨i,u,rfl,e⟩|⟨y,u,rfl,e⟩
   . exact nomatch e
   . injection e with e1 _
     subst e1;cases v <;> rfl
theorem D8 (prog:Program) (w:World) (i:Int) (t:Tok):(da prog w).is (.inl i) (.int i t)=true:=HU i t
theorem D6 (prog:Program) (w:World) (x:Str) (t:Tok):(da prog w).is (.inr x) (.str x t)=true:=GJ x t
end L2
namespace L2
open PySem PySem.Spec PyProof.Rows
inductive V where
 | non|bl (b:Bool)|int (i:Int)|str (x:Str)|byt (b:Array UInt8)|flt (b:UInt64)|ref (a:Addr)|ty (n:String)
 deriving DecidableEq
def RelV:V->Value->Prop
 | .non,u=>u=Value.none
 | .bl b,u=>u=Value.bool b
 | .int i,u=>∃ t,u=Value.int i t
 | .str x,u=>∃ t,u=Value.str x t
 | .byt b,u=>∃ t,u=Value.bytes b t
 | .flt b,u=>∃ t,u=Value.float b t
 | .ref a,u=>u=Value.ref a
 | .ty n,u=>u=Value.type n
abbrev Vals:List V->List Value->Prop:=Paired RelV
theorem Vals.length {xs:List V} {us:List Value} (r:Vals xs us):xs.length=us.length:=Paired.length r
theorem Vals.get:∀ {xs:List V} {us:List Value} {i:Nat} {x:V},Vals xs us->xs[i]?=some x->∃ u,us[i]?=some u/\RelV x u
 | _,_,_,_,.nil,e=>by simp at e
 | _,_,0,_,.cons r _,e=>by simp at e;subst e;exact ⟨_,rfl,r⟩
 | _,_,i+1,x,.cons _ t,e=>by
   obtain ⟨u,h1,h2⟩:=Vals.get (i:=i) (x:=x) t (by simpa using e);exact ⟨u,by simpa using h1,h2⟩
theorem Vals.set {x:V} {u:Value} (r:RelV x u):∀ {xs:List V} {us:List Value} (i:Nat),Vals xs us->Vals (xs.set i x) (us.set i u)
 | _,_,_,.nil=>.nil
 | _,_,0,.cons _ t=>.cons r t
 | _,_,i+1,.cons q t=>.cons q (Vals.set r i t)
theorem Vals.append:∀ {xs ys:List V} {us ws:List Value},Vals xs us->Vals ys ws->Vals (xs++ys) (us++ws)
 | _,_,_,_,.nil,s=>s
 | _,_,_,_,.cons r t,s=>.cons r (Vals.append t s)
theorem Vals.take:∀ {xs:List V} {us:List Value} (n:Nat),Vals xs us->Vals (xs.take n) (us.take n)
 | _,_,0,_=>.nil
 | _,_,_+1,.nil=>.nil
 | _,_,n+1,.cons r t=>.cons r (Vals.take n t)
theorem Vals.drop:∀ {xs:List V} {us:List Value} (n:Nat),Vals xs us->Vals (xs.drop n) (us.drop n)
 | _,_,0,r=>r
 | _,_,_+1,.nil=>.nil
 | _,_,n+1,.cons _ t=>Vals.drop n t
def RelO:Option V->Option Value->Prop
 | some v,some u=>RelV v u
 | none,none=>True
 | _,_=>False
def KV {κ:Type}:List (κ × V)->List (κ × Value)->Prop:=Paired fun (p:κ × V) (q:κ × Value)=>p.1=q.1/\RelV p.2 q.2
def kV:Key->V
 | .inl i=>.int i
 | .inr x=>.str x
inductive HO where
 /-- a list -/
 | lst (xs:List V)
 /-- a tuple (never changes) -/
 | tup (xs:List V)
 /-- a dict whose keys are ints and texts;one whose keys are tuples of ints and texts (the empty one is both) -/
 | dK (kvs:List (Key × V))|dT (kvs:List (List Key × V))
 /-- a set of ints: its members,its size -/
 | set (S:Int->Bool) (n:Nat)
 /-- an instance of the class at C,its dict at dx,its attributes -/
 | ins (C dx:Addr) (fs:List (Str × V))
 /-- the dict of the instance at x -/
 | own (x:Addr)
 /-- the dict of an exception -/
 | xd (fs:List (Str × V))
 /-- a bound method,f of x -/
 | met (f x:Addr)
 /-- a range object lo,lo+1,.. below hi -/
 | rng (lo hi:Int)
 /-- a thing that is known to the object (the script;a dict while a loop walks it): read,never written while it is so -/
 | frz (o:Obj) (u:HO)
 /-- a code object's table -/
 | tbl (ps:Array Value)
 /-- any other thing,by what is true of its one object (a def of one's own: SetO a S n:=HO.ext fun h=>..) -/
 | ext (φ:Heap->Prop)
abbrev Hp:=Addr->Option HO
def upd (H:Hp) (a:Addr) (o:HO):Hp:=fun b=>if b=a then some o else H b
theorem ah {H:Hp} {a:Addr} {o:HO}:upd H a o a=some o:=by unfold upd;rw [if_pos rfl]
theorem ar {H:Hp} {a b:Addr} {o:HO} (h:b≠a):upd H a o b=H b:=by unfold upd;rw [if_neg h]
theorem mI {H:Hp} {a:Addr} {o u:HO}:upd (upd H a o) a u=upd H a u:=by
 funext b;unfold upd;split <;> rfl
theorem gm {H:Hp} {a b:Addr} {o u:HO} (h:H a=some o) (h':H b=some u) (d:o≠u):a≠b:=by
 intro e;subst e;rw [h] at h';exact d (Option.some.inj h')
theorem bh {H:Hp} {a b:Addr} {o:HO} (h:H a=some o) (h':H b=none):a≠b:=by
 intro e;subst e;rw [h] at h';cases h'
section
variable (P:Program) (w:World)
def ObjOk (H:Hp) (h:Heap) (a:Addr):HO->Prop
 | .lst xs=>xs.length<=sizeLine/\∃ (its:List Value) (n:Nat),Vals xs its/\h.get? a=some { cls:=.type "list",data:=.seq its.toArray n }
 | .tup xs=>xs.length<=sizeLine/\∃ its:List Value,Vals xs its/\IsTup h a its.toArray
 | .dK kvs=>kvs.length<=sizeLine/\(a == sysModules)=false/\∃ vs,KV kvs vs/\h.DictOf (da P w) a vs
 | .dT kvs=>kvs.length<=sizeLine/\(a == sysModules)=false/\∃ xs:List (List Key × Addr × Value),
     Paired (fun (p:List Key × V) (q:List Key × Addr × Value)=>p.1=q.1/\H q.2.1=some (.tup (p.1.map kV))/\RelV p.2 q.2.2) kvs xs /\
     ∃ o es ep,h.get? a=some o/\o.ExactDict/\o.data=.dict es ep/\es.toList=xs.map (entryOfKey (tupleKind (da P w)))/\(xs.map (·.1)).Nodup
 | .set S n=>h.SetOf (intKind P w) a S n
 | .ins C dx fs=>H dx=some (.own a)/\fs.length<=1000/\dx≠a/\h.get? a=some (PySem.W.instObj C dx) /\
     ∃ mA,h.Ns1 dx mA/\(∀ f,RelO (fs.lookup f) (mA f))/\PySem.Within mA (fs.map (·.1))
 | .own _=>∃ o,h.get? a=some o
 | .xd fs=>∃ mA,h.Ns1 a mA/\∀ f,RelO (fs.lookup f) (mA f)
 | .rng lo hi=>∃ t u v,h.get? a=some { cls:=.type "range",data:=.fields #[.int lo t,.int hi u,.int 1 v] }
 | .frz o u=>h.get? a=some o/\ObjOk H h a u
 | .tbl ps=>h.get? a=some { cls:=.none,data:=.fields ps }
 | .met f x=>h.get? a=some (PySem.W.methodObj (.ref f) (.ref x))
 | .ext φ=>φ h/\(∃ o,h.get? a=some o)/\∀ h1 h2:Heap,φ h1->(∀ o,h1.get? a=some o->h2.get? a=some o)->φ h2
def HOk (H:Hp) (h:Heap):Prop:=∀ a o,H a=some o->ObjOk P w H h a o
end
section
variable {P:Program} {w:World} {H H':Hp} {h h':Heap} {a:Addr} {o:HO}
theorem ObjOk.lt (x:ObjOk P w H h a o):a<h.objs.size:=by
 cases o with
 | lst xs=>obtain ⟨_,_,_,_,e⟩:=x;exact Heap.lt_size e
 | tup xs=>obtain ⟨_,_,_,p⟩:=x;exact p.lt
 | dK kvs=>obtain ⟨_,_,_,_,o,_,_,e,_⟩:=x;exact Heap.lt_size e
 | dT kvs=>obtain ⟨_,_,_,_,o,_,_,e,_⟩:=x;exact Heap.lt_size e
 | set S n=>obtain ⟨o,_,_,_,e,_⟩:=x;exact Heap.lt_size e
 | ins C dx fs=>obtain ⟨_,_,_,e,_⟩:=x;exact Heap.lt_size e
 | own y=>obtain ⟨_,e⟩:=x;exact Heap.lt_size e
 | xd fs=>obtain ⟨_,⟨_,_,_,e,_⟩,_⟩:=x;exact Heap.lt_size e
 | rng lo hi=>obtain ⟨_,_,_,e⟩:=x;exact Heap.lt_size e
 | frz ob u=>obtain ⟨e,_⟩:=x;exact Heap.lt_size e
 | tbl ps=>exact Heap.lt_size (show h.get? a=some _ from x)
 | met f y=>exact Heap.lt_size (show h.get? a=some _ from x)
 | ext φ=>obtain ⟨_,⟨_,e⟩,_⟩:=x;exact Heap.lt_size e
theorem Paired.mapP {α β:Type} {F G:α->β->Prop}:∀ {l₁:List α} {l₂:List β},Paired F l₁ l₂->(∀ a b,F a b->G a b)->Paired G l₁ l₂
 | _,_,.nil,_=>.nil
 | _,_,.cons r t,f=>.cons (f _ _ r) (Paired.mapP t f)
theorem Paired.imp' {α β:Type} {F G:α->β->Prop} (f:∀ a b,F a b->G a b) {l₁:List α} {l₂:List β} (r:Paired F l₁ l₂):Paired G l₁ l₂:=Paired.mapP r f
theorem ObjOk.stay (x:ObjOk P w H h a o) (k:∀ b u,(b=a\/H b=some (.own a))->h.get? b=some u->h'.get? b=some u)
   (ho:∀ b,H b=some (.own a)->H' b=some (.own a)) (ht:∀ b xs,H b=some (.tup xs)->H' b=some (.tup xs)):ObjOk P w H' h' a o:=by
 induction o with
 | lst xs=>obtain ⟨z,its,n,r,e⟩:=x;exact ⟨z,its,n,r,k _ _ (.inl rfl) e⟩
 | tup xs=>obtain ⟨z,its,r,ob,e,c⟩:=x;exact ⟨z,its,r,ob,k _ _ (.inl rfl) e,c⟩
 | dK kvs=>obtain ⟨z,y,vs,r,ob,es,ep,e,c⟩:=x;exact ⟨z,y,vs,r,ob,es,ep,k _ _ (.inl rfl) e,c⟩
 | dT kvs =>
   obtain ⟨z,y,xs,r,ob,es,ep,e,c⟩:=x;exact ⟨z,y,xs,Paired.mapP r fun p q z=>⟨z.1,ht _ _ z.2.1,z.2.2⟩,ob,es,ep,k _ _ (.inl rfl) e,c⟩
 | set S n=>obtain ⟨ob,es,ep,t,e,c⟩:=x;exact ⟨ob,es,ep,t,k _ _ (.inl rfl) e,c⟩
 | ins C dx fs =>
   obtain ⟨d,z,ne,e,mA,⟨od,es,ep,e2,c⟩,r⟩:=x;exact ⟨ho _ d,z,ne,k _ _ (.inl rfl) e,mA,⟨od,es,ep,k _ _ (.inr d) e2,c⟩,r⟩
 | own y=>obtain ⟨ob,e⟩:=x;exact ⟨ob,k _ _ (.inl rfl) e⟩
 | xd fs=>obtain ⟨mA,⟨od,es,ep,e,c⟩,r⟩:=x;exact ⟨mA,⟨od,es,ep,k _ _ (.inl rfl) e,c⟩,r⟩
 | rng lo hi=>obtain ⟨t,u,v,e⟩:=x;exact ⟨t,u,v,k _ _ (.inl rfl) e⟩
 | frz ob u ih=>obtain ⟨e,q⟩:=x;exact ⟨k _ _ (.inl rfl) e,ih q⟩
 | tbl ps =>
   have e:h.get? a=some { cls:=.none,data:=.fields ps }:=x;show h'.get? a=some { cls:=.none,data:=.fields ps };exact k a _ (.inl rfl) e
 | met f y =>
   have e:h.get? a=some (PySem.W.methodObj (.ref f) (.ref y)):=x;show h'.get? a=some (PySem.W.methodObj (.ref f) (.ref y));exact k a _ (.inl rfl) e
 | ext φ=>obtain ⟨p,⟨o,e⟩,st⟩:=x;exact ⟨st _ _ p fun o q=>k _ _ (.inl rfl) q,⟨o,k _ _ (.inl rfl) e⟩,st⟩
theorem HOk.lt (x:HOk P w H h) (e:H a=some o):a<h.objs.size:=(x a o e).lt
theorem HOk.fresh (x:HOk P w H h) (e:h.objs.size<=a):H a=none:=by
 cases q:H a with
 | none=>rfl
 | some u=>exact absurd (Nat.lt_of_lt_of_le (x.lt q) e) (Nat.lt_irrefl _)
theorem HOk.kept (x:HOk P w H h) (k:∀ b u,h.get? b=some u->h'.get? b=some u):HOk P w H h':=fun a o e =>
 (x a o e).stay (fun b u _ q=>k b u q) (fun _ q=>q) fun _ _ q=>q
theorem HOk.laid (x:HOk P w H h) (k:∀ b u,h.get? b=some u->h'.get? b=some u) (hp:h.objs.size<=a) (new:ObjOk P w (upd H a o) h' a o):HOk P w (upd H a o) h':=fun b u e=>by
 have hn:=x.fresh hp;by_cases hb:b=a
 . subst hb;rw [ah] at e;cases e;exact new
 . rw [ar hb] at e;exact (x b u e).stay (fun c v _ q=>k c v q) (fun c q=>by rw [ar (bh q hn)];exact q) fun c xs q=>by rw [ar (bh q hn)];exact q
end
def Rd (H:Hp) (a:Addr) (u:HO):Prop:=H a=some u\/∃ o,H a=some (.frz o u)
theorem Rd.ok {P:Program} {w:World} {H:Hp} {h:Heap} {a:Addr} {u:HO} (r:Rd H a u) (x:HOk P w H h):ObjOk P w H h a u:=by
 rcases r with r|⟨o,r⟩
 . exact x a u r
 . obtain ⟨_,q⟩:=x a _ r;exact q
def Mut:Option HO->Prop
 | some (.lst _)=>True
 | some (.dK _)=>True
 | some (.dT _)=>True
 | some (.set _ _)=>True
 | some (.ins _ _ _)=>True
 | some (.ext _)=>True
 | _=>False
section
variable {P:Program} {w:World} {H:Hp} {h h':Heap} {x e:Addr} {o':HO}
theorem HOk.write (ok:HOk P w H h) (mu:Mut (H x)) (he:e=x\/H e=some (.own x)) (k:∀ b u,b≠e->h.get? b=some u->h'.get? b=some u) (heo:∃ u,h'.get? e=some u)
   (new:ObjOk P w (upd H x o') h' x o'):HOk P w (upd H x o') h':=fun b u q=>by
 have nown:∀ c y,H c=some (.own y)->c≠x:=fun c y r z=>by subst z;rw [r] at mu;exact mu
 have ntup:∀ c xs,H c=some (.tup xs)->c≠x:=fun c xs r z=>by subst z;rw [r] at mu;exact mu
 by_cases hb:b=x
 . subst hb;rw [ah] at q;cases q;exact new
 . rw [ar hb] at q;by_cases hbe:b=e
   . have q':H b=some (.own x):=by
       rcases he with z|z
       . exact absurd (hbe.trans z) hb
       . rw [hbe];exact z
     rw [q] at q';cases q';obtain ⟨v,hv⟩:=heo;exact ⟨v,by rw [hbe];exact hv⟩
   . refine (ok b u q).stay (fun c v hc r=>k c v ?_ r) (fun c r=>by rw [ar (nown c b r)];exact r) fun c xs r=>by rw [ar (ntup c xs r)];exact r
     rcases hc with rfl|hc
     . exact hbe
     . rintro rfl;rcases he with z|z
       . exact nown c b hc z
       . rw [hc] at z;cases z;exact hb rfl
end
structure Un (fs ex:List Addr) (H H':Hp) (h h':Heap):Prop where
 keep:∀ b o,h.get? b=some o->H b=none->b ∉ fs->b ∉ ex->h'.get? b=some o
 slot:∀ b o,h.get? b=some o->H b=none->b∈fs->b ∉ ex->∃ sl,h'.get? b=some { o with slots:=sl }
 free:∀ b o,h.get? b=some o->H b=none->b ∉ ex->H' b=none
 there:∀ b o,h.get? b=some o->b ∉ ex->∃ o',h'.get? b=some o'
 tups:∀ b xs,H b=some (.tup xs)->H' b=some (.tup xs)
 frzs:∀ b o u,H b=some (.frz o u)->H' b=some (.frz o u)
 tbls:∀ b ps,H b=some (.tbl ps)->∃ more,H' b=some (.tbl (ps++more))
section
variable {fs fs' ex ex':List Addr} {H H1 H2:Hp} {h h1 h2 h':Heap} {a x e:Addr} {o:HO}
theorem Un.any (u:Un fs ex H H1 h h1) {b:Addr} {ob:Obj} (q:h.get? b=some ob) (n:H b=none) (hx:b ∉ ex):∃ sl,h1.get? b=some { ob with slots:=sl }:=by
 by_cases hb:b∈fs
 . exact u.slot b ob q n hb hx
 . exact ⟨ob.slots,u.keep b ob q n hb hx⟩
theorem Un.kept (k:∀ b u,h.get? b=some u->h'.get? b=some u):Un fs ex H H h h' :=
 ⟨fun b ob q _ _ _=>k b ob q,fun b ob q _ _ _=>⟨ob.slots,k b ob q⟩,fun _ _ _ n _=>n,fun b ob q _=>⟨ob,k b ob q⟩,fun _ _ q=>q,fun _ _ _ q=>q,fun _ ps q=>⟨#[],by rw [q];simp⟩⟩
theorem Un.refl:Un fs ex H H h h:=Un.kept fun _ _ q=>q
theorem Un.laid (k:∀ b u,h.get? b=some u->h'.get? b=some u) (hp:h.objs.size<=a) (hn:H a=none):Un fs ex H (upd H a o) h h' where
 keep:=fun b u q _ _ _=>k b u q
 slot:=fun b u q _ _ _=>⟨u.slots,k b u q⟩
 free:=fun b u q n _=>by rw [ar (Nat.ne_of_lt (Nat.lt_of_lt_of_le (Heap.lt_size q) hp))];exact n
 there:=fun b u q _=>⟨u,k b u q⟩
 tups:=fun b xs q=>by rw [ar (bh q hn)];exact q
 frzs:=fun b u xs q=>by rw [ar (bh q hn)];exact q
 tbls:=fun b ps q=>⟨#[],by rw [ar (bh q hn),q];simp⟩
theorem Un.write (mu:Mut (H x)) (he:e=x\/H e=some (.own x)) (k:∀ b u,b≠e->h.get? b=some u->h'.get? b=some u) (heo:∃ u,h'.get? e=some u):Un fs ex H (upd H x o) h h':=by
 have hx:∀ b,H b=none->b≠x:=fun b n z=>by subst z;rw [n] at mu;exact mu
 have hb:∀ b,H b=none->b≠e:=fun b n z=>by
   subst z;rcases he with r|r
   . exact hx b n r
   . rw [n] at r;cases r
 have hm:∀ b u,H b=some u->¬ Mut (some u)->b≠x:=fun b u q nm z=>by subst z;rw [q] at mu;exact nm mu
 refine ⟨fun b u q n _ _=>k b u (hb b n) q,fun b u q n _ _=>⟨u.slots,k b u (hb b n) q⟩,fun b u q n _=>by rw [ar (hx b n)];exact n,fun b u q _=>?_,
   fun b xs q=>by rw [ar (hm b _ q fun z=>z)];exact q,fun b u xs q=>by rw [ar (hm b _ q fun z=>z)];exact q,fun b ps q=>⟨#[],by rw [ar (hm b _ q fun z=>z),q];simp⟩⟩
 by_cases hbe:b=e
 . subst hbe;exact heo
 . exact ⟨u,k b u hbe q⟩
end
def trk (h:Heap) (H:Hp):List Addr:=(List.range h.objs.size).filter fun a=>(H a).isSome
def rC (h:Heap) (H:Hp):Heap:=PySem.W.hideAll h (trk h H)
theorem HF (h:Heap) (H:Hp):(rC h H).objs.size=h.objs.size:=PySem.W.hideAll_size _ _
theorem JF {h:Heap} {H:Hp} {b:Addr} {o:Obj} (e:h.get? b=some o) (n:H b=none):(rC h H).get? b=some o :=
 PySem.W.hideAll_get _ e fun hm=>by
   have q:(H b).isSome=true:=(List.mem_filter.mp hm).2;rw [n] at q;simp at q
theorem MO {h:Heap} {H:Hp} {b:Addr} {o:Obj} (e:(rC h H).get? b=some o):h.get? b=some o/\H b=none:=by
 have e':h.get? b=some o:=PySem.W.of_hideAll (trk h H) e;refine ⟨e',?_⟩;cases q:H b with
 | none=>rfl
 | some x =>
   have hm:b∈trk h H:=List.mem_filter.mpr ⟨List.mem_range.mpr (Heap.lt_size e'),by simp [q]⟩;have z:(rC h H).get? b=none:=PySem.W.hideAll_none (trk h H) hm;rw [z] at e;cases e
def LX (g h:Heap) (L:Addr):List (Addr × Obj):=(List.range h.objs.size).filterMap fun a=>if a=L\/(g.get? a).isSome=true then none else (h.get? a).map fun o=>(a,o)
def jG (g h:Heap) (L d:Addr):List (Addr × Obj):=(LX g h L).filter fun p=>decide (p.1≠d)
end L2
namespace L2
open PySem PySem.Spec PyProof.Rows
structure Mod (K:PySem.W.Frag) (mg:Str->Option Value) (base:Heap):Prop where
 kin:K.In base
 glob:base.Ns mainGlobals mg
 blt:∃ mb,base.Ns builtinsNs mb/\∀ x:Str,x≠"__name__"->mb x=bootBuiltins x
 nolimit:base.NoLimit
structure Cx where
 prog:Program
 w:World
 K:PySem.W.Frag
 mg:Str->Option Value
 base:Heap
 A:Around
 N:List Str
 s₀:Shared
 H₀:Hp
 env:Env
 outer:List Env
 stack:List Env
 ex:List Addr
 fn:Str->Bool
 calm:Bool
 pn:List (Addr × Obj)
 xe:Value->Shared->Prop
def frs (l:List Env):List Addr:=l.filterMap (·.frame)
abbrev Cx.fs (X:Cx):List Addr:=frs X.outer
def Vis (sc:Scope) (x:Str):Prop:=sc.names.lookup x=some .local\/sc.names.lookup x=some .cell\/sc.names.lookup x=some .free
def Loc (sc:Scope) (x:Str):Prop:=sc.names.lookup x=some .local\/sc.names.lookup x=some .cell
def OP (env:Env) (h:Heap) (m:Str->Option Value) (x:Str) (u:Value):Prop :=
 (env.kindOf x=some .local/\m x=some u)\/((env.kindOf x=some .cell\/env.kindOf x=some .free)/\∃ c,env.cells.lookup x=some c/\h.IsCell c (some u))
structure Cx.Ok (X:Cx):Prop where
 mod:Mod X.K X.mg X.base
 kind:X.env.scope.kind=.function
 glob:X.env.globals=mainGlobals
 blt:X.env.builtins=builtinsNs
 above:X.s₀.heap.objs.size<=X.env.locals
 inj:∀ x y c,X.env.cells.lookup x=some c->X.env.cells.lookup y=some c->x=y
 has:∀ x,(X.env.kindOf x=some .cell\/X.env.kindOf x=some .free)->∃ c,X.env.cells.lookup x=some c
 cab:∀ x c,X.fn x=true->X.env.cells.lookup x=some c->X.s₀.heap.objs.size<=c
 hd:X.calm=true->X.A.handled=none
 frames:X.A.frames=some X.stack
 stk:X.stack=X.outer\/(X.stack=X.env::X.outer/\X.env.frame=some X.env.locals)
 exf:∀ b∈X.ex,b≠X.env.locals/\∀ x c,X.env.cells.lookup x=some c->c≠b
 bs:∀ b o,X.base.get? b=some o->X.s₀.heap.get? b=some o/\X.H₀ b=none
 bsz:X.base.objs.size<=X.s₀.heap.objs.size
 noex:∀ b o,X.base.get? b=some o->b ∉ X.ex
 exfs:∀ b∈X.ex,b ∉ X.fs
 funs:X.s₀.heap.FunFrames X.base X.outer
 frf:∀ b∈X.fs,X.H₀ b=none
structure Inv (X:Cx) (pins:List (Addr × Obj)) (σ:List (Option V)) (H:Hp) (s:Shared):Prop where
 ok:X.Ok
 os:s.os=X.s₀.os
 bare:AllBare s.gens
 base:Un X.fs X.ex X.H₀ H X.s₀.heap s.heap
 loc:∃ m,s.heap.Ns X.env.locals m/\∀ (i:Nat) (x:Str) (v:V),X.N[i]?=some x->σ[i]?=some (some v)->Vis X.env.scope x->∃ u,RelV v u/\OP X.env s.heap m x u
 cell:∀ x c,X.env.cells.lookup x=some c->∃ v,s.heap.IsCell c v
 free:H X.env.locals=none
 freeC:∀ x c,X.env.cells.lookup x=some c->H c=none
 pin:∀ p∈X.pn++pins,s.heap.get? p.1=some p.2/\H p.1=none/\p.1≠X.env.locals/\p.1 ∉ X.fs/\∀ v,p.2.data≠.cell v
 hok:HOk X.prog X.w H s.heap
 len:σ.length=X.N.length
section
variable {X:Cx} {pins:List (Addr × Obj)} {σ:List (Option V)} {H H':Hp} {s:Shared} {h':Heap}
theorem Cx.Ok.nofr (ok:X.Ok) {b:Addr} {o:Obj} (e:X.base.get? b=some o):b ∉ X.fs:=fun hb=>by
 have:=(ok.funs.mem hb).1;rw [e] at this;cases this
theorem Inv.bs (I:Inv X pins σ H s):∀ b o,X.base.get? b=some o->s.heap.get? b=some o/\H b=none:=fun b o e =>
 ⟨I.base.keep b o (I.ok.bs b o e).1 (I.ok.bs b o e).2 (I.ok.nofr e) (I.ok.noex b o e),I.base.free b o (I.ok.bs b o e).1 (I.ok.bs b o e).2 (I.ok.noex b o e)⟩
theorem Inv.bk (I:Inv X pins σ H s):∀ b o,X.base.get? b=some o->s.heap.get? b=some o:=fun b o e=>(I.bs b o e).1
theorem Inv.mod (I:Inv X pins σ H s):Mod X.K X.mg X.base:=I.ok.mod
theorem Inv.kIn (I:Inv X pins σ H s):X.K.In s.heap:=I.ok.mod.kin.keeps I.bk
theorem Inv.lt (I:Inv X pins σ H s):X.env.locals<s.heap.objs.size:=let ⟨_,hn,_⟩:=I.loc;hn.lt
theorem Inv.sz (I:Inv X pins σ H s):X.s₀.heap.objs.size<=s.heap.objs.size:=Nat.le_trans I.ok.above (Nat.le_of_lt I.lt)
theorem Inv.nofs (I:Inv X pins σ H s) {a:Addr} (h:s.heap.objs.size<=a):a ∉ X.fs:=fun hb=>by
 obtain ⟨_,o,ho,_⟩:=I.ok.funs.mem hb;exact absurd (Nat.lt_of_lt_of_le (Heap.lt_size ho) (Nat.le_trans I.sz h)) (Nat.lt_irrefl _)
theorem Inv.cne (I:Inv X pins σ H s):∀ x c,X.env.cells.lookup x=some c->c≠X.env.locals:=fun x c e z=>by
 obtain ⟨v,o,ho,hd⟩:=I.cell x c e;obtain ⟨m,⟨o',es,ep,ho',hd',_⟩,_⟩:=I.loc;rw [z,ho'] at ho;cases ho;rw [hd'] at hd;cases hd
theorem Inv.funs (I:Inv X pins σ H s):s.heap.FunFrames X.base X.outer:=by
 have all:∀ (l:List Env),(∀ b∈frs l,b∈X.fs)->X.s₀.heap.FunFrames X.base l->s.heap.FunFrames X.base l:=by
   intro l
   induction l with
   | nil=>intro _ _;trivial
   | cons env r ih =>
     intro hs hl;obtain ⟨hk,⟨L,o,hf,hn,ho,hd⟩,hr⟩:=hl;have hL:L∈X.fs:=hs L (by unfold frs;rw [List.filterMap_cons,hf];exact List.mem_cons_self);obtain ⟨sl,e⟩:=I.base.slot L o ho (I.ok.frf L hL) hL fun z=>I.ok.exfs L z hL;exact ⟨hk,⟨L,_,hf,hn,e,hd⟩,ih (fun b hb=>hs b (by unfold frs;rw [List.filterMap_cons,hf];exact List.mem_cons_of_mem _ hb)) hr⟩
 exact all X.outer (fun _ hb=>hb) I.ok.funs
theorem Inv.stack (I:Inv X pins σ H s):s.heap.FunFrames X.base X.stack:=by
 rcases I.ok.stk with e|⟨e,hf⟩
 . rw [e];exact I.funs
 . rw [e];obtain ⟨m,hn,_⟩:=I.loc;refine .cons (by rw [I.ok.kind];decide) hf hn ?_ I.funs;exact Heap.get?_none_of_le (Nat.le_trans I.ok.bsz I.ok.above)
theorem Inv.stkSub (I:Inv X pins σ H s):∀ b∈frs X.stack,b∈X.env.locals::X.fs:=fun b hb=>by
 rcases I.ok.stk with e|⟨e,hf⟩
 . rw [e] at hb;exact List.mem_cons_of_mem _ hb
 . rw [e] at hb;unfold frs at hb;rw [List.filterMap_cons,hf] at hb;exact hb
theorem Inv.stkFree (I:Inv X pins σ H s):∀ b∈frs X.stack,H b=none:=fun b hb=>by
 rcases List.mem_cons.mp (I.stkSub b hb) with e|hb
 . rw [e];exact I.free
 . obtain ⟨_,o,ho,_⟩:=I.ok.funs.mem hb;exact I.base.free b o ho (I.ok.frf b hb) fun z=>I.ok.exfs b z hb
theorem Inv.step {g':Array GenState} {t':Nat} {d':Drawn} {ch:List Addr} (I:Inv X pins σ H s)
   (hch:∀ b∈ch,(b∈X.ex\/X.s₀.heap.objs.size<=b)/\b≠X.env.locals/\(∀ x c,X.env.cells.lookup x=some c->c≠b)/\∀ p∈X.pn++pins,p.1≠b)
   (keep:∀ b o,b≠X.env.locals->b ∉ X.fs->b ∉ ch->s.heap.get? b=some o->H b=none->h'.get? b=some o)
   (slot:∀ b o,b≠X.env.locals->b∈X.fs->b ∉ ch->s.heap.get? b=some o->H b=none->∃ sl,h'.get? b=some { o with slots:=sl }) (free:∀ b o,b ∉ ch->s.heap.get? b=some o->H b=none->H' b=none)
   (there:∀ b o,b ∉ ch->s.heap.get? b=some o->∃ o',h'.get? b=some o')
   (tups:∀ b xs,H b=some (.tup xs)->H' b=some (.tup xs)) (frzs:∀ b o u,H b=some (.frz o u)->H' b=some (.frz o u)) (tbls:∀ b ps,H b=some (.tbl ps)->∃ more,H' b=some (.tbl (ps++more)))
   (ns:∀ m,s.heap.Ns X.env.locals m->h'.Ns X.env.locals m) (hok:HOk X.prog X.w H' h') (hg:AllBare g') :
   Inv X pins σ H' { s with heap:=h',gens:=g',drawn:=d',toks:=t' }:=by
 have neL:∀ b o,X.s₀.heap.get? b=some o->b≠X.env.locals:=fun b o e=>Nat.ne_of_lt (Nat.lt_of_lt_of_le (Heap.lt_size e) I.ok.above);have neC:∀ b o,X.s₀.heap.get? b=some o->b ∉ X.ex->b ∉ ch:=fun b o e hx hb=>by
   rcases (hch b hb).1 with z|z
   . exact hx z
   . exact absurd (Nat.lt_of_lt_of_le (Heap.lt_size e) z) (Nat.lt_irrefl _)
 have cellK:∀ x c,X.env.cells.lookup x=some c->∀ v,s.heap.IsCell c v->h'.IsCell c v:=fun x c e v ⟨o,ho,hd⟩=>by
   have nch:c ∉ ch:=fun z=>(hch c z).2.2.1 x c e rfl;by_cases hc:c∈X.fs
   . obtain ⟨sl,q⟩:=slot c o (I.cne x c e) hc nch ho (I.freeC x c e);exact ⟨_,q,hd⟩
   . exact ⟨o,keep c o (I.cne x c e) hc nch ho (I.freeC x c e),hd⟩
 refine ⟨I.ok,I.os,hg,⟨fun b o e n hb hx=>?_,fun b o e n hb hx=>?_,fun b o e n hx=>?_,fun b o e hx=>?_,fun b xs e=>tups b xs (I.base.tups b xs e),fun b o xs e=>frzs b o xs (I.base.frzs b o xs e),fun b ps e=>?_⟩,?_,fun x c e=>?_,?_,fun x c e=>?_,fun p hp=>?_,hok,I.len⟩
 . exact keep b o (neL b o e) hb (neC b o e hx) (I.base.keep b o e n hb hx) (I.base.free b o e n hx)
 . obtain ⟨sl,e1⟩:=I.base.slot b o e n hb hx;obtain ⟨sl',e2⟩:=slot b _ (neL b o e) hb (neC b o e hx) e1 (I.base.free b o e n hx);exact ⟨sl',e2⟩
 . obtain ⟨o',e1⟩:=I.base.there b o e hx;exact free b o' (neC b o e hx) e1 (I.base.free b o e n hx)
 . obtain ⟨o',e1⟩:=I.base.there b o e hx;exact there b o' (neC b o e hx) e1
 . obtain ⟨m1,e1⟩:=I.base.tbls b ps e;obtain ⟨m2,e2⟩:=tbls b _ e1;exact ⟨m1++m2,by rw [e2,Array.append_assoc]⟩
 . obtain ⟨m,hn,hl⟩:=I.loc;refine ⟨m,ns m hn,fun i x v e1 e2 e3=>?_⟩;obtain ⟨u,r,l⟩:=hl i x v e1 e2 e3;refine ⟨u,r,?_⟩;rcases l with l|⟨k,c,e,z⟩
   . exact .inl l
   . exact .inr ⟨k,c,e,cellK x c e _ z⟩
 . obtain ⟨v,z⟩:=I.cell x c e;exact ⟨v,cellK x c e v z⟩
 . obtain ⟨m,⟨o,_,_,ho,_⟩,_⟩:=I.loc;exact free _ o (fun z=>(hch _ z).2.1 rfl) ho I.free
 . obtain ⟨v,o,ho,hd⟩:=I.cell x c e;exact free c o (fun z=>(hch c z).2.2.1 x c e rfl) ho (I.freeC x c e)
 . obtain ⟨e,n,ne,nf,d⟩:=I.pin p hp;have nch:p.1 ∉ ch:=fun z=>(hch p.1 z).2.2.2 p hp rfl;exact ⟨keep p.1 p.2 ne nf nch e n,free p.1 p.2 nch e n,ne,nf,d⟩
theorem Inv.un {t':Nat} (I:Inv X pins σ H s) (u:Un X.fs [] H H' s.heap h') (hok:HOk X.prog X.w H' h'):Inv X pins σ H' { s with heap:=h',toks:=t' }:=by
 obtain ⟨m,⟨o,es,ep,ho,r⟩,_⟩:=id I.loc;obtain ⟨sl,hL⟩:=u.any ho I.free (by simp);exact I.step (g':=s.gens) (d':=s.drawn) (ch:=[]) (fun _ z=>nomatch z) (fun b o _ hb _ e n=>u.keep b o e n hb (by simp)) (fun b o _ hb _ e n=>u.slot b o e n hb (by simp)) (fun b o _ e n=>u.free b o e n (by simp)) (fun b o _ e=>u.there b o e (by simp)) u.tups u.frzs u.tbls (fun m' hm=>by
   obtain ⟨o',es',ep',ho',r'⟩:=hm;rw [ho] at ho';cases ho';exact ⟨_,es',ep',hL,r'⟩) hok I.bare
theorem Inv.call {g':Array GenState} {t':Nat} {d':Drawn} {ch:List Addr} (I:Inv X pins σ H s) (u:Un (frs X.stack) ch H H' s.heap h') (hok:HOk X.prog X.w H' h') (hg:AllBare g')
   (hch:∀ b∈ch,(b∈X.ex\/X.s₀.heap.objs.size<=b)/\b≠X.env.locals/\(∀ x c,X.env.cells.lookup x=some c->c≠b)/\∀ p∈X.pn++pins,p.1≠b) :
   Inv X pins σ H' { s with heap:=h',gens:=g',drawn:=d',toks:=t' }:=by
 obtain ⟨m,⟨o,es,ep,ho,r⟩,_⟩:=id I.loc;obtain ⟨sl,hL⟩:=u.any ho I.free fun z=>(hch _ z).2.1 rfl;exact I.step (ch:=ch) hch (fun b o hL hb hc e n=>u.keep b o e n (fun z=>(List.mem_cons.mp (I.stkSub b z)).elim hL hb) hc) (fun b o _ _ hc e n=>u.any e n hc) (fun b o hc e n=>u.free b o e n hc) (fun b o hc e=>u.there b o e hc) u.tups u.frzs u.tbls (fun m' hm=>by
   obtain ⟨o',es',ep',ho',r'⟩:=hm;rw [ho] at ho';cases ho';exact ⟨_,es',ep',hL,r'⟩) hok hg
theorem Inv.turned {t':Nat} {it:Addr} (I:Inv X pins σ H s) (k:∀ b o,b≠it->s.heap.get? b=some o->h'.get? b=some o) (hn:H it=none) (hL:it≠X.env.locals)
   (h1:it∈X.ex\/X.s₀.heap.objs.size<=it) (h2:∀ x c,X.env.cells.lookup x=some c->c≠it) (h3:∀ p∈X.pn++pins,p.1≠it):Inv X pins σ H { s with heap:=h',toks:=t' }:=by
 have nit:∀ b u,H b=some u->b≠it:=fun b u e z=>by rw [z,hn] at e;cases e
 refine I.step (g':=s.gens) (d':=s.drawn) (ch:=[it]) (fun b hb=>?_) (fun b o _ _ hc e _=>k b o (fun z=>hc (by simp [z])) e) (fun b o _ _ hc e _=>⟨o.slots,k b o (fun z=>hc (by simp [z])) e⟩) (fun _ _ _ _ n=>n)
   (fun b o hc e=>⟨o,k b o (fun z=>hc (by simp [z])) e⟩) (fun _ _ e=>e) (fun _ _ _ e=>e) (fun b ps e=>⟨#[],by rw [e];simp⟩) (fun m hm=>?_) (fun b u e=>?_) I.bare
 . have e:b=it:=by simpa using hb
   subst e;exact ⟨h1,hL,h2,h3⟩
 . obtain ⟨o,es,ep,ho,r⟩:=hm;exact ⟨o,es,ep,k _ o (Ne.symm hL) ho,r⟩
 . refine (I.hok b u e).stay (fun c v hc q=>k c v ?_ q) (fun _ q=>q) fun _ _ q=>q;rcases hc with z|z
   . rw [z];exact nit b u e
   . exact nit c _ z
theorem Inv.tok (I:Inv X pins σ H s) (t:Nat):Inv X pins σ H { s with toks:=t }:=I.un (h':=s.heap) (t':=t) Un.refl I.hok
theorem Inv.kept {t':Nat} (I:Inv X pins σ H s) (k:∀ b u,s.heap.get? b=some u->h'.get? b=some u):Inv X pins σ H { s with heap:=h',toks:=t' }:=I.un (Un.kept k) (I.hok.kept k)
theorem Inv.laid {a:Addr} {o:HO} {t':Nat} (I:Inv X pins σ H s) (k:∀ b u,s.heap.get? b=some u->h'.get? b=some u) (hp:s.heap.objs.size<=a) (new:ObjOk X.prog X.w (upd H a o) h' a o) :
   Inv X pins σ (upd H a o) { s with heap:=h',toks:=t' }:=I.un (Un.laid k hp (I.hok.fresh hp)) (I.hok.laid k hp new)
theorem Inv.write {x e:Addr} {o:HO} {t':Nat} (I:Inv X pins σ H s) (mu:Mut (H x)) (he:e=x\/H e=some (.own x)) (k:∀ b u,b≠e->s.heap.get? b=some u->h'.get? b=some u) (heo:∃ u,h'.get? e=some u)
   (new:ObjOk X.prog X.w (upd H x o) h' x o):Inv X pins σ (upd H x o) { s with heap:=h',toks:=t' }:=I.un (Un.write mu he k heo) (I.hok.write mu he k heo new)
theorem Inv.pins_of {pins':List (Addr × Obj)} (I:Inv X pins σ H s) (h:∀ p∈pins',s.heap.get? p.1=some p.2/\H p.1=none/\p.1≠X.env.locals/\p.1 ∉ X.fs/\∀ v,p.2.data≠.cell v):Inv X pins' σ H s :=
 ⟨I.ok,I.os,I.bare,I.base,I.loc,I.cell,I.free,I.freeC,fun p hp=>(List.mem_append.mp hp).elim (fun z=>I.pin p (List.mem_append_left _ z)) (h p),I.hok,I.len⟩
theorem xp {N:List Str} (hN:N.Nodup) {i j:Nat} {x:Str} (a:N[i]?=some x) (b:N[j]?=some x):i=j:=by
 obtain ⟨h1,e1⟩:=List.getElem?_eq_some_iff.mp a;obtain ⟨h2,e2⟩:=List.getElem?_eq_some_iff.mp b;exact (List.getElem_inj hN).mp (e1.trans e2.symm)
theorem AL {M:Model} {A:Around} {E:Value->Shared->Prop} {i:Nat} {x:Str} {v:V} {u:Value} {Q:Unit->Shared->Prop} (I:Inv X pins σ H s) (hN:X.N.Nodup) (hi:X.N[i]?=some x) (hx:Loc X.env.scope x) (r:RelV v u)
   (h:∀ s',Inv X pins (σ.set i (some v)) H s'->(∃ a,Heap.SameBut a s.heap s'.heap/\(a=X.env.locals\/X.env.cells.lookup x=some a))->Q () s') (hf:X.fn x=true\/X.env.scope.names.lookup x=some .local:=by first|exact .inl rfl|exact .inr rfl|assumption):wpAny M A (storeName X.env x u) Q E s:=by
 obtain ⟨m,hn,hl⟩:=id I.loc;have hcls:(X.env.scope.kind == .class || (X.env.scope.kind == .module && X.env.locals != X.env.globals))=false:=by rw [I.ok.kind];rfl
 have hiσ:i<σ.length:=by rw [I.len];exact (List.getElem?_eq_some_iff.mp hi).1
 have cne:=I.cne;have tracked:∀ {a:Addr} {h':Heap},(∃ o,s.heap.get? a=some o/\H a=none)->Heap.SameBut a s.heap h'->HOk X.prog X.w H h':=fun {a h'} ha hs b ob e=>by
   obtain ⟨_,_,hfree⟩:=ha;refine (I.hok b ob e).stay (fun c w' hc q=>(hs.2 c ?_).trans q) (fun _ q=>q) fun _ _ q=>q;rintro rfl;rcases hc with rfl|hc
   . rw [hfree] at e;cases e
   . rw [hfree] at hc;cases hc
 rcases hx with hk|hk
 . refine wpAny_storeName_local hk hn (fun h' hn' hs=>?_) hcls;obtain ⟨oL,_,_,hoL,_⟩:=id hn;refine h _ ⟨I.ok,I.os,I.bare,⟨fun b o e n hb hx=>?_,fun b o e n hb hx=>?_,I.base.free,fun b o e hx=>?_,I.base.tups,I.base.frzs,I.base.tbls⟩,⟨_,hn',fun j y v' e1 e2 e3=>?_⟩,fun y c e=>?_,I.free,I.freeC,fun p hp=>?_,tracked ⟨oL,hoL,I.free⟩ hs,by simpa using I.len⟩ ⟨_,hs,.inl rfl⟩
   . exact (hs.2 b (Nat.ne_of_lt (Nat.lt_of_lt_of_le (Heap.lt_size e) I.ok.above))).trans (I.base.keep b o e n hb hx)
   . obtain ⟨sl,e1⟩:=I.base.slot b o e n hb hx;exact ⟨sl,(hs.2 b (Nat.ne_of_lt (Nat.lt_of_lt_of_le (Heap.lt_size e) I.ok.above))).trans e1⟩
   . obtain ⟨o',e1⟩:=I.base.there b o e hx;exact ⟨o',(hs.2 b (Nat.ne_of_lt (Nat.lt_of_lt_of_le (Heap.lt_size e) I.ok.above))).trans e1⟩
   . by_cases hj:j=i
     . subst hj;rw [hi] at e1;cases e1;rw [List.getElem?_set_self hiσ] at e2;cases e2;exact ⟨u,r,.inl ⟨hk,by simp⟩⟩
     . rw [List.getElem?_set_ne (Ne.symm hj)] at e2;obtain ⟨u',r',q⟩:=hl j y v' e1 e2 e3;refine ⟨u',r',?_⟩;rcases q with ⟨k,e⟩|⟨k,c,e,z⟩
       . refine .inl ⟨k,?_⟩;have:y≠x:=fun e=>hj (xp hN e1 (e ▸ hi));simp [this,e]
       . exact .inr ⟨k,c,e,z.sameBut hs (cne y c e)⟩
   . obtain ⟨w',z⟩:=I.cell y c e;exact ⟨w',z.sameBut hs (cne y c e)⟩
   . obtain ⟨e,n,ne,nf,d⟩:=I.pin p hp;exact ⟨(hs.2 p.1 ne).trans e,n,ne,nf,d⟩
 . have hfn:X.fn x=true:=by
     rcases hf with z|z
     . exact z
     . rw [z] at hk;cases hk
   obtain ⟨c,hc⟩:=I.ok.has x (.inl hk);obtain ⟨w',z⟩:=I.cell x c hc;refine wpAny_storeName_cell I.ok.kind hk hc z (fun h' hc' hs=>?_);obtain ⟨oc,hoc,hocd⟩:=id z;refine h { s with heap:=h' } ⟨I.ok,I.os,I.bare,⟨fun b o e n hb hx=>?_,fun b o e n hb hx=>?_,I.base.free,fun b o e hx=>?_,I.base.tups,I.base.frzs,I.base.tbls⟩,⟨m,hn.sameBut hs (Ne.symm (cne x c hc)),fun j y v' e1 e2 e3=>?_⟩,fun y c' e=>?_,I.free,I.freeC,fun p hp=>?_,tracked ⟨oc,hoc,I.freeC x c hc⟩ hs,by simpa using I.len⟩ ⟨c,hs,.inr hc⟩
   . exact (hs.2 b (Nat.ne_of_lt (Nat.lt_of_lt_of_le (Heap.lt_size e) (I.ok.cab x c hfn hc)))).trans (I.base.keep b o e n hb hx)
   . obtain ⟨sl,e1⟩:=I.base.slot b o e n hb hx;exact ⟨sl,(hs.2 b (Nat.ne_of_lt (Nat.lt_of_lt_of_le (Heap.lt_size e) (I.ok.cab x c hfn hc)))).trans e1⟩
   . obtain ⟨o',e1⟩:=I.base.there b o e hx;exact ⟨o',(hs.2 b (Nat.ne_of_lt (Nat.lt_of_lt_of_le (Heap.lt_size e) (I.ok.cab x c hfn hc)))).trans e1⟩
   . by_cases hj:j=i
     . subst hj;rw [hi] at e1;cases e1;rw [List.getElem?_set_self hiσ] at e2;cases e2;exact ⟨u,r,.inr ⟨.inl hk,c,hc,hc'⟩⟩
     . rw [List.getElem?_set_ne (Ne.symm hj)] at e2;obtain ⟨u',r',q⟩:=hl j y v' e1 e2 e3;refine ⟨u',r',?_⟩;rcases q with q|⟨k,c',e,z'⟩
       . exact .inl q
       . refine .inr ⟨k,c',e,z'.sameBut hs ?_⟩;rintro rfl;exact hj (xp hN e1 (I.ok.inj _ _ _ e hc ▸ hi))
   . by_cases hcc:c'=c
     . subst hcc;exact ⟨_,hc'⟩
     . obtain ⟨w2,z2⟩:=I.cell y c' e;exact ⟨w2,z2.sameBut hs hcc⟩
   . obtain ⟨e,n,ne,nf,d⟩:=I.pin p hp;refine ⟨(hs.2 p.1 ?_).trans e,n,ne,nf,d⟩;intro q;rw [q,hoc] at e;have q':oc=p.2:=Option.some.inj e;exact d w' (by rw [<- q'];exact hocd)
theorem rH {M:Model} {A:Around} {E:Value->Shared->Prop} {i:Nat} {x:Str} {v:V} {u:Value} {Q:Unit->Shared->Prop} (I:Inv X pins σ H s) (hN:X.N.Nodup) (hi:X.N[i]?=some x) (hx:Loc X.env.scope x) (r:RelV v u)
   (h:∀ s',Inv X pins (σ.set i (some v)) H s'->Q () s') (hf:X.fn x=true\/X.env.scope.names.lookup x=some .local:=by first|exact .inl rfl|exact .inr rfl|assumption):wpAny M A (storeName X.env x u) Q E s :=
 AL I hN hi hx r (fun s' I' _=>h s' I') hf
theorem Inv.call' {s':Shared} {ch:List Addr} (I:Inv X pins σ H s) (ho:s'.os=s.os) (u:Un (frs X.stack) ch H H' s.heap s'.heap) (hok:HOk X.prog X.w H' s'.heap) (hg:AllBare s'.gens)
   (hch:∀ b∈ch,(b∈X.ex\/X.s₀.heap.objs.size<=b)/\b≠X.env.locals/\(∀ x c,X.env.cells.lookup x=some c->c≠b)/\∀ p∈X.pn++pins,p.1≠b):Inv X pins σ H' s':=by
 obtain ⟨h',g',d',t',o'⟩:=s';have e:o'=s.os:=ho;subst e;exact I.call (g':=g') (t':=t') (d':=d') u hok hg hch
end
abbrev XK:=Value->Option Addr->Hp->Prop
abbrev St:=List (Option V)
abbrev VK:=V->Hp->Prop
abbrev TE:=St->Hp->VK->Prop
abbrev TT:=St->Hp->(Bool->Hp->Prop)->Prop
abbrev TA:=St->Hp->(List V->Hp->Prop)->Prop
structure Ends where
 nx:St->Hp->Prop
 rt:VK
 bk:St->Hp->Prop:=fun _ _=>False
 ct:St->Hp->Prop:=fun _ _=>False
abbrev TS:=Ends->St->Hp->Prop
def EP (X:Cx) (pins:List (Addr × Obj)) (σ:St) (Q:VK) (u:Value) (s':Shared):Prop:=∃ v H',Inv X pins σ H' s'/\RelV v u/\Q v H'
def TP (X:Cx) (pins:List (Addr × Obj)) (σ:St) (Q:Bool->Hp->Prop) (b:Bool) (s':Shared):Prop:=∃ H',Inv X pins σ H' s'/\Q b H'
def AP (X:Cx) (pins:List (Addr × Obj)) (σ:St) (Q:List V->Hp->Prop) (us:List Value) (s':Shared):Prop:=∃ vs H',Inv X pins σ H' s'/\Vals vs us/\Q vs H'
def SP (X:Cx) (pins:List (Addr × Obj)) (D:Ends) (f:Flow) (s':Shared):Prop :=
 match f with
 | .next=>∃ σ' H',Inv X pins σ' H' s'/\D.nx σ' H'
 | .brk=>∃ σ' H',Inv X pins σ' H' s'/\D.bk σ' H'
 | .cont=>∃ σ' H',Inv X pins σ' H' s'/\D.ct σ' H'
 | .ret u=>∃ v σ' H',Inv X pins σ' H' s'/\RelV v u/\D.rt v H'
def PE (X:Cx) (e:Expr) (t:TE):Prop :=
 ∀ (pins:List (Addr × Obj)) (s:Shared) (σ:St) (H:Hp) (Q:VK),Inv X pins σ H s->t σ H Q->wpAny (model X.prog X.w) X.A (eval e X.env) (EP X pins σ Q) X.xe s
def PT (X:Cx) (e:Expr) (t:TT):Prop :=
 ∀ (pins:List (Addr × Obj)) (s:Shared) (σ:St) (H:Hp) (Q:Bool->Hp->Prop),Inv X pins σ H s->t σ H Q->wpAny (model X.prog X.w) X.A (isTrue e X.env (eval e X.env)) (TP X pins σ Q) X.xe s
def PW (X:Cx) (e:Expr) (t:TT):Prop :=
 ∀ (whole:Sem Value) (pins:List (Addr × Obj)) (s:Shared) (σ:St) (H:Hp) (Q:Bool->Hp->Prop),Inv X pins σ H s->t σ H Q->wpAny (model X.prog X.w) X.A (isTrue e X.env whole) (TP X pins σ Q) X.xe s
theorem PW.pt {X:Cx} {e:Expr} {t:TT} (h:PW X e t):PT X e t:=h _
def PA (X:Cx) (es:List Expr) (t:TA):Prop :=
 ∀ (pos:Pos) (pins:List (Addr × Obj)) (s:Shared) (σ:St) (H:Hp) (Q:List V->Hp->Prop),Inv X pins σ H s->t σ H Q->wpAny (model X.prog X.w) X.A (spliced (backTo pos (starEach es X.env))) (AP X pins σ Q) X.xe s
def PS (X:Cx) (st:Stmt) (t:TS):Prop :=
 ∀ (pins:List (Addr × Obj)) (s:Shared) (σ:St) (H:Hp) (D:Ends),Inv X pins σ H s->t D σ H->wpAny (model X.prog X.w) X.A (exec st X.env) (SP X pins D) X.xe s
def PSs (X:Cx) (st:List Stmt) (t:TS):Prop :=
 ∀ (pins:List (Addr × Obj)) (s:Shared) (σ:St) (H:Hp) (D:Ends),Inv X pins σ H s->t D σ H->wpAny (model X.prog X.w) X.A (execs st X.env) (SP X pins D) X.xe s
theorem thn {α:Type} {t:Sem α} {Q Q':α->Shared->Prop} {M:Model} {A:Around} {E:Value->Shared->Prop} {s:Shared} (h:wpAny M A t Q E s) (hQ:∀ a s,Q a s->Q' a s):wpAny M A t Q' E s:=wpAny_mono h hQ fun _ _ x=>x
theorem bF {t:Sem Value} {X:Cx} {pins:List (Addr × Obj)} {σ:St} {Q:VK} {Q':Value->Shared->Prop} {M:Model} {A:Around} {E:Value->Shared->Prop} {s:Shared} (h:wpAny M A t (EP X pins σ Q) E s) (hQ:∀ u s v H,Inv X pins σ H s->RelV v u->Q v H->Q' u s):wpAny M A t Q' E s:=thn h fun u s ⟨v,H,I,r,q⟩=>hQ u s v H I r q
theorem o9 {t:Sem (List Value)} {X:Cx} {pins:List (Addr × Obj)} {σ:St} {Q:List V->Hp->Prop} {Q':List Value->Shared->Prop} {M:Model} {A:Around} {E:Value->Shared->Prop} {s:Shared} (h:wpAny M A t (AP X pins σ Q) E s) (hQ:∀ u s v H,Inv X pins σ H s->Vals v u->Q v H->Q' u s):wpAny M A t Q' E s:=thn h fun u s ⟨v,H,I,r,q⟩=>hQ u s v H I r q
theorem zC {t:Sem Bool} {X:Cx} {pins:List (Addr × Obj)} {σ:St} {Q:Bool->Hp->Prop} {Q':Bool->Shared->Prop} {M:Model} {A:Around} {E:Value->Shared->Prop} {s:Shared} (h:wpAny M A t (TP X pins σ Q) E s) (hQ:∀ u s H,Inv X pins σ H s->Q u H->Q' u s):wpAny M A t Q' E s:=thn h fun u s ⟨H,I,q⟩=>hQ u s H I q
end L2
namespace L2
open PySem PySem.Spec PyProof.Rows
section
variable {X:Cx}
def zF (i:Nat):TE:=fun σ H Q=>∃ v,σ[i]?=some (some v)/\Q v H
def tC (v:V):TE:=fun _ H Q=>Q v H
theorem Dt {i:Nat} {x:Str} {pos:Pos} (hN:X.N[i]?=some x) (hv:Vis X.env.scope x) (hd:(x == ("__debug__":Str))=false:=by decide) (hcd:(x == ("__classdict__":Str))=false:=by decide):PE X (.Name x pos) (zF i):=by
 intro pins s σ H Q I h;obtain ⟨v,e,h⟩:=h;obtain ⟨m,hn,hl⟩:=I.loc;obtain ⟨u,r,l⟩:=hl i x v hN e hv;have fin:EP X pins σ Q u s:=⟨v,H,I,r,h⟩;rcases l with ⟨hk,hm⟩|⟨hk,c,hc,hcell⟩
 . exact wpAny_Name (wpAny_loadName_local I.ok.kind hk hn hm fin) hd
 . rcases hk with hk|hk
   . exact wpAny_Name (wpAny_loadName_cell I.ok.kind hk hc hcell fin) hd
   . exact wpAny_Name (wpAny_loadName_free I.ok.kind hk hc hcell fin hcd) hd
theorem ao {i j pos}:PE X (.Constant (.int i) j pos) (tC (.int i)):=fun _ _ _ H _ I h=>wpAny_Constant_int ⟨.int i,H,I.tok _,⟨_,rfl⟩,h⟩
theorem dg {b j pos}:PE X (.Constant (.bool b) j pos) (tC (.bl b)):=fun _ _ _ H _ I h=>Constant_bool ⟨.bl b,H,I,rfl,h⟩
theorem yR {j pos}:PE X (.Constant .none j pos) (tC .non):=fun _ _ _ H _ I h=>Constant_none ⟨.non,H,I,rfl,h⟩
theorem yk {x j pos}:PE X (.Constant (.str x) j pos) (tC (.str x)):=fun _ _ _ H _ I h=>Calls.Constant_str ⟨.str x,H,I.tok _,⟨_,rfl⟩,h⟩
def Gl (X:Cx) (x:Str):Prop:=X.env.kindOf x=some .globalImplicit
theorem mK {E:Value->Shared->Prop} {pins:List (Addr × Obj)} {s:Shared} {σ:St} {H:Hp} {x:Str} {u:Value} {pos:Pos} {Q:Value->Shared->Prop} (I:Inv X pins σ H s) (hg:Gl X x) (hm:X.mg x=some u) (h:Q u s)
   (hd:(x == ("__debug__":Str))=false:=by decide):wpAny (model X.prog X.w) X.A (eval (.Name x pos) X.env) Q E s :=
 Calls.Name_function_global I.ok.kind hg (Calls.loadGlobal_global (by rw [I.ok.glob];exact I.mod.glob.keeps I.bk) hm h) hd
theorem lA {E:Value->Shared->Prop} {pins:List (Addr × Obj)} {s:Shared} {σ:St} {H:Hp} {x:Str} {u:Value} {pos:Pos} {Q:Value->Shared->Prop} (I:Inv X pins σ H s) (hg:Gl X x) (hm:X.mg x=none) (hv:bootBuiltins x=some u) (h:Q u s)
   (hn:x≠"__name__":=by decide) (hd:(x == ("__debug__":Str))=false:=by decide):wpAny (model X.prog X.w) X.A (eval (.Name x pos) X.env) Q E s:=by
 obtain ⟨mb,h1,h2⟩:=I.mod.blt;exact Calls.Name_function_global I.ok.kind hg (Calls.loadGlobal_builtin (by rw [I.ok.glob];exact I.mod.glob.keeps I.bk) hm (by rw [I.ok.blt];exact h1.keeps I.bk) ((h2 x hn).trans hv) h) hd
theorem kE {x:Str} {v:V} {u:Value} {pos:Pos} (hg:Gl X x) (hm:X.mg x=some u) (r:RelV v u) (hd:(x == ("__debug__":Str))=false:=by decide):PE X (.Name x pos) (tC v) :=
 fun _ _ _ H _ I h=>mK I hg hm ⟨v,H,I,r,h⟩ hd
theorem Ma {x:Str} {v:V} {u:Value} {pos:Pos} (hg:Gl X x) (hm:X.mg x=none) (hv:bootBuiltins x=some u) (r:RelV v u) (hn:x≠"__name__":=by decide) (hd:(x == ("__debug__":Str))=false:=by decide):PE X (.Name x pos) (tC v) :=
 fun _ _ _ H _ I h=>lA I hg hm hv ⟨v,H,I,r,h⟩ hn hd
variable {a b:Expr} {ta tb:TE} {pos:Pos}
def PC (X:Cx) (op:CmpOp) (a b:Expr) (t:TE):Prop :=
 ∀ (pins:List (Addr × Obj)) (s:Shared) (σ:St) (H:Hp) (Q:VK),Inv X pins σ H s->t σ H Q ->
   wpAny (model X.prog X.w) X.A (eval a X.env) (fun v s₁=>wpAny (model X.prog X.w) X.A (eval b X.env) (fun u s₂=>wpAny (model X.prog X.w) X.A (compareOp op v u) (EP X pins σ Q) X.xe s₂) X.xe s₁) X.xe s
def Ov (ta:TE):TE:=fun σ H Q=>ta σ H fun x H1=>Q (.bl (decide (x=.non))) H1
def LS (ta:TE):TE:=fun σ H Q=>ta σ H fun x H1=>Q (.bl (!decide (x=.non))) H1
def tB (t:TE):TT:=fun σ H Q=>t σ H fun x H1=>∃ c,x=.bl c/\Q c H1
theorem NZ {op:CmpOp} {t:TE} (h:PC X op a b t) (h1:behindInMarks op b=false:=by first|exact nobehind _ (by decide) (by decide)|rfl):PT X (.Compare a [op] [b] pos) (tB t):=by
 intro pins s σ H Q I hw;refine wpAny_isTrue_Compare1 (thn (h pins s σ H _ I hw) fun v s1 h1=>thn h1 fun u s2 h2=>thn h2 fun c s3 ⟨x,H1,I1,r1,q1⟩=>?_) h1;obtain ⟨d,rfl,q⟩:=q1;cases r1;exact wpAny_truthy_bool ⟨H1,I1,q⟩
theorem qz {e:Expr} {t:TE} (h:PE X e t) (he:∀ whole,isTrue e X.env whole=(do let v <- whole;standAt e.pos;holding [v] (truthy v)):=by intro _;rfl):PT X e (tB t):=by
 intro pins s σ H Q I hw;refine isTrue_plain (bF (h pins s σ H _ I hw) fun v s1 x H1 I1 r1 q1=>?_) (he _);obtain ⟨d,rfl,q⟩:=q1;cases r1;exact wpAny_truthy_bool ⟨H1,I1,q⟩
variable {tA tB':TT} {jG:List Expr}
def IA (t u:TT):TT:=fun σ H Q=>t σ H fun c H1=>if c=true then u σ H1 Q else Q false H1
def tOr (t u:TT):TT:=fun σ H Q=>t σ H fun c H1=>if c=true then Q true H1 else u σ H1 Q
def Iz (t:TT):TT:=fun σ H Q=>t σ H fun c H1=>Q (!c) H1
theorem zh (ha:PT X a tA):PW X (.BoolOp .And [a] pos) tA:=by
 intro wh pins s σ H Q I h;refine isTrue_and (thn (ha pins s σ H Q I h) fun c s1 e=>?_);cases c with
 | true=>exact isTrue_and_nil e
 | false=>exact e
theorem HS (ha:PT X a tA):PW X (.BoolOp .Or [a] pos) tA:=by
 intro wh pins s σ H Q I h;refine isTrue_or (thn (ha pins s σ H Q I h) fun c s1 e=>?_);cases c with
 | false=>exact isTrue_or_nil e
 | true=>exact e
theorem CM (ha:PT X a tA) (hb:PW X (.BoolOp .And (b::jG) pos) tB'):PW X (.BoolOp .And (a::b::jG) pos) (IA tA tB'):=by
 intro wh pins s σ H Q I h;refine isTrue_and (zC (ha pins s σ H _ I h) fun c s1 H1 I1 q1=>?_);cases c with
 | true=>exact hb wh pins s1 σ H1 Q I1 q1
 | false=>exact ⟨H1,I1,q1⟩
theorem LG (ha:PT X a tA) (hb:PW X (.BoolOp .Or (b::jG) pos) tB'):PW X (.BoolOp .Or (a::b::jG) pos) (tOr tA tB'):=by
 intro wh pins s σ H Q I h;refine isTrue_or (zC (ha pins s σ H _ I h) fun c s1 H1 I1 q1=>?_);cases c with
 | true=>exact ⟨H1,I1,q1⟩
 | false=>exact hb wh pins s1 σ H1 Q I1 q1
theorem qv (ha:PT X a tA):PT X (.UnaryOp .Not a pos) (Iz tA):=by
 intro pins s σ H Q I h;exact isTrue_not (ha pins s σ H (fun c H1=>Q (!c) H1) I h)
def FW (ta tb:TE):TE:=fun σ H Q=>ta σ H fun x H1=>∃ c,x=.bl c/\if c=true then tb σ H1 Q else Q (.bl false) H1
def Oj (ta tb:TE):TE:=fun σ H Q=>ta σ H fun x H1=>∃ c,x=.bl c/\if c=true then Q (.bl true) H1 else tb σ H1 Q
def LM (ta:TE):TE:=fun σ H Q=>ta σ H fun x H1=>∃ c,x=.bl c/\Q (.bl (!c)) H1
theorem Nl {op} {t:TE} (h:PE X a t):PE X (.BoolOp op [a] pos) t:=fun pins s σ H Q I hw=>BoolOp_one (h pins s σ H Q I hw)
theorem MY (ha:PE X a ta) (hb:PE X (.BoolOp .And (b::jG) pos) tb):PE X (.BoolOp .And (a::b::jG) pos) (FW ta tb):=by
 intro pins s σ H Q I h;refine BoolOp_and (bF (ha pins s σ H _ I h) fun v s1 x H1 I1 r1 q1=>?_);obtain ⟨c,rfl,q1⟩:=q1;cases r1;refine wpAny_truthy_bool ?_;cases c with
 | true=>exact hb pins s1 σ H1 Q I1 q1
 | false=>exact ⟨.bl false,H1,I1,rfl,q1⟩
def tIf (t:TT) (ta tb:TE):TE:=fun σ H Q=>t σ H fun c H1=>if c=true then ta σ H1 Q else tb σ H1 Q
end
end L2
namespace L2
open PySem PySem.Spec PyProof.Rows
def SqL (K:PySem.W.Frag) (H:Hp) (a:Addr) (xs:List V):Prop :=
 Rd H a (.lst xs) \/
   ∃ (o:Obj) (its:Array Value) (n:Nat),K.lookup a=some o/\o.cls=.type "list"/\o.dict=none/\o.data=.seq its n/\its.size<=sizeLine/\Vals xs its.toList
def SqT (K:PySem.W.Frag) (H:Hp) (a:Addr) (xs:List V):Prop :=
 Rd H a (.tup xs) \/
   ∃ (o:Obj) (its:Array Value) (n:Nat),K.lookup a=some o/\o.cls=.type "tuple"/\o.data=.seq its n/\its.size<=sizeLine/\Vals xs its.toList
def OJ:Value->Option V
 | .none=>some .non
 | .bool b=>some (.bl b)
 | .int i _=>some (.int i)
 | .str x _=>some (.str x)
 | .bytes b _=>some (.byt b)
 | .float b _=>some (.flt b)
 | .ref a=>some (.ref a)
 | .type n=>some (.ty n)
 | _=>none
theorem RelV.abs {x:V} {u:Value} (r:RelV x u):OJ u=some x:=by
 cases x with
 | non=>cases r;rfl
 | bl _=>cases r;rfl
 | int _=>obtain ⟨t,rfl⟩:=r;rfl
 | str _=>obtain ⟨t,rfl⟩:=r;rfl
 | byt _=>obtain ⟨t,rfl⟩:=r;rfl
 | flt _=>obtain ⟨t,rfl⟩:=r;rfl
 | ref _=>cases r;rfl
 | ty _=>cases r;rfl
theorem RelV.inj {x y:V} {u:Value} (r:RelV x u) (q:RelV y u):x=y:=Option.some.inj (r.abs.symm.trans q.abs)
theorem Vals.inj {xs ys:List V} {us:List Value} (h:Vals xs us) (h2:Vals ys us):xs=ys:=by
 induction h generalizing ys with
 | nil=>cases h2;rfl
 | cons r _ ih=>cases h2 with|cons r2 t2=>rw [r.inj r2,ih t2]
section
variable {X:Cx} {pins:List (Addr × Obj)} {σ:St} {H:Hp} {s:Shared} {a:Addr} {xs ys:List V}
theorem SqL.of {K:PySem.W.Frag} (h:H a=some (.lst xs)):SqL K H a xs:=.inl (.inl h)
theorem SqT.of {K:PySem.W.Frag} (h:H a=some (.tup xs)):SqT K H a xs:=.inl (.inl h)
theorem Inv.list (I:Inv X pins σ H s) (h:SqL X.K H a xs):∃ its:List Value,Vals xs its/\PlainL s.heap a its.toArray/\xs.length<=sizeLine:=by
 rcases h with h|⟨o,its,n,hk,hc,hd,hs,hz,r⟩
 . obtain ⟨z,its,n,r,e⟩:=h.ok I.hok;exact ⟨its,r,⟨_,n,e,rfl,rfl,rfl⟩,z⟩
 . refine ⟨its.toList,r,⟨o,n,I.kIn a o hk,hc,hd,by simpa using hs⟩,?_⟩;have e:=r.length;simp only [Array.length_toList] at e;omega
theorem Inv.tuple (I:Inv X pins σ H s) (h:SqT X.K H a xs):∃ its:List Value,Vals xs its/\IsTup s.heap a its.toArray/\xs.length<=sizeLine:=by
 rcases h with h|⟨o,its,n,hk,hc,hs,hz,r⟩
 . obtain ⟨z,its,r,p⟩:=h.ok I.hok;exact ⟨its,r,p,z⟩
 . refine ⟨its.toList,r,⟨o,I.kIn a o hk,hc,n,by simpa using hs⟩,?_⟩;have e:=r.length;simp only [Array.length_toList] at e;omega
theorem Inv.list_inj (I:Inv X pins σ H s) (h:SqL X.K H a xs) (h':SqL X.K H a ys):xs=ys:=by
 obtain ⟨its,r,⟨o,n,e,_,_,d⟩,_⟩:=I.list h;obtain ⟨its',r',⟨o',n',e',_,_,d'⟩,_⟩:=I.list h';rw [e] at e';cases e';rw [d] at d';injection d' with d1 _
 have:its=its':=by simpa using congrArg Array.toList d1
 subst this;exact r.inj r'
theorem Inv.tuple_inj (I:Inv X pins σ H s) (h:SqT X.K H a xs) (h':SqT X.K H a ys):xs=ys:=by
 obtain ⟨its,r,⟨o,e,_,n,d⟩,_⟩:=I.tuple h;obtain ⟨its',r',⟨o',e',_,n',d'⟩,_⟩:=I.tuple h';rw [e] at e';cases e';rw [d] at d';injection d' with d1 _
 have:its=its':=by simpa using congrArg Array.toList d1
 subst this;exact r.inj r'
end
abbrev Cx.wish (X:Cx) (E:Value->Shared->Prop):Cx:={ X with xe:=E }
abbrev Cx.nox (X:Cx):Cx:=X.wish fun _ _=>False
theorem Cx.Ok.wish {X:Cx} (ok:X.Ok) (E:Value->Shared->Prop):(X.wish E).Ok :=
 ⟨ok.mod,ok.kind,ok.glob,ok.blt,ok.above,ok.inj,ok.has,ok.cab,ok.hd,ok.frames,ok.stk,ok.exf,ok.bs,ok.bsz,ok.noex,ok.exfs,ok.funs,ok.frf⟩
theorem Cx.Ok.unwish {X:Cx} {E:Value->Shared->Prop} (ok:(X.wish E).Ok):X.Ok :=
 ⟨ok.mod,ok.kind,ok.glob,ok.blt,ok.above,ok.inj,ok.has,ok.cab,ok.hd,ok.frames,ok.stk,ok.exf,ok.bs,ok.bsz,ok.noex,ok.exfs,ok.funs,ok.frf⟩
section
variable {X:Cx} {pins:List (Addr × Obj)} {σ:St} {H:Hp} {s:Shared} {E:Value->Shared->Prop}
theorem Inv.wish (I:Inv X pins σ H s) (E:Value->Shared->Prop):Inv (X.wish E) pins σ H s:=⟨I.ok.wish E,I.os,I.bare,I.base,I.loc,I.cell,I.free,I.freeC,I.pin,I.hok,I.len⟩
theorem Inv.unwish (I:Inv (X.wish E) pins σ H s):Inv X pins σ H s:=⟨I.ok.unwish,I.os,I.bare,I.base,I.loc,I.cell,I.free,I.freeC,I.pin,I.hok,I.len⟩
theorem SP.unwish {D:Ends} {f:Flow} {s':Shared} (h:SP (X.wish E) pins D f s'):SP X pins D f s':=by
 cases f with
 | next=>obtain ⟨σ',H',I,q⟩:=h;exact ⟨σ',H',I.unwish,q⟩
 | brk=>obtain ⟨σ',H',I,q⟩:=h;exact ⟨σ',H',I.unwish,q⟩
 | cont=>obtain ⟨σ',H',I,q⟩:=h;exact ⟨σ',H',I.unwish,q⟩
 | ret u=>obtain ⟨v,σ',H',I,r,q⟩:=h;exact ⟨v,σ',H',I.unwish,r,q⟩
theorem PSs.nox {st:List Stmt} {t:TS} (h:PSs X.nox st t):PSs X st t:=fun pins s σ H D I hw =>
 wpAny_mono (h pins s σ H D (I.wish _) hw) (fun _ _ q=>q.unwish) fun _ _ z=>False.elim z
end
section
variable {X:Cx} {st:Stmt} {jG:List Stmt} {t u:TS} {e:Expr} {te:TE} {pos:Pos}
def tNext:TS:=fun D σ H=>D.nx σ H
def Fu (t u:TS):TS:=fun D σ H=>t { D with nx:=u D } σ H
theorem aP:PSs X [] tNext:=fun _ _ σ H _ I h=>wpAny_execs_nil ⟨σ,H,I,h⟩
theorem ap (h1:PS X st t) (h2:PSs X jG u):PSs X (st::jG) (Fu t u):=by
 intro pins s σ H D I h;refine wpAny_execs_cons (thn (h1 pins s σ H { D with nx:=u D } I h) fun f s1 q=>?_);cases f with
 | next =>
   obtain ⟨σ',H',I',q⟩:=q;exact h2 pins s1 σ' H' D I' q
 | ret v=>exact q
 | brk=>exact q
 | cont=>exact q
theorem aq (h1:PS X st t):PSs X [st] t:=by
 intro pins s σ H D I h;refine wpAny_execs_cons (thn (h1 pins s σ H D I h) fun f s1 q=>?_);cases f with
 | next=>exact wpAny_execs_nil q
 | ret v=>exact q
 | brk=>exact q
 | cont=>exact q
theorem Inv.quiet {pins:List (Addr × Obj)} {σ:St} {H:Hp} {s:Shared} (I:Inv X pins σ H s):interactive X.env=false:=by simp [interactive,I.ok.kind]
def Fb (te:TE):TS:=fun D σ H=>te σ H fun _ H1=>D.nx σ H1
theorem cw (he:PE X e te) (hs:swapsWith e none pos.line X.env=pure false:=by rfl):PS X (.Expr e pos) (Fb te):=by
 intro pins s σ H D I h;exact wpAny_Expr_any (bF (he pins s σ H _ I h) fun v s1 x H1 I1 r1 q1=>⟨σ,H1,I1,q1⟩) I.quiet hs
def Ip (te:TE):TS:=fun D σ H=>te σ H D.rt
theorem aO (he:PE X e te):PS X (.Return (some e) pos) (Ip te):=by
 intro pins s σ H D I h;exact wpAny_Return_some (bF (he pins s σ H _ I h) fun v s1 x H1 I1 r1 q1=>⟨x,σ,H1,I1,r1,q1⟩)
def LQ:TS:=fun D _ H=>D.rt .non H
def FO (c:TT) (t u:TS):TS:=fun D σ H=>c σ H fun b H1=>if b=true then t D σ H1 else u D σ H1
theorem bB {c:Expr} {a b:List Stmt} {tc:TT} (hc:PT X c tc) (ha:PSs X a t) (hb:PSs X b u):PS X (.If c a b pos) (FO tc t u):=by
 intro pins s σ H D I h;refine wpAny_If (zC (hc pins s σ H _ I h) fun d s1 H1 I1 q1=>?_);cases d with
 | true=>exact ha pins s1 σ H1 D I1 q1
 | false=>exact hb pins s1 σ H1 D I1 q1
def tNever:TS:=fun _ _ _=>False
theorem kM:PS X st tNever:=fun _ _ _ _ _ _ h=>h.elim
end
abbrev TG:=V->St->Hp->(St->Hp->Prop)->Prop
abbrev TGs:=List V->St->Hp->(St->Hp->Prop)->Prop
def PG (X:Cx) (target:Expr) (t:TG):Prop :=
 ∀ (pins:List (Addr × Obj)) (s:Shared) (σ:St) (H:Hp) (v:V) (u:Value) (Q:St->Hp->Prop),Inv X pins σ H s->RelV v u->t v σ H Q ->
   wpAny (model X.prog X.w) X.A (assign target X.env u) (fun _ s'=>∃ σ' H',Inv X pins σ' H' s'/\Q σ' H') X.xe s
def PGs (X:Cx) (ts:List Expr) (t:TGs):Prop :=
 ∀ (pins:List (Addr × Obj)) (s:Shared) (σ:St) (H:Hp) (vs:List V) (us:List Value) (Q:St->Hp->Prop),Inv X pins σ H s->Vals vs us->t vs σ H Q ->
   wpAny (model X.prog X.w) X.A (assignInOrder ((assignEach ts X.env).map (·.2)) us) (fun _ s'=>∃ σ' H',Inv X pins σ' H' s'/\Q σ' H') X.xe s
abbrev BZ:=V->V->V->Hp->(Hp->Prop)->Prop
def Jw (X:Cx) (t:BZ):Prop :=
 ∀ (pins:List (Addr × Obj)) (s:Shared) (σ:St) (H:Hp) (o i v:V) (ov iv u:Value) (Q:Hp->Prop),Inv X pins σ H s->RelV o ov->RelV i iv->RelV v u->t o i v H Q ->
   wpAny (model X.prog X.w) X.A (setItem ov iv u) (fun _ s'=>∃ H',Inv X pins σ H' s'/\Q H') X.xe s
abbrev TIp:=V->V->Hp->VK->Prop
def PIp (X:Cx) (op:Operator) (t:TIp):Prop :=
 ∀ (pins:List (Addr × Obj)) (s:Shared) (σ:St) (H:Hp) (x y:V) (v u:Value) (Q:VK),Inv X pins σ H s->RelV x v->RelV y u->t x y H Q ->
   wpAny (model X.prog X.w) X.A (inplaceOp op v u) (EP X pins σ Q) X.xe s
section
variable {X:Cx} {pos:Pos}
def yO (i:Nat):TG:=fun v σ H Q=>Q (σ.set i (some v)) H
theorem aY {i:Nat} {x:Str} (hN:X.N.Nodup) (hi:X.N[i]?=some x) (hx:Loc X.env.scope x) (hf:X.fn x=true\/X.env.scope.names.lookup x=some .local:=by first|exact .inl rfl|exact .inr rfl|assumption):PG X (.Name x pos) (yO i):=by
 intro pins s σ H v u Q I r h;exact wpAny_assign_Name (rH I hN hi hx r (fun s' I'=>⟨_,H,I',h⟩) hf)
def gNil:TGs:=fun vs σ H Q=>vs=[]/\Q σ H
def F9 (t:TG) (u:TGs):TGs:=fun vs σ H Q=>∃ v r,vs=v::r/\t v σ H fun σ' H'=>u r σ' H' Q
theorem mF:PGs X [] gNil:=by
 intro pins s σ H vs us Q I r h;obtain ⟨e,h⟩:=h;subst e;cases r;exact assignInOrder_nil ⟨σ,H,I,h⟩
theorem cZ {e:Expr} {es:List Expr} {t:TG} {u:TGs} (h1:PG X e t) (h2:PGs X es u)
   (hs:(assignEach (e::es) X.env).map (·.2)=assign e X.env::(assignEach es X.env).map (·.2):=by rfl):PGs X (e::es) (F9 t u):=by
 intro pins s σ H vs us Q I r h;obtain ⟨v,vr,e1,h⟩:=h;subst e1;cases r with
 | cons r rr =>
   rw [hs];refine assignInOrder_cons (thn (h1 pins s σ H _ _ _ I r h) fun _ s1 ⟨σ1,H1,I1,q1⟩=>?_);exact h2 pins s1 σ1 H1 _ _ Q I1 rr q1
def FP (K:PySem.W.Frag) (n:Nat) (t:TGs):TG:=fun v σ H Q=>∃ a xs,v=.ref a/\SqT K H a xs/\xs.length=n/\t xs σ H Q
theorem ua {es:List Expr} {k:Nat} {t:TGs} {n:Nat} (hc:X.calm=true) (h:PGs X es t)
   (hn:(assignEach es X.env).length=n:=by rfl) (hst:(assignEach es X.env).findIdx? (·.1)=none:=by rfl):PG X (.Tuple es k pos) (FP X.K n t):=by
 intro pins s σ H v u Q I r hw;obtain ⟨a,xs,e1,hq,hl,hw⟩:=hw;subst e1;cases r;obtain ⟨its,rv,ht,hz⟩:=I.tuple hq;refine assign_Tuple_tuple (I.ok.hd hc) ht (by simp [hn,<- hl,rv.length]) hst fun h' hx=>?_;have I1:Inv X pins σ H { s with heap:=h' }:=I.kept (t':=s.toks) fun b o e=>hx b o (Nat.ne_of_lt (Heap.lt_size e)) e;exact h pins _ σ H xs _ Q I1 (by simpa using rv) hw
def JX (to ti:TE) (t:BZ):TG:=fun v σ H Q=>to σ H fun o H1=>ti σ H1 fun i H2=>t o i v H2 fun H3=>Q σ H3
theorem qC {o i:Expr} {to ti:TE} {t:BZ} (ho:PE X o to) (hi:PE X i ti) (hs:Jw X t)
   (ha:∀ v,assign (.Subscript o i pos) X.env v=(do
     let ov <- holding [v] (eval o X.env)
     let iv <- holding [v,ov] (eval i X.env)
     standAt pos
     holding [v,ov,iv] (setItem ov iv v)
     release [v,ov,iv] []):=by intro _;rfl):PG X (.Subscript o i pos) (JX to ti t):=by
 intro pins s σ H v u Q I r h;rw [ha];refine wpAny_bind (wpAny_holding (bF (ho pins s σ H _ I h) fun ov s1 x H1 I1 r1 q1=>?_));refine wpAny_bind (wpAny_holding (bF (hi pins s1 σ H1 _ I1 q1) fun iv s2 y H2 I2 r2 q2=>?_));refine wpAny_bind (wpAny_standAt (wpAny_bind (wpAny_holding (thn (hs pins s2 σ H2 x y v ov iv u _ I2 r1 r2 r q2) fun _ s3 ⟨H3,I3,q3⟩=>?_))));exact wpAny_release ⟨σ,H3,I3,q3⟩
def DA (te:TE) (g:TG):TS:=fun D σ H=>te σ H fun x H1=>g x σ H1 D.nx
theorem nF {tg e:Expr} {te:TE} {g:TG} (he:PE X e te) (hg:PG X tg g) (hs:swapsWithSole [tg] e pos.line X.env=pure false:=by rfl) (hw:swappedStores [tg] e X.env=pure none:=by rfl)
   (h1:(assignEach [tg] X.env).map (·.2)=[assign tg X.env]:=by rfl):PS X (.Assign [tg] e pos) (DA te g):=by
 intro pins s σ H D I h;refine wpAny_Assign_stores (bF (he pins s σ H _ I h) fun v s1 x H1 I1 r1 q1=>?_) hs hw;rw [h1];exact thn (hg pins s1 σ H1 x v _ I1 r1 q1) fun _ s2 q=>q
theorem aD {i:Nat} {x:Str} {e:Expr} {te:TE} {pos':Pos} (hN:X.N.Nodup) (hi:X.N[i]?=some x) (hx:Loc X.env.scope x) (he:PE X e te) (hs:swapsWith e (some (.Name x pos')) pos.line X.env=pure false:=by rfl) (hf:X.fn x=true\/X.env.scope.names.lookup x=some .local:=by first|exact .inl rfl|exact .inr rfl|assumption) :
   PS X (.Assign [.Name x pos'] e pos) (DA te (yO i)):=by
 intro pins s σ H D I h;refine wpAny_Assign_Name (bF (he pins s σ H _ I h) fun v s1 y H1 I1 r1 q1=>?_) hs;exact rH I1 hN hi hx r1 (fun s2 I2=>⟨_,H1,I2,q1⟩) hf
def M0 (i:Nat) (te:TE) (ti:TIp):TS:=fun D σ H=>∃ x,σ[i]?=some (some x)/\te σ H fun y H1=>ti x y H1 fun z H2=>D.nx (σ.set i (some z)) H2
def Gv (to ti te:TE) (tget:V->V->Hp->VK->Prop) (tip:TIp) (tset:BZ):TS:=fun D σ H=>to σ H fun o H1=>ti σ H1 fun i H2=>tget o i H2 fun x H3=>te σ H3 fun y H4=>tip x y H4 fun z H5=>tset o i z H5 fun H6=>D.nx σ H6
def N8 (X:Cx) (t:V->V->Hp->VK->Prop):Prop :=
 ∀ (pins:List (Addr × Obj)) (s:Shared) (σ:St) (H:Hp) (o i:V) (ov iv:Value) (Q:VK),Inv X pins σ H s->RelV o ov->RelV i iv->t o i H Q ->
   wpAny (model X.prog X.w) X.A (getItem ov iv) (EP X pins σ Q) X.xe s
theorem Ex {o i e:Expr} {to ti te:TE} {tget:V->V->Hp->VK->Prop} {tip:TIp} {tset:BZ} {op:Operator} {tpos:Pos} (ho:PE X o to) (hi:PE X i ti) (hg:N8 X tget) (he:PE X e te) (hp:PIp X op tip) (hs:Jw X tset)
   (ha:∀ ov iv new,augStore i ov iv new=(do holding [new,ov,iv] (setItem ov iv new);release [new,ov,iv] [];pure .next):=by intros;rfl):PS X (.AugAssign (.Subscript o i tpos) op e pos) (Gv to ti te tget tip tset):=by
 intro pins s σ H D I h;refine wpAny_AugAssign_SubscriptAny (bF (ho pins s σ H _ I h) fun ov s1 x1 H1 I1 r1 q1=>?_) ha;refine bF (hi pins s1 σ H1 _ I1 q1) fun iv s2 x2 H2 I2 r2 q2=>?_;refine thn (hg pins s2 σ H2 x1 x2 ov iv _ I2 r1 r2 q2) fun old s3 ⟨x3,H3,I3,r3,q3⟩=>?_;refine bF (he pins s3 σ H3 _ I3 q3) fun v s4 x4 H4 I4 r4 q4=>?_;refine thn (hp pins s4 σ H4 x3 x4 old v _ I4 r3 r4 q4) fun new s5 ⟨x5,H5,I5,r5,q5⟩=>?_;exact thn (hs pins s5 σ H5 x1 x2 x5 ov iv new _ I5 r1 r2 r5 q5) fun _ s6 ⟨H6,I6,q6⟩=>⟨σ,H6,I6,q6⟩
def ipI (f:Int->Int->Int):TIp:=fun x y H Q=>∃ i j,x=.int i/\y=.int j/\Q (.int (f i j)) H
theorem GF:PIp X .Add (ipI fun i j=>i+j):=by
 intro pins s σ H x y v u Q I r1 r2 h;obtain ⟨i,j,e1,e2,q⟩:=h;subst e1;subst e2;obtain ⟨t,rfl⟩:=r1;obtain ⟨t',rfl⟩:=r2;exact iadd_int ⟨.int _,H,I.tok _,⟨_,rfl⟩,q⟩
end
section
variable {X:Cx} {pos:Pos}
def DD (c:TT) (tb:TS):TS:=fun D σ H=>∃ W:Nat->St->Hp->Prop,(∃ m,W m σ H)/\∀ m σ H,W m σ H ->
 c σ H fun b H1=>if b=true then ∃ N:St->Hp->Prop,(∀ σ' H',N σ' H'->∃ m',m'<m/\W m' σ' H')/\tb { D with nx:=N,ct:=N,bk:=D.nx } σ H1 else D.nx σ H1
theorem xz {c:Expr} {body:List Stmt} {tc:TT} {tb:TS} (hp:PassesOwn (model X.prog X.w) X.A X.env X.xe) (hc:PT X c tc) (hb:PSs X body tb):PS X (.While c body [] pos) (DD tc tb):=by
 intro pins s σ H D I h;obtain ⟨W,⟨m0,w0⟩,turn⟩:=h;refine wpAny_While (codeAny_whileLoop (fun n s'=>∃ σ' H',Inv X pins σ' H' s'/\W n σ' H') ?_ m0 ⟨σ,H,I,w0⟩);rintro n s1 ⟨σ1,H1,I1,w1⟩;refine wpAny_passesOwn hp (zC (hc pins s1 σ1 H1 _ I1 (turn n σ1 H1 w1)) fun b s2 H2 I2 q2=>?_);cases b with
 | true =>
   obtain ⟨N,hN,q2⟩:=q2;rw [if_pos rfl];refine wpAny_passesOwn hp (thn (hb pins s2 σ1 H2 _ I2 q2) fun f s3 q3=>?_);cases f with
   | next =>
     obtain ⟨σ3,H3,I3,n3⟩:=q3;obtain ⟨m',hm,w3⟩:=hN σ3 H3 n3;exact ⟨m',hm,σ3,H3,I3,w3⟩
   | cont =>
     obtain ⟨σ3,H3,I3,n3⟩:=q3;obtain ⟨m',hm,w3⟩:=hN σ3 H3 n3;exact ⟨m',hm,σ3,H3,I3,w3⟩
   | brk=>exact q3
   | ret v=>exact q3
 | false =>
   rw [if_neg Bool.false_ne_true];exact wpAny_execs_nil ⟨σ1,H2,I2,q2⟩
end
structure It where
 go:Nat->Hp->Prop
 yld:Nat->Hp->V->Hp->Prop
 stop:Nat->Hp->Prop
def jq (X:Cx) (pins:List (Addr × Obj)) (H:Hp) (b:Addr):Prop :=
 H b=none/\b≠X.env.locals/\b ∉ X.fs/\(b∈X.ex\/X.s₀.heap.objs.size<=b)/\(∀ x c,X.env.cells.lookup x=some c->c≠b)/\∀ p∈X.pn++pins,p.1≠b
theorem Inv.fpOk {X:Cx} {pins:List (Addr × Obj)} {σ:St} {H H':Hp} {s:Shared} {b:Addr} (I:Inv X pins σ H s) (hb:s.heap.objs.size<=b) (hn:H' b=none):jq X pins H' b:=by
 refine ⟨hn,Nat.ne_of_gt (Nat.lt_of_lt_of_le I.lt hb),I.nofs hb,.inr (Nat.le_trans I.sz hb),fun x c e z=>?_,fun p hp z=>?_⟩
 . obtain ⟨v,q⟩:=I.cell x c e;exact absurd (Nat.lt_of_lt_of_le q.lt (by rw [z];exact hb)) (Nat.lt_irrefl _)
 . exact absurd (Nat.lt_of_lt_of_le (Heap.lt_size (I.pin p hp).1) (by rw [z];exact hb)) (Nat.lt_irrefl _)
structure Turn (P:Program) (w:World) (K:PySem.W.Frag) (tg:Expr) (J:It) (fp:List Addr) (it:Addr) (tn:Nat->Heap->Prop):Prop where
 mem:it∈fp
 obj:∀ i h,tn i h->∀ b∈fp,∃ o,h.get? b=some o/\∀ v,o.data≠.cell v
 keep:∀ i h h',tn i h->(∀ b∈fp,∀ o,h.get? b=some o->h'.get? b=some o)->tn i h'
 item:∀ (X:Cx),X.prog=P->X.w=w->X.K=K->X.calm=true->∀ (i:Nat) (pins:List (Addr × Obj)) (s:Shared) (σ:St) (H:Hp) (E:Value->Shared->Prop),Inv X pins σ H s->(∀ b∈fp,jq X pins H b)->tn i s.heap->J.go i H ->
   wpAny (model P w) X.A (pyNext (.ref it)) (fun r s1=>∃ u,r=some u /\
     wpAny (model P w) X.A (letOwnedTupleGo tg (.ref it) u) (fun _ s2=>∃ x H',Inv X pins σ H' s2/\RelV x u/\J.yld i H x H'/\tn (i+1) s2.heap/\∀ b∈fp,H' b=none) E s1) E s
 done:∀ (X:Cx),X.prog=P->X.w=w->X.K=K->X.calm=true->∀ (i:Nat) (pins:List (Addr × Obj)) (s:Shared) (σ:St) (H:Hp) (E:Value->Shared->Prop),Inv X pins σ H s->(∀ b∈fp,jq X pins H b)->tn i s.heap->J.stop i H ->
   wpAny (model P w) X.A (pyNext (.ref it)) (fun r s1=>r=none/\Inv X pins σ H s1) E s
 self:∀ (A:Around) (i:Nat) (s:Shared) (Q:Value->Shared->Prop) (E:Value->Shared->Prop),tn i s.heap->Q (.ref it) s->wpAny (model P w) A (pyIter (.ref it)) Q E s
abbrev TI:=St->Hp->(It->Hp->Prop)->Prop
def PIE (X:Cx) (pins:List (Addr × Obj)) (σ:St) (tg:Expr) (R:It->Hp->Prop) (itv:Value) (s2:Shared):Prop :=
 ∃ (it:Addr) (fp:List Addr) (tn:Nat->Heap->Prop) (J:It) (H':Hp),itv=.ref it/\Inv X pins σ H' s2/\Turn X.prog X.w X.K tg J fp it tn/\tn 0 s2.heap/\(∀ b∈fp,jq X pins H' b)/\R J H'
def PI (X:Cx) (tg iter:Expr) (wi:TI):Prop :=
 ∀ (pins:List (Addr × Obj)) (s:Shared) (σ:St) (H:Hp) (R:It->Hp->Prop),Inv X pins σ H s->wi σ H R ->
   wpAny (model X.prog X.w) X.A (eval iter X.env) (fun v s1=>wpAny (model X.prog X.w) X.A (pyIter v) (PIE X pins σ tg R) X.xe s1) X.xe s
theorem Bw {M:Model} {A:Around} {E:Value->Shared->Prop} {s:Shared} {tg:Expr} {it:Addr} {u:Value} {o:Obj} {n:String} {vs:Array Value} {Q:Unit->Shared->Prop} (ho:s.heap.get? it=some o) (hc:o.cls=.type n) (hd:o.data=.fields vs)
   (hn:["enumerate","zip","dict_itemiterator","dict_reverseitemiterator","odict_iterator","itertools.zip_longest","itertools.pairwise"].contains n=false) (hQ:Q () s):wpAny M A (letOwnedTupleGo tg (.ref it) u) Q E s:=by
 unfold letOwnedTupleGo;cases tg <;> first
   | exact wpAny_pure hQ
   | (cases u <;> first
       | exact wpAny_pure hQ
       | (refine wpAny_bind (wpAny_load ho ?_)
          rw [hc,hd];show wpAny M A (if (["enumerate","zip","dict_itemiterator","dict_reverseitemiterator","odict_iterator","itertools.zip_longest","itertools.pairwise"].contains n && vs[0]? == some (rawInt _))=true then _ else _) Q E s;rw [if_neg (by intro h;rw [hn,Bool.false_and] at h;cases h)];exact wpAny_pure hQ))
def Itl (K:PySem.W.Frag) (a:Addr):It :=
 ⟨fun i H=>∃ xs x,SqL K H a xs/\xs[i]?=some x,fun i H x H'=>H'=H/\∀ xs,SqL K H a xs->xs[i]?=some x,fun i H=>∃ xs,SqL K H a xs/\xs.length<=i⟩
def Itt (K:PySem.W.Frag) (a:Addr):It :=
 ⟨fun i H=>∃ xs x,SqT K H a xs/\xs[i]?=some x,fun i H x H'=>H'=H/\∀ xs,SqT K H a xs->xs[i]?=some x,fun i H=>∃ xs,SqT K H a xs/\xs.length<=i⟩
def Itr (lo:Int) (n:Nat):It:=⟨fun i _=>i<n,fun i H x H'=>H'=H/\x=.int (lo+i),fun i _=>n<=i⟩
theorem GH {P:Program} {w:World} {K:PySem.W.Frag} {tg:Expr} (a it:Addr):Turn P w K tg (Itl K a) [it] it (fun i h=>h.IsListIter it a i) where
 mem:=by simp
 obj:=fun i h st b hb=>by
   have e:b=it:=by simpa using hb
   subst e;obtain ⟨o,e,c,d⟩:=st;exact ⟨o,e,fun v z=>by rw [d] at z;cases z⟩
 keep:=fun i h h' st k=>st.at fun o e=>k it (by simp) o e
 item:=by
   intro X hP hw hK hc i pins s σ H E I hf st hg;subst hP hw hK;obtain ⟨xs,x,hq,hx⟩:=hg;obtain ⟨its,rv,p,hz⟩:=I.list hq;obtain ⟨u,hu,ru⟩:=rv.get hx;obtain ⟨f0,f1,f2,f3,f4,f5⟩:=hf it (by simp);refine wpAny_pyNext_list_item st p.isList (x:=u) (by simpa using hu) fun h' st' sb=>?_;have I1:Inv X pins σ H { s with heap:=h' }:=I.turned (t':=s.toks) (fun b o hb e=>(sb.2 b hb).trans e) f0 f1 f3 f4 f5;obtain ⟨o,e,c,d⟩:=id st';exact ⟨u,rfl,Bw (s:={ s with heap:=h' }) e c d (by decide) ⟨x,H,I1,ru,⟨rfl,fun ys hy=>by rw [I.list_inj hy hq];exact hx⟩,st',fun b hb=>(hf b hb).1⟩⟩
 done:=by
   intro X hP hw hK hc i pins s σ H E I hf st hg;subst hP hw hK;obtain ⟨xs,hq,hx⟩:=hg;obtain ⟨its,rv,p,hz⟩:=I.list hq;obtain ⟨f0,f1,f2,f3,f4,f5⟩:=hf it (by simp);have hl:=rv.length;exact wpAny_pyNext_list_end (I.ok.hd hc) st p.isList (by simp;omega) fun h' eb=>⟨rfl,I.turned (t':=s.toks) (fun b o hb e=>eb b o hb e) f0 f1 f3 f4 f5⟩
 self:=fun _ _ _ _ _ st h=>wpAny_pyIter_listiter st h
theorem F2 {P:Program} {w:World} {K:PySem.W.Frag} {tg:Expr} (a it:Addr):Turn P w K tg (Itt K a) [it] it (fun i h=>h.IsTupleIter it a i) where
 mem:=by simp
 obj:=fun i h st b hb=>by
   have e:b=it:=by simpa using hb
   subst e;obtain ⟨o,e,c,d⟩:=st;exact ⟨o,e,fun v z=>by rw [d] at z;cases z⟩
 keep:=fun i h h' st k=>st.at fun o e=>k it (by simp) o e
 item:=by
   intro X hP hw hK hc i pins s σ H E I hf st hg;subst hP hw hK;obtain ⟨xs,x,hq,hx⟩:=hg;obtain ⟨its,rv,p,hz⟩:=I.tuple hq;obtain ⟨u,hu,ru⟩:=rv.get hx;obtain ⟨f0,f1,f2,f3,f4,f5⟩:=hf it (by simp);refine wpAny_pyNext_tuple_item st (show s.heap.IsTuple a its.toArray from p) (x:=u) (by simpa using hu) fun h' st' sb=>?_;have I1:Inv X pins σ H { s with heap:=h' }:=I.turned (t':=s.toks) (fun b o hb e=>(sb.2 b hb).trans e) f0 f1 f3 f4 f5;obtain ⟨o,e,c,d⟩:=id st';exact ⟨u,rfl,Bw (s:={ s with heap:=h' }) e c d (by decide) ⟨x,H,I1,ru,⟨rfl,fun ys hy=>by rw [I.tuple_inj hy hq];exact hx⟩,st',fun b hb=>(hf b hb).1⟩⟩
 done:=by
   intro X hP hw hK hc i pins s σ H E I hf st hg;subst hP hw hK;obtain ⟨xs,hq,hx⟩:=hg;obtain ⟨its,rv,p,hz⟩:=I.tuple hq;obtain ⟨f0,f1,f2,f3,f4,f5⟩:=hf it (by simp);have hl:=rv.length;exact wpAny_pyNext_tuple_end (I.ok.hd hc) st (show s.heap.IsTuple a its.toArray from p) (by simp;omega) fun h' eb=>⟨rfl,I.turned (t':=s.toks) (fun b o hb e=>eb b o hb e) f0 f1 f3 f4 f5⟩
 self:=fun _ _ _ _ _ st h=>wpAny_pyIter_tupleiter st h
theorem E8 {P:Program} {w:World} {K:PySem.W.Frag} {tg:Expr} (it:Addr) (lo:Int) (n:Nat):Turn P w K tg (Itr lo n) [it] it (fun i h=>IsRangeIter h it (lo+(i:Nat)*1) ((n:Int) - (i:Nat)) 1) where
 mem:=by simp
 obj:=fun i h st b hb=>by
   have e:b=it:=by simpa using hb
   subst e;exact ⟨_,st,fun v z=>by
     have z':Data.fields _=Data.cell v:=z;cases z'⟩
 keep:=fun i h h' st k=>k it (by simp) _ st
 item:=by
   intro X hP hw hK hc i pins s σ H E I hf st hg;subst hP hw hK;obtain ⟨f0,f1,f2,f3,f4,f5⟩:=hf it (by simp);have W:=Walks.range (prog:=X.prog) (w:=X.w) (I.ok.hd hc) it lo 1 n;refine W.item i s _ _ hg st fun v h' tk hv st' kk=>?_;obtain ⟨t,rfl⟩:=hv;have I1:Inv X pins σ H { s with heap:=h',toks:=tk }:=I.turned (fun b o hb e=>kk b o (by simpa using hb) e) f0 f1 f3 f4 f5;refine ⟨_,rfl,Bw (s:={ s with heap:=h',toks:=tk }) (n:="range_iterator") st' rfl rfl (by decide) ⟨.int (lo+i),H,I1,⟨t,?_⟩,⟨rfl,rfl⟩,st',fun b hb=>(hf b hb).1⟩⟩;rw [Int.mul_one]
 done:=by
   intro X hP hw hK hc i pins s σ H E I hf st hg;subst hP hw hK;obtain ⟨f0,f1,f2,f3,f4,f5⟩:=hf it (by simp);exact wpAny_pyNext_range_end (I.ok.hd hc) st (by have:n<=i:=hg;omega) fun h' eb=>⟨rfl,I.turned (t':=s.toks) (fun b o hb e=>eb b o hb e) f0 f1 f3 f4 f5⟩
 self:=fun _ _ _ _ _ st h=>wpAny_pyIter_rangeiter st h
end L2
namespace L2
open PySem PySem.Spec PyProof.Rows
section
variable {X:Cx} {tg:Expr}
def Gn (K:PySem.W.Frag) (tl:TE):TI:=fun σ H R=>tl σ H fun x H1=>∃ a,x=.ref a/\(∃ xs,SqL K H1 a xs)/\R (Itl K a) H1
def JP (K:PySem.W.Frag) (tl:TE):TI:=fun σ H R=>tl σ H fun x H1=>∃ a,x=.ref a/\(∃ xs,SqT K H1 a xs)/\R (Itt K a) H1
theorem jJ {l:Expr} {tl:TE} (hl:PE X l tl):PI X tg l (Gn X.K tl):=by
 intro pins s σ H R I h;refine bF (hl pins s σ H _ I h) fun v s1 x H1 I1 r1 q1=>?_;obtain ⟨a,e,⟨xs,hq⟩,q⟩:=q1;subst e;cases r1;obtain ⟨its,rv,p,hz⟩:=I1.list hq;refine wpAny_pyIter_list p.isList ?_;refine ⟨s1.heap.objs.size,[s1.heap.objs.size],_,_,H1,rfl,I1.kept (t':=s1.toks) fun b o e=>Heap.get?_push_of_some _ e,GH a _,⟨_,Heap.get?_push_size _ rfl,rfl,rfl⟩,fun b hb=>?_,q⟩;have e:b=s1.heap.objs.size:=by simpa using hb
 subst e;exact I1.fpOk (Nat.le_refl _) (I1.hok.fresh (Nat.le_refl _))
theorem tW {l:Expr} {tl:TE} (hl:PE X l tl):PI X tg l (JP X.K tl):=by
 intro pins s σ H R I h;refine bF (hl pins s σ H _ I h) fun v s1 x H1 I1 r1 q1=>?_;obtain ⟨a,e,⟨xs,hq⟩,q⟩:=q1;subst e;cases r1;obtain ⟨its,rv,p,hz⟩:=I1.tuple hq;refine wpAny_pyIter_tuple (show s1.heap.IsTuple a its.toArray from p) ?_;refine ⟨s1.heap.objs.size,[s1.heap.objs.size],_,_,H1,rfl,I1.kept (t':=s1.toks) fun b o e=>Heap.get?_push_of_some _ e,F2 a _,⟨_,Heap.get?_push_size _ rfl,rfl,rfl⟩,fun b hb=>?_,q⟩;have e:b=s1.heap.objs.size:=by simpa using hb
 subst e;exact I1.fpOk (Nat.le_refl _) (I1.hok.fresh (Nat.le_refl _))
theorem BD {pins:List (Addr × Obj)} {σ:St} {H:Hp} {s:Shared} {R:It->Hp->Prop} {E:Value->Shared->Prop} {lo hi:Int} {t u v:Tok} {tk:Nat} (I:Inv X pins σ H s) (h1:-(2^62)<=lo) (h2:lo<2^62) (h3:-(2^62)<=hi) (h4:hi<2^62)
   (q:R (Itr lo (hi - lo).toNat) H):wpAny (model X.prog X.w) X.A (pyIter (.ref s.heap.objs.size)) (PIE X pins σ tg R) E { s with heap:=s.heap.push { cls:=.type "range",data:=.fields #[.int lo t,.int hi u,.int 1 v] },toks:=tk }:=by
 refine wpAny_pyIter_range (IsRange.new ..) (small_one h1 h2 h3 h4) ?_;have I1:Inv X pins σ H { s with heap:=s.heap.push { cls:=.type "range",data:=.fields #[.int lo t,.int hi u,.int 1 v] },toks:=tk }:=I.kept fun b o e=>Heap.get?_push_of_some _ e;refine ⟨(s.heap.push { cls:=.type "range",data:=.fields #[.int lo t,.int hi u,.int 1 v] }).objs.size,[(s.heap.push { cls:=.type "range",data:=.fields #[.int lo t,.int hi u,.int 1 v] }).objs.size],_,_,H,rfl,
   I1.kept (t':=tk) fun b o e=>Heap.get?_push_of_some _ e,E8 _ lo (hi - lo).toNat,?_,fun b hb=>?_,q⟩
 . have e1:lo+((0:Nat):Int)*1=lo:=by simp
   have e2:(((hi - lo).toNat:Nat):Int) - ((0:Nat):Int)=Builtin.Range.rangeSize lo hi 1:=by rw [rangeSize_one];split <;> omega
   show IsRangeIter _ _ (lo+((0:Nat):Int)*1) ((((hi - lo).toNat:Nat):Int) - ((0:Nat):Int)) 1;rw [e1,e2];exact Heap.get?_push_size _ rfl
 . have e:b=(s.heap.push { cls:=.type "range",data:=.fields #[.int lo t,.int hi u,.int 1 v] }).objs.size:=by simpa using hb
   subst e;exact I1.fpOk (Nat.le_refl _) (I1.hok.fresh (Nat.le_refl _))
def Fa (ta:TA):TI:=fun σ H R=>ta σ H fun vs H1=>∃ j:Int,vs=[.int j]/\-(2^62)<=j/\j<2^62/\R (Itr 0 j.toNat) H1
def E7 (ta:TA):TI:=fun σ H R=>ta σ H fun vs H1=>∃ i j:Int,vs=[.int i,.int j]/\(-(2^62)<=i/\i<2^62/\-(2^62)<=j/\j<2^62)/\R (Itr i (j - i).toNat) H1
theorem vg {a:Expr} {ta:TA} {p pos:Pos} (hg:Gl X "range") (hm:X.mg "range"=none) (ha:PA X [a] ta) (hs:starEach [a] X.env=[(false,eval a X.env)]:=by rfl):PI X tg (.Call (.Name "range" p) [a] [] pos) (Fa ta):=by
 intro pins s σ H R I h;refine Call_ (lA I hg hm boot_range (PyProof.Rows.callWith_type1 (o9 (ha pos pins s σ H _ I h) fun us s1 vs H1 I1 r1 q1=>?_) hs rfl));obtain ⟨j,e,q1,q2,q⟩:=q1;subst e;cases r1 with
 | cons r rr =>
   cases rr;obtain ⟨t,rfl⟩:=r;exact call_range_1 (BD I1 (by omega) (by omega) q1 q2 (by simpa using q))
theorem AH {a b:Expr} {ta:TA} {p pos:Pos} (hg:Gl X "range") (hm:X.mg "range"=none) (ha:PA X [a,b] ta) (hs:starEach [a,b] X.env=[(false,eval a X.env),(false,eval b X.env)]:=by rfl) (hs2:starEach [b] X.env=[(false,eval b X.env)]:=by rfl) :
   PI X tg (.Call (.Name "range" p) [a,b] [] pos) (E7 ta):=by
 intro pins s σ H R I h;refine Call_ (lA I hg hm boot_range (PyProof.Rows.callWith_type1 (o9 (ha pos pins s σ H _ I h) fun us s1 vs H1 I1 r1 q1=>?_) (by rw [hs,hs2]) (by rw [hs2];rfl)));obtain ⟨i,j,e,⟨q1,q2,q3,q4⟩,q⟩:=q1;subst e;cases r1 with
 | cons r rr =>
   cases rr with
   | cons r' rr =>
     cases rr;obtain ⟨t,rfl⟩:=r;obtain ⟨t',rfl⟩:=r';exact call_range_2 (BD I1 q1 q2 q3 q4 q)
def Og (wi:TI) (g:TG) (tb:TS):TS:=fun D σ H=>wi σ H fun J H1=>∃ W:Nat->Nat->St->Hp->Prop,(∃ m,W 0 m σ H1)/\∀ i m σ H,W i m σ H ->
 (J.stop i H/\D.nx σ H)\/(J.go i H/\∃ N:St->Hp->Prop,(∀ σ' H',N σ' H'->∃ m',m'<m/\W (i+1) m' σ' H')/\∀ x H',J.yld i H x H'->g x σ H' fun σ2 H2=>tb { D with nx:=N,ct:=N,bk:=D.nx } σ2 H2)
def qw (fp:List Addr) (h:Heap):List (Addr × Obj):=fp.filterMap fun b=>(h.get? b).map fun o=>(b,o)
theorem iJ {fp:List Addr} {h:Heap} {b:Addr} {o:Obj} (hb:b∈fp) (e:h.get? b=some o):(b,o)∈qw fp h:=List.mem_filterMap.mpr ⟨b,hb,by rw [e];rfl⟩
theorem Hf {fp:List Addr} {h:Heap} {p:Addr × Obj} (hp:p∈qw fp h):p.1∈fp/\h.get? p.1=some p.2:=by
 obtain ⟨b,hb,e⟩:=List.mem_filterMap.mp hp;cases q:h.get? b with
 | none=>rw [q] at e;cases e
 | some o =>
   rw [q] at e;have e':(b,o)=p:=Option.some.inj e;subst e';exact ⟨hb,q⟩
theorem Inv.pinned {pins:List (Addr × Obj)} {σ:St} {H:Hp} {s:Shared} {fp:List Addr} (I:Inv X pins σ H s) (hf:∀ b∈fp,jq X pins H b) (ho:∀ b∈fp,∃ o,s.heap.get? b=some o/\∀ v,o.data≠.cell v):Inv X (pins++qw fp s.heap) σ H s :=
 I.pins_of fun p hp=>(List.mem_append.mp hp).elim (fun z=>I.pin p (List.mem_append_right _ z)) fun z=>by
   obtain ⟨hb,e⟩:=Hf z;obtain ⟨f0,f1,f2,_⟩:=hf p.1 hb;obtain ⟨o,e',d⟩:=ho p.1 hb;rw [e] at e';cases e';exact ⟨e,f0,f1,f2,d⟩
theorem Inv.unpinned {pins pl:List (Addr × Obj)} {σ:St} {H:Hp} {s:Shared} (I:Inv X (pins++pl) σ H s):Inv X pins σ H s:=I.pins_of fun p hp=>I.pin p (List.mem_append_right _ (List.mem_append_left _ hp))
theorem eK {iter:Expr} {body:List Stmt} {wi:TI} {g:TG} {tb:TS} {pos:Pos} (hp:PassesOwn (model X.prog X.w) X.A X.env X.xe) (hc:X.calm=true) (hi:PI X tg iter wi) (hg:PG X tg g) (hb:PSs X body tb)
   (hs:∀ x,foldedSetIterable iter X.env x=pure x:=by intro _;rfl):PS X (.For tg iter body [] pos) (Og wi g tb):=by
 intro pins s σ H D I h;refine wpAny_For (thn (hi pins s σ H _ I h) fun v s1 h1=>thn h1 fun itv s2 h2=>?_) hs;obtain ⟨it,fp,tn,J,H2,e,I2,T,st2,f2,W,⟨m0,w0⟩,turn⟩:=h2;subst e;have stat:∀ {H':Hp},(∀ b∈fp,H' b=none)->∀ b∈fp,jq X pins H' b:=fun hn b hb=>⟨hn b hb,(f2 b hb).2⟩;refine codeAny_forLoop_any (fun n s'=>∃ i σ' H',Inv X pins σ' H' s'/\tn i s'.heap/\(∀ b∈fp,H' b=none)/\W i n σ' H') ?_ m0 ⟨0,σ,H2,I2,st2,fun b hb=>(f2 b hb).1,w0⟩;rintro n s3 ⟨i,σ3,H3,I3,st3,fr3,w3⟩;rcases turn i n σ3 H3 w3 with ⟨stop,qn⟩|⟨go,N,hN,step⟩
 . refine wpAny_passesOwn hp (thn (T.done X rfl rfl rfl hc i pins s3 σ3 H3 X.xe I3 (stat fr3) st3 stop) fun r s4 ⟨hr,I4⟩=>?_);subst hr;exact wpAny_execs_nil ⟨σ3,H3,I4,qn⟩
 . refine wpAny_passesOwn hp (thn (T.item X rfl rfl rfl hc i pins s3 σ3 H3 X.xe I3 (stat fr3) st3 go) fun r s4 ⟨u,hr,h4⟩=>?_);subst hr;refine wpAny_passesOwn hp (thn h4 fun _ s5 ⟨x,H5,I5,r5,y5,st5,fr5⟩=>?_);have I5':=I5.pinned (stat fr5) (T.obj _ _ st5);refine wpAny_passesOwn hp (thn (hg _ s5 σ3 H5 x u _ I5' r5 (step x H5 y5)) fun _ s6 ⟨σ6,H6,I6,q6⟩=>?_);refine wpAny_passesOwn hp (thn (hb _ s6 σ6 H6 _ I6 q6) fun f s7 q7=>?_);have again:∀ {σ7:St} {H7:Hp},Inv X (pins++qw fp s5.heap) σ7 H7 s7->N σ7 H7->∃ m,m<n/\∃ i σ' H',Inv X pins σ' H' s7/\tn i s7.heap/\(∀ b∈fp,H' b=none)/\W i m σ' H':=fun {σ7 H7} I7 n7=>by
     obtain ⟨m',hm,w7⟩:=hN σ7 H7 n7;refine ⟨m',hm,i+1,σ7,H7,I7.unpinned,T.keep _ _ _ st5 fun b hb o e=>(I7.pin (b,o) (List.mem_append_right _ (List.mem_append_right _ (iJ hb e)))).1,fun b hb=>?_,w7⟩;obtain ⟨o,e,d⟩:=T.obj _ _ st5 b hb;exact (I7.pin (b,o) (List.mem_append_right _ (List.mem_append_right _ (iJ hb e)))).2.1
   cases f with
   | next=>obtain ⟨σ7,H7,I7,n7⟩:=q7;exact again I7 n7
   | cont=>obtain ⟨σ7,H7,I7,n7⟩:=q7;exact again I7 n7
   | brk=>obtain ⟨σ7,H7,I7,q7⟩:=q7;exact ⟨σ7,H7,I7.unpinned,q7⟩
   | ret v=>obtain ⟨x7,σ7,H7,I7,r7,q7⟩:=q7;exact ⟨x7,σ7,H7,I7.unpinned,r7,q7⟩
end
theorem K5 {K:PySem.W.Frag} {a:Addr} {xs:List V} {g:TG} {tb:TS} {D:Ends} {σ:St} {H:Hp} (Pv:Nat->St->Hp->Prop) (h0:Pv 0 σ H) (hl:∀ i σ H,i<=xs.length->Pv i σ H->SqL K H a xs)
   (hs:∀ i x σ H,xs[i]?=some x->Pv i σ H->g x σ H fun σ2 H2=>tb { D with nx:=Pv (i+1),ct:=Pv (i+1),bk:=D.nx } σ2 H2) (hd:∀ σ H,Pv xs.length σ H->D.nx σ H) :
   ∃ W:Nat->Nat->St->Hp->Prop,(∃ m,W 0 m σ H)/\∀ i m σ H,W i m σ H ->
     ((Itl K a).stop i H/\D.nx σ H)\/((Itl K a).go i H/\∃ N:St->Hp->Prop,(∀ σ' H',N σ' H'->∃ m',m'<m/\W (i+1) m' σ' H')/\∀ x H',(Itl K a).yld i H x H'->g x σ H' fun σ2 H2=>tb { D with nx:=N,ct:=N,bk:=D.nx } σ2 H2):=by
 refine ⟨fun i m σ H=>m=xs.length - i/\i<=xs.length/\Pv i σ H,⟨xs.length,by simp,Nat.zero_le _,h0⟩,?_⟩;rintro i m σ H ⟨rfl,hi,p⟩;have q:=hl i σ H hi p;by_cases hlt:i<xs.length
 . refine .inr ⟨⟨xs,xs[i],q,by simp [hlt]⟩,Pv (i+1),fun σ' H' p'=>⟨xs.length - (i+1),by omega,rfl,hlt,p'⟩,fun x H' y=>?_⟩;obtain ⟨e,y⟩:=y;subst e;exact hs i x σ _ (y xs q) p
 . have e:i=xs.length:=by omega
   subst e;exact .inl ⟨⟨xs,q,Nat.le_refl _⟩,hd σ H p⟩
theorem zZ {K:PySem.W.Frag} {a:Addr} {xs:List V} {g:TG} {tb:TS} {D:Ends} {σ:St} {H:Hp} (Pv:Nat->St->Hp->Prop) (h0:Pv 0 σ H) (hl:∀ i σ H,i<=xs.length->Pv i σ H->SqT K H a xs)
   (hs:∀ i x σ H,xs[i]?=some x->Pv i σ H->g x σ H fun σ2 H2=>tb { D with nx:=Pv (i+1),ct:=Pv (i+1),bk:=D.nx } σ2 H2) (hd:∀ σ H,Pv xs.length σ H->D.nx σ H) :
   ∃ W:Nat->Nat->St->Hp->Prop,(∃ m,W 0 m σ H)/\∀ i m σ H,W i m σ H ->
     ((Itt K a).stop i H/\D.nx σ H)\/((Itt K a).go i H/\∃ N:St->Hp->Prop,(∀ σ' H',N σ' H'->∃ m',m'<m/\W (i+1) m' σ' H')/\∀ x H',(Itt K a).yld i H x H'->g x σ H' fun σ2 H2=>tb { D with nx:=N,ct:=N,bk:=D.nx } σ2 H2):=by
 refine ⟨fun i m σ H=>m=xs.length - i/\i<=xs.length/\Pv i σ H,⟨xs.length,by simp,Nat.zero_le _,h0⟩,?_⟩;rintro i m σ H ⟨rfl,hi,p⟩;have q:=hl i σ H hi p;by_cases hlt:i<xs.length
 . refine .inr ⟨⟨xs,xs[i],q,by simp [hlt]⟩,Pv (i+1),fun σ' H' p'=>⟨xs.length - (i+1),by omega,rfl,hlt,p'⟩,fun x H' y=>?_⟩;obtain ⟨e,y⟩:=y;subst e;exact hs i x σ _ (y xs q) p
 . have e:i=xs.length:=by omega
   subst e;exact .inl ⟨⟨xs,q,Nat.le_refl _⟩,hd σ H p⟩
theorem Hh {lo:Int} {n:Nat} {g:TG} {tb:TS} {D:Ends} {σ:St} {H:Hp} (Pv:Nat->St->Hp->Prop) (h0:Pv 0 σ H)
   (hs:∀ i σ H,i<n->Pv i σ H->g (.int (lo+i)) σ H fun σ2 H2=>tb { D with nx:=Pv (i+1),ct:=Pv (i+1),bk:=D.nx } σ2 H2) (hd:∀ σ H,Pv n σ H->D.nx σ H) :
   ∃ W:Nat->Nat->St->Hp->Prop,(∃ m,W 0 m σ H)/\∀ i m σ H,W i m σ H ->
     ((Itr lo n).stop i H/\D.nx σ H)\/((Itr lo n).go i H/\∃ N:St->Hp->Prop,(∀ σ' H',N σ' H'->∃ m',m'<m/\W (i+1) m' σ' H')/\∀ x H',(Itr lo n).yld i H x H'->g x σ H' fun σ2 H2=>tb { D with nx:=N,ct:=N,bk:=D.nx } σ2 H2):=by
 refine ⟨fun i m σ H=>m=n - i/\i<=n/\Pv i σ H,⟨n,by simp,Nat.zero_le _,h0⟩,?_⟩;rintro i m σ H ⟨rfl,hi,p⟩;by_cases hlt:i<n
 . refine .inr ⟨hlt,Pv (i+1),fun σ' H' p'=>⟨n - (i+1),by omega,rfl,hlt,p'⟩,fun x H' y=>?_⟩;obtain ⟨e,y⟩:=y;subst e y;exact hs i σ _ hlt p
 . have e:i=n:=by omega
   subst e;exact .inl ⟨Nat.le_refl _,hd σ H p⟩
end L2
namespace L2
open PySem PySem.Spec PyProof.Rows
abbrev R2:=V->V->Hp->VK->Prop
def OpR (X:Cx) (f:Value->Value->Sem Value) (r:R2):Prop :=
 ∀ (pins:List (Addr × Obj)) (s:Shared) (σ:St) (H:Hp) (x y:V) (v u:Value) (Q:VK),Inv X pins σ H s->RelV x v->RelV y u->r x y H Q ->
   wpAny (model X.prog X.w) X.A (f v u) (EP X pins σ Q) X.xe s
def UnR (X:Cx) (f:Value->Sem Value) (r:V->Hp->VK->Prop):Prop :=
 ∀ (pins:List (Addr × Obj)) (s:Shared) (σ:St) (H:Hp) (x:V) (v:Value) (Q:VK),Inv X pins σ H s->RelV x v->r x H Q ->
   wpAny (model X.prog X.w) X.A (f v) (EP X pins σ Q) X.xe s
def fD (X:Cx) (f:Value) (r:List V->Hp->VK->Prop):Prop :=
 ∀ (pins:List (Addr × Obj)) (s:Shared) (σ:St) (H:Hp) (xs:List V) (us:List Value) (Q:VK),Inv X pins σ H s->Vals xs us->r xs H Q ->
   wpAny (model X.prog X.w) X.A (call f us) (EP X pins σ Q) X.xe s
def ON (X:Cx) (r:V->Hp->(Bool->Hp->Prop)->Prop):Prop :=
 ∀ (pins:List (Addr × Obj)) (s:Shared) (σ:St) (H:Hp) (x:V) (v:Value) (Q:Bool->Hp->Prop),Inv X pins σ H s->RelV x v->r x H Q ->
   wpAny (model X.prog X.w) X.A (truthy v) (TP X pins σ Q) X.xe s
def tOp (r:R2) (ta tb:TE):TE:=fun σ H Q=>ta σ H fun x H1=>tb σ H1 fun y H2=>r x y H2 Q
def tUn (r:V->Hp->VK->Prop) (ta:TE):TE:=fun σ H Q=>ta σ H fun x H1=>r x H1 Q
def rI (C:Int->Int->Prop) (g:Int->Int->V):R2:=fun x y H Q=>∃ i j,x=.int i/\y=.int j/\C i j/\Q (g i j) H
def rI0 (g:Int->Int->V):R2:=fun x y H Q=>∃ i j,x=.int i/\y=.int j/\Q (g i j) H
def rU (g:Int->V):V->Hp->VK->Prop:=fun x H Q=>∃ i,x=.int i/\Q (g i) H
section
variable {X:Cx} {a b c:Expr} {ta tb tc:TE} {pos:Pos}
theorem K6 (ha:PE X a ta) (hb:PE X b tb) {pins:List (Addr × Obj)} {s:Shared} {σ:St} {H:Hp} {R:V->V->Hp->Prop} (I:Inv X pins σ H s)
   (h:ta σ H fun x H1=>tb σ H1 fun y H2=>R x y H2) {Q:Value->Shared->Prop} {f:Value->Value->Sem Value}
   (hf:∀ v u s2 x y H2,Inv X pins σ H2 s2->RelV x v->RelV y u->R x y H2->wpAny (model X.prog X.w) X.A (f v u) Q X.xe s2) :
   wpAny (model X.prog X.w) X.A (eval a X.env) (fun v s₁=>wpAny (model X.prog X.w) X.A (eval b X.env) (fun u s₂=>wpAny (model X.prog X.w) X.A (f v u) Q X.xe s₂) X.xe s₁) X.xe s:=by
 refine bF (ha pins s σ H _ I h) fun v s1 x H1 I1 r1 q1=>?_;refine bF (hb pins s1 σ H1 _ I1 q1) fun u s2 y H2 I2 r2 q2=>?_;exact hf v u s2 x y H2 I2 r1 r2 q2
theorem au {op:Operator} {r:R2} (ho:OpR X (binaryOp op) r) (ha:PE X a ta) (hb:PE X b tb):PE X (.BinOp a op b pos) (tOp r ta tb):=by
 intro pins s σ H Q I h;exact wpAny_BinOp (K6 ha hb I h fun v u s2 x y H2 I2 rx ry q=>ho pins s2 σ H2 x y v u Q I2 rx ry q)
theorem yi {op:UnaryOp} {r:V->Hp->VK->Prop} (ho:UnR X (unaryOp op) r) (ha:PE X a ta):PE X (.UnaryOp op a pos) (tUn r ta):=by
 intro pins s σ H Q I h;exact UnaryOp_ (bF (ha pins s σ H _ I h) fun v s1 x H1 I1 r1 q1=>ho pins s1 σ H1 x v Q I1 r1 q1)
theorem opI {f:Value->Value->Sem Value} {C:Int->Int->Prop} {g:Int->Int->Int}
   (rule:∀ (i j:Int) (t u:Tok) (s:Shared) (Q:Value->Shared->Prop) (E:Value->Shared->Prop),C i j->Q (.int (g i j) s.toks) { s with toks:=s.toks+1 }->wpAny (model X.prog X.w) X.A (f (.int i t) (.int j u)) Q E s) :
   OpR X f (rI C fun i j=>.int (g i j)):=by
 intro pins s σ H x y v u Q I rx ry h;obtain ⟨i,j,rfl,rfl,hc,q⟩:=h;obtain ⟨t,rfl⟩:=rx;obtain ⟨t',rfl⟩:=ry;exact rule i j t t' s _ _ hc ⟨.int (g i j),H,I.tok _,⟨_,rfl⟩,q⟩
theorem N6 {f:Value->Value->Sem Value} {g:Int->Int->Int}
   (rule:∀ (i j:Int) (t u:Tok) (s:Shared) (Q:Value->Shared->Prop) (E:Value->Shared->Prop),Q (.int (g i j) s.toks) { s with toks:=s.toks+1 }->wpAny (model X.prog X.w) X.A (f (.int i t) (.int j u)) Q E s) :
   OpR X f (rI0 fun i j=>.int (g i j)):=by
 intro pins s σ H x y v u Q I rx ry h;obtain ⟨i,j,rfl,rfl,q⟩:=h;obtain ⟨t,rfl⟩:=rx;obtain ⟨t',rfl⟩:=ry;exact rule i j t t' s _ _ ⟨.int (g i j),H,I.tok _,⟨_,rfl⟩,q⟩
theorem Gf {f:Value->Value->Sem Value} {g:Int->Int->Bool}
   (rule:∀ (i j:Int) (t u:Tok) (s:Shared) (Q:Value->Shared->Prop) (E:Value->Shared->Prop),Q (.bool (g i j)) s->wpAny (model X.prog X.w) X.A (f (.int i t) (.int j u)) Q E s) :
   OpR X f (rI0 fun i j=>.bl (g i j)):=by
 intro pins s σ H x y v u Q I rx ry h;obtain ⟨i,j,rfl,rfl,q⟩:=h;obtain ⟨t,rfl⟩:=rx;obtain ⟨t',rfl⟩:=ry;exact rule i j t t' s _ _ ⟨.bl (g i j),H,I,rfl,q⟩
def Ob (i j:Int):Prop:=0<j/\j<1073741824
def Nw (i j:Int):Prop:=0<=j/\j<=1000000/\i.natAbs<2^64
def CMul (i j:Int):Prop:=(-(2^64)<i/\i<2^64)\/(-(2^64)<j/\j<2^64)
theorem CMul.ok {i j:Int} (h:CMul i j):IntMulOk i j:=by
 rcases h with ⟨h1,h2⟩|⟨h1,h2⟩
 . exact .of_left (intBits_le_64 h1 h2)
 . exact .of_right (intBits_le_64 h1 h2)
theorem eX:OpR X (binaryOp .Add) (rI0 fun i j=>.int (i+j)):=N6 fun _ _ _ _ _ _ _ q=>add_int q
theorem lr:OpR X (binaryOp .Sub) (rI0 fun i j=>.int (i - j)):=N6 fun _ _ _ _ _ _ _ q=>sub_int q
theorem jV:OpR X (binaryOp .Mult) (rI CMul fun i j=>.int (i*j)):=opI fun _ _ _ _ _ _ _ hc q=>mul_int q hc.ok
theorem cq:OpR X (binaryOp .FloorDiv) (rI Ob fun i j=>.int (i / j)):=opI fun i j _ _ _ _ _ hc q=>by
 have h1:(0:Int)<j:=hc.1;have h2:j<1073741824:=hc.2;exact floordiv_int (by omega) (by rw [Int.fdiv_eq_ediv_of_nonneg i (by omega)];exact q) (.inl (PyProof.noPylong_small (by omega)))
theorem aZ:OpR X (binaryOp .Mod) (rI (fun _ j=>0<j) fun i j=>.int (i % j)):=opI fun i j _ _ _ _ _ hc q=>by
 have h1:(0:Int)<j:=hc;exact mod_int' (by omega) (by rw [Int.fmod_eq_emod_of_nonneg i (by omega)];exact q)
theorem ip:OpR X (binaryOp .Pow) (rI Nw fun i j=>.int (i^j.toNat)):=opI fun _ _ _ _ _ _ _ hc q=>pow_int_small hc.1 hc.2.1 hc.2.2 q
theorem unI {f:Value->Sem Value} {g:Int->Int}
   (rule:∀ (i:Int) (t:Tok) (s:Shared) (Q:Value->Shared->Prop) (E:Value->Shared->Prop),Q (.int (g i) s.toks) { s with toks:=s.toks+1 }->wpAny (model X.prog X.w) X.A (f (.int i t)) Q E s) :
   UnR X f (rU fun i=>.int (g i)):=by
 intro pins s σ H x v Q I rx h;obtain ⟨i,rfl,q⟩:=h;obtain ⟨t,rfl⟩:=rx;exact rule i t s _ _ ⟨.int (g i),H,I.tok _,⟨_,rfl⟩,q⟩
theorem u8:UnR X (unaryOp .USub) (rU fun i=>.int (-i)):=unI fun _ _ _ _ _ q=>neg_int q
end
def pG:V->V->Bool
 | .non,.non=>true|.non,.int _=>true|.int _,.non=>true|.non,.bl _=>true|.bl _,.non=>true|.non,.str _=>true|.str _,.non=>true
 | .int _,.int _=>true|.bl _,.bl _=>true|.str _,.str _=>true|.byt _,.byt _=>true
 | .int _,.str _=>true|.str _,.int _=>true|.bl _,.str _=>true|.str _,.bl _=>true
 | _,_=>false
def rEq:R2:=fun x y H Q=>pG x y=true/\Q (.bl (decide (x=y))) H
def rNe:R2:=fun x y H Q=>pG x y=true/\Q (.bl (!decide (x=y))) H
theorem EL {i j:Int}:decide (V.int i=V.int j)=(i == j):=by
 rw [Bool.eq_iff_iff];simp
theorem HD {i j:Bool}:decide (V.bl i=V.bl j)=(i == j):=by
 rw [Bool.eq_iff_iff];simp
theorem EX {i j:Str}:decide (V.str i=V.str j)=(i == j):=by
 rw [Bool.eq_iff_iff];simp
theorem Ev {i j:Array UInt8}:decide (V.byt i=V.byt j)=(i.toList == j.toList):=by
 rw [Bool.eq_iff_iff];cases i;cases j;simp
section
variable {X:Cx} {a b c:Expr} {ta tb tc:TE} {pos:Pos}
theorem br {pins:List (Addr × Obj)} {σ:St} {H:Hp} {s:Shared} {Q:VK} {k k':Bool} (I:Inv X pins σ H s) (q:Q (.bl k) H) (e:k=k'):EP X pins σ Q (.bool k') s:=by
 subst e;exact ⟨.bl k,H,I,rfl,q⟩
theorem cT:OpR X (compareOp .Eq) rEq:=by
 intro pins s σ H x y v u Q I rx ry h;obtain ⟨hs,q⟩:=h;cases x with
 | non =>
   cases rx;cases y with
   | non=>cases ry;exact PySem.EqNone.eq_none_none (br I q (by simp))
   | bl j=>cases ry;exact PySem.EqNone.eq_none_bool (br I q (by simp))
   | int j=>obtain ⟨t',rfl⟩:=ry;exact PySem.EqNone.eq_none_int (br I q (by simp))
   | str j=>obtain ⟨t',rfl⟩:=ry;exact PySem.EqNone.eq_none_str (br I q (by simp))
   | _=>exact absurd (show false=true from hs) Bool.false_ne_true
 | bl i =>
   cases rx;cases y with
   | non=>cases ry;exact PySem.EqNone.eq_bool_none (br I q (by simp))
   | bl j=>cases ry;exact eq_bool (br I q HD)
   | str j=>obtain ⟨t',rfl⟩:=ry;exact PySem.EqMixed.eq_bool_str (br I q (by simp))
   | _=>exact absurd (show false=true from hs) Bool.false_ne_true
 | int i =>
   obtain ⟨t,rfl⟩:=rx;cases y with
   | non=>cases ry;exact PySem.EqNone.eq_int_none (br I q (by simp))
   | int j=>obtain ⟨t',rfl⟩:=ry;exact eq_int (br I q EL)
   | str j=>obtain ⟨t',rfl⟩:=ry;exact PySem.EqMixed.eq_int_str (br I q (by simp))
   | _=>exact absurd (show false=true from hs) Bool.false_ne_true
 | str i =>
   obtain ⟨t,rfl⟩:=rx;cases y with
   | non=>cases ry;exact PySem.EqNone.eq_str_none (br I q (by simp))
   | bl j=>cases ry;exact PySem.EqMixed.eq_str_bool (br I q (by simp))
   | int j=>obtain ⟨t',rfl⟩:=ry;exact PySem.EqMixed.eq_str_int (br I q (by simp))
   | str j=>obtain ⟨t',rfl⟩:=ry;exact eq_str (br I q EX)
   | _=>exact absurd (show false=true from hs) Bool.false_ne_true
 | byt i =>
   obtain ⟨t,rfl⟩:=rx;cases y with
   | byt j=>obtain ⟨t',rfl⟩:=ry;exact PySem.W.eq_bytes (br I q Ev)
   | _=>exact absurd (show false=true from hs) Bool.false_ne_true
 | _=>cases y <;> exact absurd (show false=true from hs) Bool.false_ne_true
theorem xW:OpR X (compareOp .NotEq) rNe:=by
 intro pins s σ H x y v u Q I rx ry h;obtain ⟨hs,q⟩:=h;cases x with
 | non =>
   cases rx;cases y with
   | non=>cases ry;exact PySem.EqNone.ne_none_none (br I q (by simp))
   | bl j=>cases ry;exact PySem.EqNone.ne_none_bool (br I q (by simp))
   | int j=>obtain ⟨t',rfl⟩:=ry;exact PySem.EqNone.ne_none_int (br I q (by simp))
   | str j=>obtain ⟨t',rfl⟩:=ry;exact PySem.EqNone.ne_none_str (br I q (by simp))
   | _=>exact absurd (show false=true from hs) Bool.false_ne_true
 | bl i =>
   cases rx;cases y with
   | non=>cases ry;exact PySem.EqNone.ne_bool_none (br I q (by simp))
   | bl j=>cases ry;exact ne_bool (br I q (congrArg not HD))
   | str j=>obtain ⟨t',rfl⟩:=ry;exact PySem.EqMixed.ne_bool_str (br I q (by simp))
   | _=>exact absurd (show false=true from hs) Bool.false_ne_true
 | int i =>
   obtain ⟨t,rfl⟩:=rx;cases y with
   | non=>cases ry;exact PySem.EqNone.ne_int_none (br I q (by simp))
   | int j=>obtain ⟨t',rfl⟩:=ry;exact ne_int (br I q (congrArg not EL))
   | str j=>obtain ⟨t',rfl⟩:=ry;exact PySem.EqMixed.ne_int_str (br I q (by simp))
   | _=>exact absurd (show false=true from hs) Bool.false_ne_true
 | str i =>
   obtain ⟨t,rfl⟩:=rx;cases y with
   | non=>cases ry;exact PySem.EqNone.ne_str_none (br I q (by simp))
   | bl j=>cases ry;exact PySem.EqMixed.ne_str_bool (br I q (by simp))
   | int j=>obtain ⟨t',rfl⟩:=ry;exact PySem.EqMixed.ne_str_int (br I q (by simp))
   | str j=>obtain ⟨t',rfl⟩:=ry;exact ne_str (br I q (congrArg not EX))
   | _=>exact absurd (show false=true from hs) Bool.false_ne_true
 | byt i =>
   obtain ⟨t,rfl⟩:=rx;cases y with
   | byt j=>obtain ⟨t',rfl⟩:=ry;exact PySem.W.ne_bytes (br I q (congrArg not Ev))
   | _=>exact absurd (show false=true from hs) Bool.false_ne_true
 | _=>cases y <;> exact absurd (show false=true from hs) Bool.false_ne_true
theorem LJ:OpR X (compareOp .Lt) (rI0 fun i j=>.bl (decide (i<j))):=Gf fun _ _ _ _ _ _ _ q=>lt_int q
theorem yY:OpR X (compareOp .LtE) (rI0 fun i j=>.bl (decide (i<=j))):=Gf fun _ _ _ _ _ _ _ q=>le_int q
theorem Br:OpR X (compareOp .Gt) (rI0 fun i j=>.bl (decide (j<i))):=Gf fun _ _ _ _ _ _ _ q=>gt_int q
theorem OA:OpR X (compareOp .GtE) (rI0 fun i j=>.bl (decide (j<=i))):=Gf fun _ _ _ _ _ _ _ q=>ge_int q
theorem aN (b:Expr) {op:CmpOp} (h:op≠.In:=by decide) (h2:op≠.NotIn:=by decide):behindInMarks op b=false:=by
 have e1:(op == CmpOp.In)=false:=by cases op <;> first|rfl|exact absurd rfl h
 have e2:(op == CmpOp.NotIn)=false:=by cases op <;> first|rfl|exact absurd rfl h2
 cases b <;> simp [behindInMarks,e1,e2]
theorem wc {op:CmpOp} {r:R2} (ho:OpR X (compareOp op) r) (ha:PE X a ta) (hb:PE X b tb) (hm:behindInMarks op b=false):PE X (.Compare a [op] [b] pos) (tOp r ta tb):=by
 intro pins s σ H Q I h;exact wpAny_Compare1 (K6 ha hb I h fun v u s2 x y H2 I2 rx ry q=>ho pins s2 σ H2 x y v u Q I2 rx ry q) hm
def Bt (t:TE):TT:=fun σ H Q=>t σ H fun x H'=>∃ k,x=.bl k/\Q k H'
theorem aJ {op:CmpOp} {r:R2} (ho:OpR X (compareOp op) r) (ha:PE X a ta) (hb:PE X b tb) (hm:behindInMarks op b=false):PT X (.Compare a [op] [b] pos) (Bt (tOp r ta tb)):=by
 intro pins s σ H Q I h;refine wpAny_isTrue_Compare1 (bF (ha pins s σ H _ I h) fun v s1 x H1 I1 r1 q1=>bF (hb pins s1 σ H1 _ I1 q1) fun u s2 y H2 I2 r2 q2 =>
   bF (ho pins s2 σ H2 x y v u _ I2 r1 r2 q2) fun c s3 z H3 I3 r3 ⟨k,e,q3⟩=>?_) hm
 subst e;cases r3;exact wpAny_truthy_bool ⟨H3,I3,q3⟩
def yH (r r':R2) (ta tb tc:TE):TE:=fun σ H Q=>ta σ H fun x H1=>tb σ H1 fun y H2=>r x y H2 fun z H3=>∃ k,z=.bl k /\
 (if k=true then tc σ H3 fun w' H4=>r' y w' H4 Q else Q (.bl false) H3)
theorem JC {op op':CmpOp} {r r':R2} (ho:OpR X (compareOp op) r) (ho':OpR X (compareOp op') r') (ha:PE X a ta) (hb:PE X b tb) (hc:PE X c tc)
   (hm:lastMarks [op,op'] [b,c]=false:=by with_unfolding_all rfl):PE X (.Compare a [op,op'] [b,c] pos) (yH r r' ta tb tc):=by
 intro pins s σ H Q I h;refine Compare_chain (bF (ha pins s σ H _ I h) fun v s1 x H1 I1 r1 q1=>chain_link (bF (hb pins s1 σ H1 _ I1 q1) fun u s2 y H2 I2 r2 q2 =>
   bF (ho pins s2 σ H2 x y v u _ I2 r1 r2 q2) fun d s3 z H3 I3 r3 ⟨k,e,q3⟩=>?_)) hm
 subst e;cases r3;refine wpAny_truthy_bool ?_;cases k with
 | false=>exact ite_ff ⟨.bl false,H3,I3,rfl,q3⟩
 | true=>exact ite_tt (chain_last (thn (hc pins s3 σ H3 _ I3 q3) fun w' s4 ⟨z',H4,I4,r4,q4⟩=>ho' pins s4 σ H4 y z' u w' Q I4 r2 r4 q4))
theorem C2 {op op':CmpOp} {r r':R2} (ho:OpR X (compareOp op) r) (ho':OpR X (compareOp op') r') (ha:PE X a ta) (hb:PE X b tb) (hc:PE X c tc)
   (hm:lastMarks [op,op'] [b,c]=false:=by with_unfolding_all rfl):PT X (.Compare a [op,op'] [b,c] pos) (Bt (yH r r' ta tb tc)):=by
 intro pins s σ H Q I h;refine isTrue_chain (bF (ha pins s σ H _ I h) fun v s1 x H1 I1 r1 q1=>test_link (bF (hb pins s1 σ H1 _ I1 q1) fun u s2 y H2 I2 r2 q2 =>
   bF (ho pins s2 σ H2 x y v u _ I2 r1 r2 q2) fun d s3 z H3 I3 r3 ⟨k,e,q3⟩=>?_)) hm
 subst e;cases r3;refine wpAny_truthy_bool ?_;cases k with
 | false =>
   obtain ⟨k',e',q'⟩:=q3;cases e';exact ite_ff ⟨H3,I3,q'⟩
 | true =>
   refine ite_tt (test_last (thn (hc pins s3 σ H3 _ I3 q3) fun w' s4 ⟨z',H4,I4,r4,q4⟩=>thn (ho' pins s4 σ H4 y z' u w' _ I4 r2 r4 q4) fun d' s5 ⟨z2,H5,I5,r5,k2,e2,q5⟩=>?_));subst e2;cases r5;exact wpAny_truthy_bool ⟨H5,I5,q5⟩
def Nx (K:PySem.W.Frag) (x:V) (H:Hp) (k:Bool):Prop :=
 match x with
 | .non=>k=false
 | .bl b=>k=b
 | .int i=>k=(i != 0)
 | .str y=>y.length<=sizeLine/\k=((y.length:Int) != 0)
 | .byt y=>y.size<=sizeLine/\k=((y.size:Int) != 0)
 | .ref p=>(∃ xs,SqL K H p xs/\k=!xs.isEmpty)\/(∃ xs,SqT K H p xs/\k=!xs.isEmpty)\/∃ kvs,H p=some (.dK kvs)/\k=!kvs.isEmpty
 | _=>False
theorem Fk {κ:Type} {kvs:List (κ × V)} {vs:List (κ × Value)} (r:KV kvs vs):(!vs.isEmpty)=!kvs.isEmpty:=by
 cases r <;> rfl
theorem yI {xs:List V} {its:List Value} (r:Vals xs its):(!its.toArray.isEmpty)=!xs.isEmpty:=by
 cases r <;> simp
theorem om:(sizeLine:Nat)<2^63:=by rw [sizeLine_eq];decide
theorem MZ:ON X (fun x H Q=>∃ k,Nx X.K x H k/\Q k H):=by
 intro pins s σ H x v Q I rx h;obtain ⟨k,e,q⟩:=h;have hl:=om;have hs:sizeLine=16777216:=sizeLine_eq;cases x with
 | non =>
   cases rx;have e':k=false:=e;subst e';exact truthy_none ⟨H,I,q⟩
 | bl b =>
   cases rx;have e':k=b:=e;subst e';exact wpAny_truthy_bool ⟨H,I,q⟩
 | int i =>
   obtain ⟨t,rfl⟩:=rx;have e':k=(i != 0):=e;subst e';exact PySem.P.truthy_int ⟨H,I,q⟩
 | str y =>
   obtain ⟨t,rfl⟩:=rx;obtain ⟨hy,e'⟩:y.length<=sizeLine/\k=((y.length:Int) != 0):=e;subst e';exact PySem.P.truthy_str (by omega) ⟨H,I.tok _,q⟩
 | byt y =>
   obtain ⟨t,rfl⟩:=rx;obtain ⟨hy,e'⟩:y.size<=sizeLine/\k=((y.size:Int) != 0):=e;subst e';exact PySem.W.truthy_bytes (by omega) ⟨H,I.tok _,q⟩
 | ref p =>
   cases rx;have e':(∃ xs,SqL X.K H p xs/\k=!xs.isEmpty)\/(∃ xs,SqT X.K H p xs/\k=!xs.isEmpty)\/∃ kvs,H p=some (.dK kvs)/\k=!kvs.isEmpty:=e;rcases e' with ⟨xs,hx,e'⟩|⟨xs,hx,e'⟩|⟨kvs,hx,e'⟩
   . subst e';obtain ⟨its,r,pl,hz⟩:=I.list hx;have hlen:=r.length;exact wpAny_truthy_list pl.isList (by simp only [List.size_toArray];omega) ⟨H,I.tok _,by rw [yI r];exact q⟩
   . subst e';obtain ⟨its,r,pl,hz⟩:=I.tuple hx;have hlen:=r.length;exact truthy_tuple pl (by simp only [List.size_toArray];omega) ⟨H,I.tok _,by rw [yI r];exact q⟩
   . subst e';obtain ⟨hz,hS,vs,r,m⟩:kvs.length<=sizeLine/\(p == sysModules)=false/\∃ vs,KV kvs vs/\s.heap.DictOf (da X.prog X.w) p vs:=I.hok p _ hx;have hlen:kvs.length=vs.length:=Paired.length r;exact wpAny_truthy_dict hS m (by omega) ⟨H,I.tok _,by rw [Fk r];exact q⟩
 | _=>exact (show False from e).elim
theorem xk (ha:PE X a ta) (he:∀ whole,isTrue a X.env whole=(do let v <- whole;standAt a.pos;holding [v] (truthy v))) :
   PT X a (fun σ H Q=>ta σ H fun x H'=>∃ k,Nx X.K x H' k/\Q k H'):=by
 intro pins s σ H Q I h;exact isTrue_plain (bF (ha pins s σ H _ I h) fun v s1 x H1 I1 r1 q1=>MZ pins s1 σ H1 x v Q I1 r1 q1) (he _)
theorem sk {x:V} {us:List Value} (r:Vals [x] us):∃ u,us=[u]/\RelV x u:=by
 cases r with
 | cons r1 r2=>cases r2;exact ⟨_,rfl,r1⟩
theorem xX {x y:V} {us:List Value} (r:Vals [x,y] us):∃ u w',us=[u,w']/\RelV x u/\RelV y w':=by
 cases r with
 | cons r1 r2 =>
   cases r2 with
   | cons r3 r4=>cases r4;exact ⟨_,_,rfl,r1,r3⟩
theorem HG (hc:X.calm=true):fD X (.builtin "max") (fun xs H Q=>∃ i j,xs=[.int i,.int j]/\Q (.int (if j > i then j else i)) H):=by
 intro pins s σ H xs us Q I r h;obtain ⟨i,j,rfl,q⟩:=h;obtain ⟨u,w',rfl,⟨t,rfl⟩,⟨t',rfl⟩⟩:=xX r;refine max_two_ints (I.ok.hd hc) fun h' tk k=>⟨_,H,I.kept k,?_,q⟩;by_cases hj:j > i
 . rw [if_pos hj,if_pos hj];exact ⟨_,rfl⟩
 . rw [if_neg hj,if_neg hj];exact ⟨_,rfl⟩
theorem HC (hc:X.calm=true):fD X (.builtin "min") (fun xs H Q=>∃ i j,xs=[.int i,.int j]/\Q (.int (if j<i then j else i)) H):=by
 intro pins s σ H xs us Q I r h;obtain ⟨i,j,rfl,q⟩:=h;obtain ⟨u,w',rfl,⟨t,rfl⟩,⟨t',rfl⟩⟩:=xX r;refine min_two_ints (I.ok.hd hc) fun h' tk k=>⟨_,H,I.kept k,?_,q⟩;by_cases hj:j<i
 . rw [if_pos hj,if_pos hj];exact ⟨_,rfl⟩
 . rw [if_neg hj,if_neg hj];exact ⟨_,rfl⟩
end
end L2
namespace L2
open PySem PySem.Spec PyProof.Rows
structure ObjM (h:Heap) (x dx C:Addr) (mA:Str->Option Value):Prop where
 obj:h.get? x=some (PySem.W.instObj C dx)
 ns:h.Ns1 dx mA
 ne:dx≠x
theorem G1 {h:Heap} {dx:Addr} {mA:Str->Option Value} (n:h.Ns1 dx mA):∃ od,h.get? dx=some od/\∀ name,PySem.W.lookIn name od=some (mA name):=by
 obtain ⟨o,es,ep,ho,hd,hk,_,hm⟩:=n;refine ⟨o,ho,fun name=>?_⟩;have e:=hm name;unfold nsFind findBy at e;rw [<- Array.find?_toList] at e;unfold PySem.W.lookIn;rw [hd];dsimp only;split
 . rename_i y q
   rw [q] at e;exact congrArg some e
 . rename_i q
   rw [q] at e;have a:es.toList.any (·.refKey)=false:=by
     rw [List.any_eq_false];intro y hy;obtain ⟨z,t,hkey⟩:=hk y (Array.mem_toList_iff.mp hy);simp [DictEntry.refKey,hkey]
   have a':¬ es.toList.any (·.refKey)=true:=by rw [a];exact Bool.false_ne_true
   rw [if_neg a'];exact congrArg some e
theorem ObjM.look {h:Heap} {x dx C:Addr} {mA:Str->Option Value} (I:ObjM h x dx C mA):∃ od,PySem.W.InstAt h x (PySem.W.instObj C dx) C (some od)/\∀ name,PySem.W.lookIn name od=some (mA name) :=
 let ⟨od,ho,hl⟩:=G1 I.ns
 ⟨od,⟨I.obj,rfl,rfl,ho⟩,hl⟩
section
variable {prog:Program} {w:World} {A:Around} {E:Value->Shared->Prop} {s:Shared} {K:PySem.W.Frag} {x dx C f:Addr} {mA:Str->Option Value} {name:Str} {v:Value}
theorem L7 {expr:Bool} {Q:Value->Shared->Prop} (X:K.In s.heap) (I:ObjM s.heap x dx C mA) (hg:PySem.W.plainGet K C name=true) (hh:PySem.W.hasDictIn K C=true)
   (ha:PySem.W.findIn K (.ref C) name=some none) (hv:mA name=some v) (hv':PySem.W.handedIn v=true) (h:Q v { s with toks:=s.toks+1 }) :
   wpAny (model prog w) A (getAttr (.ref x) name expr) Q E s:=by
 obtain ⟨od,J,hl⟩:=I.look;exact PySem.W.get_value X J (PySem.W.plainGet_of hg).1 (PySem.W.findObj_own hh ha rfl (by rw [hl,hv])) hv' h
theorem Mn {ns:List Str} {Q:Unit->Shared->Prop} (X:K.In s.heap) (I:ObjM s.heap x dx C mA)
   (hs:PySem.W.findIn K (.ref C) "__setattr__"=some (some (.builtin "object.__setattr__"))) (hp:PySem.W.plainOver K C=true) (ht:PySem.W.takerIn K C name=some none) (hh:PySem.W.hasDictIn K C=true)
   (hw:PySem.Within mA ns) (hsz:ns.length<=sizeLine)
   (h:∀ h',ObjM h' x dx C (fun y=>if y=name then some v else mA y)->Heap.SameBut dx s.heap h'->Q () { s with heap:=h',toks:=s.toks+2 }) :
   wpAny (model prog w) A (setAttr (.ref x) name v) Q E s:=by
 obtain ⟨od,J,hl⟩:=I.look;refine PySem.W.set_plain X J hs (PySem.W.osa_open (s:={ s with toks:=s.toks+1 }) (r:=none) X J hp ht fun b=>?_);obtain ⟨cd,hc,hd'⟩:=PySem.W.any_some hh;have hx:s.heap.get? x=some ⟨.ref C,some dx,.plain,#[]⟩:=I.obj;refine wpAny_bind (wpAny_pure (wpAny_bind (wpAny_bind (wpAny_loadPart hx (wpAny_bind (PySem.W.Looks.here (s:={ s with toks:=s.toks+1 }) (PySem.W.looks_clsIn X hc) ?_))))));rw [hd'];refine wpAny_pure (a:=some dx) (wpAny_bind (wpAny_pure (wpAny_bind ?_)));refine wpAny_nsSet1 (s:={ s with toks:=s.toks+1 }) I.ns fun h' hn2 hs2=>?_;obtain ⟨oD,esD,epD,hoD,hdD,hcD⟩:=hn2.count (PySem.Within.cons name v hw);refine wpAny_bind (wpAny_lookBehind hoD (by rw [hdD];exact pastItsLine_dict (Nat.le_trans hcD (by rw [List.length_cons];omega))) ?_);exact wpAny_pure (h _ ⟨(hs2.2 _ (Ne.symm I.ne)).trans I.obj,hn2,I.ne⟩ hs2)
theorem IE {R:Result->Shared->Prop} {vs:List Value} {kw:List (Str × Value)} (X:K.In s.heap) (hm:PySem.W.makesIn K C=true)
   (hi:PySem.W.findIn K (.ref C) "__init__"=some (some (.ref f))) (hf:PySem.W.typeIn K (.ref f)=some (.type "function"))
   (h:codeAny (model prog w) (A.under (.builtin "type.__call__" ⟨.ref C::vs,kw⟩)) (.call (.ref f) ⟨.ref (s.heap.objs.size+1)::vs,kw⟩) (PySem.W.InitBack (s.heap.objs.size+1) R)
     { s with heap:=(s.heap.push PySem.W.emptyDict).push (PySem.W.instObj C s.heap.objs.size) }) :
   codeAny (model prog w) A (.call (.ref C) ⟨vs,kw⟩) R s:=by
 obtain ⟨hh,g,d,t,os⟩:=s;exact PySem.W.make_core (PySem.W.makes_of X hm) (PySem.W.looks_findIn X hi) (fun self=>PySem.W.bind_fn X self hf) (.inl rfl) h
end
def aW (f:Str) (v:V):List (Str × V)->List (Str × V)
 | []=>[(f,v)]
 | (g,x)::r=>if g=f then (g,v)::r else (g,x)::aW f v r
theorem bE (f g:Str) (v:V):∀ fs:List (Str × V),(aW f v fs).lookup g=if g=f then some v else fs.lookup g
 | []=>by
   show List.lookup g [(f,v)]=_;by_cases h:g=f
   . have hb:(g == f)=true:=beq_iff_eq.mpr h;simp only [List.lookup,hb,if_pos h]
   . have hb:(g == f)=false:=beq_eq_false_iff_ne.mpr h;simp only [List.lookup,hb,if_neg h]
 | (k,x)::r=>by
   have ih:=bE f g v r;rw [show aW f v ((k,x)::r)=(if k=f then (k,v)::r else (k,x)::aW f v r) from rfl];by_cases hk:k=f
   . rw [if_pos hk];by_cases h:g=k
     . have hb:(g == k)=true:=beq_iff_eq.mpr h;simp only [List.lookup,hb,if_pos (h.trans hk)]
     . have hb:(g == k)=false:=beq_eq_false_iff_ne.mpr h;simp only [List.lookup,hb,if_neg (fun e:g=f=>h (e.trans hk.symm))]
   . rw [if_neg hk];by_cases h:g=k
     . have hb:(g == k)=true:=beq_iff_eq.mpr h;simp only [List.lookup,hb,if_neg (fun e:g=f=>hk (h.symm.trans e))]
     . have hb:(g == k)=false:=beq_eq_false_iff_ne.mpr h;simp only [List.lookup,hb];exact ih
theorem vb (f:Str) (v:V):∀ fs:List (Str × V),f∈(aW f v fs).map (·.1)/\∀ g,g∈fs.map (·.1)->g∈(aW f v fs).map (·.1)
 | []=>⟨by simp [aW],fun g h=>by simp at h⟩
 | (k,x)::r=>by
   obtain ⟨i1,i2⟩:=vb f v r;rw [show aW f v ((k,x)::r)=(if k=f then (k,v)::r else (k,x)::aW f v r) from rfl];by_cases hk:k=f
   . rw [if_pos hk];subst hk;exact ⟨by simp,fun g h=>by simpa using h⟩
   . rw [if_neg hk];refine ⟨?_,fun g h=>?_⟩
     . rw [List.map_cons];exact List.mem_cons_of_mem _ i1
     . rw [List.map_cons] at h ⊢;rcases List.mem_cons.mp h with e|e
       . exact List.mem_cons.mpr (.inl e)
       . exact List.mem_cons_of_mem _ (i2 g e)
theorem wu (f:Str) (v:V):∀ fs:List (Str × V),(aW f v fs).length<=fs.length+1
 | []=>by simp [aW]
 | (k,x)::r=>by
   have ih:=wu f v r;rw [show aW f v ((k,x)::r)=(if k=f then (k,v)::r else (k,x)::aW f v r) from rfl];by_cases hk:k=f
   . rw [if_pos hk,List.length_cons,List.length_cons];omega
   . rw [if_neg hk,List.length_cons,List.length_cons];omega
theorem RelO.some_of {v:V} {o:Option Value} (r:RelO (some v) o):∃ u,o=some u/\RelV v u:=by
 cases o with
 | none=>exact (show False from r).elim
 | some u=>exact ⟨u,rfl,r⟩
theorem G2 {v:V} {u:Value} (r:RelV v u):PySem.W.handedIn u=true:=by
 cases v with
 | non=>cases (show u=Value.none from r);rfl
 | bl b=>cases (show u=Value.bool b from r);rfl
 | int i=>obtain ⟨t,e⟩:=(show ∃ t,u=Value.int i t from r);cases e;rfl
 | str x=>obtain ⟨t,e⟩:=(show ∃ t,u=Value.str x t from r);cases e;rfl
 | byt b=>obtain ⟨t,e⟩:=(show ∃ t,u=Value.bytes b t from r);cases e;rfl
 | flt b=>obtain ⟨t,e⟩:=(show ∃ t,u=Value.float b t from r);cases e;rfl
 | ref a=>cases (show u=Value.ref a from r);rfl
 | ty n=>cases (show u=Value.type n from r);rfl
section
variable {P:Program} {w:World} {H H':Hp} {h h':Heap} {a C dx:Addr} {fs fs':List (Str × V)}
theorem EA (hok:HOk P w H h) (e:H a=some (.ins C dx fs)):∃ mA,ObjM h a dx C mA/\(∀ f,RelO (fs.lookup f) (mA f))/\PySem.Within mA (fs.map (·.1))/\fs.length<=1000/\H dx=some (.own a):=by
 obtain ⟨d,z,ne,ob,mA,n,r,q⟩:=(show ObjOk P w H h a (.ins C dx fs) from hok a _ e);exact ⟨mA,⟨ob,n,ne⟩,r,q,z,d⟩
end
structure Cls (K:PySem.W.Frag) (C:Addr):Prop where
 pg:PySem.W.plainGet K C Str.empty=true
 hd:PySem.W.hasDictIn K C=true
 po:PySem.W.plainOver K C=true
 sa:PySem.W.findIn K (.ref C) "__setattr__"=some (some (.builtin "object.__setattr__"))
theorem Cls.get {K:PySem.W.Frag} {C:Addr} (c:Cls K C) (f:Str):PySem.W.plainGet K C f=true:=c.pg
def NoAttr (K:PySem.W.Frag) (C:Addr) (f:Str):Prop:=PySem.W.findIn K (.ref C) f=some none
theorem NoAttr.taker {K:PySem.W.Frag} {C:Addr} {f:Str} (n:NoAttr K C f):PySem.W.takerIn K C f=some none:=by
 unfold PySem.W.takerIn;rw [show PySem.W.findIn K (.ref C) f=some none from n]
 rfl
section
variable {X:Cx} {pins:List (Addr × Obj)} {σ:St} {H:Hp} {s:Shared} {a C dx:Addr} {fs:List (Str × V)} {f:Str} {v:V} {A:Around} {E:Value->Shared->Prop}
theorem Fm {b:Bool} {Q:Value->Shared->Prop} (I:Inv X pins σ H s) (e:H a=some (.ins C dx fs)) (c:Cls X.K C) (n:NoAttr X.K C f) (l:fs.lookup f=some v)
   (h:∀ u s',Inv X pins σ H s'->RelV v u->Q u s'):wpAny (model X.prog X.w) A (getAttr (.ref a) f b) Q E s:=by
 obtain ⟨mA,O,r,_,_,_⟩:=EA I.hok e;obtain ⟨u,hu,ru⟩:=RelO.some_of (v:=v) (o:=mA f) (by rw [<- l];exact r f);exact L7 I.kIn O (c.get f) c.hd n hu (G2 ru) (h u _ (I.tok _) ru)
theorem FR {y:V} {u:Value} {Q:Unit->Shared->Prop} (I:Inv X pins σ H s) (e:H a=some (.ins C dx fs)) (c:Cls X.K C) (n:NoAttr X.K C f) (hl:fs.length<1000) (ry:RelV y u)
   (h:∀ s',Inv X pins σ (upd H a (.ins C dx (aW f y fs))) s'->Q () s'):wpAny (model X.prog X.w) A (setAttr (.ref a) f u) Q E s:=by
 obtain ⟨mA,O,r,wi,_,ho⟩:=EA I.hok e;have hz:(fs.map (·.1)).length<=sizeLine:=by rw [List.length_map,sizeLine_eq];omega
 refine Mn I.kIn O c.sa c.po n.taker c.hd wi hz fun h' O' sb=>h _ ?_;have hd:∃ o,h'.get? dx=some o:=let ⟨o,_,_,e',_⟩:=O'.ns;⟨o,e'⟩;refine I.write (x:=a) (e:=dx) (by rw [e];exact True.intro) (.inr ho) (fun b q hb z=>(sb.2 b hb).trans z) hd ?_;refine ⟨by rw [ar O.ne];exact ho,?_,O.ne,O'.obj,_,O'.ns,fun g=>?_,fun g hg=>?_⟩
 . have:=wu f y fs;omega
 . show RelO ((aW f y fs).lookup g) (if g=f then some u else mA g);rw [bE];by_cases q:g=f
   . rw [if_pos q,if_pos q];exact ry
   . rw [if_neg q,if_neg q];exact r g
 . by_cases q:g=f
   . rw [q];exact (vb f y fs).1
   . refine (vb f y fs).2 g (wi g fun z=>hg ?_);show (if g=f then some u else mA g)=none;rw [if_neg q];exact z
theorem Inv.made (I:Inv X pins σ H s):Inv X pins σ (upd (upd H s.heap.objs.size (.own (s.heap.objs.size+1))) (s.heap.objs.size+1) (.ins C s.heap.objs.size []))
   { s with heap:=(s.heap.push PySem.W.emptyDict).push (PySem.W.instObj C s.heap.objs.size) }:=by
 have e1:(s.heap.push PySem.W.emptyDict).get? s.heap.objs.size=some PySem.W.emptyDict:=Heap.get?_push_size s.heap rfl;have e2:((s.heap.push PySem.W.emptyDict).push (PySem.W.instObj C s.heap.objs.size)).get? (s.heap.objs.size+1)=some (PySem.W.instObj C s.heap.objs.size):=by
   have:=Heap.get?_push_size (s.heap.push PySem.W.emptyDict) (o:=PySem.W.instObj C s.heap.objs.size) rfl
   rwa [Heap.size_push] at this
 have e3:(s.heap.push PySem.W.emptyDict).Ns s.heap.objs.size (fun _=>none):=⟨PySem.W.emptyDict,#[],_,e1,rfl,(fun e he=>absurd he (by simp)),fun _=>rfl⟩;have I1:=I.laid (a:=s.heap.objs.size) (o:=.own (s.heap.objs.size+1)) (h':=s.heap.push PySem.W.emptyDict) (t':=s.toks) (fun b u q=>Heap.get?_push_of_some _ q) (Nat.le_refl _) ⟨_,e1⟩;refine I1.laid (a:=s.heap.objs.size+1) (o:=.ins C s.heap.objs.size []) (t':=s.toks) (fun b u q=>Heap.get?_push_of_some _ q) (Nat.le_of_eq (Heap.size_push _ _)) ?_;have ne:s.heap.objs.size≠s.heap.objs.size+1:=Nat.ne_of_lt (Nat.lt_succ_self _);refine ⟨by rw [ar ne,ah],Nat.zero_le _,ne,e2,fun _=>none,(Heap.Ns1.of_empty e3).at fun o q=>Heap.get?_push_of_some _ q,fun _=>True.intro,fun y hy=>absurd rfl hy⟩
theorem L8 {prog:Program} {w:World} {env:Env} {e:Expr} {f:Str} {pos:Pos} {s:Shared} {Q:Value->Shared->Prop} (hb:attributeBase e f env (eval e env)=eval e env)
   (h:wpAny (model prog w) A (eval e env) (fun o s₁=>wpAny (model prog w) A (getAttr o f true) Q E s₁) E s):wpAny (model prog w) A (eval (.Attribute e f pos) env) Q E s :=
 Attribute_any_ h (by rw [arm_eval_Attribute,hb])
end
def Ld (K:PySem.W.Frag) (ta:TE) (f:Str):TE:=fun σ H Q=>ta σ H fun x H1=>∃ a C dx fs v,x=.ref a/\H1 a=some (.ins C dx fs)/\Cls K C/\NoAttr K C f/\fs.lookup f=some v/\Q v H1
def Ju (K:PySem.W.Frag) (ta tv:TE) (f:Str):TS:=fun D σ H=>tv σ H fun y H1=>ta σ H1 fun x H2=>∃ a C dx fs,x=.ref a/\H2 a=some (.ins C dx fs)/\Cls K C/\NoAttr K C f/\fs.length<1000 /\
 D.nx σ (upd H2 a (.ins C dx (aW f y fs)))
section
variable {X:Cx} {o e value:Expr} {f:Str} {pos pos' tpos:Pos} {ta tv:TE}
theorem cS (he:PE X e ta) (hb:attributeBase e f X.env (eval e X.env)=eval e X.env):PE X (.Attribute e f pos) (Ld X.K ta f):=by
 intro pins s σ H Q I h;refine L8 hb (bF (he pins s σ H _ I h) fun u s1 x H1 I1 rx ⟨a,C,dx,fs,v,ex,ea,c,n,l,q⟩=>?_);subst ex;obtain rfl:u=Value.ref a:=rx;exact Fm I1 ea c n l fun u' s2 I2 ru=>⟨v,H1,I2,ru,q⟩
theorem qA (ha:PE X o ta) (hv:PE X value tv) (hs:swapsWith value (some (.Attribute o f pos')) pos.line X.env=pure false):PS X (.Assign [.Attribute o f pos'] value pos) (Ju X.K ta tv f):=by
 intro pins s σ H D I h;refine plainObj_wpAny_Assign_Attribute (bF (hv pins s σ H _ I h) fun u s1 y H1 I1 ry q=>bF (ha pins s1 σ H1 _ I1 q) fun ov s2 x H2 I2 rx ⟨a,C,dx,fs,ex,ea,c,n,l,q2⟩=>?_) hs;subst ex;obtain rfl:ov=Value.ref a:=rx;exact FR I2 ea c n l ry fun s3 I3=>⟨σ,_,I3,q2⟩
end
section
variable {X:Cx} {pins:List (Addr × Obj)} {σ:St} {H:Hp} {s:Shared} {A:Around} {E:Value->Shared->Prop} {Q:Value->Shared->Prop} {c:Value} {b:Bool}
end
end L2
namespace L2
open PySem PySem.Spec PyProof.Rows
structure Room (k:Nat) (A:Around):Prop where
 hd:A.handled=none
 dp:A.depth+3*k+5<recursionLimit
 un:A.units+16*k+200<cLine
theorem Room.mono {j k:Nat} {A:Around} (r:Room k A) (h:j<=k):Room j A:=⟨r.hd,by have:=r.dp;omega,by have:=r.un;omega⟩
theorem Room.deeper {k:Nat} {A:Around} (r:Room (k+1) A) (env:Env):Room k (A.deeper env) :=
 ⟨r.hd,by have:=r.dp;show A.depth+1+3*k+5<_;omega,by have:=r.un;show A.units+3+16*k+200<_;omega⟩
theorem FC {A:Around} {C:Addr} {us:List Value} {kw:List (Str × Value)}:(A.under (.builtin "type.__call__" ⟨.ref C::us,kw⟩)).depth=A.depth+1:=by
 first|rfl|simp [Around.under,Code.weight,Code.isCreation,Code.isGuard,Code.isCaller,Code.frames,Code.isFrame,guardIds]
theorem Gw {A:Around} {C:Addr} {us:List Value} {kw:List (Str × Value)}:(A.under (.builtin "type.__call__" ⟨.ref C::us,kw⟩)).units=A.units+1:=by
 first|rfl|simp [Around.under,Code.cUnits,Code.frames,Code.isFrame]
theorem Room.make {k:Nat} {A:Around} (r:Room (k+1) A) (C:Addr) (us:List Value) (kw:List (Str × Value)):Room k (A.under (.builtin "type.__call__" ⟨.ref C::us,kw⟩)) :=
 ⟨r.hd,by have:=r.dp;rw [FC];omega,by have:=r.un;rw [Gw];omega⟩
theorem Room.depth {k:Nat} {A:Around} (r:Room k A):A.depth<recursionLimit:=by have:=r.dp;omega
theorem Room.units {k:Nat} {A:Around} (r:Room k A):A.units+64<cLine:=by have:=r.un;omega
def tNil:TA:=fun _ H Q=>Q [] H
def FF (ta:TE) (tr:TA):TA:=fun σ H Q=>ta σ H fun x H1=>tr σ H1 fun xs H2=>Q (x::xs) H2
section
variable {X:Cx} {e:Expr} {es:List Expr} {te:TE} {t:TA} {pos:Pos}
theorem aj:PA X [] tNil:=fun _ _ _ _ H Q I h=>Calls.spliced_nil ⟨[],H,I,.nil,h⟩
theorem ag (ha:PE X e te) (hr:PA X es t) (hs:starEach (e::es) X.env=(false,eval e X.env)::starEach es X.env:=by rfl):PA X (e::es) (FF te t):=by
 intro pos pins s σ H Q I h;rw [hs];show wpAny _ _ (spliced ((false,eval e X.env)::backTo pos (starEach es X.env))) _ _ s;refine Calls.spliced_cons (bF (ha pins s σ H _ I h) fun u s1 x H1 I1 r1 q1=>?_);exact o9 (hr pos pins s1 σ H1 _ I1 q1) fun us s2 xs H2 I2 r2 q2=>⟨x::xs,H2,I2,.cons r1 r2,q2⟩
def Kt (t:TA):TE:=fun σ H Q=>t σ H fun xs H1=>xs.length<=sizeLine/\∀ p,H1 p=none->Q (.ref p) (upd H1 p (.tup xs))
def JH (t:TA):TE:=fun σ H Q=>t σ H fun xs H1=>xs.length<=sizeLine/\∀ p,H1 p=none->Q (.ref p) (upd H1 p (.lst xs))
theorem qM {x1} (h:PA X es t):PE X (.Tuple es x1 pos) (Kt t):=by
 intro pins s σ H Q I hq;refine wpAny_Tuple_spliced (o9 (h pos pins s σ H _ I hq) fun us s1 xs H1 I1 r ⟨z,q⟩=>⟨by rw [<- r.length];exact z,?_⟩);have hf:H1 s1.heap.objs.size=none:=I1.hok.fresh (Nat.le_refl _);refine ⟨.ref s1.heap.objs.size,upd H1 s1.heap.objs.size (.tup xs),I1.laid (t':=s1.toks) (fun b u e=>Heap.get?_push_of_some _ e) (Nat.le_refl _) ?_,rfl,q _ hf⟩;exact ⟨z,us,r,⟨_,Heap.get?_push_size _ rfl,rfl,_,rfl⟩⟩
theorem bN (h:PA X es t):PE X (.List es pos) (JH t):=by
 intro pins s σ H Q I hq;refine wpAny_List_spliced (o9 (h pos pins s σ H _ I hq) fun us s1 xs H1 I1 r ⟨z,q⟩=>⟨by rw [<- r.length];exact z,?_⟩);have hf:H1 s1.heap.objs.size=none:=I1.hok.fresh (Nat.le_refl _);refine ⟨.ref s1.heap.objs.size,upd H1 s1.heap.objs.size (.lst xs),I1.laid (t':=s1.toks) (fun b u e=>Heap.get?_push_of_some _ e) (Nat.le_refl _) ?_,rfl,q _ hf⟩;exact ⟨z,us,0,r,Heap.get?_push_size _ rfl⟩
end
abbrev Sp:=List V->Hp->VK->XK->Prop
abbrev CXT:=List Env->Hp->Shared->XK->Value->Shared->Prop
structure Env0 (P:Program) (w:World) (K:PySem.W.Frag) (mg:Str->Option Value) (base:Heap) (A:Around) (outer:List Env) (s:Shared) (H:Hp):Prop where
 frames:A.frames=some outer
 mod:Mod K mg base
 bs:∀ b o,base.get? b=some o->s.heap.get? b=some o/\H b=none
 bsz:base.objs.size<=s.heap.objs.size
 funs:s.heap.FunFrames base outer
 frf:∀ b∈frs outer,H b=none
 hok:HOk P w H s.heap
 bare:AllBare s.gens
def CE (outer:List Env) (P:Program) (w:World) (H:Hp) (s:Shared) (Q:VK) (u:Value) (s':Shared):Prop :=
 ∃ v H',s'.os=s.os/\AllBare s'.gens/\Un (frs outer) [] H H' s.heap s'.heap/\HOk P w H' s'.heap/\RelV v u/\Q v H'
def CR (CX:CXT) (outer:List Env) (P:Program) (w:World) (H:Hp) (s:Shared) (Q:VK) (E:XK) (r:Result) (s':Shared):Prop :=
 match r with
 | .ok (.ret u)=>CE outer P w H s Q u s'
 | .ok _=>False
 | .error e=>CX outer H s E e s'
structure FnOk (P:Program) (w:World) (K:PySem.W.Frag) (mg:Str->Option Value) (base:Heap) (CX:CXT) (k:Nat) (f:Addr) (fd:FuncData) (ps:List Str) (sp:Sp):Prop where
 len:∀ vs H Q E,sp vs H Q E->vs.length=ps.length
 run:∀ (A:Around) (outer:List Env) (s:Shared) (H:Hp) (args:Args) (us:List Value) (vs:List V) (Q:VK) (E:XK),Room k A->Env0 P w K mg base A outer s H->BindsTo s fd args (ps.zip us)->Vals vs us->sp vs H Q E ->
   codeAny (model P w) A (.call (.ref f) args) (CR CX outer P w H s Q E) s
theorem Env0.make {P:Program} {w:World} {K:PySem.W.Frag} {mg:Str->Option Value} {base:Heap} {A:Around} {outer:List Env} {s:Shared} {H:Hp} (e:Env0 P w K mg base A outer s H) (C:Addr) (us:List Value) (kw:List (Str × Value)) :
   Env0 P w K mg base (A.under (.builtin "type.__call__" ⟨.ref C::us,kw⟩)) outer s H:=⟨by first|exact e.frames|(simpa [Around.under,Code.envs,Code.isFrame,pushEnvs] using e.frames),e.mod,e.bs,e.bsz,e.funs,e.frf,e.hok,e.bare⟩
section
variable {X:Cx} {pins:List (Addr × Obj)} {σ:St} {H:Hp} {s s':Shared}
theorem Inv.env0 (I:Inv X pins σ H s):Env0 X.prog X.w X.K X.mg X.base X.A X.stack s H :=
 ⟨I.ok.frames,I.ok.mod,I.bs,Nat.le_trans I.ok.bsz I.sz,I.stack,I.stkFree,I.hok,I.bare⟩
theorem Inv.after {Q:VK} {u:Value} (I:Inv X pins σ H s) (h:CE X.stack X.prog X.w H s Q u s'):EP X pins σ Q u s':=by
 obtain ⟨v,H',os,bare,un,hok,r,q⟩:=h;obtain ⟨hh,g,d,t,os'⟩:=s';obtain rfl:os'=s.os:=os;exact ⟨v,H',I.call (h':=hh) (g':=g) (d':=d) (t':=t) (ch:=[]) un hok bare (fun b z=>absurd z (by simp)),r,q⟩
end
def Bz (sp:Sp) (dvs:List V) (E:XK) (t:TA):TE:=fun σ H Q=>t σ H fun vs H1=>sp (vs++dvs) H1 Q E
def Fw (C:Addr) (sp:Sp) (dvs:List V) (E:XK) (t:TA):TE:=fun σ H Q=>t σ H fun vs H1=>∀ x dx,H1 x=none->H1 dx=none->dx≠x ->
 sp (.ref x::(vs++dvs)) (upd (upd H1 dx (.own x)) x (.ins C dx [])) (fun v H2=>v=.non/\Q (.ref x) H2) E
def Binds (K:PySem.W.Frag) (fd:FuncData) (ps:List Str) (ds:List Value):Prop :=
 ∀ (s:Shared) (us:List Value),K.In s.heap->(us++ds).length=ps.length->BindsTo s fd ⟨us,[]⟩ (ps.zip (us++ds))
theorem Binds.all {K:PySem.W.Frag} {fd:FuncData} {ps:List Str} (h:∀ us:List Value,us.length=ps.length->bindArgs fd ⟨us,[]⟩=pure (ps.zip us)):Binds K fd ps []:=fun s us _ hl=>by
 rw [List.append_nil] at hl ⊢;exact .of_eq (h us hl)
def qh (CX:CXT) (X:Cx) (E:XK):Prop:=∀ (pins:List (Addr × Obj)) (σ:St) (H:Hp) (s:Shared) (e:Value) (s':Shared),Inv X pins σ H s->CX X.stack H s E e s'->X.xe e s'
section
variable {X:Cx} {CX:CXT} {k:Nat} {f C:Addr} {fd:FuncData} {ps:List Str} {sp:Sp} {dvs:List V} {ds:List Value} {E:XK} {x m:Str} {p pos apos:Pos} {e o:Expr} {es:List Expr} {ta:TE} {t:TA}
theorem Ou {pins:List (Addr × Obj)} {σ:St} {H:Hp} {s:Shared} {Q:VK} {us:List Value} {vs:List V} (F:FnOk X.prog X.w X.K X.mg X.base CX k f fd ps sp) (hr:Room k X.A) (hb:Binds X.K fd ps ds) (hd:Vals dvs ds) (hx:qh CX X E)
   (I:Inv X pins σ H s) (r:Vals vs us) (h:sp (vs++dvs) H Q E):wpAny (model X.prog X.w) X.A (call (.ref f) us) (EP X pins σ Q) X.xe s:=by
 have r2:Vals (vs++dvs) (us++ds):=r.append hd;have hl:(us++ds).length=ps.length:=by rw [<- r2.length];exact F.len _ _ _ _ h
 refine wpAny_call (codeAny_mono (F.run X.A X.stack s H ⟨us,[]⟩ (us++ds) (vs++dvs) Q E hr I.env0 (hb s us I.kIn hl) r2 h) fun r s' hq=>?_);cases r with
 | error e=>exact hx pins σ H s e s' I hq
 | ok fl =>
   cases fl with
   | ret u=>exact I.after hq
   | next=>exact False.elim hq
   | brk=>exact False.elim hq
   | cont=>exact False.elim hq
theorem ax (F:FnOk X.prog X.w X.K X.mg X.base CX k f fd ps sp) (hr:Room k X.A) (hg:Gl X x) (hm:X.mg x=some (.ref f)) (hk:PySem.W.keepIn X.K (.ref f)=true) (hb:Binds X.K fd ps ds) (hd:Vals dvs ds) (hx:qh CX X E)
   (ha:PA X (e::es) t) (hdb:(x == ("__debug__":Str))=false:=by decide) (he:starEach (e::es) X.env=(false,eval e X.env)::starEach es X.env:=by rfl) (hpl:(backTo pos (starEach es X.env)).any (·.1)=false:=by rfl) :
   PE X (.Call (.Name x p) (e::es) [] pos) (Bz sp dvs E t):=by
 intro pins s σ H Q I h;refine wpAny_Call_Name_kw (mK I hg hm ?_ hdb);refine PySem.W.callWith_K (h₀:=X.base) I.ok.mod.kin hk (o9 (ha pos pins s σ H _ I h) fun us s1 vs H1 I1 r q=>⟨I1.kIn,?_⟩) he hpl;exact Ou F hr hb hd hx I1 r q
structure Mk (K:PySem.W.Frag) (C f:Addr):Prop where
 makes:PySem.W.makesIn K C=true
 init:PySem.W.findIn K (.ref C) "__init__"=some (some (.ref f))
 fn:PySem.W.isFn K (.ref f)=true
 kp:PySem.W.keepIn K (.ref C)=true
theorem JE {pins:List (Addr × Obj)} {σ:St} {H:Hp} {s:Shared} {Q:VK} {us:List Value} {vs:List V} (M:Mk X.K C f) (F:FnOk X.prog X.w X.K X.mg X.base CX k f fd ps sp) (hr:Room (k+1) X.A) (hb:Binds X.K fd ps ds) (hd:Vals dvs ds)
   (hx:qh CX X E) (I:Inv X pins σ H s) (r:Vals vs us)
   (h:∀ x dx,H x=none->H dx=none->dx≠x->sp (.ref x::(vs++dvs)) (upd (upd H dx (.own x)) x (.ins C dx [])) (fun v H2=>v=.non/\Q (.ref x) H2) E) :
   wpAny (model X.prog X.w) X.A (call (.ref C) us) (EP X pins σ Q) X.xe s:=by
 have hq:=h (s.heap.objs.size+1) s.heap.objs.size (I.hok.fresh (Nat.le_succ _)) (I.hok.fresh (Nat.le_refl _)) (Nat.ne_of_lt (Nat.lt_succ_self _));have I2:=Inv.made (C:=C) I;have r2:Vals (V.ref (s.heap.objs.size+1)::(vs++dvs)) (Value.ref (s.heap.objs.size+1)::(us++ds)):=.cons rfl (r.append hd);have hl:(Value.ref (s.heap.objs.size+1)::us++ds).length=ps.length:=by
   have e:=r2.length;rw [F.len _ _ _ _ hq] at e;exact e.symm
 refine wpAny_call (IE (f:=f) I.kIn M.makes M.init (beq_iff_eq.mp M.fn) (codeAny_mono (F.run _ X.stack _ _ ⟨Value.ref (s.heap.objs.size+1)::us,[]⟩ (Value.ref (s.heap.objs.size+1)::(us++ds)) _ _ E (hr.make C us [])
   (I2.env0.make C us []) (hb _ (Value.ref (s.heap.objs.size+1)::us) I2.kIn hl) r2 hq) fun r s' hq'=>?_))
 cases r with
 | error e=>exact hx pins σ _ _ e s' I2 hq'
 | ok fl =>
   cases fl with
   | ret u =>
     obtain ⟨v,H',I3,rv,ev,q3⟩:=I2.after hq';subst ev;exact ⟨rv,⟨V.ref (s.heap.objs.size+1),H',I3,rfl,q3⟩⟩
   | next=>exact False.elim hq'
   | brk=>exact False.elim hq'
   | cont=>exact False.elim hq'
theorem EN (M:Mk X.K C f) (F:FnOk X.prog X.w X.K X.mg X.base CX k f fd ps sp) (hr:Room (k+1) X.A) (hg:Gl X x) (hm:X.mg x=some (.ref C)) (hb:Binds X.K fd ps ds) (hd:Vals dvs ds) (hx:qh CX X E)
   (ha:PA X (e::es) t) (hdb:(x == ("__debug__":Str))=false:=by decide) (he:starEach (e::es) X.env=(false,eval e X.env)::starEach es X.env:=by rfl) (hpl:(backTo pos (starEach es X.env)).any (·.1)=false:=by rfl) :
   PE X (.Call (.Name x p) (e::es) [] pos) (Fw C sp dvs E t):=by
 intro pins s σ H Q I h;refine wpAny_Call_Name_kw (mK I hg hm ?_ hdb);refine PySem.W.callWith_K (h₀:=X.base) I.ok.mod.kin M.kp (o9 (ha pos pins s σ H _ I h) fun us s1 vs H1 I1 r q=>⟨I1.kIn,?_⟩) he hpl;exact JE M F hr hb hd hx I1 r q
end
section
variable {X:Cx} {CX:CXT} {k:Nat} {f C:Addr} {fd:FuncData} {ps ks:List Str} {sp:Sp} {E:XK} {x m:Str} {p pos apos kpos:Pos} {e o:Expr} {es:List Expr} {kws:List Keyword} {te ta:TE} {t tk:TA} {nm:Option Str}
variable {g:List Value->List Value->List Value} {gV:List V->List V->List V}
end
structure FnScope (N P:List Str) (sc:Scope):Prop where
 kind:sc.kind=.function
 co:sc.isCoroutine=false
 gen:sc.isGenerator=false
 nd:N.Nodup
 pre:N.take P.length=P
 par:∀ x∈P,sc.names.lookup x=some .local\/sc.names.lookup x=some .cell
 nofree:∀ y∈sc.names,y.2≠.free
theorem Ap {kindOf:Str->Option NameKind} {x:Str}:∀ {binds:List (Str × Value)} {m:Str->Option Value},(∀ v,(x,v) ∉ binds)->bindL kindOf binds m x=m x
 | [],_,_=>rfl
 | (n,v)::r,m,h=>by
   unfold bindL;rw [Ap fun w hw=>h w (List.mem_cons_of_mem _ hw)];split
   . have:x≠n:=(by rintro rfl;exact h v List.mem_cons_self);simp [this]
   . rfl
theorem Aw {kindOf:Str->Option NameKind} {x:Str}:∀ {binds:List (Str × Value)} {m:Str->Option Value},(∀ v,(x,v) ∉ binds)->bindC kindOf binds m x=m x
 | [],_,_=>rfl
 | (n,v)::r,m,h=>by
   unfold bindC;rw [Aw fun w hw=>h w (List.mem_cons_of_mem _ hw)];split
   . rfl
   . have:x≠n:=(by rintro rfl;exact h v List.mem_cons_self);simp [this]
theorem Ak {kindOf:Str->Option NameKind} {x:Str} {v:Value}:∀ {P:List Str} {vs:List Value} {i:Nat} {m:Str->Option Value},P.Nodup->P[i]?=some x->vs[i]?=some v->kindOf x=some .local ->
   bindL kindOf (P.zip vs) m x=some v
 | [],_,_,_,_,h,_,_=>by simp at h
 | _::_,[],_,_,_,_,h,_=>by simp at h
 | p::P,w::vs,0,m,nd,h1,h2,hk=>by
   simp at h1 h2;subst h1;subst h2;show bindL kindOf ((p,w)::P.zip vs) m p=_;unfold bindL;rw [Ap fun v hv=>(List.nodup_cons.mp nd).1 (List.of_mem_zip hv).1,if_pos hk];simp
 | p::P,w::vs,i+1,m,nd,h1,h2,hk=>by
   show bindL kindOf ((p,w)::P.zip vs) m x=_;unfold bindL;exact Ak (i:=i) (List.nodup_cons.mp nd).2 (by simpa using h1) (by simpa using h2) hk
theorem Ao {kindOf:Str->Option NameKind} {x:Str} {v:Value}:∀ {P:List Str} {vs:List Value} {i:Nat} {m:Str->Option Value},P.Nodup->P[i]?=some x->vs[i]?=some v->kindOf x≠some .local ->
   bindC kindOf (P.zip vs) m x=some v
 | [],_,_,_,_,h,_,_=>by simp at h
 | _::_,[],_,_,_,_,h,_=>by simp at h
 | p::P,w::vs,0,m,nd,h1,h2,hk=>by
   simp at h1 h2;subst h1;subst h2;show bindC kindOf ((p,w)::P.zip vs) m p=_;unfold bindC;rw [Aw fun v hv=>(List.nodup_cons.mp nd).1 (List.of_mem_zip hv).1,if_neg hk];simp
 | p::P,w::vs,i+1,m,nd,h1,h2,hk=>by
   show bindC kindOf ((p,w)::P.zip vs) m x=_;unfold bindC;exact Ao (i:=i) (List.nodup_cons.mp nd).2 (by simpa using h1) (by simpa using h2) hk
def start (N:List Str) (vs:List V):St:=vs.map some++List.replicate (N.length - vs.length) none
def l9 (CX:CXT) (P:Program) (w:World) (K:PySem.W.Frag) (mg:Str->Option Value) (base:Heap) (N:List Str) (qual:Str) (scope:Scope) (f:Addr) (cd:Value) (A:Around) (outer:List Env) (s:Shared) (H:Hp) (E:XK):Cx where
 prog:=P
 w:=w
 K:=K
 mg:=mg
 base:=base
 A:=A.deeper (envOfC qual scope s.heap.objs.size f cd)
 N:=N
 s₀:=s
 H₀:=H
 env:=envOfC qual scope s.heap.objs.size f cd
 outer:=outer
 stack:=envOfC qual scope s.heap.objs.size f cd::outer
 ex:=[]
 calm:=true
 fn:=fun _=>true
 pn:=[]
 xe:=fun e s'=>wpAny (model P w) (A.deeper (envOfC qual scope s.heap.objs.size f cd)) (leaving (envOfC qual scope s.heap.objs.size f cd) e) (fun _ s''=>CX outer H s E e s'') (fun e' s''=>CX outer H s E e' s'') s'
theorem kI {sc:Scope} {n:Nat} {x:Str} (h:sc.names.lookup x=some .cell):∃ c,(cellsFrom n sc.names []).lookup x=some c:=by
 have q:=PySem.W.cellsFrom_some sc.names n [] (.inl h);exact Option.isSome_iff_exists.mp q
theorem Gz {CX:CXT} {P:Program} {w:World} {K:PySem.W.Frag} {mg:Str->Option Value} {base:Heap} {N ps:List Str} {qual:Str} {scope:Scope} {f:Addr} {cd:Value} {A:Around} {outer:List Env} {s s1:Shared} {H:Hp} {E:XK} {us:List Value} {vs:List V}
   (S:FnScope N ps scope) (hd:A.handled=none) (e0:Env0 P w K mg base A outer s H) (hl:vs.length=ps.length) (r:Vals vs us)
   (x:InCallC s s.heap.objs.size (bindL (envOfC qual scope s.heap.objs.size f cd).kindOf (ps.zip us) fun _=>none) (cellsFrom (s.heap.objs.size+1) scope.names []) (bindC (envOfC qual scope s.heap.objs.size f cd).kindOf (ps.zip us) fun _=>none) s1) :
   Inv (l9 CX P w K mg base N qual scope f cd A outer s H E) [] (start N vs) H s1:=by
 have hpl:ps.length<=N.length:=by have:=congrArg List.length S.pre;rw [List.length_take] at this;omega
 obtain ⟨h1,tk,rfl,hk⟩:=x.done;have noA:∀ b:Addr,b ∉ (l9 CX P w K mg base N qual scope f cd A outer s H E).ex:=fun b z=>absurd (show b∈([]:List Addr) from z) (by simp);refine ⟨⟨e0.mod,S.kind,rfl,rfl,Nat.le_refl _,fun y z c h1 h2=>?_,fun y hy=>?_,fun y c _ h=>?_,fun _=>hd,Around.frames_deeper e0.frames,.inr ⟨rfl,rfl⟩,fun b z=>absurd z (noA b),e0.bs,e0.bsz,fun b _ _=>noA b,fun b z=>absurd z (noA b),e0.funs,e0.frf⟩,
   rfl,e0.bare,Un.kept hk,⟨_,x.toInCall.ns,fun i y v h1 h2 h3=>?_⟩,fun y c h=>⟨_,x.cell y c h⟩,e0.hok.fresh (Nat.le_refl _),fun y c h=>?_,fun p hp=>absurd (show p∈([]:List (Addr × Obj)) from hp) (by simp),e0.hok.kept hk,?_⟩
 . exact name_of_addr x.apart (PySem.mem_of_lookup h1) (PySem.mem_of_lookup h2)
 . have hy:scope.names.lookup y=some .cell\/scope.names.lookup y=some .free:=hy;rcases hy with hy|hy
   . exact kI hy
   . exact absurd rfl (S.nofree _ (PySem.mem_of_lookup hy))
 . exact Nat.le_of_lt (x.above y c (PySem.mem_of_lookup h))
 . have hi:i<vs.length:=by
     unfold start at h2;by_cases hi:i<vs.length
     . exact hi
     . rw [List.getElem?_append_right (by simpa using hi)] at h2;rw [List.getElem?_replicate] at h2;split at h2 <;> cases h2
   have ha:vs[i]?=some v:=by
     unfold start at h2;rw [List.getElem?_append_left (by simpa using hi),List.getElem?_map] at h2;cases e:vs[i]? with
     | none=>rw [e] at h2;cases h2
     | some a=>rw [e] at h2;cases h2;rfl
   obtain ⟨u,hu,rv⟩:=r.get ha;have hp:ps[i]?=some y:=by
     rw [<- S.pre,List.getElem?_take_of_lt (by omega)];exact h1
   have ndP:ps.Nodup:=by rw [<- S.pre];exact S.nd.sublist (List.take_sublist _ _)
   refine ⟨u,rv,?_⟩;rcases S.par y (List.mem_of_getElem? hp) with k|k
   . exact .inl ⟨k,Ak ndP hp hu k⟩
   . obtain ⟨c,e⟩:=kI (n:=s.heap.objs.size+1) k;refine .inr ⟨.inl k,c,e,?_⟩;have q:=x.cell y c e;rw [Ao ndP hp hu (by show scope.names.lookup y≠_;rw [k];decide)] at q;exact q
 . exact e0.hok.fresh (Nat.le_of_lt (x.above y c (PySem.mem_of_lookup h)))
 . unfold start;show _=N.length;rw [List.length_append,List.length_map,List.length_replicate];omega
theorem LD {CX:CXT} {P:Program} {w:World} {K:PySem.W.Frag} {mg:Str->Option Value} {base:Heap} {k:Nat} {f:Addr} {name qual:Str} {params:Arguments} {body:List Stmt} {scope:Scope} {dV kV doc pm cdv ct oc:Value} {an od:Option Addr}
   {osl:Array (Option Value)} {N ps:List Str} {sp:Sp} (lk:K.lookup f=some ⟨oc,od,.func (PySem.W.fnOf name qual params body scope dV kV doc pm an cdv ct),osl⟩) (hcd:PySem.W.codeIn K cdv qual=true) (S:FnScope N ps scope)
   (len:∀ vs H Q E,sp vs H Q E->vs.length=ps.length)
   (hbody:∀ (A:Around) (outer:List Env) (s:Shared) (H:Hp) (vs:List V) (Q:VK) (E:XK),Room k (A.deeper (envOfC qual scope s.heap.objs.size f cdv))->sp vs H Q E ->
     ∃ t,PSs (l9 CX P w K mg base N qual scope f cdv A outer s H E) body t/\t { nx:=fun _ H'=>Q .non H',rt:=Q } (start N vs) H) :
   FnOk P w K mg base CX (k+1) f (PySem.W.fnOf name qual params body scope dV kV doc pm an cdv ct) ps sp:=by
 refine ⟨len,fun A outer s H args us vs Q E hr e0 hb r hsp=>?_⟩;have hl:=len _ _ _ _ hsp;have KX:K.In s.heap:=e0.mod.kin.keeps fun b o e=>(e0.bs b o e).1;have lim:s.heap.NoLimit:=e0.mod.nolimit.keeps fun b o e=>(e0.bs b o e).1;have hkind:∀ y∈ps.zip us,scope.names.lookup y.1=some .local\/(scope.names.lookup y.1=some .cell/\((cellsFrom (s.heap.objs.size+1) scope.names []).lookup y.1).isSome=true):=fun ⟨n,v⟩ hy=>by
   rcases S.par n (List.of_mem_zip hy).1 with q|q
   . exact .inl q
   . exact .inr ⟨q,PySem.W.cellsFrom_some _ _ _ (.inl q)⟩
 refine codeAny_call_function hr.depth (KX _ _ lk) rfl S.co S.gen rfl (PySem.W.codeRec_of KX hcd) (hb _ _ _ _ ?_);refine wpAny_newFunctionEnv_cells S.kind hkind fun env he s1 x=>?_;subst he;refine ⟨lim.keeps x.toInCall.keep,codeAny_func ?_⟩;obtain ⟨t,ht,hq⟩:=hbody A outer s H vs Q E (hr.deeper _) hsp;have I:Inv (l9 CX P w K mg base N qual scope f cdv A outer s H E) [] (start N vs) H s1:=Gz S hr.hd e0 hl r x;refine wpAny_mono (ht [] s1 (start N vs) H _ I hq) (fun fl s' hs=>?_) fun e s' hs=>hs;have fin:∀ {σ':St} {H':Hp} {v:V} {u:Value},Inv (l9 CX P w K mg base N qual scope f cdv A outer s H E) [] σ' H' s'->RelV v u->Q v H'->CE outer P w H s Q u s' :=
   fun {σ' H' v u} J rv q=>⟨v,H',J.os,J.bare,J.base,J.hok,rv,q⟩
 cases fl with
 | ret u =>
   obtain ⟨v,σ',H',J,rv,q⟩:=hs;exact fin J rv q
 | next =>
   obtain ⟨σ',H',J,q⟩:=hs;exact fin (v:=V.non) (u:=Value.none) J rfl q
 | brk =>
   obtain ⟨_,_,_,q⟩:=hs;exact False.elim q
 | cont =>
   obtain ⟨_,_,_,q⟩:=hs;exact False.elim q
end L2
namespace L2
open PySem PySem.Spec PyProof.Rows
section
variable {X:Cx} {x:Str} {p pos:Pos} {e:Expr} {es:List Expr} {t:TA} {id T:String} {r:List V->Hp->VK->Prop}
def tCB (r:List V->Hp->VK->Prop) (t:TA):TE:=fun σ H Q=>t σ H fun vs H1=>r vs H1 Q
theorem bS (hc:fD X (.builtin id) r) (hg:Gl X x) (hm:X.mg x=none) (hv:bootBuiltins x=some (.builtin id)) (ha:PA X (e::es) t) (hn:x≠"__name__":=by decide) (hdb:(x == ("__debug__":Str))=false:=by decide)
   (he:starEach (e::es) X.env=(false,eval e X.env)::starEach es X.env:=by rfl) (hpl:(backTo pos (starEach es X.env)).any (·.1)=false:=by rfl):PE X (.Call (.Name x p) (e::es) [] pos) (tCB r t):=by
 intro pins s σ H Q I h;refine wpAny_Call_Name_kw (lA I hg hm hv ?_ hn hdb);exact PyProof.Rows.callWith_builtin1 (o9 (ha pos pins s σ H _ I h) fun us s1 vs H1 I1 r1 q1=>hc pins s1 σ H1 vs us Q I1 r1 q1) he hpl
theorem f6 (hc:fD X (.type T) r) (hg:Gl X x) (hm:X.mg x=none) (hv:bootBuiltins x=some (.type T)) (ha:PA X (e::es) t) (hn:x≠"__name__":=by decide) (hdb:(x == ("__debug__":Str))=false:=by decide)
   (he:starEach (e::es) X.env=(false,eval e X.env)::starEach es X.env:=by rfl) (hpl:(backTo pos (starEach es X.env)).any (·.1)=false:=by rfl):PE X (.Call (.Name x p) (e::es) [] pos) (tCB r t):=by
 intro pins s σ H Q I h;refine wpAny_Call_Name_kw (lA I hg hm hv ?_ hn hdb);exact PyProof.Rows.callWith_type1 (o9 (ha pos pins s σ H _ I h) fun us s1 vs H1 I1 r1 q1=>hc pins s1 σ H1 vs us Q I1 r1 q1) he hpl
end
end L2
namespace HT
open PySem PyProof.Rows
section
open PySem.SeqAt
open PySem.AutoSeq1 (wpAny_loadPart')
open PySem.MeetsSeq PySem.MeetsSeq2 PySem.MeetsSeq3
end
section
variable {prog:Program} {w:World} {A:Around} {E:Value->Shared->Prop} {s:Shared}
end
end HT
namespace L2
open PySem PySem.Spec PyProof.Rows
abbrev TO:=St->Hp->(Option Int->Hp->Prop)->Prop
def PO (X:Cx) (e:Option Expr) (t:TO):Prop :=
 ∀ (pins:List (Addr × Obj)) (s:Shared) (σ:St) (H:Hp) (Q:Option Int->Hp->Prop),Inv X pins σ H s->t σ H Q ->
   wpAny (model X.prog X.w) X.A (evalPart e X.env) (fun u s'=>∃ o H',Inv X pins σ H' s'/\IsPart u o/\Q o H') X.xe s
section
variable {X:Cx} {e:Expr} {te:TE} {lo hi:Option Expr} {tl th:TO} {pos p2:Pos}
end
end L2
namespace L2
open PySem PySem.Spec PyProof.Rows
def ixN (n:Nat) (i:Int):Option Nat:=if 0<=i then (if i<n then some i.toNat else none) else if -(n:Int)<=i then some (i+n).toNat else none
def atI {α:Type} (xs:List α) (i:Int):Option α:=(ixN xs.length i).bind fun j=>xs[j]?
theorem EZ {n:Nat} {i:Int} {j:Nat} (h:ixN n i=some j):seqIndex? i n=some j/\j<n/\-(n:Int)<=i/\i<n:=by
 unfold ixN at h;by_cases h0:0<=i
 . rw [if_pos h0] at h;by_cases h1:i<n
   . rw [if_pos h1] at h;have e:i.toNat=j:=Option.some.inj h;exact ⟨by rw [seqIndex_of h0 h1,e],by omega,by omega,h1⟩
   . rw [if_neg h1] at h;cases h
 . rw [if_neg h0] at h;by_cases h1:-(n:Int)<=i
   . rw [if_pos h1] at h;have e:(i+n).toNat=j:=Option.some.inj h;exact ⟨by rw [seqIndex_neg (by omega) h1,e],by omega,h1,by omega⟩
   . rw [if_neg h1] at h;cases h
theorem zN {α:Type} {xs:List α} {i:Int} {v:α} (h:atI xs i=some v):∃ j,seqIndex? i xs.length=some j/\xs[j]?=some v/\j<xs.length/\-(xs.length:Int)<=i/\i<xs.length:=by
 unfold atI at h;cases e:ixN xs.length i with
 | none=>rw [e] at h;cases h
 | some j =>
   rw [e] at h;obtain ⟨h1,h2,h3,h4⟩:=EZ e;exact ⟨j,h1,h,h2,h3,h4⟩
theorem Mg {α:Type} {xs:List α} {j:Nat} {v:α} (h:xs[j]?=some v):atI xs (j:Int)=some v:=by
 have hj:j<xs.length:=(List.getElem?_eq_some_iff.mp h).1;have e:ixN xs.length (j:Int)=some j:=by
   unfold ixN;rw [if_pos (by omega),if_pos (by omega)];simp
 unfold atI;rw [e];exact h
def Mv (b:Expr):Prop:=∀ o i,subscripted b false o i=operate [o,i] (getItem o i)
def IxR (X:Cx) (r:R2):Prop :=
 ∀ (value slice:Expr) (pins:List (Addr × Obj)) (s:Shared) (σ:St) (H:Hp) (x y:V) (v u:Value) (Q:VK),Inv X pins σ H s->RelV x v->RelV y u->r x y H Q ->
   subscripted slice false v u=operate [v,u] (getItem v u)->wpAny (model X.prog X.w) X.A (subscriptTail value slice v u) (EP X pins σ Q) X.xe s
def MtR (X:Cx) (id:String) (r:V->List V->Hp->VK->Prop):Prop :=
 ∀ (pins:List (Addr × Obj)) (s:Shared) (σ:St) (H:Hp) (x:V) (xs:List V) (v:Value) (us:List Value) (Q:VK),Inv X pins σ H s->RelV x v->Vals xs us->r x xs H Q ->
   wpAny (model X.prog X.w) X.A (call (.builtin id) (v::us)) (EP X pins σ Q) X.xe s
section
variable {X:Cx} {a b:Expr} {ta tb:TE} {pos:Pos}
theorem bQ {r:R2} (hr:IxR X r) (ha:PE X a ta) (hb:PE X b tb) (hs:Mv b):PE X (.Subscript a b pos) (tOp r ta tb):=by
 intro pins s σ H Q I h;exact Subscript_ (K6 ha hb I h fun v u s2 x y H2 I2 rx ry q=>hr a b pins s2 σ H2 x y v u Q I2 rx ry q (hs _ _))
def CJ (K:PySem.W.Frag):R2:=fun x y H Q=>∃ p xs i v,x=.ref p/\y=.int i/\SqL K H p xs/\atI xs i=some v/\Q v H
def NJ (K:PySem.W.Frag):R2:=fun x y H Q=>∃ p xs i v,x=.ref p/\y=.int i/\SqT K H p xs/\atI xs i=some v/\Q v H
theorem bW:IxR X (CJ X.K):=by
 intro value slice pins s σ H x y v u Q I rx ry h hs;obtain ⟨p,xs,i,z,rfl,rfl,hq,he,q⟩:=h;cases rx;obtain ⟨t,rfl⟩:=ry;obtain ⟨its,r,pl,hz⟩:=I.list hq;obtain ⟨j,h1,h2,h3,h4,h5⟩:=zN he;obtain ⟨w,ew,rw'⟩:=r.get h2;have hl:=r.length;have hn:=om;have fin:EP X pins σ Q w s:=⟨z,H,I,rw',q⟩;by_cases h0:0<=i
 . have hj:i.toNat=j:=by
     rw [seqIndex_of h0 h5] at h1;exact Option.some.inj h1
   exact item_listR pl.isList h0 (by omega) (by rw [hj];simpa using ew) fin hs
 . have hj:(i+(its.toArray.size:Int)).toNat=j:=by
     rw [seqIndex_neg (by omega) h4] at h1;rw [List.size_toArray,<- hl];exact Option.some.inj h1
   exact subscriptTail_builtinR (x:=w) pl.isList.typeIs slot_list_getitem.lookup
     (wpAny_getItem_list_neg (Q:=fun r s'=>r=w/\EP X pins σ Q r s') pl.isList (by omega) (by rw [List.size_toArray] <;> omega) (by omega) (by rw [hj];simpa using ew) ⟨rfl,fin⟩) hs
theorem ie:IxR X (NJ X.K):=by
 intro value slice pins s σ H x y v u Q I rx ry h hs;obtain ⟨p,xs,i,z,rfl,rfl,hq,he,q⟩:=h;cases rx;obtain ⟨t,rfl⟩:=ry;obtain ⟨its,r,pl,hz⟩:=I.tuple hq;obtain ⟨j,h1,h2,h3,h4,h5⟩:=zN he;obtain ⟨w,ew,rw'⟩:=r.get h2;have hl:=r.length;have hn:=om;have fin:EP X pins σ Q w s:=⟨z,H,I,rw',q⟩;exact subscriptTail_builtinR (x:=w) pl.typeIs slot_tuple_getitem.lookup
   (getItem_tuple (j:=j) (Q:=fun r s'=>r=w/\EP X pins σ Q r s') pl (by omega) (by omega) (by rw [List.size_toArray,<- hl];exact h1) (by simpa using ew) ⟨rfl,fin⟩) hs
theorem Gb (its:List Value) (n j:Nat) (u:Value):Obj.mapSeq (·.setIfInBounds j u) { cls:=.type "list",data:=.seq its.toArray n }={ cls:=.type "list",data:=.seq (its.set j u).toArray n }:=by
 simp [Obj.mapSeq]
theorem Inv.lst {pins:List (Addr × Obj)} {σ:St} {H:Hp} {s:Shared} {p:Addr} {xs:List V} (I:Inv X pins σ H s) (h:H p=some (.lst xs)) :
   ∃ (its:List Value) (n:Nat),Vals xs its/\s.heap.get? p=some { cls:=.type "list",data:=.seq its.toArray n }/\xs.length<=sizeLine:=by
 obtain ⟨z,its,n,r,e⟩:=I.hok p _ h;exact ⟨its,n,r,e,z⟩
theorem Inv.lstUpd {pins:List (Addr × Obj)} {σ:St} {H:Hp} {s:Shared} {p:Addr} {xs ys:List V} {its its':List Value} {n n':Nat} {f:Obj->Obj} (I:Inv X pins σ H s) (h:H p=some (.lst xs))
   (ho:s.heap.get? p=some { cls:=.type "list",data:=.seq its.toArray n }) (hf:f { cls:=.type "list",data:=.seq its.toArray n }={ cls:=.type "list",data:=.seq its'.toArray n' }) (r:Vals ys its') (hz:ys.length<=sizeLine) (t:Nat) :
   Inv X pins σ (upd H p (.lst ys)) { s with heap:=s.heap.update p f,toks:=t }:=by
 have e:(s.heap.update p f).get? p=some { cls:=.type "list",data:=.seq its'.toArray n' }:=by
   rw [Heap.get?_update_self f ho (by rw [hf] <;> rfl),hf]
 refine I.write (x:=p) (e:=p) (by rw [h];trivial) (.inl rfl) (fun b u hb q=>(Heap.get?_update_other _ _ (Ne.symm hb)).trans q) ⟨_,e⟩ ?_;exact ⟨hz,its',n',r,e⟩
def rSetL:V->V->V->Hp->(Hp->Prop)->Prop:=fun o i v H Q=>∃ p xs k j,o=.ref p/\i=.int k/\H p=some (.lst xs)/\ixN xs.length k=some j/\Q (upd H p (.lst (xs.set j v)))
theorem iE:Jw X rSetL:=by
 intro pins s σ H o i v ov iv u Q I ro ri rv h;obtain ⟨p,xs,k,j,rfl,rfl,hp,hj,q⟩:=h;cases ro;obtain ⟨t,rfl⟩:=ri;obtain ⟨its,n,r,ho,hz⟩:=I.lst hp;obtain ⟨h1,h2,h3,h4⟩:=EZ hj;have hl:=r.length;have hn:=om;have I':Inv X pins σ (upd H p (.lst (xs.set j v))) { s with heap:=s.heap.update p (Obj.mapSeq (·.setIfInBounds j u)) } :=
   I.lstUpd hp ho (Gb its n j u) (r.set rv j) (by rw [List.length_set];exact hz) s.toks
 by_cases h0:0<=k
 . have hk:k.toNat=j:=by
     rw [seqIndex_of h0 h4] at h1;exact Option.some.inj h1
   exact PySem.W.ki_setAt ho h0 (by omega) (by rw [List.size_toArray,<- hl];exact h4) (by rw [hk];exact ⟨_,I',q⟩)
 . have hk:(k+(its.toArray.size:Int)).toNat=j:=by
     rw [seqIndex_neg (by omega) h3] at h1;rw [List.size_toArray,<- hl];exact Option.some.inj h1
   exact PySem.W.ki_setBack ho (by omega) (by rw [List.size_toArray,<- hl];exact h3) (by omega) (by rw [hk];exact ⟨_,I',q⟩)
theorem eE:fD X (.builtin "len") (fun xs H Q=>∃ p ys,xs=[.ref p]/\(SqL X.K H p ys\/SqT X.K H p ys)/\Q (.int ys.length) H):=by
 intro pins s σ H xs us Q I r h;obtain ⟨p,ys,rfl,hq,q⟩:=h;obtain ⟨u,rfl,rx⟩:=sk r;cases rx;have hn:=om;rcases hq with hq|hq
 . obtain ⟨its,r',pl,hz⟩:=I.list hq;have hlen:=r'.length;exact Calls.call_len_list pl.isList (by simp only [List.size_toArray] <;> omega) ⟨.int ys.length,H,I.tok _,⟨s.toks+1,by rw [List.size_toArray,hlen]⟩,q⟩
 . obtain ⟨its,r',pl,hz⟩:=I.tuple hq;have hlen:=r'.length;exact len_tuple pl (by simp only [List.size_toArray] <;> omega) ⟨.int ys.length,H,I.tok _,⟨s.toks+1,by rw [List.size_toArray,hlen]⟩,q⟩
theorem jX:fD X (.type "list") (fun xs H Q=>∃ p ys,xs=[.ref p]/\(SqL X.K H p ys\/SqT X.K H p ys)/\∀ l,H l=none->Q (.ref l) (upd H l (.lst ys))):=by
 intro pins s σ H xs us Q I r h;obtain ⟨p,ys,rfl,hq,q⟩:=h;obtain ⟨u,rfl,rx⟩:=sk r;cases rx;have fin:∀ (its:List Value),Vals ys its->ys.length<=sizeLine->∀ (h':Heap) (c':Nat),(∀ b o',s.heap.get? b=some o'->h'.get? b=some o') ->
     h'.get? s.heap.objs.size=some { cls:=.type "list",dict:=none,data:=.seq its.toArray c',slots:=#[] }->EP X pins σ Q (.ref s.heap.objs.size) { s with heap:=h' }:=fun its r' hz h' c' kp e =>
   ⟨.ref s.heap.objs.size,_,I.laid (t':=s.toks) kp (Nat.le_refl _) (show ObjOk X.prog X.w _ h' _ (.lst ys) from ⟨hz,its,c',r',e⟩),rfl,q _ (I.hok.fresh (Nat.le_refl _))⟩
 rcases hq with hq|hq
 . obtain ⟨its,r',pl,hz⟩:=I.list hq;have hlen:=r'.length;obtain ⟨o,ho,hc,n,hd⟩:=pl.isList;exact call_list_seq p (.inl rfl) ho hc hd (fun h' c' kp e=>fin its r' hz h' c' kp e) (by simp only [List.size_toArray] <;> omega)
 . obtain ⟨its,r',pl,hz⟩:=I.tuple hq;have hlen:=r'.length;obtain ⟨o,ho,hc,n,hd⟩:=pl;exact call_list_seq p (.inr rfl) ho hc hd (fun h' c' kp e=>fin its r' hz h' c' kp e) (by simp only [List.size_toArray] <;> omega)
theorem jh:fD X (.type "tuple") (fun xs H Q=>∃ p ys,xs=[.ref p]/\((SqL X.K H p ys/\∀ l,H l=none->Q (.ref l) (upd H l (.tup ys)))\/(SqT X.K H p ys/\Q (.ref p) H))):=by
 intro pins s σ H xs us Q I r h;obtain ⟨p,ys,rfl,h⟩:=h;obtain ⟨u,rfl,rx⟩:=sk r;cases rx;rcases h with ⟨hq,q⟩|⟨hq,q⟩
 . obtain ⟨its,r',pl,hz⟩:=I.list hq;have hlen:=r'.length;refine call_tuple_list pl.isList (fun h' kp=>?_) (by simp only [List.size_toArray] <;> omega);have I1:Inv X pins σ H { s with heap:=h' }:=I.kept (t':=s.toks) kp;have I2:Inv X pins σ (upd H h'.objs.size (.tup ys)) { s with heap:=h'.push { cls:=.type "tuple",data:=.seq its.toArray } } :=
     I1.laid (t':=s.toks) (fun b o e=>Heap.get?_push_of_some _ e) (Nat.le_refl _) (show ObjOk X.prog X.w _ _ _ (.tup ys) from ⟨hz,its,r',IsTup.new _ _⟩)
   exact ⟨.ref h'.objs.size,_,I2,rfl,q _ (I1.hok.fresh (Nat.le_refl _))⟩
 . obtain ⟨its,r',pl,hz⟩:=I.tuple hq;exact call_tuple_same pl ⟨.ref p,H,I,rfl,q⟩
def tyV (K:PySem.W.Frag) (T:String) (x:V) (H:Hp):Prop:=match x with
 | .str _=>T="str"
 | .int _=>T="int"
 | .ref p=>(T="list"/\∃ xs,SqL K H p xs)\/(T="tuple"/\∃ o,K.lookup p=some o/\o.cls=.type "tuple"/\o.dict=none) \/
     (T="dict"/\((∃ kvs,H p=some (.dK kvs))\/∃ kvs,H p=some (.dT kvs)))\/(T="set"/\∃ S n,H p=some (.set S n))
 | _=>False
theorem HJ {pins:List (Addr × Obj)} {σ:St} {H:Hp} {s:Shared} {T:String} {x:V} {v:Value} (I:Inv X pins σ H s) (r:RelV x v) (ty:tyV X.K T x H) :
   s.TypeIs v T/\∀ a,v=.ref a->∃ ob,s.heap.get? a=some ob/\ob.dict=none:=by
 cases x with
 | str z =>
   obtain ⟨t,rfl⟩:=r;cases (show T="str" from ty);exact ⟨typeIs_str s z t,fun _ e=>nomatch e⟩
 | int i =>
   obtain ⟨t,rfl⟩:=r;cases (show T="int" from ty);exact ⟨typeIs_int s i t,fun _ e=>nomatch e⟩
 | ref p =>
   cases r;rcases ty with ⟨rfl,xs,hq⟩|⟨rfl,o,hk,hc,hd⟩|⟨rfl,hk⟩|⟨rfl,S,n,hk⟩
   . obtain ⟨its,_,pl,_⟩:=I.list hq;refine ⟨pl.isList.typeIs,fun a e=>?_⟩;cases e;obtain ⟨o,n,e,c,hd,_⟩:=pl;exact ⟨o,e,hd⟩
   . refine ⟨⟨o,I.kIn p o hk,hc⟩,fun a e=>?_⟩;cases e;exact ⟨o,I.kIn _ o hk,hd⟩
   . have z:∃ o,s.heap.get? p=some o/\o.ExactDict:=by
       rcases hk with ⟨kvs,hk⟩|⟨kvs,hk⟩
       . obtain ⟨_,_,_,_,o,_,_,e,ex,_⟩:=I.hok p _ hk;exact ⟨o,e,ex⟩
       . obtain ⟨_,_,_,_,o,_,_,e,ex,_⟩:=I.hok p _ hk;exact ⟨o,e,ex⟩
     obtain ⟨o,e,ex⟩:=z;refine ⟨⟨o,e,ex.1⟩,fun a e2=>?_⟩;cases e2;exact ⟨o,e,ex.2.1⟩
   . obtain ⟨o,_,_,_,e,ex,_⟩:=I.hok p _ hk;refine ⟨⟨o,e,ex.1⟩,fun a e2=>?_⟩;cases e2;exact ⟨o,e,ex.2.1⟩
 | _=>exact False.elim ty
def KB (K:PySem.W.Frag) (T:String) (r:V->List V->Hp->VK->Prop) (to:TE):TE:=fun σ H Q=>to σ H fun x H1=>tyV K T x H1/\r x [] H1 Q
def tBM (K:PySem.W.Frag) (T:String) (r:V->List V->Hp->VK->Prop) (to:TE) (t:TA):TE:=fun σ H Q=>to σ H fun x H1=>tyV K T x H1/\t σ H1 fun xs H2=>r x xs H2 Q
variable {o e:Expr} {es:List Expr} {to:TE} {t:TA} {name:Str} {apos cpos:Pos} {T id:String} {r:V->List V->Hp->VK->Prop}
theorem CK (pa:PlainAttrs T) (slot:Slot T name id) (hty:typeOf (.builtin id)=pure (.type "method_descriptor")) (hm:MtR X id r) (ho:PE X o to)
   (hbase:attributeBase o name X.env (eval o X.env)=eval o X.env:=by rfl) (hline:(apos.endLine == cpos.line)=true:=by rfl):PE X (.Call (.Attribute o name apos) [] [] cpos) (KB X.K T r to):=by
 intro pins s σ H Q I h;refine wpAny_Call_method0_late hbase hline (bF (ho pins s σ H _ I h) fun v s1 x H1 I1 r1 ⟨ty,q1⟩=>?_);obtain ⟨h1,h2⟩:=HJ I1 r1 ty;exact ⟨T,id,pa,slot,hty,h1,h2,Calls.callWith_builtin rfl (PySem.evalArgs_none (hm pins s1 σ H1 x [] v [] Q I1 r1 .nil q1))⟩
theorem lm (pa:PlainAttrs T) (slot:Slot T name id) (hty:typeOf (.builtin id)=pure (.type "method_descriptor")) (hm:MtR X id r) (ho:PE X o to) (ha:PA X (e::es) t)
   (hbase:attributeBase o name X.env (eval o X.env)=eval o X.env:=by rfl)
   (hfew:((backTo cpos (starEach (e::es) X.env)).all (fun x=>!x.1) && (backToKw cpos (keywordEach [] X.env)).all (fun x=>x.1.isSome)
     && decide ((e::es).length+([]:List Keyword).length+(if ([]:List Keyword).isEmpty then 0 else 1)<30))=true:=by rfl)
   (hline:(apos.endLine == cpos.line)=true:=by rfl) (hs:starEach (e::es) X.env=(false,eval e X.env)::starEach es X.env:=by rfl) (hplain:(backTo cpos (starEach es X.env)).any (·.1)=false:=by rfl) :
   PE X (.Call (.Attribute o name apos) (e::es) [] cpos) (tBM X.K T r to t):=by
 intro pins s σ H Q I h;refine wpAny_Call_method_late hbase hfew hline rfl (bF (ho pins s σ H _ I h) fun v s1 x H1 I1 r1 ⟨ty,q1⟩=>?_);obtain ⟨h1,h2⟩:=HJ I1 r1 ty;refine ⟨T,id,pa,slot,hty,h1,h2,?_⟩;have hA:=ha cpos pins s1 σ H1 _ I1 q1;rw [hs] at hA ⊢;refine Calls.callWith_builtin (by show (false || (backTo cpos (starEach es X.env)).any (·.1))=false;rw [hplain] <;> rfl) (Calls.evalArgs_plain ?_);exact thn hA fun us s2 ⟨vs,H2,I2,r2,q2⟩=>hm pins s2 σ H2 x vs v us Q I2 r1 r2 q2
end
end L2
namespace L2
open PySem PySem.Spec PyProof.Rows
def MtM (X:Cx) (id:String) (r:V->List V->Hp->VK->Prop):Prop :=
 ∀ (pins:List (Addr × Obj)) (s:Shared) (σ:St) (H:Hp) (x:V) (xs:List V) (v:Value) (us:List Value) (Q:VK),Inv X pins σ H s->RelV x v->Vals xs us->r x xs H Q ->
   wpAny (model X.prog X.w) X.A (call (.builtin id) (v::us)) (EP X pins σ Q) X.xe s
theorem Vals.one {x:V} {us:List Value} (h:Vals [x] us):∃ u,us=[u]/\RelV x u:=by
 cases h with
 | cons r t=>cases t;exact ⟨_,rfl,r⟩
theorem Vals.two {x y:V} {us:List Value} (h:Vals [x,y] us):∃ u v,us=[u,v]/\RelV x u/\RelV y v:=by
 cases h with
 | cons r t =>
   obtain ⟨v,e,q⟩:=Vals.one t;subst e;exact ⟨_,v,rfl,r,q⟩
theorem Vals.zero:∀ {us:List Value},Vals [] us->us=[]
 | _,.nil=>rfl
theorem Vals.dropLast {xs:List V} {us:List Value} (h:Vals xs us):Vals xs.dropLast us.dropLast:=by
 induction h with
 | nil=>exact .nil
 | cons r t ih =>
   cases t with
   | nil=>exact .nil
   | cons q t'=>exact .cons r ih
theorem Vals.eraseIdx:∀ {xs:List V} {us:List Value} (i:Nat),Vals xs us->Vals (xs.eraseIdx i) (us.eraseIdx i)
 | _,_,_,.nil=>.nil
 | _,_,0,.cons _ t=>t
 | _,_,i+1,.cons r t=>.cons r (Vals.eraseIdx i t)
theorem Vals.rep {xs:List V} {us:List Value} (h:Vals xs us):∀ k:Nat,Vals (List.replicate k xs).flatten (List.replicate k us).flatten
 | 0=>.nil
 | k+1=>by
   rw [List.replicate_succ,List.replicate_succ,List.flatten_cons,List.flatten_cons];exact Vals.append h (Vals.rep h k)
theorem FQ {α:Type} (l:List α):l.eraseIdx (l.length - 1)=l.dropLast:=by
 induction l with
 | nil=>rfl
 | cons a r ih =>
   cases r with
   | nil=>rfl
   | cons b r =>
     have e:(a::b::r).length - 1=((b::r).length - 1)+1:=by
       have h1:(a::b::r).length=r.length+2:=rfl;have h2:(b::r).length=r.length+1:=rfl;omega
     rw [e,List.eraseIdx_cons_succ,ih]
     all_goals rfl
theorem AD {α:Type}:∀ (l:List α) (i:Nat),(l.eraseIdx i).length<=l.length
 | [],_=>Nat.le_refl _
 | _::_,0=>Nat.le_succ _
 | _::r,i+1=>Nat.succ_le_succ (AD r i)
theorem AQ (its:List Value):∀ (k:Nat) (acc:List Value),
   List.foldl (fun x1 x2=>x1++x2) acc.toArray (List.replicate k its.toArray)=(acc++(List.replicate k its).flatten).toArray
 | 0,acc=>by simp
 | k+1,acc=>by
   have e:acc.toArray++its.toArray=(acc++its).toArray:=by simp
   have e2:(acc++its)++(List.replicate k its).flatten=acc++(List.replicate (k+1) its).flatten:=by
     rw [List.replicate_succ,List.flatten_cons,List.append_assoc]
   rw [<- e2,<- AQ its k (acc++its),<- e,List.replicate_succ,List.foldl_cons]
section
variable {X:Cx} {pins:List (Addr × Obj)} {σ:St} {H:Hp} {s:Shared} {l b:Addr} {xs ys zs:List V}
theorem Inv.lset {its its':List Value} {n:Nat} {f:Array Value->Array Value} {t':Nat} (I:Inv X pins σ H s) (hH:H l=some (.lst xs))
   (e:s.heap.get? l=some { cls:=.type "list",data:=.seq its.toArray n }) (hf:f its.toArray=its'.toArray) (hv:Vals ys its') (hz:ys.length<=sizeLine) :
   Inv X pins σ (upd H l (.lst ys)) { s with heap:=s.heap.update l (Obj.mapSeq f),toks:=t' }:=by
 have q:=PySem.IsL.update e f;rw [hf] at q;refine I.write (x:=l) (e:=l) (by rw [hH];exact trivial) (.inl rfl) (fun b' u hb hu=>(Heap.get?_update_other s.heap (Obj.mapSeq f) (Ne.symm hb)).trans hu) ⟨_,q⟩ ?_;exact ⟨hz,its',_,hv,q⟩
theorem Inv.lnew {its:List Value} {t':Nat} (I:Inv X pins σ H s) (hv:Vals ys its) (hz:ys.length<=sizeLine) :
   Inv X pins σ (upd H s.heap.objs.size (.lst ys)) { s with heap:=s.heap.push { cls:=.type "list",data:=.seq its.toArray },toks:=t' } :=
 I.laid (fun _ _ q=>Heap.get?_push_of_some _ q) (Nat.le_refl _) ⟨hz,its,0,hv,Heap.get?_push_size _ rfl⟩
theorem Inv.fresh (I:Inv X pins σ H s):H s.heap.objs.size=none:=I.hok.fresh (Nat.le_refl _)
theorem Inv.lstM (I:Inv X pins σ H s) (hH:H l=some (.lst xs)):xs.length<=sizeLine/\∃ (its:List Value) (n:Nat),Vals xs its/\xs.length=its.length/\s.heap.get? l=some { cls:=.type "list",data:=.seq its.toArray n }:=by
 obtain ⟨z,its,n,r,e⟩:=I.hok l _ hH;exact ⟨z,its,n,r,r.length,e⟩
theorem Kf {n:Nat} (h:n<=sizeLine):Builtin.List.listTooLong n=false:=by
 unfold Builtin.List.listTooLong;exact decide_eq_false (by omega)
end
section
variable {X:Cx}
def rAppend:V->List V->Hp->VK->Prop:=fun x vs H Q=>∃ l xs y,x=.ref l/\vs=[y]/\H l=some (.lst xs)/\xs.length<sizeLine/\Q .non (upd H l (.lst (xs++[y])))
theorem eZ:MtM X "list.append" rAppend:=by
 intro pins s σ H x vs v us Q I rx rv h;obtain ⟨l,xs,y,rfl,rfl,hH,hz,q⟩:=h;cases rx;obtain ⟨u,rfl,ru⟩:=rv.one;obtain ⟨z,its,n,r,hl,e⟩:=I.lstM hH;refine call_meets F.slot_list_append ⟨_,e,rfl⟩ F.entry_list_append (F.args_list_append_2 _ _) (PySem.list_append l its.toArray n u (by rw [List.size_toArray];omega)) ⟨e,?_⟩;refine ⟨.non,_,I.lset (its':=its++[u]) hH e (by simp) (r.append (.cons ru .nil)) ?_,rfl,q⟩;rw [List.length_append,List.length_singleton];omega
def rPop:V->List V->Hp->VK->Prop:=fun x vs H Q=>∃ l xs y,x=.ref l/\vs=[]/\H l=some (.lst xs)/\xs[xs.length - 1]?=some y/\Q y (upd H l (.lst xs.dropLast))
theorem CG:MtM X "list.pop" rPop:=by
 intro pins s σ H x vs v us Q I rx rv h;obtain ⟨l,xs,y,rfl,rfl,hH,hy,q⟩:=h;cases rx;have hus:=rv.zero;subst hus;obtain ⟨z,its,n,r,hl,e⟩:=I.lstM hH;obtain ⟨u,hu,ru⟩:=r.get hy;have hy':its.toArray[its.toArray.size - 1]?=some u:=by
   show its.toArray[its.length - 1]?=some u;rw [<- Array.getElem?_toList,<- hl];exact hu
 refine call_meets F.slot_list_pop ⟨_,e,rfl⟩ F.entry_list_pop (F.args_list_pop_1 _) (MeetsSeq.list_pop_last l its.toArray n u hy' (by rw [List.size_toArray];omega)) ⟨e,?_⟩;refine ⟨y,_,I.lset (its':=its.dropLast) hH e ?_ r.dropLast ?_,ru,q⟩
 . show its.toArray.eraseIdxIfInBounds (its.toArray.size - 1)=its.dropLast.toArray;rw [List.size_toArray,List.eraseIdxIfInBounds_toArray,FQ]
 . rw [List.length_dropLast];omega
def rPopAt:V->List V->Hp->VK->Prop:=fun x vs H Q=>∃ l xs i k y,x=.ref l/\vs=[.int i]/\H l=some (.lst xs)/\-(2^63)<=i/\i<2^63/\seqIndex? i xs.length=some k/\xs[k]?=some y/\Q y (upd H l (.lst (xs.eraseIdx k)))
theorem Kp:MtM X "list.pop" rPopAt:=by
 intro pins s σ H x vs v us Q I rx rv h;obtain ⟨l,xs,i,k,y,rfl,rfl,hH,h1,h2,hk,hy,q⟩:=h;cases rx;obtain ⟨u,rfl,ru⟩:=rv.one;obtain ⟨t,rfl⟩:=ru;obtain ⟨z,its,n,r,hl,e⟩:=I.lstM hH;obtain ⟨w,hw,rw'⟩:=r.get hy;refine call_meets F.slot_list_pop ⟨_,e,rfl⟩ F.entry_list_pop (F.args_list_pop_2 _ _)
   (MeetsSeq.list_pop_at l its.toArray n i t k w (fitsIndex_both h1 h2) (by rw [List.size_toArray,<- hl];exact hk) (by rw [<- Array.getElem?_toList];exact hw) (by rw [List.size_toArray];omega)) ⟨e,?_⟩
 refine ⟨y,_,I.lset (its':=its.eraseIdx k) hH e ?_ (r.eraseIdx k) ?_,rw',q⟩
 . show its.toArray.eraseIdxIfInBounds k=(its.eraseIdx k).toArray;rw [List.eraseIdxIfInBounds_toArray]
 . have:=AD xs k;omega
def rCat:R2:=fun x y H Q=>∃ l b xs zs,x=.ref l/\y=.ref b/\H l=some (.lst xs)/\H b=some (.lst zs)/\xs.length+zs.length<=sizeLine/\∀ p,H p=none->Q (.ref p) (upd H p (.lst (xs++zs)))
theorem MS:OpR X (binaryOp .Add) rCat:=by
 intro pins s σ H x y v u Q I rx ry h;obtain ⟨l,b,xs,zs,rfl,rfl,hH,hB,hz,q⟩:=h;cases rx;cases ry;obtain ⟨z,its,n,r,hl,e⟩:=I.lstM hH;obtain ⟨z2,its2,n2,r2,hl2,e2⟩:=I.lstM hB;refine PySem.P.add_list e e2 ?_ (by rw [List.size_toArray,List.size_toArray];omega);have ea:its.toArray++its2.toArray=(its++its2).toArray:=by simp
 rw [ea];exact ⟨.ref _,_,I.lnew (t':=s.toks) (r.append r2) (by rw [List.length_append];omega),rfl,q _ I.fresh⟩
def rRep:R2:=fun x y H Q=>∃ l k xs,x=.ref l/\y=.int k/\H l=some (.lst xs)/\-(2^63)<=k/\k<2^63/\xs.length*k.toNat<=sizeLine /\
 ∀ p,H p=none->Q (.ref p) (upd H p (.lst (List.replicate k.toNat xs).flatten))
theorem LU {α:Type} (xs:List α) (k:Nat):(List.replicate k xs).flatten.length=k*xs.length:=by
 induction k with
 | zero=>simp
 | succ k ih=>rw [List.replicate_succ,List.flatten_cons,List.length_append,ih,Nat.succ_mul,Nat.add_comm]
theorem qr:OpR X (binaryOp .Mult) rRep:=by
 intro pins s σ H x y v u Q I rx ry h;obtain ⟨l,k,xs,rfl,rfl,hH,h1,h2,hz,q⟩:=h;cases rx;obtain ⟨t,rfl⟩:=ry;obtain ⟨z,its,n,r,hl,e⟩:=I.lstM hH;have hlen:its.toArray.size*k.toNat<=sizeLine:=by rw [List.size_toArray,<- hl];exact hz
 have hcap:¬ its.toArray.size*k.toNat > (2^63 - 1) / 8:=by
   have:(sizeLine:Nat)<=(2^63 - 1) / 8:=by decide
   omega
 have hfit:¬ (!Builtin.List.listFitsIndex k)=true:=by
   rw [fitsIndex_both h1 h2];exact Bool.false_ne_true
 have hlong:¬ Builtin.List.listTooLong (its.toArray.size*k.toNat)=true:=by
   rw [Kf hlen];exact Bool.false_ne_true
 have hnew:List.foldl (fun x1 x2=>x1++x2) #[] (List.replicate (if its.toArray.isEmpty=true then 0 else k.toNat) its.toArray)=(List.replicate k.toNat its).flatten.toArray:=by
   have f0:∀ m:Nat,List.foldl (fun x1 x2=>x1++x2) #[] (List.replicate m its.toArray)=(List.replicate m its).flatten.toArray:=fun m=>by
     have:=AQ its m [];rw [List.nil_append] at this;exact this
   rw [f0];cases its with
   | nil=>simp
   | cons a r'=>rw [if_neg (by simp)]
 refine wpAny_binaryOp_repeat_ref (T:="list") (U:="int") (by decide) ⟨_,e,rfl⟩ (fun s'=>typeIs_int s' k t) noFill_list_mul F.fills_int_mul F.slot_int_rmul repeat_list F.slot_int_index.lookup
   (call_meets F.slot_int_rmul (typeIs_int s k t) F.entry_int_rmul (F.args_int_rmul_2 _ _) (int___rmul___int_list k t l its.toArray n)
     ⟨e,rfl,⟨_,e,rfl⟩,call_meets F.slot_list_mul ⟨_,e,rfl⟩ F.entry_list_mul (F.args_list_mul_2 _ _) (AutoListH.list___mul___list_int_3 l its.toArray n k t hfit hcap hlong) ⟨e,?_⟩⟩)
 rw [hnew];exact ⟨.ref _,_,I.lnew (t':=s.toks) (r.rep k.toNat) (by rw [LU,Nat.mul_comm];exact hz),rfl,q _ I.fresh⟩
end
section
variable {prog:Program} {w:World} {A:Around} {E:Value->Shared->Prop} {s:Shared}
set_option maxRecDepth 100000 in
end
section
variable {X:Cx}
end
end L2
namespace L2
open PySem PySem.Spec PyProof.Rows
section
variable {κ:Type} [DecidableEq κ]
def kY (kvs:List (κ × V)) (k:κ):Option V:=(kvs.find? fun kv=>decide (kv.1=k)).map (·.2)
def gW (kvs:List (κ × V)) (k:κ) (v:V):List (κ × V) :=
 if (kvs.any fun kv=>decide (kv.1=k))=true then kvs.map (fun kv=>if kv.1=k then (kv.1,v) else kv) else kvs++[(k,v)]
theorem rJ {p:κ × V} {r:List (κ × V)} {k:κ} (e:p.1=k):kY (p::r) k=some p.2:=by simp [kY,List.find?_cons,e]
theorem rz {p:κ × V} {r:List (κ × V)} {k:κ} (e:¬ p.1=k):kY (p::r) k=kY r k:=by simp [kY,List.find?_cons,e]
theorem xn (k:κ):∀ kvs:List (κ × V),(kvs.any fun kv=>decide (kv.1=k))=(kY kvs k).isSome
 | []=>rfl
 | p::r=>by
   rw [List.any_cons];by_cases e:p.1=k
   . simp only [rJ e,decide_eq_true e,Bool.true_or,Option.isSome_some]
   . rw [rz e,decide_eq_false e,Bool.false_or];exact xn k r
theorem pp (kvs:List (κ × V)) (k:κ) (v:V):(gW kvs k v).length<=kvs.length+1:=by
 unfold gW;split
 . rw [List.length_map];omega
 . rw [List.length_append,List.length_cons,List.length_nil];omega
theorem La {kvs:List (κ × V)} {k:κ} (v:V) (h:kY kvs k=none):gW kvs k v=kvs++[(k,v)]:=by
 unfold gW;rw [xn,h];exact if_neg (by decide)
theorem RelO.isSome_eq {o:Option V} {u:Option Value} (r:RelO o u):o.isSome=u.isSome:=by
 cases o with
 | none=>cases u with
   | none=>rfl
   | some _=>exact (show False from r).elim
 | some _=>cases u with
   | none=>exact (show False from r).elim
   | some _=>rfl
theorem KV.val {kvs:List (κ × V)} {vs:List (κ × Value)} (r:KV kvs vs) (k:κ):RelO (kY kvs k) (valueAt vs k):=by
 unfold KV at r
 induction r with
 | nil=>exact True.intro
 | @cons p q ps qs h t ih =>
   obtain ⟨h1,h2⟩:=h;by_cases e:p.1=k
   . have e':q.1=k:=h1.symm.trans e;have b:valueAt (q::qs) k=some q.2:=(by simp [valueAt,List.find?_cons,e']);rw [rJ e,b];exact h2
   . have e':¬ q.1=k:=fun z=>e (h1.trans z);have b:valueAt (q::qs) k=valueAt qs k:=(by simp [valueAt,List.find?_cons,e']);rw [rz e,b];exact ih
theorem KV.any {kvs:List (κ × V)} {vs:List (κ × Value)} (r:KV kvs vs) (k:κ):(kvs.any fun kv=>decide (kv.1=k))=vs.any fun kv=>decide (kv.1=k):=by
 unfold KV at r
 induction r with
 | nil=>rfl
 | cons h t ih=>rw [List.any_cons,List.any_cons,ih,h.1]
theorem KV.repl {kvs:List (κ × V)} {vs:List (κ × Value)} (r:KV kvs vs) (k:κ) {y:V} {u:Value} (ry:RelV y u) :
   KV (kvs.map fun kv=>if kv.1=k then (kv.1,y) else kv) (vs.map fun kv=>if kv.1=k then (kv.1,u) else kv):=by
 unfold KV at r ⊢
 induction r with
 | nil=>exact .nil
 | @cons p q ps qs h t ih =>
   rw [List.map_cons,List.map_cons];refine .cons ?_ ih;obtain ⟨h1,h2⟩:=h;by_cases e:p.1=k
   . rw [if_pos e,if_pos (h1.symm.trans e)];exact ⟨h1,ry⟩
   . rw [if_neg e,if_neg (fun z=>e (h1.trans z))];exact ⟨h1,h2⟩
theorem KV.put {kvs:List (κ × V)} {vs:List (κ × Value)} (r:KV kvs vs) (k:κ) {y:V} {u:Value} (ry:RelV y u):KV (gW kvs k y) (stored vs k u):=by
 unfold gW stored;rw [r.any k];by_cases e:(vs.any fun kv=>decide (kv.1=k))=true
 . rw [if_pos e,if_pos e];exact r.repl k ry
 . rw [if_neg e,if_neg e];exact Paired.snoc r ⟨rfl,ry⟩
theorem KV.length {kvs:List (κ × V)} {vs:List (κ × Value)} (r:KV kvs vs):kvs.length=vs.length:=Paired.length r
end
theorem BA {P:Program} {w:World} {k:Key} {u:Value} (r:RelV (kV k) u):(da P w).is k u=true:=by
 cases k with
 | inl i=>obtain ⟨t,e⟩:=(show ∃ t,u=Value.int i t from r);subst e;exact D8 P w i t
 | inr x=>obtain ⟨t,e⟩:=(show ∃ t,u=Value.str x t from r);subst e;exact D6 P w x t
theorem AI {P:Program} {w:World}:∀ {ks:List Key} {us:List Value},Vals (ks.map kV) us->ItemsAre (da P w) ks us
 | [],_,r=>by rw [List.map_nil] at r;cases r;exact .nil
 | k::ks,_,r=>by
   rw [List.map_cons] at r;cases r with
   | cons h t=>exact .cons (BA h) (AI t)
abbrev KT (H:Hp):List (List Key × V)->List (List Key × Addr × Value)->Prop:=Paired fun p q=>p.1=q.1/\H q.2.1=some (.tup (p.1.map kV))/\RelV p.2 q.2.2
theorem KT.val {H:Hp} {kvs:List (List Key × V)} {xs:List (List Key × Addr × Value)} (r:KT H kvs xs) (k:List Key):RelO (kY kvs k) ((atKey xs k).map (·.2)):=by
 induction r with
 | nil=>exact True.intro
 | @cons p q ps qs h t ih =>
   obtain ⟨h1,_,h2⟩:=h;by_cases e:p.1=k
   . have e':q.1=k:=h1.symm.trans e;have b:atKey (q::qs) k=some q.2:=(by simp [atKey,List.find?_cons,e']);rw [rJ e,b];exact h2
   . have e':¬ q.1=k:=fun z=>e (h1.trans z);have b:atKey (q::qs) k=atKey qs k:=(by simp [atKey,List.find?_cons,e']);rw [rz e,b];exact ih
theorem KT.repl {H:Hp} {kvs:List (List Key × V)} {xs:List (List Key × Addr × Value)} (r:KT H kvs xs) (k:List Key) {y:V} {u:Value} (ry:RelV y u) :
   KT H (kvs.map fun kv=>if kv.1=k then (kv.1,y) else kv) (xs.map (putAt k u)):=by
 induction r with
 | nil=>exact .nil
 | @cons p q ps qs h t ih =>
   rw [List.map_cons,List.map_cons];refine .cons ?_ ih;obtain ⟨h1,h2,h3⟩:=h;unfold putAt;by_cases e:p.1=k
   . rw [if_pos e,if_pos (h1.symm.trans e)];exact ⟨h1,h2,ry⟩
   . rw [if_neg e,if_neg (fun z=>e (h1.trans z))];exact ⟨h1,h2,h3⟩
theorem KT.put {H:Hp} {kvs:List (List Key × V)} {xs:List (List Key × Addr × Value)} (r:KT H kvs xs) (k:List Key) {b:Addr} {y:V} {u:Value} (hb:H b=some (.tup (k.map kV))) (ry:RelV y u) :
   KT H (gW kvs k y) (storedH xs k b u):=by
 have e:(kvs.any fun kv=>decide (kv.1=k))=(atKey xs k).isSome:=by
   rw [xn,(r.val k).isSome_eq,Option.isSome_map]
 unfold gW storedH;rw [e];by_cases q:(atKey xs k).isSome=true
 . rw [if_pos q,if_pos q];exact r.repl k ry
 . rw [if_neg q,if_neg q];exact Paired.snoc r ⟨rfl,hb,ry⟩
theorem KT.keeps {H H':Hp} {kvs:List (List Key × V)} {xs:List (List Key × Addr × Value)} (r:KT H kvs xs) (ht:∀ b ys,H b=some (.tup ys)->H' b=some (.tup ys)):KT H' kvs xs :=
 Paired.mapP r fun _ _ z=>⟨z.1,ht _ _ z.2.1,z.2.2⟩
section
variable {P:Program} {w:World} {H:Hp} {h:Heap} {a:Addr}
theorem LB {u:HO} (ok:HOk P w H h) (e:Rd H a u):ObjOk P w H h a u:=e.ok ok
theorem F1 {kvs:List (Key × V)} (ok:HOk P w H h) (e:Rd H a (.dK kvs)):kvs.length<=sizeLine/\(a == sysModules)=false/\∃ vs,KV kvs vs/\h.DictOf (da P w) a vs :=
 show ObjOk P w H h a (.dK kvs) from LB ok e
theorem LL {kvs:List (Key × V)} (ok:HOk P w H h) (e:H a=some (.dK kvs)):kvs.length<=sizeLine/\(a == sysModules)=false/\∃ vs,KV kvs vs/\h.DictOf (da P w) a vs:=F1 ok (.inl e)
theorem Cl {ks:List Key} (ok:HOk P w H h) (e:H a=some (.tup (ks.map kV))):(tupleKind (da P w)).is h ks a:=by
 obtain ⟨_,its,r,o,h1,h2,n,h3⟩:=(show ObjOk P w H h a (.tup (ks.map kV)) from ok a _ e);exact ⟨o,its.toArray,n,h1,h2,h3,by simpa using AI r⟩
theorem LR {kvs:List (List Key × V)} (ok:HOk P w H h) (e:Rd H a (.dT kvs)):kvs.length<=sizeLine/\(a == sysModules)=false /\
   ∃ xs,KT H kvs xs/\h.DictOfH (tupleKind (da P w)) a xs:=by
 obtain ⟨z,y,xs,r,o,es,ep,h1,h2,h3,h4,h5⟩:=(show ObjOk P w H h a (.dT kvs) from LB ok e);refine ⟨z,y,xs,r,o,es,ep,h1,h2,h3,h4,fun x hx=>?_,h5⟩;have all:∀ {l:List (List Key × V)} {m:List (List Key × Addr × Value)},KT H l m->∀ x∈m,(tupleKind (da P w)).is h x.1 x.2.1:=by
   intro l m q
   induction q with
   | nil=>intro x hx;exact nomatch hx
   | @cons p q ps qs hq t ih =>
     intro x hx;rcases List.mem_cons.mp hx with e|hx
     . subst e;exact Cl ok (by rw [<- hq.1];exact hq.2.1)
     . exact ih x hx
 exact all r x hx
theorem Ox {kvs:List (List Key × V)} (ok:HOk P w H h) (e:H a=some (.dT kvs)):kvs.length<=sizeLine/\(a == sysModules)=false /\
   ∃ xs,KT H kvs xs/\h.DictOfH (tupleKind (da P w)) a xs:=LR ok (.inl e)
end
def DGet (H:Hp) (a:Addr) (y:V) (r:Option V):Prop :=
 (∃ kvs k,Rd H a (.dK kvs)/\y=kV k/\r=kY kvs k)\/∃ kvs k b,Rd H a (.dT kvs)/\y=.ref b/\H b=some (.tup (k.map kV))/\r=kY kvs k
def DPut (H:Hp) (a:Addr) (y v:V) (H':Hp):Prop :=
 (∃ kvs k,H a=some (.dK kvs)/\y=kV k/\kvs.length<sizeLine/\H'=upd H a (.dK (gW kvs k v))) \/
 ∃ kvs k b,H a=some (.dT kvs)/\y=.ref b/\H b=some (.tup (k.map kV))/\kvs.length<sizeLine/\H'=upd H a (.dT (gW kvs k v))
theorem DGet.k {H:Hp} {a:Addr} {kvs:List (Key × V)} {k:Key} (e:H a=some (.dK kvs)):DGet H a (kV k) (kY kvs k):=.inl ⟨kvs,k,.inl e,rfl,rfl⟩
theorem DPut.k {H:Hp} {a:Addr} {kvs:List (Key × V)} {k:Key} {v:V} (e:H a=some (.dK kvs)) (hl:kvs.length<sizeLine):DPut H a (kV k) v (upd H a (.dK (gW kvs k v))):=.inl ⟨kvs,k,e,rfl,hl,rfl⟩
section
variable {X:Cx} {pins:List (Addr × Obj)} {σ:St} {H:Hp} {s:Shared} {a:Addr} {y v:V} {u r:Value} {o:Option V} {A:Around} {E:Value->Shared->Prop}
theorem Inv.big (I:Inv X pins σ H s):sysModules<s.heap.objs.size:=by
 have h:mainGlobals<s.heap.objs.size:=(I.mod.glob.keeps I.bk).lt;exact Nat.lt_trans (by decide) h
theorem Mc {Q:Value->Shared->Prop} (hu:A.units+1<cLine) (I:Inv X pins σ H s) (g:DGet H a y o) (ry:RelV y u) (h:∀ s',Inv X pins σ H s'->Q (.bool (!o.isSome)) s') :
   wpAny (model X.prog X.w) A (compareOp .NotIn u (.ref a)) Q E s:=by
 rcases g with ⟨kvs,k,e,ey,l⟩|⟨kvs,k,b,e,ey,eb,l⟩
 . subst ey;obtain ⟨z,hd,vs,rel,dd⟩:=F1 I.hok e;refine wpAny_notIn_of (BA ry) hd dd.mapOf ?_;rw [<- (rel.val k).isSome_eq,<- l];exact h _ (I.tok _)
 . subst ey;cases (show u=Value.ref b from ry);obtain ⟨z,hd,xs,rel,dd⟩:=LR I.hok e;refine wpAny_notIn_heap (tupleKind_room_in1 hu) (Cl I.hok eb) hd dd ?_;have q:=(rel.val k).isSome_eq;rw [Option.isSome_map] at q;rw [<- q,<- l];exact h _ (I.tok _)
theorem Ai {h':Heap} {t':Nat} {ob:HO} (I:Inv X pins σ H s) (mu:Mut (H a)) (hs:Heap.SameBut a s.heap h') (he:∃ q,h'.get? a=some q) (new:ObjOk X.prog X.w (upd H a ob) h' a ob) :
   Inv X pins σ (upd H a ob) { s with heap:=h',toks:=t' } :=
 I.write (x:=a) (e:=a) mu (.inl rfl) (fun b q hb z=>(hs.2 b hb).trans z) he new
theorem GL {P:Program} {w:World} {H':Hp} {h':Heap} {kvs:List (Key × V)} {vs:List (Key × Value)} (z:kvs.length<=sizeLine) (hd:(a == sysModules)=false) (rel:KV kvs vs) (dd:h'.DictOf (da P w) a vs) :
   ObjOk P w H' h' a (.dK kvs):=⟨z,hd,vs,rel,dd⟩
theorem HP {H':Hp} {Q:Unit->Shared->Prop} (hu:A.units+1<cLine) (I:Inv X pins σ H s) (g:DPut H a y v H') (ry:RelV y u) (rv:RelV v r) (h:∀ s',Inv X pins σ H' s'->Q () s') :
   wpAny (model X.prog X.w) A (setItem (.ref a) u r) Q E s:=by
 rcases g with ⟨kvs,k,e,ey,l,eH⟩|⟨kvs,k,b,e,ey,eb,l,eH⟩
 . subst ey eH;obtain ⟨z,hd,vs,rel,dd⟩:=LL I.hok e;have hz:vs.length<=sizeLine:=by rw [<- rel.length];exact z
   have hl:(gW kvs k v).length<=sizeLine:=by have:=pp kvs k v;omega
   refine wpAny_setItem_pairs (hsz:=hz) (BA ry) dd fun h' dd' hs=>h _ ?_;have he:∃ q,h'.get? a=some q:=let ⟨q,_,_,hq,_⟩:=dd';⟨q,hq⟩;exact Ai I (by rw [e];exact True.intro) hs he (GL hl hd (rel.put k rv) dd')
 . subst ey eH;cases (show u=Value.ref b from ry);obtain ⟨z,hd,xs,rel,dd⟩:=Ox I.hok e;have hz:xs.length<=sizeLine:=by rw [<- Paired.length rel];exact z
   have hl:(gW kvs k v).length<=sizeLine:=by have:=pp kvs k v;omega
   refine wpAny_setItem_heap (hsz:=hz) (tupleKind_room_in1 hu) (Cl I.hok eb) dd fun h' dd' hs=>h _ ?_;obtain ⟨q,es,ep,hq,h2,h3,h4,_,h5⟩:=dd';refine Ai I (by rw [e];exact True.intro) hs ⟨q,hq⟩ ⟨hl,hd,_,(rel.put k eb rv).keeps fun c ys ec=>?_,q,es,ep,hq,h2,h3,h4,h5⟩;rw [ar (gm ec e (fun z=>nomatch z))];exact ec
end
section
variable {X:Cx} {pins:List (Addr × Obj)} {σ:St} {H:Hp} {s:Shared} {a:Addr} {kvs:List (Key × V)} {k:Key} {u:Value} {A:Around} {E:Value->Shared->Prop}
theorem OB {Q:Value->Shared->Prop} (I:Inv X pins σ H s) (e:Rd H a (.dK kvs)) (h:∀ t s',Inv X pins σ H s'->Q (.int kvs.length t) s'):wpAny (model X.prog X.w) A (call (.builtin "len") [.ref a]) Q E s:=by
 obtain ⟨z,hd,vs,rel,dd⟩:=F1 I.hok e;refine call_len_dict hd dd (by rw [<- rel.length];rw [sizeLine_eq] at z;omega) ?_;rw [<- rel.length];exact h _ _ (I.tok _)
end
def LI (td ty:TE):TE:=fun σ H Q=>td σ H fun x H1=>ty σ H1 fun y H2=>∃ a v,x=.ref a/\DGet H2 a y (some v)/\Q v H2
def Nz (ty td:TE):TE:=fun σ H Q=>ty σ H fun y H1=>td σ H1 fun x H2=>∃ a o,x=.ref a/\DGet H2 a y o/\Q (.bl o.isSome) H2
def zY (ty td:TE):TE:=fun σ H Q=>ty σ H fun y H1=>td σ H1 fun x H2=>∃ a o,x=.ref a/\DGet H2 a y o/\Q (.bl (!o.isSome)) H2
def Gq (td ty tv:TE):TS:=fun D σ H=>tv σ H fun v H1=>td σ H1 fun x H2=>ty σ H2 fun y H3=>∃ a H4,x=.ref a/\DPut H3 a y v H4/\D.nx σ H4
section
variable {X:Cx} {o i e value:Expr} {pos pos' tpos:Pos} {td ty tv:TE}
theorem GI (hu:X.A.units+1<cLine) (hi:PE X i ty) (ho:PE X o td):PC X .NotIn i o (zY ty td):=by
 intro pins s σ H Q I h;refine bF (hi pins s σ H _ I h) fun iv s1 y H1 I1 ry q1=>bF (ho pins s1 σ H1 _ I1 q1) fun u s2 x H2 I2 rx ⟨a,ov,ex,g,q2⟩=>?_;subst ex;obtain rfl:u=Value.ref a:=rx;exact Mc hu I2 g ry fun s3 I3=>⟨.bl (!ov.isSome),H2,I3,rfl,q2⟩
theorem Mu (hu:X.A.units+1<cLine) (ho:PE X o td) (hi:PE X i ty) (hv:PE X value tv) (hs:swapsWith value (some (.Subscript o i pos')) pos.line X.env=pure false) :
   PS X (.Assign [.Subscript o i pos'] value pos) (Gq td ty tv):=by
 intro pins s σ H D I h;refine wpAny_Assign_Subscript (bF (hv pins s σ H _ I h) fun r s1 v H1 I1 rv q1=>bF (ho pins s1 σ H1 _ I1 q1) fun u s2 x H2 I2 rx q2=>bF (hi pins s2 σ H2 _ I2 q2) fun iv s3 y H3 I3 ry ⟨a,H4,ex,g,q3⟩=>?_) hs;subst ex;obtain rfl:u=Value.ref a:=rx;exact HP hu I3 g ry rv fun s4 I4=>⟨σ,H4,I4,q3⟩
end
theorem Ig {P:Program} {w:World} {H:Hp} (h:Heap) (hb:sysModules<h.objs.size):ObjOk P w H (h.push { cls:=.type "dict",data:=.dict #[] }) h.objs.size (.dK []) :=
 ⟨Nat.zero_le _,beq_eq_false_iff_ne.mpr (Ne.symm (Nat.ne_of_lt hb)),[],.nil,Heap.DictOf.new h⟩
def GU:TE:=fun _ H Q=>∀ p,H p=none->Q (.ref p) (upd H p (.dK []))
def GX:TE:=fun _ H Q=>∀ p,H p=none->Q (.ref p) (upd H p (.dT []))
section
variable {X:Cx} {pos:Pos}
end
def qG:List (TE × TE)->St->Hp->(List (V × V)->Hp->Prop)->Prop
 | [],_,H,Q=>Q [] H
 | (tk,tv)::r,σ,H,Q=>tk σ H fun x H1=>tv σ H1 fun y H2=>qG r σ H2 fun ps H3=>Q ((x,y)::ps) H3
abbrev VV:List (V × V)->List (Value × Value)->Prop:=Paired fun p q=>RelV p.1 q.1/\RelV p.2 q.2
def PPs (X:Cx) (pos:Pos) (keys:List (Option Expr)) (values:List Expr) (trs:List (TE × TE)):Prop :=
 ∀ (pins:List (Addr × Obj)) (s:Shared) (σ:St) (H:Hp) (Q:List (V × V)->Hp->Prop),Inv X pins σ H s->qG trs σ H Q ->
   wpAny (model X.prog X.w) X.A (evalPairs (pairTrees keys values X.env pos)) (fun vs s'=>∃ ps H',Inv X pins σ H' s'/\VV ps vs/\Q ps H') X.xe s
theorem MK {X:Cx} {pos:Pos}:PPs X pos [] [] []:=fun pins s σ H Q I h=>pairTrees_nil_walk ⟨[],H,I,.nil,h⟩
theorem Jd {X:Cx} {pos:Pos} {k v:Expr} {ks:List (Option Expr)} {vs:List Expr} {tk tv:TE} {trs:List (TE × TE)} (hk:PE X k tk) (hv:PE X v tv) (hr:PPs X pos ks vs trs) :
   PPs X pos (some k::ks) (v::vs) ((tk,tv)::trs):=fun pins s σ H Q I h =>
 pairTrees_cons_walk (bF (hk pins s σ H _ I h) fun u s1 x H1 I1 rx q1=>bF (hv pins s1 σ H1 _ I1 q1) fun w2 s2 y H2 I2 ry q2 =>
   thn (hr pins s2 σ H2 _ I2 q2) fun ws s3 ⟨ps,H3,I3,rel,q3⟩=>⟨(x,y)::ps,H3,I3,.cons ⟨rx,ry⟩ rel,q3⟩)
def qB (kvs more:List (Key × V)):List (Key × V):=more.foldl (fun acc kv=>gW acc kv.1 kv.2) kvs
theorem KV.merge:∀ {more:List (Key × V)} {rs:List (Key × Value)} {kvs:List (Key × V)} {vs:List (Key × Value)},KV more rs->KV kvs vs->KV (qB kvs more) (merged vs rs):=by
 intro more rs kvs vs r;unfold KV at r
 induction r generalizing kvs vs with
 | nil=>intro q;exact q
 | @cons p q ps qs h t ih =>
   intro r0;have e:KV (gW kvs p.1 p.2) (stored vs q.1 q.2):=by
     have:=r0.put p.1 h.2;rw [<- h.1];exact this
   exact ih e
theorem sZ:∀ (more kvs:List (Key × V)),(qB kvs more).length<=kvs.length+more.length
 | [],kvs=>by show kvs.length<=kvs.length+0;omega
 | p::r,kvs=>by
   have h1:=sZ r (gW kvs p.1 p.2);have h2:=pp kvs p.1 p.2;show (qB (gW kvs p.1 p.2) r).length<=_;rw [List.length_cons];omega
theorem yM {P:Program} {w:World}:∀ {kvs:List (Key × V)} {ws:List (Value × Value)},VV (kvs.map fun kv=>(kV kv.1,kv.2)) ws->∃ rs,Carries (da P w) ws rs/\KV kvs rs
 | [],_,r=>by rw [List.map_nil] at r;cases r;exact ⟨[],True.intro,.nil⟩
 | p::kvs,_,r=>by
   rw [List.map_cons] at r;cases r with
   | @cons a b as bs h t =>
     obtain ⟨rs,c,q⟩:=yM (P:=P) (w:=w) t;obtain ⟨b1,b2⟩:=b;exact ⟨(p.1,b2)::rs,⟨BA h.1,rfl,c⟩,.cons ⟨rfl,h.2⟩ q⟩
def FS (trs:List (TE × TE)):TE:=fun σ H Q=>∀ p,H p=none->qG trs σ (upd H p (.dK [])) fun ps H2=>H2 p=some (.dK [])/\∃ kvs:List (Key × V),ps=kvs.map (fun kv=>(kV kv.1,kv.2))/\kvs.length<=15/\Q (.ref p) (upd H2 p (.dK (qB [] kvs)))
theorem Mo {X:Cx} {pos:Pos} {keys:List (Option Expr)} {values:List Expr} {trs:List (TE × TE)} (h:PPs X pos keys values trs) (hall:keys.all (·.isSome)=true) (hl:keys.length=values.length) (h0:keys≠[])
   (h15:keys.length<=15):PE X (.Dict keys values pos) (FS trs):=by
 intro pins s σ H Q I q;have hn:=I.hok.fresh (Nat.le_refl s.heap.objs.size);have I1:=I.laid (a:=s.heap.objs.size) (o:=.dK []) (h':=s.heap.push { cls:=.type "dict",data:=.dict #[] }) (t':=s.toks) (fun _ _ q=>Heap.get?_push_of_some _ q) (Nat.le_refl _) (Ig s.heap I.big);refine wpAny_Dict_walk (knd:=da X.prog X.w) hall hl h0 h15 (thn (h pins _ σ _ _ I1 (q _ hn)) fun ws s2 ⟨ps,H2,I2,rel,e,kvs,ep,lk,q2⟩=>?_);subst ep;obtain ⟨rs,c,rk⟩:=yM (P:=X.prog) (w:=X.w) rel;obtain ⟨z,hd,vs0,r0,dd⟩:=LL I2.hok e;cases r0;refine ⟨rs,c,dd,fun h' dd' hs=>⟨.ref s.heap.objs.size,_,?_,rfl,q2⟩⟩;have hz:(qB [] kvs).length<=sizeLine:=by
   have h1:=sZ kvs [];rw [List.length_nil] at h1;rw [sizeLine_eq];omega
 have he:∃ q,h'.get? s.heap.objs.size=some q:=let ⟨q,_,_,hq,_⟩:=dd';⟨q,hq⟩;exact Ai I2 (by rw [e];exact True.intro) hs he (GL hz hd (rk.merge .nil) dd')
section
variable {X:Cx} {pins:List (Addr × Obj)} {σ:St} {H:Hp} {s:Shared} {a:Addr} {y d:V} {u r:Value} {o:Option V} {A:Around} {E:Value->Shared->Prop}
end
section
variable {X:Cx} {o e f:Expr} {apos cpos:Pos} {td ty tx:TE}
end
section
variable {X:Cx} {pins:List (Addr × Obj)} {σ:St} {H:Hp} {s:Shared} {a:Addr} {kvs:List (Key × V)} {A:Around} {E:Value->Shared->Prop}
end
section
variable {X:Cx} {pins:List (Addr × Obj)} {σ:St} {H:Hp} {s:Shared} {a:Addr} {y:V} {u:Value} {A:Around} {E:Value->Shared->Prop}
end
end L2
namespace Att
open PySem PySem.W PySem.Calls PyProof.Rows
theorem yX {P:Params} {h:Heap}:∀ (ns:List Int) (vs:List Value),WellAll P h vs (ns.map WData.int)->IntsAre vs ns:=by
 intro ns
 induction ns with
 | nil =>
   intro vs w;rw [List.map_nil] at w;cases w;exact .nil
 | cons n ns ih =>
   intro vs w;rw [List.map_cons] at w;cases w with
   | cons a b =>
     cases a;exact .cons _ _ (ih _ b)
theorem Hr {l:OpenLaw} {n:Nat} (hn:l.most=some n) {P:Params} {h:Heap} {args:List WData} {vals:List Value}
   (hpre:l.row.toRowW.claim.pre args=true) (hwl:WellAll P h vals args) :
   ∃ a vs ns,vals=[Value.ref a]/\args=[WData.list (ns.map WData.int)]/\h.get? a=some { cls:=.type "list",data:=.seq vs.toArray }/\IntsAre vs ns/\ns.length<=n:=by
 have hsh:WShape.hasAll [] args [.list .int]=true:=(pre_splitW hpre).1;have hc:l.pre.holds [] { args:=args }=true:=(pre_splitW hpre).2;obtain ⟨d,r,rfl,h1,h2⟩:=hasAllW_cons hsh;obtain rfl:=hasAllW_nil h2;obtain ⟨xs,rfl,h3⟩:=hasW_list h1;obtain ⟨ns,rfl⟩:=items_int h3;have hlen:ns.length<=n:=by
   unfold OpenLaw.pre at hc;have h4:(WTm.not (.lt (.lit (.int (n:Int))) (.len (.arg 0)))).holds [] { args:=[.list (ns.map .int)] }=true:=by
     have h4:=(holds_andW hc).1;rw [hn] at h4;exact h4
   have h5:=condW_of h4 (w_not (w_lt w_lit (w_len_list (w_arg rfl))));rw [List.length_map] at h5;refine Nat.le_of_not_lt fun q=>?_;have q':(n:Int)<((ns.length:Nat):Int):=by omega
   first
     | (rw [decide_eq_true q'] at h5;exact absurd h5 (by decide))
     | (simp at h5;omega)
 cases hwl with
 | cons w1 w2 =>
   cases w2;cases w1 with
   | list ho hall=>exact ⟨_,_,ns,rfl,rfl,ho,yX ns _ hall,hlen⟩
theorem HM (l:OpenLaw) (args:List WData):l.row.toRowW.claim.post args (.bool true) args=true :=
 postW_of (r:=l.row.toRowW) (X:=(true == true))
   (show WShape.has [] (.bool true) .bool=true by first|rfl|decide|simp [WShape.has,WShape.arms,WShape.armsAll])
   (show (WTm.eq .res (.lit (.bool true))).value [] { args:=args,res:=some (.bool true),after:=args }=some (.bool (true == true)) from w_eq_bool (w_res rfl) w_lit) rfl
theorem attach_call {l:OpenLaw} {n:Nat} {q:Program} {loose:List Str} {XP:(Str->Option Value)->Heap->Prop} {YP:World->Heap->Prop} {d:DefRec}
   (hn:l.most=some n) (hdf:d.params.defaults=[])
   (call:∀ (w:World) (s₀ s₁:Shared) (mg mb:Str->Option Value) (fa:Addr) (o:Obj) (pm cd doc:Value) (a:Addr) (vs:List Value) (ns:List Int),
     Ground q loose [] XP w s₀ mg mb s₁.heap->YP w s₁.heap ->
     s₁.heap.get? fa=some o->o.data=.func (docDef d.name d.params d.body d.scope pm cd doc)->s₁.heap.CodeRec cd d.name->mg d.name=some (.ref fa) ->
     s₁.heap.get? a=some { cls:=.type "list",data:=.seq vs.toArray }->IntsAre vs ns->ns.length<=n->s₁.gens=#[] ->
     codeAny (model l.prog w) callerA (.call (.ref fa) ⟨[.ref a],[]⟩) (fun r s'=>r=.ok (.ret (.bool true))/\OldK s₁.heap s'.heap/\s'.os=s₁.os/\AllBare s'.gens) s₁) :
   WalkO q loose XP YP l.row.toRowW d [] (fun f vs=>PySem.call f vs):=by
 intro w s₀ s₁ mg mb G Y fa o pm cd doc dV kV ho hd hcd hD hmg hg args vals as hpre hlay hrd hwl hlo;obtain rfl:dV=.none:=Dflts.none hD hdf;obtain rfl:kV=.none:=Dflts.noKw hD;obtain ⟨a,vs,ns,rfl,rfl,hobj,hints,hlen⟩:=Hr hn hpre hwl;refine enter_call (codeAny_mono (call w s₀ s₁ mg mb fa o pm cd doc a vs ns G Y ho (fd_plain hd) hcd hmg hobj hints hlen hg) fun r s' hq=>?_);obtain ⟨rfl,h2,h3,h4⟩:=hq;exact ⟨.inl ⟨.bool true,.bool true,[],rfl,fun _=>rfl,.bool true,HM l _,fun _=>⟨List.Pairwise.nil,fun _ hm=>(nomatch hm)⟩⟩,h2,h3,h4⟩
section
variable {prog:Program} {w:World} {A:Around} {E:Value->Shared->Prop} {s:Shared} {K:Frag}
end
end Att
namespace L2
open PySem PySem.Spec PyProof.Rows
theorem Aq:∀ {vs:List Value} {ns:List Int},IntsAre vs ns->Vals (ns.map V.int) vs
 | _,_,.nil=>.nil
 | _,_,.cons n t h=>.cons ⟨t,rfl⟩ (Aq h)
def Jv (H:Hp):Prop:=∀ b,H b=none\/∃ o xs,H b=some (.frz o (.lst xs))
theorem Ji {P:Program} {w:World} {K:PySem.W.Frag} {mg mb:Str->Option Value} {CX:CXT} {k:Nat} {fa a:Addr} {fd:FuncData} {x:Str} {sp:Sp} {s₁:Shared} {vs:List Value} {ns:List Int}
   (KX:K.In s₁.heap) (hns:s₁.heap.Ns mainGlobals mg) (hb:s₁.heap.Ns builtinsNs mb) (hbb:∀ x:Str,x≠"__name__"->mb x=bootBuiltins x) (hlim:s₁.heap.NoLimit) (hg:s₁.gens=#[])
   (ha:s₁.heap.get? a=some { cls:=.type "list",data:=.seq vs.toArray }) (hi:IntsAre vs ns) (hl:ns.length<=sizeLine) (hr:Room k callerA)
   (F:∀ base:Heap,K.In base->base.Ns mainGlobals mg->FnOk P w K mg base CX k fa fd [x] sp) (hbind:∀ (s:Shared) (u:Value),BindsTo s fd ⟨[u],[]⟩ [(x,u)])
   (hsp:∀ H:Hp,Jv H->SqL K H a (ns.map V.int)->sp [.ref a] H (fun v _=>v=.bl true) fun _ _ _=>False)
   (hCX:∀ H e s',CX [] H s₁ (fun _ _ _=>False) e s'->False) :
   codeAny (model P w) callerA (.call (.ref fa) ⟨[.ref a],[]⟩) (fun r s'=>r=.ok (.ret (.bool true))/\OldK s₁.heap s'.heap/\s'.os=s₁.os/\AllBare s'.gens) s₁:=by
 have rv:=Aq hi;have lenV:=hi.length;have core:∀ H:Hp,Jv H->SqL K H a (ns.map V.int)->HOk P w H s₁.heap->(∀ b,H b≠none->b=a)->(H a≠none->K.lookup a=none) ->
     codeAny (model P w) callerA (.call (.ref fa) ⟨[.ref a],[]⟩) (fun r s'=>r=.ok (.ret (.bool true))/\OldK s₁.heap s'.heap/\s'.os=s₁.os/\AllBare s'.gens) s₁:=by
   intro H hO hS hok hA hK;have base_of:∀ {b:Addr} {o:Obj},s₁.heap.get? b=some o->H b=none->(rC s₁.heap H).get? b=some o:=fun e n=>JF e n;have noA:∀ {b:Addr} {o:Obj} {es:Array DictEntry} {ep:Nat},s₁.heap.get? b=some o->o.data=.dict es ep->H b=none:=fun {b o es ep} e d=>by
     cases q:H b with
     | none=>rfl
     | some u =>
       have e':b=a:=hA b (by rw [q];simp);subst e';rw [ha] at e;cases e;have d':Data.seq vs.toArray _=Data.dict es ep:=d;cases d'
   have nsK:∀ {b:Addr} {m:Str->Option Value},s₁.heap.Ns b m->(rC s₁.heap H).Ns b m:=fun {b m} ⟨o,es,ep,e,d,r⟩=>⟨o,es,ep,base_of e (noA e d),d,r⟩;have hKb:K.In (rC s₁.heap H):=fun b o e=>base_of (KX b o e) (by
     cases q:H b with
     | none=>rfl
     | some u =>
       have e':b=a:=hA b (by rw [q];simp);subst e';rw [hK (by rw [q];simp)] at e;cases e)
   have hM:Mod K mg (rC s₁.heap H):=⟨hKb,nsK hns,⟨mb,nsK hb,hbb⟩,let ⟨mc,h1,h2⟩:=hlim;⟨mc,nsK h1,h2⟩⟩;have e0:Env0 P w K mg (rC s₁.heap H) callerA [] s₁ H:=⟨rfl,hM,fun b o e=>MO e,Nat.le_of_eq (HF _ _),trivial,fun b hb=>absurd (show b∈([]:List Addr) from hb) (by simp),hok,.of_eq hg⟩;refine codeAny_mono ((F _ hKb (nsK hns)).run callerA [] s₁ H ⟨[.ref a],[]⟩ [.ref a] [.ref a] _ _ hr e0 (hbind s₁ (.ref a)) (.cons rfl .nil) (hsp H hO hS)) fun r s' h=>?_;cases r with
   | error e=>exact (hCX H e s' h).elim
   | ok fl =>
     cases fl with
     | next=>exact False.elim h
     | brk=>exact False.elim h
     | cont=>exact False.elim h
     | ret u =>
       obtain ⟨v,H',os,bare,un,hok',r',q⟩:=h;have q':v=.bl true:=q;subst q';obtain rfl:u=Value.bool true:=r';refine ⟨rfl,OldK.of_keep fun b o e=>?_,os,bare⟩;cases q:H b with
       | none=>exact un.keep b o e q (by intro z;exact absurd (show b∈([]:List Addr) from z) (by simp)) (by simp)
       | some u =>
         rcases hO b with z|⟨ob,xs,z⟩
         . rw [q] at z;cases z
         . have z2:=un.frzs b ob _ z;obtain ⟨e1,_⟩:=hok b _ z;obtain ⟨e2,_⟩:=hok' b _ z2;rw [e] at e1;cases e1;exact e2
 cases hk:K.lookup a with
 | some o =>
   have e:=KX a o hk;rw [ha] at e;cases e;refine core (fun _=>none) (fun _=>.inl rfl) (.inr ⟨_,vs.toArray,_,hk,rfl,rfl,rfl,by rw [List.size_toArray,lenV];exact hl,by simpa using rv⟩) (fun b u z=>by have z':(none:Option HO)=some u:=z;cases z') (fun b z=>absurd rfl z) fun z=>absurd rfl z
 | none =>
   refine core (fun b=>if b=a then some (.frz { cls:=.type "list",data:=.seq vs.toArray } (.lst (ns.map V.int))) else none) (fun b=>?_) (.inl (.inr ⟨{ cls:=.type "list",data:=.seq vs.toArray },if_pos rfl⟩)) (fun b u z=>?_) (fun b z=>?_) fun _=>hk
   . by_cases hb:b=a
     . exact .inr ⟨_,_,if_pos hb⟩
     . exact .inl (if_neg hb)
   . by_cases hb:b=a
     . have z':=(if_pos hb).symm.trans z;cases z';subst hb;exact ⟨ha,by rw [List.length_map];exact hl,vs,_,rv,ha⟩
     . have z':=(if_neg hb).symm.trans z;cases z'
   . by_cases hb:b=a
     . exact hb
     . exact absurd (if_neg hb) z
end L2
namespace L2
open PySem PySem.Spec PyProof.Rows
theorem walk_of {l:PySem.W.OpenLaw} {n k:Nat} {q:Program} {loose:List Str} {XP:(Str->Option Value)->Heap->Prop} {YP:World->Heap->Prop} {d:DefRec} {K:Params->PySem.W.Frag} {CX:World->CXT} {sp:World->Sp} {x:Str}
   (hn:l.most=some n) (hn2:n<=sizeLine) (hdf:d.params.defaults=[]) (hr:Room k callerA)
   (hY:∀ (w:World) (h:Heap),YP w h->(K w.params).In h)
   (F:∀ (w:World) (mg:Str->Option Value) (fa:Addr) (h:Heap),(K w.params).In h->h.Ns mainGlobals mg->mg d.name=some (.ref fa) ->
     ∃ fd:FuncData,(∀ (s:Shared) (u:Value),BindsTo s fd ⟨[u],[]⟩ [(x,u)]) /\
       ∀ base:Heap,(K w.params).In base->base.Ns mainGlobals mg->FnOk l.prog w (K w.params) mg base (CX w) k fa fd [x] (sp w))
   (hsp:∀ (w:World) (H:Hp) (a:Addr) (ns:List Int),ns.length<=n->Jv H->SqL (K w.params) H a (ns.map V.int)->sp w [.ref a] H (fun v _=>v=.bl true) fun _ _ _=>False)
   (hCX:∀ (w:World) (H:Hp) (s:Shared) (e:Value) (s':Shared),CX w [] H s (fun _ _ _=>False) e s'->False) :
   PySem.W.WalkO q loose XP YP l.row.toRowW d [] (fun f vs=>PySem.call f vs):=by
 refine Att.attach_call hn hdf fun w s₀ s₁ mg mb fa o pm cd doc a vs ns G Y ho hd hcd hmg hobj hints hlen hg=>?_;have KX:=hY w _ Y;obtain ⟨fd,hb,hF⟩:=F w mg fa _ KX G.T.g hmg;exact Ji KX G.T.g G.T.b G.T.builtins G.T.nolimit hg hobj hints (Nat.le_trans hlen hn2) hr hF hb (fun H hO hS=>hsp w H a ns hlen hO hS) fun H e s'=>hCX w H s₁ e s'
end L2
namespace L2
open PySem PySem.Spec PyProof.Rows
def Ez (s:Stmt) (j:Nat):Stmt:=match s with
 | .ClassDef _ _ _ body _ _ _ _ _ _ _=>body.getD j (.Pass ⟨0,0,0,0⟩)
 | _=>.Pass ⟨0,0,0,0⟩
def aF (s:Stmt):Arguments:=match s with
 | .FunctionDef _ a _ _ _ _ _ _ _ _=>a
 | _=>{ posonlyargs:=[],args:=[],vararg:=none,kwonlyargs:=[],kw_defaults:=[],kwarg:=none,defaults:=[] }
def aE (s:Stmt):List Stmt:=match s with
 | .FunctionDef _ _ b _ _ _ _ _ _ _=>b
 | _=>[]
def aa (s:Stmt):Scope:=match s with
 | .FunctionDef _ _ _ _ _ _ sc _ _ _=>sc
 | _=>{ kind:=.function,names:=[],isGenerator:=false,isCoroutine:=false }
abbrev CX0:CXT:=fun _ _ _ _ _ _=>False
abbrev E0:XK:=fun _ _ _=>False
structure Fun (K:PySem.W.Frag) (x qual:Str) (st:Stmt) (f:Addr) (fd:FuncData):Prop where
 ex:∃ (oc:Value) (od:Option Addr) (kV doc pm:Value) (an:Option Addr) (cdv ct:Value) (osl:Array (Option Value)),
   fd=PySem.W.fnOf x qual (aF st) (aE st) (aa st) .none kV doc pm an cdv ct/\K.lookup f=some ⟨oc,od,.func fd,osl⟩/\PySem.W.codeIn K cdv qual=true
 kp:PySem.W.keepIn K (.ref f)=true
section
variable {P:Program} {w:World} {K:PySem.W.Frag} {mg:Str->Option Value} {base:Heap}
theorem Fun.binds {x qual:Str} {st:Stmt} {f:Addr} {fd:FuncData} {ps:List Str} (F:Fun K x qual st f fd)
   (h:∀ (kV doc pm:Value) (an:Option Addr) (cdv ct:Value) (us:List Value),us.length=ps.length->bindArgs (PySem.W.fnOf x qual (aF st) (aE st) (aa st) .none kV doc pm an cdv ct) ⟨us,[]⟩=pure (ps.zip us)):Binds K fd ps []:=by
 obtain ⟨oc,od,kV,doc,pm,an,cdv,ct,osl,rfl,lk,hcd⟩:=F.ex;exact .all (h kV doc pm an cdv ct)
theorem aV {x qual:Str} {st:Stmt} {f:Addr} {oc:Value} {od an:Option Addr} {osl:Array (Option Value)} {kV doc pm cdv ct:Value} (l:K.lookup f=some ⟨oc,od,.func (PySem.W.fnOf x qual (aF st) (aE st) (aa st) .none kV doc pm an cdv ct),osl⟩)
   (c:PySem.W.codeIn K cdv qual=true) (k:PySem.W.keepIn K (.ref f)=true):Fun K x qual st f (PySem.W.fnOf x qual (aF st) (aE st) (aa st) .none kV doc pm an cdv ct):=⟨⟨oc,od,kV,doc,pm,an,cdv,ct,osl,rfl,l,c⟩,k⟩
end
theorem OE {A:Around} {k:Nat} (hr:Room k A):A.units+1<cLine:=Nat.lt_of_le_of_lt (Nat.add_le_add_left (by decide:1<=64) _) hr.units
section
variable {X:Cx}
theorem pv (i:Nat) {x:Str} {pos:Pos} (hN:X.N[i]?=some x:=by rfl) (hv:Vis X.env.scope x:=by first|exact Or.inl rfl|exact Or.inr (Or.inl rfl)|exact Or.inr (Or.inr rfl)) (hd:(x == ("__debug__":Str))=false:=by decide)
   (hcd:(x == ("__classdict__":Str))=false:=by decide):PE X (.Name x pos) (zF i):=Dt hN hv hd hcd
end
theorem OU {A B:Prop} (h:B):if false=true then A else B:=by
 rw [if_neg Bool.false_ne_true];exact h
theorem OL {A B:Prop} (h:A):if true=true then A else B:=by
 rw [if_pos rfl];exact h
def Same (H H':Hp):Prop:=∀ b o,H b=some o->H' b=some o
theorem Same.refl (H:Hp):Same H H:=fun _ _ h=>h
theorem Same.trans {H H1 H2:Hp} (a:Same H H1) (b:Same H1 H2):Same H H2:=fun c o h=>b c o (a c o h)
theorem Same.free {H H':Hp} (e:Same H H') {l:Addr} (h:H' l=Option.none):H l=Option.none:=by
 cases q:H l with
 | none=>rfl
 | some o =>
   rw [e l o q] at h;cases h
theorem Same.seq {K:PySem.W.Frag} {H H':Hp} {a:Addr} {xs:List V} (e:Same H H') (h:SqL K H a xs):SqL K H' a xs:=by
 rcases h with (h|⟨o,h⟩)|h
 . exact .inl (.inl (e _ _ h))
 . exact .inl (.inr ⟨o,e _ _ h⟩)
 . exact .inr h
end L2
namespace L2
open PySem PySem.Spec PyProof.Rows
section
variable {X:Cx}
theorem GY:fD X (.builtin "len") (fun xs H Q=>∃ a kvs,xs=[V.ref a]/\H a=some (.dK kvs)/\Q (.int kvs.length) H):=by
 intro pins s σ H xs us Q I r h;obtain ⟨a,kvs,rfl,ha,q⟩:=h;obtain ⟨u,rfl,ru⟩:=sk r;cases ru;exact OB I (.inl ha) fun t s' I'=>⟨.int kvs.length,H,I',⟨t,rfl⟩,q⟩
end
section
variable {κ:Type} [DecidableEq κ]
end
end L2
set_option Elab.async false
set_option linter.all false
set_option maxRecDepth 100000
namespace L2
open PySem PySem.Spec PyProof.Rows
def Cx.comp (X:Cx) (Nc:List Str) (scope:Scope) (cl:List (Str × Addr)) (C:Addr) (s₂:Shared) (H₁:Hp) (fp:List Addr):Cx where
 prog:=X.prog
 w:=X.w
 K:=X.K
 mg:=X.mg
 base:=X.base
 A:=X.A
 N:=Nc
 s₀:=s₂
 H₀:=H₁
 env:=compEnvC scope cl C X.env
 outer:=X.stack
 stack:=X.stack
 ex:=fp
 fn:=fun _=>false
 calm:=X.calm
 pn:=[]
 xe:=fun _ _=>False
structure CompTxt (X:Cx) (Nc:List Str) (own:Nat) (js:List Nat) (scope:Scope) (cl:List (Str × Addr)):Prop where
 clos:closureFor scope X.env=pure cl
 kind:scope.kind=.function
 nocell:∀ y∈scope.names,y.2≠.cell
 names:∀ y∈scope.names,y.2=.local->scope.names.lookup y.1=some .local
 cells:∀ x c,cl.lookup x=some c->X.env.cells.lookup x=some c
 has:∀ x,((relabel scope X.env).names.lookup x=some .cell\/(relabel scope X.env).names.lookup x=some .free)->∃ c,cl.lookup x=some c
 len:Nc.length=own+js.length
 outer:∀ i x,Nc[own+i]?=some x->∃ j,js[i]?=some j/\X.N[j]?=some x/\X.env.scope.names.lookup x=some .cell/\(relabel scope X.env).names.lookup x=some .cell
def gc (own:Nat) (js:List Nat) (σ:St):St:=List.replicate own none++js.map fun j=>(σ[j]?).getD none
def F7 (own:Nat) (js:List Nat) (wi:TI) (g:TG) (tc:TT) (te:TE):TE:=fun σ H Q=>wi σ H fun J H1=>∀ p,H1 p=none ->
 ∃ W:Nat->Nat->List V->St->Hp->Prop,(∃ m,W 0 m [] (gc own js σ) (upd H1 p (.lst [])))/\∀ i m ys σc Hc,W i m ys σc Hc ->
   (J.stop i Hc/\Q (.ref p) Hc)\/(J.go i Hc/\∀ x H',J.yld i Hc x H'->g x σc H' fun σ2 H2=>tc σ2 H2 fun b H3 =>
     if b=true then te σ2 H3 fun y H4=>H4 p=some (.lst ys)/\ys.length<sizeLine/\∃ m',m'<m/\W (i+1) m' (ys++[y]) σ2 (upd H4 p (.lst (ys++[y])))
     else ∃ m',m'<m/\W (i+1) m' ys σ2 H3)
def PTs (X:Cx) (ifs:List Expr) (t:TT):Prop :=
 ∀ (pins:List (Addr × Obj)) (s:Shared) (σ:St) (H:Hp) (Q:Bool->Hp->Prop),Inv X pins σ H s->t σ H Q ->
   wpAny (model X.prog X.w) X.A (forIn ifs true fun c r=>if r=true then do let ok <- isTrue c X.env (eval c X.env);pure (ForInStep.yield ok) else pure (ForInStep.yield r)) (TP X pins σ Q) X.xe s
def tYes:TT:=fun _ H Q=>Q true H
theorem vZ {X:Cx}:PTs X [] tYes:=fun pins s σ H Q I h=>wpAny_tests_nil ⟨H,I,h⟩
theorem zx {X:Cx} {c:Expr} {t:TT} (h:PT X c t):PTs X [c] t:=fun pins s σ H Q I q=>wpAny_tests_one (h pins s σ H Q I q)
section
variable {prog:Program} {w:World} {A:Around} {E:Value->Shared->Prop} {R:Result->Shared->Prop} {s:Shared}
theorem wE {elt target iter:Expr} {ifs:List Expr} {scope:Scope} {pos:Pos} {it acc:Value} {env:Env} (I:Nat->Shared->Prop)
   (turn:∀ n s,I n s->wpAny (model prog w) A (pyNext it) (fun r s₁=>match r with
     | none=>R (.ok .next) s₁
     | some v=>wpAny (model prog w) A (letOwnedTupleGo target it v) (fun _ s₁'=>wpAny (model prog w) A (assign target env v) (fun _ s₂ =>
         wpAny (model prog w) A (forIn ifs true fun c r=>if r=true then do let ok <- isTrue c env (eval c env);pure (ForInStep.yield ok) else pure (ForInStep.yield r)) (fun ok s₃ =>
           if ok=true then wpAny (model prog w) A (eval elt env) (fun x s₄ =>
             wpAny (model prog w) A (call (.builtin "list.append") [acc,x]) (fun _ s₅=>∃ m,m<n/\I m s₅) (fun _ _=>False) s₄) (fun _ _=>False) s₃
           else ∃ m,m<n/\I m s₃) (fun _ _=>False) s₂) (fun _ _=>False) s₁') (fun _ _=>False) s₁) (fun _ _=>False) s)
   (n:Nat) (h:I n s) :
   codeAny (model prog w) A (.compLoop (.ListComp elt [⟨target,iter,ifs,0⟩] scope pos) 0 it acc env) R s:=by
 refine codeAny_loop rfl I (fun n s hI=>?_) n h;show wpAny _ A ((compTurn (.ListComp elt [⟨target,iter,ifs,0⟩] scope pos) 0 it acc env).onRaise (fun x=>do noteFrame x env;theTreesLotGoes x)) _ _ s;refine wpAny_noted ?_;rw [compTurn_list];refine wpAny_bind (wpAny_standAt (wpAny_bind (wpAny_mono (turn n s hI) (fun r s₁ h₁=>?_) fun _ _ h'=>h'.elim)));cases r with
 | none=>exact wpAny_pure h₁
 | some v =>
   refine wpAny_bind (wpAny_mono h₁ (fun _ s₁' h₁'=>?_) fun _ _ h'=>h'.elim);refine wpAny_bind (wpAny_mono h₁' (fun _ s₂ h₂=>wpAny_bind (wpAny_mono h₂ (fun ok s₃ h₃=>?_) fun _ _ h'=>h'.elim)) fun _ _ h'=>h'.elim);cases ok with
   | true =>
     rw [if_pos rfl] at h₃;simp only [if_true];exact wpAny_bind (wpAny_bind (wpAny_mono h₃ (fun x s₄ h₄=>wpAny_bind (wpAny_mono h₄ (fun _ s₅ h₅=>wpAny_pure (wpAny_pure ⟨rfl,h₅⟩)) fun _ _ h'=>h'.elim)) fun _ _ h'=>h'.elim))
   | false =>
     rw [if_neg Bool.false_ne_true] at h₃;simp only [Bool.false_eq_true,if_false]
     first
       | exact wpAny_pure ⟨rfl,h₃⟩
       | exact wpAny_bind (wpAny_pure (wpAny_pure ⟨rfl,h₃⟩))
end
end L2
set_option Elab.async false
set_option linter.all false
set_option maxRecDepth 100000
namespace L2
open PySem PySem.Spec PyProof.Rows
section
variable {X:Cx} {Nc:List Str} {own:Nat} {js:List Nat} {scope:Scope} {cl:List (Str × Addr)}
theorem zv {pins:List (Addr × Obj)} {σ:St} {H₁:Hp} {s₂:Shared} {C:Addr} {fp:List Addr} (T:CompTxt X Nc own js scope cl) (I:Inv X pins σ H₁ s₂) (hC:s₂.heap.objs.size<=C)
   (f1:∀ b∈fp,jq X pins H₁ b) (hlt:∀ b∈fp,b<s₂.heap.objs.size):(X.comp Nc scope cl C s₂ H₁ fp).Ok where
 mod:=I.ok.mod
 kind:=by show (relabel scope X.env).kind=_;exact T.kind
 glob:=I.ok.glob
 blt:=I.ok.blt
 above:=hC
 inj:=fun x y c h1 h2=>I.ok.inj x y c (T.cells x c h1) (T.cells y c h2)
 has:=fun x h=>T.has x h
 cab:=fun x c h=>by cases h
 hd:=I.ok.hd
 frames:=I.ok.frames
 stk:=.inl rfl
 exf:=fun b hb=>⟨Nat.ne_of_lt (Nat.lt_of_lt_of_le (hlt b hb) hC),fun x c h=>(f1 b hb).2.2.2.2.1 x c (T.cells x c h)⟩
 bs:=I.bs
 bsz:=Nat.le_trans I.ok.bsz I.sz
 noex:=fun b o e hb=>by
   rcases (f1 b hb).2.2.2.1 with z|z
   . exact I.ok.noex b o e z
   . exact absurd (Nat.lt_of_lt_of_le (Heap.lt_size (I.ok.bs b o e).1) z) (Nat.lt_irrefl _)
 exfs:=fun b hb hs=>by
   rcases List.mem_cons.mp (I.stkSub b hs) with z|z
   . exact (f1 b hb).2.1 z
   . exact (f1 b hb).2.2.1 z
 funs:=I.stack
 frf:=I.stkFree
theorem CY {pins:List (Addr × Obj)} {σ:St} {H₁:Hp} {s₂:Shared} {C D:Addr} {fp:List Addr} {h₁:Heap} {t:Nat} {m:Str->Option Value} (T:CompTxt X Nc own js scope cl) (I:Inv X pins σ H₁ s₂) (hC:s₂.heap.objs.size<=C)
   (hD:s₂.heap.objs.size<=D) (hDC:D≠C) (f1:∀ b∈fp,jq X pins H₁ b) (hlt:∀ b∈fp,b<s₂.heap.objs.size) (old:∀ b o,s₂.heap.get? b=some o->h₁.get? b=some o) (hns:h₁.Ns C m)
   (hacc:∃ n,h₁.get? D=some { cls:=.type "list",data:=.seq ([]:List Value).toArray n }) :
   Inv (X.comp Nc scope cl C s₂ H₁ fp) [] (gc own js σ) (upd H₁ D (.lst [])) { s₂ with heap:=h₁,toks:=t }:=by
 obtain ⟨na,hacc⟩:=hacc;have cellK:∀ c v,s₂.heap.IsCell c v->h₁.IsCell c v:=fun c v ⟨o,ho,hd⟩=>⟨o,old c o ho,hd⟩;refine ⟨zv T I hC f1 hlt,rfl,I.bare,Un.laid old hD (I.hok.fresh hD),⟨m,hns,fun i x v e1 e2 e3=>?_⟩,fun x c e=>?_,?_,fun x c e=>?_,fun p hp=>(by cases hp),I.hok.laid old hD ?_,?_⟩
 . have hN:Nc[i]?=some x:=e1;have hσ:(gc own js σ)[i]?=some (some v):=e2;unfold gc at hσ;by_cases hi:i<own
   . rw [List.getElem?_append_left (by simpa using hi),List.getElem?_replicate] at hσ;simp [hi] at hσ
   . obtain ⟨k,rfl⟩:∃ k,i=own+k:=⟨i - own,by omega⟩;rw [List.getElem?_append_right (by simp)] at hσ;simp only [List.length_replicate,Nat.add_sub_cancel_left,List.getElem?_map] at hσ;obtain ⟨j,hj,hx,hk,hr⟩:=T.outer k x hN;rw [hj] at hσ;replace hσ:some (σ[j]?.getD none)=some (some v):=hσ;have hσj:σ[j]?=some (some v):=by
       cases q:σ[j]? with
       | none=>rw [q] at hσ;simp at hσ
       | some y=>rw [q] at hσ;simpa using hσ
     obtain ⟨m0,hn0,hl0⟩:=I.loc;obtain ⟨u,ru,lk⟩:=hl0 j x v hx hσj (.inr (.inl hk));refine ⟨u,ru,.inr ⟨.inl hr,?_⟩⟩;rcases lk with ⟨z,_⟩|⟨_,c,hc,hcell⟩
     . have z':X.env.scope.names.lookup x=some .local:=z;rw [hk] at z';cases z'
     . obtain ⟨c',hc'⟩:=T.has x (.inl hr);have:=T.cells x c' hc';rw [hc] at this;cases this;exact ⟨c,hc',cellK c _ hcell⟩
 . obtain ⟨v,z⟩:=I.cell x c (T.cells x c e);exact ⟨v,cellK c v z⟩
 . show upd H₁ D (.lst []) C=none;rw [ar (Ne.symm hDC)];exact I.hok.fresh hC
 . have e':=T.cells x c e;obtain ⟨v,o,ho,_⟩:=I.cell x c e';rw [ar (Nat.ne_of_lt (Nat.lt_of_lt_of_le (Heap.lt_size ho) hD))];exact I.freeC x c e'
 . exact ⟨Nat.zero_le _,[],na,.nil,hacc⟩
 . show (gc own js σ).length=Nc.length;rw [T.len];simp [gc]
theorem AJ {pins:List (Addr × Obj)} {σ σc:St} {H₁ H':Hp} {s₂ s':Shared} {C:Addr} {fp:List Addr} {h':Heap} (I:Inv X pins σ H₁ s₂) (hC:s₂.heap.objs.size<=C)
   (f1:∀ b∈fp,jq X pins H₁ b) (I':Inv (X.comp Nc scope cl C s₂ H₁ fp) [] σc H' s') (hs:Heap.SameBut C s'.heap h'):Inv X pins σ H' { s' with heap:=h' }:=by
 have u:Un (frs X.stack) fp H₁ H' s₂.heap s'.heap:=I'.base;have ne:∀ b o,s₂.heap.get? b=some o->b≠C:=fun b o e=>Nat.ne_of_lt (Nat.lt_of_lt_of_le (Heap.lt_size e) hC);have k:∀ b o,b≠C->s'.heap.get? b=some o->h'.get? b=some o:=fun b o n e=>hs.extBut b o n e;have u':Un (frs X.stack) fp H₁ H' s₂.heap h':=⟨fun b o e n hb hx=>k b o (ne b o e) (u.keep b o e n hb hx),fun b o e n hb hx=>let ⟨sl,q⟩:=u.slot b o e n hb hx;⟨sl,k b _ (ne b o e) q⟩,
   u.free,fun b o e hx=>let ⟨o',q⟩:=u.there b o e hx;⟨o',k b o' (ne b o e) q⟩,u.tups,u.frzs,u.tbls⟩
 have hfree:H' C=none:=I'.free;have hok':HOk X.prog X.w H' h':=fun a o e=>(I'.hok a o e).stay (fun b v hb q=>k b v (fun z=>by
   rcases hb with y|y
   . rw [y] at z;rw [z,hfree] at e;cases e
   . rw [z,hfree] at y;cases y) q) (fun _ q=>q) fun _ _ q=>q
 exact I.call' (s':={ s' with heap:=h' }) (ch:=fp) I'.os u' hok' I'.bare fun b hb=>⟨(f1 b hb).2.2.2.1,(f1 b hb).2.1,(f1 b hb).2.2.2.2.1,(f1 b hb).2.2.2.2.2⟩
theorem mH {elt target iter:Expr} {ifs:List Expr} {pos:Pos} {wi:TI} {g:TG} {tc:TT} {te:TE} (hc:X.calm=true) (T:CompTxt X Nc own js scope cl)
   (hi:PI X target iter wi) (hg:∀ C s₂ H₁ fp,PG (X.comp Nc scope cl C s₂ H₁ fp) target g) (ht:∀ C s₂ H₁ fp,PTs (X.comp Nc scope cl C s₂ H₁ fp) ifs tc)
   (he:∀ C s₂ H₁ fp,PE (X.comp Nc scope cl C s₂ H₁ fp) elt te) (hs:∀ x,foldedSetIterable iter X.env x=pure x:=by intro _;rfl) :
   PE X (.ListComp elt [⟨target,iter,ifs,0⟩] scope pos) (F7 own js wi g tc te):=by
 intro pins s σ H Q I h;rw [eval_ListComp];refine wpAny_comprehension_free (use:=none) rfl hs T.clos T.kind T.names (thn (hi pins s σ H _ I h) fun v s1 h1=>thn h1 fun itv s2 h2=>?_);obtain ⟨it,fp,tn,J,H1,rfl,I1,Tn,st,f1,R⟩:=h2;have hfp:∀ b∈fp,b<s2.heap.objs.size:=fun b hb=>let ⟨o,e,_⟩:=Tn.obj _ _ st b hb;Heap.lt_size e;refine wpAny_newObj_type (wpAny_newFunctionEnv T.nocell (by intro y hy;simp at hy) (fun h₁ hns₁ hsb₁=>?_) T.kind);dsimp only at hns₁ hsb₁ ⊢;generalize hH2:s2.heap.push { cls:=.type "list",dict:=none,data:=.seq ([]:List Value).toArray }=H2 at hns₁ hsb₁ ⊢;have hC:H2.objs.size=s2.heap.objs.size+1:=by rw [<- hH2,Heap.size_push]
 have hDC:s2.heap.objs.size≠H2.objs.size:=by rw [hC];exact Nat.ne_of_lt (Nat.lt_succ_self _)
 have hCle:s2.heap.objs.size<=H2.objs.size:=by rw [hC];exact Nat.le_succ _
 have below:∀ b,b<s2.heap.objs.size->b≠H2.objs.size:=fun b hb=>by rw [hC];exact Nat.ne_of_lt (Nat.lt_succ_of_lt hb)
 have old:∀ b o,s2.heap.get? b=some o->h₁.get? b=some o:=fun b o e=>hsb₁.extBut b o (below b (Heap.lt_size e)) (Heap.get?_push_of_some _ (hH2 ▸ Heap.get?_push_of_some _ e));have hacc:∃ n,h₁.get? s2.heap.objs.size=some { cls:=.type "list",data:=.seq ([]:List Value).toArray n }:=⟨_,hsb₁.extBut _ _ hDC (Heap.get?_push_of_some _ (hH2 ▸ Heap.get?_push_size _ rfl))⟩;have st₁:tn 0 h₁:=Tn.keep _ _ _ st fun b _ o e=>old b o e;obtain ⟨W,⟨m0,w0⟩,turn⟩:=R s2.heap.objs.size I1.fresh;have Ic:=CY (t:=s2.toks+([]:List (Str × Value)).length) T I1 hCle (Nat.le_refl _) hDC f1 hfp old hns₁ hacc;generalize hXc:X.comp Nc scope cl H2.objs.size s2 H1 fp=Xc at Ic;have stat:∀ {H':Hp},(∀ b∈fp,H' b=none)->∀ b∈fp,jq Xc [] H' b:=fun {H'} hn b hb=>by
   subst hXc;exact ⟨hn b hb,below b (hfp b hb),(zv T I1 hCle f1 hfp).exfs b hb,.inl hb,fun x c e=>(f1 b hb).2.2.2.2.1 x c (T.cells x c e),fun p hp=>by cases hp⟩
 have fr0:∀ b∈fp,upd H1 s2.heap.objs.size (.lst []) b=none:=fun b hb=>by
   rw [ar (Nat.ne_of_lt (hfp b hb))];exact (f1 b hb).1
 have calmc:Xc.calm=true:=by subst hXc;exact hc
 have loop:∀ s₃:Shared,s₃={ s2 with heap:=h₁,toks:=s2.toks+([]:List (Str × Value)).length } ->
     codeAny (model X.prog X.w) X.A (.compLoop (.ListComp elt [⟨target,iter,ifs,0⟩] scope pos) 0 (.ref it) (.ref s2.heap.objs.size) (compEnvC scope cl H2.objs.size X.env))
       (compPost (model X.prog X.w) X.A X.xe none (EP X pins σ Q) (.ref s2.heap.objs.size) H2.objs.size) s₃:=by
   rintro s₃ rfl;refine wE (fun n s'=>∃ i ys σ' H',Inv Xc [] σ' H' s'/\tn i s'.heap/\(∀ b∈fp,H' b=none)/\W i n ys σ' H') ?_ m0 ⟨0,[],_,_,Ic,st₁,fr0,w0⟩;rintro n s3 ⟨i,ys,σ3,H3,I3,st3,fr3,w3⟩;rcases turn i n ys σ3 H3 w3 with ⟨stop,q⟩|⟨go,step⟩
   . subst hXc;refine thn (Tn.done (X.comp Nc scope cl H2.objs.size s2 H1 fp) rfl rfl rfl hc i [] s3 σ3 H3 _ I3 (stat fr3) st3 stop) fun r s4 ⟨hr,I4⟩=>?_;subst hr;obtain ⟨m4,hn4,_⟩:=id I4.loc;exact ⟨m4,hn4,fun h' hs'=>⟨.ref s2.heap.objs.size,H3,AJ I1 hCle f1 I4 hs',rfl,q⟩⟩
   . subst hXc;refine thn (Tn.item (X.comp Nc scope cl H2.objs.size s2 H1 fp) rfl rfl rfl hc i [] s3 σ3 H3 _ I3 (stat fr3) st3 go) fun r s4 ⟨u,hr,h4⟩=>?_;subst hr;refine thn h4 fun _ s5 ⟨x,H5,I5,r5,y5,st5,fr5⟩=>?_;have I5':=I5.pinned (stat fr5) (Tn.obj _ _ st5);have back:∀ {σ7:St} {H7:Hp} {s7:Shared},Inv (X.comp Nc scope cl H2.objs.size s2 H1 fp) ([]++qw fp s5.heap) σ7 H7 s7->Inv (X.comp Nc scope cl H2.objs.size s2 H1 fp) [] σ7 H7 s7/\tn (i+1) s7.heap/\∀ b∈fp,H7 b=none:=fun {σ7 H7 s7} I7=>by
       refine ⟨I7.unpinned,Tn.keep _ _ _ st5 fun b hb o e=>(I7.pin (b,o) (List.mem_append_right _ (List.mem_append_right _ (iJ hb e)))).1,fun b hb=>?_⟩;obtain ⟨o,e,d⟩:=Tn.obj _ _ st5 b hb;exact (I7.pin (b,o) (List.mem_append_right _ (List.mem_append_right _ (iJ hb e)))).2.1
     refine thn (hg _ _ _ _ _ s5 σ3 H5 x u _ I5' r5 (step x H5 y5)) fun _ s6 ⟨σ6,H6,I6,q6⟩=>?_;refine zC (ht _ _ _ _ _ s6 σ6 H6 _ I6 q6) fun ok s7 H7 I7 q7=>?_;cases ok with
     | false =>
       rw [if_neg Bool.false_ne_true] at q7 ⊢;obtain ⟨m',hm,w7⟩:=q7;obtain ⟨J1,J2,J3⟩:=back I7;exact ⟨m',hm,i+1,ys,σ6,H7,J1,J2,J3,w7⟩
     | true =>
       rw [if_pos rfl] at q7 ⊢;refine bF (he _ _ _ _ _ s7 σ6 H7 _ I7 q7) fun y s8 yv H8 I8 r8 ⟨hp8,hl8,m',hm,w8⟩=>?_;refine thn (eZ _ s8 σ6 H8 (.ref s2.heap.objs.size) [yv] _ [y] (fun v' H'=>W (i+1) m' (ys++[yv]) σ6 H') I8 rfl (.cons r8 .nil) ⟨_,ys,yv,rfl,rfl,hp8,hl8,w8⟩) fun v9 s9 ⟨_,H9,I9,_,w9⟩=>?_;obtain ⟨J1,J2,J3⟩:=back I9;exact ⟨m',hm,i+1,ys++[yv],σ6,H9,J1,J2,J3,w9⟩
 exact codeAny_compStart_list (loop _ rfl) (Tn.self _ 0 _ _ _ st₁ (loop _ rfl))
end
end L2
set_option Elab.async false
set_option linter.all false
set_option maxRecDepth 100000
namespace L2
open PySem PySem.Spec PyProof.Rows
section
variable {X:Cx}
def rInsert:V->List V->Hp->VK->Prop:=fun x vs H Q=>∃ (l:Addr) (xs:List V) (i:Int) (y:V),x=.ref l/\vs=[.int i,y]/\H l=some (.lst xs)/\0<=i/\i<=xs.length/\xs.length<sizeLine/\Q .non (upd H l (.lst (xs.take i.toNat++y::xs.drop i.toNat)))
theorem Av:MtM X "list.insert" rInsert:=by
 intro pins s σ H x vs v us Q I rx rv h;obtain ⟨l,xs,i,y,rfl,rfl,hH,h0,hk,hz,q⟩:=h;cases rx;obtain ⟨u1,u2,rfl,⟨t,rfl⟩,ru⟩:=rv.two;obtain ⟨z,its,n,r,hl,e⟩:=I.lstM hH;have hn:=om;have hf:Builtin.List.listFitsIndex i=true:=by
   unfold Builtin.List.listFitsIndex;rw [Bool.and_eq_true];exact ⟨decide_eq_true (by omega),decide_eq_true (by omega)⟩
 have hf':¬ (!Builtin.List.listFitsIndex i)=true:=by rw [hf];decide
 have hzz:its.toArray.size<=sizeLine:=by rw [List.size_toArray,<- hl];exact z
 refine call_meets PySem.F.slot_list_insert ⟨_,e,rfl⟩ PySem.F.entry_list_insert (PySem.F.args_list_insert_3 _ _ _) (PySem.AutoSeq1.list_insert_list_int_val_1 l its.toArray n i t u2 hf' hzz) ⟨e,?_⟩;refine ⟨.non,_,I.lset (its':=its.take i.toNat++u2::its.drop i.toNat) hH e ?_ ((r.take i.toNat).append (.cons ru (r.drop i.toNat))) ?_,rfl,q⟩
 . show (its.toArray.extract 0 (if i<0 then (i+(its.toArray.size:Int)).toNat else min i.toNat its.toArray.size)).push u2++its.toArray.extract (if i<0 then (i+(its.toArray.size:Int)).toNat else min i.toNat its.toArray.size)=_;have e0:(if i<0 then (i+(its.toArray.size:Int)).toNat else min i.toNat its.toArray.size)=i.toNat:=by
     rw [if_neg (by omega),List.size_toArray];omega
   rw [e0];exact PySem.W.kl_ins_eq its i.toNat u2
 . rw [List.length_append,List.length_cons,List.length_take,List.length_drop];omega
theorem IC (hc:X.calm=true):fD X (.builtin "all") (fun xs H Q=>∃ (p:Addr) (bs:List Bool),xs=[.ref p]/\SqL X.K H p (bs.map V.bl)/\Q (.bl (bs.all id)) H):=by
 intro pins s σ H xs us Q I r h;obtain ⟨p,bs,rfl,hp,q⟩:=h;obtain ⟨u,rfl,ru⟩:=sk r;cases ru;obtain ⟨its,rv,pl,hz⟩:=I.list hp;have hl:=pl.isList;have hlt:=pl.lt;have hh:X.A.in1.handled=none:=I.ok.hd hc;have hlen:its.length=bs.length:=by rw [<- rv.length,List.length_map]
 refine call_all_walk (wpAny_pyIter_list hl ?_);refine ⟨s.heap.objs.size,[s.heap.objs.size,p],[s.heap.objs.size],its.toArray.size,_,_,fun i=>(bs[i]?).getD true,rfl,Walks.list (A:=X.A.in1) hh _ p (Nat.ne_of_lt hlt) its.toArray,
   ⟨⟨_,Heap.get?_push_size _ rfl,rfl,rfl⟩,hl.push _⟩,fun i v s' Q' E' hP hQ=>?_,fun h' tk hk=>?_⟩
 . have hi:its[i]?=some v:=by simpa using hP
   have hib:i<bs.length:=by rw [<- hlen];exact (List.getElem?_eq_some_iff.mp hi).1
   obtain ⟨u,hu,ru⟩:=rv.get (i:=i) (x:=V.bl bs[i]) (by rw [List.getElem?_map,List.getElem?_eq_getElem hib];rfl);rw [hi] at hu;cases hu;cases ru;replace hQ:Q' (bs[i]?.getD true) s':=hQ;rw [List.getElem?_eq_getElem hib] at hQ;exact wpAny_truthy_bool hQ
 . have e:((List.range its.toArray.size).all fun i=>(bs[i]?).getD true)=bs.all id:=by
     rw [List.size_toArray,hlen];rw [Bool.eq_iff_iff,List.all_eq_true,List.all_eq_true]
     constructor
     . intro z b hb;obtain ⟨i,hi,rfl⟩:=List.getElem_of_mem hb;have:=z i (List.mem_range.mpr hi);rw [List.getElem?_eq_getElem hi] at this;exact this
     . intro z i hi;have hi':=List.mem_range.mp hi;rw [List.getElem?_eq_getElem hi'];exact z _ (List.getElem_mem hi')
   have kk:∀ b o,s.heap.get? b=some o->h'.get? b=some o:=fun b o eb=>hk b o (fun hm=>by rw [List.mem_singleton.mp hm] at eb;exact Nat.lt_irrefl _ (Heap.lt_size eb)) (Heap.get?_push_of_some _ eb);rw [e];exact ⟨.bl _,H,I.kept (t':=tk) kk,rfl,q⟩
end
mutual
inductive Deep (K:PySem.W.Frag) (H:Hp):V->PyData->Prop
 | non:Deep K H .non .none
 | bl (b:Bool):Deep K H (.bl b) (.bool b)
 | int (i:Int):Deep K H (.int i) (.int i)
 | str {x:Str}:PyData.canLay0 (.str x)=true->Deep K H (.str x) (.str x)
 | lst {a:Addr} {xs:List V} {ds:List PyData}:SqL K H a xs->DeepAll K H xs ds->Deep K H (.ref a) (.list ds)
 | tup {a:Addr} {xs:List V} {ds:List PyData}:SqT K H a xs->DeepAll K H xs ds->Deep K H (.ref a) (.tuple ds)
inductive DeepAll (K:PySem.W.Frag) (H:Hp):List V->List PyData->Prop
 | nil:DeepAll K H [] []
 | cons {x:V} {d:PyData} {xs:List V} {ds:List PyData}:Deep K H x d->DeepAll K H xs ds->DeepAll K H (x::xs) (d::ds)
end
mutual
theorem Deep.reads {X:Cx} {pins:List (Addr × Obj)} {σ:St} {H:Hp} {s:Shared} (I:Inv X pins σ H s):∀ {x:V} {d:PyData} {u:Value},Deep X.K H x d->RelV x u->(∃ as,Reads s.heap u d as)/\d.canLay0=true
 | _,_,_,.non,r=>by cases (show _=Value.none from r);exact ⟨⟨_,.none⟩,by simp [PyData.canLay0]⟩
 | _,_,_,.bl b,r=>by cases (show _=Value.bool b from r);exact ⟨⟨_,.bool b⟩,by simp [PyData.canLay0]⟩
 | _,_,_,.int i,r=>by obtain ⟨t,e⟩:=(show ∃ t,_=Value.int i t from r);cases e;exact ⟨⟨_,.int i t⟩,by simp [PyData.canLay0]⟩
 | _,_,_,.str (x:=x) h,r=>by obtain ⟨t,e⟩:=(show ∃ t,_=Value.str x t from r);cases e;exact ⟨⟨_,.str x t⟩,h⟩
 | _,_,_,.lst (a:=a) h hs,r=>by
   cases (show _=Value.ref a from r);obtain ⟨its,rv,⟨o,n,e,c,_,dd⟩,hz⟩:=I.list h;obtain ⟨⟨as,ra⟩,cl⟩:=DeepAll.reads I hs rv;exact ⟨⟨_,.list e c dd (by simpa using ra)⟩,by simpa [PyData.canLay0] using cl⟩
 | _,_,_,.tup (a:=a) h hs,r=>by
   cases (show _=Value.ref a from r);obtain ⟨its,rv,⟨o,e,c,n,dd⟩,hz⟩:=I.tuple h;obtain ⟨⟨as,ra⟩,cl⟩:=DeepAll.reads I hs rv;exact ⟨⟨_,.tuple e c dd (by simpa using ra)⟩,by simpa [PyData.canLay0] using cl⟩
theorem DeepAll.reads {X:Cx} {pins:List (Addr × Obj)} {σ:St} {H:Hp} {s:Shared} (I:Inv X pins σ H s):∀ {xs:List V} {ds:List PyData} {us:List Value},DeepAll X.K H xs ds->Vals xs us->(∃ as,ReadsAll s.heap us ds as)/\PyData.canLayAll0 ds=true
 | _,_,_,.nil,.nil=>⟨⟨_,.nil⟩,by simp [PyData.canLayAll0]⟩
 | _,_,_,.cons h hs,.cons r rs=>by
   obtain ⟨⟨as,ra⟩,c1⟩:=Deep.reads I h r;obtain ⟨⟨bs,rb⟩,c2⟩:=DeepAll.reads I hs rs;exact ⟨⟨_,.cons ra rb⟩,by simp [PyData.canLayAll0,c1,c2]⟩
end
section
variable {X:Cx}
def Nh (K:PySem.W.Frag):R2:=fun x y H Q=>∃ d e,Deep K H x d/\Deep K H y e/\d.depth<=40/\Q (.bl (!PyData.eqv d e)) H
theorem qJ (hu:X.A.units+64<cLine):OpR X (compareOp .NotEq) (Nh X.K):=by
 intro pins s σ H x y v u Q I rx ry h;obtain ⟨d,e,hd,he,hp,q⟩:=h;obtain ⟨⟨as,ra⟩,ca⟩:=hd.reads I rx;obtain ⟨⟨bs,rb⟩,cb⟩:=he.reads I ry;exact PySem.SeqAt.compareNe_reads ra rb ca cb (by omega) ⟨.bl _,H,I,rfl,q⟩
end
end L2
set_option Elab.async false
set_option linter.all false
set_option maxRecDepth 100000
namespace L2
open PySem PySem.Spec PyProof.Rows
structure SubF (P:Program) (w:World) (l:Addr) (ob:Obj) (src:Heap->Array Value->Prop) (at':Addr->Nat->Heap->Prop):Prop where
 start:∀ (A:Around) (s:Shared) (vs:Array Value) (Q:Value->Shared->Prop) (E:Value->Shared->Prop),src s.heap vs->Q (.ref s.heap.objs.size) { s with heap:=s.heap.push ob }->wpAny (model P w) A (pyIter (.ref l)) Q E s
 first:∀ it h,h.get? it=some ob->at' it 0 h
 atK:∀ it i h h',at' it i h->(∀ o,h.get? it=some o->h'.get? it=some o)->at' it i h'
 srcK:∀ h h' vs,src h vs->(∀ o,h.get? l=some o->h'.get? l=some o)->src h' vs
 obj:∀ it i h,at' it i h->∃ o,h.get? it=some o/\∀ v,o.data≠.cell v
 item:∀ (A:Around) (s:Shared) (it:Addr) (i:Nat) (vs:Array Value) (x:Value) (Q:Value->Shared->Prop) (E:Value->Shared->Prop),at' it i s.heap->src s.heap vs->vs[i]?=some x ->
   (∀ h',at' it (i+1) h'->Heap.SameBut it s.heap h'->Q x { s with heap:=h' })->wpAny (model P w) A (Builtin.SmallTypes.nextOf (.ref it)) Q E s
 fin:∀ (A:Around) (s:Shared) (it:Addr) (i:Nat) (vs:Array Value) (Q:Value->Shared->Prop) (E:Value->Shared->Prop),A.handled=none->at' it i s.heap->src s.heap vs->vs[i]?=none ->
   (∀ h' e,Heap.ExtBut it s.heap h'->(∃ o,h'.get? e=some o/\o.cls=.type "StopIteration")->E (.ref e) { s with heap:=h' })->wpAny (model P w) A (Builtin.SmallTypes.nextOf (.ref it)) Q E s
theorem GA {P:Program} {w:World} (l:Addr):SubF P w l { cls:=.type "list_iterator",data:=.fields #[.ref l,.int 0 0] } (fun h vs=>h.IsList l vs) (fun it i h=>h.IsListIter it l i) where
 start:=fun A s vs Q E hl hq=>wpAny_pyIter_list hl hq
 first:=fun it h e=>⟨_,e,rfl,rfl⟩
 atK:=fun it i h h' x k=>x.at k
 srcK:=fun h h' vs x k=>x.at k
 obj:=fun it i h x=>by
   obtain ⟨o,ho,_,hd⟩:=x;exact ⟨o,ho,fun v z=>by rw [hd] at z;cases z⟩
 item:=fun A s it i vs x Q E ha hs hx hq=>wpAny_nextOf_list_item ha hs hx hq
 fin:=fun A s it i vs Q E hh ha hs hx hq=>wpAny_nextOf_list_end hh ha hs hx hq
section
variable {P:Program} {w:World} {A:Around} {E:Value->Shared->Prop} {s:Shared}
theorem wm {it t:Addr} {i:Nat} {vs:Array Value} {x:Value} {Q:Value->Shared->Prop} (hi:s.heap.IsTupleIter it t i) (ht:s.heap.IsTuple t vs) (hx:vs[i]?=some x)
   (hq:∀ h',h'.IsTupleIter it t (i+1)->Heap.SameBut it s.heap h'->Q x { s with heap:=h' }):wpAny (model P w) A (Builtin.SmallTypes.nextOf (.ref it)) Q E s:=by
 obtain ⟨oi,hoi,hci,hdi⟩:=id hi;obtain ⟨ot,hot,_,nt,hdt⟩:=ht;unfold Builtin.SmallTypes.nextOf;refine wpAny_bind (wpAny_callSpecial?_slot (name:=Str.ofString "__next__") hi.typeIs F.slot_tuple_iterator_next (wpAny_call_entry F.slot_tuple_iterator_next hi.typeIs F.entry_tuple_iterator_next ?_ (F.args_tuple_iterator_next_1 _)));show wpAny (model P w) _ (field (.ref it) 0 >>= _) _ _ s;refine wpAny_bind (wpAny_field hoi hdi (x:=.ref t) rfl ?_);show wpAny (model P w) _ (if (Value.ref t == Value.none)=true then _ else _) _ _ s;rw [if_neg (by exact Bool.false_ne_true)];show wpAny (model P w) _ (field (.ref it) 1 >>= _) _ _ s;refine wpAny_bind (wpAny_field hoi hdi (x:=.int i 0) rfl ?_);show wpAny (model P w) _ (seqItems? (.ref t) >>= _) _ _ s;refine wpAny_bind (wpAny_seqItems hot hdt ?_);simp only [Int.toNat_natCast,hx];refine wpAny_bind (wpAny_setField hoi hdi (by simp) (wpAny_pure ⟨x,rfl,wpAny_pure (hq _ ?_ (Heap.SameBut.update ..))⟩));exact ⟨_,Heap.get?_update_self _ hoi (Obj.isFreed_of_fields (Obj.data_mapFields hdi _)),(Obj.cls_mapFields ..).trans hci,by rw [Obj.data_mapFields hdi];simp [rawInt]⟩
theorem xb {it t:Addr} {i:Nat} {vs:Array Value} {Q:Value->Shared->Prop} (hh:A.handled=none) (hi:s.heap.IsTupleIter it t i) (ht:s.heap.IsTuple t vs) (hx:vs[i]?=none)
   (hE:∀ h' e,Heap.ExtBut it s.heap h'->(∃ o,h'.get? e=some o/\o.cls=.type "StopIteration")->E (.ref e) { s with heap:=h' }):wpAny (model P w) A (Builtin.SmallTypes.nextOf (.ref it)) Q E s:=by
 obtain ⟨oi,hoi,hci,hdi⟩:=id hi;obtain ⟨ot,hot,_,nt,hdt⟩:=ht;unfold Builtin.SmallTypes.nextOf;refine wpAny_bind (wpAny_callSpecial?_slot (name:=Str.ofString "__next__") hi.typeIs F.slot_tuple_iterator_next (wpAny_call_entry F.slot_tuple_iterator_next hi.typeIs F.entry_tuple_iterator_next ?_ (F.args_tuple_iterator_next_1 _)));show wpAny (model P w) _ (field (.ref it) 0 >>= _) _ _ s;refine wpAny_bind (wpAny_field hoi hdi (x:=.ref t) rfl ?_);show wpAny (model P w) _ (if (Value.ref t == Value.none)=true then _ else _) _ _ s;rw [if_neg (by exact Bool.false_ne_true)];show wpAny (model P w) _ (field (.ref it) 1 >>= _) _ _ s;refine wpAny_bind (wpAny_field hoi hdi (x:=.int i 0) rfl ?_);show wpAny (model P w) _ (seqItems? (.ref t) >>= _) _ _ s;refine wpAny_bind (wpAny_seqItems hot hdt ?_);simp only [Int.toNat_natCast,hx];refine wpAny_bind (wpAny_rule (wpAny_bind (wpAny_setField hoi hdi (by simp) ?_)));show wpAny (model P w) _ (newExc (.type "StopIteration") [] >>= _) _ _ _;refine wpAny_bind ?_;simp only [newExc,newTuple];refine wpAny_bind (wpAny_newObj_type ?_ (by size_fits));refine wpAny_bind (m:=firstArgMember _ _) (wpAny_of_eq (a:=Value.none) (by first|rfl|(simp only [firstArgMember];rfl)) ?_);refine wpAny_newObj_type ?_ (by size_fits);simp only [raiseNew];refine wpAny_bind (wpAny_handled ?_)
 first|rw [show A.in1.handled=none from hh]|rw [hh]
 refine wpAny_bind (wpAny_pure (wpAny_throw ?_));exact hE _ _ (((Heap.SameBut.update ..).extBut.push _).push _) ⟨_,Heap.get?_push_size _ rfl,rfl⟩
end
theorem Je {P:Program} {w:World} (l:Addr):SubF P w l { cls:=.type "tuple_iterator",data:=.fields #[.ref l,.int 0 0] } (fun h vs=>h.IsTuple l vs) (fun it i h=>h.IsTupleIter it l i) where
 start:=fun A s vs Q E hl hq=>wpAny_pyIter_tuple hl hq
 first:=fun it h e=>⟨_,e,rfl,rfl⟩
 atK:=fun it i h h' x k=>let ⟨o,ho,r⟩:=x;⟨o,k o ho,r⟩
 srcK:=fun h h' vs x k=>let ⟨o,ho,r⟩:=x;⟨o,k o ho,r⟩
 obj:=fun it i h x=>by
   obtain ⟨o,ho,_,hd⟩:=x;exact ⟨o,ho,fun v z=>by rw [hd] at z;cases z⟩
 item:=fun A s it i vs x Q E ha hs hx hq=>wm ha hs hx hq
 fin:=fun A s it i vs Q E hh ha hs hx hq=>xb hh ha hs hx hq
end L2
set_option Elab.async false
set_option linter.all false
set_option maxRecDepth 100000
namespace L2
open PySem PySem.Spec PyProof.Rows
structure ZAp (z TI TO i1 i2 l1 l2:Addr):Prop where
 a1:TI≠z
 a2:TO≠z
 a3:i1≠z
 a4:i2≠z
 a5:TI≠TO
 a6:TI≠i1
 a7:TI≠i2
 a8:TO≠i1
 a9:TO≠i2
 a0:i1≠i2
 b1:l1≠z/\l1≠TO/\l1≠i1/\l1≠i2
 b2:l2≠z/\l2≠TO/\l2≠i1/\l2≠i2
section
variable {P:Program} {w:World} {A:Around} {E:Value->Shared->Prop} {s:Shared} {l1 l2:Addr} {ob1 ob2:Obj} {src1 src2:Heap->Array Value->Prop} {at1 at2:Addr->Nat->Heap->Prop}
theorem B0 (S1:SubF P w l1 ob1 src1 at1) (S2:SubF P w l2 ob2 src2 at2) {z TI TO i1 i2:Addr} {k1 k2:Nat} {xs ys:Array Value} {x y a b:Value} {Q:Value->Shared->Prop} (D:ZAp z TI TO i1 i2 l1 l2)
   (Hz:IsZip s.heap z TI TO .none) (HI:IsPair s.heap TI (.ref i1) (.ref i2)) (HO':IsPair s.heap TO a b) (p1:at1 i1 k1 s.heap) (p2:at2 i2 k2 s.heap) (q1:src1 s.heap xs) (q2:src2 s.heap ys) (hx:xs[k1]?=some x) (hy:ys[k2]?=some y)
   (hQ:∀ h',IsZip h' z TI TO (rawInt s.heap.objs.size)->IsPair h' TO x y->at1 i1 (k1+1) h'->at2 i2 (k2+1) h'->IsPair h' s.heap.objs.size x y->h'.objs.size=s.heap.objs.size+1 ->
     (∀ c o,c≠z->c≠TO->c≠i1->c≠i2->s.heap.get? c=some o->h'.get? c=some o)->Q (.ref s.heap.objs.size) { s with heap:=h' }) :
   wpAny (model P w) A (Builtin.«zip.__next__» ⟨[.ref z],[]⟩) (fun fn s'=>∃ v,fn=.done (.ret v)/\Q v s') E s:=by
 show wpAny (model P w) _ (field (.ref z) 2 >>= _) _ _ _;refine wpAny_bind (wpAny_field Hz rfl (x:=.bool false) rfl ?_);show wpAny (model P w) _ (field (.ref z) 3 >>= _) _ _ _;refine wpAny_bind (wpAny_field Hz rfl (x:=.ref TI) rfl ?_);refine wpAny_bind (wpAny_seqItems HI rfl ?_);show wpAny (model P w) _ (Builtin.SmallTypes.ownedTupleIsFree (.ref z) >>= _) _ _ _;refine wpAny_bind ?_;unfold Builtin.SmallTypes.ownedTupleIsFree;refine wpAny_bind (wpAny_field Hz rfl (x:=.none) rfl (wpAny_pure ?_));simp only [if_true];refine wpAny_bind (wpAny_rule ?_);refine wpAny_bind (wpAny_field Hz rfl (x:=.ref TO) rfl ?_);refine wpAny_bind (wpAny_setField_rec Hz (by simp) fun g1 z1 e1=>?_);replace z1:IsZip g1 z TI TO .ellipsis:=z1;refine wpAny_bind ?_;simp only [List.zipIdx_cons,List.zipIdx_nil,List.forIn_cons,List.forIn_nil];refine wpAny_bind (wpAny_bind (wpAny_onRaise ?_));show wpAny (model P w) _ (Builtin.SmallTypes.nextOf (.ref i1) >>= _) _ _ _;refine wpAny_bind (S1.item _ { s with heap:=g1 } i1 k1 xs x _ _ (S1.atK _ _ _ _ p1 fun o e=>e1.extBut _ _ D.a3 e) (S1.srcK _ _ _ q1 fun o e=>e1.extBut _ _ D.b1.1 e) hx fun g2 p1b e2=>wpAny_pure ?_);have o2:IsPair g2 TO a b:=e2.extBut _ _ D.a8 (e1.extBut _ _ D.a2 HO');refine wpAny_bind (wpAny_seqItems o2 rfl ?_);refine wpAny_bind (wpAny_updateSeq_pair o2 fun g3 o3 e3=>?_);replace o3:IsPair g3 TO x b:=o3;refine wpAny_bind (wpAny_letGo (wpAny_pure ?_));refine wpAny_bind (wpAny_bind (wpAny_onRaise ?_));show wpAny (model P w) _ (Builtin.SmallTypes.nextOf (.ref i2) >>= _) _ _ _;refine wpAny_bind (S2.item _ { s with heap:=g3 } i2 k2 ys y _ _ (S2.atK _ _ _ _ p2 fun o e=>e3.extBut _ _ D.a9.symm (e2.extBut _ _ D.a0.symm (e1.extBut _ _ D.a4 e))) (S2.srcK _ _ _ q2 fun o e=>e3.extBut _ _ D.b2.2.1 (e2.extBut _ _ D.b2.2.2.1 (e1.extBut _ _ D.b2.1 e))) hy fun g4 p2b e4=>wpAny_pure ?_);have o4:IsPair g4 TO x b:=e4.extBut _ _ D.a9 o3;refine wpAny_bind (wpAny_seqItems o4 rfl ?_);refine wpAny_bind (wpAny_updateSeq_pair o4 fun g5 o5 e5=>?_);replace o5:IsPair g5 TO x y:=o5;refine wpAny_bind (wpAny_letGo (wpAny_pure (wpAny_pure ?_)));refine wpAny_bind (wpAny_seqItems o5 rfl ?_);refine wpAny_bind (wpAny_newTuple ?_);have sz:g5.objs.size=s.heap.objs.size:=by rw [e5.1,e4.1,e3.1,e2.1,e1.1]
 have z5:IsZip g5 z TI TO .ellipsis:=e5.extBut _ _ D.a2.symm (e4.extBut _ _ D.a4.symm (e3.extBut _ _ D.a2.symm (e2.extBut _ _ D.a3.symm z1)));have k5:∀ c o,c≠z->c≠TO->c≠i1->c≠i2->s.heap.get? c=some o->g5.get? c=some o:=fun c o c1 c2 c3 c4 e =>
   e5.extBut _ _ c2 (e4.extBut _ _ c4 (e3.extBut _ _ c2 (e2.extBut _ _ c3 (e1.extBut _ _ c1 e))))
 have p15:at1 i1 (k1+1) g5:=S1.atK _ _ _ _ p1b fun o e=>e5.extBut _ _ D.a8.symm (e4.extBut _ _ D.a0 (e3.extBut _ _ D.a8.symm e));have p25:at2 i2 (k2+1) g5:=S2.atK _ _ _ _ p2b fun o e=>e5.extBut _ _ D.a9.symm e;have zlt:z<g5.objs.size:=Heap.lt_size z5;show wpAny (model P w) _ (Builtin.SmallTypes.ownedTupleHandOut (.ref z) (.ref g5.objs.size) >>= _) _ _ _;refine wpAny_bind ?_;unfold Builtin.SmallTypes.ownedTupleHandOut;have z6:IsZip (g5.push { cls:=.type "tuple",data:=.seq #[x,y] }) z TI TO .ellipsis:=Heap.get?_push_of_some _ z5;refine wpAny_bind (wpAny_setField_rec z6 (by simp) fun g7 z7 e7=>?_);replace z7:IsZip g7 z TI TO (rawInt g5.objs.size):=z7;refine wpAny_setField_rec z7 (by simp) fun g8 z8 e8=>?_;replace z8:IsZip g8 z TI TO (rawInt g5.objs.size):=z8;have up:∀ c o,c≠z->g5.get? c=some o->g8.get? c=some o:=fun c o c1 e=>e8.extBut _ _ c1 (e7.extBut _ _ c1 (Heap.get?_push_of_some _ e));have t8:IsPair g8 g5.objs.size x y:=e8.extBut _ _ (Nat.ne_of_gt zlt) (e7.extBut _ _ (Nat.ne_of_gt zlt) (Heap.get?_push_size _ rfl));have s8:g8.objs.size=g5.objs.size+1:=by rw [e8.1,e7.1,Heap.size_push]
 rw [sz] at z8 t8 s8;refine wpAny_pure ⟨_,rfl,?_⟩;show Q (.ref g5.objs.size) _;rw [sz];exact hQ g8 z8 (up _ _ D.a2 o5) (S1.atK _ _ _ _ p15 fun o e=>up _ o D.a3 e) (S2.atK _ _ _ _ p25 fun o e=>up _ o D.a4 e) t8 s8 fun c o c1 c2 c3 c4 e=>up c o c1 (k5 c o c1 c2 c3 c4 e)
theorem En (S1:SubF P w l1 ob1 src1 at1) (S2:SubF P w l2 ob2 src2 at2) {z TI TO i1 i2:Addr} {k1 k2:Nat} {xs ys:Array Value} {a b:Value} {Q:Fin->Shared->Prop} (hh:A.handled=none) (D:ZAp z TI TO i1 i2 l1 l2)
   (Hz:IsZip s.heap z TI TO .none) (HI:IsPair s.heap TI (.ref i1) (.ref i2)) (HO':IsPair s.heap TO a b) (p1:at1 i1 k1 s.heap) (p2:at2 i2 k2 s.heap) (q1:src1 s.heap xs) (q2:src2 s.heap ys) (hend:xs[k1]?=none\/ys[k2]?=none)
   (hE:∀ h' e,(∀ c o,c≠z->c≠TO->c≠i1->c≠i2->s.heap.get? c=some o->h'.get? c=some o)->(∃ o,h'.get? e=some o/\o.cls=.type "StopIteration")->E (.ref e) { s with heap:=h' }) :
   wpAny (model P w) A (Builtin.«zip.__next__» ⟨[.ref z],[]⟩) Q E s:=by
 show wpAny (model P w) _ (field (.ref z) 2 >>= _) _ _ _;refine wpAny_bind (wpAny_field Hz rfl (x:=.bool false) rfl ?_);show wpAny (model P w) _ (field (.ref z) 3 >>= _) _ _ _;refine wpAny_bind (wpAny_field Hz rfl (x:=.ref TI) rfl ?_);refine wpAny_bind (wpAny_seqItems HI rfl ?_);show wpAny (model P w) _ (Builtin.SmallTypes.ownedTupleIsFree (.ref z) >>= _) _ _ _;refine wpAny_bind ?_;unfold Builtin.SmallTypes.ownedTupleIsFree;refine wpAny_bind (wpAny_field Hz rfl (x:=.none) rfl (wpAny_pure ?_));simp only [if_true];refine wpAny_bind (wpAny_rule ?_);refine wpAny_bind (wpAny_field Hz rfl (x:=.ref TO) rfl ?_);refine wpAny_bind (wpAny_setField_rec Hz (by simp) fun g1 z1 e1=>?_);replace z1:IsZip g1 z TI TO .ellipsis:=z1;refine wpAny_bind ?_;simp only [List.zipIdx_cons,List.zipIdx_nil,List.forIn_cons,List.forIn_nil];refine wpAny_bind (wpAny_bind (wpAny_onRaise ?_));show wpAny (model P w) _ (Builtin.SmallTypes.nextOf (.ref i1) >>= _) _ _ _;have p1a:at1 i1 k1 g1:=S1.atK _ _ _ _ p1 fun o e=>e1.extBut _ _ D.a3 e;have q1a:src1 g1 xs:=S1.srcK _ _ _ q1 fun o e=>e1.extBut _ _ D.b1.1 e;cases hx:xs[k1]? with
 | none =>
   refine wpAny_bind (S1.fin _ { s with heap:=g1 } i1 k1 xs _ _ hh p1a q1a hx fun g2 e e2 he=>?_);obtain ⟨oe,hoe,hce⟩:=he;have z2:IsZip g2 z TI TO .ellipsis:=e2 _ _ D.a3.symm z1;have ez:e≠z:=fun t=>by subst t;rw [z2] at hoe;cases hoe;simp at hce
   refine wpAny_setField_rec z2 (by simp) fun g3 _ e3=>hE g3 e (fun c o c1 _ c3 _ t=>e3.extBut _ _ c1 (e2 _ _ c3 (e1.extBut _ _ c1 t))) ⟨oe,e3.extBut _ _ ez hoe,hce⟩
 | some x =>
   have hy:ys[k2]?=none:=by
     rcases hend with h|h
     . rw [hx] at h;cases h
     . exact h
   refine wpAny_bind (S1.item _ { s with heap:=g1 } i1 k1 xs x _ _ p1a q1a hx fun g2 p1b e2=>wpAny_pure ?_);have o2:IsPair g2 TO a b:=e2.extBut _ _ D.a8 (e1.extBut _ _ D.a2 HO');refine wpAny_bind (wpAny_seqItems o2 rfl ?_);refine wpAny_bind (wpAny_updateSeq_pair o2 fun g3 o3 e3=>?_);refine wpAny_bind (wpAny_letGo (wpAny_pure ?_));refine wpAny_bind (wpAny_bind (wpAny_onRaise ?_));show wpAny (model P w) _ (Builtin.SmallTypes.nextOf (.ref i2) >>= _) _ _ _;refine wpAny_bind (S2.fin _ { s with heap:=g3 } i2 k2 ys _ _ hh (S2.atK _ _ _ _ p2 fun o e=>e3.extBut _ _ D.a9.symm (e2.extBut _ _ D.a0.symm (e1.extBut _ _ D.a4 e))) (S2.srcK _ _ _ q2 fun o e=>e3.extBut _ _ D.b2.2.1 (e2.extBut _ _ D.b2.2.2.1 (e1.extBut _ _ D.b2.1 e))) hy fun g4 e e4 he=>?_);obtain ⟨oe,hoe,hce⟩:=he;have z4:IsZip g4 z TI TO .ellipsis:=e4 _ _ D.a4.symm (e3.extBut _ _ D.a2.symm (e2.extBut _ _ D.a3.symm z1));have ez:e≠z:=fun t=>by subst t;rw [z4] at hoe;cases hoe;simp at hce
   refine wpAny_setField_rec z4 (by simp) fun g5 _ e5=>hE g5 e (fun c o c1 c2 c3 c4 t=>e5.extBut _ _ c1 (e4 _ _ c4 (e3.extBut _ _ c2 (e2.extBut _ _ c3 (e1.extBut _ _ c1 t))))) ⟨oe,e5.extBut _ _ ez hoe,hce⟩
abbrev zp1 (h:Heap) (ob1 ob2:Obj):Heap:=(h.push ob1).push ob2
abbrev zp2 (h:Heap) (ob1 ob2:Obj):Heap:=(zp1 h ob1 ob2).push { cls:=.type "tuple",data:=.seq #[.ref h.objs.size,.ref (h.push ob1).objs.size] }
abbrev zp3 (h:Heap) (ob1 ob2:Obj):Heap:=(zp2 h ob1 ob2).push { cls:=.type "tuple",data:=.seq #[.none,.none] }
abbrev zp4 (h:Heap) (ob1 ob2:Obj):Heap:=(zp3 h ob1 ob2).push { cls:=.type "zip",data:=.fields #[.none,.bool false,.bool false,.ref (zp1 h ob1 ob2).objs.size,.ref (zp2 h ob1 ob2).objs.size] }
theorem AV (S1:∀ P w,SubF P w l1 ob1 src1 at1) (S2:∀ P w,SubF P w l2 ob2 src2 at2) (ne:∀ h vs,src2 h vs->∃ o,h.get? l2=some o) (xs ys:Array Value) :
   Meets (Builtin.«zip.__new__» ⟨[.type "zip",.ref l1,.ref l2],[]⟩) (fun _ R s=>src1 s.heap xs/\src2 s.heap ys/\R (.ok (.ret (.ref (zp3 s.heap ob1 ob2).objs.size))) { s with heap:=zp4 s.heap ob1 ob2 }) :=
 .of_wp fun prog w A R s hyp=>by
   obtain ⟨hp,g,d,tk,os⟩:=s;obtain ⟨q1,q2,r⟩:=hyp;have zsub:=sub_zip;have B1:src1 (Shared.heap ⟨hp,g,d,tk,os⟩) xs:=q1;have B2:src2 (Shared.heap ⟨hp.push ob1,g,d,tk,os⟩) ys:=(S2 prog w).srcK _ _ _ q2 fun o e=>Heap.get?_push_of_some _ e
   wp_walk using ((S1 prog w).start _ _ _ _ _ B1),((S2 prog w).start _ _ _ _ _ B2)
   exact ⟨_,rfl,r⟩
theorem JG (S1:∀ P w,SubF P w l1 ob1 src1 at1) (S2:∀ P w,SubF P w l2 ob2 src2 at2) (ne:∀ h vs,src2 h vs->∃ o,h.get? l2=some o) {xs ys:Array Value} {Q:Value->Shared->Prop} (q1:src1 s.heap xs) (q2:src2 s.heap ys)
   (h:∀ h',IsZip h' (s.heap.objs.size+4) (s.heap.objs.size+2) (s.heap.objs.size+3) .none->IsPair h' (s.heap.objs.size+2) (.ref s.heap.objs.size) (.ref (s.heap.objs.size+1)) ->
     IsPair h' (s.heap.objs.size+3) .none .none->at1 s.heap.objs.size 0 h'->at2 (s.heap.objs.size+1) 0 h' ->
     (∀ c o,s.heap.get? c=some o->h'.get? c=some o)->Q (.ref (s.heap.objs.size+4)) { s with heap:=h' }) (f1:ob1.isFreed=false) (f2:ob2.isFreed=false) :
   wpAny (model P w) A (call (.type "zip") [.ref l1,.ref l2]) Q E s:=by
 refine callType_new F.called_zip (by decide) (F.typeCall_zip_2 _ _) (F.newCall_zip_2 _ _) (fun obj=>F.args_object_init_3 obj _ _) F.entry_zip_new (AV S1 S2 ne xs ys) ⟨q1,q2,?_⟩;have n0:(s.heap.push ob1).objs.size=s.heap.objs.size+1:=Heap.size_push ..;have n1:(zp1 s.heap ob1 ob2).objs.size=s.heap.objs.size+2:=by rw [Heap.size_push,n0]
 have n2:(zp2 s.heap ob1 ob2).objs.size=s.heap.objs.size+3:=by rw [Heap.size_push,n1]
 have n3:(zp3 s.heap ob1 ob2).objs.size=s.heap.objs.size+4:=by rw [Heap.size_push,n2]
 have c5:(zp4 s.heap ob1 ob2).get? (zp3 s.heap ob1 ob2).objs.size=some _:=Heap.get?_push_size _ rfl;have c4:(zp4 s.heap ob1 ob2).get? (zp2 s.heap ob1 ob2).objs.size=some _:=Heap.get?_push_of_some _ (Heap.get?_push_size _ rfl);have c3:(zp4 s.heap ob1 ob2).get? (zp1 s.heap ob1 ob2).objs.size=some _:=Heap.get?_push_of_some _ (Heap.get?_push_of_some _ (Heap.get?_push_size _ rfl));have c2:(zp4 s.heap ob1 ob2).get? (s.heap.push ob1).objs.size=some ob2:=Heap.get?_push_of_some _ (Heap.get?_push_of_some _ (Heap.get?_push_of_some _ (Heap.get?_push_size _ f2)));have c1:(zp4 s.heap ob1 ob2).get? s.heap.objs.size=some ob1:=Heap.get?_push_of_some _ (Heap.get?_push_of_some _ (Heap.get?_push_of_some _ (Heap.get?_push_of_some _ (Heap.get?_push_size _ f1))));show _/\_;rw [n1,n2,n3] at c5;rw [n0,n1] at c3;rw [n2] at c4;rw [n0] at c2;rw [n3];exact ⟨⟨_,c5,rfl⟩,h _ c5 c3 c4 ((S1 P w).first _ _ c1) ((S2 P w).first _ _ c2) fun c o e=>Heap.get?_push_of_some _ (Heap.get?_push_of_some _ (Heap.get?_push_of_some _ (Heap.get?_push_of_some _ (Heap.get?_push_of_some _ e))))⟩
end
def SqX (K:PySem.W.Frag):Bool->Hp->Addr->List V->Prop
 | true,H,a,xs=>SqL K H a xs
 | false,H,a,xs=>SqT K H a xs
def Itz (K:PySem.W.Frag) (c d:Bool) (a b:Addr):It :=
 ⟨fun i H=>∃ xs ys x y,SqX K c H a xs/\SqX K d H b ys/\xs[i]?=some x/\ys[i]?=some y,
  fun i H v H'=>∃ p x y,H p=none/\v=.ref p/\H'=upd H p (.tup [x,y])/\(∀ xs,SqX K c H a xs->xs[i]?=some x)/\∀ ys,SqX K d H b ys->ys[i]?=some y,
  fun i H=>∃ xs ys,SqX K c H a xs/\SqX K d H b ys/\(xs.length<=i\/ys.length<=i)⟩
def Ot (a:Addr):Bool->Obj
 | true=>{ cls:=.type "list_iterator",data:=.fields #[.ref a,.int 0 0] }
 | false=>{ cls:=.type "tuple_iterator",data:=.fields #[.ref a,.int 0 0] }
def Fx (a:Addr):Bool->Heap->Array Value->Prop
 | true,h,vs=>h.IsList a vs
 | false,h,vs=>h.IsTuple a vs
def zAt (a:Addr):Bool->Addr->Nat->Heap->Prop
 | true,it,i,h=>h.IsListIter it a i
 | false,it,i,h=>h.IsTupleIter it a i
theorem dX (a:Addr) (c:Bool) (P:Program) (w:World):SubF P w a (Ot a c) (Fx a c) (zAt a c):=by
 cases c
 . exact Je a
 . exact GA a
theorem vF (a:Addr) (c:Bool):(Ot a c).isFreed=false:=by cases c <;> rfl
theorem mz (a:Addr) (c:Bool) (h:Heap) (vs:Array Value) (e:Fx a c h vs):∃ o,h.get? a=some o:=by
 cases c
 . obtain ⟨o,ho,_⟩:=e;exact ⟨o,ho⟩
 . obtain ⟨o,ho,_⟩:=e;exact ⟨o,ho⟩
theorem Inv.sqX {X:Cx} {pins:List (Addr × Obj)} {σ:St} {H:Hp} {s:Shared} {c:Bool} {a:Addr} {xs:List V} (I:Inv X pins σ H s) (h:SqX X.K c H a xs):∃ its:List Value,Vals xs its/\Fx a c s.heap its.toArray:=by
 cases c with
 | true =>
   obtain ⟨its,r,pl,_⟩:=I.list h;exact ⟨its,r,pl.isList⟩
 | false =>
   obtain ⟨its,r,⟨o,ho,hc,n,hd⟩,_⟩:=I.tuple h;exact ⟨its,r,⟨o,ho,hc,n,hd⟩⟩
theorem Inv.sqX_inj {X:Cx} {pins:List (Addr × Obj)} {σ:St} {H:Hp} {s:Shared} {c:Bool} {a:Addr} {xs ys:List V} (I:Inv X pins σ H s) (h:SqX X.K c H a xs) (h':SqX X.K c H a ys):xs=ys:=by
 cases c with
 | true=>exact I.list_inj h h'
 | false=>exact I.tuple_inj h h'
theorem Ja {P:Program} {w:World} {K:PySem.W.Frag} {elts:List Expr} {x1} {tpos:Pos} (c d:Bool) (a b z TI TO i1 i2:Addr) (D:ZAp z TI TO i1 i2 a b) :
   Turn P w K (.Tuple elts x1 tpos) (Itz K c d a b) [z,TI,TO,i1,i2] z (fun i h=>IsZip h z TI TO .none/\IsPair h TI (.ref i1) (.ref i2)/\(∃ u v,IsPair h TO u v)/\zAt a c i1 i h/\zAt b d i2 i h) where
 mem:=by simp
 obj:=fun i h t e he=>by
   obtain ⟨t1,t2,⟨u,v,t3⟩,t4,t5⟩:=t;simp only [List.mem_cons,List.mem_nil_iff,or_false] at he;rcases he with rfl|rfl|rfl|rfl|rfl
   . exact ⟨_,t1,fun v z=>by cases z⟩
   . exact ⟨_,t2,fun v z=>by cases z⟩
   . exact ⟨_,t3,fun v z=>by cases z⟩
   . exact (dX a c P w).obj _ _ _ t4
   . exact (dX b d P w).obj _ _ _ t5
 keep:=fun i h h' t k=>by
   obtain ⟨t1,t2,⟨u,v,t3⟩,t4,t5⟩:=t;exact ⟨k z (by simp) _ t1,k TI (by simp) _ t2,⟨u,v,k TO (by simp) _ t3⟩,(dX a c P w).atK _ _ _ _ t4 fun o e=>k i1 (by simp) o e,(dX b d P w).atK _ _ _ _ t5 fun o e=>k i2 (by simp) o e⟩
 item:=fun X e1 e2 e3 hc i pins s σ H E I f t g=>by
   subst e1 e2 e3;obtain ⟨t1,t2,⟨u,v,t3⟩,t4,t5⟩:=t;obtain ⟨xs,ys,x,y,s1,s2,hx,hy⟩:=g;obtain ⟨us,r1,q1⟩:=I.sqX s1;obtain ⟨vs,r2,q2⟩:=I.sqX s2;obtain ⟨xu,hxu,rx⟩:=r1.get hx;obtain ⟨yu,hyu,ry⟩:=r2.get hy;have hT:s.TypeIs (.ref z) "zip":=⟨_,t1,rfl⟩;unfold pyNext;refine wpAny_bind (wpAny_attempt (wpAny_callSpecial?_slot (name:=Str.ofString "__next__") hT F.slot_zip_next (wpAny_call_entry F.slot_zip_next hT F.entry_zip_next
     (B0 (dX a c _ _) (dX b d _ _) D t1 t2 t3 t4 t5 q1 q2 (x:=xu) (y:=yu) (by simpa using hxu) (by simpa using hyu) fun h' w1 w2 w3 w4 w5 w6 w7=>wpAny_pure ?_) (F.args_zip_next_1 _))))
   refine ⟨_,rfl,wpAny_letOwnedTupleGo_zip w1 fun h2 n1 n2=>?_⟩;have fz:∀ q∈[z,TI,TO,i1,i2],jq X pins H q:=f;have lt0:s.heap.objs.size≠z:=Nat.ne_of_gt (Heap.lt_size t1);have new:IsPair h2 s.heap.objs.size xu yu:=n2.extBut _ _ lt0 w5;have kp:∀ q o,q ∉ [z,TI,TO,i1,i2]->s.heap.get? q=some o->h2.get? q=some o:=fun q o hq e=>by
     simp only [List.mem_cons,List.mem_nil_iff,or_false,not_or] at hq;exact n2.extBut _ _ hq.1 (w7 q o hq.1 hq.2.2.1 hq.2.2.2.1 hq.2.2.2.2 e)
   have kTI:h2.get? TI=some _:=n2.extBut _ _ D.a1 (w7 TI _ D.a1 D.a5 D.a6 D.a7 t2);have Hn:∀ q u,H q=some u->q ∉ [z,TI,TO,i1,i2]:=fun q u e hq=>by rw [(fz q hq).1] at e;cases e
   have I2:Inv X pins σ H { s with heap:=h2 }:=by
     refine I.step (g':=s.gens) (d':=s.drawn) (t':=s.toks) (ch:=[z,TI,TO,i1,i2]) (fun q hq=>⟨(fz q hq).2.2.2.1,(fz q hq).2.1,(fz q hq).2.2.2.2.1,(fz q hq).2.2.2.2.2⟩) (fun q o _ _ hq e _=>kp q o hq e) (fun q o _ _ hq e _=>⟨o.slots,kp q o hq e⟩) (fun _ _ _ _ n=>n)
       (fun q o hq e=>⟨o,kp q o hq e⟩) (fun _ _ e=>e) (fun _ _ _ e=>e) (fun q ps e=>⟨#[],by rw [e];simp⟩) (fun m hm=>?_) (fun q u e=>?_) I.bare
     . obtain ⟨o,es,ep,ho,r⟩:=hm;exact ⟨o,es,ep,kp _ o (fun hq=>(fz _ hq).2.1 rfl) ho,r⟩
     . refine (I.hok q u e).stay (fun q' v hq' e'=>kp q' v ?_ e') (fun _ e'=>e') fun _ _ e'=>e';rcases hq' with rfl|hq'
       . exact Hn _ u e
       . exact Hn _ _ hq'
   have nH:H s.heap.objs.size=none:=I.fresh;have I3:Inv X pins σ (upd H s.heap.objs.size (.tup [x,y])) { s with heap:=h2 }:=by
     refine ⟨I2.ok,I2.os,I2.bare,?_,I2.loc,I2.cell,?_,fun n c e=>?_,fun p hp=>?_,fun q u e=>?_,I2.len⟩
     . refine ⟨I2.base.keep,I2.base.slot,fun q o e n hx=>?_,I2.base.there,fun q xs e=>?_,fun q o u e=>?_,fun q ps e=>?_⟩
       . have lt:q<X.s₀.heap.objs.size:=Heap.lt_size e;rw [ar (Nat.ne_of_lt (Nat.lt_of_lt_of_le lt I.sz))];exact I2.base.free q o e n hx
       . have e':=I2.base.tups q xs e;rw [ar (fun z=>by rw [z,nH] at e';cases e')];exact e'
       . have e':=I2.base.frzs q o u e;rw [ar (fun z=>by rw [z,nH] at e';cases e')];exact e'
       . obtain ⟨more,e'⟩:=I2.base.tbls q ps e;exact ⟨more,by rw [ar (fun z=>by rw [z,nH] at e';cases e')];exact e'⟩
     . rw [ar (Nat.ne_of_lt I.lt)];exact I2.free
     . obtain ⟨vv,o,ho,_⟩:=I.cell n c e;rw [ar (Nat.ne_of_lt (Heap.lt_size ho))];exact I2.freeC n c e
     . obtain ⟨k1,k2,k3⟩:=I.pin p hp;rw [ar (Nat.ne_of_lt (Heap.lt_size k1))];exact I2.pin p hp
     . by_cases hq:q=s.heap.objs.size
       . subst hq;rw [ah] at e;cases e;exact ⟨by show 2<=sizeLine;decide,[xu,yu],.cons rx (.cons ry .nil),_,new,rfl,_,rfl⟩
       . rw [ar hq] at e;refine (I2.hok q u e).stay (fun _ _ _ e'=>e') (fun q' e'=>?_) fun q' xs e'=>?_
         . rw [ar (fun z=>by rw [z,nH] at e';cases e')];exact e'
         . rw [ar (fun z=>by rw [z,nH] at e';cases e')];exact e'
   refine ⟨.ref s.heap.objs.size,_,I3,rfl,⟨_,x,y,nH,rfl,rfl,fun xs' q=>?_,fun ys' q=>?_⟩,⟨n1,kTI,⟨_,_,n2.extBut _ _ D.a2 w2⟩,(dX a c X.prog X.w).atK _ _ _ _ w3 fun o e=>n2.extBut _ _ D.a3 e,(dX b d X.prog X.w).atK _ _ _ _ w4 fun o e=>n2.extBut _ _ D.a4 e⟩,fun q hq=>?_⟩
   . rw [<- I.sqX_inj s1 q];exact hx
   . rw [<- I.sqX_inj s2 q];exact hy
   . have hlt:q<s.heap.objs.size:=by
       simp only [List.mem_cons,List.mem_nil_iff,or_false] at hq;rcases hq with rfl|rfl|rfl|rfl|rfl
       . exact Heap.lt_size t1
       . exact Heap.lt_size t2
       . exact Heap.lt_size t3
       . exact let ⟨o,e,_⟩:=(dX a c X.prog X.w).obj _ _ _ t4;Heap.lt_size e
       . exact let ⟨o,e,_⟩:=(dX b d X.prog X.w).obj _ _ _ t5;Heap.lt_size e
     rw [ar (Nat.ne_of_lt hlt)];exact (fz q hq).1
 done:=fun X e1 e2 e3 hc i pins s σ H E I f t g=>by
   subst e1 e2 e3;obtain ⟨t1,t2,⟨u,v,t3⟩,t4,t5⟩:=t;obtain ⟨xs,ys,s1,s2,hend⟩:=g;obtain ⟨us,r1,q1⟩:=I.sqX s1;obtain ⟨vs,r2,q2⟩:=I.sqX s2;have fz:∀ q∈[z,TI,TO,i1,i2],jq X pins H q:=f;have hh:X.A.handled=none:=I.ok.hd hc;have hT:s.TypeIs (.ref z) "zip":=⟨_,t1,rfl⟩;have hend':us.toArray[i]?=none\/vs.toArray[i]?=none:=by
     rcases hend with e|e
     . exact .inl (by have:=r1.length;simp;omega)
     . exact .inr (by have:=r2.length;simp;omega)
   unfold pyNext;refine wpAny_bind (wpAny_attempt (wpAny_callSpecial?_slot (name:=Str.ofString "__next__") hT F.slot_zip_next (wpAny_call_entry F.slot_zip_next hT F.entry_zip_next
     (En (dX a c _ _) (dX b d _ _) hh D t1 t2 t3 t4 t5 q1 q2 hend' fun h' e hk he=>?_) (F.args_zip_next_1 _))))
   obtain ⟨o,ho,hcl⟩:=he;refine wpAny_bind (wpAny_isInstance (T:="StopIteration") (b:=true) ⟨o,ho,hcl⟩ isSubtype_stop (wpAny_pure ⟨rfl,?_⟩));have kp:∀ q o,q ∉ [z,TI,TO,i1,i2]->s.heap.get? q=some o->h'.get? q=some o:=fun q o hq e=>by
     simp only [List.mem_cons,List.mem_nil_iff,or_false,not_or] at hq;exact hk q o hq.1 hq.2.2.1 hq.2.2.2.1 hq.2.2.2.2 e
   have Hn:∀ q u,H q=some u->q ∉ [z,TI,TO,i1,i2]:=fun q u e hq=>by rw [(fz q hq).1] at e;cases e
   refine I.step (g':=s.gens) (d':=s.drawn) (t':=s.toks) (ch:=[z,TI,TO,i1,i2]) (fun q hq=>⟨(fz q hq).2.2.2.1,(fz q hq).2.1,(fz q hq).2.2.2.2.1,(fz q hq).2.2.2.2.2⟩) (fun q o _ _ hq e _=>kp q o hq e) (fun q o _ _ hq e _=>⟨o.slots,kp q o hq e⟩) (fun _ _ _ _ n=>n)
     (fun q o hq e=>⟨o,kp q o hq e⟩) (fun _ _ e=>e) (fun _ _ _ e=>e) (fun q ps e=>⟨#[],by rw [e];simp⟩) (fun m hm=>?_) (fun q u e=>?_) I.bare
   . obtain ⟨o,es,ep,ho,r⟩:=hm;exact ⟨o,es,ep,kp _ o (fun hq=>(fz _ hq).2.1 rfl) ho,r⟩
   . refine (I.hok q u e).stay (fun q' v hq' e'=>kp q' v ?_ e') (fun _ e'=>e') fun _ _ e'=>e';rcases hq' with rfl|hq'
     . exact Hn _ u e
     . exact Hn _ _ hq'
 self:=fun A i s Q E t q=>wpAny_pyIter_zip t.1 q
end L2
set_option Elab.async false
set_option linter.all false
set_option maxRecDepth 100000
namespace L2
open PySem PySem.Spec PyProof.Rows
section
variable {X:Cx} {pins:List (Addr × Obj)} {σ:St} {H H2:Hp} {s s2:Shared} {a:Addr} {o:HO}
end
section
variable {P:Program} {w:World} {A:Around} {E:Value->Shared->Prop} {s:Shared}
end
end L2
set_option Elab.async false
set_option linter.all false
set_option maxRecDepth 100000
namespace L2
open PySem PySem.Spec PyProof.Rows
section
variable {P:Program} {w:World} {A:Around} {E:Value->Shared->Prop} {s:Shared} {R:Result->Shared->Prop}
end
section
variable {X:Cx} {e:Expr} {te:TE} {p1 p2 pos pos2:Pos}
end
end L2
set_option Elab.async false
set_option linter.all false
set_option maxRecDepth 100000
namespace L2
open PySem PySem.Spec PyProof.Rows
theorem eM {a b:Nat} (h:a<b\/b<a):a≠b:=by omega
theorem M7 (n a b:Nat) (h1:a<n) (h2:b<n):ZAp (n+4) (n+2) (n+3) n (n+1) a b :=
 ⟨eM (by omega),eM (by omega),eM (by omega),eM (by omega),eM (by omega),eM (by omega),eM (by omega),eM (by omega),eM (by omega),eM (by omega),⟨eM (by omega),eM (by omega),eM (by omega),eM (by omega)⟩,⟨eM (by omega),eM (by omega),eM (by omega),eM (by omega)⟩⟩
section
variable {X:Cx}
def Ia (K:PySem.W.Frag) (c d:Bool) (ta:TA):TI:=fun σ H R=>ta σ H fun vs H1=>∃ a b,vs=[.ref a,.ref b]/\(∃ xs,SqX K c H1 a xs)/\(∃ ys,SqX K d H1 b ys)/\R (Itz K c d a b) H1
theorem MV {elts:List Expr} {x1} {tpos:Pos} {ea eb:Expr} {ta:TA} {p pos:Pos} (c d:Bool) (hg:Gl X "zip") (hm:X.mg "zip"=none) (ha:PA X [ea,eb] ta)
   (hs:starEach [ea,eb] X.env=[(false,eval ea X.env),(false,eval eb X.env)]:=by rfl) (hs2:starEach [eb] X.env=[(false,eval eb X.env)]:=by rfl) :
   PI X (.Tuple elts x1 tpos) (.Call (.Name "zip" p) [ea,eb] [] pos) (Ia X.K c d ta):=by
 intro pins s σ H R I h;refine Call_ (lA I hg hm boot_zip (PyProof.Rows.callWith_type1 (o9 (ha pos pins s σ H _ I h) fun us s1 vs H1 I1 r1 q1=>?_) (by rw [hs,hs2]) (by rw [hs2];rfl)));obtain ⟨a,b,e,⟨xs,sa⟩,⟨ys,sb⟩,q⟩:=q1;subst e;obtain ⟨u,v,rfl,ru,rv⟩:=xX r1;cases ru;cases rv;obtain ⟨us,r1,q1⟩:=I1.sqX sa;obtain ⟨vs,r2,q2⟩:=I1.sqX sb;obtain ⟨oa,hoa⟩:=mz a c _ _ q1;obtain ⟨ob,hob⟩:=mz b d _ _ q2;have la:=Heap.lt_size hoa;have lb:=Heap.lt_size hob;refine JG (dX a c) (dX b d) (mz b d) q1 q2 (fun h' w1 w2 w3 w4 w5 w6=>?_) (vF a c) (vF b d);refine wpAny_pyIter_zip w1 ?_;have D:=M7 s1.heap.objs.size a b la lb;refine ⟨_,[s1.heap.objs.size+4,s1.heap.objs.size+2,s1.heap.objs.size+3,s1.heap.objs.size,s1.heap.objs.size+1],_,_,H1,rfl,I1.kept (t':=s1.toks) w6,Ja c d a b _ _ _ _ _ D,⟨w1,w2,⟨_,_,w3⟩,w4,w5⟩,fun q hq=>?_,q⟩;have hle:s1.heap.objs.size<=q:=by
   simp only [List.mem_cons,List.mem_nil_iff,or_false] at hq;rcases hq with rfl|rfl|rfl|rfl|rfl
   . exact Nat.le_add_right _ 4
   . exact Nat.le_add_right _ 2
   . exact Nat.le_add_right _ 3
   . exact Nat.le_refl _
   . exact Nat.le_add_right _ 1
 exact I1.fpOk hle (I1.hok.fresh hle)
end
end L2
set_option linter.all false
namespace Pb
structure Road where
 a:Int
 b:Int
 t:Int
 u:Int
 deriving DecidableEq
def GV (m:Int) (rs:List Road):Prop:=∀ S:Int->Prop,S 0->(∀ r∈rs,(S r.a↔S r.b))->∀ v,0<=v->v<m->S v
structure RoadOk (m:Int) (r:Road):Prop where
 a0:0<=r.a
 a1:r.a<m
 b0:0<=r.b
 b1:r.b<m
 ne:r.a≠r.b
 t0:2<=r.t
 t1:r.t<=1000000
 u0:2<=r.u
 u1:r.u<=1000000
structure Good (m:Int) (rs:List Road):Prop where
 m1:1<=m
 m24:m<=24
 len:(rs.length:Int)=m - 1
 ok:∀ r∈rs,RoadOk m r
 jn:GV m rs
theorem kK {α:Type} [DecidableEq α]:∀ {l l':List α},l.Nodup->(∀ x∈l,x∈l')->l.length<=l'.length
 | [],_,_,_=>Nat.zero_le _
 | x::r,l',hn,hs=>by
   obtain ⟨h1,h2⟩:=List.nodup_cons.mp hn;have hx:x∈l':=hs x List.mem_cons_self;have:r.length<=(l'.erase x).length:=kK h2 fun y hy=>(List.mem_erase_of_ne (fun (e:y=x)=>h1 (by rw [<- e];exact hy))).mpr (hs y (List.mem_cons_of_mem _ hy));rw [List.length_erase_of_mem hx] at this;have hp:0<l'.length:=List.length_pos_of_mem hx;rw [List.length_cons];omega
def below (n:Nat):List Int:=(List.range n).map fun (k:Nat)=>(k:Int)
theorem d5 {n:Nat} {v:Int}:v∈below n↔0<=v/\v<n:=by
 unfold below;rw [List.mem_map]
 constructor
 . rintro ⟨k,hk,rfl⟩;have:=List.mem_range.mp hk;omega
 . rintro ⟨h0,h1⟩;exact ⟨v.toNat,List.mem_range.mpr (by omega),by omega⟩
theorem bx (n:Nat):(below n).length=n:=by simp [below]
theorem iZ (n:Nat):(below n).Nodup:=by
 unfold below;refine List.Pairwise.map _ (fun a b h=>?_) (List.nodup_range (n:=n));intro e;exact h (by omega)
theorem cL {m:Int} {l:List Int} (hm:0<=m) (hn:l.Nodup) (h:∀ x∈l,0<=x/\x<m):(l.length:Int)<=m:=by
 have:=kK (l':=below m.toNat) hn fun x hx=>d5.mpr ⟨(h x hx).1,by have:=(h x hx).2;omega⟩;rw [bx] at this;omega
theorem LA {m:Int} {l:List Int} (hm:0<=m) (h:∀ v,0<=v->v<m->v∈l):m<=(l.length:Int):=by
 have:=kK (l:=below m.toNat) (l':=l) (iZ _) fun x hx=>by
   obtain ⟨h0,h1⟩:=d5.mp hx;exact h x h0 (by omega)
 rw [bx] at this;omega
def o7 (p:Int) (r:Road):List Int:=(if r.a=p then [r.b] else [])++(if r.b=p then [r.a] else [])
def bT (rs:List Road) (p:Int):List Int:=rs.flatMap (o7 p)
theorem on {rs:List Road} {p e:Int}:e∈bT rs p↔∃ r∈rs,(r.a=p/\r.b=e)\/(r.b=p/\r.a=e):=by
 unfold bT o7;rw [List.mem_flatMap]
 constructor
 . rintro ⟨r,hr,h⟩;refine ⟨r,hr,?_⟩;rcases List.mem_append.mp h with h|h
   . by_cases c:r.a=p
     . rw [if_pos c] at h;exact .inl ⟨c,(List.mem_singleton.mp h).symm⟩
     . rw [if_neg c] at h;cases h
   . by_cases c:r.b=p
     . rw [if_pos c] at h;exact .inr ⟨c,(List.mem_singleton.mp h).symm⟩
     . rw [if_neg c] at h;cases h
 . rintro ⟨r,hr,h⟩;refine ⟨r,hr,List.mem_append.mpr ?_⟩;rcases h with ⟨h1,h2⟩|⟨h1,h2⟩
   . exact .inl (by rw [if_pos h1,h2];exact List.mem_singleton.mpr rfl)
   . exact .inr (by rw [if_pos h1,h2];exact List.mem_singleton.mpr rfl)
theorem Dk (rs:List Road) (p:Int):(bT rs p).length<=2*rs.length:=by
 unfold bT
 induction rs with
 | nil=>simp
 | cons r rs ih =>
   rw [List.flatMap_cons,List.length_append,List.length_cons];have:(o7 p r).length<=2:=by
     unfold o7;rw [List.length_append];by_cases c:r.a=p <;> by_cases d:r.b=p <;> simp [c,d]
   omega
theorem oZ (rs:List Road) (r:Road) (p:Int):bT (rs++[r]) p=bT rs p++o7 p r:=by
 unfold bT;rw [List.flatMap_append];simp
def yx (c:List Int × List Int) (e:Int):List Int × List Int:=if e∈c.1 then c else (c.1++[e],c.2++[e])
structure JInv (m:Int) (rs:List Road) (ks ws:List Int):Prop where
 nd:ks.Nodup
 zero:0∈ks
 rng:∀ k∈ks,0<=k/\k<m
 sub:∀ w∈ws,w∈ks
 cl:∀ k∈ks,k ∉ ws->∀ e∈bT rs k,e∈ks
 wl:ws.length<=ks.length
theorem Gc {l:List Int} {e:Int} (h:l.Nodup) (he:e ∉ l):(l++[e]).Nodup:=by
 rw [List.nodup_append];refine ⟨h,by simp,fun a ha b hb=>?_⟩;rw [List.mem_singleton.mp hb];exact fun z=>he (z ▸ ha)
structure JMid (m:Int) (rs:List Road) (p:Int) (es ks ws ks0:List Int) (n0:Nat):Prop where
 nd:ks.Nodup
 zero:0∈ks
 rng:∀ k∈ks,0<=k/\k<m
 sub:∀ w∈ws,w∈ks
 cl:∀ k∈ks,k ∉ ws->k=p\/∀ e∈bT rs k,e∈ks
 seen:∀ e∈es,e∈ks
 pin:p∈ks
 mu:ks.length+n0=ks0.length+ws.length
 up:ks0.length<=ks.length
 wl:ws.length<=ks.length
theorem JMid.start {m:Int} {rs:List Road} {ks ws:List Int} {p:Int} (h:JInv m rs ks (ws++[p])):JMid m rs p [] ks ws ks ws.length where
 nd:=h.nd
 zero:=h.zero
 rng:=h.rng
 sub:=fun w hw=>h.sub w (List.mem_append_left _ hw)
 cl:=fun k hk hw=>by
   by_cases e:k=p
   . exact .inl e
   . exact .inr (h.cl k hk fun z=>by
       rcases List.mem_append.mp z with z|z
       . exact hw z
       . exact e (List.mem_singleton.mp z))
 seen:=fun e he=>by cases he
 pin:=h.sub p (List.mem_append_right _ (List.mem_singleton.mpr rfl))
 mu:=rfl
 up:=Nat.le_refl _
 wl:=by have:=h.wl;rw [List.length_append] at this;simp at this;omega
theorem JMid.step {m:Int} {rs:List Road} {p:Int} {es ks ws ks0:List Int} {n0:Nat} {e:Int} (h:JMid m rs p es ks ws ks0 n0) (h0:0<=e) (h1:e<m) :
   JMid m rs p (es++[e]) (yx (ks,ws) e).1 (yx (ks,ws) e).2 ks0 n0:=by
 unfold yx;by_cases c:e∈ks
 . rw [if_pos c];refine ⟨h.nd,h.zero,h.rng,h.sub,h.cl,fun x hx=>?_,h.pin,h.mu,h.up,h.wl⟩;rcases List.mem_append.mp hx with z|z
   . exact h.seen x z
   . rw [List.mem_singleton.mp z];exact c
 . rw [if_neg c];dsimp only;refine ⟨Gc h.nd c,List.mem_append_left _ h.zero,fun k hk=>?_,fun w hw=>?_,fun k hk hw=>?_,fun x hx=>?_,List.mem_append_left _ h.pin,?_,by have:=h.up;simp;omega,by have:=h.wl;simp;exact this⟩
   . rcases List.mem_append.mp hk with z|z
     . exact h.rng k z
     . rw [List.mem_singleton.mp z];exact ⟨h0,h1⟩
   . rcases List.mem_append.mp hw with z|z
     . exact List.mem_append_left _ (h.sub w z)
     . exact List.mem_append_right _ z
   . rcases List.mem_append.mp hk with z|z
     . rcases h.cl k z fun y=>hw (List.mem_append_left _ y) with y|y
       . exact .inl y
       . exact .inr fun x hx=>List.mem_append_left _ (y x hx)
     . exact absurd (List.mem_append_right _ z) hw
   . rcases List.mem_append.mp hx with z|z
     . exact List.mem_append_left _ (h.seen x z)
     . exact List.mem_append_right _ z
   . have:=h.mu;simp only [List.length_append,List.length_cons,List.length_nil];omega
theorem JMid.done {m:Int} {rs:List Road} {p:Int} {ks ws ks0:List Int} {n0:Nat} (h:JMid m rs p (bT rs p) ks ws ks0 n0):JInv m rs ks ws where
 nd:=h.nd
 zero:=h.zero
 rng:=h.rng
 sub:=h.sub
 cl:=fun k hk hw=>by
   rcases h.cl k hk hw with z|z
   . rw [z];exact h.seen
   . exact z
 wl:=h.wl
theorem JInv.start {m:Int} {rs:List Road} (hm:1<=m):JInv m rs [0] [0] where
 nd:=by simp
 zero:=by simp
 rng:=fun k hk=>by rw [List.mem_singleton.mp hk];omega
 sub:=fun w hw=>hw
 cl:=fun k hk hw=>absurd hk hw
 wl:=by simp
theorem JInv.all {m:Int} {rs:List Road} {ks:List Int} (h:JInv m rs ks []) (hm:1<=m) (j:GV m rs):(ks.length:Int)=m:=by
 have up:=cL (by omega) h.nd h.rng;have:∀ v,0<=v->v<m->v∈ks:=j (fun v=>v∈ks) h.zero fun r hr=>by
   constructor
   . intro ha;exact h.cl r.a ha (by simp) r.b (on.mpr ⟨r,hr,.inl ⟨rfl,rfl⟩⟩)
   . intro hb;exact h.cl r.b hb (by simp) r.a (on.mpr ⟨r,hr,.inr ⟨rfl,rfl⟩⟩)
 have:=LA (by omega) this;omega
theorem Li {m:Int} {rs:List Road} (h:∀ r∈rs,RoadOk m r) {p e:Int} (he:e∈bT rs p):0<=e/\e<m:=by
 obtain ⟨r,hr,z⟩:=on.mp he;have k:=h r hr;rcases z with ⟨_,rfl⟩|⟨_,rfl⟩
 . exact ⟨k.b0,k.b1⟩
 . exact ⟨k.a0,k.a1⟩
structure Row where
 k:Int
 un:Int
 t:Int
 u:Int
 sw:Int
 sp:Int
structure RowOk (r:Row):Prop where
 u0:0<=r.un
 u1:r.un<r.k
 t0:2<=r.t
 t1:r.t<=1000000
 v0:2<=r.u
 v1:r.u<=1000000
 s0:0<=r.sp
 s1:r.sp<r.k
structure Rows (n:Nat) (rows:List Row):Prop where
 len:rows.length=n
 ok:∀ (i:Nat) (r:Row),rows[i]?=some r->r.k=(i:Int)+1/\RowOk r
structure Labels (n:Nat) (ls:List Int):Prop where
 len:ls.length=n
 nd:ls.Nodup
 all:∀ v:Int,0<=v->v<n->v∈ls
 rng:∀ v∈ls,0<=v/\v<n
theorem xN {α:Type} {l:List α} {k:Nat} {x y:α}:y∈l.take k++x::l.drop k↔y=x\/y∈l:=by
 rw [List.mem_append,List.mem_cons]
 constructor
 . rintro (h|h|h)
   . exact .inr (List.mem_of_mem_take h)
   . exact .inl h
   . exact .inr (List.mem_of_mem_drop h)
 . rintro (h|h)
   . exact .inr (.inl h)
   . rw [<- List.take_append_drop k l] at h;rcases List.mem_append.mp h with z|z
     . exact .inl z
     . exact .inr (.inr z)
def fS (ls:List Int) (r:Row):Road:=if r.sw=1 then ⟨ls.getD r.un.toNat 0,ls.getD r.k.toNat 0,r.t,r.u⟩ else ⟨ls.getD r.k.toNat 0,ls.getD r.un.toNat 0,r.t,r.u⟩
structure Put (ls:List Int) (rows:List Row) (rs:List Road):Prop where
 len:rs.length=rows.length
 of:∀ r∈rs,∃ w∈rows,r=fS ls w
 to:∀ w∈rows,fS ls w∈rs
theorem Put.nil (ls:List Int):Put ls [] []:=⟨rfl,fun r h=>(by cases h),fun r h=>(by cases h)⟩
theorem Put.step {ls:List Int} {rows:List Row} {rs:List Road} (h:Put ls rows rs) (w:Row) (k:Nat):Put ls (rows++[w]) (rs.take k++fS ls w::rs.drop k) where
 len:=by
   rw [List.length_append,List.length_cons,List.length_take,List.length_drop,List.length_append,h.len];simp;omega
 of:=fun r hr=>by
   rcases xN.mp hr with z|z
   . exact ⟨w,by simp,z⟩
   . obtain ⟨w',hw,e⟩:=h.of r z;exact ⟨w',List.mem_append_left _ hw,e⟩
 to:=fun w' hw=>by
   rw [xN];rcases List.mem_append.mp hw with z|z
   . exact .inr (h.to w' z)
   . exact .inl (by rw [List.mem_singleton.mp z])
theorem vS {ls:List Int} {n:Nat} (h:Labels n ls) {i:Nat} (hi:i<n):ls[i]?=some (ls.getD i 0):=by
 have:i<ls.length:=by rw [h.len];exact hi
 simp [List.getD,List.getElem?_eq_getElem this]
theorem C4 {ls:List Int} {n:Nat} (h:Labels n ls) {i:Nat} (hi:i<n):ls.getD i 0∈ls:=List.mem_of_getElem? (vS h hi)
theorem Kx {ls:List Int} {n:Nat} (h:Labels n ls) {i j:Nat} (hi:i<n) (hj:j<n) (e:ls.getD i 0=ls.getD j 0):i=j:=by
 have h1:i<ls.length:=by rw [h.len];exact hi
 have h2:j<ls.length:=by rw [h.len];exact hj
 have e1:=vS h hi;have e2:=vS h hj;rw [e] at e1;have e3:ls[i]'h1=ls[j]'h2:=by
   rw [List.getElem?_eq_getElem h1] at e1;rw [List.getElem?_eq_getElem h2] at e2;exact Option.some.inj (e1.trans e2.symm)
 have nd:=List.pairwise_iff_getElem.mp h.nd;rcases Nat.lt_trichotomy i j with z|z|z
 . exact absurd e3 (nd i j h1 h2 z)
 . exact z
 . exact absurd e3.symm (nd j i h2 h1 z)
theorem MA {n:Nat} {ls:List Int} {rows:List Row} {rs:List Road} (h1:1<=n) (h24:n<=24) (L:Labels n ls) (W:Rows (n - 1) rows) (P:Put ls rows rs):Good n rs where
 m1:=by omega
 m24:=by omega
 len:=by rw [P.len,W.len];omega
 ok:=fun r hr=>by
   obtain ⟨w,hw,rfl⟩:=P.of r hr;obtain ⟨i,hi⟩:=List.getElem?_of_mem hw;obtain ⟨ek,ok⟩:=W.ok i w hi;have hil:i<rows.length:=(List.getElem?_eq_some_iff.mp hi).1;rw [W.len] at hil;have hk:w.k.toNat<n:=by omega
   have hu:w.un.toNat<n:=by have:=ok.u0;have:=ok.u1;omega
   have r1:=L.rng _ (C4 L hk);have r2:=L.rng _ (C4 L hu);have ne:ls.getD w.k.toNat 0≠ls.getD w.un.toNat 0:=fun e=>by
     have:=Kx L hk hu e;have:=ok.u0;have:=ok.u1;omega
   unfold fS;by_cases c:w.sw=1
   . rw [if_pos c];exact ⟨r2.1,r2.2,r1.1,r1.2,ne.symm,ok.t0,ok.t1,ok.v0,ok.v1⟩
   . rw [if_neg c];exact ⟨r1.1,r1.2,r2.1,r2.2,ne,ok.t0,ok.t1,ok.v0,ok.v1⟩
 jn:=by
   intro S s0 hS;have key:∀ i:Nat,i<n->(S (ls.getD i 0)↔S (ls.getD 0 0)):=by
     intro i
     induction i using Nat.strongRecOn with
     | ind i ih =>
       intro hi;by_cases z:i=0
       . rw [z]
       . have hil:i - 1<rows.length:=(by rw [W.len];omega);obtain ⟨ek,ok⟩:=W.ok (i - 1) rows[i - 1] (List.getElem?_eq_getElem hil);have hm:=P.to rows[i - 1] (List.getElem_mem hil);have hr:=hS _ hm;have hk:(rows[i - 1]).k.toNat=i:=(by omega);have hu:(rows[i - 1]).un.toNat<i:=(by have:=ok.u0;have:=ok.u1;omega);have hh:=ih _ hu (by omega);unfold fS at hr;rw [hk] at hr;by_cases c:(rows[i - 1]).sw=1
         . rw [if_pos c] at hr;exact hr.symm.trans hh
         . rw [if_neg c] at hr;exact hr.trans hh
   have at_:∀ v,0<=v->v<(n:Int)->∃ i,i<n/\ls.getD i 0=v:=fun v h0 h1=>by
     obtain ⟨i,hi⟩:=List.getElem?_of_mem (L.all v h0 h1);have hil:i<n:=(by have:=(List.getElem?_eq_some_iff.mp hi).1;rw [L.len] at this;exact this);refine ⟨i,hil,?_⟩;have:=vS L hil;rw [hi] at this;exact (Option.some.inj this).symm
   intro v h0 hv;obtain ⟨i,hi,rfl⟩:=at_ v h0 hv;obtain ⟨j,hj,ej⟩:=at_ 0 (by omega) (by omega);refine (key i hi).mpr ((key j hj).mp ?_);rw [ej];exact s0
end Pb
set_option linter.all false
namespace Pb
def Adj (rs:List Road) (a b:Int):Prop:=∃ x∈rs,(x.a=a/\x.b=b)\/(x.b=a/\x.a=b)
theorem Adj.symm {rs:List Road} {a b:Int} (h:Adj rs a b):Adj rs b a:=by
 obtain ⟨x,hx,h⟩:=h;rcases h with ⟨h1,h2⟩|⟨h1,h2⟩
 . exact ⟨x,hx,.inr ⟨h2,h1⟩⟩
 . exact ⟨x,hx,.inl ⟨h2,h1⟩⟩
theorem Dw {rs:List Road} {a b:Int}:b∈bT rs a↔Adj rs a b:=on
theorem Good.adj {m:Int} {rs:List Road} (g:Good m rs) {a b:Int} (h:Adj rs a b):(0<=a/\a<m)/\(0<=b/\b<m)/\a≠b:=by
 obtain ⟨x,hx,h⟩:=h;have k:=g.ok x hx;rcases h with ⟨h1,h2⟩|⟨h1,h2⟩
 . subst h1 h2;exact ⟨⟨k.a0,k.a1⟩,⟨k.b0,k.b1⟩,k.ne⟩
 . subst h1 h2;exact ⟨⟨k.b0,k.b1⟩,⟨k.a0,k.a1⟩,k.ne.symm⟩
theorem Good.from {m:Int} {rs:List Road} (g:Good m rs) {r:Int} (h0:0<=r) (h1:r<m) (S:Int->Prop) (sr:S r) (hS:∀ x∈rs,(S x.a↔S x.b)):∀ v,0<=v->v<m->S v:=by
 have key:∀ v,0<=v->v<m->(S v↔S 0):=g.jn (fun v=>S v↔S 0) Iff.rfl fun x hx=>by
   have:=hS x hx;exact ⟨fun h=>this.symm.trans h,fun h=>this.trans h⟩
 intro v a b;exact (key v a b).mpr ((key r h0 h1).mp sr)
inductive Dist (rs:List Road) (r:Int):Nat->Int->Prop
 | zero:Dist rs r 0 r
 | step {n:Nat} {u v:Int}:Dist rs r n u->Adj rs u v->Dist rs r (n+1) v
theorem OD {P:Nat->Prop}:∀ n,P n->∃ k,P k/\∀ j,j<k->¬ P j:=by
 intro n
 induction n using Nat.strongRecOn with
 | ind n ih =>
   intro h;by_cases z:∃ j,j<n/\P j
   . obtain ⟨j,hj,hp⟩:=z;exact ih j hj hp
   . exact ⟨n,h,fun j hj hp=>z ⟨j,hj,hp⟩⟩
structure Rooted (m:Int) (rs:List Road) (r:Int) (par:Int->Int) (dep:Int->Nat):Prop where
 root:dep r=0
 up:∀ v,0<=v->v<m->v≠r->(0<=par v/\par v<m)/\Adj rs v (par v)/\dep (par v)+1=dep v
 road:∀ x∈rs,(x.a≠r/\par x.a=x.b)\/(x.b≠r/\par x.b=x.a)
 one:(rs.map fun x=>if x.a≠r/\par x.a=x.b then x.a else x.b).Nodup
theorem MB {n:Nat} {l:List Nat} (hn:l.Nodup) (hl:l.length=n) (hb:∀ x∈l,x<n):∀ i,i<n->i∈l:=by
 intro i hi;by_cases z:i∈l
 . exact z
 . have:=kK (l:=i::l) (l':=List.range n) (List.nodup_cons.mpr ⟨z,hn⟩) fun x hx=>by
     rcases List.mem_cons.mp hx with rfl|hx
     . exact List.mem_range.mpr hi
     . exact List.mem_range.mpr (hb x hx)
   rw [List.length_cons,List.length_range] at this;omega
theorem uG {m:Int} {rs:List Road} (g:Good m rs) {r:Int} (h0:0<=r) (h1:r<m):∃ par dep,Rooted m rs r par dep:=by
 classical
 have reach:∀ v,0<=v->v<m->∃ n,Dist rs r n v:=g.from h0 h1 (fun v=>∃ n,Dist rs r n v) ⟨0,.zero⟩ fun x hx=>by
   constructor
   . rintro ⟨n,d⟩;exact ⟨n+1,d.step ⟨x,hx,.inl ⟨rfl,rfl⟩⟩⟩
   . rintro ⟨n,d⟩;exact ⟨n+1,d.step ⟨x,hx,.inr ⟨rfl,rfl⟩⟩⟩
 have hd:∀ v,∃ k,(0<=v/\v<m)->Dist rs r k v/\∀ j,j<k->¬ Dist rs r j v:=fun v=>by
   by_cases z:0<=v/\v<m
   . obtain ⟨n,d⟩:=reach v z.1 z.2;obtain ⟨k,h⟩:=OD (P:=fun k=>Dist rs r k v) n d;exact ⟨k,fun _=>h⟩
   . exact ⟨0,fun h=>absurd h z⟩
 let dep:Int->Nat:=fun v=>(hd v).choose
 have dspec:∀ v,0<=v->v<m->Dist rs r (dep v) v/\∀ j,j<dep v->¬ Dist rs r j v:=fun v a b=>(hd v).choose_spec ⟨a,b⟩;have dr:dep r=0:=by
   have:=(dspec r h0 h1).2 0;by_cases z:dep r=0
   . exact z
   . exact absurd Dist.zero (this (by omega))
 have hp:∀ v,∃ u,(0<=v/\v<m/\v≠r)->Adj rs v u/\dep u+1=dep v:=fun v=>by
   by_cases z:0<=v/\v<m/\v≠r
   . obtain ⟨a,b,c⟩:=z;obtain ⟨d,dm⟩:=dspec v a b;generalize hk:dep v=k at d dm;cases d with
     | zero=>exact absurd rfl c
     | @step n u _ d e =>
       refine ⟨u,fun _=>⟨e.symm,?_⟩⟩;obtain ⟨⟨u0,u1⟩,_⟩:=g.adj e;have l1:dep u<=n:=by
         by_cases w:dep u<=n
         . exact w
         . exact absurd d ((dspec u u0 u1).2 n (by omega))
       have l2:¬ dep u<n:=fun w=>dm (dep u+1) (by omega) ((dspec u u0 u1).1.step e);omega
   . exact ⟨0,fun h=>absurd h z⟩
 let par:Int->Int:=fun v=>(hp v).choose
 have pspec:∀ v,0<=v->v<m->v≠r->Adj rs v (par v)/\dep (par v)+1=dep v:=fun v a b c=>(hp v).choose_spec ⟨a,b,c⟩;have hi:∀ v,∃ i:Nat,(0<=v/\v<m/\v≠r)->∃ x,rs[i]?=some x/\((x.a=v/\x.b=par v)\/(x.b=v/\x.a=par v)):=fun v=>by
   by_cases z:0<=v/\v<m/\v≠r
   . obtain ⟨x,hx,h⟩:=(pspec v z.1 z.2.1 z.2.2).1;obtain ⟨i,e⟩:=List.getElem?_of_mem hx;exact ⟨i,fun _=>⟨x,e,h⟩⟩
   . exact ⟨0,fun h=>absurd h z⟩
 let ix:Int->Nat:=fun v=>(hi v).choose
 have ispec:∀ v,0<=v->v<m->v≠r->∃ x,rs[ix v]?=some x/\((x.a=v/\x.b=par v)\/(x.b=v/\x.a=par v)):=fun v a b c=>(hi v).choose_spec ⟨a,b,c⟩;have inj:∀ v u,0<=v->v<m->v≠r->0<=u->u<m->u≠r->ix v=ix u->v=u:=by
   intro v u a b c a' b' c' e;obtain ⟨x,hx,h⟩:=ispec v a b c;obtain ⟨y,hy,h'⟩:=ispec u a' b' c';rw [e,hy] at hx;cases hx;have d1:=(pspec v a b c).2;have d2:=(pspec u a' b' c').2;rcases h with ⟨p,q⟩|⟨p,q⟩ <;> rcases h' with ⟨p',q'⟩|⟨p',q'⟩
   . exact p.symm.trans p'
   . exfalso
     have e1:v=par u:=p.symm.trans q';have e2:u=par v:=p'.symm.trans q;rw [<- e1] at d2;rw [<- e2] at d1;omega
   . exfalso
     have e1:v=par u:=p.symm.trans q';have e2:u=par v:=p'.symm.trans q;rw [<- e1] at d2;rw [<- e2] at d1;omega
   . exact p.symm.trans p'
 let vs:List Int:=(below m.toNat).filter fun v=>decide (v≠r)
 have mv:∀ v,v∈vs↔(0<=v/\v<m/\v≠r):=fun v=>by
   rw [List.mem_filter,d5,decide_eq_true_eq]
   constructor
   . rintro ⟨⟨a,b⟩,c⟩;exact ⟨a,by omega,c⟩
   . rintro ⟨a,b,c⟩;exact ⟨⟨a,by omega⟩,c⟩
 have nv:vs.Nodup:=(iZ _).filter _;have lv:vs.length=rs.length:=by
   have e1:(r::vs).length<=(below m.toNat).length:=kK (List.nodup_cons.mpr ⟨fun h=>((mv r).mp h).2.2 rfl,nv⟩) fun x hx=>by
     rcases List.mem_cons.mp hx with rfl|hx
     . exact d5.mpr ⟨h0,by omega⟩
     . have:=(mv x).mp hx;exact d5.mpr ⟨this.1,by omega⟩
   have e2:(below m.toNat).length<=(r::vs).length:=kK (iZ _) fun x hx=>by
     have:=d5.mp hx;by_cases z:x=r
     . rw [z];exact List.mem_cons_self
     . exact List.mem_cons_of_mem _ ((mv x).mpr ⟨this.1,by omega,z⟩)
   rw [bx,List.length_cons] at e1 e2;have:=g.len;have:=g.m1;omega
 have il:(vs.map ix).Nodup:=by
   have:∀ (l:List Int),l.Nodup->(∀ v∈l,0<=v/\v<m/\v≠r)->(l.map ix).Nodup:=by
     intro l
     induction l with
     | nil=>intro _ _;simp
     | cons v l ih =>
       intro hn hm;obtain ⟨n1,n2⟩:=List.nodup_cons.mp hn;rw [List.map_cons];refine List.nodup_cons.mpr ⟨fun z=>?_,ih n2 fun u hu=>hm u (List.mem_cons_of_mem _ hu)⟩;obtain ⟨u,hu,e⟩:=List.mem_map.mp z;obtain ⟨a,b,c⟩:=hm v List.mem_cons_self;obtain ⟨a',b',c'⟩:=hm u (List.mem_cons_of_mem _ hu);exact n1 (inj u v a' b' c' a b c e ▸ hu)
   exact this vs nv fun v hv=>(mv v).mp hv
 have ib:∀ i∈vs.map ix,i<rs.length:=fun i hi'=>by
   obtain ⟨v,hv,rfl⟩:=List.mem_map.mp hi';obtain ⟨a,b,c⟩:=(mv v).mp hv;obtain ⟨x,hx,_⟩:=ispec v a b c;exact (List.getElem?_eq_some_iff.mp hx).1
 have all:=MB il (by rw [List.length_map,lv]) ib;have back:∀ i x,rs[i]?=some x->∃ v,(0<=v/\v<m/\v≠r)/\ix v=i/\((x.a=v/\x.b=par v)\/(x.b=v/\x.a=par v)):=fun i x e=>by
   obtain ⟨v,hv,rfl⟩:=List.mem_map.mp (all i (List.getElem?_eq_some_iff.mp e).1);obtain ⟨a,b,c⟩:=(mv v).mp hv;obtain ⟨y,hy,h⟩:=ispec v a b c;rw [e] at hy;cases hy;exact ⟨v,⟨a,b,c⟩,rfl,h⟩
 have noback:∀ v,0<=v->v<m->v≠r->par v≠r->par (par v)≠v:=fun v a b c c' z=>by
   have d1:=pspec v a b c;obtain ⟨_,⟨a',b'⟩,_⟩:=g.adj d1.1;have d2:=pspec (par v) a' b' c';rw [z] at d2;omega
 have kid:∀ i x,rs[i]?=some x->∃ v,(0<=v/\v<m/\v≠r)/\ix v=i/\(if x.a≠r/\par x.a=x.b then x.a else x.b)=v:=fun i x e=>by
   obtain ⟨v,⟨a,b,c⟩,hv,h⟩:=back i x e;refine ⟨v,⟨a,b,c⟩,hv,?_⟩;rcases h with ⟨p,q⟩|⟨p,q⟩
   . rw [if_pos ⟨by rw [p];exact c,by rw [p];exact q.symm⟩];exact p
   . rw [if_neg]
     . exact p
     . rintro ⟨z1,z2⟩;rw [q] at z1 z2;exact noback v a b c z1 (z2.trans p)
 refine ⟨par,dep,dr,fun v a b c=>?_,fun x hx=>?_,?_⟩
 . obtain ⟨p,q⟩:=pspec v a b c;obtain ⟨_,w,_⟩:=g.adj p;exact ⟨w,p,q⟩
 . obtain ⟨i,e⟩:=List.getElem?_of_mem hx;obtain ⟨v,⟨a,b,c⟩,_,h⟩:=back i x e;rcases h with ⟨p,q⟩|⟨p,q⟩
   . exact .inl ⟨by rw [p];exact c,by rw [p];exact q.symm⟩
   . exact .inr ⟨by rw [p];exact c,by rw [p];exact q.symm⟩
 . refine List.pairwise_iff_getElem.mpr fun i j hi' hj' lt=>?_;rw [List.length_map] at hi' hj';rw [List.getElem_map,List.getElem_map];intro z;obtain ⟨v,_,e1,k1⟩:=kid i rs[i] (List.getElem?_eq_getElem hi');obtain ⟨u,_,e2,k2⟩:=kid j rs[j] (List.getElem?_eq_getElem hj');rw [k1,k2] at z;rw [z] at e1;omega
theorem Gd {m:Int} {rs:List Road} (g:Good m rs) {p:Int} (h0:0<=p) (h1:p<m):(bT rs p).Nodup:=by
 obtain ⟨par,dep,R⟩:=uG g h0 h1;have one:=R.one;have ok:=g.ok;have road:=R.road;clear R g
 induction rs with
 | nil=>simp [bT]
 | cons x l ih =>
   have ox:=ok x List.mem_cons_self;have ol:∀ y∈l,RoadOk m y:=fun y hy=>ok y (List.mem_cons_of_mem _ hy);rw [List.map_cons] at one;obtain ⟨n1,n2⟩:=List.nodup_cons.mp one;have il:=ih n2 ol fun y hy=>road y (List.mem_cons_of_mem _ hy);have e:bT (x::l) p=o7 p x++bT l p:=by unfold bT;rw [List.flatMap_cons]
   rw [e];have kid:∀ y,RoadOk m y->((y.a≠p/\par y.a=y.b)\/(y.b≠p/\par y.b=y.a))->(y.a=p->(if y.a≠p/\par y.a=y.b then y.a else y.b)=y.b)/\(y.b=p->(if y.a≠p/\par y.a=y.b then y.a else y.b)=y.a):=fun y oy hy=>by
     constructor
     . intro z;rw [if_neg (fun w=>w.1 z)]
     . intro z;rcases hy with hy|hy
       . rw [if_pos hy]
       . exact absurd z hy.1
   have kx:=kid x ox (road x List.mem_cons_self);have inl:∀ e∈bT l p,e∈l.map fun y=>if y.a≠p/\par y.a=y.b then y.a else y.b:=fun e he=>by
     obtain ⟨y,hy,h⟩:=on.mp he;have ky:=kid y (ol y hy) (road y (List.mem_cons_of_mem _ hy));refine List.mem_map.mpr ⟨y,hy,?_⟩;rcases h with ⟨p1,q1⟩|⟨p1,q1⟩
     . rw [ky.1 p1];exact q1
     . rw [ky.2 p1];exact q1
   unfold o7;by_cases c:x.a=p
   . have d:¬ x.b=p:=fun z=>ox.ne (c.trans z.symm);rw [if_pos c,if_neg d,List.append_nil];refine List.nodup_cons.mpr ⟨fun z=>n1 ?_,il⟩;rw [kx.1 c];exact inl _ z
   . rw [if_neg c,List.nil_append];by_cases d:x.b=p
     . rw [if_pos d];refine List.nodup_cons.mpr ⟨fun z=>n1 ?_,il⟩;rw [kx.2 d];exact inl _ z
     . rw [if_neg d];exact il
def gQ (m:Int) (rs:List Road) (p:Int):List Int:=(below m.toNat).filter fun q=>decide (q∈bT rs p)
theorem AB:∀ {l l':List Int},l.Perm l'->l.Pairwise (·<=·)->l'.Pairwise (·<=·)->l=l'
 | [],l',p,_,_=>(List.Perm.nil_eq p)
 | a::l,l',p,h,h'=>by
   cases l' with
   | nil=>exact absurd p.symm.nil_eq (by simp)
   | cons b r =>
     obtain ⟨h1,h2⟩:=List.pairwise_cons.mp h;obtain ⟨h1',h2'⟩:=List.pairwise_cons.mp h';have e:a=b:=by
       have ma:a∈b::r:=p.subset List.mem_cons_self;have mb:b∈a::l:=p.symm.subset List.mem_cons_self;rcases List.mem_cons.mp ma with z|z
       . exact z
       . rcases List.mem_cons.mp mb with w|w
         . exact w.symm
         . have:=h1 b w;have:=h1' a z;omega
     subst e;rw [AB (List.Perm.cons_inv p) h2 h2']
theorem BJ (n:Nat):(below n).Pairwise (·<=·):=by
 unfold below;refine List.Pairwise.map _ (fun a b (h:a<b)=>?_) List.pairwise_lt_range;omega
theorem Es (m:Int) (rs:List Road) (p:Int):(gQ m rs p).Pairwise (·<=·):=(BJ _).filter _
theorem yj (m:Int) (rs:List Road) (p:Int):(gQ m rs p).Nodup:=(iZ _).filter _
theorem C0 {m:Int} {rs:List Road} (g:Good m rs) {p q:Int}:q∈gQ m rs p↔Adj rs p q:=by
 unfold gQ;rw [List.mem_filter,decide_eq_true_eq,Dw,d5]
 constructor
 . exact fun h=>h.2
 . intro h;obtain ⟨_,⟨a,b⟩,_⟩:=g.adj h;exact ⟨⟨a,by omega⟩,h⟩
theorem me:∀ {l l':List Int},l.Nodup->l'.Nodup->(∀ x,x∈l↔x∈l')->l.Perm l'
 | [],l',_,_,h=>by
   cases l' with
   | nil=>exact .nil
   | cons b r=>exact absurd ((h b).mpr List.mem_cons_self) (by simp)
 | a::l,l',n,n',h=>by
   obtain ⟨n1,n2⟩:=List.nodup_cons.mp n;have ma:a∈l':=(h a).mp List.mem_cons_self;refine List.Perm.trans (List.Perm.cons a ?_) (List.perm_cons_erase ma).symm;refine me n2 (n'.erase a) fun x=>?_
   constructor
   . intro hx;have ne:x≠a:=fun z=>n1 (z ▸ hx);exact (List.mem_erase_of_ne ne).mpr ((h x).mp (List.mem_cons_of_mem _ hx))
   . intro hx;have:x≠a:=fun z=>by
       subst z;exact (List.Nodup.not_mem_erase n') hx
     rcases List.mem_cons.mp ((h x).mpr (List.mem_of_mem_erase hx)) with z|z
     . exact absurd z this
     . exact z
theorem MN {m:Int} {rs:List Road} (g:Good m rs) {p:Int} (h0:0<=p) (h1:p<m) {zs:List Int} (hp:zs.Perm (bT rs p)) (hs:zs.Pairwise (·<=·)):zs=gQ m rs p:=by
 refine AB (hp.trans (me (Gd g h0 h1) (yj m rs p) fun x=>?_)) hs (Es m rs p);rw [C0 g,Dw]
def g6 (a b:Int) (x:Road):Option Int:=if x.a=a/\x.b=b then some x.t else if x.a=b/\x.b=a then some x.u else none
def cU (rs:List Road) (a b:Int):Option Int:=rs.findSome? (g6 a b)
def vV (x:Road) (a b:Int):Prop:=(x.a=a/\x.b=b)\/(x.b=a/\x.a=b)
theorem HY {m:Int} {rs:List Road} (g:Good m rs) {a b:Int} {i j:Nat} {x y:Road} (hi:rs[i]?=some x) (hj:rs[j]?=some y) (jx:vV x a b) (jy:vV y a b):i=j:=by
 obtain ⟨⟨a0,a1⟩,_,_⟩:=g.adj (show Adj rs a b from ⟨x,List.mem_of_getElem? hi,jx⟩);obtain ⟨par,dep,R⟩:=uG g a0 a1;have kid:∀ z∈rs,vV z a b->(if z.a≠a/\par z.a=z.b then z.a else z.b)=b:=fun z hz jz=>by
   rcases jz with ⟨p,q⟩|⟨p,q⟩
   . rw [if_neg (fun w=>w.1 p)];exact q
   . rcases R.road z hz with w|w
     . rw [if_pos w];exact q
     . exact absurd p w.1
 have li:=(List.getElem?_eq_some_iff.mp hi);have lj:=(List.getElem?_eq_some_iff.mp hj);obtain ⟨li,ei⟩:=li;obtain ⟨lj,ej⟩:=lj;have nd:=List.pairwise_iff_getElem.mp R.one;have vi:(rs.map fun z=>if z.a≠a/\par z.a=z.b then z.a else z.b)[i]'(by rw [List.length_map];exact li)=b:=by
   rw [List.getElem_map];exact kid _ (List.getElem_mem li) (ei ▸ jx)
 have vj:(rs.map fun z=>if z.a≠a/\par z.a=z.b then z.a else z.b)[j]'(by rw [List.length_map];exact lj)=b:=by
   rw [List.getElem_map];exact kid _ (List.getElem_mem lj) (ej ▸ jy)
 rcases Nat.lt_trichotomy i j with z|z|z
 . exact absurd (vi.trans vj.symm) (nd i j _ _ z)
 . exact z
 . exact absurd (vj.trans vi.symm) (nd j i _ _ z)
theorem Fp {a b:Int} {x:Road} (h:¬ vV x a b):g6 a b x=none:=by
 unfold g6;rw [if_neg (fun z=>h (.inl z)),if_neg (fun z=>h (.inr ⟨z.2,z.1⟩))]
theorem Aj {m:Int} {rs:List Road} (g:Good m rs) {a b:Int} {i:Nat} {x:Road} (hi:rs[i]?=some x) (j:vV x a b):cU rs a b=g6 a b x:=by
 have lt:=(List.getElem?_eq_some_iff.mp hi);obtain ⟨lt,ex⟩:=lt;have e:rs=rs.take i++x::rs.drop (i+1):=by rw [<- ex,List.getElem_cons_drop,List.take_append_drop]
 have pre:cU (rs.take i) a b=none:=by
   unfold cU;rw [List.findSome?_eq_none_iff];intro y hy;refine Fp fun jy=>?_;obtain ⟨k,hk⟩:=List.getElem?_of_mem hy;have lk:=(List.getElem?_eq_some_iff.mp hk).1;rw [List.length_take] at lk;rw [List.getElem?_take_of_lt (by omega)] at hk;have:=HY g hk hi jy j;omega
 have hx:(g6 a b x).isSome=true:=by
   unfold g6;rcases j with z|z
   . rw [if_pos z];rfl
   . by_cases c:x.a=a/\x.b=b
     . rw [if_pos c];rfl
     . rw [if_neg c,if_pos ⟨z.2,z.1⟩];rfl
 obtain ⟨v,hv⟩:=Option.isSome_iff_exists.mp hx;have:cU (rs.take i++x::rs.drop (i+1)) a b=g6 a b x:=by
   unfold cU at pre ⊢;rw [List.findSome?_append,pre,List.findSome?_cons,hv]
   rfl
 rw [<- e] at this;exact this
section
variable {m:Int} {row:List Int} {rs rs':List Road}
end
end Pb
set_option Elab.async false
set_option linter.all false
set_option maxRecDepth 100000
namespace L2
open PySem PySem.Spec PyProof.Rows
def bc (CX:CXT):Prop:=∀ outer H s e s',¬ CX outer H s E0 e s'
theorem aK {CX:CXT} (q:bc CX) {X:Cx}:qh CX X E0:=fun _ _ _ _ _ _ _ h=>(q _ _ _ _ _ h).elim
structure Df (K:PySem.W.Frag) (mg:Str->Option Value) (x:Str) (st:Stmt) (ps:List Str) (f:Addr) (fd:FuncData):Prop where
 F:Fun K x x st f fd
 m:mg x=some (.ref f)
 b:Binds K fd ps []
section
variable {P:Program} {w:World} {K:PySem.W.Frag} {mg:Str->Option Value} {base:Heap} {CX:CXT}
theorem Fun.okC {x qual:Str} {st:Stmt} {f:Addr} {fd:FuncData} {N ps:List Str} {k:Nat} {sp:Sp} (F:Fun K x qual st f fd) (S:FnScope N ps (aa st)) (len:∀ vs H Q E,sp vs H Q E->vs.length=ps.length)
   (hbody:∀ (cdv:Value) (A:Around) (outer:List Env) (s:Shared) (H:Hp) (vs:List V) (Q:VK) (E:XK),Room k (A.deeper (envOfC qual (aa st) s.heap.objs.size f cdv))->sp vs H Q E ->
     ∃ t,PSs (l9 CX P w K mg base N qual (aa st) f cdv A outer s H E).nox (aE st) t/\t { nx:=fun _ H'=>Q .non H',rt:=Q } (start N vs) H):FnOk P w K mg base CX (k+1) f fd ps sp:=by
 obtain ⟨oc,od,kV,doc,pm,an,cdv,ct,osl,rfl,lk,hcd⟩:=F.ex;refine LD lk hcd S len fun A outer s H vs Q E hr hsp=>?_;obtain ⟨t,h,q⟩:=hbody cdv A outer s H vs Q E hr hsp;exact ⟨t,h.nox,q⟩
end
structure NmL (sc:Scope) (x:Str):Prop where
 l:sc.names.lookup x=some .local
 d:(x == ("__debug__":Str))=false
 c:(x == ("__classdict__":Str))=false
structure NmC (sc:Scope) (x:Str):Prop where
 l:sc.names.lookup x=some .cell
 d:(x == ("__debug__":Str))=false
 c:(x == ("__classdict__":Str))=false
structure NmG (sc:Scope) (x:Str):Prop where
 g:sc.names.lookup x=some .globalImplicit
 d:(x == ("__debug__":Str))=false
 n:x≠"__name__"
theorem us1 {us:List Value} (h:us.length=1):∃ a0,us=[a0]:=List.length_eq_one_iff.mp h
theorem us2 {us:List Value} (h:us.length=2):∃ a0 a1,us=[a0,a1]:=by
 cases us with
 | nil=>cases h
 | cons a0 t =>
   obtain ⟨a1,e⟩:=us1 (Nat.succ.inj h);subst e;exact ⟨a0,a1,rfl⟩
theorem us3 {us:List Value} (h:us.length=3):∃ a0 a1 a2,us=[a0,a1,a2]:=by
 cases us with
 | nil=>cases h
 | cons a0 t =>
   obtain ⟨a1,a2,e⟩:=us2 (Nat.succ.inj h);subst e;exact ⟨a0,a1,a2,rfl⟩
theorem us4 {us:List Value} (h:us.length=4):∃ a0 a1 a2 a3,us=[a0,a1,a2,a3]:=by
 cases us with
 | nil=>cases h
 | cons a0 t =>
   obtain ⟨a1,a2,a3,e⟩:=us3 (Nat.succ.inj h);subst e;exact ⟨a0,a1,a2,a3,rfl⟩
def nmL (sc:Scope) (x:Str):Bool:=decide (sc.names.lookup x=some .local) && !(x == ("__debug__":Str)) && !(x == ("__classdict__":Str))
def nmC (sc:Scope) (x:Str):Bool:=decide (sc.names.lookup x=some .cell) && !(x == ("__debug__":Str)) && !(x == ("__classdict__":Str))
def nmG (sc:Scope) (x:Str):Bool:=decide (sc.names.lookup x=some .globalImplicit) && !(x == ("__debug__":Str)) && !decide (x="__name__")
theorem NmL.of {sc:Scope} {x:Str} (h:nmL sc x=true):NmL sc x:=by
 unfold nmL at h;simp only [Bool.and_eq_true,decide_eq_true_eq,Bool.not_eq_true'] at h;exact ⟨h.1.1,h.1.2,h.2⟩
theorem NmC.of {sc:Scope} {x:Str} (h:nmC sc x=true):NmC sc x:=by
 unfold nmC at h;simp only [Bool.and_eq_true,decide_eq_true_eq,Bool.not_eq_true'] at h;exact ⟨h.1.1,h.1.2,h.2⟩
theorem NmG.of {sc:Scope} {x:Str} (h:nmG sc x=true):NmG sc x:=by
 unfold nmG at h;simp only [Bool.and_eq_true,decide_eq_true_eq,Bool.not_eq_true',decide_eq_false_iff_not] at h;exact ⟨h.1.1,h.1.2,h.2⟩
def Of (N ps:List Str) (sc:Scope):Bool:=decide (sc.kind=.function) && !sc.isCoroutine && !sc.isGenerator && decide N.Nodup && decide (N.take ps.length=ps) && (ps.all fun x=>decide (sc.names.lookup x=some .local\/sc.names.lookup x=some .cell)) && (sc.names.all fun y=>decide (y.2≠.free))
theorem FnScope.of {N ps:List Str} {sc:Scope} (h:Of N ps sc=true):FnScope N ps sc:=by
 unfold Of at h;simp only [Bool.and_eq_true,decide_eq_true_eq,Bool.not_eq_true',List.all_eq_true] at h;obtain ⟨⟨⟨⟨⟨⟨h1,h2⟩,h3⟩,h4⟩,h5⟩,h6⟩,h7⟩:=h;exact ⟨h1,h2,h3,h4,h5,h6,h7⟩
theorem pvl {X:Cx} (i:Nat) {x:Str} {pos:Pos} (n:NmL X.env.scope x) (hN:X.N[i]?=some x:=by rfl):PE X (.Name x pos) (zF i):=Dt hN (.inl n.l) n.d n.c
theorem pvc {X:Cx} (i:Nat) {x:Str} {pos:Pos} (n:NmC X.env.scope x) (hN:X.N[i]?=some x:=by rfl):PE X (.Name x pos) (zF i):=Dt hN (.inr (.inl n.l)) n.d n.c
theorem Hb {CX:CXT} {P:Program} {w:World} {K:PySem.W.Frag} {mg:Str->Option Value} {base:Heap} {N:List Str} {qual:Str} {scope:Scope} {f:Addr} {cd:Value} {A:Around} {outer:List Env} {s:Shared} {H:Hp} {E:XK} :
   (l9 CX P w K mg base N qual scope f cd A outer s H E).K=K:=rfl
theorem AA (D:Ends) (σ:St) (H:Hp):tNever D σ H=False:=rfl
theorem Mi (i j:Int):pG (.int i) (.int j)=true:=rfl
theorem MG (i j:Bool):pG (.bl i) (.bl j)=true:=rfl
theorem L9 (i:Int):pG (.int i) .non=true:=rfl
theorem Me (i:Int):pG .non (.int i)=true:=rfl
theorem ML:pG .non .non=true:=rfl
theorem Mh (i j:Str):pG (.str i) (.str j)=true:=rfl
theorem ixT {K:PySem.W.Frag} {H:Hp} {p:Addr} {xs:List V} {i:Int} {v:V} {Q:VK} (h:H p=some (.tup xs)) (e:atI xs i=some v) (q:Q v H):NJ K (.ref p) (.int i) H Q:=⟨p,xs,i,v,rfl,rfl,SqT.of h,e,q⟩
theorem ixL {K:PySem.W.Frag} {H:Hp} {p:Addr} {xs:List V} {i:Int} {v:V} {Q:VK} (h:H p=some (.lst xs)) (e:atI xs i=some v) (q:Q v H):CJ K (.ref p) (.int i) H Q:=⟨p,xs,i,v,rfl,rfl,SqL.of h,e,q⟩
theorem ixS {K:PySem.W.Frag} {H:Hp} {p:Addr} {xs:List V} {i:Int} {v:V} {Q:VK} (h:SqL K H p xs) (e:atI xs i=some v) (q:Q v H):CJ K (.ref p) (.int i) H Q:=⟨p,xs,i,v,rfl,rfl,h,e,q⟩
theorem tyL {K:PySem.W.Frag} {H:Hp} {l:Addr} {xs:List V} (h:H l=some (.lst xs)):tyV K "list" (.ref l) H:=.inl ⟨rfl,_,SqL.of h⟩
theorem vL {H:Hp} {l:Addr} {xs:List V} {y:V} {Q:VK} (h:H l=some (.lst xs)) (hz:xs.length<sizeLine) (q:Q .non (upd H l (.lst (xs++[y])))):rAppend (.ref l) [y] H Q:=⟨l,xs,y,rfl,rfl,h,hz,q⟩
theorem Na {H:Hp} {l:Addr} {xs:List V} {i:Int} {y:V} {Q:VK} (h:H l=some (.lst xs)) (h0:0<=i) (h1:i<=xs.length) (hz:xs.length<sizeLine) (q:Q .non (upd H l (.lst (xs.take i.toNat++y::xs.drop i.toNat)))):rInsert (.ref l) [.int i,y] H Q :=
 ⟨l,xs,i,y,rfl,rfl,h,h0,h1,hz,q⟩
theorem JT {H:Hp} {l:Addr} {xs:List V} {y:V} {Q:VK} (h:H l=some (.lst (xs++[y]))) (q:Q y (upd H l (.lst xs))):rPop (.ref l) [] H Q :=
 ⟨l,xs++[y],y,rfl,rfl,h,by simp,by rw [List.dropLast_concat];exact q⟩
theorem dU {n:Nat} (h:n<=100000):n<sizeLine:=Nat.lt_of_le_of_lt h (by decide)
theorem aR {n:Nat} (h:n<=100000):n<=sizeLine:=Nat.le_of_lt (dU h)
theorem gF {α:Type} {xs:List α} {i:Int} {v:α} (h0:0<=i) (h:xs[i.toNat]?=some v):atI xs i=some v:=by
 obtain ⟨n,rfl⟩:∃ n:Nat,i=n:=⟨i.toNat,by omega⟩;exact Mg (by simpa using h)
theorem xG {X:Cx} {x:Str} {i:Int} {pos:Pos} (hg:Gl X x) (hm:∃ t,X.mg x=some (.int i t)) (hd:(x == ("__debug__":Str))=false:=by decide):PE X (.Name x pos) (tC (.int i)):=by
 obtain ⟨t,e⟩:=hm;exact kE hg e ⟨t,rfl⟩ hd
def Itx (K:PySem.W.Frag):Bool->Addr->It
 | true,a=>Itl K a
 | false,a=>Itt K a
def Lh (K:PySem.W.Frag) (c:Bool) (tl:TE):TI:=fun σ H R=>tl σ H fun x H1=>∃ a,x=.ref a/\(∃ xs,SqX K c H1 a xs)/\R (Itx K c a) H1
theorem GR {X:Cx} {tg l:Expr} {tl:TE} (c:Bool) (hl:PE X l tl):PI X tg l (Lh X.K c tl):=by
 cases c
 . exact tW hl
 . exact jJ hl
def qQ (J:It) (p:Addr) (Q:VK) (g:TG) (tc:TT) (te:TE) (σ0:St) (H0:Hp):Prop :=
 ∃ W:Nat->Nat->List V->St->Hp->Prop,(∃ m,W 0 m [] σ0 H0)/\∀ i m ys σc Hc,W i m ys σc Hc ->
   (J.stop i Hc/\Q (.ref p) Hc)\/(J.go i Hc/\∀ x H',J.yld i Hc x H'->g x σc H' fun σ2 H2=>tc σ2 H2 fun b H3 =>
     if b=true then te σ2 H3 fun y H4=>H4 p=some (.lst ys)/\ys.length<sizeLine/\∃ m',m'<m/\W (i+1) m' (ys++[y]) σ2 (upd H4 p (.lst (ys++[y])))
     else ∃ m',m'<m/\W (i+1) m' ys σ2 H3)
theorem AO {own:Nat} {js:List Nat} {wi:TI} {g:TG} {tc:TT} {te:TE} {σ:St} {H:Hp} {Q:VK}:F7 own js wi g tc te σ H Q=wi σ H fun J H1=>∀ p,H1 p=none->qQ J p Q g tc te (gc own js σ) (upd H1 p (.lst [])):=rfl
def oH (J:It) (D:Ends) (g:TG) (tb:TS) (σ:St) (H:Hp):Prop:=∃ W:Nat->Nat->St->Hp->Prop,(∃ m,W 0 m σ H)/\∀ i m σ H,W i m σ H ->
 (J.stop i H/\D.nx σ H)\/(J.go i H/\∃ N:St->Hp->Prop,(∀ σ' H',N σ' H'->∃ m',m'<m/\W (i+1) m' σ' H')/\∀ x H',J.yld i H x H'->g x σ H' fun σ2 H2=>tb { D with nx:=N,ct:=N,bk:=D.nx } σ2 H2)
theorem EO {wi:TI} {g:TG} {tb:TS} {D:Ends} {σ:St} {H:Hp}:Og wi g tb D σ H=wi σ H fun J H1=>oH J D g tb σ H1:=rfl
theorem xI {K:PySem.W.Frag} {c:Bool} {a p:Addr} {xs:List V} {Q:VK} {g:TG} {tc:TT} {te:TE} {σ0:St} {H0:Hp} (Pv:Nat->List V->St->Hp->Prop) (h0:Pv 0 [] σ0 H0) (hl:∀ i ys σ H,i<=xs.length->Pv i ys σ H->SqX K c H a xs)
   (hs:∀ (i:Nat) (x:V) (ys:List V) (σ:St) (H:Hp) (N:List V->St->Hp->Prop),(∀ ys' σ' H',Pv (i+1) ys' σ' H'->N ys' σ' H')->xs[i]?=some x->Pv i ys σ H->g x σ H fun σ2 H2=>tc σ2 H2 fun b H3 =>
     if b=true then te σ2 H3 fun y H4=>H4 p=some (.lst ys)/\ys.length<sizeLine/\N (ys++[y]) σ2 (upd H4 p (.lst (ys++[y]))) else N ys σ2 H3)
   (hd:∀ ys σ H,Pv xs.length ys σ H->Q (.ref p) H):qQ (Itx K c a) p Q g tc te σ0 H0:=by
 refine ⟨fun i m ys σ H=>m=xs.length - i/\i<=xs.length/\Pv i ys σ H,⟨xs.length,by simp,Nat.zero_le _,h0⟩,?_⟩;rintro i m ys σ H ⟨rfl,hi,pv⟩;have q:=hl i ys σ H hi pv;by_cases hlt:i<xs.length
 . refine .inr ⟨?_,fun x H' y=>?_⟩
   . cases c
     . exact ⟨xs,xs[i],q,by simp [hlt]⟩
     . exact ⟨xs,xs[i],q,by simp [hlt]⟩
   . have e:H'=H/\xs[i]?=some x:=by
       cases c
       . exact ⟨y.1,y.2 xs q⟩
       . exact ⟨y.1,y.2 xs q⟩
     obtain ⟨rfl,hx⟩:=e;exact hs i x ys σ _ (fun ys' σ' H'=>∃ m',m'<xs.length - i/\(m'=xs.length - (i+1)/\i+1<=xs.length/\Pv (i+1) ys' σ' H')) (fun ys' σ' H' pv'=>⟨xs.length - (i+1),by omega,rfl,hlt,pv'⟩) hx pv
 . have e:i=xs.length:=by omega
   subst e;refine .inl ⟨?_,hd ys σ H pv⟩;cases c
   . exact ⟨xs,q,Nat.le_refl _⟩
   . exact ⟨xs,q,Nat.le_refl _⟩
theorem FZ {lo:Int} {n:Nat} {p:Addr} {Q:VK} {g:TG} {tc:TT} {te:TE} {σ0:St} {H0:Hp} (Pv:Nat->List V->St->Hp->Prop) (h0:Pv 0 [] σ0 H0)
   (hs:∀ (i:Nat) (ys:List V) (σ:St) (H:Hp) (N:List V->St->Hp->Prop),(∀ ys' σ' H',Pv (i+1) ys' σ' H'->N ys' σ' H')->i<n->Pv i ys σ H->g (.int (lo+i)) σ H fun σ2 H2=>tc σ2 H2 fun b H3 =>
     if b=true then te σ2 H3 fun y H4=>H4 p=some (.lst ys)/\ys.length<sizeLine/\N (ys++[y]) σ2 (upd H4 p (.lst (ys++[y]))) else N ys σ2 H3)
   (hd:∀ ys σ H,Pv n ys σ H->Q (.ref p) H):qQ (Itr lo n) p Q g tc te σ0 H0:=by
 refine ⟨fun i m ys σ H=>m=n - i/\i<=n/\Pv i ys σ H,⟨n,by simp,Nat.zero_le _,h0⟩,?_⟩;rintro i m ys σ H ⟨rfl,hi,pv⟩;by_cases hlt:i<n
 . refine .inr ⟨hlt,fun x H' y=>?_⟩;obtain ⟨rfl,rfl⟩:=y;exact hs i ys σ _ (fun ys' σ' H'=>∃ m',m'<n - i/\(m'=n - (i+1)/\i+1<=n/\Pv (i+1) ys' σ' H')) (fun ys' σ' H' pv'=>⟨n - (i+1),by omega,rfl,hlt,pv'⟩) hlt pv
 . have e:i=n:=by omega
   subst e;exact .inl ⟨Nat.le_refl _,hd ys σ H pv⟩
theorem lx:bootBuiltins "len"=some (.builtin "len"):=by decide +kernel
theorem gB:bootBuiltins "isinstance"=some (.builtin "isinstance"):=by decide +kernel
theorem NM:bootBuiltins "all"=some (.builtin "all"):=by decide +kernel
theorem NO:bootBuiltins "min"=some (.builtin "min"):=by decide +kernel
theorem Nr:bootBuiltins "max"=some (.builtin "max"):=by decide +kernel
theorem Hw:bootBuiltins "sorted"=some (.builtin "sorted"):=by decide +kernel
theorem vU:bootBuiltins "list"=some (.type "list"):=by decide +kernel
theorem rY:bootBuiltins "tuple"=some (.type "tuple"):=by decide +kernel
section
variable {X:Cx} {a b o e:Expr} {es:List Expr} {ta tb to:TE} {t:TA} {pos apos cpos:Pos} {f name:Str} {T id:String} {r:V->List V->Hp->VK->Prop}
theorem zr (K:PySem.W.Frag) (h:X.K=K):fD X (.type "tuple") (fun xs H Q=>∃ p ys,xs=[.ref p]/\((SqL K H p ys/\∀ l,H l=none->Q (.ref l) (upd H l (.tup ys)))\/(SqT K H p ys/\Q (.ref p) H))):=by subst h;exact jh
theorem JL (K:PySem.W.Frag) (h:X.K=K):IxR X (CJ K):=by subst h;exact bW
end
theorem yb {x:Str} {k:NameKind}:∀ {l:List (Str × NameKind)},l.lookup x=some k->∃ y,(y,k)∈l
 | [],h=>by simp at h
 | (n,j)::r,h=>by
   rw [List.lookup_cons] at h;cases q:x == n with
   | true =>
     rw [q] at h;cases h;exact ⟨n,List.mem_cons_self⟩
   | false =>
     rw [q] at h;obtain ⟨y,hy⟩:=yb h;exact ⟨y,List.mem_cons_of_mem _ hy⟩
theorem wJ {X:Cx} {Nc:List Str} {scope:Scope} (own:Nat) (hf:∀ y∈scope.names,y.2≠.free) (hc:∀ y∈scope.names,y.2≠.cell) (hk:scope.kind=.function) (hn:∀ y∈scope.names,y.2=.local->scope.names.lookup y.1=some .local)
   (hl:Nc.length=own):CompTxt X Nc own [] scope [] where
 clos:=closureFor_none hf
 kind:=hk
 nocell:=hc
 names:=hn
 cells:=fun x c h=>by cases h
 has:=fun x h=>by
   have key:∀ k,(relabel scope X.env).names.lookup x=some k->k≠.cell/\k≠.free:=fun k e=>by
     obtain ⟨y,hy⟩:=yb e;obtain ⟨⟨n,k0⟩,hm,e2⟩:=List.mem_map.mp hy;have h1:=hf _ hm;have h2:=hc _ hm;have e3:(k0 == NameKind.free)=false:=(by simpa using h1);simp only [e3,Bool.false_and,Bool.false_eq_true,if_false] at e2;cases e2;exact ⟨h2,h1⟩
   rcases h with h|h
   . exact absurd rfl (key _ h).1
   . exact absurd rfl (key _ h).2
 len:=by simpa using hl
 outer:=fun i x h=>by
   rw [List.getElem?_eq_none (by omega)] at h;cases h
theorem Au {K:PySem.W.Frag} {a:Addr} {xs:List V} {g:TG} {tb:TS} {D:Ends} {σ:St} {H:Hp} (Pv:Nat->St->Hp->Prop) (h0:Pv 0 σ H) (hl:∀ i σ H,i<=xs.length->Pv i σ H->SqL K H a xs)
   (hs:∀ (i:Nat) (x:V) (σ:St) (H:Hp) (N:St->Hp->Prop),(∀ σ' H',Pv (i+1) σ' H'->N σ' H')->xs[i]?=some x->Pv i σ H->g x σ H fun σ2 H2=>tb { D with nx:=N,ct:=N,bk:=D.nx } σ2 H2) (hd:∀ σ H,Pv xs.length σ H->D.nx σ H) :
   oH (Itl K a) D g tb σ H:=K5 Pv h0 hl (fun i x σ H hx p=>hs i x σ H (Pv (i+1)) (fun _ _ z=>z) hx p) hd
theorem Di {K:PySem.W.Frag} {a:Addr} {xs:List V} {g:TG} {tb:TS} {D:Ends} {σ:St} {H:Hp} (Pv:Nat->St->Hp->Prop) (h0:Pv 0 σ H) (hl:∀ i σ H,i<=xs.length->Pv i σ H->SqT K H a xs)
   (hs:∀ (i:Nat) (x:V) (σ:St) (H:Hp) (N:St->Hp->Prop),(∀ σ' H',Pv (i+1) σ' H'->N σ' H')->xs[i]?=some x->Pv i σ H->g x σ H fun σ2 H2=>tb { D with nx:=N,ct:=N,bk:=D.nx } σ2 H2) (hd:∀ σ H,Pv xs.length σ H->D.nx σ H) :
   oH (Itt K a) D g tb σ H:=zZ Pv h0 hl (fun i x σ H hx p=>hs i x σ H (Pv (i+1)) (fun _ _ z=>z) hx p) hd
theorem sq {lo:Int} {n:Nat} {g:TG} {tb:TS} {D:Ends} {σ:St} {H:Hp} (Pv:Nat->St->Hp->Prop) (h0:Pv 0 σ H)
   (hs:∀ (i:Nat) (σ:St) (H:Hp) (N:St->Hp->Prop),(∀ σ' H',Pv (i+1) σ' H'->N σ' H')->i<n->Pv i σ H->g (.int (lo+i)) σ H fun σ2 H2=>tb { D with nx:=N,ct:=N,bk:=D.nx } σ2 H2) (hd:∀ σ H,Pv n σ H->D.nx σ H) :
   oH (Itr lo n) D g tb σ H:=Hh Pv h0 (fun i σ H hi p=>hs i σ H (Pv (i+1)) (fun _ _ z=>z) hi p) hd
theorem ED {c:TT} {tb:TS} {D:Ends} {σ:St} {H:Hp} (W:Nat->St->Hp->Prop) (n0:Nat) (h0:W n0 σ H)
   (hs:∀ (n:Nat) (σ:St) (H:Hp) (N:St->Hp->Prop),(∀ n' σ' H',n'<n->W n' σ' H'->N σ' H')->(∀ σ' H',N σ' H'->∃ m',m'<n/\W m' σ' H')->W n σ H ->
     c σ H fun b H1=>if b=true then ∃ N:St->Hp->Prop,(∀ σ' H',N σ' H'->∃ m',m'<n/\W m' σ' H')/\tb { D with nx:=N,ct:=N,bk:=D.nx } σ H1 else D.nx σ H1):DD c tb D σ H :=
 ⟨W,⟨n0,h0⟩,fun n σ H w=>hs n σ H (fun σ' H'=>∃ m',m'<n/\W m' σ' H') (fun n' _ _ hn w'=>⟨n',hn,w'⟩) (fun _ _ z=>z) w⟩
theorem p60:(0:Int)<10^(60:Int).toNat:=Int.pow_pos (by decide)
open Pb
def iH (r:Road):List V:=[.int r.a,.int r.b,.int r.t,.int r.u]
abbrev RoadsAt (H:Hp):List Addr->List Road->Prop:=Paired fun p r=>H p=some (.tup (iH r))
theorem RoadsAt.same {H H':Hp} (e:Same H H') {ps:List Addr} {rs:List Road} (h:RoadsAt H ps rs):RoadsAt H' ps rs:=Paired.imp' (fun p r q=>e p _ q) h
theorem RoadsAt.get {H:Hp}:∀ {ps:List Addr} {rs:List Road} {i:Nat} {x:V},RoadsAt H ps rs->(ps.map V.ref)[i]?=some x->∃ p r,x=.ref p/\ps[i]?=some p/\rs[i]?=some r/\H p=some (.tup (iH r))
 | _,_,i,x,.nil,e=>by simp at e
 | _,_,0,x,.cons (a:=p) (b:=r) h hs,e=>⟨p,r,by simpa using e.symm,by simp,by simp,h⟩
 | a::l1,_,i+1,x,.cons h hs,e=>by
   have e':(List.map V.ref l1)[i]?=some x:=by simpa using e
   obtain ⟨p,r,h1,h2,h3,h4⟩:=RoadsAt.get hs e';exact ⟨p,r,h1,by simpa using h2,by simpa using h3,h4⟩
theorem Same.tup {K:PySem.W.Frag} {H H':Hp} {a:Addr} {xs:List V} (e:Same H H') (h:SqT K H a xs):SqT K H' a xs:=by
 rcases h with (h|⟨o,h⟩)|h
 . exact .inl (.inl (e _ _ h))
 . exact .inl (.inr ⟨o,e _ _ h⟩)
 . exact .inr h
theorem Same.sqX {K:PySem.W.Frag} {H H':Hp} {c:Bool} {a:Addr} {xs:List V} (e:Same H H') (h:SqX K c H a xs):SqX K c H' a xs:=by
 cases c
 . exact Same.tup e h
 . exact Same.seq e h
theorem Same.new {H:Hp} {p:Addr} (o:HO) (h:H p=none):Same H (upd H p o):=fun b u e=>by rw [ar (bh e h)];exact e
end L2
set_option Elab.async false
set_option linter.all false
set_option maxRecDepth 100000
namespace L2
open PySem PySem.Spec PyProof.Rows
abbrev bmV:List Value:=[.type "ValueError",.type "Exception",.type "BaseException",.type "object"]
structure XCls (K:PySem.W.Frag) (C:Addr):Prop where
 ty:PySem.W.typeIn K (.ref C)=some (.type "type")
 ga:PySem.W.findIn K (.ref C) "__getattribute__"=some (some (.builtin "BaseException.__getattribute__"))
 gt:PySem.W.findIn K (.ref C) "__getattr__"=some none
 cl:PySem.W.findIn K (.ref C) "__class__"=some (some (.builtin "object.__class__"))
 gs:PySem.W.specialIn K (.builtin "object.__class__") "__get__"=some (some (.builtin "getset_descriptor.__get__"))
 tk:PySem.W.takesIn K (.builtin "object.__class__")=some true
 mo:PySem.W.mroIn K C (.type "object")=some true
 mb:PySem.W.mroIn K C (.type "BaseException")=some true
 hd:PySem.W.hasDictIn K C=true
 sf:PySem.W.mroIn K C (.ref C)=some true
theorem Ho {K:PySem.W.Frag} {C:Addr} {od:Option Obj} {name:Str} {a g:Value} (hc:(PySem.W.clsIn K C).isSome=true) (ha:PySem.W.findIn K (.ref C) name=some (some a)) (hg:PySem.W.specialIn K a "__get__"=some (some g)) (ht:PySem.W.takesIn K a=some true) :
   PySem.W.findObj K C od name=some (.bind g a):=by
 obtain ⟨cd,hc⟩:=Option.isSome_iff_exists.mp hc;unfold PySem.W.findObj;rw [hc,Option.bind_some,ha,Option.bind_some];simp [hg,ht]
section
variable {prog:Program} {w:World} {A:Around} {E:Value->Shared->Prop} {s:Shared} {K:PySem.W.Frag} {x C:Addr} {ox:Obj} {od:Option Obj}
theorem G5 {M:Model} {nv:Value} {Q:Unit->Shared->Prop} (X:K.In s.heap) (I:PySem.W.InstAt s.heap x ox C od) (c:XCls K C) (h:Q () s):wpAny M A (checkBuiltinCall "BaseException.__getattribute__" ⟨[.ref x,nv],[]⟩) Q E s:=by
 obtain ⟨hh,g,dr,t,os⟩:=s;have hk:builtinKind "BaseException.__getattribute__"=some .slot:=by decide +kernel
 have hs:splitId "BaseException.__getattribute__"=some ("BaseException","__getattribute__"):=by decide +kernel
 have L0:=I.type (M:=M);have L1:=PySem.W.looks_mroIn (M:=M) X c.mb;have ha:=F.args_bexc_ga (.ref x) nv;simp only [checkBuiltinCall,hk,hs];unfold isInstance
 repeat (first|lk|wp_step)
 exact h
theorem G6 {Q:Option Value->Shared->Prop} (X:K.In s.heap) (I:PySem.W.InstAt s.heap x ox C od) (c:XCls K C) (h:Q (some (.ref C)) { s with toks:=s.toks+1 }):wpAny (model prog w) A (getAttr? (.ref x) "__class__") Q E s:=by
 obtain ⟨hh,g,dr,t,os⟩:=s;have hc:(PySem.W.clsIn K C).isSome=true:=by
   obtain ⟨cd,e,_⟩:=PySem.W.any_some c.hd;rw [e]
   rfl
 have L0:=I.type (M:=model prog w);have L1:=PySem.W.looks_findIn (M:=model prog w) X c.ga;have L2:=PySem.W.looks_findIn (M:=model prog w) X c.gt;have L3:=PySem.W.looks_find (M:=model prog w) X I (Ho (od:=od) hc c.cl c.gs c.tk);have n2:(Value.builtin "BaseException.__getattribute__" == Value.builtin "object.__getattribute__")=false:=by decide +kernel
 have n1:(onTheHeap (Value.ref C) && Value.builtin "BaseException.__getattribute__" == Value.builtin "object.__getattribute__")=false:=by rw [n2];rfl
 have b1:=F.excAttr_ValueError.ga.bind (.ref x);unfold getAttr? getAttrBy? getAttrBy;refine wpAny_bind (wpAny_mkText (wpAny_bind (wpAny_attempt (wpAny_holding (wpAny_bind (L0.at (wpAny_bind (L1.at ?_))))))));dsimp only;rw [n1];simp only [Bool.false_eq_true,if_false];unfold getAttrByItsOwn hookBefore callGetattribute boundAndCalled;simp only [onTheHeap,Bool.and_false,Bool.false_eq_true,if_false,if_true];refine wpAny_bind (L2.at (wpAny_bind (wpAny_attempt (wpAny_holding (wpAny_bind (wpAny_of_eq b1 ?_))))));refine wpAny_call (codeAny_call_builtin F.excAttr_ValueError.ga.plain F.entry_bexc_ga (G5 X I c ?_));unfold Builtin.«object.__getattribute__»
 repeat lk
 refine wpAny_run (h:=none) (PySem.W.class_get (s:=⟨hh,g,dr,t+1,os⟩) (ox:=ox) (od:=od) X I c.mo ?_);refine wpAny_pure (wpAny_pure ?_);exact PySem.W.handed_on rfl (wpAny_pure h)
theorem Cv (c:XCls K C):PySem.W.KitX K (.ref x) (.ref C) (fun h=>PySem.W.InstAt h x ox C od) where
 ty:=fun _ _ _ I=>I.type
 it:=fun _ _ X _=>by
   obtain ⟨cd,e,_⟩:=PySem.W.any_some c.hd;unfold PySem.W.clsIn at e;split at e
   . rename_i ho
     intro A' Q' E' s' k q;unfold isType loadHead;exact wpAny_bind (wpAny_loadPart (k _ _ (X _ _ ho)) (wpAny_pure q))
   . cases e
 ne:=fun h tp dd its n sl X htp=>by
   obtain ⟨cd,e,_⟩:=PySem.W.any_some c.hd;refine Bool.eq_false_iff.mpr fun q=>?_;have z:C=tp:=Value.ref.inj (beq_iff_eq.mp q);subst z;unfold PySem.W.clsIn at e;split at e
   . rename_i ho
     cases (X _ _ ho).symm.trans htp
   . cases e
 ca:=fun X I k=>G6 X I c k
end
end L2
set_option Elab.async false
set_option linter.all false
set_option maxRecDepth 100000
namespace L2
open PySem PySem.Spec PyProof.Rows
def jm (h:Heap) (ea:Addr) (cls:Value) (od:Option Addr) (head:Value):Prop:=∃ oe vs,h.get? ea=some oe/\oe.cls=cls/\oe.dict=od/\oe.data=.fields vs/\vs[1]?=some head/\vs[2]?=some .none
def TbO (h:Heap) (T:Addr) (fl:Value):Prop:=∃ oT ts,h.get? T=some oT/\oT.data=.fields ts/\ts[3]?=some fl
structure Err (h:Heap) (ea T:Addr) (cls:Value) (od:Option Addr) (fl:Value):Prop where
 e:jm h ea cls od (.ref T)
 t:TbO h T fl
 ne:T≠ea
structure Kept (fs xs:List Addr) (h h':Heap):Prop where
 keep:∀ b o,h.get? b=some o->b ∉ fs->b ∉ xs->h'.get? b=some o
 slot:∀ b o,h.get? b=some o->b∈fs->b ∉ xs->∃ sl,h'.get? b=some { o with slots:=sl }
 there:∀ b o,h.get? b=some o->∃ o',h'.get? b=some o'
theorem Kept.mono {fs xs ys:List Addr} {h h':Heap} (k:Kept fs xs h h') (s:∀ b∈xs,b∈ys):Kept fs ys h h':=⟨fun b o e f x=>k.keep b o e f fun z=>x (s b z),fun b o e f x=>k.slot b o e f fun z=>x (s b z),k.there⟩
theorem Kept.trans {fs xs:List Addr} {h h1 h2:Heap} (a:Kept fs xs h h1) (b:Kept fs xs h1 h2):Kept fs xs h h2 where
 keep:=fun c o e f x=>b.keep c o (a.keep c o e f x) f x
 slot:=fun c o e f x=>by
   obtain ⟨s1,e1⟩:=a.slot c o e f x;obtain ⟨s2,e2⟩:=b.slot c _ e1 f x;exact ⟨s2,e2⟩
 there:=fun c o e=>by
   obtain ⟨o1,e1⟩:=a.there c o e;exact b.there c o1 e1
theorem Kept.of_all {fs xs:List Addr} {h h':Heap} (k:∀ b o,h.get? b=some o->h'.get? b=some o):Kept fs xs h h':=⟨fun b o e _ _=>k b o e,fun b o e _ _=>⟨o.slots,k b o e⟩,fun b o e=>⟨o,k b o e⟩⟩
theorem xf {fs xs:List Addr} {h:Heap} {a:Addr} {oa:Obj} {vs:Array Value} {i:Nat} {v:Value} (ha:h.get? a=some oa) (hd:oa.data=.fields vs) (hx:a∈xs):Kept fs xs h (h.update a (Obj.mapFields (·.setIfInBounds i v))):=by
 have oth:∀ b o,h.get? b=some o->b ∉ xs->(h.update a (Obj.mapFields (·.setIfInBounds i v))).get? b=some o:=fun b o e x=>by
   rw [Heap.get?_update_other _ _ (fun (z:a=b)=>x (z ▸ hx))];exact e
 refine ⟨fun b o e _ x=>oth b o e x,fun b o e _ x=>⟨o.slots,oth b o e x⟩,fun b o e=>?_⟩;by_cases z:b=a
 . subst z;exact ⟨_,Heap.get?_update_self _ ha (Obj.isFreed_of_fields (Obj.data_mapFields hd _))⟩
 . rw [Heap.get?_update_other _ _ (Ne.symm z)];exact ⟨o,e⟩
theorem Lo {h:Heap} {ea:Addr} {cls hd v:Value} {od:Option Addr} (e:jm h ea cls od hd):jm (h.update ea (Obj.mapFields (·.setIfInBounds 1 v))) ea cls od v:=by
 obtain ⟨oe,vs,h1,h2,h3,h4,h5,h6⟩:=e;have sz:1<vs.size:=(Array.getElem?_eq_some_iff.mp h5).1;refine ⟨_,_,Heap.get?_update_self _ h1 (Obj.isFreed_of_fields (Obj.data_mapFields h4 _)),?_,?_,Obj.data_mapFields h4 _,by simp [sz],by rw [Array.getElem?_setIfInBounds_ne (by decide)];exact h6⟩
 . rw [<- h2];exact Obj.cls_mapFields _ _
 . rw [<- h3];obtain ⟨c,d,dt,sl⟩:=oe;cases dt <;> rfl
theorem yz {h:Heap} {ea a:Addr} {cls hd:Value} {od:Option Addr} {f:Obj->Obj} (e:jm h ea cls od hd) (ne:a≠ea):jm (h.update a f) ea cls od hd:=by
 obtain ⟨oe,vs,h1,h2⟩:=e;exact ⟨oe,vs,by rw [Heap.get?_update_other _ _ ne];exact h1,h2⟩
theorem Ay {h h':Heap} {ea:Addr} {cls hd:Value} {od:Option Addr} (e:jm h ea cls od hd) (k:∀ o,h.get? ea=some o->h'.get? ea=some o):jm h' ea cls od hd:=by
 obtain ⟨oe,vs,h1,h2⟩:=e;exact ⟨oe,vs,k _ h1,h2⟩
theorem Hg {h base:Heap} {ea:Addr} {cls hd:Value} {od:Option Addr} {l:List Env} (e:jm h ea cls od hd) (f:h.FunFrames base l):ea ∉ frs l:=fun z=>by
 obtain ⟨oe,vs,h1,_,_,h4,_⟩:=e;obtain ⟨_,o,ho,hn⟩:=f.mem z;rw [h1] at ho;cases ho;exact hn vs h4
theorem KS {h base:Heap} {T:Addr} {fl:Value} {l:List Env} (e:TbO h T fl) (f:h.FunFrames base l):T ∉ frs l:=fun z=>by
 obtain ⟨oe,vs,h1,h4,_⟩:=e;obtain ⟨_,o,ho,hn⟩:=f.mem z;rw [h1] at ho;cases ho;exact hn vs h4
section
variable {M:Model} {A:Around} {E:Value->Shared->Prop} {s:Shared} {Q:Unit->Shared->Prop} {fs:List Addr} {ea T L:Addr} {cls fl hd:Value} {od:Option Addr} {base:Heap} {env:Env} {outer:List Env}
theorem vQ (r:Err s.heap ea T cls od fl) (h:∀ h',Err h' ea T cls od .none->Kept fs [T] s.heap h'->Q () { s with heap:=h' }):wpAny M A (setFlight (.ref ea) none) Q E s:=by
 obtain ⟨⟨oe,vs,h1,h2,h3,h4,h5,h6⟩,⟨oT,ts,t1,t2,t3⟩,ne⟩:=r;have sz:3<ts.size:=(Array.getElem?_eq_some_iff.mp t3).1;unfold setFlight;refine wpAny_bind (wpAny_field h1 h4 h5 ?_);rw [if_pos (by simp:(Value.ref T != Value.none)=true)];refine wpAny_setField t1 t2 sz (h _ ⟨yz ⟨oe,vs,h1,h2,h3,h4,h5,h6⟩ ne,⟨_,_,Heap.get?_update_self _ t1 (Obj.isFreed_of_fields (Obj.data_mapFields t2 _)),Obj.data_mapFields t2 _,by simp [sz]⟩,ne⟩ (xf t1 t2 (by simp)))
theorem Ct {head:Value} {hadNext:Bool} (hfr:A.frames=some (env::outer)) (hl:s.heap.FunFrames base (env::outer)) (hf:env.frame=some L) (r:jm s.heap ea cls od hd)
   (h:∀ h' T',Err h' ea T' cls od (rawInt L)->Kept (frs (env::outer)) [ea] s.heap h'->s.heap.get? T'=none->Q () { s with heap:=h' }) :
   wpAny M A (do let a <- frameOf env;let pl <- entryPlaceOf L hadNext;let b <- EntryCells.newEntry head a .none (rawInt L) .none pl;setField (.ref ea) 1 b) Q E s:=by
 have nf:=Hg r hl;refine wpAny_bind (wpAny_frameOf_fun hfr hl hf fun g1 so=>wpAny_bind (wpAny_entryPlaceOf fun pl hpl=>?_));unfold EntryCells.newEntry newFields;refine wpAny_bind (wpAny_newObj_type ?_ (hpl.sizeOk5 _ _ _ _ _));have r1:jm g1 ea cls od hd:=Ay r fun o e=>(so.2.1 ea nf).trans e;generalize ht:({ cls:=.type "traceback",dict:=none,data:=.fields ([head,.ref L,.none,rawInt L,.none]++(if pl.isEmpty then List.replicate 6 Value.none else pl)).toArray }:Obj)=tb;have r2:jm (g1.push tb) ea cls od hd:=Ay r1 fun o e=>Heap.get?_push_of_some _ e;obtain ⟨oe,vs,e1,e2,e3,e4,e5,e6⟩:=id r2;have lt:ea<g1.objs.size:=by
   obtain ⟨_,_,e,_⟩:=r1;exact Heap.lt_size e
 have hT:(g1.push tb).get? g1.objs.size=some tb:=Heap.get?_push_size g1 (by rw [<- ht];rfl);refine wpAny_setField e1 e4 (Array.getElem?_eq_some_iff.mp e5).1 (h _ g1.objs.size ⟨Lo r2,⟨tb,([head,.ref L,.none,rawInt L,.none]++(if pl.isEmpty then List.replicate 6 Value.none else pl)).toArray,?_,by rw [<- ht],by simp⟩,Nat.ne_of_gt lt⟩ ?_ ?_)
 . rw [Heap.get?_update_other _ _ (Nat.ne_of_lt lt)];exact hT
 . have k1:Kept (frs (env::outer)) [ea] s.heap g1:=⟨fun b o e f _=>(so.2.1 b f).trans e,fun b o e _ _=>so.2.2 b o e,fun b o e=>by
     obtain ⟨sl,z⟩:=so.2.2 b o e;exact ⟨_,z⟩⟩
   exact k1.trans ((Kept.of_all fun b o e=>Heap.get?_push_of_some _ e).trans (xf e1 e4 (by simp)))
 . exact Heap.get?_none_of_le (by rw [so.1];exact Nat.le_refl _)
theorem J6 (hfr:A.frames=some (env::outer)) (hl:s.heap.FunFrames base (env::outer)) (hf:env.frame=some L) (r:jm s.heap ea cls od .none)
   (h:∀ h' T',Err h' ea T' cls od (rawInt L)->Kept (frs (env::outer)) [ea] s.heap h'->s.heap.get? T'=none->Q () { s with heap:=h' }):wpAny M A (noteFrame (.ref ea) env) Q E s:=by
 obtain ⟨oe,vs,e1,e2,e3,e4,e5,e6⟩:=id r;unfold noteFrame;simp only [hf];refine wpAny_bind (wpAny_field e1 e4 e5 ?_);rw [if_neg (by decide)];exact Ct hfr hl hf r h
theorem ER (hfr:A.frames=some (env::outer)) (hl:s.heap.FunFrames base (env::outer)) (hf:env.frame=some L) (r:Err s.heap ea T cls od .none)
   (h:∀ h' T',Err h' ea T' cls od (rawInt L)->Kept (frs (env::outer)) [ea,T] s.heap h'->s.heap.get? T'=none->Q () { s with heap:=h' }):wpAny M A (noteFrame (.ref ea) env) Q E s:=by
 have nT:=KS r.t hl;obtain ⟨⟨oe,vs,e1,e2,e3,e4,e5,e6⟩,⟨oT,ts,t1,t2,t3⟩,ne⟩:=id r;unfold noteFrame;simp only [hf];refine wpAny_bind (wpAny_field e1 e4 e5 ?_);rw [if_pos (by simp:(Value.ref T != Value.none)=true)];refine wpAny_bind (wpAny_field t1 t2 t3 ?_);rw [if_neg (by simp [rawInt])];have k1:Kept (frs (env::outer)) [ea,T] s.heap (s.heap.update T (Obj.mapFields (·.setIfInBounds 3 Value.none))):=xf t1 t2 (by simp);refine wpAny_bind (wpAny_setField t1 t2 (Array.getElem?_eq_some_iff.mp t3).1 ?_);refine Ct hfr (hl.of_keeps fun b o e nf=>⟨o,?_,rfl⟩) hf (yz r.e ne) fun h' T' r' k2 n=>h h' T' r' (k1.trans (k2.mono (by simp))) ?_
 . by_cases z:b=T
   . subst z;rw [t1] at e;cases e;exact absurd t2 (nf ts)
   . rw [Heap.get?_update_other _ _ (Ne.symm z)];exact e
 . cases q:s.heap.get? T' with
   | none=>rfl
   | some o =>
     obtain ⟨o',z⟩:=k1.there T' o q;rw [z] at n;cases n
theorem GN (hfr:A.frames=some (env::outer)) (hl:s.heap.FunFrames base (env::outer)) (hf:env.frame=some L) (r:jm s.heap ea cls od .none)
   (h:∀ h' T',Err h' ea T' cls od .none->Kept (frs (env::outer)) [ea] s.heap h'->s.heap.get? T'=none->Q () { s with heap:=h' }):wpAny M A (leaving env (.ref ea)) Q E s:=by
 unfold leaving;refine wpAny_bind (J6 hfr hl hf r fun h1 T1 r1 k1 n1=>vQ (fs:=frs (env::outer)) (s:={ s with heap:=h1 }) r1 fun h2 r2 k2=>h h2 T1 r2 ⟨fun b o e f x=>k2.keep b o (k1.keep b o e f x) f ?_,fun b o e f x=>?_,fun b o e=>?_⟩ n1)
 . simp only [List.mem_singleton];rintro rfl;rw [n1] at e;cases e
 . obtain ⟨s1,e1⟩:=k1.slot b o e f x;obtain ⟨s2,e2⟩:=k2.slot b _ e1 f (by
     simp only [List.mem_singleton];rintro rfl;rw [n1] at e;cases e)
   exact ⟨s2,e2⟩
 . obtain ⟨o1,e1⟩:=k1.there b o e;exact k2.there b o1 e1
theorem K4 (hfr:A.frames=some (env::outer)) (hl:s.heap.FunFrames base (env::outer)) (hf:env.frame=some L) (r:Err s.heap ea T cls od .none)
   (h:∀ h' T',Err h' ea T' cls od .none->Kept (frs (env::outer)) [ea,T] s.heap h'->s.heap.get? T'=none->Q () { s with heap:=h' }):wpAny M A (leaving env (.ref ea)) Q E s:=by
 unfold leaving;refine wpAny_bind (ER hfr hl hf r fun h1 T1 r1 k1 n1=>vQ (fs:=frs (env::outer)) (s:={ s with heap:=h1 }) r1 fun h2 r2 k2=>h h2 T1 r2 ⟨fun b o e f x=>k2.keep b o (k1.keep b o e f x) f ?_,fun b o e f x=>?_,fun b o e=>?_⟩ n1)
 . simp only [List.mem_singleton];rintro rfl;rw [n1] at e;cases e
 . obtain ⟨s1,e1⟩:=k1.slot b o e f x;obtain ⟨s2,e2⟩:=k2.slot b _ e1 f (by
     simp only [List.mem_singleton];rintro rfl;rw [n1] at e;cases e)
   exact ⟨s2,e2⟩
 . obtain ⟨o1,e1⟩:=k1.there b o e;exact k2.there b o1 e1
end
def CXe (P:Program) (w:World):CXT:=fun outer H s E e s'=>∃ (ea T:Addr) (cls:Value) (od:Option Addr) (H':Hp),e=.ref ea/\s'.os=s.os/\AllBare s'.gens/\Un (frs outer) [] H H' s.heap s'.heap/\HOk P w H' s'.heap /\
 H' ea=none/\H' T=none/\s.heap.get? ea=none/\s.heap.get? T=none/\Err s'.heap ea T cls od .none/\E cls od H'
theorem aU {P:Program} {w:World}:bc (CXe P w):=fun outer H s e s' h=>by
 obtain ⟨_,_,_,_,_,_,_,_,_,_,_,_,_,_,_,z⟩:=h;exact z
theorem xi {P:Program} {w:World} {H:Hp} {h h':Heap} {fs xs:List Addr} (x:HOk P w H h) (k:Kept fs xs h h') (f:∀ b∈fs,H b=none) (u:∀ b∈xs,H b=none):HOk P w H h':=fun a o e=>by
 refine (x a o e).stay (fun b ob hb q=>k.keep b ob q ?_ ?_) (fun _ q=>q) fun _ _ q=>q
 . intro z;rcases hb with rfl|hb
   . rw [f _ z] at e;cases e
   . rw [f _ z] at hb;cases hb
 . intro z;rcases hb with rfl|hb
   . rw [u _ z] at e;cases e
   . rw [u _ z] at hb;cases hb
theorem Ds {P:Program} {w:World} {H:Hp} {h:Heap} {b:Addr} (x:HOk P w H h) (n:h.get? b=none):H b=none:=by
 cases q:H b with
 | none=>rfl
 | some o =>
   have lt:=x.lt q;cases z:h.get? b with
   | some o'=>rw [z] at n;cases n
   | none =>
     exfalso
     have:=(x b o q);cases o with
     | lst xs=>obtain ⟨_,_,_,_,e⟩:=this;rw [n] at e;cases e
     | tup xs=>obtain ⟨_,_,_,ob,e,_⟩:=this;rw [n] at e;cases e
     | dK kvs=>obtain ⟨_,_,_,_,ob,_,_,e,_⟩:=this;rw [n] at e;cases e
     | dT kvs=>obtain ⟨_,_,_,_,ob,_,_,e,_⟩:=this;rw [n] at e;cases e
     | set S m=>obtain ⟨ob,_,_,_,e,_⟩:=this;rw [n] at e;cases e
     | ins C dx fs=>obtain ⟨_,_,_,e,_⟩:=this;rw [n] at e;cases e
     | own y=>obtain ⟨_,e⟩:=this;rw [n] at e;cases e
     | xd fs=>obtain ⟨_,⟨_,_,_,e,_⟩,_⟩:=this;rw [n] at e;cases e
     | rng lo hi=>obtain ⟨_,_,_,e⟩:=this;rw [n] at e;cases e
     | frz ob u=>obtain ⟨e,_⟩:=this;rw [n] at e;cases e
     | tbl ps=>have e:h.get? b=some _:=this;rw [n] at e;cases e
     | met f y=>have e:h.get? b=some _:=this;rw [n] at e;cases e
     | ext φ=>obtain ⟨_,⟨_,e⟩,_⟩:=this;rw [n] at e;cases e
section
variable {P:Program} {w:World} {K:PySem.W.Frag} {mg:Str->Option Value} {base:Heap} {N:List Str} {qual:Str} {scope:Scope} {f:Addr} {cd:Value} {A:Around} {outer:List Env} {s:Shared} {H:Hp} {E:XK}
theorem BR {CX:CXT} {pins:List (Addr × Obj)} {σ:St} {H':Hp} {s':Shared} {h':Heap} {xs:List Addr} (J:Inv (l9 CX P w K mg base N qual scope f cd A outer s H E) pins σ H' s') (k:Kept (frs (envOfC qual scope s.heap.objs.size f cd::outer)) xs s'.heap h') (nx:∀ b∈xs,s.heap.get? b=none) :
   Un (frs outer) [] H H' s.heap h':=by
 have b0:Un (frs outer) [] H H' s.heap s'.heap:=J.base;have nl:∀ b o,s.heap.get? b=some o->b ∉ xs:=fun b o e z=>by rw [nx b z] at e;cases e
 have nf:∀ b o,s.heap.get? b=some o->b ∉ frs outer->b ∉ frs (envOfC qual scope s.heap.objs.size f cd::outer):=fun b o e z m=>by
   unfold frs at m z;rw [List.filterMap_cons] at m;have:(envOfC qual scope s.heap.objs.size f cd).frame=some s.heap.objs.size:=rfl;rw [this] at m;rcases List.mem_cons.mp m with m|m
   . exact absurd (Heap.lt_size e) (by rw [m];exact Nat.lt_irrefl _)
   . exact z m
 refine ⟨fun b o e n hf hx=>k.keep b o (b0.keep b o e n hf hx) (nf b o e hf) (nl b o e),fun b o e n hf hx=>?_,b0.free,fun b o e hx=>?_,b0.tups,b0.frzs,b0.tbls⟩
 . obtain ⟨sl,e1⟩:=b0.slot b o e n hf hx;by_cases m:b∈frs (envOfC qual scope s.heap.objs.size f cd::outer)
   . obtain ⟨s2,e2⟩:=k.slot b _ e1 m (nl b o e);exact ⟨s2,e2⟩
   . exact ⟨sl,k.keep b _ e1 m (nl b o e)⟩
 . obtain ⟨o1,e1⟩:=b0.there b o e hx;exact k.there b o1 e1
theorem lg {CX:CXT} {pins:List (Addr × Obj)} {σ:St} {H':Hp} {s':Shared} (J:Inv (l9 CX P w K mg base N qual scope f cd A outer s H E) pins σ H' s') {b:Addr} (n:s'.heap.get? b=none):s.heap.get? b=none:=by
 cases q:s.heap.get? b with
 | none=>rfl
 | some o =>
   have b0:Un (frs outer) [] H H' s.heap s'.heap:=J.base;obtain ⟨o',e⟩:=b0.there b o q (by simp);rw [n] at e;cases e
theorem c6:qh (CXe P w) (l9 (CXe P w) P w K mg base N qual scope f cd A outer s H E) E:=by
 intro pins σ H1 s1 e s' I h;obtain ⟨ea,T,cls,od,H',rfl,os,bare,un,hok,n1,n2,f1,f2,er,q⟩:=h;have J:=I.call' (ch:=[]) os un hok bare (by simp);refine K4 (base:=base) J.ok.frames J.stack rfl er fun h' T' er' k nT=>?_;have fr:∀ b∈frs (envOfC qual scope s.heap.objs.size f cd::outer),H' b=none:=J.stkFree;refine ⟨ea,T',cls,od,H',rfl,J.os,J.bare,BR J k ?_,xi hok k fr ?_,n1,Ds hok nT,lg I f1,lg J nT,er',q⟩
 . intro b hb;simp only [List.mem_cons,List.not_mem_nil,or_false] at hb;rcases hb with rfl|rfl
   . exact lg I f1
   . exact lg I f2
 . intro b hb;simp only [List.mem_cons,List.not_mem_nil,or_false] at hb;rcases hb with rfl|rfl
   . exact n1
   . exact n2
end
def Ht (X:Cx) (E:XK):Prop:=∀ (pins:List (Addr × Obj)) (σ:St) (H:Hp) (s:Shared) (ea:Addr) (cls:Value) (od:Option Addr) (h':Heap) (tk:Nat),Inv X pins σ H s->(∀ b o,s.heap.get? b=some o->h'.get? b=some o)->s.heap.get? ea=none->jm h' ea cls od .none->E cls od H ->
 X.xe (.ref ea) { s with heap:=h',toks:=tk }
section
variable {P:Program} {w:World} {K:PySem.W.Frag} {mg:Str->Option Value} {base:Heap} {N:List Str} {qual:Str} {scope:Scope} {f:Addr} {cd:Value} {A:Around} {outer:List Env} {s:Shared} {H:Hp} {E:XK}
theorem wd:Ht (l9 (CXe P w) P w K mg base N qual scope f cd A outer s H E) E:=by
 intro pins σ H1 s1 ea cls od h' tk I kp nw er q;have J:=I.kept (t':=tk) kp;refine GN (base:=base) J.ok.frames J.stack rfl er fun h2 T' er' k nT=>?_;have fr:∀ b∈frs (envOfC qual scope s.heap.objs.size f cd::outer),H1 b=none:=J.stkFree;refine ⟨ea,T',cls,od,H1,rfl,J.os,J.bare,BR J k ?_,xi J.hok k fr ?_,Ds I.hok nw,Ds J.hok nT,lg I nw,lg J nT,er',q⟩
 . intro b hb;rw [List.mem_singleton.mp hb];exact lg I nw
 . intro b hb;rw [List.mem_singleton.mp hb];exact Ds I.hok nw
end
end L2
set_option Elab.async false
set_option linter.all false
set_option maxRecDepth 100000
namespace L2
open PySem PySem.Spec PyProof.Rows
def ze (K:PySem.W.Frag) (C:Addr):Prop:=∃ (nm qn:Str) (N:Addr) (bs bm:List Value) (hdct:Bool) (sn:List Str) (sub:List Value) (ab:Bool) (col:Option Bool) (dd:Option Addr) (k0 k1 k2 k3 k5:Option Value),
   K.lookup C=some (excClassObj nm qn C N bs bm hdct sn sub ab col dd k0 k1 k2 k3 k5 "ValueError.__new__")/\PySem.W.nsOkIn K N=true/\PySem.W.nsIn K N "__init__"=some none/\PySem.W.tailIn K bmV bm=true
theorem wa {K:PySem.W.Frag} {C:Addr} {o:Obj} (nm qn:Str) (N:Addr) (bs bm:List Value) (hdct:Bool) (sn:List Str) (sub:List Value) (ab:Bool) (col:Option Bool) (dd:Option Addr) (k0 k1 k2 k3 k5:Option Value) (l:K.lookup C=some o)
   (e:o=excClassObj nm qn C N bs bm hdct sn sub ab col dd k0 k1 k2 k3 k5 "ValueError.__new__") (a:PySem.W.nsOkIn K N=true) (b:PySem.W.nsIn K N "__init__"=some none) (c:PySem.W.tailIn K bmV bm=true):ze K C:=by
 subst e;exact ⟨_,_,_,_,_,_,_,_,_,_,_,_,_,_,_,_,l,a,b,c⟩
def GK (C:Addr) (E:XK) (t:TA):TS:=fun _ σ H=>t σ H fun vs H1=>vs.length<=sizeLine/\E (.ref C) none H1
section
variable {X:Cx} {x:Str} {np cpos pos:Pos} {e0:Expr} {es:List Expr} {t:TA} {C:Addr} {E:XK}
theorem rP (q:ze X.K C) (hc:X.calm=true) (hR:Ht X E) (hg:Gl X x) (hm:X.mg x=some (.ref C)) (ha:PA X (e0::es) t) (hdb:(x == ("__debug__":Str))=false:=by decide)
   (he:starEach (e0::es) X.env=(false,eval e0 X.env)::starEach es X.env:=by rfl) (hpl:(backTo cpos (starEach es X.env)).any (·.1)=false:=by rfl):PS X (.Raise (some (.Call (.Name x np) (e0::es) [] cpos)) none pos) (GK C E t):=by
 intro pins s σ H D I h;obtain ⟨nm,qn,N,bs,bm,hdct,sn,sub,ab,col,dd,k0,k1,k2,k3,k5,ho,z5,z6,z4⟩:=q;have B:=I.mod.kin;have T0:=PySem.W.tail_of_in B z4;have N0:X.base.Ns N (X.base.nsMap N):=.of_isNs (PySem.W.isNs_of_in B z5);have hp:(backTo cpos (starEach (e0::es) X.env)).any (·.1)=false:=by
   rw [he];show (false || (backTo cpos (starEach es X.env)).any (·.1))=false;rw [hpl]
   rfl
 refine wpAny_Raise_call_subT (C:=C) (nm:=nm) (q:=qn) (N:=N) (bs:=bs) (bm:=bm) (hdct:=hdct) (sn:=sn) (sub:=sub) (ab:=ab) (col:=col) (dd:=dd) (k0:=k0) (k1:=k1) (k2:=k2) (k3:=k3) (k5:=k5) PySem.F.excBase_ValueError
   (T0.hasType (by decide +kernel)) (I.ok.hd hc) hp (PySem.W.nsMap_none_of_in B z5 z6) (mK I hg hm ⟨rfl,?_⟩ hdb)
 have g:=ha cpos pins s σ H _ I h;rw [he] at g ⊢;refine Calls.evalArgs_plain (thn g fun us s1 ⟨vs,H1,I1,r1,q1⟩=>⟨rfl,by show us.length<=_;rw [<- r1.length];exact q1.1,I1.bk _ _ (B _ _ ho),N0.keeps I1.bk,T0.keeps I1.bk,fun h' ea m=>?_⟩);obtain ⟨tt,m1,_,_⟩:=m.there;exact hR pins σ H1 s1 ea (.ref C) none h' s1.toks I1 m.keeps m.new ⟨_,_,m1,rfl,rfl,rfl,rfl,rfl⟩ q1.2
end
def XP (CX:CXT) (X:Cx) (pins:List (Addr × Obj)) (σ:St) (E:XK) (e:Value) (s':Shared):Prop:=∃ H s,Inv X pins σ H s/\CX X.stack H s E e s'
def PEx (CX:CXT) (X:Cx) (e:Expr) (t:XK->TE):Prop :=
 ∀ (E:XK) (pins:List (Addr × Obj)) (s:Shared) (σ:St) (H:Hp) (Q:VK),Inv X pins σ H s->t E σ H Q->wpAny (model X.prog X.w) X.A (eval e X.env) (EP X pins σ Q) (XP CX X pins σ E) s
abbrev XS (CX:CXT) (X:Cx) (pins:List (Addr × Obj)) (EK:St->XK) (e:Value) (s':Shared):Prop:=∃ σ,XP CX X pins σ (EK σ) e s'
def PSx (CX:CXT) (X:Cx) (st:Stmt) (t:(St->XK)->TS):Prop :=
 ∀ (EK:St->XK) (pins:List (Addr × Obj)) (s:Shared) (σ:St) (H:Hp) (D:Ends),Inv X pins σ H s->t EK D σ H->wpAny (model X.prog X.w) X.A (exec st X.env) (SP X pins D) (XS CX X pins EK) s
def Fd (CX:CXT) (X:Cx) (st:List Stmt) (t:(St->XK)->TS):Prop :=
 ∀ (EK:St->XK) (pins:List (Addr × Obj)) (s:Shared) (σ:St) (H:Hp) (D:Ends),Inv X pins σ H s->t EK D σ H->wpAny (model X.prog X.w) X.A (execs st X.env) (SP X pins D) (XS CX X pins EK) s
section
variable {CX:CXT} {X:Cx} {k:Nat} {f C:Addr} {fd:FuncData} {ps:List Str} {sp:Sp} {dvs:List V} {ds:List Value} {x:Str} {p pos:Pos} {e:Expr} {es:List Expr} {te:TE} {t:TA} {st:Stmt} {sts:List Stmt} {ts:TS} {tx ux:(St->XK)->TS} {ex:XK->TE}
theorem wK (F:FnOk X.prog X.w X.K X.mg X.base CX k f fd ps sp) (hr:Room k X.A) (hg:Gl X x) (hm:X.mg x=some (.ref f)) (hk:PySem.W.keepIn X.K (.ref f)=true) (hb:Binds X.K fd ps ds) (hd:Vals dvs ds)
   (ha:PA X.nox (e::es) t) (hdb:(x == ("__debug__":Str))=false:=by decide) (he:starEach (e::es) X.env=(false,eval e X.env)::starEach es X.env:=by rfl) (hpl:(backTo pos (starEach es X.env)).any (·.1)=false:=by rfl) :
   PEx CX X (.Call (.Name x p) (e::es) [] pos) (fun E=>Bz sp dvs E t):=by
 intro E pins s σ H Q I h;refine wpAny_Call_Name_kw (mK I hg hm ?_ hdb);refine PySem.W.callWith_K (h₀:=X.base) I.ok.mod.kin hk (wpAny_mono (ha pos pins s σ H _ (I.wish _) h) (fun us s1 ⟨vs,H1,I1,r,q⟩=>⟨I1.unwish.kIn,?_⟩) fun _ _ z=>False.elim z) he hpl;have J:=I1.unwish;have r2:Vals (vs++dvs) (us++ds):=r.append hd;have hl:(us++ds).length=ps.length:=by rw [<- r2.length];exact F.len _ _ _ _ q
 refine wpAny_call (codeAny_mono (F.run X.A X.stack s1 H1 ⟨us,[]⟩ (us++ds) (vs++dvs) Q E hr J.env0 (hb s1 us J.kIn hl) r2 q) fun r s' hq=>?_);cases r with
 | error e=>exact ⟨H1,s1,J,hq⟩
 | ok fl =>
   cases fl with
   | ret u=>exact J.after hq
   | next=>exact False.elim hq
   | brk=>exact False.elim hq
   | cont=>exact False.elim hq
theorem xA (he:PEx CX X e ex) (hs:swapsWith e none pos.line X.env=pure false:=by rfl):PSx CX X (.Expr e pos) (fun EK D σ H=>ex (EK σ) σ H fun _ H1=>D.nx σ H1):=by
 intro EK pins s σ H D I h;exact wpAny_Expr_any (wpAny_mono (he (EK σ) pins s σ H _ I h) (fun v s1 ⟨x,H1,I1,r1,q1⟩=>⟨σ,H1,I1,q1⟩) fun e s' z=>⟨σ,z⟩) I.quiet hs
theorem Hi {c:Expr} {a b:List Stmt} {tc:TT} (hc:PT X.nox c tc) (ha:Fd CX X a tx) (hb:Fd CX X b ux):PSx CX X (.If c a b pos) (fun EK=>FO tc (tx EK) (ux EK)):=by
 intro EK pins s σ H D I h;refine wpAny_If (wpAny_mono (hc pins s σ H _ (I.wish _) h) (fun d s1 ⟨H1,I1,q1⟩=>?_) fun _ _ z=>False.elim z);cases d with
 | true=>exact ha EK pins s1 σ H1 D I1.unwish q1
 | false=>exact hb EK pins s1 σ H1 D I1.unwish q1
theorem oj (h1:PSx CX X st tx):Fd CX X [st] tx:=by
 intro EK pins s σ H D I h;refine wpAny_execs_cons (thn (h1 EK pins s σ H D I h) fun f s1 q=>?_);cases f with
 | next=>exact wpAny_execs_nil q
 | ret v=>exact q
 | brk=>exact q
 | cont=>exact q
end
end L2
set_option Elab.async false
set_option linter.all false
set_option maxRecDepth 100000
namespace L2
open PySem PySem.Spec PyProof.Rows
abbrev Cx.held (X:Cx) (e:Value):Cx:={ X with A:=X.A.mark (some e),calm:=false }
theorem Cx.Ok.held {X:Cx} (ok:X.Ok) (e:Value):(X.held e).Ok :=
 ⟨ok.mod,ok.kind,ok.glob,ok.blt,ok.above,ok.inj,ok.has,ok.cab,(fun z=>nomatch z),ok.frames,ok.stk,ok.exf,ok.bs,ok.bsz,ok.noex,ok.exfs,ok.funs,ok.frf⟩
theorem Cx.Ok.unheld {X:Cx} {e:Value} (ok:(X.held e).Ok) (hd:X.calm=true->X.A.handled=none):X.Ok :=
 ⟨ok.mod,ok.kind,ok.glob,ok.blt,ok.above,ok.inj,ok.has,ok.cab,hd,ok.frames,ok.stk,ok.exf,ok.bs,ok.bsz,ok.noex,ok.exfs,ok.funs,ok.frf⟩
section
variable {X:Cx} {pins:List (Addr × Obj)} {σ:St} {H:Hp} {s:Shared}
theorem Inv.held (I:Inv X pins σ H s) (e:Value):Inv (X.held e) pins σ H s:=⟨I.ok.held e,I.os,I.bare,I.base,I.loc,I.cell,I.free,I.freeC,I.pin,I.hok,I.len⟩
theorem Inv.unheld {e:Value} (I:Inv (X.held e) pins σ H s) (hd:X.calm=true->X.A.handled=none):Inv X pins σ H s:=⟨I.ok.unheld hd,I.os,I.bare,I.base,I.loc,I.cell,I.free,I.freeC,I.pin,I.hok,I.len⟩
theorem Inv.moved {xs:List Addr} {h':Heap} {tk:Nat} (I:Inv X pins σ H s) (k:Kept (frs X.stack) xs s.heap h') (nx:∀ b∈xs,H b=none/\X.s₀.heap.get? b=none/\b≠X.env.locals/\(∀ x c,X.env.cells.lookup x=some c->c≠b)/\∀ p∈X.pn++pins,p.1≠b) :
   Inv X pins σ H { s with heap:=h',toks:=tk }:=by
 have old:∀ b o,X.s₀.heap.get? b=some o->b ∉ xs:=fun b o e z=>by rw [(nx b z).2.1] at e;cases e
 have nel:∀ b o,X.s₀.heap.get? b=some o->b≠X.env.locals:=fun b o e z=>absurd (Nat.lt_of_lt_of_le (Heap.lt_size e) I.ok.above) (by rw [z];exact Nat.lt_irrefl _);have out:∀ b,b≠X.env.locals->b ∉ X.fs->b ∉ frs X.stack:=fun b h1 h2 z=>(List.mem_cons.mp (I.stkSub b z)).elim h1 h2;have any:∀ b o,s.heap.get? b=some o->b ∉ xs->∃ sl,h'.get? b=some { o with slots:=sl }:=fun b o e z=>by
   by_cases f:b∈frs X.stack
   . exact k.slot b o e f z
   . exact ⟨o.slots,k.keep b o e f z⟩
 have cells:∀ x c v,X.env.cells.lookup x=some c->s.heap.IsCell c v->h'.IsCell c v:=fun x c v e ⟨o,ho,hd⟩=>by
   obtain ⟨sl,q⟩:=any c o ho fun z=>(nx c z).2.2.2.1 x c e rfl;exact ⟨_,q,hd⟩
 refine ⟨I.ok,I.os,I.bare,⟨fun b o e n hf hx=>?_,fun b o e n hf hx=>?_,I.base.free,fun b o e hx=>?_,I.base.tups,I.base.frzs,I.base.tbls⟩,?_,fun x c e=>?_,I.free,I.freeC,fun p hp=>?_,xi I.hok k I.stkFree fun b hb=>(nx b hb).1,I.len⟩
 . exact k.keep b o (I.base.keep b o e n hf hx) (out b (nel b o e) hf) (old b o e)
 . obtain ⟨sl,e1⟩:=I.base.slot b o e n hf hx;obtain ⟨s2,e2⟩:=any b _ e1 (old b o e);exact ⟨s2,e2⟩
 . obtain ⟨o1,e1⟩:=I.base.there b o e hx;exact k.there b o1 e1
 . obtain ⟨m,⟨o,es,ep,ho,r⟩,l⟩:=I.loc;obtain ⟨sl,e1⟩:=any _ o ho fun z=>(nx _ z).2.2.1 rfl;refine ⟨m,⟨_,es,ep,e1,r⟩,fun i x v h1 h2 h3=>?_⟩;obtain ⟨u,r1,l1⟩:=l i x v h1 h2 h3;refine ⟨u,r1,?_⟩;rcases l1 with l1|⟨k1,c,e,z⟩
   . exact .inl l1
   . exact .inr ⟨k1,c,e,cells x c _ e z⟩
 . obtain ⟨v,z⟩:=I.cell x c e;exact ⟨v,cells x c v e z⟩
 . obtain ⟨e,n,ne,nf,d⟩:=I.pin p hp;exact ⟨k.keep p.1 p.2 e (out p.1 ne nf) fun z=>(nx p.1 z).2.2.2.2 p hp rfl,n,ne,nf,d⟩
theorem Inv.young (I:Inv X pins σ H s) {b:Addr} (n:s.heap.get? b=none):X.s₀.heap.get? b=none\/b∈X.ex:=by
 by_cases z:b∈X.ex
 . exact .inr z
 . refine .inl ?_;cases q:X.s₀.heap.get? b with
   | none=>rfl
   | some o =>
     obtain ⟨o',e⟩:=I.base.there b o q z;rw [n] at e;cases e
theorem Inv.apart (I:Inv X pins σ H s) {b:Addr} (n:s.heap.get? b=none):b≠X.env.locals/\(∀ x c,X.env.cells.lookup x=some c->c≠b)/\∀ p∈X.pn++pins,p.1≠b:=by
 refine ⟨?_,fun x c e z=>?_,fun p hp z=>?_⟩
 . rintro rfl;obtain ⟨m,⟨o,es,ep,ho,r⟩,_⟩:=I.loc;rw [n] at ho;cases ho
 . obtain ⟨v,o,ho,hd⟩:=I.cell x c e;rw [z,n] at ho;cases ho
 . obtain ⟨e,_⟩:=I.pin p hp;rw [z,n] at e;cases e
end
section
variable {K:PySem.W.Frag} {C C':Addr} {x:Addr} {ox:Obj} {od:Option Obj} {M:Model} {A:Around} {E:Value->Shared->Prop} {s:Shared} {b:Bool} {Q:Bool->Shared->Prop}
theorem DZ (X:K.In s.heap) (hx:∃ o,s.heap.get? x=some o/\o.cls=.ref C) (c':XCls K C') (m:PySem.W.mroIn K C (.ref C')=some b) (h:Q b s):wpAny M A (excMatches (.ref x) (.ref C')) Q E s:=by
 obtain ⟨o,ho,hc⟩:=hx;obtain ⟨hh,g,dr,t,os⟩:=s;have L0:PySem.W.Looks M hh (typeOf (.ref x)) (.ref C):=hc ▸ (PySem.W.Looks.ld ho).andThen .now;have L1:=PySem.W.looks_mroIn (M:=M) X m;have L2:=PySem.W.looks_mroIn (M:=M) X c'.mb;have L3:=PySem.W.looks_typeIn (M:=M) X c'.ty;have L4:PySem.W.Looks M hh (isSubtype (.type "type") (.type "tuple")) false:=.of_pure tc_notTuple;obtain ⟨cd,e,_⟩:=PySem.W.any_some c'.hd;have L5:PySem.W.Looks M hh (isType (.ref C')) true:=by
   unfold PySem.W.clsIn at e;split at e
   . rename_i ho'
     intro A' Q' E' s' k q;unfold isType loadHead;exact wpAny_bind (wpAny_loadPart (k _ _ (X _ _ ho')) (wpAny_pure q))
   . cases e
 unfold excMatches isInstance isExcClass;cases b
 all_goals
   repeat lk
   exact h
end
end L2
set_option Elab.async false
set_option linter.all false
set_option maxRecDepth 100000
namespace L2
open PySem PySem.Spec PyProof.Rows
def ExO (ea:Addr) (cls:Value) (od:Option Addr):HO:=.ext fun h=>∃ oe vs,h.get? ea=some oe/\oe.cls=cls/\oe.dict=od/\oe.data=.fields vs/\vs[2]?=some .none
structure Loose (X:Cx) (pins:List (Addr × Obj)) (H:Hp) (b:Addr):Prop where
 un:H b=none
 new:X.s₀.heap.get? b=none
 loc:b≠X.env.locals
 cel:∀ x c,X.env.cells.lookup x=some c->c≠b
 pin:∀ p∈X.pn++pins,p.1≠b
theorem Loose.all {X:Cx} {pins:List (Addr × Obj)} {H:Hp} {b:Addr} (l:Loose X pins H b):H b=none/\X.s₀.heap.get? b=none/\b≠X.env.locals/\(∀ x c,X.env.cells.lookup x=some c->c≠b)/\∀ p∈X.pn++pins,p.1≠b:=⟨l.un,l.new,l.loc,l.cel,l.pin⟩
section
variable {X:Cx} {pins:List (Addr × Obj)} {σ:St} {H:Hp} {s:Shared}
theorem Inv.trackX {ea:Addr} {cls hd:Value} {od:Option Addr} (I:Inv X pins σ H s) (l:Loose X pins H ea) (e:jm s.heap ea cls od hd):Inv X pins σ (upd H ea (ExO ea cls od)) s:=by
 obtain ⟨oe,vs,h1,h2,h3,h4,h5,h6⟩:=e;have ne:∀ b,b≠ea->upd H ea (ExO ea cls od) b=H b:=fun b z=>ar z;have nt:∀ b u,H b=some u->upd H ea (ExO ea cls od) b=some u:=fun b u z=>by rw [ne b (bh z l.un)];exact z
 refine ⟨I.ok,I.os,I.bare,⟨I.base.keep,I.base.slot,fun b o q n x=>?_,I.base.there,fun b xs q=>nt _ _ (I.base.tups b xs q),fun b o u q=>nt _ _ (I.base.frzs b o u q),fun b ps q=>?_⟩,I.loc,I.cell,?_,fun x c q=>?_,fun p hp=>?_,?_,I.len⟩
 . rw [ne b (by rintro rfl;rw [l.new] at q;cases q)];exact I.base.free b o q n x
 . obtain ⟨more,z⟩:=I.base.tbls b ps q;exact ⟨more,nt _ _ z⟩
 . rw [ne _ (Ne.symm l.loc)];exact I.free
 . rw [ne _ (l.cel x c q)];exact I.freeC x c q
 . obtain ⟨z1,z2,z3,z4,z5⟩:=I.pin p hp;exact ⟨z1,by rw [ne _ (l.pin p hp)];exact z2,z3,z4,z5⟩
 . intro b u q;by_cases z:b=ea
   . subst z;rw [ah] at q;cases q;refine ⟨⟨oe,vs,h1,h2,h3,h4,h6⟩,⟨oe,h1⟩,?_⟩;rintro g1 g2 ⟨o,v,a1,a2⟩ kk;exact ⟨o,v,kk _ a1,a2⟩
   . rw [ne b z] at q;exact (I.hok b u q).stay (fun _ _ _ r=>r) (fun c r=>nt _ _ r) fun c xs r=>nt _ _ r
theorem oW {M:Model} {A:Around} {E:Value->Shared->Prop} {n:Str} {i:Nat} {pos:Pos} {Q:Unit->Shared->Prop} (I:Inv X pins σ H s) (hN:X.N.Nodup) (hi:X.N[i]?=some n) (hl:X.env.scope.names.lookup n=some .local)
   (h:∀ s',Inv X pins (σ.set i none) H s'->Q () s'):wpAny M A (do bindName X.env n .none;unbindBehindTheSuite X.env n pos) Q E s:=by
 have hcls:(X.env.scope.kind == .class || (X.env.scope.kind == .module && X.env.locals != X.env.globals))=false:=by rw [I.ok.kind];rfl
 have hiσ:i<σ.length:=by rw [I.len];exact (List.getElem?_eq_some_iff.mp hi).1
 refine wpAny_bind (wpAny_bindName (rH (v:=V.non) I hN hi (.inl hl) rfl (fun s1 I1=>?_) (.inr hl)));obtain ⟨m,hn,l⟩:=id I1.loc;have hv:m n=some Value.none:=by
   obtain ⟨u,r,q⟩:=l i n .non hi (by rw [List.getElem?_set_self hiσ]) (.inl hl);cases (show u=Value.none from r);rcases q with ⟨_,q⟩|⟨q,_⟩
   . exact q
   . rcases q with q|q <;> (have z:X.env.scope.names.lookup n=_:=q;rw [hl] at z;cases z)
 unfold unbindBehindTheSuite;refine wpAny_onRaise (wpAny_unbindName_local hl hn hv hcls fun h' u hn' hs=>h _ ?_);have cne:=I1.cne;have far:∀ b o,X.s₀.heap.get? b=some o->b≠X.env.locals:=fun b o e=>Nat.ne_of_lt (Nat.lt_of_lt_of_le (Heap.lt_size e) I1.ok.above);have at_:∀ b,b≠X.env.locals->h'.get? b=s1.heap.get? b:=fun b z=>hs.2 b z;refine ⟨I1.ok,I1.os,I1.bare,⟨fun b o e n hb hx=>?_,fun b o e n hb hx=>?_,I1.base.free,fun b o e hx=>?_,I1.base.tups,I1.base.frzs,I1.base.tbls⟩,⟨_,hn',fun j y v e1 e2 e3=>?_⟩,fun y c e=>?_,I1.free,I1.freeC,fun p hp=>?_,fun b ob e=>?_,by simpa using I.len⟩
 . exact (at_ b (far b o e)).trans (I1.base.keep b o e n hb hx)
 . obtain ⟨sl,q⟩:=I1.base.slot b o e n hb hx;exact ⟨sl,(at_ b (far b o e)).trans q⟩
 . obtain ⟨o',q⟩:=I1.base.there b o e hx;exact ⟨o',(at_ b (far b o e)).trans q⟩
 . by_cases hj:j=i
   . subst hj;rw [List.getElem?_set_self hiσ] at e2;cases e2
   . have hy:y≠n:=fun z=>hj (xp hN e1 (z ▸ hi));rw [List.getElem?_set_ne (Ne.symm hj)] at e2;obtain ⟨u',r',q⟩:=l j y v e1 (by rw [List.getElem?_set_ne (Ne.symm hj)];exact e2) e3;refine ⟨u',r',?_⟩;rcases q with ⟨k,z⟩|⟨k,c,z1,z2⟩
     . exact .inl ⟨k,by simp [hy,z]⟩
     . exact .inr ⟨k,c,z1,z2.sameBut hs (cne y c z1)⟩
 . obtain ⟨v,z⟩:=I1.cell y c e;exact ⟨v,z.sameBut hs (cne y c e)⟩
 . obtain ⟨z1,z2,z3,z4,z5⟩:=I1.pin p hp;exact ⟨(at_ p.1 z3).trans z1,z2,z3,z4,z5⟩
 . refine (I1.hok b ob e).stay (fun c w hc q=>(at_ c ?_).trans q) (fun _ q=>q) fun _ _ q=>q;rintro rfl;rcases hc with rfl|hc
   . rw [I1.free] at e;cases e
   . rw [I1.free] at hc;cases hc
end
abbrev TH:=Ends->St->Value->Option Addr->Hp->Prop
def PHs (X:Cx) (hs:List ExceptHandler) (th:TH):Prop:=∀ (pins:List (Addr × Obj)) (s:Shared) (σ:St) (H:Hp) (D:Ends) (ea T:Addr) (cls:Value) (od:Option Addr),Inv X pins σ H s->Err s.heap ea T cls od .none->Loose X pins H ea->Loose X pins H T ->
 th D σ cls od H->wpAny (model X.prog X.w) X.A (handleBy (.ref ea) X.env hs) (SP X pins D) X.xe s
def Ends.less (D:Ends) (i:Nat):Ends:={ nx:=fun σ H=>D.nx (σ.set i none) H,rt:=D.rt,bk:=fun σ H=>D.bk (σ.set i none) H,ct:=fun σ H=>D.ct (σ.set i none) H }
def LN (K:PySem.W.Frag) (C':Addr) (i:Nat) (ts:TS) (tr:TH):TH:=fun D σ cls od H=>∃ C b,cls=.ref C/\PySem.W.mroIn K C (.ref C')=some b /\
 if b=true then ∀ ea,H ea=none->ts (D.less i) (σ.set i (some (.ref ea))) (upd H ea (ExO ea cls od)) else tr D σ cls od H
def tNoHand:TH:=fun _ _ _ _ _=>False
section
variable {X:Cx} {x n:Str} {np pos:Pos} {i:Nat} {C':Addr} {b0:Stmt} {suite:List Stmt} {jG:List ExceptHandler} {ts:TS} {tr:TH}
theorem M5:PHs X [] tNoHand:=fun _ _ _ _ _ _ _ _ _ _ _ _ _ h=>h.elim
theorem OG (c':XCls X.K C') (hg:Gl X x) (hm:X.mg x=some (.ref C')) (hN:X.N.Nodup) (hi:X.N[i]?=some n) (hl:X.env.scope.names.lookup n=some .local) (hb:∀ e,PSs (X.held e).nox (b0::suite) ts) (hr:PHs X jG tr) (hdb:(x == ("__debug__":Str))=false:=by decide) :
   PHs X (.ExceptHandler (some (.Name x np)) (some n) (b0::suite) pos::jG) (LN X.K C' i ts tr):=by
 intro pins s σ H D ea T cls od I er le lt h;obtain ⟨C,b,rfl,m,q⟩:=h;refine wpAny_handleBy_cons (codeAny_handlers_test (mK (X:=X.held (.ref ea)) (I.held _) hg hm ?_ hdb)) (by intro z;cases z);obtain ⟨oe,vs,h1,h2,h3,h4,h5,h6⟩:=id er.e;refine DZ I.kIn ⟨oe,h1,h2⟩ c' m ?_;cases b with
 | false=>exact hr pins s σ H D ea T _ od I er le lt (by simpa using q)
 | true =>
   rw [if_pos rfl] at q;refine codeAny_handlers_suite_as (vQ (fs:=frs X.stack) er fun h' er' k=>?_);have I1:Inv X pins σ H { s with heap:=h' }:=I.moved (tk:=s.toks) k fun b hb=>by rw [List.mem_singleton.mp hb];exact lt.all
   have I2:=(I1.trackX le er'.e).held (.ref ea);refine rH (X:=X.held (.ref ea)) (v:=V.ref ea) I2 hN hi (.inl hl) rfl (fun s2 I3=>?_) (.inr hl);refine wpAny_mono (hb (.ref ea) pins s2 _ _ _ (I3.wish _) (q ea le.un)) (fun f s3 z=>?_) fun _ _ z=>False.elim z;have back:∀ {σ':St} {H':Hp},Inv (X.held (.ref ea)).nox pins σ' H' s3->Inv X pins σ' H' s3:=fun J=>J.unwish.unheld I.ok.hd;dsimp only;cases f with
   | next =>
     obtain ⟨σ',H',J,z⟩:=z;exact oW (back J) hN hi hl fun s4 J4=>⟨_,H',J4,z⟩
   | brk =>
     obtain ⟨σ',H',J,z⟩:=z;exact oW (back J) hN hi hl fun s4 J4=>⟨_,H',J4,z⟩
   | cont =>
     obtain ⟨σ',H',J,z⟩:=z;exact oW (back J) hN hi hl fun s4 J4=>⟨_,H',J4,z⟩
   | ret u =>
     obtain ⟨v,σ',H',J,rv,z⟩:=z;exact oW (back J) hN hi hl fun s4 J4=>⟨v,_,H',J4,rv,z⟩
def NP (tb:(St->XK)->TS) (th:TH):TS:=fun D σ H=>tb (fun σ' cls od H'=>th D σ' cls od H') D σ H
theorem Ol {body:List Stmt} {h0:ExceptHandler} {hs:List ExceptHandler} {tb:(St->XK)->TS} {th:TH} (hx:X.ex=[]) (hst:X.stack=X.env::X.outer) (hf:X.env.frame=some X.env.locals) (hb:Fd (CXe X.prog X.w) X body tb) (hh:PHs X (h0::hs) th) :
   PS X (.Try body (h0::hs) [] [] pos) (NP tb th):=by
 intro pins s σ H D I h;refine wpAny_Try_except (wpAny_mono (hb _ pins s σ H D I h) (fun f s1 q=>?_) fun e s' z=>?_)
 . cases f with
   | next=>exact wpAny_execs_nil q
   | ret v=>exact q
   | brk=>exact q
   | cont=>exact q
 . obtain ⟨σ1,H1,s1,I1,ea,T,cls,od,H',rfl,os,bare,un,hok,n1,n2,f1,f2,er,q⟩:=z;have J:=I1.call' (ch:=[]) os un hok bare (by simp);have fresh:∀ b,s1.heap.get? b=none->H' b=none->Loose X pins H' b:=fun b z u=>by
     obtain ⟨a1,a2,a3⟩:=I1.apart z;refine ⟨u,?_,a1,a2,a3⟩;rcases I1.young z with y|y
     . exact y
     . rw [hx] at y;cases y
   have le:=fresh ea f1 n1;have lt:=fresh T f2 n2;have fr:=J.ok.frames;have st:=J.stack;rw [hst] at fr st;refine ER fr st hf er fun h2 T2 er2 k2 nT2=>?_;rw [<- hst] at k2;have J2:Inv X pins σ1 H' { s' with heap:=h2 }:=J.moved (tk:=s'.toks) k2 fun b hb=>by
     simp only [List.mem_cons,List.not_mem_nil,or_false] at hb;rcases hb with rfl|rfl
     . exact le.all
     . exact lt.all
   have lt2:Loose X pins H' T2:=by
     obtain ⟨a1,a2,a3⟩:=J.apart nT2;refine ⟨Ds hok nT2,?_,a1,a2,a3⟩;rcases J.young nT2 with y|y
     . exact y
     . rw [hx] at y;cases y
   refine vQ (fs:=frs X.stack) (s:={ s' with heap:=h2 }) er2 fun h3 er3 k3=>?_;have J3:Inv X pins σ1 H' { s' with heap:=h3 }:=J2.moved (tk:=s'.toks) k3 fun b hb=>by rw [List.mem_singleton.mp hb];exact lt2.all
   exact hh pins _ σ1 H' D ea T2 cls od J3 er3 le lt2 q
end
end L2
set_option Elab.async false
set_option linter.all false
set_option maxRecDepth 100000
namespace L2
open PySem PySem.Spec PyProof.Rows
section
variable {P:Program} {w:World} {K:PySem.W.Frag} {mg:Str->Option Value} {base:Heap}
end
section
variable {X:Cx} {k:Nat} {f:Addr} {fd:FuncData} {ps:List Str} {sp:Sp} {x:Str} {p pos:Pos} {e:Expr} {es:List Expr} {t:TA}
end
def Fj (K:PySem.W.Frag) (C:Addr):V->Bool->Prop
 | .ref C',b=>XCls K C'/\PySem.W.mroIn K C (.ref C')=some b
 | .ty T,b=>PySem.W.kitMeta T=true/\PySem.W.mroIn K C (.type T)=some b
 | _,_=>False
def ye (H:Hp):Option Addr->Prop
 | none=>True
 | some d=>∃ fs,H d=some (.xd fs)
def iU (K:PySem.W.Frag):List V->Hp->VK->Prop:=fun xs H Q=>∃ ea C od cv b,xs=[.ref ea,cv]/\H ea=some (ExO ea (.ref C) od)/\ye H od/\XCls K C/\Fj K C cv b/\Q (.bl b) H
theorem zU {K:PySem.W.Frag} {C:Addr} {cv:V} {u:Value} {b:Bool} (c:XCls K C) (r:RelV cv u) (h:Fj K C cv b):PySem.W.kitOne K (.ref C) u=some b:=by
 unfold PySem.W.kitOne;cases cv with
 | ref C' =>
   cases (show u=Value.ref C' from r);obtain ⟨c',m⟩:=h;by_cases z:C=C'
   . subst z;rw [c.sf] at m;cases m;simp
   . have:(Value.ref C == Value.ref C')=false:=(by simpa using z);rw [this];simp only [Bool.false_eq_true,if_false];unfold PySem.W.kitCls;have q:((PySem.W.clsIn K C').isSome && PySem.W.typeIn K (.ref C') == some (.type "type"))=true:=by
       obtain ⟨cd,e,_⟩:=PySem.W.any_some c'.hd;rw [e,c'.ty];simp
     simp only [q,if_true];exact m
 | ty T =>
   cases (show u=Value.type T from r);obtain ⟨c',m⟩:=h;have:(Value.ref C == Value.type T)=false:=by simp
   rw [this];simp only [Bool.false_eq_true,if_false];unfold PySem.W.kitCls;simp only [c',if_true];exact m
 | non=>exact h.elim
 | bl=>exact h.elim
 | int=>exact h.elim
 | str=>exact h.elim
 | byt=>exact h.elim
 | flt=>exact h.elim
section
variable {X:Cx}
theorem B4 {pins:List (Addr × Obj)} {σ:St} {H:Hp} {s:Shared} {ea C:Addr} {od:Option Addr} (I:Inv X pins σ H s) (h:H ea=some (ExO ea (.ref C) od)) (d:ye H od):∃ ox oo,PySem.W.InstAt s.heap ea ox C oo:=by
 obtain ⟨⟨oe,vs,h1,h2,h3,h4,_⟩,_⟩:=(show ObjOk X.prog X.w H s.heap ea (ExO ea (.ref C) od) from I.hok ea _ h);have nc:PySem.W.notCls oe=true:=by unfold PySem.W.notCls;rw [h4]
 cases od with
 | none=>exact ⟨oe,none,h1,h2,nc,by rw [h3];trivial⟩
 | some dx =>
   obtain ⟨fs,hd⟩:=d;obtain ⟨mA,⟨o,es,ep,e,_⟩,_⟩:=(show ObjOk X.prog X.w H s.heap dx (.xd fs) from I.hok dx _ hd);exact ⟨oe,some o,h1,h2,nc,by rw [h3];exact e⟩
theorem Im:fD X (.builtin "isinstance") (iU X.K):=by
 intro pins s σ H xs us Q I r h;obtain ⟨ea,C,od,cv,b,rfl,he,hd,c,hk,q⟩:=h;obtain ⟨u,cu,rfl,ru,rc⟩:=xX r;cases (show u=Value.ref ea from ru);obtain ⟨ox,oo,ia⟩:=B4 I he hd;exact PySem.W.kia_one (Cv (x:=ea) (ox:=ox) (od:=oo) c) I.kIn ia (zU c rc hk) (fun z=>nomatch z) fun tk=>⟨.bl b,H,I.tok tk,rfl,q⟩
end
def pA (cells:List (Str × Addr)):List (Str × NameKind)->List (Str × Addr)->List (Str × Addr)
 | [],acc=>acc
 | (n,k)::r,acc=>if k == .free then pA cells r ((n,(cells.lookup n).getD 0)::acc) else pA cells r acc
theorem FB {scope:Scope} {env:Env} (h:∀ y∈scope.names,y.2=.free->(env.cells.lookup y.1).isSome=true):closureFor scope env=pure (pA env.cells scope.names []):=by
 have key:∀ (l:List (Str × NameKind)) (acc:List (Str × Addr)),(∀ y∈l,y.2=.free->(env.cells.lookup y.1).isSome=true) ->
     (forIn l acc fun (y:Str × NameKind) (c:List (Str × Addr))=>(if y.2 == NameKind.free then do let a <- cellOf env y.1;pure (ForInStep.yield ((y.1,a)::c)) else pure (ForInStep.yield c):Sem (ForInStep (List (Str × Addr)))))=(pure (pA env.cells l acc):Sem (List (Str × Addr))):=by
   intro l
   induction l with
   | nil=>intro acc _;rfl
   | cons y l ih =>
     obtain ⟨n,k⟩:=y;intro acc hh;have h1:=hh (n,k) List.mem_cons_self;have h2:∀ y∈l,y.2=.free->(env.cells.lookup y.1).isSome=true:=fun y hy=>hh y (List.mem_cons_of_mem _ hy);rw [List.forIn_cons];unfold pA;cases q:k == NameKind.free with
     | false =>
       simp only [Bool.false_eq_true,if_false,pure_bind];exact ih acc h2
     | true =>
       obtain ⟨c,hc⟩:=Option.isSome_iff_exists.mp (h1 (by simpa using q));dsimp only at hc;simp only [if_true,cellOf,hc,pure_bind,Option.getD_some];exact ih _ h2
 have:=key scope.names [] h;unfold closureFor;simp only [bind_pure];exact this
theorem wP {cells:List (Str × Addr)} {x:Str} {c:Addr}:∀ {l:List (Str × NameKind)} {acc:List (Str × Addr)},(∀ y∈l,y.2=.free->(cells.lookup y.1).isSome=true)->(∀ x c,acc.lookup x=some c->cells.lookup x=some c)->(pA cells l acc).lookup x=some c->cells.lookup x=some c
 | [],acc,_,h2,h3=>h2 x c h3
 | (n,k)::r,acc,h1,h2,h3=>by
   have h1':∀ y∈r,y.2=.free->(cells.lookup y.1).isSome=true:=fun y hy=>h1 y (List.mem_cons_of_mem _ hy);unfold pA at h3;cases q:k == NameKind.free with
   | false =>
     rw [q] at h3;exact wP h1' h2 (by simpa using h3)
   | true =>
     rw [q] at h3;simp only [if_true] at h3;obtain ⟨a,ha⟩:=Option.isSome_iff_exists.mp (h1 (n,k) List.mem_cons_self (by simpa using q));dsimp only at ha;rw [ha] at h3;refine wP h1' (fun y d hy=>?_) h3;rw [List.lookup_cons] at hy;cases z:y == n with
     | true =>
       rw [z] at hy;cases hy;rw [eq_of_beq z];exact ha
     | false =>
       rw [z] at hy;exact h2 y d hy
theorem xo {cells:List (Str × Addr)} {x:Str}:∀ {l:List (Str × NameKind)} {acc:List (Str × Addr)},((∃ c,acc.lookup x=some c)\/(x,NameKind.free)∈l)->∃ c,(pA cells l acc).lookup x=some c
 | [],acc,h=>by
   rcases h with h|h
   . exact h
   . cases h
 | (n,k)::r,acc,h=>by
   unfold pA;cases q:k == NameKind.free with
   | false =>
     simp only [Bool.false_eq_true,if_false];refine xo ?_;rcases h with h|h
     . exact .inl h
     . rcases List.mem_cons.mp h with z|z
       . cases z;simp at q
       . exact .inr z
   | true =>
     simp only [if_true];refine xo ?_;by_cases z:x=n
     . subst z;exact .inl ⟨(cells.lookup x).getD 0,by rw [List.lookup_cons];simp⟩
     . rcases h with ⟨c,h⟩|h
       . refine .inl ⟨c,?_⟩;rw [List.lookup_cons];have:(x == n)=false:=(by simpa using z);rw [this];exact h
       . rcases List.mem_cons.mp h with y|y
         . cases y;exact absurd rfl z
         . exact .inr y
theorem kH {env:Env} {x:Str} {k:NameKind}:∀ {l:List (Str × NameKind)},l.lookup x=some k ->
   (l.map fun (n,k)=>if (k == NameKind.free && env.scope.kind == .function && env.kindOf n == some .cell) then (n,NameKind.cell) else (n,k)).lookup x=some (if (k == NameKind.free && env.scope.kind == .function && env.kindOf x == some .cell) then NameKind.cell else k)
 | [],h=>by simp at h
 | (n,j)::r,h=>by
   have ih:=@kH env x k r;rw [List.map_cons];rw [List.lookup_cons] at h;cases z:x == n with
   | true =>
     rw [z] at h;cases h;have e:=eq_of_beq z;subst e;by_cases q:(k == NameKind.free && env.scope.kind == .function && env.kindOf x == some .cell)=true
     . simp only [q,if_true,List.lookup_cons,z]
     . simp only [q,if_false,List.lookup_cons,z,Bool.false_eq_true]
   | false =>
     rw [z] at h;dsimp only;by_cases q:(j == NameKind.free && env.scope.kind == .function && env.kindOf n == some .cell)=true
     . rw [if_pos q,List.lookup_cons,z];exact ih h
     . rw [if_neg q,List.lookup_cons,z];exact ih h
theorem vR {X:Cx} {Nc:List Str} {scope:Scope} (own:Nat) (js:List Nat) (hc:∀ y∈scope.names,y.2≠.cell) (hk:scope.kind=.function) (hn:∀ y∈scope.names,y.2=.local->scope.names.lookup y.1=some .local) (hl:Nc.length=own+js.length)
   (hf:∀ y∈scope.names,y.2=.free->X.env.scope.names.lookup y.1=some .cell) (hX:X.env.scope.kind=.function) (hcell:∀ x,X.env.scope.names.lookup x=some .cell->∃ c,X.env.cells.lookup x=some c)
   (hU:∀ i,i<js.length->∃ x j,Nc[own+i]?=some x/\js[i]?=some j/\X.N[j]?=some x/\scope.names.lookup x=some .free):CompTxt X Nc own js scope (pA X.env.cells scope.names []):=by
 have hs:∀ y∈scope.names,y.2=.free->(X.env.cells.lookup y.1).isSome=true:=fun y hy e=>by
   obtain ⟨c,q⟩:=hcell _ (hf y hy e);rw [q]
   rfl
 have free_cell:∀ x,scope.names.lookup x=some .free->X.env.scope.names.lookup x=some .cell:=fun x h=>hf (x,.free) (PySem.mem_of_lookup h) rfl;refine ⟨FB hs,hk,hc,hn,fun x c h=>wP hs (fun x c z=>by simp at z) h,fun x h=>?_,hl,fun i x h=>?_⟩
 . cases q:scope.names.lookup x with
   | none =>
     exfalso
     have:(relabel scope X.env).names.lookup x=none:=by
       unfold relabel;dsimp only
       revert q
       generalize scope.names=l
       induction l with
       | nil=>intro _;rfl
       | cons y l ih =>
         obtain ⟨n,k⟩:=y;intro q;rw [List.lookup_cons] at q;cases z:x == n with
         | true=>rw [z] at q;cases q
         | false =>
           rw [z] at q;rw [List.map_cons];dsimp only;by_cases w:(k == NameKind.free && X.env.scope.kind == .function && X.env.kindOf n == some .cell)=true
           . rw [if_pos w,List.lookup_cons,z];exact ih q
           . rw [if_neg w,List.lookup_cons,z];exact ih q
     rw [this] at h;rcases h with h|h <;> cases h
   | some k =>
     have r:(relabel scope X.env).names.lookup x=some _:=kH (env:=X.env) q;cases k with
     | free=>exact xo (.inr (PySem.mem_of_lookup q))
     | cell=>exact absurd rfl (hc _ (PySem.mem_of_lookup q))
     | _ =>
       rw [r] at h;simp at h
 . have hi:i<js.length:=by
     have:=(List.getElem?_eq_some_iff.mp h).1;omega
   obtain ⟨y,j,e1,e2,e3,e4⟩:=hU i hi;rw [h] at e1;cases e1;have fc:=free_cell x e4;refine ⟨j,e2,e3,fc,?_⟩;have r:(relabel scope X.env).names.lookup x=some _:=kH (env:=X.env) e4;rw [r];have:X.env.kindOf x=some .cell:=fc;rw [this,hX]
   rfl
end L2
set_option Elab.async false
set_option linter.all false
set_option maxRecDepth 100000
namespace L2
open PySem PySem.Spec PyProof.Rows
theorem Ew:∀ {ns:List Int} {us:List Value},Vals (ns.map V.int) us->IntsAre us ns
 | [],_,h=>by cases h;exact .nil
 | n::ns,_,h=>by
   cases h with
   | cons r t =>
     obtain ⟨k,rfl⟩:=(show ∃ t,_=Value.int n t from r);exact .cons n k (Ew t)
theorem ES:∀ {ns:List Int} {us:List Value},IntsAre us ns->Vals (ns.map V.int) us
 | _,_,.nil=>.nil
 | _,_,.cons n t r=>.cons ⟨t,rfl⟩ (ES r)
section
variable {X:Cx}
theorem DT:fD X (.builtin "sorted") (fun xs H Q=>∃ (p:Addr) (ns:List Int),xs=[.ref p]/\SqL X.K H p (ns.map V.int)/\ns.length<64/\∀ (l:Addr) (zs:List Int),H l=none->zs.Perm ns->zs.Pairwise (·<=·)->Q (.ref l) (upd H l (.lst (zs.map V.int)))):=by
 intro pins s σ H xs us Q I r h;obtain ⟨p,ns,rfl,hp,h64,q⟩:=h;obtain ⟨u,rfl,ru⟩:=sk r;cases ru;obtain ⟨its,rv,pl,hz⟩:=I.list hp;have hi:=Ew rv;have e1:=IntsAre.length hi;refine sorted_ints pl.isList hi (by omega) fun out zs a1 a2 a3=>?_;obtain ⟨e,he⟩:=sortedAll_at s.heap its out;have hn:H (s.heap.objs.size+1)=none:=I.hok.fresh (Nat.le_succ _);have ln:zs.length=ns.length:=a2.length_eq;refine ⟨.ref (s.heap.objs.size+1),_,I.laid (a:=s.heap.objs.size+1) (o:=.lst (zs.map V.int)) (t':=s.toks) (fun b o e=>sortedAll_old e) (Nat.le_succ _) ⟨?_,out.toList,e,ES a1,?_⟩,rfl,q _ zs hn a2 a3⟩
 . rw [List.length_map,ln];exact aR (by omega)
 . exact he
end
theorem LZ {K:PySem.W.Frag} {C T:Addr} {c0:Value} {dd:Option Addr} {cd:ClassData} {sl:Array (Option Value)} (h:K.lookup C=some ⟨c0,dd,.cls cd,sl⟩) (m:cd.mro=.ref C::.ref T::bmV) (C':Addr):PySem.W.mroIn K C (.ref C')=some (decide (C'=C) || decide (C'=T)):=by
 unfold PySem.W.mroIn PySem.W.clsIn;rw [h];simp only [Option.bind_some,m,List.isEmpty_cons,Bool.false_eq_true,if_false]
 congr 1
 by_cases h1:C'=C
 . subst h1;simp
 . by_cases h2:C'=T
   . subst h2;simp
   . have a:(Value.ref C' == Value.ref C)=false:=(by simpa using h1);have b:(Value.ref C' == Value.ref T)=false:=(by simpa using h2);simp [List.contains_cons,a,b,h1,h2]
structure XErr (K:PySem.W.Frag) (T C:Addr):Prop where
 x:XCls K C
 mr:∀ C',PySem.W.mroIn K C (.ref C')=some (decide (C'=C) || decide (C'=T))
 mv:PySem.W.mroIn K C (.type "ValueError")=some true
theorem xR {K:PySem.W.Frag} {C:Addr} {c0:Value} {dd:Option Addr} {cd:ClassData} {sl:Array (Option Value)} {r:List Value} (h:K.lookup C=some ⟨c0,dd,.cls cd,sl⟩) (m:cd.mro=.ref C::r) {v:Value} (hv:(Value.ref C::r).contains v=true):PySem.W.mroIn K C v=some true:=by
 unfold PySem.W.mroIn PySem.W.clsIn;rw [h];simp only [Option.bind_some,m,List.isEmpty_cons,Bool.false_eq_true,if_false,hv]
section
variable {K:PySem.W.Frag} {T C:Addr} {c0:Value} {dd:Option Addr} {cd:ClassData} {sl:Array (Option Value)}
theorem EC {r:List Value} (h1:PySem.W.typeIn K (.ref C)=some (.type "type")) (h2:PySem.W.findIn K (.ref C) "__getattribute__"=some (some (.builtin "BaseException.__getattribute__"))) (h3:PySem.W.findIn K (.ref C) "__getattr__"=some none)
   (h4:PySem.W.findIn K (.ref C) "__class__"=some (some (.builtin "object.__class__"))) (h5:PySem.W.specialIn K (.builtin "object.__class__") "__get__"=some (some (.builtin "getset_descriptor.__get__"))) (h6:PySem.W.takesIn K (.builtin "object.__class__")=some true)
   (h7:PySem.W.hasDictIn K C=true) (h:K.lookup C=some ⟨c0,dd,.cls cd,sl⟩) (m:cd.mro=.ref C::r) (a:r.contains (.type "object")=true) (b:r.contains (.type "BaseException")=true):XCls K C :=
 ⟨h1,h2,h3,h4,h5,h6,xR h m (by rw [List.contains_cons,a,Bool.or_true]),xR h m (by rw [List.contains_cons,b,Bool.or_true]),h7,xR h m (by simp)⟩
structure XTop (K:PySem.W.Frag) (T:Addr):Prop where
 x:XCls K T
theorem Mt (h1:PySem.W.typeIn K (.ref C)=some (.type "type")) (h2:PySem.W.findIn K (.ref C) "__getattribute__"=some (some (.builtin "BaseException.__getattribute__"))) (h3:PySem.W.findIn K (.ref C) "__getattr__"=some none)
   (h4:PySem.W.findIn K (.ref C) "__class__"=some (some (.builtin "object.__class__"))) (h5:PySem.W.specialIn K (.builtin "object.__class__") "__get__"=some (some (.builtin "getset_descriptor.__get__"))) (h6:PySem.W.takesIn K (.builtin "object.__class__")=some true)
   (h7:PySem.W.hasDictIn K C=true) (h:K.lookup C=some ⟨c0,dd,.cls cd,sl⟩) (m:cd.mro=.ref C::bmV):XTop K C:=⟨EC h1 h2 h3 h4 h5 h6 h7 h m (by decide +kernel) (by decide +kernel)⟩
theorem mJ (h1:PySem.W.typeIn K (.ref C)=some (.type "type")) (h2:PySem.W.findIn K (.ref C) "__getattribute__"=some (some (.builtin "BaseException.__getattribute__"))) (h3:PySem.W.findIn K (.ref C) "__getattr__"=some none)
   (h4:PySem.W.findIn K (.ref C) "__class__"=some (some (.builtin "object.__class__"))) (h5:PySem.W.specialIn K (.builtin "object.__class__") "__get__"=some (some (.builtin "getset_descriptor.__get__"))) (h6:PySem.W.takesIn K (.builtin "object.__class__")=some true)
   (h7:PySem.W.hasDictIn K C=true) (h:K.lookup C=some ⟨c0,dd,.cls cd,sl⟩) (m:cd.mro=.ref C::.ref T::bmV):XErr K T C:=by
 have a:(Value.ref T::bmV).contains (.type "object")=true:=by rw [List.contains_cons];simp [bmV]
 have b:(Value.ref T::bmV).contains (.type "BaseException")=true:=by rw [List.contains_cons];simp [bmV]
 have c:(Value.ref T::bmV).contains (.type "ValueError")=true:=by rw [List.contains_cons];simp [bmV]
 exact ⟨EC h1 h2 h3 h4 h5 h6 h7 h m a b,LZ h m,xR h m (by rw [List.contains_cons,c,Bool.or_true])⟩
end
section
variable {P:Program} {w:World} {K:PySem.W.Frag} {mg:Str->Option Value} {base:Heap}
theorem Fun.okX {x qual:Str} {st:Stmt} {f:Addr} {fd:FuncData} {N ps:List Str} {k:Nat} {sp:Sp} (F:Fun K x qual st f fd) (S:FnScope N ps (aa st)) (len:∀ vs H Q E,sp vs H Q E->vs.length=ps.length)
   (hbody:∀ (cdv:Value) (A:Around) (outer:List Env) (s:Shared) (H:Hp) (vs:List V) (Q:VK) (E:XK),Room k (A.deeper (envOfC qual (aa st) s.heap.objs.size f cdv))->sp vs H Q E ->
     ∃ t,PSs (l9 (CXe P w) P w K mg base N qual (aa st) f cdv A outer s H E) (aE st) t/\t { nx:=fun _ H'=>Q .non H',rt:=Q } (start N vs) H):FnOk P w K mg base (CXe P w) (k+1) f fd ps sp:=by
 obtain ⟨oc,od,kV,doc,pm,an,cdv,ct,osl,rfl,lk,hcd⟩:=F.ex;exact LD lk hcd S len fun A outer s H vs Q E hr hsp=>hbody cdv A outer s H vs Q E hr hsp
end
theorem Am {C:Addr} {E:XK} {t:TA} {D:Ends} {σ:St} {H:Hp}:GK C E t D σ H=t σ H fun vs H1=>vs.length<=sizeLine/\E (.ref C) none H1:=rfl
theorem EV {tb:(St->XK)->TS} {th:TH} {D:Ends} {σ:St} {H:Hp}:NP tb th D σ H=tb (fun σ' cls od H'=>th D σ' cls od H') D σ H:=rfl
theorem DG {K:PySem.W.Frag} {C':Addr} {i:Nat} {ts:TS} {tr:TH} {D:Ends} {σ:St} {cls:Value} {od:Option Addr} {H:Hp}:LN K C' i ts tr D σ cls od H=∃ C b,cls=.ref C/\PySem.W.mroIn K C (.ref C')=some b /\
 if b=true then ∀ ea,H ea=none->ts (D.less i) (σ.set i (some (.ref ea))) (upd H ea (ExO ea cls od)) else tr D σ cls od H:=rfl
theorem Be:bootBuiltins "ValueError"=some (.type "ValueError"):=by decide +kernel
theorem iR {K:PySem.W.Frag} {H:Hp} {ea C C' Tl:Addr} {od:Option Addr} {Q:VK} (he:H ea=some (ExO ea (.ref C) od)) (hd:ye H od) (xe:XErr K Tl C) (x':XErr K Tl C') (ne:C'≠Tl) (q:Q (.bl (decide (C'=C))) H):iU K [.ref ea,.ref C'] H Q:=by
 refine ⟨ea,C,od,.ref C',decide (C'=C),rfl,he,hd,xe.x,⟨x'.x,?_⟩,q⟩;rw [xe.mr,decide_eq_false ne,Bool.or_false]
theorem zo {K:PySem.W.Frag} {H:Hp} {ea C Tl:Addr} {od:Option Addr} {Q:VK} (he:H ea=some (ExO ea (.ref C) od)) (hd:ye H od) (xe:XErr K Tl C) (q:Q (.bl true) H):iU K [.ref ea,.ty "ValueError"] H Q :=
 ⟨ea,C,od,.ty "ValueError",true,rfl,he,hd,xe.x,⟨by decide +kernel,xe.mv⟩,q⟩
theorem II {H:Hp} {l b:Addr} {xs zs:List V} {Q:VK} (h1:H l=some (.lst xs)) (h2:H b=some (.lst zs)) (hz:xs.length+zs.length<=sizeLine) (q:∀ p,H p=none->Q (.ref p) (upd H p (.lst (xs++zs)))):rCat (.ref l) (.ref b) H Q:=⟨l,b,xs,zs,rfl,rfl,h1,h2,hz,q⟩
theorem Same.put {H H':Hp} {l:Addr} (e:Same H H') (n:H l=none) (o:HO):Same H (upd H' l o):=fun b u h=>by rw [ar (bh h n)];exact e b u h
end L2
set_option Elab.async false
set_option linter.all false
set_option maxRecDepth 100000
namespace L2
open PySem PySem.Spec PyProof.Rows
theorem JM {M:Model} {A:Around} {E:Value->Shared->Prop} {s:Shared} {env:Env} {x:Str} {px:Pos} {v:Value} {Q:Unit->Shared->Prop} (h:wpAny M A (storeName env x v) Q E s):wpAny M A (assign (.Name x px) env v) Q E s:=by
 show wpAny M A (do standAt px;bindName env x v) Q E s;exact wpAny_bind (wpAny_standAt (wpAny_bindName h))
section
variable {X:Cx} {Nc:List Str} {own:Nat} {js:List Nat} {scope:Scope} {cl:List (Str × Addr)}
theorem FH {i:Nat} {x:Str} {px pos:Pos} {elt target iter:Expr} {ifs:List Expr} {cpos:Pos} {wi:TI} {g:TG} {tc:TT} {te:TE} (hN:X.N.Nodup) (hxi:X.N[i]?=some x) (hxl:X.env.scope.names.lookup x=some .local) (hc:X.calm=true) (T:CompTxt X Nc own js scope cl)
   (hi:PI X target iter wi) (hg:∀ C s₂ H₁ fp,PG (X.comp Nc scope cl C s₂ H₁ fp) target g) (ht:∀ C s₂ H₁ fp,PTs (X.comp Nc scope cl C s₂ H₁ fp) ifs tc)
   (he:∀ C s₂ H₁ fp,PE (X.comp Nc scope cl C s₂ H₁ fp) elt te) (hs:∀ x,foldedSetIterable iter X.env x=pure x:=by intro _;rfl)
   (hsw:swapsWith (.ListComp elt [⟨target,iter,ifs,0⟩] scope cpos) (some (.Name x px)) pos.line X.env=pure true:=by rfl) :
   PS X (.Assign [.Name x px] (.ListComp elt [⟨target,iter,ifs,0⟩] scope cpos) pos) (DA (F7 own js wi g tc te) (yO i)):=by
 intro pins s σ H D I h;rw [exec_Assign_Name_used _ _ _ _ hsw];refine wpAny_bind (wpAny_standAt (wpAny_bind ?_));rw [arm_evalThenUse_ListComp];refine wpAny_bind ?_;refine wpAny_comprehension_free (use:=some (assign (.Name x px) X.env)) rfl hs T.clos T.kind T.names (thn (hi pins s σ H _ I h) fun v s1 h1=>thn h1 fun itv s2 h2=>?_);obtain ⟨it,fp,tn,J,H1,rfl,I1,Tn,st,f1,R⟩:=h2;have hfp:∀ b∈fp,b<s2.heap.objs.size:=fun b hb=>let ⟨o,e,_⟩:=Tn.obj _ _ st b hb;Heap.lt_size e;refine wpAny_newObj_type (wpAny_newFunctionEnv T.nocell (by intro y hy;simp at hy) (fun h₁ hns₁ hsb₁=>?_) T.kind);dsimp only at hns₁ hsb₁ ⊢;generalize hH2:s2.heap.push { cls:=.type "list",dict:=none,data:=.seq ([]:List Value).toArray }=H2 at hns₁ hsb₁ ⊢;have hC:H2.objs.size=s2.heap.objs.size+1:=by rw [<- hH2,Heap.size_push]
 have hDC:s2.heap.objs.size≠H2.objs.size:=by rw [hC];exact Nat.ne_of_lt (Nat.lt_succ_self _)
 have hCle:s2.heap.objs.size<=H2.objs.size:=by rw [hC];exact Nat.le_succ _
 have below:∀ b,b<s2.heap.objs.size->b≠H2.objs.size:=fun b hb=>by rw [hC];exact Nat.ne_of_lt (Nat.lt_succ_of_lt hb)
 have old:∀ b o,s2.heap.get? b=some o->h₁.get? b=some o:=fun b o e=>hsb₁.extBut b o (below b (Heap.lt_size e)) (Heap.get?_push_of_some _ (hH2 ▸ Heap.get?_push_of_some _ e));have hacc:∃ n,h₁.get? s2.heap.objs.size=some { cls:=.type "list",data:=.seq ([]:List Value).toArray n }:=⟨_,hsb₁.extBut _ _ hDC (Heap.get?_push_of_some _ (hH2 ▸ Heap.get?_push_size _ rfl))⟩;have st₁:tn 0 h₁:=Tn.keep _ _ _ st fun b _ o e=>old b o e;obtain ⟨W,⟨m0,w0⟩,turn⟩:=R s2.heap.objs.size I1.fresh;have Ic:=CY (t:=s2.toks+([]:List (Str × Value)).length) T I1 hCle (Nat.le_refl _) hDC f1 hfp old hns₁ hacc;generalize hXc:X.comp Nc scope cl H2.objs.size s2 H1 fp=Xc at Ic;have stat:∀ {H':Hp},(∀ b∈fp,H' b=none)->∀ b∈fp,jq Xc [] H' b:=fun {H'} hn b hb=>by
   subst hXc;exact ⟨hn b hb,below b (hfp b hb),(zv T I1 hCle f1 hfp).exfs b hb,.inl hb,fun x c e=>(f1 b hb).2.2.2.2.1 x c (T.cells x c e),fun p hp=>by cases hp⟩
 have fr0:∀ b∈fp,upd H1 s2.heap.objs.size (.lst []) b=none:=fun b hb=>by
   rw [ar (Nat.ne_of_lt (hfp b hb))];exact (f1 b hb).1
 have calmc:Xc.calm=true:=by subst hXc;exact hc
 have loop:∀ s₃:Shared,s₃={ s2 with heap:=h₁,toks:=s2.toks+([]:List (Str × Value)).length } ->
     codeAny (model X.prog X.w) X.A (.compLoop (.ListComp elt [⟨target,iter,ifs,0⟩] scope cpos) 0 (.ref it) (.ref s2.heap.objs.size) (compEnvC scope cl H2.objs.size X.env))
       (compPost (model X.prog X.w) X.A X.xe (some (assign (.Name x px) X.env)) (fun _ s'=>wpAny (model X.prog X.w) X.A (pure ()) (fun _ s''=>wpAny (model X.prog X.w) X.A (pure Flow.next) (SP X pins D) X.xe s'') X.xe s') (.ref s2.heap.objs.size) H2.objs.size) s₃:=by
   rintro s₃ rfl;refine wE (fun n s'=>∃ i ys σ' H',Inv Xc [] σ' H' s'/\tn i s'.heap/\(∀ b∈fp,H' b=none)/\W i n ys σ' H') ?_ m0 ⟨0,[],_,_,Ic,st₁,fr0,w0⟩;rintro n s3 ⟨i,ys,σ3,H3,I3,st3,fr3,w3⟩;rcases turn i n ys σ3 H3 w3 with ⟨stop,q⟩|⟨go,step⟩
   . subst hXc;refine thn (Tn.done (X.comp Nc scope cl H2.objs.size s2 H1 fp) rfl rfl rfl hc i [] s3 σ3 H3 _ I3 (stat fr3) st3 stop) fun r s4 ⟨hr,I4⟩=>?_;subst hr;obtain ⟨m4,hn4,_⟩:=id I4.loc;have J:=AJ I1 hCle f1 I4 (h':=s4.heap) (Heap.SameBut.refl _ _);have cl0:H2.objs.size≠X.env.locals:=Nat.ne_of_gt (Nat.lt_of_lt_of_le I1.lt hCle);have cy:X.s₀.heap.objs.size<=H2.objs.size:=Nat.le_trans I1.sz hCle;have cc:∀ y c,X.env.cells.lookup y=some c->c≠H2.objs.size:=fun y c e=>by
       obtain ⟨v',o',ho',_⟩:=I1.cell y c e;exact Nat.ne_of_lt (Nat.lt_of_lt_of_le (Heap.lt_size ho') hCle)
     have cp:∀ p∈X.pn++pins,p.1≠H2.objs.size:=fun p hp=>by
       obtain ⟨ho',_⟩:=I1.pin p hp;exact Nat.ne_of_lt (Nat.lt_of_lt_of_le (Heap.lt_size ho') hCle)
     refine JM (AL (v:=.ref s2.heap.objs.size) J hN hxi (.inl hxl) rfl (fun s5 I5 ⟨ad,sb,had⟩=>?_) (.inr hxl));have nad:H2.objs.size≠ad:=by
       rcases had with rfl|had
       . exact cl0
       . exact (cc _ _ had).symm
     obtain ⟨oo,es,ep,e1,e2⟩:=hn4;refine ⟨m4,⟨oo,es,ep,(sb.2 _ nad).trans e1,e2⟩,fun h' hs'=>wpAny_pure (wpAny_pure ⟨_,H3,?_,q⟩)⟩;exact I5.turned (it:=H2.objs.size) (t':=s5.toks) (fun b o n e=>hs'.extBut b o n e) I4.free cl0 (.inr cy) cc cp
   . subst hXc;refine thn (Tn.item (X.comp Nc scope cl H2.objs.size s2 H1 fp) rfl rfl rfl hc i [] s3 σ3 H3 _ I3 (stat fr3) st3 go) fun r s4 ⟨u,hr,h4⟩=>?_;subst hr;refine thn h4 fun _ s5 ⟨x,H5,I5,r5,y5,st5,fr5⟩=>?_;have I5':=I5.pinned (stat fr5) (Tn.obj _ _ st5);have back:∀ {σ7:St} {H7:Hp} {s7:Shared},Inv (X.comp Nc scope cl H2.objs.size s2 H1 fp) ([]++qw fp s5.heap) σ7 H7 s7->Inv (X.comp Nc scope cl H2.objs.size s2 H1 fp) [] σ7 H7 s7/\tn (i+1) s7.heap/\∀ b∈fp,H7 b=none:=fun {σ7 H7 s7} I7=>by
       refine ⟨I7.unpinned,Tn.keep _ _ _ st5 fun b hb o e=>(I7.pin (b,o) (List.mem_append_right _ (List.mem_append_right _ (iJ hb e)))).1,fun b hb=>?_⟩;obtain ⟨o,e,d⟩:=Tn.obj _ _ st5 b hb;exact (I7.pin (b,o) (List.mem_append_right _ (List.mem_append_right _ (iJ hb e)))).2.1
     refine thn (hg _ _ _ _ _ s5 σ3 H5 x u _ I5' r5 (step x H5 y5)) fun _ s6 ⟨σ6,H6,I6,q6⟩=>?_;refine zC (ht _ _ _ _ _ s6 σ6 H6 _ I6 q6) fun ok s7 H7 I7 q7=>?_;cases ok with
     | false =>
       rw [if_neg Bool.false_ne_true] at q7 ⊢;obtain ⟨m',hm,w7⟩:=q7;obtain ⟨J1,J2,J3⟩:=back I7;exact ⟨m',hm,i+1,ys,σ6,H7,J1,J2,J3,w7⟩
     | true =>
       rw [if_pos rfl] at q7 ⊢;refine bF (he _ _ _ _ _ s7 σ6 H7 _ I7 q7) fun y s8 yv H8 I8 r8 ⟨hp8,hl8,m',hm,w8⟩=>?_;refine thn (eZ _ s8 σ6 H8 (.ref s2.heap.objs.size) [yv] _ [y] (fun v' H'=>W (i+1) m' (ys++[yv]) σ6 H') I8 rfl (.cons r8 .nil) ⟨_,ys,yv,rfl,rfl,hp8,hl8,w8⟩) fun v9 s9 ⟨_,H9,I9,_,w9⟩=>?_;obtain ⟨J1,J2,J3⟩:=back I9;exact ⟨m',hm,i+1,ys++[yv],σ6,H9,J1,J2,J3,w9⟩
 exact codeAny_compStart_list (loop _ rfl) (Tn.self _ 0 _ _ _ st₁ (loop _ rfl))
end
end L2
set_option Elab.async false
set_option linter.all false
set_option maxRecDepth 100000
namespace L2
open PySem PySem.Spec PyProof.Rows
end L2
set_option Elab.async false
set_option linter.all false
set_option maxRecDepth 100000
namespace Pb
open L2 PySem
def front (r:Int) (par:Int->Int) (p:Int):V:=if p=r then .non else .int (par p)
def bq (m:Int) (rs:List Road) (fv:V) (p:Int):List Int:=(gQ m rs p).filter fun v=>decide (V.int v≠fv)
variable {m:Int} {rs:List Road} {r:Int} {par:Int->Int} {dep:Int->Nat}
theorem Rooted.ne (R:Rooted m rs r par dep) {v:Int} (h0:0<=v) (h1:v<m) (hr:v≠r):par v≠v:=fun z=>by
 have:=(R.up v h0 h1 hr).2.2;rw [z] at this;omega
theorem dj (g:Good m rs) (R:Rooted m rs r par dep) {p v:Int} (p0:0<=p) (p1:p<m):v∈bq m rs (front r par p) p↔(0<=v/\v<m)/\v≠r/\par v=p:=by
 unfold bq;rw [List.mem_filter,C0 g,decide_eq_true_eq]
 constructor
 . rintro ⟨ad,hf⟩;obtain ⟨_,hv,_⟩:=g.adj ad;refine ⟨hv,?_⟩;obtain ⟨x,hx,j⟩:=ad;have key:∀ u w:Int,(u≠r/\par u=w)\/(w≠r/\par w=u)->u=p->w=v->v≠r/\par v=p:=fun u w h e1 e2=>by
     subst e1 e2;rcases h with h|h
     . exfalso
       apply hf;unfold front;rw [if_neg h.1,h.2]
     . exact h
   rcases j with ⟨a,b⟩|⟨a,b⟩
   . exact key x.a x.b (R.road x hx) a b
   . exact key x.b x.a (R.road x hx).symm a b
 . rintro ⟨hv,hr,hp⟩;have u:=R.up v hv.1 hv.2 hr;rw [hp] at u;refine ⟨?_,fun z=>?_⟩
   . obtain ⟨x,hx,j⟩:=u.2.1;exact ⟨x,hx,j.elim (fun q=>.inr ⟨q.2,q.1⟩) (fun q=>.inl ⟨q.2,q.1⟩)⟩
   . unfold front at z;by_cases c:p=r
     . rw [if_pos c] at z;cases z
     . rw [if_neg c] at z;have e:v=par p:=(by injection z);have w:=(R.up p p0 p1 c).2.2;have w2:=u.2.2;rw [<- e] at w;omega
theorem rf {fv:V} {p:Int}:(bq m rs fv p).Nodup:=(yj m rs p).filter _
def nl (m:Int) (par:Int->Int) (ks:List Int):List V:=(below m.toNat).map fun v=>if v∈ks then .int (par v) else .non
def jT (m r:Int) (par:Int->Int):List V:=(below m.toNat).map (front r par)
theorem oP {ks:List Int}:(nl m par ks).length=m.toNat:=by unfold nl;rw [List.length_map,bx]
theorem fe {n i:Nat} (h:i<n):(below n)[i]?=some (i:Int):=by unfold below;rw [List.getElem?_map,List.getElem?_range h];rfl
theorem Hj {ks:List Int} {v:Int} (h0:0<=v) (h1:v<m):(nl m par ks)[v.toNat]?=some (if v∈ks then .int (par v) else .non):=by
 unfold nl;rw [List.getElem?_map,fe (by omega)];show some (if ((v.toNat:Nat):Int)∈ks then V.int (par ((v.toNat:Nat):Int)) else V.non)=_;rw [Int.toNat_of_nonneg h0]
theorem Oo {ks:List Int} {v:Int} (h0:0<=v) (h1:v<m):(nl m par ks).set v.toNat (.int (par v))=nl m par (ks++[v]):=by
 refine List.ext_getElem? fun i=>?_;rw [List.getElem?_set];by_cases c:i<m.toNat
 . have e:∀ l:List Int,(nl m par l)[i]?=some (if (i:Int)∈l then .int (par (i:Int)) else .non):=fun l=>by
     have:=Hj (par:=par) (ks:=l) (v:=(i:Int)) (m:=m) (by omega) (by omega)
     rwa [Int.toNat_natCast] at this
   rw [e,oP];by_cases z:v.toNat=i
   . have z2:v=(i:Int):=(by omega);rw [if_pos z,if_pos (by omega),e,if_pos (by rw [z2];simp),<- z2]
   . rw [if_neg z,e];have z2:¬ ((i:Int)=v):=(by omega);simp [z2]
 . have e:∀ l:List Int,(nl m par l)[i]?=none:=fun l=>List.getElem?_eq_none (by rw [oP];omega);rw [e,e,oP];by_cases z:v.toNat=i
   . omega
   . rw [if_neg z]
structure AInv (m:Int) (rs:List Road) (r:Int) (par:Int->Int) (ks ws:List Int):Prop where
 nd:ks.Nodup
 rng:∀ k∈ks,0<=k/\k<m
 nr:r ∉ ks
 sub:∀ w∈ws,w=r\/w∈ks
 wnd:ws.Nodup
 ok:∀ v∈ks,par v ∉ ws/\(par v=r\/par v∈ks)
 dn:∀ v,0<=v->v<m->v≠r->(par v=r\/par v∈ks)->par v ∉ ws->v∈ks
theorem AInv.start:AInv m rs r par [] [r] where
 nd:=List.nodup_nil
 rng:=fun _ h=>by cases h
 nr:=fun h=>by cases h
 sub:=fun w h=>.inl (List.mem_singleton.mp h)
 wnd:=by simp
 ok:=fun _ h=>by cases h
 dn:=fun v _ _ _ h n=>by
   rcases h with h|h
   . exact absurd (by rw [h];simp) n
   . cases h
theorem AInv.at_ (J:AInv m rs r par ks ws) (r0:0<=r) (r1:r<m) {p:Int} (hp:p∈ws):0<=p/\p<m:=by
 rcases J.sub p hp with h|h
 . rw [h];exact ⟨r0,r1⟩
 . exact J.rng p h
theorem AInv.front (J:AInv m rs r par ks ws) {p:Int} (hp:p∈ws):(if p∈ks then V.int (par p) else V.non)=front r par p:=by
 unfold Pb.front;by_cases c:p=r
 . rw [if_pos c,if_neg (by rw [c];exact J.nr)]
 . rw [if_neg c,if_pos ((J.sub p hp).resolve_left c)]
theorem AInv.step (g:Good m rs) (R:Rooted m rs r par dep) (r0:0<=r) (r1:r<m) {ks ws ws':List Int} {p:Int} (J:AInv m rs r par ks ws) (e:ws.Perm (p::ws')):AInv m rs r par (ks++bq m rs (Pb.front r par p) p) (ws'++bq m rs (Pb.front r par p) p):=by
 have hp:p∈ws:=e.mem_iff.mpr List.mem_cons_self;have pr:=J.at_ r0 r1 hp;have mk:∀ v,v∈bq m rs (Pb.front r par p) p↔(0<=v/\v<m)/\v≠r/\par v=p:=fun v=>dj g R pr.1 pr.2;have nk:(bq m rs (Pb.front r par p) p).Nodup:=rf;generalize bq m rs (Pb.front r par p) p=kk at mk nk ⊢;have dis:∀ v∈kk,v ∉ ks:=fun v hv z=>(J.ok v z).1 (by rw [((mk v).mp hv).2.2];exact hp);obtain ⟨n1,n2⟩:=List.nodup_cons.mp (e.nodup_iff.mp J.wnd);have sw:∀ w∈ws',w∈ws:=fun w hw=>e.mem_iff.mpr (List.mem_cons_of_mem _ hw);refine ⟨?_,?_,?_,?_,?_,?_,?_⟩
 . rw [List.nodup_append];exact ⟨J.nd,nk,fun a ha b hb z=>dis b hb (z ▸ ha)⟩
 . intro k hk;rcases List.mem_append.mp hk with h|h
   . exact J.rng k h
   . exact ((mk k).mp h).1
 . intro z;rcases List.mem_append.mp z with h|h
   . exact J.nr h
   . exact ((mk r).mp h).2.1 rfl
 . intro w hw;rcases List.mem_append.mp hw with h|h
   . exact (J.sub w (sw w h)).imp id (List.mem_append_left _)
   . exact .inr (List.mem_append_right _ h)
 . rw [List.nodup_append];refine ⟨n2,nk,fun a ha b hb z=>?_⟩;subst z;rcases J.sub a (sw a ha) with h|h
   . exact ((mk a).mp hb).2.1 h
   . exact dis a hb h
 . intro v hv;rcases List.mem_append.mp hv with h|h
   . obtain ⟨o1,o2⟩:=J.ok v h;refine ⟨fun z=>?_,o2.imp id (List.mem_append_left _)⟩;rcases List.mem_append.mp z with z|z
     . exact o1 (sw _ z)
     . rcases o2 with o|o
       . exact ((mk _).mp z).2.1 o
       . exact dis _ z o
   . obtain ⟨q1,q2,q3⟩:=(mk v).mp h;rw [q3];refine ⟨fun z=>?_,(J.sub p hp).imp id (List.mem_append_left _)⟩;rcases List.mem_append.mp z with z|z
     . exact n1 z
     . obtain ⟨w1,w2,w3⟩:=(mk p).mp z;exact R.ne w1.1 w1.2 w2 w3
 . intro v v0 v1 vr h n;have nk2:par v ∉ kk:=fun z=>n (List.mem_append_right _ z);have h':par v=r\/par v∈ks:=h.imp id fun z=>(List.mem_append.mp z).resolve_right nk2;by_cases c:par v=p
   . exact List.mem_append_right _ ((mk v).mpr ⟨⟨v0,v1⟩,vr,c⟩)
   . refine List.mem_append_left _ (J.dn v v0 v1 vr h' fun z=>?_);rcases List.mem_cons.mp (e.mem_iff.mp z) with z|z
     . exact c z
     . exact n (List.mem_append_left _ z)
theorem AInv.perm {ks ws ws2:List Int} (J:AInv m rs r par ks ws) (e:ws.Perm ws2):AInv m rs r par ks ws2 where
 nd:=J.nd
 rng:=J.rng
 nr:=J.nr
 sub:=fun w h=>J.sub w (e.mem_iff.mpr h)
 wnd:=e.nodup_iff.mp J.wnd
 ok:=fun v h=>⟨fun z=>(J.ok v h).1 (e.mem_iff.mpr z),(J.ok v h).2⟩
 dn:=fun v h0 h1 hr h n=>J.dn v h0 h1 hr h fun z=>n (e.mem_iff.mp z)
theorem AInv.all (R:Rooted m rs r par dep) {ks:List Int} (J:AInv m rs r par ks []):∀ v,0<=v->v<m->v≠r->v∈ks:=by
 have key:∀ n v,dep v=n->0<=v->v<m->v≠r->v∈ks:=by
   intro n
   induction n with
   | zero =>
     intro v e v0 v1 vr;have:=(R.up v v0 v1 vr).2.2;omega
   | succ n ih =>
     intro v e v0 v1 vr;have u:=R.up v v0 v1 vr;refine J.dn v v0 v1 vr ?_ (by simp);by_cases c:par v=r
     . exact .inl c
     . exact .inr (ih (par v) (by omega) u.1.1 u.1.2 c)
 exact fun v=>key _ v rfl
theorem AInv.done (R:Rooted m rs r par dep) {ks:List Int} (J:AInv m rs r par ks []):nl m par ks=jT m r par:=by
 unfold nl jT;refine List.map_congr_left fun v hv=>?_;have hv':0<=v/\v<m:=by
   unfold below at hv;obtain ⟨k,hk,rfl⟩:=List.mem_map.mp hv;have:=List.mem_range.mp hk;omega
 unfold Pb.front;by_cases c:v=r
 . rw [if_pos c,if_neg (by rw [c];exact J.nr)]
 . rw [if_neg c,if_pos (J.all R v hv'.1 hv'.2 c)]
theorem nZ (n:Nat) (v:V):(List.replicate n [v]).flatten=List.replicate n v:=by
 induction n with
 | zero=>rfl
 | succ n ih=>rw [List.replicate_succ,List.flatten_cons,ih,List.replicate_succ];rfl
theorem MW:nl m par []=List.replicate m.toNat V.non:=by
 unfold nl;refine List.ext_getElem? fun i=>?_;by_cases c:i<m.toNat
 . rw [List.getElem?_map,fe c,List.getElem?_replicate,if_pos c];simp
 . rw [List.getElem?_eq_none (by rw [List.length_map,bx];omega),List.getElem?_eq_none (by rw [List.length_replicate];omega)]
def ku (par:Int->Int):Nat->Int->List Int
 | 0,v=>[v]
 | n+1,v=>v::ku par n (par v)
theorem Rooted.pos (R:Rooted m rs r par dep) {v:Int} (h0:0<=v) (h1:v<m) (hr:v≠r):dep v=dep (par v)+1:=(R.up v h0 h1 hr).2.2.symm
theorem yJ (R:Rooted m rs r par dep):∀ (n:Nat) (v:Int),dep v=n->0<=v->v<m->(ku par n v).Nodup/\(∀ x∈ku par n v,(0<=x/\x<m)/\dep x<=n)/\(ku par n v).length=n+1
 | 0,v,e,h0,h1=>⟨by unfold ku;simp,fun x hx=>by
     unfold ku at hx;rw [List.mem_singleton.mp hx];exact ⟨⟨h0,h1⟩,by omega⟩,rfl⟩
 | n+1,v,e,h0,h1=>by
   have hr:v≠r:=fun z=>by rw [z,R.root] at e;omega
   have u:=R.up v h0 h1 hr;obtain ⟨i1,i2,i3⟩:=yJ R n (par v) (by omega) u.1.1 u.1.2;unfold ku;refine ⟨List.nodup_cons.mpr ⟨fun z=>?_,i1⟩,fun x hx=>?_,by rw [List.length_cons,i3]⟩
   . have:=(i2 v z).2;omega
   . rcases List.mem_cons.mp hx with rfl|hx
     . exact ⟨⟨h0,h1⟩,by omega⟩
     . exact ⟨(i2 x hx).1,by have:=(i2 x hx).2;omega⟩
theorem tY (R:Rooted m rs r par dep) {v:Int} (h0:0<=v) (h1:v<m):dep v+1<=m.toNat:=by
 obtain ⟨i1,i2,i3⟩:=yJ R _ v rfl h0 h1;have:=cL (m:=m) (by omega) i1 fun x hx=>(i2 x hx).1;omega
theorem wS {v:Int} (h0:0<=v) (h1:v<m):(jT m r par)[v.toNat]?=some (front r par v):=by
 unfold jT;rw [List.getElem?_map,fe (by omega)];show some (front r par ((v.toNat:Nat):Int))=_;rw [Int.toNat_of_nonneg h0]
theorem E2 (g:Good m rs) (R:Rooted m rs r par dep) {v:Int} (h0:0<=v) (h1:v<m) (hr:v≠r):∃ k,cU rs v (par v)=some k/\2<=k/\k<=1000000:=by
 obtain ⟨x,hx,j⟩:=(R.up v h0 h1 hr).2.1;obtain ⟨i,hi⟩:=List.getElem?_of_mem hx;have ok:=g.ok x hx;rw [Aj g hi j];unfold g6;by_cases c:x.a=v/\x.b=par v
 . rw [if_pos c];exact ⟨_,rfl,ok.t0,ok.t1⟩
 . rw [if_neg c];have c2:x.a=par v/\x.b=v:=by
     rcases j with j|j
     . exact absurd j c
     . exact ⟨j.2,j.1⟩
   rw [if_pos c2];exact ⟨_,rfl,ok.u0,ok.u1⟩
def lR (m:Int) (rs:List Road) (r:Int) (par:Int->Int):Nat->Int->List Int
 | 0,v=>[v]
 | n+1,v=>v::(bq m rs (front r par v) v).flatMap (lR m rs r par n)
def jt (m:Int) (rs:List Road) (r:Int) (par:Int->Int) (dep:Int->Nat) (v:Int):List Int:=lR m rs r par (m.toNat - 1 - dep v) v
theorem qP {f h:Int->List Int}:∀ {l:List Int},(∀ x∈l,f x=h x)->l.flatMap f=l.flatMap h
 | [],_=>rfl
 | a::l,e=>by rw [List.flatMap_cons,List.flatMap_cons,e a List.mem_cons_self,qP fun x hx=>e x (List.mem_cons_of_mem _ hx)]
theorem Ax (g:Good m rs) (R:Rooted m rs r par dep) {v:Int} (h0:0<=v) (h1:v<m):jt m rs r par dep v=v::(bq m rs (front r par v) v).flatMap (jt m rs r par dep):=by
 have mk:∀ u,u∈bq m rs (front r par v) v->(0<=u/\u<m)/\u≠r/\par u=v:=fun u=>(dj g R h0 h1).mp;have du:∀ u∈bq m rs (front r par v) v,dep u=dep v+1/\dep u+1<=m.toNat:=fun u hu=>by
   obtain ⟨w1,w2,w3⟩:=mk u hu;have:=R.pos w1.1 w1.2 w2;rw [w3] at this;exact ⟨this,tY R w1.1 w1.2⟩
 unfold jt;cases e:m.toNat - 1 - dep v with
 | zero =>
   have:bq m rs (front r par v) v=[]:=List.eq_nil_iff_forall_not_mem.mpr fun u hu=>by
     have:=du u hu;omega
   rw [this]
   rfl
 | succ n =>
   show v::(bq m rs (front r par v) v).flatMap (lR m rs r par n)=_;rw [qP fun u hu=>show lR m rs r par n u=lR m rs r par (m.toNat - 1 - dep u) u by rw [show m.toNat - 1 - dep u=n by have:=du u hu;omega]]
def up (par:Int->Int):Nat->Int->Int
 | 0,x=>x
 | k+1,x=>par (up par k x)
theorem yT {f:Int->List Int}:∀ {l:List Int},l.Nodup->(∀ u∈l,(f u).Nodup)->(∀ u∈l,∀ w∈l,∀ x,x∈f u->x∈f w->u=w)->(l.flatMap f).Nodup
 | [],_,_,_=>by simp
 | a::l,n,h1,h2=>by
   obtain ⟨n1,n2⟩:=List.nodup_cons.mp n;rw [List.flatMap_cons,List.nodup_append];refine ⟨h1 a List.mem_cons_self,yT n2 (fun u hu=>h1 u (List.mem_cons_of_mem _ hu)) (fun u hu w hw=>h2 u (List.mem_cons_of_mem _ hu) w (List.mem_cons_of_mem _ hw)),fun x hx y hy z=>?_⟩;subst z;obtain ⟨w,hw,hxw⟩:=List.mem_flatMap.mp hy;have:=h2 a List.mem_cons_self w (List.mem_cons_of_mem _ hw) x hx hxw;exact n1 (this ▸ hw)
theorem Ey (g:Good m rs) (R:Rooted m rs r par dep):∀ (n:Nat) (v:Int),0<=v->v<m->(lR m rs r par n v).Nodup/\∀ x∈lR m rs r par n v,(0<=x/\x<m)/\∃ k,dep x=dep v+k/\up par k x=v
 | 0,v,h0,h1=>⟨by unfold lR;simp,fun x hx=>by
     unfold lR at hx;rw [List.mem_singleton.mp hx];exact ⟨⟨h0,h1⟩,0,rfl,rfl⟩⟩
 | n+1,v,h0,h1=>by
   have mk:∀ u,u∈bq m rs (front r par v) v->(0<=u/\u<m)/\u≠r/\par u=v:=fun u=>(dj g R h0 h1).mp;have nk:(bq m rs (front r par v) v).Nodup:=rf;have ih:=fun u hu=>Ey g R n u (mk u hu).1.1 (mk u hu).1.2;have du:∀ u∈bq m rs (front r par v) v,dep u=dep v+1:=fun u hu=>by
     obtain ⟨w1,w2,w3⟩:=mk u hu;have:=R.pos w1.1 w1.2 w2;rw [w3] at this;exact this
   unfold lR;refine ⟨List.nodup_cons.mpr ⟨fun z=>?_,yT nk (fun u hu=>(ih u hu).1) fun u hu w hw x hx hy=>?_⟩,fun x hx=>?_⟩
   . obtain ⟨u,hu,hv⟩:=List.mem_flatMap.mp z;obtain ⟨_,k,e,_⟩:=(ih u hu).2 v hv;have:=du u hu;omega
   . obtain ⟨_,k1,e1,f1⟩:=(ih u hu).2 x hx;obtain ⟨_,k2,e2,f2⟩:=(ih w hw).2 x hy;have d1:=du u hu;have d2:=du w hw;have:k1=k2:=(by omega);rw [<- f1,<- f2,this]
   . rcases List.mem_cons.mp hx with rfl|hx
     . exact ⟨⟨h0,h1⟩,0,rfl,rfl⟩
     . obtain ⟨u,hu,hv⟩:=List.mem_flatMap.mp hx;obtain ⟨xr,k,e,f⟩:=(ih u hu).2 x hv;exact ⟨xr,k+1,by rw [e,du u hu];omega,by show par (up par k x)=v;rw [f];exact (mk u hu).2.2⟩
theorem JU (g:Good m rs) (R:Rooted m rs r par dep) {v:Int} (h0:0<=v) (h1:v<m):(jt m rs r par dep v).length<=24:=by
 obtain ⟨n1,n2⟩:=Ey g R (m.toNat - 1 - dep v) v h0 h1;have:=cL (m:=m) (by omega) n1 fun x hx=>(n2 x hx).1;have:=g.m24;unfold jt;omega
end Pb
set_option Elab.async false
set_option linter.all false
set_option maxRecDepth 100000
namespace L2
open PySem PySem.Spec PyProof.Rows
def Itv (K:PySem.W.Frag) (a:Addr) (n:Nat):It :=
 ⟨fun i H=>i<n/\∃ xs x,SqL K H a xs/\xs[n - 1 - i]?=some x,fun i H x H'=>H'=H/\∀ xs,SqL K H a xs->xs[n - 1 - i]?=some x,fun i H=>n<=i⟩
theorem Lk {P:Program} {w:World} {K:PySem.W.Frag} {tg:Expr} (a it:Addr) (n:Nat):Turn P w K tg (Itv K a n) [it] it (fun i h=>i<=n/\h.IsRevIter it a ((n:Int) - 1 - (i:Int))) where
 mem:=by simp
 obj:=fun i h st b hb=>by
   have e:b=it:=by simpa using hb
   subst e;obtain ⟨_,o,e,c,d⟩:=st;exact ⟨o,e,fun v z=>by rw [d] at z;cases z⟩
 keep:=fun i h h' st k=>⟨st.1,st.2.at fun o e=>k it (by simp) o e⟩
 item:=by
   intro X hP hw hK hc i pins s σ H E I hf st hg;subst hP hw hK;obtain ⟨hi,xs,x,hq,hx⟩:=hg;obtain ⟨its,rv,p,hz⟩:=I.list hq;obtain ⟨u,hu,ru⟩:=rv.get hx;obtain ⟨f0,f1,f2,f3,f4,f5⟩:=hf it (by simp);have e0:(n:Int) - 1 - (i:Int)=((n - 1 - i:Nat):Int):=by omega
   have st2:=st.2;rw [e0] at st2;refine wpAny_pyNext_rev_item st2 p.isList (x:=u) (by simpa using hu) fun h' st' sb=>?_;have I1:Inv X pins σ H { s with heap:=h' }:=I.turned (t':=s.toks) (fun b o hb e=>(sb.2 b hb).trans e) f0 f1 f3 f4 f5;obtain ⟨o,e,c,d⟩:=id st';have e1:((n - 1 - i:Nat):Int) - 1=(n:Int) - 1 - ((i+1:Nat):Int):=by omega
   rw [e1] at st';exact ⟨u,rfl,Bw (s:={ s with heap:=h' }) e c d (by decide) ⟨x,H,I1,ru,⟨rfl,fun ys hy=>by rw [I.list_inj hy hq];exact hx⟩,⟨hi,st'⟩,fun b hb=>(hf b hb).1⟩⟩
 done:=by
   intro X hP hw hK hc i pins s σ H E I hf st hg;subst hP hw hK;have hg':n<=i:=hg;obtain ⟨f0,f1,f2,f3,f4,f5⟩:=hf it (by simp);have st2:=st.2;have st1:=st.1;rw [show (n:Int) - 1 - (i:Int)=-1 by omega] at st2;exact wpAny_pyNext_rev_end (I.ok.hd hc) st2 fun h' eb=>⟨rfl,I.turned (t':=s.toks) (fun b o hb e=>eb b o hb e) f0 f1 f3 f4 f5⟩
 self:=fun _ _ _ _ _ st h=>wpAny_pyIter_revIter st.2 h
def Jc (K:PySem.W.Frag) (tl:TE):TI:=fun σ H R=>tl σ H fun x H1=>∃ a xs,x=.ref a/\SqL K H1 a xs/\R (Itv K a xs.length) H1
section
variable {X:Cx} {tg e:Expr} {te:TE} {p2 pos:Pos}
theorem Hu (hg:Gl X "reversed") (hm:X.mg "reversed"=none) (he:PE X e te) (h2:starEach [e] X.env=[(false,eval e X.env)]:=by rfl):PI X tg (.Call (.Name "reversed" p2) [e] [] pos) (Jc X.K te):=by
 intro pins s σ H R I h;refine Call_ (lA I hg hm boot_reversed (PyProof.Rows.callWith_type1 ?_ h2 rfl));rw [h2];show wpAny _ _ (spliced ((false,eval e X.env)::backTo pos [])) _ _ s;refine Calls.spliced_cons (bF (he pins s σ H _ I h) fun u s1 x H1 I1 r1 q1=>Calls.spliced_nil ?_);obtain ⟨a,ys,ex,sa,q⟩:=q1;subst ex;cases r1;obtain ⟨its,rv,pl,hz⟩:=I1.list sa;refine call_reversed_list pl.isList ?_;have sz:its.toArray.size=ys.length:=by rw [List.size_toArray,rv.length]
 rw [sz];refine wpAny_pyIter_revIter (i:=(ys.length:Int) - 1) (l:=a) ⟨_,Heap.get?_push_size _ rfl,rfl,rfl⟩ ?_;refine ⟨s1.heap.objs.size,[s1.heap.objs.size],_,_,H1,rfl,I1.kept (t':=s1.toks) fun b o e=>Heap.get?_push_of_some _ e,Lk a _ ys.length,⟨Nat.zero_le _,?_⟩,fun b hb=>?_,q⟩
 . exact ⟨_,Heap.get?_push_size _ rfl,rfl,by simp [revObj]⟩
 . have e:b=s1.heap.objs.size:=by simpa using hb
   subst e;exact I1.fpOk (Nat.le_refl _) (I1.hok.fresh (Nat.le_refl _))
end
theorem Jn {K:PySem.W.Frag} {a:Addr} {xs:List V} {g:TG} {tb:TS} {D:Ends} {σ:St} {H:Hp} (Pv:Nat->St->Hp->Prop) (h0:Pv 0 σ H) (hl:∀ i σ H,i<=xs.length->Pv i σ H->SqL K H a xs)
   (hs:∀ (i:Nat) (x:V) (σ:St) (H:Hp) (N:St->Hp->Prop),(∀ σ' H',Pv (i+1) σ' H'->N σ' H')->xs.reverse[i]?=some x->Pv i σ H->g x σ H fun σ2 H2=>tb { D with nx:=N,ct:=N,bk:=D.nx } σ2 H2) (hd:∀ σ H,Pv xs.length σ H->D.nx σ H) :
   oH (Itv K a xs.length) D g tb σ H:=by
 refine ⟨fun i m σ H=>m=xs.length - i/\i<=xs.length/\Pv i σ H,⟨xs.length,by simp,Nat.zero_le _,h0⟩,?_⟩;rintro i m σ H ⟨rfl,hi,p⟩;have q:=hl i σ H hi p;by_cases hlt:i<xs.length
 . have hx:xs[xs.length - 1 - i]?=some xs[xs.length - 1 - i]:=List.getElem?_eq_getElem (by omega);refine .inr ⟨⟨hlt,xs,_,q,hx⟩,fun σ' H'=>∃ m',m'<xs.length - i/\(m'=xs.length - (i+1)/\i+1<=xs.length/\Pv (i+1) σ' H'),fun σ' H' z=>z,fun x H' y=>?_⟩;obtain ⟨e,y⟩:=y;subst e;exact hs i x σ _ _ (fun σ' H' p'=>⟨xs.length - (i+1),by omega,rfl,hlt,p'⟩) (by rw [List.getElem?_reverse hlt];exact y xs q) p
 . have e:i=xs.length:=by omega
   subst e;exact .inl ⟨Nat.le_refl _,hd σ H p⟩
end L2
set_option Elab.async false
set_option linter.all false
set_option maxRecDepth 100000
namespace L2
open PySem PySem.Spec PyProof.Rows
def G9 (te:TE):TE:=fun σ H Q=>te σ H fun x H1=>∃ i,x=.int i/\0<=i/\i<=100000/\∀ l,H1 l=none->Q (.ref l) (upd H1 l (.lst ((Pb.below i.toNat).map V.int)))
section
variable {X:Cx} {e:Expr} {te:TE} {p1 p2 pos pos2:Pos}
end
end L2
set_option Elab.async false
set_option linter.all false
set_option maxRecDepth 100000
namespace L2
open PySem PySem.Spec PyProof.Rows PySem.W
section
variable {X:Cx}
end
end L2
set_option Elab.async false
set_option linter.all false
set_option maxRecDepth 100000
namespace L2
open PySem PySem.Spec PyProof.Rows
theorem Nu:bootBuiltins "sum"=some (.builtin "sum"):=by decide +kernel
theorem wF (ns:List Int):∀ n,n<=ns.length->preSum (fun i=>ns.getD i 0) n=(ns.take n).sum
 | 0,_=>by simp [preSum]
 | n+1,h=>by
   have ih:=wF ns n (by omega);have hn:n<ns.length:=by omega
   rw [List.take_succ,List.getElem?_eq_getElem hn,List.sum_append,<- ih];simp [preSum,List.getD,hn]
section
variable {X:Cx}
theorem Kd (hc:X.calm=true):fD X (.builtin "sum") (fun xs H Q=>∃ (p:Addr) (ns:List Int),xs=[.ref p]/\(SqL X.K H p (ns.map V.int)\/SqT X.K H p (ns.map V.int))/\Q (.int ns.sum) H):=by
 intro pins s σ H xs us Q I r h;obtain ⟨p,ns,rfl,hp,q⟩:=h;obtain ⟨u,rfl,ru⟩:=sk r;cases ru;have hh:X.A.in1.handled=none:=I.ok.hd hc;have vals:∀ {its:List Value},Vals (ns.map V.int) its->its.length=ns.length/\∀ (i:Nat) (v:Value),its.toArray[i]?=some v->∃ t,v=Value.int (ns.getD i 0) t:=by
   intro its rv;have hlen:its.length=ns.length:=by rw [<- rv.length,List.length_map]
   refine ⟨hlen,fun i v hP=>?_⟩;have hi:its[i]?=some v:=by simpa using hP
   have hib:i<ns.length:=by rw [<- hlen];exact (List.getElem?_eq_some_iff.mp hi).1
   obtain ⟨u,hu,ru⟩:=rv.get (i:=i) (x:=V.int ns[i]) (by rw [List.getElem?_map,List.getElem?_eq_getElem hib];rfl);rw [hi] at hu;cases hu;obtain ⟨t,e⟩:=(show ∃ t,v=Value.int ns[i] t from ru);exact ⟨t,by rw [e];simp [List.getD,hib]⟩
 have fin:∀ {n:Nat},n=ns.length->preSum (fun i=>ns.getD i 0) n=ns.sum:=fun {n} e=>by rw [wF ns n (by omega),List.take_of_length_le (by omega)]
 rcases hp with hp|hp
 . obtain ⟨its,rv,pl,hz⟩:=I.list hp;obtain ⟨hlen,hv⟩:=vals rv;have hl:=pl.isList;have hlt:=pl.lt;refine call_sum_walkG (wpAny_pyIter_list hl ?_);refine ⟨s.heap.objs.size,[s.heap.objs.size,p],[s.heap.objs.size],its.toArray.size,_,_,fun i=>ns.getD i 0,rfl,Walks.list (A:=X.A.in1) hh _ p (Nat.ne_of_lt hlt) its.toArray,
     ⟨⟨_,Heap.get?_push_size _ rfl,rfl,rfl⟩,hl.push _⟩,fun b hb=>?_,fun i v hP=>hv i v hP,fun h' tk t' hk=>?_⟩
   . simp only [Heap.push,Array.size_push];rcases List.mem_cons.mp hb with e|e
     . rw [e];exact Nat.lt_succ_self _
     . rw [List.mem_singleton.mp e];exact Nat.lt_succ_of_lt hlt
   . have kk:∀ b o,s.heap.get? b=some o->h'.get? b=some o:=fun b o eb=>hk b o (fun hm=>by rw [List.mem_singleton.mp hm] at eb;exact Nat.lt_irrefl _ (Heap.lt_size eb)) (Heap.get?_push_of_some _ eb);rw [fin (by rw [List.size_toArray,hlen])];exact ⟨.int _,H,I.kept (t':=tk) kk,⟨t',rfl⟩,q⟩
 . obtain ⟨its,rv,pl,hz⟩:=I.tuple hp;obtain ⟨hlen,hv⟩:=vals rv;have hl:s.heap.IsTuple p its.toArray:=pl;have hlt:p<s.heap.objs.size:=by
     obtain ⟨o,e,_⟩:=id hl;exact Heap.lt_size e
   refine call_sum_walkG (wpAny_pyIter_tuple hl ?_);refine ⟨s.heap.objs.size,[s.heap.objs.size,p],[s.heap.objs.size],its.toArray.size,_,_,fun i=>ns.getD i 0,rfl,Walks.tuple (A:=X.A.in1) hh _ p (Nat.ne_of_lt hlt) its.toArray,
     ⟨⟨_,Heap.get?_push_size _ rfl,rfl,rfl⟩,hl.push _⟩,fun b hb=>?_,fun i v hP=>hv i v hP,fun h' tk t' hk=>?_⟩
   . simp only [Heap.push,Array.size_push];rcases List.mem_cons.mp hb with e|e
     . rw [e];exact Nat.lt_succ_self _
     . rw [List.mem_singleton.mp e];exact Nat.lt_succ_of_lt hlt
   . have kk:∀ b o,s.heap.get? b=some o->h'.get? b=some o:=fun b o eb=>hk b o (fun hm=>by rw [List.mem_singleton.mp hm] at eb;exact Nat.lt_irrefl _ (Heap.lt_size eb)) (Heap.get?_push_of_some _ eb);rw [fin (by rw [List.size_toArray,hlen])];exact ⟨.int _,H,I.kept (t':=tk) kk,⟨t',rfl⟩,q⟩
end
def OH (_ j:Int):Prop:=0<j/\j<18446744073709551616
theorem B8 {X:Cx}:OpR X (binaryOp .FloorDiv) (rI OH fun i j=>.int (i / j)):=opI fun i j _ _ _ _ _ hc q=>by
 have h1:(0:Int)<j:=hc.1;have h2:j<18446744073709551616:=hc.2;refine floordiv_int (by omega) (by rw [Int.fdiv_eq_ediv_of_nonneg i (by omega)];exact q) (.inl ?_);have h3:j.natAbs.log2<64:=(Nat.log2_lt (by omega)).mpr (by omega);unfold Builtin.divisionGoesByPylong;have hz:(j == 0)=false:=by simp;omega
 simp only [hz,Bool.false_eq_true,if_false];have:¬ (j.natAbs.log2 / 30+1 > 300):=by omega
 simp [this]
theorem EB {X:Cx} (K:PySem.W.Frag) (hK:X.K=K) {es:List Expr} {k:Nat} {pos:Pos} {t:TGs} {n:Nat} (hc:X.calm=true) (h:PGs X es t)
   (hn:(assignEach es X.env).length=n:=by rfl) (hst:(assignEach es X.env).findIdx? (·.1)=none:=by rfl):PG X (.Tuple es k pos) (FP K n t):=by
 subst hK;exact ua hc h hn hst
theorem Lx {K:PySem.W.Frag} {c d:Bool} {a b p:Addr} {xs zs:List V} {Q:VK} {g:TG} {tc:TT} {te:TE} {σ0:St} {H0:Hp} (Pv:Nat->List V->St->Hp->Prop) (h0:Pv 0 [] σ0 H0) (hl:∀ i ys σ H,Pv i ys σ H->SqX K c H a xs/\SqX K d H b zs)
   (hs:∀ (i:Nat) (x z:V) (ys:List V) (σ:St) (H:Hp) (q:Addr) (N:List V->St->Hp->Prop),(∀ ys' σ' H',Pv (i+1) ys' σ' H'->N ys' σ' H')->xs[i]?=some x->zs[i]?=some z->Pv i ys σ H->H q=none->g (.ref q) σ (upd H q (.tup [x,z])) fun σ2 H2=>tc σ2 H2 fun b H3 =>
     if b=true then te σ2 H3 fun y H4=>H4 p=some (.lst ys)/\ys.length<sizeLine/\N (ys++[y]) σ2 (upd H4 p (.lst (ys++[y]))) else N ys σ2 H3)
   (hd:∀ ys σ H,Pv (min xs.length zs.length) ys σ H->Q (.ref p) H):qQ (Itz K c d a b) p Q g tc te σ0 H0:=by
 refine ⟨fun i m ys σ H=>m=min xs.length zs.length - i/\i<=min xs.length zs.length/\Pv i ys σ H,⟨_,rfl,Nat.zero_le _,h0⟩,?_⟩;rintro i m ys σ H ⟨rfl,hi,pv⟩;obtain ⟨q1,q2⟩:=hl i ys σ H pv;by_cases hlt:i<min xs.length zs.length
 . refine .inr ⟨⟨xs,zs,xs[i]'(by omega),zs[i]'(by omega),q1,q2,List.getElem?_eq_getElem (by omega),List.getElem?_eq_getElem (by omega)⟩,fun x H' y=>?_⟩;obtain ⟨p',x',y',hp,rfl,rfl,e1,e2⟩:=y;exact hs i x' y' ys σ H p' (fun ys' σ' H'=>∃ m',m'<min xs.length zs.length - i/\(m'=min xs.length zs.length - (i+1)/\i+1<=min xs.length zs.length/\Pv (i+1) ys' σ' H')) (fun ys' σ' H' pv'=>⟨min xs.length zs.length - (i+1),by omega,rfl,hlt,pv'⟩) (e1 xs q1) (e2 zs q2) pv hp
 . have e:i=min xs.length zs.length:=by omega
   subst e;exact .inl ⟨⟨xs,zs,q1,q2,by omega⟩,hd ys σ H pv⟩
theorem wW {H:Hp} {l:Addr} {xs:List V} {i:Int} {v:V} {Q:Hp->Prop} (h:H l=some (.lst xs)) (i0:0<=i) (i1:i<xs.length) (q:Q (upd H l (.lst (xs.set i.toNat v)))):rSetL (.ref l) (.int i) v H Q :=
 ⟨l,xs,i,i.toNat,rfl,rfl,h,by unfold ixN;rw [if_pos i0,if_pos (by omega)],q⟩
theorem atG {xs:List Int} {i:Int} (i0:0<=i) (i1:i<xs.length):atI (xs.map V.int) i=some (.int (xs.getD i.toNat 0)):=gF i0 (by
 have h:i.toNat<xs.length:=by omega
 rw [List.getElem?_map,List.getElem?_eq_getElem h];simp [List.getD,h])
theorem Ow (n:Nat) (v:V):(List.replicate n [v]).flatten=List.replicate n v:=by
 induction n with
 | zero=>rfl
 | succ n ih=>rw [List.replicate_succ,List.flatten_cons,ih,List.replicate_succ];rfl
theorem Nt {xs:List Int} {n:Nat} {v:Int} (h:∀ x∈xs,0<=x) (hv:0<=v):∀ x∈xs.set n v,0<=x:=fun x hx=>by
 rcases List.mem_or_eq_of_mem_set hx with h1|h1
 . exact h x h1
 . rw [h1];exact hv
theorem Cf {X:Cx}:N8 X (CJ X.K):=by
 intro pins s σ H x y v u Q I rx ry h;obtain ⟨p,xs,i,z,rfl,rfl,hq,he,q⟩:=h;cases rx;obtain ⟨t,rfl⟩:=ry;obtain ⟨its,r,pl,hz⟩:=I.list hq;obtain ⟨j,h1,h2,h3,h4,h5⟩:=zN he;obtain ⟨w,ew,rw'⟩:=r.get h2;have hl:=r.length;have hn:=om;have fin:EP X pins σ Q w s:=⟨z,H,I,rw',q⟩;by_cases h0:0<=i
 . have hj:i.toNat=j:=by
     rw [seqIndex_of h0 h5] at h1;exact Option.some.inj h1
   exact wpAny_getItem_list pl.isList h0 (by omega) (by rw [hj];simpa using ew) fin
 . have hj:(i+(its.toArray.size:Int)).toNat=j:=by
     rw [seqIndex_neg (by omega) h4] at h1;rw [List.size_toArray,<- hl];exact Option.some.inj h1
   exact wpAny_getItem_list_neg pl.isList (by omega) (by rw [List.size_toArray] <;> omega) (by omega) (by rw [hj];simpa using ew) fin
theorem KI {K:PySem.W.Frag} {a p:Addr} {xs:List V} {Q:VK} {g:TG} {tc:TT} {te:TE} {σ0:St} {H0:Hp} (Pv:Nat->List V->St->Hp->Prop) (h0:Pv 0 [] σ0 H0) (hl:∀ i ys σ H,i<=xs.length->Pv i ys σ H->SqL K H a xs)
   (hs:∀ (i:Nat) (x:V) (ys:List V) (σ:St) (H:Hp) (N:List V->St->Hp->Prop),(∀ ys' σ' H',Pv (i+1) ys' σ' H'->N ys' σ' H')->xs.reverse[i]?=some x->Pv i ys σ H->g x σ H fun σ2 H2=>tc σ2 H2 fun b H3 =>
     if b=true then te σ2 H3 fun y H4=>H4 p=some (.lst ys)/\ys.length<sizeLine/\N (ys++[y]) σ2 (upd H4 p (.lst (ys++[y]))) else N ys σ2 H3)
   (hd:∀ ys σ H,Pv xs.length ys σ H->Q (.ref p) H):qQ (Itv K a xs.length) p Q g tc te σ0 H0:=by
 refine ⟨fun i m ys σ H=>m=xs.length - i/\i<=xs.length/\Pv i ys σ H,⟨xs.length,by simp,Nat.zero_le _,h0⟩,?_⟩;rintro i m ys σ H ⟨rfl,hi,pv⟩;have q:=hl i ys σ H hi pv;by_cases hlt:i<xs.length
 . have hx:xs[xs.length - 1 - i]?=some xs[xs.length - 1 - i]:=List.getElem?_eq_getElem (by omega);refine .inr ⟨⟨hlt,xs,_,q,hx⟩,fun x H' y=>?_⟩;obtain ⟨e,y⟩:=y;subst e;exact hs i x ys σ _ (fun ys' σ' H'=>∃ m',m'<xs.length - i/\(m'=xs.length - (i+1)/\i+1<=xs.length/\Pv (i+1) ys' σ' H')) (fun ys' σ' H' pv'=>⟨xs.length - (i+1),by omega,rfl,hlt,pv'⟩) (by rw [List.getElem?_reverse hlt];exact y xs q) pv
 . have e:i=xs.length:=by omega
   subst e;exact .inl ⟨Nat.le_refl _,hd ys σ H pv⟩
end L2
set_option Elab.async false
set_option linter.all false
set_option maxRecDepth 100000
namespace Pb
open L2
def After (par:Int->Int):List Int->List Int->Prop
 | _,[]=>True
 | S,c::t=>par c∈S/\After par (c::S) t
section
variable {m:Int} {rs:List Road} {r:Int} {par:Int->Int} {dep:Int->Nat}
theorem After.mono:∀ {l S S':List Int},(∀ x∈S,x∈S')->After par S l->After par S' l
 | [],_,_,_,_=>trivial
 | c::t,S,S',h,a=>⟨h _ a.1,After.mono (fun x hx=>by
     rcases List.mem_cons.mp hx with e|e
     . exact List.mem_cons.mpr (.inl e)
     . exact List.mem_cons_of_mem _ (h x e)) a.2⟩
theorem After.append:∀ {l1 l2 S:List Int},After par S l1->After par S l2->After par S (l1++l2)
 | [],_,_,_,b=>b
 | c::t,l2,S,a,b=>⟨a.1,After.append a.2 (b.mono fun x hx=>List.mem_cons_of_mem _ hx)⟩
theorem After.up:∀ {A B S:List Int},After par S (A++B)->∀ k∈A,par k∈S\/par k∈A
 | [],_,_,_,k,hk=>by cases hk
 | c::t,B,S,a,k,hk=>by
   rcases List.mem_cons.mp hk with e|e
   . rw [e];exact .inl a.1
   . rcases After.up (A:=t) (B:=B) a.2 k e with h|h
     . rcases List.mem_cons.mp h with h|h
       . exact .inr (by rw [h];exact List.mem_cons_self)
       . exact .inl h
     . exact .inr (List.mem_cons_of_mem _ h)
structure Order (m r:Int) (par:Int->Int) (t:List Int):Prop where
 nd:(r::t).Nodup
 rng:∀ v∈t,0<=v/\v<m
 all:∀ v,0<=v->v<m->v=r\/v∈t
 af:After par [r] t
theorem Order.ne {t:List Int} (O:Order m r par t) {v:Int} (h:v∈t):v≠r:=fun z=>(List.nodup_cons.mp O.nd).1 (z ▸ h)
theorem yS (g:Good m rs) (R:Rooted m rs r par dep):∀ (n:Nat) (v:Int) (S:List Int),0<=v->v<m->par v∈S->After par S (lR m rs r par n v)
 | 0,v,S,_,_,h=>⟨h,trivial⟩
 | n+1,v,S,h0,h1,h=>by
   refine ⟨h,?_⟩;have:∀ (ks:List Int) (S:List Int),v∈S->(∀ u∈ks,u∈bq m rs (front r par v) v)->After par S (ks.flatMap (lR m rs r par n)):=by
     intro ks
     induction ks with
     | nil=>intro S _ _;exact trivial
     | cons u ks ih =>
       intro S hv hk;rw [List.flatMap_cons];obtain ⟨w1,w2,w3⟩:=(dj g R h0 h1).mp (hk u List.mem_cons_self);exact (yS g R n u S w1.1 w1.2 (by rw [w3];exact hv)).append (ih S hv fun x hx=>hk x (List.mem_cons_of_mem _ hx))
   exact this _ _ List.mem_cons_self fun u hu=>hu
theorem Fl (g:Good m rs) (R:Rooted m rs r par dep) (r0:0<=r) (r1:r<m) (nd:(jt m rs r par dep r).Nodup) (al:∀ v,v∈jt m rs r par dep r↔0<=v/\v<m):∃ t,jt m rs r par dep r=r::t/\Order m r par t:=by
 have e:=Ax g R r0 r1;refine ⟨_,e,?_⟩;rw [e] at nd al;refine ⟨nd,fun v hv=>(al v).mp (List.mem_cons_of_mem _ hv),fun v h0 h1=>List.mem_cons.mp ((al v).mpr ⟨h0,h1⟩),?_⟩;have:∀ ks:List Int,(∀ u∈ks,u∈bq m rs (front r par r) r)->After par [r] (ks.flatMap (jt m rs r par dep)):=by
   intro ks
   induction ks with
   | nil=>intro _;exact trivial
   | cons u ks ih =>
     intro hk;rw [List.flatMap_cons];obtain ⟨w1,w2,w3⟩:=(dj g R r0 r1).mp (hk u List.mem_cons_self);exact (yS g R _ u [r] w1.1 w1.2 (by rw [w3];exact List.mem_cons_self)).append (ih fun x hx=>hk x (List.mem_cons_of_mem _ hx))
 exact this _ fun u hu=>hu
def B7 (m:Int) (rs:List Road) (r:Int) (par:Int->Int) (held:Int->Int) (con:Int->Int->Int):Nat->Int->Int
 | 0,v=>held v
 | n+1,v=>held v+((bq m rs (front r par v) v).map fun c=>con c (B7 m rs r par held con n c)).sum
def gat (m:Int) (rs:List Road) (r:Int) (par:Int->Int) (dep:Int->Nat) (held:Int->Int) (con:Int->Int->Int) (v:Int):Int:=B7 m rs r par held con (m.toNat - 1 - dep v) v
variable {held:Int->Int} {con:Int->Int->Int}
theorem KO (g:Good m rs) (R:Rooted m rs r par dep) {v:Int} (h0:0<=v) (h1:v<m):gat m rs r par dep held con v=held v+((bq m rs (front r par v) v).map fun c=>con c (gat m rs r par dep held con c)).sum:=by
 have mk:∀ u,u∈bq m rs (front r par v) v->(0<=u/\u<m)/\u≠r/\par u=v:=fun u=>(dj g R h0 h1).mp;have du:∀ u∈bq m rs (front r par v) v,dep u=dep v+1/\dep u+1<=m.toNat:=fun u hu=>by
   obtain ⟨w1,w2,w3⟩:=mk u hu;have:=R.pos w1.1 w1.2 w2;rw [w3] at this;exact ⟨this,tY R w1.1 w1.2⟩
 unfold gat;cases e:m.toNat - 1 - dep v with
 | zero =>
   have:bq m rs (front r par v) v=[]:=List.eq_nil_iff_forall_not_mem.mpr fun u hu=>by
     have:=du u hu;omega
   rw [this];simp [B7]
 | succ n =>
   show held v+_=_;rw [List.map_congr_left fun u hu=>show con u (B7 m rs r par held con n u)=con u (B7 m rs r par held con (m.toNat - 1 - dep u) u) by rw [show m.toNat - 1 - dep u=n by have:=du u hu;omega]]
theorem K8 {l l':List Int} (h:l.Perm l'):l.sum=l'.sum:=by
 induction h with
 | nil=>rfl
 | cons x _ ih=>rw [List.sum_cons,List.sum_cons,ih]
 | swap x y l=>simp only [List.sum_cons];omega
 | trans _ _ h1 h2=>exact h1.trans h2
def we (par:Int->Int) (con:Int->Int->Int) (cs:List Int) (v:Int):List Int:=cs.set (par v).toNat (cs.getD (par v).toNat 0+con v (cs.getD v.toNat 0))
structure Sofar (m:Int) (rs:List Road) (r:Int) (par:Int->Int) (dep:Int->Nat) (held:Int->Int) (con:Int->Int->Int) (t cs:List Int):Prop where
 len:(cs.length:Int)=m
 val:∀ v,0<=v->v<m->cs.getD v.toNat 0=held v+((t.filter fun c=>decide (par c=v)).map fun c=>con c (gat m rs r par dep held con c)).sum
theorem Sofar.nil {hs:List Int} (h:(hs.length:Int)=m):Sofar m rs r par dep (fun v=>hs.getD v.toNat 0) con [] hs:=⟨h,fun v _ _=>by simp⟩
theorem Ej (g:Good m rs) (R:Rooted m rs r par dep) {t:List Int} (nd:t.Nodup) (tr:∀ x∈t,(0<=x/\x<m)/\x≠r) {v:Int} (h0:0<=v) (h1:v<m) (hk:∀ k,0<=k->k<m->k≠r->par k=v->k∈t):(t.filter fun c=>decide (par c=v)).Perm (bq m rs (front r par v) v):=by
 refine me (nd.filter _) rf fun x=>?_;rw [List.mem_filter,dj g R h0 h1,decide_eq_true_eq];exact ⟨fun h=>⟨(tr x h.1).1,(tr x h.1).2,h.2⟩,fun h=>⟨hk x h.1.1 h.1.2 h.2.1 h.2.2,h.2.2⟩⟩
theorem Sofar.full (g:Good m rs) (R:Rooted m rs r par dep) {t cs:List Int} (s:Sofar m rs r par dep held con t cs) (nd:t.Nodup) (tr:∀ x∈t,(0<=x/\x<m)/\x≠r) {v:Int} (h0:0<=v) (h1:v<m) (hk:∀ k,0<=k->k<m->k≠r->par k=v->k∈t):cs.getD v.toNat 0=gat m rs r par dep held con v:=by
 rw [s.val v h0 h1,KO g R h0 h1,K8 ((Ej g R nd tr h0 h1 hk).map _)]
theorem Sofar.step (g:Good m rs) (R:Rooted m rs r par dep) {t cs:List Int} (s:Sofar m rs r par dep held con t cs) {v:Int} (h0:0<=v) (h1:v<m) (hr:v≠r) (e:cs.getD v.toNat 0=gat m rs r par dep held con v):Sofar m rs r par dep held con (v::t) (we par con cs v) where
 len:=by unfold we;rw [List.length_set];exact s.len
 val:=fun u u0 u1=>by
   have pu:=(R.up v h0 h1 hr).1;have sl:=s.len;have vu:=s.val u u0 u1;unfold we;rw [e];by_cases c:par v=u
   . have hl:u.toNat<cs.length:=(by omega);rw [List.filter_cons_of_pos (by simpa using c),List.map_cons,List.sum_cons,c];rw [show (cs.set u.toNat (cs.getD u.toNat 0+con v (gat m rs r par dep held con v))).getD u.toNat 0=cs.getD u.toNat 0+con v (gat m rs r par dep held con v) by simp [List.getD,hl],vu];omega
   . rw [List.filter_cons_of_neg (by simpa using c),<- vu];have:(par v).toNat≠u.toNat:=(by omega);simp [List.getD,List.getElem?_set_ne this]
theorem Order.places {t:List Int} (O:Order m r par t):∀ x∈t,(0<=x/\x<m)/\x≠r:=fun x hx=>⟨O.rng x hx,O.ne hx⟩
theorem Order.turn (g:Good m rs) (R:Rooted m rs r par dep) {t cs:List Int} (O:Order m r par t) {i:Nat} {v:Int} (s:Sofar m rs r par dep held con (t.drop (t.length - i)) cs) (hv:t.reverse[i]?=some v) :
   ((0<=v/\v<m)/\v≠r)/\cs.getD v.toNat 0=gat m rs r par dep held con v/\Sofar m rs r par dep held con (t.drop (t.length - (i+1))) (we par con cs v):=by
 have hi:i<t.length:=by
   have:=(List.getElem?_eq_some_iff.mp hv).1
   rwa [List.length_reverse] at this
 rw [List.getElem?_reverse hi] at hv;generalize hj:t.length - 1 - i=j at hv;have ej:t.length - i=j+1:=by omega
 have ej':t.length - (i+1)=j:=by omega
 rw [ej] at s;rw [ej'];have hjl:j<t.length:=by omega
 have vm:v∈t:=List.mem_of_getElem? hv;have vp:=O.places v vm;have ed:t.drop j=v::t.drop (j+1):=by
   rw [List.drop_eq_getElem_cons hjl];rw [List.getElem?_eq_getElem hjl] at hv;cases hv
   rfl
 have es:t=t.take j++v::t.drop (j+1):=by rw [<- ed,List.take_append_drop]
 have ndt:=(List.nodup_cons.mp O.nd).2;have nd2:=ndt;rw [es] at nd2;have av:v ∉ t.take j:=fun z=>(List.nodup_append.mp nd2).2.2 v z v List.mem_cons_self rfl;have e:=s.full g R (ndt.sublist (List.drop_sublist _ _)) (fun x hx=>O.places x (List.mem_of_mem_drop hx)) vp.1.1 vp.1.2 fun k k0 k1 kr pk=>by
   rcases O.all k k0 k1 with z|z
   . exact absurd z kr
   . rw [es] at z;rcases List.mem_append.mp z with z|z
     . have af:=O.af;rw [es] at af;rcases af.up k z with w|w
       . rw [pk] at w;exact absurd (List.mem_singleton.mp w) vp.2
       . rw [pk] at w;exact absurd w av
     . rcases List.mem_cons.mp z with z|z
       . subst z;exact absurd pk (R.ne k0 k1 kr)
       . exact z
 exact ⟨vp,e,by rw [ed];exact s.step g R vp.1.1 vp.1.2 vp.2 e⟩
def wT (m:Int) (rs:List Road) (r:Int) (par:Int->Int) (dep:Int->Nat) (held:Int->Int) (con:Int->Int->Int):List Int:=(below m.toNat).map (gat m rs r par dep held con)
theorem JI {v:Int} (h0:0<=v) (h1:v<m):(wT m rs r par dep held con).getD v.toNat 0=gat m rs r par dep held con v:=by
 unfold wT;rw [List.getD,List.getElem?_map,fe (by omega),Int.toNat_of_nonneg h0]
 rfl
theorem Order.done (g:Good m rs) (R:Rooted m rs r par dep) {t cs:List Int} (O:Order m r par t) (s:Sofar m rs r par dep held con t cs):cs=wT m rs r par dep held con:=by
 have sl:=s.len;refine List.ext_getElem? fun i=>?_;by_cases h:i<m.toNat
 . have hc:i<cs.length:=by omega
   have e:=s.full g R (List.nodup_cons.mp O.nd).2 O.places (v:=(i:Int)) (by omega) (by omega) fun k k0 k1 kr pk=>(O.all k k0 k1).resolve_left kr;unfold wT;rw [List.getElem?_map,fe h];rw [Int.toNat_natCast,List.getD,List.getElem?_eq_getElem hc] at e;rw [List.getElem?_eq_getElem hc];exact congrArg some e
 . unfold wT;rw [List.getElem?_eq_none (by omega),List.getElem?_eq_none (by rw [List.length_map,bx];omega)]
end
end Pb
set_option Elab.async false
set_option linter.all false
set_option maxRecDepth 100000
namespace Pb
open L2
section
variable {m:Int} {rs:List Road} {r:Int} {par:Int->Int} {dep:Int->Nat} {held:Int->Int}
end
section
open PySem
end
end Pb
set_option Elab.async false
set_option linter.all false
set_option maxRecDepth 100000
namespace L2
open PySem PySem.Spec PyProof.Rows
end L2
set_option Elab.async false
set_option linter.all false
set_option maxRecDepth 100000
namespace L2
open PySem PySem.Spec PyProof.Rows
def OQ (lo st:Int) (n:Nat):It:=⟨fun i _=>i<n,fun i H x H'=>H'=H/\x=.int (lo+i*st),fun i _=>n<=i⟩
def LO (ta:TA):TI:=fun σ H R=>ta σ H fun vs H1=>∃ i j c:Int,vs=[.int i,.int j,.int c]/\(0<=i/\i<=1000000/\0<=j/\j<=1000000/\0<c/\c<=1000000)/\R (OQ i c (Builtin.Range.rangeSize i j c).toNat) H1
section
variable {X:Cx} {tg:Expr}
end
end L2
set_option Elab.async false
set_option linter.all false
set_option maxRecDepth 100000
namespace L2
open PySem PySem.Spec PyProof.Rows
def Ii (K:PySem.W.Frag) (c:Bool):R2:=fun x y H Q=>∃ p xs i v,x=.ref p/\y=.int i/\SqX K c H p xs/\atI xs i=some v/\Q v H
theorem Nb {X:Cx} (c:Bool):IxR X (Ii X.K c):=by
 cases c
 . exact ie
 . exact bW
theorem MF {X:Cx} (c:Bool) (K:PySem.W.Frag) (h:X.K=K):IxR X (Ii K c):=by subst h;exact Nb c
theorem ixX {K:PySem.W.Frag} {c:Bool} {H:Hp} {p:Addr} {xs:List V} {i:Int} {v:V} {Q:VK} (h:SqX K c H p xs) (e:atI xs i=some v) (q:Q v H):Ii K c (.ref p) (.int i) H Q:=⟨p,xs,i,v,rfl,rfl,h,e,q⟩
theorem Mf {c:Prop} [Decidable c] {A B:Prop} {P:Int->Prop} (m1 m2:Int) (hB:P m2->B) (hA:P m1->A) (h:∀ m,(m=m1\/m=m2)->P m):if c then A else B:=by
 by_cases z:c
 . rw [if_pos z];exact hA (h _ (.inl rfl))
 . rw [if_neg z];exact hB (h _ (.inr rfl))
end L2
namespace Pb
open L2 PySem
theorem E1 {α β:Type} {R:α->β->Prop}:∀ (n:Nat) {l₁:List α} {l₂:List β},Paired R l₁ l₂->Paired R (l₁.take n) (l₂.take n)
 | 0,_,_,_=>by rw [List.take_zero,List.take_zero];exact .nil
 | _+1,_,_,.nil=>.nil
 | n+1,_,_,.cons x xs=>.cons x (E1 n xs)
theorem ET {α β:Type} {R:α->β->Prop}:∀ (n:Nat) {l₁:List α} {l₂:List β},Paired R l₁ l₂->Paired R (l₁.drop n) (l₂.drop n)
 | 0,_,_,h=>h
 | _+1,_,_,.nil=>.nil
 | n+1,_,_,.cons x xs=>ET n xs
theorem HK {α β:Type} {R:α->β->Prop} {k₁:List α} {k₂:List β} (h:Paired R k₁ k₂):∀ {l₁:List α} {l₂:List β},Paired R l₁ l₂->Paired R (l₁++k₁) (l₂++k₂)
 | _,_,.nil=>h
 | _,_,.cons x xs=>.cons x (HK h xs)
theorem Nm {α β:Type} {R:α->β->Prop} {ps:List α} {rs:List β} {q:α} {r:β} (n:Nat) (h:Paired R ps rs) (e:R q r):Paired R (ps.take n++q::ps.drop n) (rs.take n++r::rs.drop n):=HK (.cons e (ET n h)) (E1 n h)
theorem Cw (n:Nat):Labels n (below n):=⟨bx n,iZ n,fun v h0 h1=>d5.mpr ⟨h0,h1⟩,fun v h=>d5.mp h⟩
theorem xZ {n:Nat} {v:Int} (h0:0<=v) (h1:v<n):(below n).getD v.toNat 0=v:=by
 rw [List.getD,fe (by omega),Int.toNat_of_nonneg h0]
 rfl
theorem HE {n:Nat} {rows:List Row} {row:Row} (R:Rows n rows) (k:row.k=(n:Int)+1) (ok:RowOk row):Rows (n+1) (rows++[row]):=by
 have rl:=R.len;refine ⟨by rw [List.length_append,rl];rfl,fun j r hj=>?_⟩;by_cases hjl:j<rows.length
 . rw [List.getElem?_append_left hjl] at hj;exact R.ok j r hj
 . have hj2:j=rows.length:=by
     have:=(List.getElem?_eq_some_iff.mp hj).1;rw [List.length_append] at this;simp at this;omega
   rw [hj2,List.getElem?_append_right (Nat.le_refl _),Nat.sub_self] at hj;cases hj;exact ⟨by rw [hj2,rl];exact k,ok⟩
section
variable {m:Int} {rs:List Road} {r:Int} {par:Int->Int} {dep:Int->Nat}
theorem EG (g:Good m rs) (R:Rooted m rs r par dep) {v:Int} (h0:0<=v) (h1:v<m) (hr:v≠r):∃ k,cU rs (par v) v=some k/\2<=k/\k<=1000000:=by
 obtain ⟨x,hx,j⟩:=(R.up v h0 h1 hr).2.1;obtain ⟨i,hi⟩:=List.getElem?_of_mem hx;have ok:=g.ok x hx;have jj:vV x (par v) v:=by
   rcases j with ⟨a,b⟩|⟨a,b⟩
   . exact .inr ⟨b,a⟩
   . exact .inl ⟨b,a⟩
 rw [Aj g hi jj];unfold g6;by_cases c:x.a=par v/\x.b=v
 . rw [if_pos c];exact ⟨_,rfl,ok.t0,ok.t1⟩
 . rw [if_neg c];have c2:x.a=v/\x.b=par v:=by
     rcases jj with w|w
     . exact absurd w c
     . exact ⟨w.2,w.1⟩
   rw [if_pos c2];exact ⟨_,rfl,ok.u0,ok.u1⟩
theorem yp (i:Nat):below (i+1)=below i++[(i:Int)]:=by
 unfold below;rw [List.range_succ,List.map_append]
 rfl
end
end Pb
set_option Elab.async false
set_option linter.all false
set_option maxRecDepth 100000
namespace L2
open PySem PySem.Spec PyProof.Rows
theorem BL {P:Program} {w:World} {A:Around} {l:Addr} (c:Bool) {it:Addr} (hh:A.handled=none) (ne:l≠it) (its:Array Value):Draws P w A it [it,l] its.size (fun i v=>its[i]?=some v) (fun i h=>zAt l c it i h/\Fx l c h its) where
 live:=fun i h st=>let ⟨o,e,_⟩:=(dX l c P w).obj _ _ _ st.1;⟨o,e⟩
 frame:=fun i h h' st k=>⟨(dX l c P w).atK _ _ _ _ st.1 fun o e=>k it (by simp) o e,(dX l c P w).srcK _ _ _ st.2 fun o e=>k l (by simp) o e⟩
 item:=fun i s Q E hi st hq=>(dX l c P w).item A s it i its its[i] Q E st.1 st.2 (by simp [hi]) fun h' at' sb=>hq its[i] h' s.toks (by simp [hi]) ⟨at',(dX l c P w).srcK _ _ _ st.2 fun o e=>sb.extBut _ _ ne e⟩ sb
 done:=fun s Q E st hq=>(dX l c P w).fin A s it its.size its Q E hh st.1 st.2 (by simp) fun h' e eb he=>hq h' e eb he
section
variable {P:Program} {w:World} {A:Around} {E:Value->Shared->Prop} {s:Shared} {l:Addr} {ob:Obj} {src:Heap->Array Value->Prop} {at':Addr->Nat->Heap->Prop}
abbrev Bx (n:Nat):Obj:={ cls:=.type "enumerate",data:=.fields #[.none,.bool false,.ref n,rawInt 0,.none,.none] }
theorem y9 (S:∀ P w,SubF P w l ob src at') (xs:Array Value) :
   Meets (Builtin.«enumerate.__new__» ⟨[.type "enumerate",.ref l],[]⟩) (fun _ R s=>src s.heap xs/\R (.ok (.ret (.ref (s.heap.push ob).objs.size))) { s with heap:=(s.heap.push ob).push (Bx s.heap.objs.size) }) :=
 .of_wp fun prog w A R s hyp=>by
   obtain ⟨hp,g,d,tk,os⟩:=s;obtain ⟨q1,r⟩:=hyp;have zsub:=sub_enumerate;have B1:src (Shared.heap ⟨hp,g,d,tk,os⟩) xs:=q1
   wp_walk using ((S prog w).start _ _ _ _ _ B1)
   refine wpAny_stack_any fun st=>?_;dsimp only;refine wpAny_pure ?_;have go:∀ b:Bool,b=true\/b=false:=fun b=>by cases b <;> simp
   split
   . rename_i c _ _ _ _ _
     rcases go (c == Value.type "enumerate") with z|z
     . rw [z]
       wp_walk using ((S prog w).start _ _ _ _ _ B1)
       exact ⟨_,rfl,r⟩
     . rw [z]
       wp_walk using ((S prog w).start _ _ _ _ _ B1)
       exact ⟨_,rfl,r⟩
   . wp_walk using ((S prog w).start _ _ _ _ _ B1)
     exact ⟨_,rfl,r⟩
theorem Hy (S:∀ P w,SubF P w l ob src at') {xs:Array Value} {Q:Value->Shared->Prop} (q1:src s.heap xs) (f1:ob.isFreed=false)
   (h:∀ h',IsEnum h' (s.heap.objs.size+1) s.heap.objs.size 0 .none->at' s.heap.objs.size 0 h'->(∀ c o,s.heap.get? c=some o->h'.get? c=some o)->Q (.ref (s.heap.objs.size+1)) { s with heap:=h' }) :
   wpAny (model P w) A (call (.type "enumerate") [.ref l]) Q E s:=by
 refine callType_new F.called_enumerate (by decide) (F.typeCall_enumerate_1 _) (F.newCall_enumerate_1 _) (fun obj=>F.args_object_init_2 obj _) F.entry_enumerate_new (y9 S xs) ⟨q1,?_⟩;have n0:(s.heap.push ob).objs.size=s.heap.objs.size+1:=Heap.size_push ..;have c2:((s.heap.push ob).push (Bx s.heap.objs.size)).get? (s.heap.push ob).objs.size=some (Bx s.heap.objs.size):=Heap.get?_push_size _ rfl;have c1:((s.heap.push ob).push (Bx s.heap.objs.size)).get? s.heap.objs.size=some ob:=Heap.get?_push_of_some _ (Heap.get?_push_size _ f1);show _/\_;rw [n0] at c2;rw [n0];exact ⟨⟨_,c2,rfl⟩,h _ c2 ((S P w).first _ _ c1) fun c o e=>Heap.get?_push_of_some _ (Heap.get?_push_of_some _ e)⟩
end
def Ite (K:PySem.W.Frag) (c:Bool) (a:Addr):It :=
 ⟨fun i H=>∃ xs x,SqX K c H a xs/\xs[i]?=some x,
  fun i H v H'=>∃ p x,H p=none/\v=.ref p/\H'=upd H p (.tup [.int i,x])/\∀ xs,SqX K c H a xs->xs[i]?=some x,
  fun i H=>∃ xs,SqX K c H a xs/\xs.length=i⟩
theorem Hl {P:Program} {w:World} {K:PySem.W.Frag} {elts:List Expr} {x1} {tpos:Pos} (c:Bool) (a e it:Addr) (ne:e≠it) (ae:a≠e) (ai:a≠it) :
   Turn P w K (.Tuple elts x1 tpos) (Ite K c a) [e,it] e (fun i h=>(∃ old,IsEnum h e it (i:Nat) old)/\zAt a c it i h) where
 mem:=by simp
 obj:=fun i h t b hb=>by
   obtain ⟨⟨old,t1⟩,t2⟩:=t;simp only [List.mem_cons,List.mem_nil_iff,or_false] at hb;rcases hb with rfl|rfl
   . exact ⟨_,t1,fun v z=>by cases z⟩
   . exact (dX a c P w).obj _ _ _ t2
 keep:=fun i h h' t k=>by
   obtain ⟨⟨old,t1⟩,t2⟩:=t;exact ⟨⟨old,k e (by simp) _ t1⟩,(dX a c P w).atK _ _ _ _ t2 fun o e=>k it (by simp) o e⟩
 item:=fun X e1 e2 e3 hc i pins s σ H E I f t g=>by
   subst e1 e2 e3;obtain ⟨⟨old,t1⟩,t2⟩:=t;obtain ⟨xs,x,s1,hx⟩:=g;obtain ⟨us,r1,q1⟩:=I.sqX s1;obtain ⟨xu,hxu,rx⟩:=r1.get hx;have hh:X.A.in1.handled=none:=I.ok.hd hc;have fz:∀ q∈[e,it],jq X pins H q:=f;have W:=WalksT.enumerateD (A:=X.A) (BL (P:=X.prog) (w:=X.w) (A:=X.A.in1) (l:=a) c (it:=it) hh ai us.toArray) e ne (by simp;exact ⟨ne,ae.symm⟩) (by simp);have hil:i<us.toArray.size:=by
     have:=(List.getElem?_eq_some_iff.mp hxu).1
     simpa using this
   refine W.item i s _ _ hil ⟨⟨old,t1⟩,t2,q1⟩ fun T vals h' tk pt le tup mid keep=>?_;refine ⟨_,rfl,W.go elts x1 tpos i T { s with heap:=h',toks:=tk } _ _ mid fun h2 st2 keep2=>?_⟩;obtain ⟨tt,xv,px,ev⟩:=pt;have exv:xv=xu:=by
     have h1:us[i]?=some xv:=(by simpa using px);rw [hxu] at h1;cases h1
     rfl
   subst exv;have Tw:T ∉ [e,it]:=W.apart i T h' mid;have kp:∀ q o,q ∉ [e,it]->s.heap.get? q=some o->h2.get? q=some o:=fun q o hq eo=>keep2 q o hq (keep q o hq eo);obtain ⟨ot,ht,hct,nt,hdt⟩:=tup;have new:h2.get? T=some ot:=keep2 T ot Tw ht;have Hn:∀ q u,H q=some u->q ∉ [e,it]:=fun q u e hq=>by rw [(fz q hq).1] at e;cases e
   have nH:H T=none:=I.hok.fresh le;have Tb:∀ q o,s.heap.get? q=some o->q≠T:=fun q o eo=>Nat.ne_of_lt (Nat.lt_of_lt_of_le (Heap.lt_size eo) le);have I2:Inv X pins σ H { s with heap:=h2,toks:=tk }:=by
     refine I.step (g':=s.gens) (d':=s.drawn) (t':=tk) (ch:=[e,it]) (fun q hq=>⟨(fz q hq).2.2.2.1,(fz q hq).2.1,(fz q hq).2.2.2.2.1,(fz q hq).2.2.2.2.2⟩) (fun q o _ _ hq e _=>kp q o hq e) (fun q o _ _ hq e _=>⟨o.slots,kp q o hq e⟩) (fun _ _ _ _ n=>n)
       (fun q o hq e=>⟨o,kp q o hq e⟩) (fun _ _ e=>e) (fun _ _ _ e=>e) (fun q ps e=>⟨#[],by rw [e];simp⟩) (fun m hm=>?_) (fun q u e=>?_) I.bare
     . obtain ⟨o,es,ep,ho,r⟩:=hm;exact ⟨o,es,ep,kp _ o (fun hq=>(fz _ hq).2.1 rfl) ho,r⟩
     . refine (I.hok q u e).stay (fun q' v hq' e'=>kp q' v ?_ e') (fun _ e'=>e') fun _ _ e'=>e';rcases hq' with rfl|hq'
       . exact Hn _ u e
       . exact Hn _ _ hq'
   have I3:Inv X pins σ (upd H T (.tup [.int i,x])) { s with heap:=h2,toks:=tk }:=by
     refine ⟨I2.ok,I2.os,I2.bare,?_,I2.loc,I2.cell,?_,fun n c e=>?_,fun p hp=>?_,fun q u e=>?_,I2.len⟩
     . refine ⟨I2.base.keep,I2.base.slot,fun q o e n hx=>?_,I2.base.there,fun q xs e=>?_,fun q o u e=>?_,fun q ps e=>?_⟩
       . have lt:q<X.s₀.heap.objs.size:=Heap.lt_size e;rw [ar (Nat.ne_of_lt (Nat.lt_of_lt_of_le lt (Nat.le_trans I.sz le)))];exact I2.base.free q o e n hx
       . have e':=I2.base.tups q xs e;rw [ar (fun z=>by rw [z,nH] at e';cases e')];exact e'
       . have e':=I2.base.frzs q o u e;rw [ar (fun z=>by rw [z,nH] at e';cases e')];exact e'
       . obtain ⟨more,e'⟩:=I2.base.tbls q ps e;exact ⟨more,by rw [ar (fun z=>by rw [z,nH] at e';cases e')];exact e'⟩
     . rw [ar (Nat.ne_of_lt (Nat.lt_of_lt_of_le I.lt le))];exact I2.free
     . obtain ⟨vv,o,ho,_⟩:=I.cell n c e;rw [ar (Tb _ _ ho)];exact I2.freeC n c e
     . obtain ⟨k1,k2,k3⟩:=I.pin p hp;rw [ar (Tb _ _ k1)];exact I2.pin p hp
     . by_cases hq:q=T
       . subst hq;rw [ah] at e;cases e;refine ⟨by show 2<=sizeLine;decide,[.int (i:Nat) tt,xv],.cons ⟨tt,rfl⟩ (.cons rx .nil),ot,new,hct,nt,?_⟩;rw [hdt,ev]
       . rw [ar hq] at e;refine (I2.hok q u e).stay (fun _ _ _ e'=>e') (fun q' e'=>?_) fun q' xs e'=>?_
         . rw [ar (fun z=>by rw [z,nH] at e';cases e')];exact e'
         . rw [ar (fun z=>by rw [z,nH] at e';cases e')];exact e'
   refine ⟨.ref T,_,I3,rfl,⟨T,x,nH,rfl,rfl,fun xs' q=>?_⟩,⟨st2.1,st2.2.1⟩,fun q hq=>?_⟩
   . rw [<- I.sqX_inj s1 q];exact hx
   . have hlt:q≠T:=by
       simp only [List.mem_cons,List.mem_nil_iff,or_false] at hq;rcases hq with rfl|rfl
       . exact Tb _ _ t1
       . exact let ⟨o,e,_⟩:=(dX a c X.prog X.w).obj _ _ _ t2;Tb _ _ e
     rw [ar hlt];exact (fz q hq).1
 done:=fun X e1 e2 e3 hc i pins s σ H E I f t g=>by
   subst e1 e2 e3;obtain ⟨⟨old,t1⟩,t2⟩:=t;obtain ⟨xs,s1,hend⟩:=g;obtain ⟨us,r1,q1⟩:=I.sqX s1;have hh:X.A.in1.handled=none:=I.ok.hd hc;have fz:∀ q∈[e,it],jq X pins H q:=f;have W:=WalksT.enumerateD (A:=X.A) (BL (P:=X.prog) (w:=X.w) (A:=X.A.in1) (l:=a) c (it:=it) hh ai us.toArray) e ne (by simp;exact ⟨ne,ae.symm⟩) (by simp);have ei:i=us.toArray.size:=by
     have:=r1.length;simp;omega
   subst ei;refine W.done s _ _ ⟨⟨old,t1⟩,t2,q1⟩ fun h' tk keep=>⟨rfl,?_⟩;have kp:∀ q o,q ∉ [e,it]->s.heap.get? q=some o->h'.get? q=some o:=fun q o hq e=>keep q o hq e;have Hn:∀ q u,H q=some u->q ∉ [e,it]:=fun q u e hq=>by rw [(fz q hq).1] at e;cases e
   refine I.step (g':=s.gens) (d':=s.drawn) (t':=tk) (ch:=[e,it]) (fun q hq=>⟨(fz q hq).2.2.2.1,(fz q hq).2.1,(fz q hq).2.2.2.2.1,(fz q hq).2.2.2.2.2⟩) (fun q o _ _ hq e _=>kp q o hq e) (fun q o _ _ hq e _=>⟨o.slots,kp q o hq e⟩) (fun _ _ _ _ n=>n)
     (fun q o hq e=>⟨o,kp q o hq e⟩) (fun _ _ e=>e) (fun _ _ _ e=>e) (fun q ps e=>⟨#[],by rw [e];simp⟩) (fun m hm=>?_) (fun q u e=>?_) I.bare
   . obtain ⟨o,es,ep,ho,r⟩:=hm;exact ⟨o,es,ep,kp _ o (fun hq=>(fz _ hq).2.1 rfl) ho,r⟩
   . refine (I.hok q u e).stay (fun q' v hq' e'=>kp q' v ?_ e') (fun _ e'=>e') fun _ _ e'=>e';rcases hq' with rfl|hq'
     . exact Hn _ u e
     . exact Hn _ _ hq'
 self:=fun A i s Q E t q=>by
   obtain ⟨⟨old,t1⟩,t2⟩:=t;exact wpAny_pyIter_enum t1 q
def FT (K:PySem.W.Frag) (c:Bool) (tl:TE):TI:=fun σ H R=>tl σ H fun x H1=>∃ a,x=.ref a/\(∃ xs,SqX K c H1 a xs)/\R (Ite K c a) H1
section
variable {X:Cx} {e:Expr} {te:TE} {p2 pos:Pos}
theorem MJ {elts:List Expr} {x1} {tpos:Pos} (c:Bool) (hg:Gl X "enumerate") (hm:X.mg "enumerate"=none) (he:PE X e te) (h2:starEach [e] X.env=[(false,eval e X.env)]:=by rfl):PI X (.Tuple elts x1 tpos) (.Call (.Name "enumerate" p2) [e] [] pos) (FT X.K c te):=by
 intro pins s σ H R I h;refine Call_ (lA I hg hm boot_enumerate (PyProof.Rows.callWith_type1 ?_ h2 rfl));rw [h2];show wpAny _ _ (spliced ((false,eval e X.env)::backTo pos [])) _ _ s;refine Calls.spliced_cons (bF (he pins s σ H _ I h) fun u s1 x H1 I1 r1 q1=>Calls.spliced_nil ?_);obtain ⟨a,ex,⟨xs,sa⟩,q⟩:=q1;subst ex;cases r1;obtain ⟨us,r1,q1⟩:=I1.sqX sa;obtain ⟨oa,hoa⟩:=mz a c _ _ q1;have la:=Heap.lt_size hoa;refine Hy (dX a c) q1 (vF a c) fun h' w1 w2 w3=>?_;refine wpAny_pyIter_enum w1 ?_;refine ⟨_,[s1.heap.objs.size+1,s1.heap.objs.size],_,_,H1,rfl,I1.kept (t':=s1.toks) w3,Hl c a _ _ (Nat.succ_ne_self _) (Nat.ne_of_lt (Nat.lt_succ_of_lt la)) (Nat.ne_of_lt la),⟨⟨_,w1⟩,w2⟩,fun b hb=>?_,q⟩;have hle:s1.heap.objs.size<=b:=by
   simp only [List.mem_cons,List.mem_nil_iff,or_false] at hb;rcases hb with rfl|rfl
   . exact Nat.le_succ _
   . exact Nat.le_refl _
 exact I1.fpOk hle (I1.hok.fresh hle)
end
end L2
set_option Elab.async false
set_option linter.all false
set_option maxRecDepth 100000
namespace Pb
open L2 PySem
end Pb
namespace L2
open PySem PySem.Spec PyProof.Rows
def LH (i j k:Nat) (ta:TA):TS:=fun D σ H=>ta σ H fun vs H1=>∃ v w z,vs=[v,w,z]/\D.nx (((σ.set i (some v)).set j (some w)).set k (some z)) H1
end L2
set_option Elab.async false
set_option linter.all false
set_option maxRecDepth 100000
namespace Pb
open L2
section
variable {m:Int} {rs:List Road} {r:Int} {par:Int->Int} {dep:Int->Nat} {held held':Int->Int} {con:Int->Int->Int}
end
end Pb
set_option Elab.async false
set_option linter.all false
set_option maxRecDepth 100000
namespace L2
open PySem PySem.Spec PyProof.Rows
end L2
namespace Pb
open L2 PySem
end Pb
set_option Elab.async false
set_option linter.all false
set_option maxRecDepth 100000
namespace Pb
open L2 PySem
section
variable {m:Int} {rs:List Road}
end
end Pb
set_option Elab.async false
set_option linter.all false
set_option maxRecDepth 100000
namespace L2
open PySem PySem.Spec PyProof.Rows
section
variable {X:Cx} {i o:Expr} {ty td:TE}
def LP (ty td:TE):TE:=fun σ H Q=>ty σ H fun y H1=>td σ H1 fun x H2=>∃ a,x=.ref a/\((∃ o,DGet H2 a y o/\Q (.bl o.isSome) H2)\/(y=.non/\(∃ kvs,H2 a=some (.dK kvs))/\Q (.bl false) H2))
end
end L2
set_option Elab.async false
set_option linter.all false
set_option maxRecDepth 100000
namespace Pb
open L2 PySem
section
variable {m:Int} {rs:List Road} {r b:Int} {par:Int->Int} {dep:Int->Nat}
end
end Pb
namespace L2
theorem bM {A B:TS} {D:Ends} {σ:St} {H:Hp} (h:∀ N:St->Hp->Prop,(∀ σ' H',B D σ' H'->N σ' H')->A { D with nx:=N } σ H):Fu A B D σ H:=h (B D) fun _ _ z=>z
end L2
set_option Elab.async false
set_option linter.all false
set_option maxRecDepth 100000
namespace L2
open PySem
theorem lB {K:PySem.W.Frag} {a:Addr} {xs:List V} {g:TG} {tb:TS} {D:Ends} {σ:St} {H:Hp} (Pv:Nat->St->Hp->Prop) (h0:Pv 0 σ H) (hl:∀ i σ H,i<=xs.length->Pv i σ H->SqL K H a xs)
   (hs:∀ (i:Nat) (x:V) (σ:St) (H:Hp) (N B:St->Hp->Prop),(∀ σ H,(g x σ H fun σ2 H2=>tb { D with nx:=N,ct:=N,bk:=D.nx } σ2 H2)->B σ H)->(∀ σ' H',Pv (i+1) σ' H'->N σ' H')->xs[i]?=some x->Pv i σ H->B σ H)
   (hd:∀ (B:St->Hp->Prop) σ H,(∀ σ H,D.nx σ H->B σ H)->Pv xs.length σ H->B σ H):oH (Itl K a) D g tb σ H :=
 Au Pv h0 hl (fun i x σ H N hN hx p=>hs i x σ H N (fun σ H=>g x σ H fun σ2 H2=>tb { D with nx:=N,ct:=N,bk:=D.nx } σ2 H2) (fun _ _ z=>z) hN hx p) fun σ H p=>hd (fun σ H=>D.nx σ H) σ H (fun _ _ z=>z) p
theorem yZ {lo:Int} {n:Nat} {g:TG} {tb:TS} {D:Ends} {σ:St} {H:Hp} (Pv:Nat->St->Hp->Prop) (h0:Pv 0 σ H)
   (hs:∀ (i:Nat) (σ:St) (H:Hp) (N B:St->Hp->Prop),(∀ σ H,(g (.int (lo+i)) σ H fun σ2 H2=>tb { D with nx:=N,ct:=N,bk:=D.nx } σ2 H2)->B σ H)->(∀ σ' H',Pv (i+1) σ' H'->N σ' H')->i<n->Pv i σ H->B σ H)
   (hd:∀ (B:St->Hp->Prop) σ H,(∀ σ H,D.nx σ H->B σ H)->Pv n σ H->B σ H):oH (Itr lo n) D g tb σ H :=
 sq Pv h0 (fun i σ H N hN hi p=>hs i σ H N (fun σ H=>g (.int (lo+i)) σ H fun σ2 H2=>tb { D with nx:=N,ct:=N,bk:=D.nx } σ2 H2) (fun _ _ z=>z) hN hi p) fun σ H p=>hd (fun σ H=>D.nx σ H) σ H (fun _ _ z=>z) p
theorem EW {c:TT} {tb:TS} {D:Ends} {σ:St} {H:Hp} (W:Nat->St->Hp->Prop) (n0:Nat) (h0:W n0 σ H)
   (hs:∀ (n:Nat) (σ:St) (H:Hp) (N:St->Hp->Prop) (B:Nat->St->Hp->Prop),(∀ n σ H,(c σ H fun b H1=>if b=true then ∃ N:St->Hp->Prop,(∀ σ' H',N σ' H'->∃ m',m'<n/\W m' σ' H')/\tb { D with nx:=N,ct:=N,bk:=D.nx } σ H1 else D.nx σ H1)->B n σ H)->(∀ n' σ' H',n'<n->W n' σ' H'->N σ' H')->(∀ σ' H',N σ' H'->∃ m',m'<n/\W m' σ' H')->W n σ H->B n σ H):DD c tb D σ H :=
 ED W n0 h0 fun n σ H N hN hN2 w=>hs n σ H N (fun n σ H=>c σ H fun b H1=>if b=true then ∃ N:St->Hp->Prop,(∀ σ' H',N σ' H'->∃ m',m'<n/\W m' σ' H')/\tb { D with nx:=N,ct:=N,bk:=D.nx } σ H1 else D.nx σ H1) (fun _ _ _ z=>z) hN hN2 w
theorem ex6 {α0:Sort _} {α1:Sort _} {α2:Sort _} {α3:Sort _} {α4:Sort _} {α5:Sort _} {P:α0->α1->α2->α3->α4->α5->Prop} (a0:α0) (a1:α1) (a2:α2) (a3:α3) (a4:α4) (a5:α5) (h:P a0 a1 a2 a3 a4 a5):∃ a0 a1 a2 a3 a4 a5,P a0 a1 a2 a3 a4 a5:=⟨a0,a1,a2,a3,a4,a5,h⟩
theorem ex8 {α0:Sort _} {α1:Sort _} {α2:Sort _} {α3:Sort _} {α4:Sort _} {α5:Sort _} {α6:Sort _} {α7:Sort _} {P:α0->α1->α2->α3->α4->α5->α6->α7->Prop} (a0:α0) (a1:α1) (a2:α2) (a3:α3) (a4:α4) (a5:α5) (a6:α6) (a7:α7) (h:P a0 a1 a2 a3 a4 a5 a6 a7):∃ a0 a1 a2 a3 a4 a5 a6 a7,P a0 a1 a2 a3 a4 a5 a6 a7:=⟨a0,a1,a2,a3,a4,a5,a6,a7,h⟩
theorem ex9 {α0:Sort _} {α1:Sort _} {α2:Sort _} {α3:Sort _} {α4:Sort _} {α5:Sort _} {α6:Sort _} {α7:Sort _} {α8:Sort _} {P:α0->α1->α2->α3->α4->α5->α6->α7->α8->Prop} (a0:α0) (a1:α1) (a2:α2) (a3:α3) (a4:α4) (a5:α5) (a6:α6) (a7:α7) (a8:α8) (h:P a0 a1 a2 a3 a4 a5 a6 a7 a8):∃ a0 a1 a2 a3 a4 a5 a6 a7 a8,P a0 a1 a2 a3 a4 a5 a6 a7 a8:=⟨a0,a1,a2,a3,a4,a5,a6,a7,a8,h⟩
theorem an4 {p0 p1 p2 p3:Prop} (h0:p0) (h1:p1) (h2:p2) (h3:p3):p0/\p1/\p2/\p3:=⟨h0,h1,h2,h3⟩
theorem an6 {p0 p1 p2 p3 p4 p5:Prop} (h0:p0) (h1:p1) (h2:p2) (h3:p3) (h4:p4) (h5:p5):p0/\p1/\p2/\p3/\p4/\p5:=⟨h0,h1,h2,h3,h4,h5⟩
theorem an7 {p0 p1 p2 p3 p4 p5 p6:Prop} (h0:p0) (h1:p1) (h2:p2) (h3:p3) (h4:p4) (h5:p5) (h6:p6):p0/\p1/\p2/\p3/\p4/\p5/\p6:=⟨h0,h1,h2,h3,h4,h5,h6⟩
end L2
set_option Elab.async false
set_option linter.all false
set_option maxRecDepth 100000
namespace Pb
open L2 PySem
section
variable {m:Int} {rs:List Road} {r:Int} {par:Int->Int} {dep:Int->Nat}
variable {para parb parc:Int->Int} {depa depb depc:Int->Nat} {a b c:Int}
end
section
variable {m:Int} {rs:List Road} {r b:Int} {par:Int->Int} {dep:Int->Nat}
end
end Pb
set_option Elab.async false
set_option linter.all false
set_option maxRecDepth 100000
namespace Pb
open L2 PySem
section
variable {m:Int} {rs:List Road} {r b:Int} {par:Int->Int} {dep:Int->Nat}
end
end Pb
set_option Elab.async false
set_option linter.all false
namespace L2
open PySem
end L2
namespace Pb
open PySem L2
def ned (rs:List Road) (par:Int->Int) (v x:Int):Int:=x*(cU rs (par v) v).getD 1
end Pb
set_option Elab.async false
set_option linter.all false
set_option maxRecDepth 100000
set_option exponentiation.threshold 5000
namespace Pb
open L2 PySem
section
variable {m:Int} {rs:List Road} {r:Int} {par:Int->Int} {dep:Int->Nat}
variable {op:Int->Int->Int} {held:Int->Int} {con:Int->Int->Int}
theorem Order.cut (R:Rooted m rs r par dep) {t:List Int} (O:Order m r par t) {i:Nat} {v:Int} (hv:t.reverse[i]?=some v) :
   ((0<=v/\v<m)/\v≠r)/\t.drop (t.length - (i+1))=v::t.drop (t.length - i)/\(t.drop (t.length - i)).Nodup/\(∀ x∈t.drop (t.length - i),(0<=x/\x<m)/\x≠r)/\∀ k,0<=k->k<m->k≠r->par k=v->k∈t.drop (t.length - i):=by
 have hi:i<t.length:=by
   have:=(List.getElem?_eq_some_iff.mp hv).1
   rwa [List.length_reverse] at this
 rw [List.getElem?_reverse hi] at hv;generalize hj:t.length - 1 - i=j at hv;have ej:t.length - i=j+1:=by omega
 have ej':t.length - (i+1)=j:=by omega
 rw [ej,ej'];have hjl:j<t.length:=by omega
 have vm:v∈t:=List.mem_of_getElem? hv;have vp:=O.places v vm;have ed:t.drop j=v::t.drop (j+1):=by
   rw [List.drop_eq_getElem_cons hjl];rw [List.getElem?_eq_getElem hjl] at hv;cases hv
   rfl
 have es:t=t.take j++v::t.drop (j+1):=by rw [<- ed,List.take_append_drop]
 have ndt:=(List.nodup_cons.mp O.nd).2;have nd2:=ndt;rw [es] at nd2;have av:v ∉ t.take j:=fun z=>(List.nodup_append.mp nd2).2.2 v z v List.mem_cons_self rfl;refine ⟨vp,ed,ndt.sublist (List.drop_sublist _ _),fun x hx=>O.places x (List.mem_of_mem_drop hx),fun k k0 k1 kr pk=>?_⟩;rcases O.all k k0 k1 with z|z
 . exact absurd z kr
 . rw [es] at z;rcases List.mem_append.mp z with z|z
   . have af:=O.af;rw [es] at af;rcases af.up k z with w|w
     . rw [pk] at w;exact absurd (List.mem_singleton.mp w) vp.2
     . rw [pk] at w;exact absurd w av
   . rcases List.mem_cons.mp z with z|z
     . subst z;exact absurd pk (R.ne k0 k1 kr)
     . exact z
end
end Pb
set_option Elab.async false
set_option linter.all false
set_option maxRecDepth 100000
namespace L2
open PySem PySem.Spec PyProof.Rows
section
variable {X:Cx}
end
end L2
namespace Pb
end Pb
set_option Elab.async false
set_option linter.all false
set_option maxRecDepth 100000
namespace L2
open PySem PySem.Spec PyProof.Rows
theorem cC {l:List Addr} (h:l.Nodup) (i j:Nat) {a b:Addr} (hi:l[i]?=some a) (hj:l[j]?=some b) (ij:i≠j):a≠b:=fun z=>by
 subst z;obtain ⟨h1,e1⟩:=List.getElem?_eq_some_iff.mp hi;obtain ⟨h2,e2⟩:=List.getElem?_eq_some_iff.mp hj;rcases Nat.lt_or_gt_of_ne ij with q|q
 . exact List.pairwise_iff_getElem.mp h i j h1 h2 q (e1.trans e2.symm)
 . exact List.pairwise_iff_getElem.mp h j i h2 h1 q (e2.trans e1.symm)
inductive ClsAll (K:PySem.W.Frag) (C:Addr):List V->List Bool->Prop
 | nil:ClsAll K C [] []
 | cons {cv:V} {b:Bool} {cvs:List V} {bs:List Bool} (h:Fj K C cv b) (t:ClsAll K C cvs bs):ClsAll K C (cv::cvs) (b::bs)
theorem Eu {K:PySem.W.Frag} {C:Addr} (c:XCls K C):∀ {cvs:List V} {us:List Value} {bs:List Bool},Vals cvs us->ClsAll K C cvs bs->PySem.W.kitAny K (.ref C) us=some (bs.any id)
 | _,_,_,.nil,.nil=>rfl
 | _,_,_,.cons r t,.cons (b:=true) h hs=>by
   unfold PySem.W.kitAny;rw [zU c r h]
   rfl
 | _,_,_,.cons r t,.cons (b:=false) h hs=>by
   unfold PySem.W.kitAny;rw [zU c r h];have h2:=Eu c t hs;exact h2
def xO (K:PySem.W.Frag):List V->Hp->VK->Prop:=fun xs H Q=>∃ ea C od tp cvs bs,xs=[.ref ea,.ref tp]/\H ea=some (ExO ea (.ref C) od)/\ye H od/\XCls K C/\H tp=some (.tup cvs)/\ClsAll K C cvs bs/\Q (.bl (bs.any id)) H
section
variable {X:Cx}
theorem HA:fD X (.builtin "isinstance") (xO X.K):=by
 intro pins s σ H xs us Q I r h;obtain ⟨ea,C,od,tp,cvs,bs,rfl,he,hd,c,ht,hk,q⟩:=h;obtain ⟨u,cu,rfl,ru,rc⟩:=xX r;cases (show u=Value.ref ea from ru);cases (show cu=Value.ref tp from rc);obtain ⟨ox,oo,ia⟩:=B4 I he hd;obtain ⟨its,rv,⟨⟨oc,odd,dat,sl⟩,e,e1,n,e2⟩,_⟩:=I.tuple (SqT.of ht);cases e1;cases e2;exact PySem.W.kia_tup (Cv (x:=ea) (ox:=ox) (od:=oo) c) I.kIn ia e (Eu c rv hk) (fun z=>nomatch z) fun tk=>⟨.bl (bs.any id),H,I.tok tk,rfl,q⟩
end
end L2
set_option Elab.async false
set_option linter.all false
set_option maxRecDepth 100000
namespace L2
open PySem PySem.Spec PyProof.Rows
section
variable {P:Program} {w:World} {A:Around} {R:Result->Shared->Prop} {I S:Addr} {fp wr:List Addr} {n:Nat} {Pv:Nat->Value->Prop} {St:Nat->Heap->Prop} {bt:Nat->Nat->Bool} {kw:List (Str × Value)}
end
section
variable {X:Cx} {x:Str} {p pos kpos:Pos} {e de:Expr} {t tk:TA}
def LF (K:PySem.W.Frag) (t tk:TA):TE:=fun σ H Q=>t σ H fun vs H1=>tk σ H1 fun zs H2=>∃ (q:Addr) (ns:List Int) (d:V),vs=[.ref q]/\zs=[d]/\SqL K H2 q (ns.map V.int)/\ns≠[]/\∀ y,y∈ns->(∀ x∈ns,y<=x)->Q (.int y) H2
def LK (t:TE):TE:=fun σ H Q=>t σ H fun x H1=>∃ b,x=.bl b/\Q (.bl (b != true)) H1
end
end L2
set_option Elab.async false
set_option linter.all false
set_option maxRecDepth 100000
namespace Pb
open L2 PySem
section
variable {m:Int} {rs:List Road} {r:Int} {par:Int->Int} {dep:Int->Nat}
variable {ch:Int->Option Int} {w:Int} {cn:Int->Int}
end
end Pb
set_option Elab.async false
set_option linter.all false
set_option maxRecDepth 100000
namespace L2
open PySem PySem.Spec PyProof.Rows PySem.W
section
variable {n:Nat}
variable (hn:0<n)
include hn
end
section
variable {prog:Program} {w:World} {A:Around} {E:Value->Shared->Prop} {s:Shared}
end
end L2
set_option Elab.async false
set_option linter.all false
set_option maxRecDepth 100000
namespace L2
open PySem PySem.Spec PyProof.Rows PySem.W Pb
section
variable {prog:Program} {w:World} {A:Around} {E:Value->Shared->Prop} {s:Shared} {it d:Addr} {i ep:Nat} {es:Array DictEntry}
end
section
variable {prog:Program} {w:World} {A:Around} {E:Value->Shared->Prop} {s:Shared} {fin:Bool} {C:Bool->Shared->Prop}
end
section
variable {prog:Program} {w:World} {A:Around} {E:Value->Shared->Prop} {s:Shared}
end
section
variable {X:Cx}
end
end L2
set_option Elab.async false
set_option linter.all false
set_option maxRecDepth 100000
namespace L2
end L2
namespace Pb
open L2 PySem
section
variable {m:Int} {rs:List Road} {r:Int} {par:Int->Int} {dep:Int->Nat}
end
section
end
end Pb
set_option Elab.async false
set_option linter.all false
set_option maxRecDepth 100000
namespace L2
open PySem PySem.Spec PyProof.Rows
def HB (tk tv:TE):TE:=fun σ H Q=>∀ p,H p=none->qG [(tk,tv)] σ (upd H p (.dT [])) fun ps H2=>H2 p=some (.dT [])/\∃ (k:List Key) (b:Addr) (y:V),ps=[(.ref b,y)]/\H2 b=some (.tup (k.map kV))/\Q (.ref p) (upd H2 p (.dT [(k,y)]))
end L2
set_option Elab.async false
set_option linter.all false
set_option maxRecDepth 100000
namespace Pb
open L2 PySem
end Pb
namespace Pb
open L2 PySem
section
variable {m:Int} {rs:List Road} {xs:List Int}
variable {r:Int} {par:Int->Int} {dep:Int->Nat}
end
end Pb
set_option Elab.async false
set_option linter.all false
set_option maxRecDepth 100000
namespace L2
open PySem PySem.Spec PyProof.Rows Pb
section
variable {X:Cx}
end
end L2
set_option Elab.async false
set_option linter.all false
set_option maxRecDepth 100000
namespace L2
open PySem PySem.Spec PyProof.Rows
end L2
namespace Pb
end Pb
namespace L2
open PySem Pb
end L2
namespace L2
open PySem
end L2
namespace L2
open PySem
end L2
namespace L2
open PySem PySem.Spec PyProof.Rows Pb
end L2
namespace L2
open PySem
end L2
set_option Elab.async false
set_option linter.all false
set_option maxRecDepth 100000
namespace Pb
open L2 PySem
section
variable {m:Int} {rs:List Road} {r:Int} {par:Int->Int} {dep:Int->Nat}
end
section
variable {m:Int} {rs:List Road} {xs:List Int}
end
end Pb
set_option Elab.async false
set_option linter.all false
set_option maxRecDepth 100000
namespace L2
open PySem PySem.Spec PyProof.Rows PySem.W Pb
section
variable {X:Cx} {pins:List (Addr × Obj)} {σ:St} {H:Hp} {s:Shared}
end
def Itd (d:Addr) (o:Obj) (kvs:List (List Key × V)):It :=
 ⟨fun i H=>H d=some (.frz o (.dT kvs))/\i<kvs.length,fun i H x H'=>H'=H/\∃ (q:Addr) (k:List Key) (v:V),x=.ref q/\kvs[i]?=some (k,v)/\H q=some (.tup (k.map kV)),fun i H=>H d=some (.frz o (.dT kvs))/\i=kvs.length⟩
def LC (tl:TE) (g:TG) (tb:TS):TS:=fun D σ H=>tl σ H fun x H1=>∃ (d:Addr) (kvs:List (List Key × V)),x=.ref d/\H1 d=some (.dT kvs) /\
 ∀ o,oH (Itd d o kvs) { D with nx:=fun σ' H'=>H' d=some (.frz o (.dT kvs))/\D.nx σ' (upd H' d (.dT kvs)) } g tb σ (upd H1 d (.frz o (.dT kvs)))
section
variable {X:Cx} {tg:Expr}
end
end L2
set_option Elab.async false
set_option linter.all false
set_option maxRecDepth 100000
namespace Pb
open L2 PySem
section
variable {α β:Type}
end
section
variable {m:Int} {rs:List Road} {r:Int} {par:Int->Int} {dep:Int->Nat}
end
end Pb
namespace Pb
open L2 PySem
section
variable {m:Int} {rs:List Road} {r:Int} {par:Int->Int} {dep:Int->Nat} {to:Bool}
end
end Pb
namespace Pb
open L2 PySem
end Pb
namespace Pb
open L2 PySem
end Pb
set_option Elab.async false
set_option linter.all false
set_option maxRecDepth 100000
namespace L2
open PySem PySem.Spec PyProof.Rows
section
variable {X:Cx} {cx:Str} {Nc:List Str} {own:Nat} {js:List Nat} {scope:Scope} {cl:List (Str × Addr)}
end
section
variable {X:Cx} {cx:Str} {Nc:List Str} {own:Nat} {js:List Nat} {scope:Scope} {cl:List (Str × Addr)}
end
end L2
set_option Elab.async false
set_option linter.all false
set_option maxRecDepth 100000
namespace L2
open PySem PySem.Spec PyProof.Rows PySem.W
section
variable {X:Cx}
end
def Its (z:Str):It:=⟨fun i _=>i<z.cps.size,fun i H x H'=>H'=H/\∃ c,z.cps[i]?=some c/\x=.str ⟨#[c]⟩,fun i _=>z.cps.size<=i⟩
section
variable {X:Cx} {tg:Expr}
def Ny (tl:TE):TI:=fun σ H R=>tl σ H fun x H1=>∃ z,x=.str z/\z.cps.all (·<128)=true/\R (Its z) H1
end
section
variable {P:Program} {w:World} {A:Around} {E:Value->Shared->Prop} {s:Shared}
end
section
variable {X:Cx} {e:Expr} {te:TE} {p2 apos cpos pos2:Pos} {z:Str} {zp:Pos} {zk:Nat}
def Hs (K:PySem.W.Frag) (z:Str) (te:TE):TE:=fun σ H Q=>te σ H fun x H1=>∃ (a:Addr) (ys:List Str),x=.ref a/\SqL K H1 a (ys.map V.str)/\(ys.map (·.length)).sum+ys.length*z.length<=16777216/\Q (.str (Str.join z ys.reverse)) H1
end
end L2
set_option Elab.async false
set_option linter.all false
set_option maxRecDepth 100000
namespace Pb
open L2 PySem PySem.W NumText
end Pb
set_option Elab.async false
set_option linter.all false
set_option maxRecDepth 100000
namespace L2
open PySem PySem.Spec PyProof.Rows PySem.W
end L2
namespace Pb
open L2 PySem PySem.W NumText
open PySem.StrLaws (At ChainG occ_tight partsBetween_eq partsFrom strSub_toList subAt_eq sub_whole)
section
variable {X:Str} {u c v:Nat}
end
end Pb
set_option Elab.async false
set_option linter.all false
set_option maxRecDepth 100000
namespace L2
open PySem PySem.Spec PyProof.Rows PySem.W
end L2
namespace Pb
open L2 PySem PySem.W NumText
end Pb
set_option Elab.async false
set_option linter.all false
set_option maxRecDepth 100000
namespace Pb
open L2 PySem
section
variable {m:Int} {rs:List Road} {r:Int} {par:Int->Int} {dep:Int->Nat} {held:Int->Int}
end
end Pb
set_option Elab.async false
set_option linter.all false
set_option maxRecDepth 100000
namespace L2
open PySem PySem.Spec PyProof.Rows
section
variable {prog:Program} {w:World} {A:Around} {E:Value->Shared->Prop} {R:Result->Shared->Prop} {s:Shared}
end
section
variable {M:Model} {A:Around} {E:Value->Shared->Prop} {s:Shared} {Q:Unit->Shared->Prop} {fs:List Addr} {ea T L:Addr} {cls fl hd:Value} {od:Option Addr} {base:Heap} {env:Env} {outer:List Env}
end
section
variable {P:Program} {w:World} {K:PySem.W.Frag} {mg:Str->Option Value} {base:Heap} {N:List Str} {qual:Str} {scope:Scope} {f:Addr} {cd:Value} {A:Around} {outer:List Env} {s:Shared} {H:Hp} {E:XK}
end
section
variable {X:Cx} {Nc:List Str} {own:Nat} {js:List Nat} {scope:Scope} {cl:List (Str × Addr)}
end
section
variable {X:Cx} {Nc:List Str} {own:Nat} {js:List Nat} {scope:Scope} {cl:List (Str × Addr)}
end
section
variable {X:Cx}
theorem ou (K:PySem.W.Frag) (h:X.K=K):fD X (.builtin "isinstance") (iU K):=by subst h;exact Im
theorem Fo (K:PySem.W.Frag) (h:X.K=K):fD X (.builtin "isinstance") (xO K):=by subst h;exact HA
end
end L2
set_option Elab.async false
set_option linter.all false
set_option maxRecDepth 100000
namespace L2
open PySem PySem.Spec PyProof.Rows
section
variable {prog:Program} {w:World} {A:Around} {E:Value->Shared->Prop} {h:Heap} {g:Array GenState} {d:Drawn} {t:Nat} {os:OsState}
variable {nm q:Str} {C N:Addr} {bs bm bmB:List Value} {hdct:Bool} {sn:List Str} {sub:List Value} {ab:Bool} {col:Option Bool} {dd:Option Addr} {k0 k1 k2 k3 k5:Option Value} {B newId initId:String}
end
section
variable {M:Model} {A:Around} {E:Value->Shared->Prop} {env:Env}
variable {nm q:Str} {C N:Addr} {bs bm:List Value} {hdct:Bool} {sn:List Str} {sub:List Value} {ab:Bool} {col:Option Bool} {dd:Option Addr} {k0 k1 k2 k3 k5:Option Value} {newId:String}
end
section
variable {prog:Program} {w:World} {A:Around} {E:Value->Shared->Prop} {s:Shared} {env:Env}
variable {nm q:Str} {C N:Addr} {bs bm bmB:List Value} {hdct:Bool} {sn:List Str} {sub:List Value} {ab:Bool} {col:Option Bool} {dd:Option Addr} {k0 k1 k2 k3 k5:Option Value} {B newId initId:String}
end
section
variable {X:Cx} {pins:List (Addr × Obj)} {σ:St} {H:Hp} {s:Shared}
end
section
variable {P:Program} {w:World} {K:PySem.W.Frag} {mg:Str->Option Value} {base:Heap} {N:List Str} {qual:Str} {scope:Scope} {f:Addr} {cd:Value} {A:Around} {outer:List Env} {s:Shared} {H:Hp} {E:XK}
end
section
variable {X:Cx} {x:Str} {np cpos pos:Pos} {e0:Expr} {es:List Expr} {t:TA} {C fI:Addr} {E:XK} {CX:CXT} {k:Nat} {fd:FuncData} {ps:List Str} {sp:Sp}
end
section
variable {X:Cx} {x:Str} {np apos pos:Pos} {e0:Expr} {es:List Expr} {t:TA} {Tl:Addr} {pl:Sem Bool}
end
end L2
set_option Elab.async false
set_option linter.all false
set_option maxRecDepth 100000
namespace L2
open PySem PySem.Spec PyProof.Rows PySem.W PySem.Builtin PySem.Builtin.ObjectAttr
section
variable {K:PySem.W.Frag} {prog:Program} {w:World} {A:Around} {s:Shared} {x C Tl:Addr} {R:Result->Shared->Prop}
end
section
variable {X:Cx} {pins:List (Addr × Obj)} {σ:St} {H:Hp} {s:Shared}
end
section
variable {X:Cx} {pins:List (Addr × Obj)} {σ:St} {H:Hp} {s:Shared} {A:Around} {E:Value->Shared->Prop} {ea C Tl:Addr} {f:Str}
end
section
variable {X:Cx} {o value:Expr} {ta tv:TE} {f:Str} {pos pos':Pos}
end
section
variable {prog:Program} {w:World} {A:Around} {E:Value->Shared->Prop} {s:Shared} {K:PySem.W.Frag} {x C:Addr} {ox:Obj} {od:Obj}
end
section
variable {X:Cx} {o:Expr} {ta:TE} {f:Str} {pos:Pos}
end
end L2
set_option Elab.async false
set_option linter.all false
set_option maxRecDepth 100000
namespace L2
open PySem
def G4 (K:PySem.W.Frag) (C':Addr) (ts:TS) (tr:TH):TH:=fun D σ cls od H=>∃ C b,cls=.ref C/\PySem.W.mroIn K C (.ref C')=some b/\if b=true then ts D σ H else tr D σ cls od H
section
variable {X:Cx} {x:Str} {np pos:Pos} {C':Addr} {b0:Stmt} {suite:List Stmt} {jG:List ExceptHandler} {ts:TS} {tr:TH}
end
end L2
namespace Pb
open L2 PySem
theorem zB {K:PySem.W.Frag} {H:Hp}:∀ bs:List Bool,DeepAll K H (bs.map V.bl) (bs.map PyData.bool)
 | []=>.nil
 | b::bs=>.cons (.bl b) (zB bs)
theorem GC:∀ bs cs:List Bool,PyData.eqvAll (bs.map PyData.bool) (cs.map PyData.bool)=decide (bs=cs)
 | [],[]=>by simp [PyData.eqvAll]
 | [],c::cs=>by simp [PyData.eqvAll]
 | b::bs,[]=>by simp [PyData.eqvAll]
 | b::bs,c::cs=>by
   simp only [List.map_cons,PyData.eqvAll];rw [GC bs cs];cases b <;> cases c <;> simp [PyData.eqv]
theorem BM:∀ bs:List Bool,PyData.depthAll (bs.map PyData.bool)<=1
 | []=>by simp [PyData.depthAll]
 | b::bs=>by
   simp only [List.map_cons,PyData.depthAll];have:=BM bs;have:(PyData.bool b).depth<=1:=by simp [PyData.depth]
   omega
end Pb
set_option Elab.async false
set_option linter.all false
set_option maxRecDepth 100000
namespace Pb
open L2 PySem
section
variable {m:Int} {rs:List Road}
end
section
variable {m:Int} {rs:List Road} {r:Int} {par:Int->Int} {dep:Int->Nat} {st:Int->Int} {xs ys:List Int}
end
end Pb
set_option Elab.async false
set_option linter.all false
set_option maxRecDepth 100000
namespace L2
open PySem PySem.Spec PyProof.Rows
section
variable {X:Cx}
def M6 (t:TE):TE:=fun σ H Q=>t σ H fun x H1=>∃ b,x=.bl b/\Q (.bl (b == true)) H1
end
end L2
namespace Pb
open L2 PySem
section
variable {m:Int} {rs:List Road} {r:Int} {par:Int->Int} {dep:Int->Nat} {P:Int->Int} {xs:List Int}
end
end Pb
set_option Elab.async false
set_option linter.all false
set_option maxRecDepth 100000
namespace Pb
open L2 PySem
end Pb
set_option Elab.async false
set_option linter.all false
set_option maxRecDepth 100000
namespace L2
open PySem PySem.Spec PyProof.Rows
section
variable {prog:Program} {w:World} {A:Around} {E:Value->Shared->Prop} {s:Shared}
end
section
variable {X:Cx} {tg:Expr} {Nc:List Str} {own:Nat} {js:List Nat} {scope:Scope} {cl:List (Str × Addr)}
end
section
variable {X:Cx} {x n:Str} {np pos:Pos} {i:Nat} {C':Addr} {b0:Stmt} {suite:List Stmt} {jG:List ExceptHandler} {ts:Addr->TS} {tr:TH}
end
end L2
namespace Pb
open L2 PySem
end Pb
set_option Elab.async false
set_option linter.all false
set_option maxRecDepth 100000
namespace Pb
open L2 PySem
end Pb
set_option Elab.async false
set_option linter.all false
set_option maxRecDepth 100000
namespace L2
open PySem
theorem GG {K:PySem.W.Frag} {c:Bool} {a p:Addr} {xs:List V} {Q:VK} {g:TG} {tc:TT} {te:TE} {σ0:St} {H0:Hp} (Pv:Nat->List V->St->Hp->Prop) (h0:Pv 0 [] σ0 H0) (hl:∀ i ys σ H,Pv i ys σ H->SqX K c H a xs)
   (hs:∀ (i:Nat) (x:V) (ys:List V) (σ:St) (H:Hp) (q:Addr) (N:List V->St->Hp->Prop),(∀ ys' σ' H',Pv (i+1) ys' σ' H'->N ys' σ' H')->xs[i]?=some x->Pv i ys σ H->H q=none->g (.ref q) σ (upd H q (.tup [.int i,x])) fun σ2 H2=>tc σ2 H2 fun b H3 =>
     if b=true then te σ2 H3 fun y H4=>H4 p=some (.lst ys)/\ys.length<sizeLine/\N (ys++[y]) σ2 (upd H4 p (.lst (ys++[y]))) else N ys σ2 H3)
   (hd:∀ ys σ H,Pv xs.length ys σ H->Q (.ref p) H):qQ (Ite K c a) p Q g tc te σ0 H0:=by
 refine ⟨fun i m ys σ H=>m=xs.length - i/\i<=xs.length/\Pv i ys σ H,⟨_,rfl,Nat.zero_le _,h0⟩,?_⟩;rintro i m ys σ H ⟨rfl,hi,pv⟩;have q1:=hl i ys σ H pv;by_cases hlt:i<xs.length
 . refine .inr ⟨⟨xs,xs[i],q1,List.getElem?_eq_getElem hlt⟩,fun x H' y=>?_⟩;obtain ⟨p',x',hp,rfl,rfl,e1⟩:=y;exact hs i x' ys σ H p' (fun ys' σ' H'=>∃ m',m'<xs.length - i/\(m'=xs.length - (i+1)/\i+1<=xs.length/\Pv (i+1) ys' σ' H')) (fun ys' σ' H' pv'=>⟨xs.length - (i+1),by omega,rfl,hlt,pv'⟩) (e1 xs q1) pv hp
 . have e:i=xs.length:=by omega
   subst e;exact .inl ⟨⟨xs,q1,rfl⟩,hd ys σ H pv⟩
def Kpt (o:Addr) (H H':Hp):Prop:=∀ b x,H b=some x->b≠o->H' b=some x
theorem Kpt.refl {o:Addr} {H:Hp}:Kpt o H H:=fun _ _ h _=>h
theorem Kpt.then {o:Addr} {H H1 H2:Hp} (a:Kpt o H H1) (b:Same H1 H2):Kpt o H H2:=fun c x h n=>b c x (a c x h n)
theorem Kpt.put {o:Addr} {H H1:Hp} (a:Kpt o H H1) (x:HO):Kpt o H (upd H1 o x):=fun c y h n=>by rw [ar n];exact a c y h n
theorem Kpt.sqX {K:PySem.W.Frag} {H H':Hp} {o C dx:Addr} {fs:List (Str × V)} {c:Bool} {a:Addr} {xs:List V} (e:Kpt o H H') (ho:H o=some (.ins C dx fs)) (h:SqX K c H a xs):SqX K c H' a xs:=by
 have n:∀ {y:HO},H a=some y->y≠.ins C dx fs->a≠o:=fun hy ny z=>by rw [z,ho] at hy;cases hy;exact ny rfl
 cases c
 . rcases h with (h|⟨o',h⟩)|h
   . exact .inl (.inl (e _ _ h (n h (by intro z;cases z))))
   . exact .inl (.inr ⟨o',e _ _ h (n h (by intro z;cases z))⟩)
   . exact .inr h
 . rcases h with (h|⟨o',h⟩)|h
   . exact .inl (.inl (e _ _ h (n h (by intro z;cases z))))
   . exact .inl (.inr ⟨o',e _ _ h (n h (by intro z;cases z))⟩)
   . exact .inr h
end L2
namespace Pb
open PySem L2
def pw (xs ys:List Int):List Int:=List.zipWith (·+·) xs ys
def zrs (m:Int):List Int:=List.replicate m.toNat 0
def sd (m:Int) (ls:List (List Int)):List Int:=ls.foldl pw (zrs m)
def pC (b l:List Int):List Int:=if b.sum<l.sum then l else b
theorem Os {b l:List Int} (h:b.sum<l.sum):pC b l=l:=if_pos h
theorem Nk {b l:List Int} (h:¬ b.sum<l.sum):pC b l=b:=if_neg h
def upT (rs:List Road) (par:Int->Int) (v:Int):Int:=(cU rs v (par v)).getD 1
def dnT (rs:List Road) (par:Int->Int) (v:Int):Int:=(cU rs (par v) v).getD 1
abbrev kd (m:Int) (rs:List Road) (r:Int) (par:Int->Int) (v:Int):List Int:=bq m rs (front r par v) v
def idK (m:Int) (rs:List Road) (r:Int) (par:Int->Int) (ix:Int->List Int) (v:Int) (x:V):List Int:=sd m (((kd m rs r par v).filter fun k=>decide (V.int k≠x)).map ix)
def u7 (b:List Int) (v d:Int):List Int:=b.set v.toNat (b.getD v.toNat 0+d)
def byK (m:Int) (rs:List Road) (r:Int) (par:Int->Int) (nd:Int->Int) (ix:Int->List Int) (gk:Int->Int->List Int) (v room k:Int):List Int :=
 pw (gk k (upT rs par k*(room - nd k*dnT rs par k+1) - 1)) (idK m rs r par ix v (.int k))
def lh (m:Int) (rs:List Road) (r:Int) (par:Int->Int) (nd:Int->Int) (ix:Int->List Int) (gk:Int->Int->List Int) (v y:Int):List Int :=
 ((kd m rs r par v).map (byK m rs r par nd ix gk v (nd v+y))).foldl pC (u7 (idK m rs r par ix v .non) v (nd v+y))
def ld (m:Int) (rs:List Road) (r:Int) (par:Int->Int) (nd:Int->Int):Nat->Bool->Int->Int->List Int
 | 0,_,_,_=>[]
 | n+1,true,v,y=>lh m rs r par nd (fun k=>ld m rs r par nd n false k 0) (fun k z=>ld m rs r par nd n true k z) v y
 | n+1,false,v,_=>if 0<nd v then idK m rs r par (fun k=>ld m rs r par nd n false k 0) v .non else lh m rs r par nd (fun k=>ld m rs r par nd n false k 0) (fun k z=>ld m rs r par nd n true k z) v (upT rs par v - 1)
def gld (m:Int) (rs:List Road) (r:Int) (par:Int->Int) (dep:Int->Nat) (nd:Int->Int) (v y:Int):List Int:=ld m rs r par nd (m.toNat - dep v) true v y
def idl (m:Int) (rs:List Road) (r:Int) (par:Int->Int) (dep:Int->Nat) (nd:Int->Int) (v:Int):List Int:=ld m rs r par nd (m.toNat - dep v) false v 0
def j7 (m:Int) (xs:List Int):Int:=((below m.toNat).filter fun v=>decide (0<xs.getD v.toNat 0)).headD 0
theorem zi {m:Int} {xs:List Int} (xl:(xs.length:Int)=m) (nn:∀ x∈xs,0<=x) (h:xs.sum≠0):∃ tl,((below m.toNat).filter fun v=>decide (0<xs.getD v.toNat 0))=j7 m xs::tl/\(0<=j7 m xs/\j7 m xs<m)/\0<xs.getD (j7 m xs).toNat 0:=by
 have ex:∃ x∈xs,0<x:=by
   refine Classical.byContradiction fun n=>h ?_;have:∀ l:List Int,(∀ x∈l,x=0)->l.sum=0:=by
     intro l
     induction l with
     | nil=>intro _;rfl
     | cons a l ih=>intro q;rw [List.sum_cons,q a List.mem_cons_self,ih fun x hx=>q x (List.mem_cons_of_mem _ hx)];rfl
   refine this xs fun x hx=>?_;have h1:=nn x hx;have h2:¬ 0<x:=fun z=>n ⟨x,hx,z⟩;omega
 obtain ⟨x,hx,x0⟩:=ex;obtain ⟨i,hi,rfl⟩:=List.mem_iff_getElem.mp hx;have im:(i:Int)∈(below m.toNat).filter fun v=>decide (0<xs.getD v.toNat 0):=by
   refine List.mem_filter.mpr ⟨List.mem_of_getElem? (fe (show i<m.toNat by omega)),decide_eq_true ?_⟩;rw [show ((i:Int)).toNat=i from rfl,List.getD_eq_getElem?_getD,List.getElem?_eq_getElem hi];exact x0
 unfold j7;cases e:(below m.toNat).filter fun v=>decide (0<xs.getD v.toNat 0) with
 | nil=>rw [e] at im;cases im
 | cons a tl =>
   have am:a∈(below m.toNat).filter fun v=>decide (0<xs.getD v.toNat 0):=by rw [e];exact List.mem_cons_self
   have w:=List.mem_filter.mp am;have r:=d5.mp w.1;exact ⟨tl,rfl,⟨r.1,by have:=r.2;show a<m;omega⟩,of_decide_eq_true w.2⟩
theorem EI (m:Int):(zrs m).sum=0:=by
 unfold zrs
 induction m.toNat with
 | zero=>rfl
 | succ n ih=>rw [List.replicate_succ,List.sum_cons,ih];rfl
theorem HQ:∀ {l:List Int},(∀ x∈l,0<=x)->0<=l.sum
 | [],_=>by decide
 | a::l,h=>by
   have h1:=h a List.mem_cons_self;have h2:=HQ fun x hx=>h x (List.mem_cons_of_mem _ hx);rw [List.sum_cons];omega
theorem GZ:∀ {l:List Int},(∀ x∈l,0<=x)->∀ {x:Int},x∈l->x<=l.sum
 | a::l,h,x,hx=>by
   have h1:=h a List.mem_cons_self;have h2:=HQ fun x hx=>h x (List.mem_cons_of_mem _ hx);rw [List.sum_cons];rcases List.mem_cons.mp hx with rfl|hx
   . omega
   . have:=GZ (fun x hx=>h x (List.mem_cons_of_mem _ hx)) hx;omega
theorem Gy {α β:Type} {R:α->β->Prop}:∀ {l:List α} {l':List β},Paired R l l'->∀ {i:Nat} {b:β},l'[i]?=some b->∃ a,l[i]?=some a/\R a b
 | _,_,.nil,i,b,e=>by simp at e
 | _,_,.cons (a:=a) (b:=b') h _,0,b,e=>by
   rw [List.getElem?_cons_zero] at e;cases e;exact ⟨a,rfl,h⟩
 | _,_,.cons h hs,i+1,b,e=>by
   rw [List.getElem?_cons_succ] at e;obtain ⟨a,h1,h2⟩:=Gy hs e;exact ⟨a,by rw [List.getElem?_cons_succ];exact h1,h2⟩
theorem zc {α β:Type} {R S:α->β->Prop}:∀ {l:List α} {l':List β},(∀ a b,a∈l->R a b->S a b)->Paired R l l'->Paired S l l'
 | _,_,_,.nil=>.nil
 | _,_,f,.cons h hs=>.cons (f _ _ List.mem_cons_self h) (zc (fun a b ha=>f a b (List.mem_cons_of_mem _ ha)) hs)
theorem EJ {α β:Type} {R:α->β->Prop}:∀ {l:List α} {l':List β},Paired R l l'->∀ {a:α},a∈l->∃ b,R a b
 | _,_,.nil,a,h=>by cases h
 | _,_,.cons (b:=b) h hs,a,ha=>by
   rcases List.mem_cons.mp ha with rfl|ha
   . exact ⟨b,h⟩
   . exact EJ hs ha
theorem Cn {α β:Type} {R:α->β->Prop} {a:α} {b:β} (e:R a b):∀ {l:List α} {l':List β},Paired R l l'->Paired R (l++[a]) (l'++[b])
 | _,_,.nil=>.cons e .nil
 | _,_,.cons x xs=>.cons x (Cn e xs)
theorem yg {α:Type} {xs:List α} {i:Int} (h:0<=i):atI xs i=xs[i.toNat]?:=by
 cases e:xs[i.toNat]? with
 | some v=>exact gF h e
 | none =>
   have:=List.getElem?_eq_none_iff.mp e;unfold atI ixN;rw [if_pos h,if_neg (by omega)]
   rfl
theorem Az {m v:Int} (v0:0<=v) (v1:v<m):(below m.toNat)[v.toNat]?=some v:=by
 rw [fe (by omega)];exact congrArg some (Int.toNat_of_nonneg v0)
theorem zL {m v:Int} (nd:Int->Int) (v0:0<=v) (v1:v<m):atI (((below m.toNat).map nd).map V.int) v=some (.int (nd v)):=gF v0 (by
 rw [List.getElem?_map,List.getElem?_map,Az v0 v1]
 rfl)
theorem Ab (m:Int):(zrs m).map V.int=List.replicate m.toNat (V.int 0):=by unfold zrs;rw [List.map_replicate]
theorem Gs {m:Int} {ls:List (List Int)} {l:List Int}:sd m (ls++[l])=pw (sd m ls) l:=by unfold sd;rw [List.foldl_append];rfl
section
variable {m:Int} {rs:List Road} {r:Int} {par:Int->Int} {dep:Int->Nat} {nd:Int->Int}
theorem uc {ix ix':Int->List Int} {v:Int} {x:V} (h:∀ k∈kd m rs r par v,ix k=ix' k):idK m rs r par ix v x=idK m rs r par ix' v x:=by
 unfold idK;rw [List.map_congr_left fun k hk=>h k (List.mem_filter.mp hk).1]
theorem wD {ix ix':Int->List Int} {gk gk':Int->Int->List Int} {v y:Int} (h:∀ k∈kd m rs r par v,ix k=ix' k) (h':∀ k∈kd m rs r par v,∀ z,gk k z=gk' k z):lh m rs r par nd ix gk v y=lh m rs r par nd ix' gk' v y:=by
 unfold lh byK;rw [uc (x:=.non) h,List.map_congr_left fun k hk=>by rw [h' k hk,uc (x:=.int k) h]]
theorem qD (g:Good m rs) (R:Rooted m rs r par dep) {v:Int} (h0:0<=v) (h1:v<m) {k:Int} (hk:k∈kd m rs r par v):((0<=k/\k<m)/\k≠r/\par k=v)/\m.toNat - dep v=m.toNat - dep k+1/\1<=m.toNat - dep k:=by
 have w:=(dj g R h0 h1).mp hk;have:=R.pos w.1.1 w.1.2 w.2.1;have d:=tY R w.1.1 w.1.2;rw [w.2.2] at this;exact ⟨w,by omega,by omega⟩
theorem BG (R:Rooted m rs r par dep) {v:Int} (h0:0<=v) (h1:v<m):∃ n,m.toNat - dep v=n+1:=⟨m.toNat - dep v - 1,by have:=tY R h0 h1;omega⟩
theorem xH (g:Good m rs) (R:Rooted m rs r par dep) {v y:Int} (h0:0<=v) (h1:v<m):gld m rs r par dep nd v y=lh m rs r par nd (idl m rs r par dep nd) (gld m rs r par dep nd) v y:=by
 obtain ⟨n,e⟩:=BG R h0 h1;have hn:∀ k∈kd m rs r par v,m.toNat - dep k=n:=fun k hk=>by have:=(qD g R h0 h1 hk).2.1;omega
 unfold gld;rw [e];show lh m rs r par nd _ _ v y=_;exact wD (fun k hk=>by show _=ld m rs r par nd (m.toNat - dep k) false k 0;rw [hn k hk]) (fun k hk z=>by show _=ld m rs r par nd (m.toNat - dep k) true k z;rw [hn k hk])
theorem BW (g:Good m rs) (R:Rooted m rs r par dep) {v:Int} (h0:0<=v) (h1:v<m):idl m rs r par dep nd v=if 0<nd v then idK m rs r par (idl m rs r par dep nd) v .non else gld m rs r par dep nd v (upT rs par v - 1):=by
 obtain ⟨n,e⟩:=BG R h0 h1;have hn:∀ k∈kd m rs r par v,m.toNat - dep k=n:=fun k hk=>by have:=(qD g R h0 h1 hk).2.1;omega
 rw [xH g R h0 h1];unfold idl;rw [e];show (if 0<nd v then idK m rs r par _ v .non else lh m rs r par nd _ _ v _)=_;by_cases c:0<nd v
 . rw [if_pos c,if_pos c];exact uc fun k hk=>by rw [hn k hk]
 . rw [if_neg c,if_neg c];exact wD (fun k hk=>by show _=ld m rs r par nd (m.toNat - dep k) false k 0;rw [hn k hk]) (fun k hk z=>by show _=ld m rs r par nd (m.toNat - dep k) true k z;rw [hn k hk])
theorem DE {xs ys:List Int} {n:Nat} (h1:xs.length=n) (h2:ys.length=n):(pw xs ys).length=n:=by unfold pw;rw [List.length_zipWith];omega
theorem uI {m:Int}:∀ (ls:List (List Int)) (a:List Int),a.length=m.toNat->(∀ l∈ls,l.length=m.toNat)->(ls.foldl pw a).length=m.toNat
 | [],a,h,_=>h
 | l::ls,a,h,hl=>uI ls (pw a l) (DE h (hl l List.mem_cons_self)) fun x hx=>hl x (List.mem_cons_of_mem _ hx)
theorem vT (m:Int):(zrs m).length=m.toNat:=List.length_replicate
theorem wf {ix:Int->List Int} {v:Int} {x:V} (h:∀ k∈kd m rs r par v,(ix k).length=m.toNat):(idK m rs r par ix v x).length=m.toNat:=by
 unfold idK sd;refine uI _ _ (vT m) fun l hl=>?_;obtain ⟨k,hk,rfl⟩:=List.mem_map.mp hl;exact h k (List.mem_filter.mp hk).1
theorem An {P:List Int->Prop}:∀ (ls:List (List Int)) (b:List Int),P b->(∀ l∈ls,P l)->P (ls.foldl pC b)
 | [],b,h,_=>h
 | l::ls,b,h,hl=>An ls (pC b l) (by
   unfold pC;split
   . exact hl l List.mem_cons_self
   . exact h) fun x hx=>hl x (List.mem_cons_of_mem _ hx)
theorem IG {b:List Int} {v d:Int}:(u7 b v d).length=b.length:=by unfold u7;rw [List.length_set]
theorem GO {ix:Int->List Int} {gk:Int->Int->List Int} {v y:Int} (h:∀ k∈kd m rs r par v,(ix k).length=m.toNat) (h':∀ k∈kd m rs r par v,∀ z,(gk k z).length=m.toNat):(lh m rs r par nd ix gk v y).length=m.toNat:=by
 unfold lh;refine An (P:=fun l=>l.length=m.toNat) _ _ (by rw [IG];exact wf h) fun l hl=>?_;obtain ⟨k,hk,rfl⟩:=List.mem_map.mp hl;exact DE (h' k hk _) (wf h)
theorem C8 (g:Good m rs) (R:Rooted m rs r par dep):∀ (n:Nat) (v:Int),0<=v->v<m->m.toNat - dep v=n->(idl m rs r par dep nd v).length=m.toNat/\∀ y,(gld m rs r par dep nd v y).length=m.toNat
 | 0,v,h0,h1,e=>by have:=tY R h0 h1;omega
 | n+1,v,h0,h1,e=>by
   have kk:∀ k∈kd m rs r par v,_:=fun k hk=>by
     have w:=qD g R h0 h1 hk;exact C8 g R n k w.1.1.1 w.1.1.2 (by omega)
   have a:∀ y,(gld m rs r par dep nd v y).length=m.toNat:=fun y=>by
     rw [xH g R h0 h1];exact GO (fun k hk=>(kk k hk).1) fun k hk=>(kk k hk).2
   refine ⟨?_,a⟩;rw [BW g R h0 h1];split
   . exact wf fun k hk=>(kk k hk).1
   . exact a _
theorem EU (g:Good m rs) (R:Rooted m rs r par dep) {v:Int} (h0:0<=v) (h1:v<m):(idl m rs r par dep nd v).length=m.toNat:=(C8 g R _ v h0 h1 rfl).1
theorem Mq (g:Good m rs) (R:Rooted m rs r par dep) {v y:Int} (h0:0<=v) (h1:v<m):(gld m rs r par dep nd v y).length=m.toNat:=(C8 g R _ v h0 h1 rfl).2 y
end
end Pb
set_option Elab.async false
set_option linter.all false
set_option maxRecDepth 100000
set_option maxHeartbeats 4000000
namespace Pk
open PySem L2 Pb
seal L2.PSs L2.PS L2.PE L2.PT L2.PW L2.PA L2.PG L2.PGs L2.PI L2.PTs L2.PC L2.PPs L2.PO
abbrev top (i:Nat):Stmt:=Hd.top i
local macro_rules|`(tactic| walk_at "rd") => `(tactic| ((try dsimp only [tYes, Ov, LS, Ends.less, Am, EV, DG, G4, EO, LC, Ny, Hs, AO, JP, Gn, Lh, Fa, E7, LO, FT, Jc, Ia, Hb, AA, G9, Ip, LQ, Fu, tNext, DA, yO, FP, F9, gNil, JX, LH, Gv, M0, LF, LK, M6, ipI, FO, Fb, Bt, tB, yH, tC, zF, tOp, tUn, rI0, rI, rU, rEq, rNe, Bz, Fw, FF, tNil, Kt, JH, tCB, tBM, KB, Ld, Ju, Nz, LP, zY, Gq, LI, FS, HB, qG, GU, GX, IA, tOr, Iz, FW, Oj, LM, tIf, List.nil_append, List.append_nil, List.set_cons_zero, List.set_cons_succ, List.getElem?_cons_zero, List.getElem?_cons_succ]);(try simp only [tYes, Ov, LS, Ends.less, Am, EV, DG, G4, EO, LC, Ny, Hs, AO, JP, Gn, Lh, Fa, E7, LO, FT, Jc, Ia, Hb, AA, G9, Ip, LQ, Fu, tNext, DA, yO, FP, F9, gNil, JX, LH, Gv, M0, LF, LK, M6, ipI, FO, Fb, Bt, tB, yH, tC, zF, tOp, tUn, rI0, rI, rU, rEq, rNe, Mi, MG, L9, Me, ML, Mh, Bz, Fw, FF, tNil, Kt, JH, tCB, tBM, KB, Ld, Ju, Nz, LP, zY, Gq, LI, FS, HB, qG, GU, GX, IA, tOr, Iz, FW, Oj, LM, tIf, List.nil_append, List.append_nil, List.set_cons_zero, List.set_cons_succ, List.getElem?_cons_zero, List.getElem?_cons_succ, Option.some.injEq, V.int.injEq, V.bl.injEq, V.ref.injEq, List.cons.injEq, exists_eq_left, exists_eq_left', exists_and_left, exists_const, and_true, true_and, decide_eq_true_eq, Bool.not_eq_true', decide_eq_false_iff_not, Bool.true_eq_false, Bool.false_eq_true, if_true, if_false])))
set_option genSizeOf false in
set_option genInjectivity false in
structure Txt (K:PySem.W.Frag) (mg:Str->Option Value) where
 TollError:Addr
 D5:mg "TollError"=some (.ref TollError)
 BadWeb:Addr
 Lg:mg "BadWeb"=some (.ref BadWeb)
 NoPlace:Addr
 Al:mg "NoPlace"=some (.ref NoPlace)
 NoRoad:Addr
 DI:mg "NoRoad"=some (.ref NoRoad)
 BadLaying:Addr
 D9:mg "BadLaying"=some (.ref BadLaying)
 BadWish:Addr
 AK:mg "BadWish"=some (.ref BadWish)
 NoWorst:Addr
 AG:mg "NoWorst"=some (.ref NoWorst)
 Web:Addr
 Oy:mg "Web"=some (.ref Web)
 Outlook:Addr
 GS:mg "Outlook"=some (.ref Outlook)
 DY:XTop K TollError
 xa:XErr K TollError BadWeb
 oF:XErr K TollError NoPlace
 HX:ze K NoPlace
 wO:XErr K TollError NoRoad
 Lr:ze K NoRoad
 py:XErr K TollError BadLaying
 oB:XErr K TollError BadWish
 HR:ze K BadWish
 oz:XErr K TollError NoWorst
 GD:ze K NoWorst
 ndx:[TollError,BadWeb,NoPlace,NoRoad,BadLaying,BadWish,NoWorst].Nodup
 range:mg "range"=none
 zip:mg "zip"=none
 len:mg "len"=none
 isinstance:mg "isinstance"=none
 all:mg "all"=none
 any:mg "any"=none
 int:mg "int"=none
 tuple:mg "tuple"=none
 list:mg "list"=none
 reversed:mg "reversed"=none
 sorted:mg "sorted"=none
 min:mg "min"=none
 max:mg "max"=none
 enumerate:mg "enumerate"=none
 sum:mg "sum"=none
 ValueError:mg "ValueError"=none
 c_MOST_PLACES:∃ t,mg "MOST_PLACES"=some (.int 24 t)
 c_LEAST_TOLL:∃ t,mg "LEAST_TOLL"=some (.int 2 t)
 c_MOST_TOLL:∃ t,mg "MOST_TOLL"=some (.int 1000000 t)
 jf:Cls K Web
 n_many:NoAttr K Web "many"
 n_roads:NoAttr K Web "roads"
 bO:Cls K Outlook
 n_web:NoAttr K Outlook "web"
 vX:NoAttr K Outlook "needs"
 DN:NoAttr K Outlook "kids"
 n_idle:NoAttr K Outlook "idle"
section
variable {P:Program} {w:World} {K:PySem.W.Frag} {mg:Str->Option Value} {base:Heap} {CX:CXT}
def oM (T:Txt K mg):Sp:=fun vs H Q _=>∃ (m:Int) (t:Addr) (xs:List V),vs=[.int m,.ref t]/\SqT K H t xs/\1<=m/\m<=24/\(xs.length:Int)=m - 1/\Q .non H
abbrev bj:Stmt:=top 17
theorem yn:FnScope ["many","roads"] ["many","roads"] (aa bj):=FnScope.of (by kernel_rfl)
theorem jO:NmL (aa bj) "many":=.of (by kernel_rfl)
theorem qS:NmL (aa bj) "roads":=.of (by kernel_rfl)
theorem f7:NmG (aa bj) "MOST_PLACES":=.of (by kernel_rfl)
theorem D7:NmG (aa bj) "BadWeb":=.of (by kernel_rfl)
theorem gU:NmG (aa bj) "len":=.of (by kernel_rfl)
theorem yG (T:Txt K mg) (hq:bc (CXe P w)) {f:Addr} {fd:FuncData} (D:Df K mg "check_counts" bj ["many","roads"] f fd):FnOk P w K mg base (CXe P w) 1 f fd ["many","roads"] (oM T):=by
 refine D.F.okC yn (fun vs H Q E h=>?_) (fun cdv A outer s H vs Q E hr h=>?_)
 . obtain ⟨m,t,xs,rfl,_⟩:=h
   rfl
 . obtain ⟨m,t,xs,rfl,ht,h1,h2,hl,k⟩:=h;refine ⟨_,(ap (bB (qv (C2 yY yY ao (pvl 0 jO) (xG f7.g T.c_MOST_PLACES (hd:=f7.d)))) (aq kM) aP) (aq (bB (aJ xW (bS eE gU.g T.len lx (ag (pvl 1 qS) aj) (hn:=gU.n) (hdb:=gU.d)) (au lr (pvl 0 jO) ao) (aN _)) (aq kM) aP))),?_⟩;rw [show L2.start ["many","roads"] [V.int m,V.ref t]=[some (V.int m),some (V.ref t)] from rfl];walk_at "rd";rw [if_pos h1,if_neg (by omega)];exact ⟨xs,.inr ht,by rw [if_neg (by omega)];exact k⟩
def pb (T:Txt K mg):Sp:=fun vs H Q _=>∃ m n:Int,vs=[.int m,.int n]/\Q (.bl (decide (0<=n) && decide (n<m))) H
abbrev cV:Stmt:=top 16
theorem DU:FnScope ["many","number"] ["many","number"] (aa cV):=FnScope.of (by kernel_rfl)
theorem wM:NmL (aa cV) "many":=.of (by kernel_rfl)
theorem uv:NmL (aa cV) "number":=.of (by kernel_rfl)
theorem Er (T:Txt K mg) (hq:bc (CXe P w)) {f:Addr} {fd:FuncData} (D:Df K mg "is_place" cV ["many","number"] f fd):FnOk P w K mg base (CXe P w) 1 f fd ["many","number"] (pb T):=by
 refine D.F.okC DU (fun vs H Q E h=>?_) (fun cdv A outer s H vs Q E hr h=>?_)
 . obtain ⟨m,n,rfl,_⟩:=h
   rfl
 . obtain ⟨m,n,rfl,k⟩:=h;refine ⟨_,(aq (aO (JC yY LJ ao (pvl 1 uv) (pvl 0 wM)))),?_⟩;rw [show L2.start ["many","number"] [V.int m,V.int n]=[some (V.int m),some (V.int n)] from rfl];walk_at "rd";by_cases c:0<=n
   . simpa [c] using k
   . simpa [c] using k
def tq (T:Txt K mg):Sp:=fun vs H Q _=>∃ (m:Int) (p:Addr) (r:Road),vs=[.int m,.ref p]/\H p=some (.tup (iH r))/\0<=r.a/\r.a<m/\0<=r.b/\r.b<m/\r.a≠r.b/\Q .non H
abbrev bP:Stmt:=top 18
theorem Bc:FnScope ["many","road"] ["many","road"] (aa bP):=FnScope.of (by kernel_rfl)
theorem lP:NmL (aa bP) "many":=.of (by kernel_rfl)
theorem eU:NmL (aa bP) "road":=.of (by kernel_rfl)
theorem dy:NmG (aa bP) "is_place":=.of (by kernel_rfl)
theorem FK:NmG (aa bP) "BadWeb":=.of (by kernel_rfl)
theorem Bg (T:Txt K mg) (hq:bc (CXe P w)) {f:Addr} {fd:FuncData} (D:Df K mg "check_ends" bP ["many","road"] f fd) {dB:Addr} {ja:FuncData} (bU:Df K mg "is_place" cV ["many","number"] dB ja) (G_is_place:FnOk P w K mg base (CXe P w) 1 dB ja ["many","number"] (pb T)):FnOk P w K mg base (CXe P w) 2 f fd ["many","road"] (tq T):=by
 refine D.F.okC Bc (fun vs H Q E h=>?_) (fun cdv A outer s H vs Q E hr h=>?_)
 . obtain ⟨m,p,r,rfl,_⟩:=h
   rfl
 . obtain ⟨m,p,r,rfl,hp,a0,a1,b0,b1,ne,k⟩:=h;refine ⟨_,(ap (bB (PW.pt (LG (qv (qz (ax G_is_place (hr.mono (by decide)) dy.g bU.m bU.F.kp bU.b .nil (aK hq) (ag (pvl 0 lP) (ag (bQ ie (pvl 1 eU) ao (fun _ _=>rfl)) aj)) (hdb:=dy.d)))) (HS (qv (qz (ax G_is_place (hr.mono (by decide)) dy.g bU.m bU.F.kp bU.b .nil (aK hq) (ag (pvl 0 lP) (ag (bQ ie (pvl 1 eU) ao (fun _ _=>rfl)) aj)) (hdb:=dy.d))))))) (aq kM) aP) (aq (bB (aJ cT (bQ ie (pvl 1 eU) ao (fun _ _=>rfl)) (bQ ie (pvl 1 eU) ao (fun _ _=>rfl)) (aN _)) (aq kM) aP))),?_⟩;rw [show L2.start ["many","road"] [V.int m,V.ref p]=[some (V.int m),some (V.ref p)] from rfl];walk_at "rd";refine ixT hp rfl ⟨m,r.a,rfl,_,rfl,?_⟩;rw [if_neg (by simp [a0,a1])];refine ixT hp rfl ⟨m,r.b,rfl,_,rfl,?_⟩;rw [if_neg (by simp [b0,b1])];refine ixT hp rfl (ixT hp rfl ⟨rfl,?_⟩);rw [if_neg (by simpa using ne)];exact k
def lW (T:Txt K mg):Sp:=fun vs H Q _=>∃ (t:Addr) (ps:List Addr) (rs:List Road) (n:Int),vs=[.ref t,.int n]/\SqT K H t (ps.map V.ref)/\RoadsAt H ps rs/\rs.length<=1000 /\
 ∀ l H',H l=none->Same H H'->H' l=some (.lst ((bT rs n).map V.int))->Q (.ref l) H'
abbrev bJ:Stmt:=top 21
theorem lZ:FnScope ["roads","place","ends","road"] ["roads","place"] (aa bJ):=FnScope.of (by kernel_rfl)
theorem tN:NmL (aa bJ) "roads":=.of (by kernel_rfl)
theorem ko:NmL (aa bJ) "place":=.of (by kernel_rfl)
theorem fg:NmL (aa bJ) "ends":=.of (by kernel_rfl)
theorem dG:NmL (aa bJ) "road":=.of (by kernel_rfl)
theorem Bj (T:Txt K mg) (hq:bc (CXe P w)) {f:Addr} {fd:FuncData} (D:Df K mg "other_ends" bJ ["roads","place"] f fd):FnOk P w K mg base (CXe P w) 1 f fd ["roads","place"] (lW T):=by
 refine D.F.okC lZ (fun vs H Q E h=>?_) (fun cdv A outer s H vs Q E hr h=>?_)
 . obtain ⟨t,ps,rs,n,rfl,_⟩:=h
   rfl
 . obtain ⟨t,ps,rs,n,rfl,ht,hp,hl,k⟩:=h;refine ⟨_,(ap (aD (i:=2) lZ.nd rfl (Or.inl fg.l) (bN aj)) (ap (eK PassesOwn.never rfl (tW (pvl 0 tN)) (aY (i:=3) lZ.nd rfl (Or.inl dG.l)) (ap (bB (aJ cT (bQ ie (pvl 3 dG) ao (fun _ _=>rfl)) (pvl 1 ko) (aN _)) (aq (cw (lm PySem.F.plainAttrs_list PySem.F.slot_list_append PySem.F.type_list_append eZ (pvl 2 fg) (ag (bQ ie (pvl 3 dG) ao (fun _ _=>rfl)) aj)))) aP) (aq (bB (aJ cT (bQ ie (pvl 3 dG) ao (fun _ _=>rfl)) (pvl 1 ko) (aN _)) (aq (cw (lm PySem.F.plainAttrs_list PySem.F.slot_list_append PySem.F.type_list_append eZ (pvl 2 fg) (ag (bQ ie (pvl 3 dG) ao (fun _ _=>rfl)) aj)))) aP)))) (aq (aO (pvl 2 fg))))),?_⟩;rw [show L2.start ["roads","place","ends","road"] [V.ref t,V.int n]=[some (V.ref t),some (V.int n),none,none] from rfl];walk_at "rd";refine ⟨by decide,fun l hn=>?_⟩;have hlen:ps.length=rs.length:=Paired.length hp;refine ⟨⟨_,Same.tup (Same.new _ hn) ht⟩,zZ (xs:=ps.map V.ref) (fun i σ H2=>H2=upd H l (.lst ((bT (rs.take i) n).map V.int))/\∃ v,σ=[some (.ref t),some (.int n),some (.ref l),v]) ⟨rfl,_,rfl⟩ (fun i σ H2 _ z=>by rw [z.1];exact Same.tup (Same.new _ hn) ht) ?_ ?_⟩
   . rintro i x σ H2 hi ⟨rfl,v,rfl⟩;obtain ⟨p,r,rfl,h1,h2,h3⟩:=hp.get hi;have np:p≠l:=bh h3 hn;have hil:i<rs.length:=(List.getElem?_eq_some_iff.mp h2).1;have et:rs.take (i+1)=rs.take i++[r]:=(by rw [List.take_succ,h2];rfl);have hb:(bT (rs.take i) n).length<=2000:=Nat.le_trans (Dk _ _) (by rw [List.length_take];omega);have hx:∀ o,upd H l o p=some (.tup (iH r)):=fun o=>by rw [ar np];exact h3
     walk_at "rd";refine ixT (hx _) rfl ?_;walk_at "rd";have fin:∀ (ys:List Int),(bT (rs.take i) n++ys)=bT (rs.take (i+1)) n->upd H l (.lst ((bT (rs.take i) n).map V.int++ys.map V.int))=upd H l (.lst ((bT (rs.take (i+1)) n).map V.int)):=fun ys e=>by
       rw [<- List.map_append,e]
     have e1:o7 n r=(if r.a=n then [r.b] else [])++(if r.b=n then [r.a] else []):=rfl;by_cases ca:r.a=n
     . rw [if_pos ca];refine ⟨tyL ah,ixT (hx _) rfl (vL ah (dU (by rw [List.length_map];omega)) ?_)⟩;rw [mI];refine ixT (hx _) rfl ?_;walk_at "rd";by_cases cb:r.b=n
       . rw [if_pos cb];refine ⟨tyL ah,ixT (hx _) rfl (vL ah (dU (by rw [List.length_append,List.length_map];simp;omega)) ?_)⟩;rw [mI,List.append_assoc];exact ⟨fin [r.b,r.a] (by rw [et,oZ,e1,if_pos ca,if_pos cb];rfl),_,rfl⟩
       . rw [if_neg cb];exact ⟨fin [r.b] (by rw [et,oZ,e1,if_pos ca,if_neg cb];rfl),_,rfl⟩
     . rw [if_neg ca];refine ixT (hx _) rfl ?_;walk_at "rd";by_cases cb:r.b=n
       . rw [if_pos cb];refine ⟨tyL ah,ixT (hx _) rfl (vL ah (dU (by rw [List.length_map];omega)) ?_)⟩;rw [mI];exact ⟨fin [r.a] (by rw [et,oZ,e1,if_neg ca,if_pos cb];rfl),_,rfl⟩
       . rw [if_neg cb];have:=fin [] (by rw [et,oZ,e1,if_neg ca,if_neg cb];rfl);rw [List.map_nil,List.append_nil] at this;exact ⟨this,_,rfl⟩
   . rintro σ H2 ⟨rfl,v,rfl⟩;rw [List.length_map,hlen,List.take_length];exact ⟨_,rfl,k l _ hn (Same.new _ hn) ah⟩
def iI (ks:List Int):List (Key × V):=ks.map fun k=>((Sum.inl k:Key),V.bl true)
theorem AE (ks:List Int):(iI ks).length=ks.length:=by unfold iI;rw [List.length_map]
theorem Dq (ks:List Int) (e:Int):kY (iI ks) (Sum.inl e:Key)=if e∈ks then some (V.bl true) else none:=by
 unfold iI
 induction ks with
 | nil=>rfl
 | cons k ks ih =>
   rw [List.map_cons];by_cases c:k=e
   . rw [rJ (by rw [c]),if_pos (by rw [c];exact List.mem_cons_self)]
   . rw [rz (fun z=>c (Sum.inl.inj z)),ih];by_cases d:e∈ks
     . rw [if_pos d,if_pos (List.mem_cons_of_mem _ d)]
     . rw [if_neg d,if_neg (fun z=>by rcases List.mem_cons.mp z with z|z;exact c z.symm;exact d z)]
theorem Lm {ks:List Int} {e:Int} (h:e ∉ ks):gW (iI ks) (Sum.inl e:Key) (V.bl true)=iI (ks++[e]):=by
 rw [La _ (by rw [Dq,if_neg h])];unfold iI;rw [List.map_append]
 rfl
def oQ (T:Txt K mg):Sp:=fun vs H Q _=>∃ (m:Int) (t:Addr) (ps:List Addr) (rs:List Road),vs=[.int m,.ref t]/\SqT K H t (ps.map V.ref)/\RoadsAt H ps rs/\Good m rs/\∀ H',Same H H'->Q .non H'
abbrev aL:Stmt:=top 20
theorem eV:FnScope ["many","roads","reached","waiting","place","end"] ["many","roads"] (aa aL):=FnScope.of (by kernel_rfl)
theorem sA:NmL (aa aL) "many":=.of (by kernel_rfl)
theorem qN:NmL (aa aL) "roads":=.of (by kernel_rfl)
theorem df:NmL (aa aL) "reached":=.of (by kernel_rfl)
theorem dc:NmL (aa aL) "waiting":=.of (by kernel_rfl)
theorem jL:NmL (aa aL) "place":=.of (by kernel_rfl)
theorem eL:NmL (aa aL) "end":=.of (by kernel_rfl)
theorem gw:NmG (aa aL) "other_ends":=.of (by kernel_rfl)
theorem gP:NmG (aa aL) "len":=.of (by kernel_rfl)
theorem Ed:NmG (aa aL) "BadWeb":=.of (by kernel_rfl)
theorem ya (T:Txt K mg) (hq:bc (CXe P w)) {f:Addr} {fd:FuncData} (D:Df K mg "check_joined" aL ["many","roads"] f fd) {cz:Addr} {gA:FuncData} (b4:Df K mg "other_ends" bJ ["roads","place"] cz gA) (G_other_ends:FnOk P w K mg base (CXe P w) 1 cz gA ["roads","place"] (lW T)):FnOk P w K mg base (CXe P w) 2 f fd ["many","roads"] (oQ T):=by
 refine D.F.okC eV (fun vs H Q E h=>?_) (fun cdv A outer s H vs Q E hr h=>?_)
 . obtain ⟨m,t,ps,rs,rfl,_⟩:=h
   rfl
 . obtain ⟨m,t,ps,rs,rfl,ht,hp,g,k⟩:=h;have hu:=OE hr;refine ⟨_,(ap (aD (i:=2) eV.nd rfl (Or.inl df.l) (Mo (Jd ao dg MK) rfl rfl (List.cons_ne_nil _ _) (by decide))) (ap (aD (i:=3) eV.nd rfl (Or.inl dc.l) (bN (ag ao aj))) (ap (xz PassesOwn.never (xk (pvl 3 dc) (fun _=>rfl)) (ap (aD (i:=4) eV.nd rfl (Or.inl jL.l) (CK PySem.F.plainAttrs_list PySem.F.slot_list_pop PySem.F.type_list_pop CG (pvl 3 dc))) (aq (eK PassesOwn.never rfl (jJ (ax G_other_ends (hr.mono (by decide)) gw.g b4.m b4.F.kp b4.b .nil (aK hq) (ag (pvl 1 qN) (ag (pvl 4 jL) aj)) (hdb:=gw.d))) (aY (i:=5) eV.nd rfl (Or.inl eL.l)) (aq (bB (NZ (GI hu (pvl 5 eL) (pvl 2 df))) (ap (Mu hu (pvl 2 df) (pvl 5 eL) dg rfl) (aq (cw (lm PySem.F.plainAttrs_list PySem.F.slot_list_append PySem.F.type_list_append eZ (pvl 3 dc) (ag (pvl 5 eL) aj))))) aP)))))) (aq (bB (aJ xW (bS GY gP.g T.len lx (ag (pvl 2 df) aj) (hn:=gP.n) (hdb:=gP.d)) (pvl 0 sA) (aN _)) (aq kM) aP))))),?_⟩;rw [show L2.start ["many","roads","reached","waiting","place","end"] [V.int m,V.ref t]=[some (V.int m),some (V.ref t),none,none,none,none] from rfl];have m1:=g.m1;have m24:=g.m24;have glen:=g.len;walk_at "rd";intro d hd;refine ⟨ah,[(Sum.inl 0,.bl true)],rfl,by decide,?_⟩;rw [mI];refine ⟨by decide,fun w0 hw=>?_⟩;have ed:qB [] [((Sum.inl 0:Key),V.bl true)]=iI [0]:=rfl;rw [ed];have ndw:w0≠d:=fun z=>by rw [z,ah] at hw;cases hw
   have hw0:H w0=none:=by rw [ar ndw] at hw;exact hw
   refine ED (fun n σ H2=>∃ (ks ws:List Int) (v4 v5:Option V),n=2*(m.toNat - ks.length)+ws.length/\σ=[some (.int m),some (.ref t),some (.ref d),some (.ref w0),v4,v5]/\Same H H2/\H2 d=some (.dK (iI ks))/\H2 w0=some (.lst (ws.map V.int))/\JInv m rs ks ws) _ ⟨[0],[0],none,none,rfl,rfl,?_,?_,ah,JInv.start m1⟩ ?_
   . exact Same.trans (Same.new _ hd) (Same.new _ hw)
   . rw [ar ndw.symm,ah]
   rintro n σ H2 NW hN hN2 ⟨ks,ws,v4,v5,rfl,rfl,sm,h1,h2,J⟩;have kl:=cL (by omega) J.nd J.rng;refine ⟨_,rfl,!(ws.map V.int).isEmpty,.inl ⟨_,SqL.of h2,rfl⟩,?_⟩;rcases List.eq_nil_or_concat ws with rfl|⟨ws',p,rfl⟩
   . -- nothing waits: all places have been reached
     have full:=J.all m1 g.jn;refine OU ?_;walk_at "rd";refine ⟨iI ks,h1,?_⟩;rw [AE,if_neg (by omega)];exact k _ sm
   . rw [List.concat_eq_append] at J h2 hN hN2 ⊢;have e1:(!(List.map V.int (ws'++[p])).isEmpty)=true:=(by simp);rw [e1];refine OL ⟨NW,hN2,?_⟩;walk_at "rd";rw [List.map_append,List.map_cons,List.map_nil] at h2;refine ⟨tyL h2,JT h2 ?_⟩;have ndw':d≠w0:=ndw.symm;have sm2:Same H (upd H2 w0 (.lst (ws'.map V.int))):=fun b o e=>by rw [ar (bh e hw0)];exact sm b o e
     refine ⟨t,ps,rs,p,rfl,Same.tup sm2 ht,RoadsAt.same sm2 hp,by omega,fun l H3 hn s3 hl=>?_⟩;have nlw:w0≠l:=bh (o:=.lst (ws'.map V.int)) ah hn;have nld:d≠l:=bh (o:=.dK (iI ks)) (by rw [ar ndw'];exact h1) hn;have hl0:H l=none:=sm2.free hn;refine ⟨l,rfl,⟨_,SqL.of hl⟩,Au (K:=K) (xs:=(bT rs p).map V.int) (fun i σ H4=>∃ (v5:Option V),σ=[some (.int m),some (.ref t),some (.ref d),some (.ref w0),some (.int p),v5]/\Same H H4/\H4 l=some (.lst ((bT rs p).map V.int)) /\
       ∃ ks4 ws4:List Int,H4 d=some (.dK (iI ks4))/\H4 w0=some (.lst (ws4.map V.int))/\JMid m rs p ((bT rs p).take i) ks4 ws4 ks ws'.length) ?_ (fun i σ H4 _ z=>by obtain ⟨_,_,_,z,_⟩:=z;exact SqL.of z) ?_ ?_⟩
     . refine ⟨_,rfl,sm2.trans s3,hl,ks,ws',?_,?_,?_⟩
       . exact s3 _ _ (by rw [ar ndw'];exact h1)
       . exact s3 _ _ ah
       . rw [List.take_zero];exact JMid.start J
     . rintro i x σ H4 NI hI hi ⟨v5,rfl,s4,hl4,ks4,ws4,hd4,hw4,M⟩;rw [List.getElem?_map] at hi;obtain ⟨e,he,rfl⟩:∃ e,(bT rs p)[i]?=some e/\V.int e=x:=by
         cases q:(bT rs p)[i]? with
         | none=>rw [q] at hi;cases hi
         | some e=>rw [q] at hi;exact ⟨e,rfl,Option.some.inj hi⟩
       have er:=Li g.ok (List.mem_of_getElem? he);have et:(bT rs p).take (i+1)=(bT rs p).take i++[e]:=(by rw [List.take_succ,he];rfl);have st:=M.step er.1 er.2;have k4:=cL (by omega) M.nd M.rng;have mu4:=M.mu;walk_at "rd";refine ⟨_,DGet.k (k:=Sum.inl e) hd4,?_⟩;rw [Dq];by_cases c:e∈ks4
       . rw [if_pos c];rw [if_neg (by simp)];refine hI _ _ ⟨_,rfl,s4,hl4,ks4,ws4,hd4,hw4,?_⟩;rw [et];unfold yx at st;rw [if_pos c] at st;exact st
       . rw [if_neg c];rw [if_pos (by simp)];refine ⟨_,DPut.k (k:=Sum.inl e) hd4 (dU (by rw [AE];omega)),?_⟩;rw [Lm c];have hw5:upd H4 d (.dK (iI (ks4++[e]))) w0=some (.lst (ws4.map V.int)):=(by rw [ar ndw];exact hw4);refine ⟨tyL hw5,vL hw5 (dU (by rw [List.length_map];have:=M.wl;omega)) ?_⟩;have hmid:=M.mu;refine hI _ _ ⟨_,rfl,fun b o z=>?_,?_,ks4++[e],ws4++[e],?_,?_,?_⟩
         . rw [ar (bh z hw0),ar (bh z hd)];exact s4 b o z
         . rw [ar nlw.symm,ar nld.symm];exact hl4
         . rw [ar ndw',ah]
         . rw [ah,List.map_append];rfl
         . rw [et];unfold yx at st;rw [if_neg c] at st;exact st
     . rintro σ H4 ⟨v5,rfl,s4,hl4,ks4,ws4,hd4,hw4,M⟩;rw [List.length_map,List.take_length] at M;have k4:=cL (by omega) M.nd M.rng;have mu4:=M.mu;have up4:=M.up;refine hN _ _ _ ?_ ⟨ks4,ws4,some (.int p),v5,rfl,rfl,s4,hd4,hw4,M.done⟩;rw [List.length_append];simp only [List.length_cons,List.length_nil];omega
def qE (T:Txt K mg):Sp:=fun vs H Q _=>∃ (p:Addr) (r:Road),vs=[.ref p]/\H p=some (.tup (iH r))/\2<=r.t/\r.t<=1000000/\2<=r.u/\r.u<=1000000/\∀ H',Same H H'->Q .non H'
abbrev bw:Stmt:=top 19
theorem qo:FnScope ["road","number"] ["road"] (aa bw):=FnScope.of (by kernel_rfl)
theorem kt:NmL (aa bw) "road":=.of (by kernel_rfl)
theorem jK:NmL (aa bw) "number":=.of (by kernel_rfl)
theorem hV:NmG (aa bw) "LEAST_TOLL":=.of (by kernel_rfl)
theorem iq:NmG (aa bw) "MOST_TOLL":=.of (by kernel_rfl)
theorem EE:NmG (aa bw) "BadWeb":=.of (by kernel_rfl)
theorem Af (T:Txt K mg) (hq:bc (CXe P w)) {f:Addr} {fd:FuncData} (D:Df K mg "check_tolls" bw ["road"] f fd):FnOk P w K mg base (CXe P w) 1 f fd ["road"] (qE T):=by
 refine D.F.okC qo (fun vs H Q E h=>?_) (fun cdv A outer s H vs Q E hr h=>?_)
 . obtain ⟨p,r,rfl,_⟩:=h
   rfl
 . obtain ⟨p,r,rfl,hp,t0,t1,u0,u1,k⟩:=h;refine ⟨_,(aq (eK PassesOwn.never rfl (tW (qM (ag (bQ ie (pvl 0 kt) ao (fun _ _=>rfl)) (ag (bQ ie (pvl 0 kt) ao (fun _ _=>rfl)) aj)))) (aY (i:=1) qo.nd rfl (Or.inl jK.l)) (aq (bB (qv (C2 yY yY (xG hV.g T.c_LEAST_TOLL (hd:=hV.d)) (pvl 1 jK) (xG iq.g T.c_MOST_TOLL (hd:=iq.d)))) (aq kM) aP)))),?_⟩;rw [show L2.start ["road","number"] [V.ref p]=[some (V.ref p),none] from rfl];walk_at "rd";refine ixT hp rfl (ixT hp rfl ⟨aR (by simp),fun q hn=>?_⟩);have e1:upd H q (.tup [.int r.t,.int r.u]) q=some (.tup [.int r.t,.int r.u]):=ah;refine ⟨⟨_,SqT.of e1⟩,zZ (K:=K) (xs:=[.int r.t,.int r.u]) (fun i σ H2=>H2=upd H q (.tup [.int r.t,.int r.u])/\∃ v,σ=[some (.ref p),v]) ⟨rfl,_,rfl⟩ (fun i σ H2 _ z=>by rw [z.1];exact SqT.of e1) ?_ ?_⟩
   . rintro i x σ H2 hi ⟨rfl,v,rfl⟩;have hx:∃ n:Int,x=.int n/\2<=n/\n<=1000000:=by
       match i,hi with
       | 0,hi=>exact ⟨r.t,by simpa using hi.symm,t0,t1⟩
       | 1,hi=>exact ⟨r.u,by simpa using hi.symm,u0,u1⟩
     obtain ⟨n,rfl,n0,n1⟩:=hx;walk_at "rd";rw [if_pos n0,if_neg (by omega)];exact ⟨_,rfl⟩
   . rintro σ H2 ⟨rfl,v,rfl⟩;exact k _ (Same.new _ hn)
/-- the attributes of a web -/
def yU (m:Int) (t:Addr):List (Str × V):=aW "roads" (.ref t) (aW "many" (.int m) [])
theorem Oz:¬ (("many":Str)="roads"):=by decide +kernel
theorem jW (m:Int) (t:Addr):(yU m t).lookup ("many":Str)=some (.int m):=by
 unfold yU;rw [bE,if_neg Oz,bE,if_pos rfl]
theorem wA (m:Int) (t:Addr):(yU m t).lookup ("roads":Str)=some (.ref t):=by
 unfold yU;rw [bE,if_pos rfl]
/-- a web of m places and the roads rs stands at p,its tuple at t,the roads' tuples at ps -/
structure WebAt (C:Addr) (H:Hp) (p:Addr) (m:Int) (t:Addr) (ps:List Addr) (rs:List Road):Prop where
 ob:∃ dx,H p=some (.ins C dx (yU m t))
 tu:H t=some (.tup (ps.map V.ref))
 ro:RoadsAt H ps rs
 go:Good m rs
theorem WebAt.same {C:Addr} {H H':Hp} {p:Addr} {m:Int} {t:Addr} {ps:List Addr} {rs:List Road} (e:Same H H') (h:WebAt C H p m t ps rs):WebAt C H' p m t ps rs :=
 ⟨let ⟨dx,q⟩:=h.ob;⟨dx,e _ _ q⟩,e _ _ h.tu,RoadsAt.same e h.ro,h.go⟩
def kc (T:Txt K mg):Sp:=fun vs H Q _=>∃ (p dx:Addr) (m:Int) (c:Bool) (a:Addr) (ps:List Addr) (rs:List Road),vs=[.ref p,.int m,.ref a]/\H p=some (.ins T.Web dx [])/\SqX K c H a (ps.map V.ref)/\RoadsAt H ps rs/\Good m rs /\
 ∀ t H',H t=none->WebAt T.Web H' p m t ps rs->(∀ b o,H b=some o->b≠p->H' b=some o)->Q .non H'
abbrev aM:Stmt:=Ez (top 12) 0
theorem j9:FnScope ["self","many","roads","kept","road"] ["self","many","roads"] (aa aM):=FnScope.of (by kernel_rfl)
theorem jR:NmL (aa aM) "self":=.of (by kernel_rfl)
theorem dW:NmL (aa aM) "many":=.of (by kernel_rfl)
theorem qm:NmL (aa aM) "roads":=.of (by kernel_rfl)
theorem cX:NmL (aa aM) "kept":=.of (by kernel_rfl)
theorem gh:NmL (aa aM) "road":=.of (by kernel_rfl)
theorem fP:NmG (aa aM) "tuple":=.of (by kernel_rfl)
theorem fH:NmG (aa aM) "check_counts":=.of (by kernel_rfl)
theorem gD:NmG (aa aM) "check_ends":=.of (by kernel_rfl)
theorem fZ:NmG (aa aM) "check_tolls":=.of (by kernel_rfl)
theorem fL:NmG (aa aM) "check_joined":=.of (by kernel_rfl)
theorem yV (T:Txt K mg) (hq:bc (CXe P w)) {f:Addr} {fd:FuncData} (F:Fun K "__init__" "Web.__init__" aM f fd) {dq:Addr} {oS:FuncData} (d9:Df K mg "check_counts" bj ["many","roads"] dq oS) (G_check_counts:FnOk P w K mg base (CXe P w) 1 dq oS ["many","roads"] (oM T)) {eI:Addr} {sX:FuncData} (fJ:Df K mg "check_ends" bP ["many","road"] eI sX) (G_check_ends:FnOk P w K mg base (CXe P w) 2 eI sX ["many","road"] (tq T)) {dk:Addr} {oG:FuncData} (d8:Df K mg "check_joined" aL ["many","roads"] dk oG) (G_check_joined:FnOk P w K mg base (CXe P w) 2 dk oG ["many","roads"] (oQ T)) {dQ:Addr} {qj:FuncData} (eR:Df K mg "check_tolls" bw ["road"] dQ qj) (G_check_tolls:FnOk P w K mg base (CXe P w) 1 dQ qj ["road"] (qE T)):FnOk P w K mg base (CXe P w) 3 f fd ["self","many","roads"] (kc T):=by
 refine F.okC j9 (fun vs H Q E h=>?_) (fun cdv A outer s H vs Q E hr h=>?_)
 . obtain ⟨p,dx,m,c,a,ps,rs,rfl,_⟩:=h
   rfl
 . obtain ⟨p,dx,m,c,a,ps,rs,rfl,hp,ha,hro,g,k⟩:=h;refine ⟨_,(ap (aD (i:=3) j9.nd rfl (Or.inl cX.l) (f6 jh fP.g T.tuple rY (ag (mH rfl (wJ (Nc:=["road"]) 1 (by decide +kernel) (by decide +kernel) rfl (by decide +kernel) rfl) (GR c (pvl 2 qm)) (fun _ _ _ _=>(aY (i:=0) (show (["road"]:List Str).Nodup from by decide +kernel) rfl (Or.inl rfl))) (fun _ _ _ _=>vZ) (fun _ _ _ _=>(f6 (zr K rfl) (by rfl) T.tuple rY (ag (pv 0) aj)))) aj) (hn:=fP.n) (hdb:=fP.d))) (ap (cw (ax G_check_counts (hr.mono (by decide)) fH.g d9.m d9.F.kp d9.b .nil (aK hq) (ag (pvl 1 dW) (ag (pvl 3 cX) aj)) (hdb:=fH.d))) (ap (eK PassesOwn.never rfl (tW (pvl 3 cX)) (aY (i:=4) j9.nd rfl (Or.inl gh.l)) (ap (cw (ax G_check_ends (hr.mono (by decide)) gD.g fJ.m fJ.F.kp fJ.b .nil (aK hq) (ag (pvl 1 dW) (ag (pvl 4 gh) aj)) (hdb:=gD.d))) (aq (cw (ax G_check_tolls (hr.mono (by decide)) fZ.g eR.m eR.F.kp eR.b .nil (aK hq) (ag (pvl 4 gh) aj) (hdb:=fZ.d)))))) (ap (cw (ax G_check_joined (hr.mono (by decide)) fL.g d8.m d8.F.kp d8.b .nil (aK hq) (ag (pvl 1 dW) (ag (pvl 3 cX) aj)) (hdb:=fL.d))) (ap (qA (pvl 0 jR) (pvl 1 dW) rfl) (aq (qA (pvl 0 jR) (pvl 3 cX) rfl))))))),?_⟩;rw [show L2.start ["self","many","roads","kept","road"] [V.ref p,V.int m,V.ref a]=[some (V.ref p),some (V.int m),some (V.ref a),none,none] from rfl];walk_at "rd";refine ⟨⟨_,ha⟩,fun l hl=>?_⟩;have hlen:ps.length=rs.length:=Paired.length hro;have glen:=g.len;have m24:=g.m24;have hl1:Same H (upd H l (.lst [])):=Same.new _ hl;refine xI (K:=K) (xs:=ps.map V.ref) (fun i ys σ H2=>H2=upd H l (.lst ((ps.take i).map V.ref))/\ys=(ps.take i).map V.ref/\∃ v,σ=[v]) ⟨rfl,rfl,_,rfl⟩ (fun i ys σ H2 _ ⟨z,_⟩=>by rw [z];exact Same.sqX (Same.new _ hl) ha) ?_ ?_
   . rintro i x ys σ H2 N hN hi ⟨rfl,rfl,v,rfl⟩;obtain ⟨q,r,rfl,h1,h2,h3⟩:=hro.get hi;have nq:q≠l:=bh h3 hl;have hil:i<ps.length:=(List.getElem?_eq_some_iff.mp h1).1;have et:ps.take (i+1)=ps.take i++[q]:=(by rw [List.take_succ,h1];rfl);walk_at "rd";refine ⟨iH r,.inr ⟨SqT.of (by rw [ar nq];exact h3),ah,dU (by rw [List.length_map,List.length_take];omega),hN _ _ _ ⟨?_,?_,_,rfl⟩⟩⟩
     . rw [mI,et,List.map_append];rfl
     . rw [et,List.map_append];rfl
   . rintro ys σ H2 ⟨rfl,rfl,v,rfl⟩;rw [List.length_map,List.take_length];refine ⟨l,rfl,ps.map V.ref,.inl ⟨SqL.of ah,fun t ht=>?_⟩⟩;have s1:Same H (upd H l (.lst (ps.map V.ref))):=Same.new _ hl;have s2:Same (upd H l (.lst (ps.map V.ref))) (upd (upd H l (.lst (ps.map V.ref))) t (.tup (ps.map V.ref))):=Same.new _ ht;have ht0:H t=none:=s1.free ht;have ht1:∀ {H':Hp},Same (upd (upd H l (.lst (ps.map V.ref))) t (.tup (ps.map V.ref))) H'->H' t=some (.tup (ps.map V.ref)):=fun e=>e _ _ ah;refine ⟨m,t,ps.map V.ref,rfl,SqT.of ah,g.m1,g.m24,by rw [List.length_map];omega,⟨_,SqT.of ah⟩,?_⟩;refine Di (K:=K) (xs:=ps.map V.ref) (fun i σ H3=>Same (upd (upd H l (.lst (ps.map V.ref))) t (.tup (ps.map V.ref))) H3/\∃ v,σ=[some (.ref p),some (.int m),some (.ref a),some (.ref t),v]) ⟨Same.refl _,_,rfl⟩ (fun i σ H3 _ ⟨z,_⟩=>SqT.of (ht1 z)) ?_ ?_
     . rintro i x σ H3 N hN hi ⟨s3,v,rfl⟩;have s03:=s1.trans (s2.trans s3);obtain ⟨q,r,rfl,h1,h2,h3⟩:=hro.get hi;have ok:=g.ok r (List.mem_of_getElem? h2);walk_at "rd";refine ⟨m,q,r,rfl,s03 _ _ h3,ok.a0,ok.a1,ok.b0,ok.b1,ok.ne,?_⟩;exact ⟨q,r,rfl,s03 _ _ h3,ok.t0,ok.t1,ok.u0,ok.u1,fun H4 s4=>hN _ _ ⟨s3.trans s4,_,rfl⟩⟩
     . rintro σ H3 ⟨s3,v,rfl⟩;have s03:=s1.trans (s2.trans s3);walk_at "rd";refine ⟨m,t,ps,rs,rfl,SqT.of (ht1 s3),RoadsAt.same s03 hro,g,fun H4 s4=>?_⟩;have s04:=s03.trans s4;have ntp:t≠p:=fun z=>by rw [z,hp] at ht0;cases ht0
       refine ⟨T.Web,dx,[],s04 _ _ hp,T.jf,T.n_many,by decide,?_⟩;refine ⟨T.Web,dx,_,ah,T.jf,T.n_roads,by show 1<1000;decide,?_⟩;rw [mI];refine k t _ ht0 ⟨⟨dx,ah⟩,?_,?_,g⟩ fun b o hb nb=>?_
       . rw [ar ntp];exact ht1 (s3.trans s4)
       . refine Paired.imp' (fun q r hq=>?_) hro;rw [ar (gm hq hp (by intro z;cases z))];exact s04 _ _ hq
       . rw [ar nb];exact s04 _ _ hb
/-- Web(m,roads),at a call: nothing is changed,a new web stands -/
theorem NH (T:Txt K mg) {H:Hp} {m:Int} {c:Bool} {a:Addr} {ps:List Addr} {rs:List Road} {Q:Addr->Hp->Prop} (ha:SqX K c H a (ps.map V.ref)) (ro:RoadsAt H ps rs) (g:Good m rs)
   (k:∀ x t H',H x=none->H t=none->Same H H'->WebAt T.Web H' x m t ps rs->Q x H') :
   ∀ x dx,H x=none->H dx=none->dx≠x->kc T [.ref x,.int m,.ref a] (upd (upd H dx (.own x)) x (.ins T.Web dx [])) (fun v H2=>v=.non/\Q x H2) E0:=by
 intro x dx hx hdx ne;have hx1:upd H dx (.own x) x=none:=by rw [ar ne.symm];exact hx
 have s0:Same H (upd (upd H dx (.own x)) x (.ins T.Web dx [])):=(Same.new _ hdx).trans (Same.new _ hx1);exact ⟨x,dx,m,c,a,ps,rs,rfl,ah,Same.sqX s0 ha,RoadsAt.same s0 ro,g,fun t H' ht W kp=>⟨rfl,k x t H' hx (s0.free ht) (fun b o e=>kp b o (s0 b o e) (bh e hx)) W⟩⟩
theorem DH (c i:Int) (i0:0<=i) (i1:i<=1000):CMul 7919 i/\CMul (c % 998244353+7919*i+11) 48271/\CMul ((c % 998244353+7919*i+11)*48271 % 2147483647) ((c % 998244353+7919*i+11)*48271 % 2147483647)/\CMul (((c % 998244353+7919*i+11)*48271 % 2147483647)*((c % 998244353+7919*i+11)*48271 % 2147483647) % 2147483629) (((c % 998244353+7919*i+11)*48271 % 2147483647)*((c % 998244353+7919*i+11)*48271 % 2147483647) % 2147483629)/\CMul ((((c % 998244353+7919*i+11)*48271 % 2147483647)*((c % 998244353+7919*i+11)*48271 % 2147483647) % 2147483629)*(((c % 998244353+7919*i+11)*48271 % 2147483647)*((c % 998244353+7919*i+11)*48271 % 2147483647) % 2147483629)) (((c % 998244353+7919*i+11)*48271 % 2147483647)+12345678901)/\Ob ((((c % 998244353+7919*i+11)*48271 % 2147483647)*((c % 998244353+7919*i+11)*48271 % 2147483647) % 2147483629)*(((c % 998244353+7919*i+11)*48271 % 2147483647)*((c % 998244353+7919*i+11)*48271 % 2147483647) % 2147483629)*(((c % 998244353+7919*i+11)*48271 % 2147483647)+12345678901)) 7/\0<=(((c % 998244353+7919*i+11)*48271 % 2147483647)*((c % 998244353+7919*i+11)*48271 % 2147483647) % 2147483629)*(((c % 998244353+7919*i+11)*48271 % 2147483647)*((c % 998244353+7919*i+11)*48271 % 2147483647) % 2147483629)*(((c % 998244353+7919*i+11)*48271 % 2147483647)+12345678901) / 7:=by
 have h3:=Int.emod_nonneg ((c % 998244353+7919*i+11)*48271) (show (2147483647:Int)≠0 by decide);have h4:=Int.emod_lt_of_pos ((c % 998244353+7919*i+11)*48271) (show (0:Int)<2147483647 by decide);generalize (c % 998244353+7919*i+11)*48271 % 2147483647=n at h3 h4 ⊢;have h5:=Int.emod_nonneg (n*n) (show (2147483629:Int)≠0 by decide);have h6:=Int.emod_lt_of_pos (n*n) (show (0:Int)<2147483629 by decide);generalize n*n % 2147483629=f at h5 h6 ⊢;refine ⟨.inl ⟨by decide,by decide⟩,.inr ⟨by decide,by decide⟩,.inl ⟨by omega,by omega⟩,.inl ⟨by omega,by omega⟩,.inr ⟨by omega,by omega⟩,⟨by decide,by decide⟩,?_⟩;exact Int.ediv_nonneg (Int.mul_nonneg (Int.mul_nonneg h5 h5) (by omega)) (by decide)
def fT (T:Txt K mg):Sp:=fun vs H Q _=>∃ (a:Addr) (ns:List Int) (k:Int),vs=[.ref a,.int k]/\SqL K H a (ns.map V.int)/\0<=k/\k<=1000/\∀ v,0<=v->Q (.int v) H
abbrev be:Stmt:=top 46
theorem fU:FnScope ["script","k","cell","near","far"] ["script","k"] (aa be):=FnScope.of (by kernel_rfl)
theorem eN:NmL (aa be) "script":=.of (by kernel_rfl)
theorem kL:NmL (aa be) "k":=.of (by kernel_rfl)
theorem dS:NmL (aa be) "cell":=.of (by kernel_rfl)
theorem fF:NmL (aa be) "near":=.of (by kernel_rfl)
theorem jp:NmL (aa be) "far":=.of (by kernel_rfl)
theorem dl:NmG (aa be) "len":=.of (by kernel_rfl)
theorem Dr (T:Txt K mg) (hq:bc (CXe P w)) {f:Addr} {fd:FuncData} (D:Df K mg "_law_drawn" be ["script","k"] f fd):FnOk P w K mg base (CXe P w) 1 f fd ["script","k"] (fT T):=by
 refine D.F.okC fU (fun vs H Q E h=>?_) (fun cdv A outer s H vs Q E hr h=>?_)
 . obtain ⟨a,ns,i,rfl,_⟩:=h
   rfl
 . obtain ⟨a,ns,i,rfl,ha,i0,i1,k⟩:=h;refine ⟨_,(ap (aD (i:=2) fU.nd rfl (Or.inl dS.l) ao) (ap (bB (aJ LJ (pvl 1 kL) (bS eE dl.g T.len lx (ag (pvl 0 eN) aj) (hn:=dl.n) (hdb:=dl.d)) (aN _)) (aq (aD (i:=2) fU.nd rfl (Or.inl dS.l) (au aZ (bQ bW (pvl 0 eN) (pvl 1 kL) (fun _ _=>rfl)) (au ip ao ao)))) aP) (ap (bB (PW.pt (CM (aJ Br (bS eE dl.g T.len lx (ag (pvl 0 eN) aj) (hn:=dl.n) (hdb:=dl.d)) ao (aN _)) (zh (aJ cT (au aZ (bQ bW (pvl 0 eN) ao (fun _ _=>rfl)) ao) ao (aN _))))) (ap (aD (i:=3) fU.nd rfl (Or.inl fF.l) (au aZ (au jV (au eX (au eX (au aZ (pvl 2 dS) ao) (au jV ao (pvl 1 kL))) ao) ao) ao)) (ap (aD (i:=4) fU.nd rfl (Or.inl jp.l) (au aZ (au jV (pvl 3 fF) (pvl 3 fF)) ao)) (aq (aD (i:=2) fU.nd rfl (Or.inl dS.l) (au cq (au jV (au jV (pvl 4 jp) (pvl 4 jp)) (au eX (pvl 3 fF) ao)) ao))))) aP) (aq (aO (pvl 2 dS)))))),?_⟩;rw [show L2.start ["script","k","cell","near","far"] [V.ref a,V.int i]=[some (V.ref a),some (V.int i),none,none,none] from rfl];walk_at "rd";refine ⟨_,.inl ha,?_⟩;rw [List.length_map];by_cases z:i<(ns.length:Int)
   . rw [if_pos z];refine ixS ha (atG i0 z) ⟨⟨by decide,by decide,by decide⟩,_,rfl,p60,?_⟩;have c0:=Int.emod_nonneg (ns.getD i.toNat 0) (Int.ne_of_gt p60);generalize ns.getD i.toNat 0 % 10^Int.toNat 60=c at c0 ⊢;obtain ⟨h1,h2,h3,h4,h5,h6,h7⟩:=DH c i i0 i1;refine ⟨_,.inl ha,?_⟩;rw [List.length_map,if_pos (by omega)];refine ixS ha (atG (by decide) (by omega)) ⟨_,rfl,by decide,?_⟩;by_cases y:ns.getD (0:Int).toNat 0 % 2=1
     . rw [if_pos y];exact ⟨by decide,h1,h2,by decide,h3,by decide,h4,h5,h6,k _ h7⟩
     . rw [if_neg y];exact k _ c0
   . rw [if_neg z];obtain ⟨h1,h2,h3,h4,h5,h6,h7⟩:=DH 0 i i0 i1;refine ⟨_,.inl ha,?_⟩;rw [List.length_map];by_cases x:0<(ns.length:Int)
     . rw [if_pos x];refine ixS ha (atG (by decide) x) ⟨_,rfl,by decide,?_⟩;by_cases y:ns.getD (0:Int).toNat 0 % 2=1
       . rw [if_pos y];exact ⟨by decide,h1,h2,by decide,h3,by decide,h4,h5,h6,k _ h7⟩
       . rw [if_neg y];exact k 0 (by decide)
     . rw [if_neg x];exact k 0 (by decide)
def uF (T:Txt K mg):Sp:=fun vs H Q _=>∃ (a:Addr) (ns:List Int),vs=[.ref a]/\SqL K H a (ns.map V.int)/\∀ b H',1<=b->Same H H'->Q (.int b) H'
abbrev cD:Stmt:=top 50
theorem ve:FnScope ["script","head"] ["script"] (aa cD):=FnScope.of (by kernel_rfl)
theorem tT:NmL (aa cD) "script":=.of (by kernel_rfl)
theorem mi:NmL (aa cD) "head":=.of (by kernel_rfl)
theorem jb:NmG (aa cD) "_law_drawn":=.of (by kernel_rfl)
theorem Cu (T:Txt K mg) (hq:bc (CXe P w)) {f:Addr} {fd:FuncData} (D:Df K mg "_law_bound" cD ["script"] f fd) {ba:Addr} {bA:FuncData} (az:Df K mg "_law_drawn" be ["script","k"] ba bA) (G_law_drawn:FnOk P w K mg base (CXe P w) 1 ba bA ["script","k"] (fT T)):FnOk P w K mg base (CXe P w) 2 f fd ["script"] (uF T):=by
 refine D.F.okC ve (fun vs H Q E h=>?_) (fun cdv A outer s H vs Q E hr h=>?_)
 . obtain ⟨a,ns,rfl,_⟩:=h
   rfl
 . obtain ⟨a,ns,rfl,ha,k⟩:=h;refine ⟨_,(ap (aD (i:=1) ve.nd rfl (Or.inl mi.l) (au cq (ax G_law_drawn (hr.mono (by decide)) jb.g az.m az.F.kp az.b .nil (aK hq) (ag (pvl 0 tT) (ag ao aj)) (hdb:=jb.d)) ao)) (aq (aO (bQ bW (bN (ag ao (ag ao (ag ao (ag (au ip ao ao) aj))))) (au aZ (pvl 1 mi) ao) (fun _ _=>rfl))))),?_⟩;rw [show L2.start ["script","head"] [V.ref a]=[some (V.ref a),none] from rfl];walk_at "rd";refine ⟨a,ns,0,rfl,ha,by decide,by decide,fun c c0=>⟨c,rfl,⟨by decide,by decide⟩,⟨by decide,by decide,by decide⟩,aR (by simp),fun q nq=>⟨by decide,?_⟩⟩⟩;have h1:=Int.emod_nonneg (c / 1200) (show (4:Int)≠0 by decide);have h2:=Int.emod_lt_of_pos (c / 1200) (show (0:Int)<4 by decide);generalize c / 1200 % 4=j at h1 h2 ⊢;rcases (show j=0\/j=1\/j=2\/j=3 by omega) with z|z|z|z
   . rw [z];exact ixL ah rfl (k _ _ (by decide) (Same.new _ nq))
   . rw [z];exact ixL ah rfl (k _ _ (by decide) (Same.new _ nq))
   . rw [z];exact ixL ah rfl (k _ _ (by decide) (Same.new _ nq))
   . rw [z];exact ixL ah rfl (k _ _ p60 (Same.new _ nq))
def iM (T:Txt K mg):Sp:=fun vs H Q E=>∃ (p t:Addr) (m:Int) (ps:List Addr) (rs:List Road) (n:Int),vs=[.ref p,.int n]/\WebAt T.Web H p m t ps rs/\(0<=n->n<m->Q .non H)/\(¬ (0<=n/\n<m)->E (.ref T.NoPlace) none H)
abbrev bn:Stmt:=top 15
theorem zG:FnScope ["web","number"] ["web","number"] (aa bn):=FnScope.of (by kernel_rfl)
theorem vt:NmL (aa bn) "web":=.of (by kernel_rfl)
theorem qu:NmL (aa bn) "number":=.of (by kernel_rfl)
theorem iT:NmG (aa bn) "is_place":=.of (by kernel_rfl)
theorem jd:NmG (aa bn) "NoPlace":=.of (by kernel_rfl)
theorem zA (T:Txt K mg) (hq:bc (CXe P w)) {f:Addr} {fd:FuncData} (D:Df K mg "check_place" bn ["web","number"] f fd) {dB:Addr} {ja:FuncData} (bU:Df K mg "is_place" cV ["many","number"] dB ja) (G_is_place:FnOk P w K mg base (CXe P w) 1 dB ja ["many","number"] (pb T)):FnOk P w K mg base (CXe P w) 2 f fd ["web","number"] (iM T):=by
 refine D.F.okX zG (fun vs H Q E h=>?_) (fun cdv A outer s H vs Q E hr h=>?_)
 . obtain ⟨p,t,m,ps,rs,n,rfl,_⟩:=h
   rfl
 . obtain ⟨p,t,m,ps,rs,n,rfl,W,k,e⟩:=h;obtain ⟨dx,ob⟩:=W.ob;refine ⟨_,(aq (bB (qv (qz (ax G_is_place (hr.mono (by decide)) iT.g bU.m bU.F.kp bU.b .nil c6 (ag (cS  (pvl 0 vt) rfl) (ag (pvl 1 qu) aj)) (hdb:=iT.d)))) (aq (rP T.HX rfl wd jd.g T.Al (ag yk aj) (hdb:=jd.d))) aP)),?_⟩;rw [show L2.start ["web","number"] [V.ref p,V.int n]=[some (V.ref p),some (V.int n)] from rfl];walk_at "rd";refine ⟨T.Web,dx,_,ob,T.jf,T.n_many,_,jW m t,m,n,rfl,_,rfl,?_⟩;by_cases c:0<=n/\n<m
   . rw [if_neg (by simp [c.1,c.2])];exact k c.1 c.2
   . rw [if_pos (by simpa [Bool.and_eq_true] using c)];exact ⟨by decide,e c⟩
def tG (T:Txt K mg):Sp:=fun vs H Q E=>∃ (p t:Addr) (m:Int) (ps:List Addr) (rs:List Road) (a:Int),vs=[.ref p,.int a]/\WebAt T.Web H p m t ps rs /\
 (∀ l H',0<=a->a<m->H l=none->Same H H'->H' l=some (.lst ((gQ m rs a).map V.int))->Q (.ref l) H')/\(¬ (0<=a/\a<m)->E (.ref T.NoPlace) none H)
abbrev bI:Stmt:=top 14
theorem A8:FnScope ["web","a"] ["web","a"] (aa bI):=FnScope.of (by kernel_rfl)
theorem mq:NmL (aa bI) "web":=.of (by kernel_rfl)
theorem oE:NmL (aa bI) "a":=.of (by kernel_rfl)
theorem hG:NmG (aa bI) "check_place":=.of (by kernel_rfl)
theorem gg:NmG (aa bI) "sorted":=.of (by kernel_rfl)
theorem iy:NmG (aa bI) "other_ends":=.of (by kernel_rfl)
theorem Ba (T:Txt K mg) (hq:bc (CXe P w)) {f:Addr} {fd:FuncData} (D:Df K mg "neighbours" bI ["web","a"] f fd) {bu:Addr} {cK:FuncData} (aI:Df K mg "check_place" bn ["web","number"] bu cK) (G_check_place:FnOk P w K mg base (CXe P w) 2 bu cK ["web","number"] (iM T)) {cz:Addr} {gA:FuncData} (b4:Df K mg "other_ends" bJ ["roads","place"] cz gA) (G_other_ends:FnOk P w K mg base (CXe P w) 1 cz gA ["roads","place"] (lW T)):FnOk P w K mg base (CXe P w) 3 f fd ["web","a"] (tG T):=by
 refine D.F.okX A8 (fun vs H Q E h=>?_) (fun cdv A outer s H vs Q E hr h=>?_)
 . obtain ⟨p,t,m,ps,rs,a,rfl,_⟩:=h
   rfl
 . obtain ⟨p,t,m,ps,rs,a,rfl,W,k,e⟩:=h;obtain ⟨dx,ob⟩:=W.ob;refine ⟨_,(ap (cw (ax G_check_place (hr.mono (by decide)) hG.g aI.m aI.F.kp aI.b .nil c6 (ag (pvl 0 mq) (ag (pvl 1 oE) aj)) (hdb:=hG.d))) (aq (aO (bS DT gg.g T.sorted Hw (ag (ax G_other_ends (hr.mono (by decide)) iy.g b4.m b4.F.kp b4.b .nil c6 (ag (cS  (pvl 0 mq) rfl) (ag (pvl 1 oE) aj)) (hdb:=iy.d)) aj) (hn:=gg.n) (hdb:=gg.d))))),?_⟩;rw [show L2.start ["web","a"] [V.ref p,V.int a]=[some (V.ref p),some (V.int a)] from rfl];walk_at "rd";refine ⟨p,t,m,ps,rs,a,rfl,W,fun a0 a1=>?_,e⟩;have hlen:(rs.length:Int)=m - 1:=W.go.len;have m24:=W.go.m24;refine ⟨T.Web,dx,_,ob,T.jf,T.n_roads,_,wA m t,t,ps,rs,a,rfl,SqT.of W.tu,W.ro,by omega,fun l1 H1 n1 s1 e1=>?_⟩;refine ⟨l1,rfl,bT rs a,SqL.of e1,by have:=Dk rs a;omega,fun l2 zs n2 pz sz=>?_⟩;rw [MN W.go a0 a1 pz sz];exact k l2 _ a0 a1 (s1.free n2) (s1.trans (Same.new _ n2)) ah
def vW (T:Txt K mg):Sp:=fun vs H Q _=>∃ (p t:Addr) (m:Int) (ps:List Addr) (rs:List Road) (a:Int) (fv:V),vs=[.ref p,.int a,fv]/\WebAt T.Web H p m t ps rs/\0<=a/\a<m/\(fv=.non\/∃ i,fv=.int i) /\
 ∀ l H',H l=none->Same H H'->H' l=some (.lst ((bq m rs fv a).map V.int))->Q (.ref l) H'
abbrev eB:Stmt:=top 28
theorem LW:FnScope ["web","place","front"] ["web","place","front"] (aa eB):=FnScope.of (by kernel_rfl)
theorem D3:NmL (aa eB) "web":=.of (by kernel_rfl)
theorem Bl:NmL (aa eB) "place":=.of (by kernel_rfl)
theorem MP:NmC (aa eB) "front":=.of (by kernel_rfl)
theorem lF:NmG (aa eB) "neighbours":=.of (by kernel_rfl)
theorem LY (T:Txt K mg) (hq:bc (CXe P w)) {f:Addr} {fd:FuncData} (D:Df K mg "kids" eB ["web","place","front"] f fd) {eG:Addr} {sR:FuncData} (fK:Df K mg "neighbours" bI ["web","a"] eG sR) (G_neighbours:FnOk P w K mg base (CXe P w) 3 eG sR ["web","a"] (tG T)):FnOk P w K mg base (CXe P w) 4 f fd ["web","place","front"] (vW T):=by
 refine D.F.okC LW (fun vs H Q E h=>?_) (fun cdv A outer s H vs Q E hr h=>?_)
 . obtain ⟨p,t,m,ps,rs,a,fv,rfl,_⟩:=h
   rfl
 . obtain ⟨p,t,m,ps,rs,a,fv,rfl,W,a0,a1,hf,k⟩:=h;have m24:=W.go.m24;refine ⟨_,(aq (aO (mH rfl (vR (Nc:=["near","front"]) 1 [2] (by decide +kernel) rfl (by decide +kernel) rfl (by show ∀ (y:Str × NameKind),y∈_->y.2=NameKind.free->(aa eB).names.lookup y.1=some NameKind.cell;decide +kernel) rfl (fun _ h=>kI h) (fun i hi=>match i,hi with|0,_=>⟨"front",2,rfl,rfl,rfl,by decide +kernel⟩|i+1,hi=>absurd hi (by show ¬ i+1<1;omega))) (jJ (ax G_neighbours (hr.mono (by decide)) lF.g fK.m fK.F.kp fK.b .nil (aK hq) (ag (pvl 0 D3) (ag (pvl 1 Bl) aj)) (hdb:=lF.d))) (fun _ _ _ _=>(aY (i:=0) (show (["near","front"]:List Str).Nodup from by decide +kernel) rfl (Or.inl rfl))) (fun _ _ _ _=>(zx (aJ xW (pv 0) (pv 1) (aN _)))) (fun _ _ _ _=>(pv 0))))),?_⟩;rw [show L2.start ["web","place","front"] [V.ref p,V.int a,fv]=[some (V.ref p),some (V.int a),some fv] from rfl];walk_at "rd";have nl:(gQ m rs a).length<=24:=by
     have:=List.length_filter_le (fun q=>decide (q∈bT rs a)) (below m.toNat);rw [bx] at this;unfold gQ;omega
   refine ⟨p,t,m,ps,rs,a,rfl,W,fun l1 H1 _ _ n1 s1 e1=>⟨l1,rfl,⟨_,SqL.of e1⟩,fun l2 n2=>?_⟩,fun z=>absurd ⟨a0,a1⟩ z⟩;have n20:H l2=none:=s1.free n2;refine xI (c:=true) (K:=K) (a:=l1) (xs:=(gQ m rs a).map V.int) (fun j ys σ H2=>Same H1 H2/\H2 l2=some (.lst ys)/\ys=(((gQ m rs a).take j).filter fun v=>decide (V.int v≠fv)).map V.int/\∃ v,σ=[v,some fv]) ⟨Same.new _ n2,ah,rfl,_,rfl⟩ (fun j ys σ H2 _ z=>SqL.of (z.1 _ _ e1)) ?_ ?_
   . rintro j xj ys σ H2 N hN hj ⟨s2,h2,rfl,v,rfl⟩;rw [List.getElem?_map] at hj;obtain ⟨b,hb,rfl⟩:=Option.map_eq_some_iff.mp hj;have et:(gQ m rs a).take (j+1)=(gQ m rs a).take j++[b]:=(by rw [List.take_succ,hb];rfl);have ll:(((gQ m rs a).take j).filter fun v=>decide (V.int v≠fv)).length<=24:=by
       have h1:=List.length_filter_le (fun v=>decide (V.int v≠fv)) ((gQ m rs a).take j);rw [List.length_take] at h1;omega
     walk_at "rd";have sc:pG (V.int b) fv=true:=by
       rcases hf with rfl|⟨i,rfl⟩ <;> rfl
     refine ⟨sc,?_⟩;by_cases c:V.int b=fv
     . rw [if_neg (fun z=>z c)];refine hN _ _ _ ⟨s2,h2,?_,_,rfl⟩;rw [et,List.filter_append];simp [c]
     . rw [if_pos c];refine ⟨h2,dU (by rw [List.length_map];omega),hN _ _ _ ⟨s2.put n2 _,ah,?_,_,rfl⟩⟩;rw [et,List.filter_append];simp [c]
   . rintro ys σ H2 ⟨s2,h2,rfl,v,rfl⟩;rw [List.length_map,List.take_length] at h2;exact k l2 H2 n20 (s1.trans s2) h2
def sE (T:Txt K mg):Sp:=fun vs H Q E=>∃ (p t:Addr) (m:Int) (ps:List Addr) (rs:List Road) (r:Int),vs=[.ref p,.int r]/\WebAt T.Web H p m t ps rs /\
 (0<=r->r<m->∃ par dep,Rooted m rs r par dep/\∀ l H',H l=none->Same H H'->H' l=some (.lst (jT m r par))->Q (.ref l) H')/\(¬ (0<=r/\r<m)->E (.ref T.NoPlace) none H)
abbrev ce:Stmt:=top 26
theorem kQ:FnScope ["web","r","nearer","waiting","place","front","kid"] ["web","r"] (aa ce):=FnScope.of (by kernel_rfl)
theorem m6:NmL (aa ce) "web":=.of (by kernel_rfl)
theorem yK:NmL (aa ce) "r":=.of (by kernel_rfl)
theorem g0:NmL (aa ce) "nearer":=.of (by kernel_rfl)
theorem gl:NmL (aa ce) "waiting":=.of (by kernel_rfl)
theorem iP:NmL (aa ce) "place":=.of (by kernel_rfl)
theorem qR:NmL (aa ce) "front":=.of (by kernel_rfl)
theorem mY:NmL (aa ce) "kid":=.of (by kernel_rfl)
theorem kf:NmG (aa ce) "check_place":=.of (by kernel_rfl)
theorem sW:NmG (aa ce) "kids":=.of (by kernel_rfl)
theorem Jm (T:Txt K mg) (hq:bc (CXe P w)) {f:Addr} {fd:FuncData} (D:Df K mg "ahead" ce ["web","r"] f fd) {bu:Addr} {cK:FuncData} (aI:Df K mg "check_place" bn ["web","number"] bu cK) (G_check_place:FnOk P w K mg base (CXe P w) 2 bu cK ["web","number"] (iM T)) {fM:Addr} {jH:FuncData} (dR:Df K mg "kids" eB ["web","place","front"] fM jH) (G_kids:FnOk P w K mg base (CXe P w) 4 fM jH ["web","place","front"] (vW T)):FnOk P w K mg base (CXe P w) 5 f fd ["web","r"] (sE T):=by
 refine D.F.okX kQ (fun vs H Q E h=>?_) (fun cdv A outer s H vs Q E hr h=>?_)
 . obtain ⟨p,t,m,ps,rs,r,rfl,_⟩:=h
   rfl
 . obtain ⟨p,t,m,ps,rs,r,rfl,W,k,e⟩:=h;obtain ⟨dx,ob⟩:=W.ob;have g:=W.go;have m24:=g.m24;refine ⟨_,(ap (cw (ax G_check_place (hr.mono (by decide)) kf.g aI.m aI.F.kp aI.b .nil c6 (ag (pvl 0 m6) (ag (pvl 1 yK) aj)) (hdb:=kf.d))) (ap (aD (i:=2) kQ.nd rfl (Or.inl g0.l) (au qr (bN (ag yR aj)) (cS  (pvl 0 m6) rfl))) (ap (aD (i:=3) kQ.nd rfl (Or.inl gl.l) (bN (ag (pvl 1 yK) aj))) (ap (xz PassesOwn.leaving (xk (pvl 3 gl) (fun _=>rfl)) (ap (aD (i:=4) kQ.nd rfl (Or.inl iP.l) (CK PySem.F.plainAttrs_list PySem.F.slot_list_pop PySem.F.type_list_pop CG (pvl 3 gl))) (ap (aD (i:=5) kQ.nd rfl (Or.inl qR.l) (bQ bW (pvl 2 g0) (pvl 4 iP) (fun _ _=>rfl))) (aq (eK PassesOwn.leaving rfl (jJ (ax G_kids (hr.mono (by decide)) sW.g dR.m dR.F.kp dR.b .nil c6 (ag (pvl 0 m6) (ag (pvl 4 iP) (ag (pvl 5 qR) aj))) (hdb:=sW.d))) (aY (i:=6) kQ.nd rfl (Or.inl mY.l)) (ap (nF (pvl 4 iP) (qC (pvl 2 g0) (pvl 6 mY) iE)) (aq (cw (lm PySem.F.plainAttrs_list PySem.F.slot_list_append PySem.F.type_list_append eZ (pvl 3 gl) (ag (pvl 6 mY) aj)))))))))) (aq (aO (pvl 2 g0))))))),?_⟩;rw [show L2.start ["web","r","nearer","waiting","place","front","kid"] [V.ref p,V.int r]=[some (V.ref p),some (V.int r),none,none,none,none,none] from rfl];walk_at "rd";refine ⟨p,t,m,ps,rs,r,rfl,W,fun r0 r1=>?_,e⟩;obtain ⟨par,dep,R,k⟩:=k r0 r1;refine ⟨by decide,fun l1 n1=>?_⟩;have s1:=Same.new (.lst [V.non]) n1;refine ⟨T.Web,dx,_,s1 _ _ ob,T.jf,T.n_many,_,rfl,?_⟩;refine ⟨l1,m,[V.non],rfl,rfl,ah,by omega,by omega,aR (by simp;omega),fun l2 n2=>?_⟩;have n20:H l2=none:=s1.free n2;rw [nZ,<- MW (par:=par)];have s2:=s1.trans (Same.new (.lst (nl m par [])) n2);refine ⟨aR (by simp),fun l3 n3=>?_⟩;have n30:H l3=none:=s2.free n3;have n32:l3≠l2:=fun z=>by rw [z,ah] at n3;cases n3
   have s3:=s2.trans (Same.new (.lst [V.int r]) n3);have e2:upd (upd (upd H l1 (.lst [V.non])) l2 (.lst (nl m par []))) l3 (.lst [V.int r]) l2=some (.lst (nl m par [])):=by rw [ar n32.symm,ah]
   have e3:upd (upd (upd H l1 (.lst [V.non])) l2 (.lst (nl m par []))) l3 (.lst [V.int r]) l3=some (.lst [V.int r]):=ah;generalize upd (upd (upd H l1 (.lst [V.non])) l2 (.lst (nl m par []))) l3 (.lst [V.int r])=H3 at s3 e2 e3 ⊢;refine EW (fun n σ H4=>∃ (ks ws:List Int) (v4 v5 v6:Option V),n=2*(m.toNat - ks.length)+ws.length/\σ=[some (.ref p),some (.int r),some (.ref l2),some (.ref l3),v4,v5,v6]/\Same H H4/\H4 l2=some (.lst (nl m par ks))/\H4 l3=some (.lst (ws.map V.int))/\AInv m rs r par ks ws) (2*m.toNat+1) ⟨[],[r],_,_,_,rfl,rfl,s3,e2,e3,AInv.start⟩ ?_;rintro n σ H4 NW BB hBB hN hN2 ⟨ks,ws,v4,v5,v6,rfl,rfl,s4,h2,h3,J⟩;refine hBB _ _ _ ?_;have kl:=cL (by omega) J.nd J.rng;walk_at "rd";refine ⟨_,.inl ⟨_,SqL.of h3,rfl⟩,?_⟩;rcases List.eq_nil_or_concat ws with rfl|⟨ws',q,rfl⟩
   . rw [if_neg (by simp)];rw [J.done R] at h2;exact k l2 H4 n20 s4 h2
   . rw [List.concat_eq_append] at J h3 hN hN2 ⊢;rw [if_pos (by simp)];have hq:q∈ws'++[q]:=List.mem_append_right _ (List.mem_singleton.mpr rfl);have pr:=J.at_ r0 r1 hq;have J2:=J.step g R r0 r1 (p:=q) (ws':=ws') (List.perm_append_singleton q ws');refine ⟨NW,fun σ' H' z=>?_,?_⟩
     . obtain ⟨m',lt,ks',ws'',a4,a5,a6,e1,e2,e3⟩:=hN2 _ _ z;exact ⟨m',lt,ks',ws'',e1,a4,a5,a6,e2,e3⟩
     rw [List.map_append,List.map_cons,List.map_nil] at h3;refine ⟨tyL h3,JT h3 ?_⟩;have s5:Same H (upd H4 l3 (.lst (ws'.map V.int))):=s4.put n30 _;have h25:upd H4 l3 (.lst (ws'.map V.int)) l2=some (.lst (nl m par ks)):=(by rw [ar n32.symm];exact h2);have h35:upd H4 l3 (.lst (ws'.map V.int)) l3=some (.lst (ws'.map V.int)):=ah;generalize upd H4 l3 (.lst (ws'.map V.int))=H5 at s5 h25 h35 ⊢;refine ixL h25 (gF pr.1 (Hj pr.1 pr.2)) ?_;rw [J.front hq];have hfv:Pb.front r par q=.non\/∃ i,Pb.front r par q=.int i:=by
       unfold Pb.front;by_cases c:q=r
       . rw [if_pos c];exact .inl rfl
       . rw [if_neg c];exact .inr ⟨_,rfl⟩
     have mk:∀ v,v∈bq m rs (Pb.front r par q) q->(0<=v/\v<m)/\v≠r/\par v=q:=fun v=>(dj g R pr.1 pr.2).mp;refine ⟨p,t,m,ps,rs,q,_,rfl,W.same s5,pr.1,pr.2,hfv,fun l6 H6 n6 s6 e6=>⟨l6,rfl,⟨_,SqL.of e6⟩,?_⟩⟩;generalize bq m rs (Pb.front r par q) q=kk at mk e6 J2 ⊢;have n6':H l6=none:=s5.free n6;have n62:l6≠l2:=fun z=>by rw [z,h25] at n6;cases n6
     have n63:l6≠l3:=fun z=>by rw [z,h35] at n6;cases n6
     have kl2:=cL (by omega) J2.nd J2.rng;rw [List.length_append] at kl2;have wl2:=cL (by omega) J2.wnd fun w hw=>J2.at_ r0 r1 hw;rw [List.length_append] at wl2;refine lB (K:=K) (xs:=kk.map V.int) (fun i σ H7=>∃ v6,σ=[some (.ref p),some (.int r),some (.ref l2),some (.ref l3),some (.int q),some (Pb.front r par q),v6]/\Same H H7/\H7 l6=some (.lst (kk.map V.int))/\H7 l2=some (.lst (nl m par (ks++kk.take i)))/\H7 l3=some (.lst ((ws'++kk.take i).map V.int))) ⟨_,rfl,s5.trans s6,e6,by rw [List.take_zero,List.append_nil];exact s6 _ _ h25,by rw [List.take_zero,List.append_nil];exact s6 _ _ h35⟩ (fun i σ H7 _ z=>by obtain ⟨_,_,_,z,_⟩:=z;exact SqL.of z) ?_ ?_
     . rintro i x σ H7 NI BB hBB hI hi ⟨v6,rfl,s7,e7,h27,h37⟩;refine hBB _ _ ?_;rw [List.getElem?_map] at hi;obtain ⟨v,hv,rfl⟩:=Option.map_eq_some_iff.mp hi;obtain ⟨vr,_,vp⟩:=mk v (List.mem_of_getElem? hv);have et:kk.take (i+1)=kk.take i++[v]:=(by rw [List.take_succ,hv];rfl);walk_at "rd";refine ⟨l2,_,v,v.toNat,rfl,rfl,h27,by unfold ixN;rw [if_pos vr.1,if_pos (by rw [oP];omega)],?_⟩;rw [<- vp,Oo vr.1 vr.2,vp,List.append_assoc,<- et];have h38:upd H7 l2 (.lst (nl m par (ks++kk.take (i+1)))) l3=some (.lst ((ws'++kk.take i).map V.int)):=(by rw [ar n32];exact h37);have wlen:(ws'++kk.take i).length<=100:=by
         rw [List.length_append,List.length_take];omega
       refine ⟨tyL h38,vL h38 (dU (by rw [List.length_map];omega)) (hI _ _ ⟨_,rfl,(s7.put n20 _).put n30 _,?_,?_,?_⟩)⟩
       . rw [ar n63,ar n62];exact e7
       . rw [ar n32.symm,ah]
       . rw [ah,et,<- List.append_assoc,List.map_append (l₁:=ws'++kk.take i)];rfl
     . rintro BB σ H7 hBB ⟨v6,rfl,s7,e7,h27,h37⟩;refine hBB _ _ ?_;rw [List.length_map,List.take_length] at h27 h37;refine hN _ _ _ ?_ ⟨_,_,_,_,_,rfl,rfl,s7,h27,h37,J2⟩;rw [List.length_append,List.length_append,List.length_append];simp only [List.length_cons,List.length_nil];omega
def mR (T:Txt K mg):Sp:=fun vs H Q _=>∃ (a b:Addr) (xs ys:List Int),vs=[.ref a,.ref b]/\H a=some (.lst (xs.map V.int))/\H b=some (.lst (ys.map V.int))/\xs.length<=1000/\∀ l H',H l=none->Same H H'->H' l=some (.lst ((pw xs ys).map V.int))->Q (.ref l) H'
abbrev dM:Stmt:=top 42
theorem KP:FnScope ["one","other"] ["one","other"] (aa dM):=FnScope.of (by kernel_rfl)
theorem DC:NmL (aa dM) "one":=.of (by kernel_rfl)
theorem zW:NmL (aa dM) "other":=.of (by kernel_rfl)
theorem Dj:NmG (aa dM) "zip":=.of (by kernel_rfl)
theorem Iq (T:Txt K mg) (hq:bc (CXe P w)) {f:Addr} {fd:FuncData} (D:Df K mg "added" dM ["one","other"] f fd):FnOk P w K mg base (CXe P w) 1 f fd ["one","other"] (mR T):=by
 refine D.F.okC KP (fun vs H Q E h=>?_) (fun cdv A outer s H vs Q E hr h=>?_)
 . obtain ⟨a,b,xs,ys,rfl,_⟩:=h
   rfl
 . obtain ⟨a,b,xs,ys,rfl,ha,hb,hz,k⟩:=h;refine ⟨_,(aq (aO (mH rfl (wJ (Nc:=["left","right"]) 2 (by decide +kernel) (by decide +kernel) rfl (by decide +kernel) rfl) (MV true true Dj.g T.zip (ag (pvl 0 DC) (ag (pvl 1 zW) aj))) (fun _ _ _ _=>(EB K rfl (n:=2) rfl (cZ (aY (i:=0) (show (["left","right"]:List Str).Nodup from by decide +kernel) rfl (Or.inl rfl)) (cZ (aY (i:=1) (show (["left","right"]:List Str).Nodup from by decide +kernel) rfl (Or.inl rfl)) mF)))) (fun _ _ _ _=>vZ) (fun _ _ _ _=>(au eX (pv 0) (pv 1)))))),?_⟩;rw [show L2.start ["one","other"] [V.ref a,V.ref b]=[some (V.ref a),some (V.ref b)] from rfl];walk_at "rd";refine ⟨a,b,⟨rfl,rfl⟩,⟨_,SqL.of ha⟩,⟨_,SqL.of hb⟩,fun p hp=>?_⟩;refine Lx (K:=K) (c:=true) (d:=true) (xs:=xs.map V.int) (zs:=ys.map V.int) (fun i bs σ H2=>Same H H2/\H2 p=some (.lst bs)/\bs=(((xs.zip ys).take i).map fun q=>q.1+q.2).map V.int/\∃ v w,σ=[v,w]) ⟨Same.new _ hp,ah,rfl,_,_,rfl⟩ (fun i bs σ H2 z=>⟨SqL.of (z.1 _ _ ha),SqL.of (z.1 _ _ hb)⟩) ?_ ?_
   . rintro i x z bs σ H2 q N hN hx hz' ⟨s2,e2,rfl,v,w,rfl⟩ hq;rw [List.getElem?_map] at hx hz';obtain ⟨x,gx,rfl⟩:=Option.map_eq_some_iff.mp hx;obtain ⟨z,gz,rfl⟩:=Option.map_eq_some_iff.mp hz';have s3:=Same.new (.tup [V.int x,V.int z]) hq;have hix:=(List.getElem?_eq_some_iff.mp gx).1;walk_at "rd";refine ⟨_,SqT.of ah,rfl,_,_,rfl,_,_,rfl,rfl,?_⟩;walk_at "rd";refine ⟨s3 _ _ e2,dU (by simp;omega),hN _ _ _ ⟨(s2.trans s3).put hp _,ah,?_,_,_,rfl⟩⟩;have hzz:(xs.zip ys)[i]?=some (x,z):=(by rw [List.getElem?_zip_eq_some];exact ⟨gx,gz⟩);rw [List.take_succ,hzz,List.map_append,List.map_append]
     rfl
   . rintro bs σ H2 ⟨s2,e2,rfl,v,w,rfl⟩;have e:(((xs.zip ys).take (min (xs.map V.int).length (ys.map V.int).length)).map fun q=>q.1+q.2)=pw xs ys:=by
       rw [List.take_of_length_le (by rw [List.length_zip,List.length_map,List.length_map];exact Nat.le_refl _)];unfold pw;rw [List.zip,List.map_zipWith]
     rw [e] at e2;exact k p H2 hp s2 e2
/-- the fields of an outlook -/
def iK (p na ka ia:Addr):List (Str × V):=aW "idle" (.ref ia) (aW "kids" (.ref ka) (aW "needs" (.ref na) (aW "web" (.ref p) [])))
theorem oU (p na ka ia:Addr):(iK p na ka ia).lookup ("web":Str)=some (.ref p):=by
 unfold iK;rw [bE,if_neg (by decide +kernel),bE,if_neg (by decide +kernel),bE,if_neg (by decide +kernel),bE,if_pos rfl]
theorem pL (p na ka ia:Addr):(iK p na ka ia).lookup ("needs":Str)=some (.ref na):=by
 unfold iK;rw [bE,if_neg (by decide +kernel),bE,if_neg (by decide +kernel),bE,if_pos rfl]
theorem xU (p na ka ia:Addr):(iK p na ka ia).lookup ("kids":Str)=some (.ref ka):=by
 unfold iK;rw [bE,if_neg (by decide +kernel),bE,if_pos rfl]
theorem xQ (p na ka ia:Addr):(iK p na ka ia).lookup ("idle":Str)=some (.ref ia):=by
 unfold iK;rw [bE,if_pos rfl]
/-- the web as seen from r,at o: the needs at na,the rows of kids kl at ka,the idle loads of the places of S at ia -/
structure OutAt (C O:Addr) (H:Hp) (o p t:Addr) (m:Int) (ps:List Addr) (rs:List Road) (r:Int) (par:Int->Int) (dep:Int->Nat) (nd:Int->Int) (na ka ia:Addr) (kl:List Addr) (bs:List V) (S:Int->Prop):Prop where
 ob:∃ dx,H o=some (.ins O dx (iK p na ka ia))
 web:WebAt C H p m t ps rs
 rt:Rooted m rs r par dep
 hn:H na=some (.lst (((below m.toNat).map nd).map V.int))
 hk:H ka=some (.lst (kl.map V.ref))
 kp:Paired (fun a v=>H a=some (.lst ((kd m rs r par v).map V.int))) kl (below m.toNat)
 hi:H ia=some (.lst bs)
 done:∀ c,S c->∃ a,atI bs c=some (.ref a)/\H a=some (.lst ((idl m rs r par dep nd c).map V.int))
 cl:∀ u,0<=u->u<m->S u->∀ c∈kd m rs r par u,S c
theorem OutAt.same {C O:Addr} {H H':Hp} {o p t:Addr} {m:Int} {ps:List Addr} {rs:List Road} {r:Int} {par:Int->Int} {dep:Int->Nat} {nd:Int->Int} {na ka ia:Addr} {kl:List Addr} {bs:List V} {S:Int->Prop} (e:Same H H') (h:OutAt C O H o p t m ps rs r par dep nd na ka ia kl bs S):OutAt C O H' o p t m ps rs r par dep nd na ka ia kl bs S where
 ob:=let ⟨dx,q⟩:=h.ob;⟨dx,e _ _ q⟩
 web:=h.web.same e
 rt:=h.rt
 hn:=e _ _ h.hn
 hk:=e _ _ h.hk
 kp:=Paired.imp' (fun q v x=>e q _ x) h.kp
 hi:=e _ _ h.hi
 done:=fun c hc=>let ⟨a,h1,h2⟩:=h.done c hc;⟨a,h1,e _ _ h2⟩
 cl:=h.cl
theorem OutAt.kids {C O:Addr} {H:Hp} {o p t:Addr} {m:Int} {ps:List Addr} {rs:List Road} {r:Int} {par:Int->Int} {dep:Int->Nat} {nd:Int->Int} {na ka ia:Addr} {kl:List Addr} {bs:List V} {S:Int->Prop} (h:OutAt C O H o p t m ps rs r par dep nd na ka ia kl bs S) {v:Int} (v0:0<=v) (v1:v<m):∃ a,atI (kl.map V.ref) v=some (.ref a)/\H a=some (.lst ((kd m rs r par v).map V.int)):=by
 obtain ⟨a,ha,hv⟩:=Gy h.kp (Az v0 v1);exact ⟨a,gF v0 (by rw [List.getElem?_map,ha];rfl),hv⟩
theorem OY {m:Int} {rs:List Road} (g:Good m rs) {r:Int} {par:Int->Int} {v:Int}:(kd m rs r par v).length<=24:=by
 have h1:=List.length_filter_le (fun u=>decide (V.int u≠front r par v)) (gQ m rs v);have h2:=List.length_filter_le (fun q=>decide (q∈bT rs v)) (below m.toNat);rw [bx] at h2;have:=g.m24;show ((gQ m rs v).filter fun u=>decide (V.int u≠front r par v)).length<=24;unfold gQ at h1 ⊢;omega
def ii (T:Txt K mg):Sp:=fun vs H Q _=>∃ (o p t:Addr) (m:Int) (ps:List Addr) (rs:List Road) (r:Int) (par:Int->Int) (dep:Int->Nat) (nd:Int->Int) (na ka ia:Addr) (kl:List Addr) (bs:List V) (S:Int->Prop) (v:Int) (x:V),vs=[.ref o,.int v,x]/\OutAt T.Web T.Outlook H o p t m ps rs r par dep nd na ka ia kl bs S/\(0<=v/\v<m)/\(x=.non\/∃ i,x=.int i)/\(∀ c∈kd m rs r par v,S c) /\
 ∀ l H',H l=none->Same H H'->H' l=some (.lst ((idK m rs r par (idl m rs r par dep nd) v x).map V.int))->Q (.ref l) H'
abbrev bi:Stmt:=top 41
theorem ke:FnScope ["outlook","place","left_out","load","kid"] ["outlook","place","left_out"] (aa bi):=FnScope.of (by kernel_rfl)
theorem gn:NmL (aa bi) "outlook":=.of (by kernel_rfl)
theorem vk:NmL (aa bi) "place":=.of (by kernel_rfl)
theorem qy:NmL (aa bi) "left_out":=.of (by kernel_rfl)
theorem fC:NmL (aa bi) "load":=.of (by kernel_rfl)
theorem jD:NmL (aa bi) "kid":=.of (by kernel_rfl)
theorem lC:NmG (aa bi) "added":=.of (by kernel_rfl)
theorem DF (T:Txt K mg) (hq:bc (CXe P w)) {f:Addr} {fd:FuncData} (D:Df K mg "idle_kids" bi ["outlook","place","left_out"] f fd) {db:Addr} {eC:FuncData} (di:Df K mg "added" dM ["one","other"] db eC) (G_added:FnOk P w K mg base (CXe P w) 1 db eC ["one","other"] (mR T)):FnOk P w K mg base (CXe P w) 2 f fd ["outlook","place","left_out"] (ii T):=by
 refine D.F.okC ke (fun vs H Q E h=>?_) (fun cdv A outer s H vs Q E hr h=>?_)
 . obtain ⟨o,p,t,m,ps,rs,r,par,dep,nd,na,ka,ia,kl,bs,S,v,x,rfl,_⟩:=h
   rfl
 . obtain ⟨o,p,t,m,ps,rs,r,par,dep,nd,na,ka,ia,kl,bs,S,v,x,rfl,O,vr,hx,hS,k⟩:=h;have g:=O.web.go;have R:=O.rt;have m24:=g.m24;obtain ⟨dx,ob⟩:=O.ob;obtain ⟨dw,wb⟩:=O.web.ob;refine ⟨_,(ap (aD (i:=3) ke.nd rfl (Or.inl fC.l) (au qr (bN (ag ao aj)) (cS  (cS  (pvl 0 gn) rfl) rfl))) (ap (eK PassesOwn.never rfl (jJ (bQ bW (cS  (pvl 0 gn) rfl) (pvl 1 vk) (fun _ _=>rfl))) (aY (i:=4) ke.nd rfl (Or.inl jD.l)) (aq (bB (aJ xW (pvl 4 jD) (pvl 2 qy) (aN _)) (aq (aD (i:=3) ke.nd rfl (Or.inl fC.l) (ax G_added (hr.mono (by decide)) lC.g di.m di.F.kp di.b .nil (aK hq) (ag (pvl 3 fC) (ag (bQ bW (cS  (pvl 0 gn) rfl) (pvl 4 jD) (fun _ _=>rfl)) aj)) (hdb:=lC.d)))) aP))) (aq (aO (pvl 3 fC))))),?_⟩;rw [show L2.start ["outlook","place","left_out","load","kid"] [V.ref o,V.int v,x]=[some (V.ref o),some (V.int v),some x,none,none] from rfl];walk_at "rd";refine ⟨by decide,fun l1 n1=>?_⟩;have s1:=Same.new (.lst [V.int 0]) n1;refine ⟨T.Outlook,dx,_,s1 _ _ ob,T.bO,T.n_web,_,oU _ _ _ _,p,rfl,?_⟩;refine ⟨T.Web,dw,_,s1 _ _ wb,T.jf,T.n_many,_,jW _ _,?_⟩;refine ⟨l1,m,[V.int 0],rfl,rfl,ah,by omega,by omega,aR (by simp;omega),fun l2 n2=>?_⟩;rw [nZ,<- Ab];have s2:=s1.trans (Same.new (.lst ((zrs m).map V.int)) n2);have n20:H l2=none:=s1.free n2;have e2:upd (upd H l1 (.lst [V.int 0])) l2 (.lst ((zrs m).map V.int)) l2=some (.lst ((zrs m).map V.int)):=ah;generalize upd (upd H l1 (.lst [V.int 0])) l2 (.lst ((zrs m).map V.int))=H2 at s2 e2 ⊢;obtain ⟨ak,hak,hkk⟩:=O.kids vr.1 vr.2;refine ⟨T.Outlook,dx,_,s2 _ _ ob,T.bO,T.DN,_,xU _ _ _ _,ixL (s2 _ _ O.hk) hak ⟨ak,rfl,⟨_,SqL.of (s2 _ _ hkk)⟩,?_⟩⟩;have kr:∀ c∈kd m rs r par v,0<=c/\c<m:=fun c hc=>((dj g R vr.1 vr.2).mp hc).1;refine lB (K:=K) (xs:=(kd m rs r par v).map V.int) (fun i σ H3=>Same H H3/\∃ (l:Addr) (v5:Option V),H l=none/\H3 l=some (.lst ((sd m ((((kd m rs r par v).take i).filter fun k=>decide (V.int k≠x)).map (idl m rs r par dep nd))).map V.int))/\σ=[some (V.ref o),some (V.int v),some x,some (V.ref l),v5]) ⟨s2,l2,_,n20,e2,rfl⟩ (fun i σ H3 _ z=>SqL.of (z.1 _ _ hkk)) ?_ ?_
   . rintro i y σ H3 N BB hBB hN hy ⟨s3,l,v5,nl,el,rfl⟩;refine hBB _ _ ?_;rw [List.getElem?_map] at hy;obtain ⟨c,hc,rfl⟩:=Option.map_eq_some_iff.mp hy;have cm:c∈kd m rs r par v:=List.mem_of_getElem? hc;have et:(kd m rs r par v).take (i+1)=(kd m rs r par v).take i++[c]:=(by rw [List.take_succ,hc];rfl);walk_at "rd";have sc:pG (V.int c) x=true:=by
       rcases hx with rfl|⟨i,rfl⟩ <;> rfl
     refine ⟨sc,?_⟩;by_cases cx:V.int c=x
     . rw [if_neg (fun z=>z cx)];refine hN _ _ ⟨s3,l,_,nl,?_,rfl⟩;rw [et,List.filter_append]
       simpa [cx] using el
     . rw [if_pos cx];obtain ⟨ai,h1,h2⟩:=O.done c (hS c cm);refine ⟨T.Outlook,dx,_,s3 _ _ ob,T.bO,T.n_idle,_,xQ _ _ _ _,ixL (s3 _ _ O.hi) h1 ?_⟩;have ll:(sd m ((((kd m rs r par v).take i).filter fun k=>decide (V.int k≠x)).map (idl m rs r par dep nd))).length=m.toNat:=uI _ _ (vT m) fun y hy=>by
         obtain ⟨k,hk,rfl⟩:=List.mem_map.mp hy;have:=kr k (List.mem_of_mem_take (List.mem_filter.mp hk).1);exact EU g R this.1 this.2
       refine ⟨l,ai,_,_,rfl,el,s3 _ _ h2,by omega,fun l4 H4 n4 s4 e4=>hN _ _ ⟨s3.trans s4,l4,_,s3.free n4,?_,rfl⟩⟩;rw [et,List.filter_append,List.filter_cons_of_pos (by simpa using cx),List.filter_nil,List.map_append,List.map_cons,List.map_nil,Gs];exact e4
   . rintro BB σ H3 hBB ⟨s3,l,v5,nl,el,rfl⟩;refine hBB _ _ ?_;rw [List.length_map,List.take_length] at el;walk_at "rd";exact k l H3 nl s3 el
def mG (T:Txt K mg):Sp:=fun vs H Q E=>∃ (p t:Addr) (m:Int) (ps:List Addr) (rs:List Road) (a b:Int),vs=[.ref p,.int a,.int b]/\WebAt T.Web H p m t ps rs /\
 (∀ k,0<=a->a<m->0<=b->b<m->cU rs a b=some k->Q (.int k) H)/\(¬ ((0<=a/\a<m)/\(0<=b/\b<m))->E (.ref T.NoPlace) none H)/\(0<=a->a<m->0<=b->b<m->cU rs a b=none->E (.ref T.NoRoad) none H)
abbrev cA:Stmt:=top 13
theorem qp:FnScope ["web","a","b","one","other","there","back"] ["web","a","b"] (aa cA):=FnScope.of (by kernel_rfl)
theorem pE:NmL (aa cA) "web":=.of (by kernel_rfl)
theorem uf:NmL (aa cA) "a":=.of (by kernel_rfl)
theorem vf:NmL (aa cA) "b":=.of (by kernel_rfl)
theorem pV:NmL (aa cA) "one":=.of (by kernel_rfl)
theorem l7:NmL (aa cA) "other":=.of (by kernel_rfl)
theorem tD:NmL (aa cA) "there":=.of (by kernel_rfl)
theorem vN:NmL (aa cA) "back":=.of (by kernel_rfl)
theorem eO:NmG (aa cA) "check_place":=.of (by kernel_rfl)
theorem qk:NmG (aa cA) "NoRoad":=.of (by kernel_rfl)
theorem Mr (T:Txt K mg) (hq:bc (CXe P w)) {f:Addr} {fd:FuncData} (D:Df K mg "toll" cA ["web","a","b"] f fd) {bu:Addr} {cK:FuncData} (aI:Df K mg "check_place" bn ["web","number"] bu cK) (G_check_place:FnOk P w K mg base (CXe P w) 2 bu cK ["web","number"] (iM T)):FnOk P w K mg base (CXe P w) 3 f fd ["web","a","b"] (mG T):=by
 refine D.F.okX qp (fun vs H Q E h=>?_) (fun cdv A outer s H vs Q E hr h=>?_)
 . obtain ⟨p,t,m,ps,rs,a,b,rfl,_⟩:=h
   rfl
 . obtain ⟨p,t,m,ps,rs,a,b,rfl,W,k,e1,e2⟩:=h;obtain ⟨dx,ob⟩:=W.ob;refine ⟨_,(ap (cw (ax G_check_place (hr.mono (by decide)) eO.g aI.m aI.F.kp aI.b .nil c6 (ag (pvl 0 pE) (ag (pvl 1 uf) aj)) (hdb:=eO.d))) (ap (cw (ax G_check_place (hr.mono (by decide)) eO.g aI.m aI.F.kp aI.b .nil c6 (ag (pvl 0 pE) (ag (pvl 2 vf) aj)) (hdb:=eO.d))) (ap (eK PassesOwn.leaving rfl (tW (cS  (pvl 0 pE) rfl)) (ua (n:=4) rfl (cZ (aY (i:=3) qp.nd rfl (Or.inl pV.l)) (cZ (aY (i:=4) qp.nd rfl (Or.inl l7.l)) (cZ (aY (i:=5) qp.nd rfl (Or.inl tD.l)) (cZ (aY (i:=6) qp.nd rfl (Or.inl vN.l)) mF))))) (ap (bB (PW.pt (CM (aJ cT (pvl 3 pV) (pvl 1 uf) (aN _)) (zh (aJ cT (pvl 4 l7) (pvl 2 vf) (aN _))))) (aq (aO (pvl 5 tD))) aP) (aq (bB (PW.pt (CM (aJ cT (pvl 3 pV) (pvl 2 vf) (aN _)) (zh (aJ cT (pvl 4 l7) (pvl 1 uf) (aN _))))) (aq (aO (pvl 6 vN))) aP)))) (aq (rP T.Lr rfl wd qk.g T.DI (ag yk aj) (hdb:=qk.d)))))),?_⟩;rw [show L2.start ["web","a","b","one","other","there","back"] [V.ref p,V.int a,V.int b]=[some (V.ref p),some (V.int a),some (V.int b),none,none,none,none] from rfl];walk_at "rd";refine ⟨p,t,m,ps,rs,a,rfl,W,fun a0 a1=>?_,fun z=>e1 fun w=>z w.1⟩;refine ⟨p,t,m,ps,rs,b,rfl,W,fun b0 b1=>?_,fun z=>e1 fun w=>z w.2⟩;refine ⟨T.Web,dx,_,ob,T.jf,T.n_roads,_,wA m t,t,rfl,⟨_,SqT.of W.tu⟩,?_⟩;have hlen:ps.length=rs.length:=Paired.length W.ro;refine Di (K:=K) (xs:=ps.map V.ref) (fun i σ H2=>H2=H/\cU (rs.take i) a b=none/\∃ v1 v2 v3 v4,σ=[some (V.ref p),some (V.int a),some (V.int b),v1,v2,v3,v4]) ⟨rfl,rfl,_,_,_,_,rfl⟩ (fun i σ H2 _ z=>by rw [z.1];exact SqT.of W.tu) ?_ ?_
   . rintro i x σ H2 N hN hx ⟨rfl,hno,v1,v2,v3,v4,rfl⟩;obtain ⟨q,r,rfl,h1,h2,h3⟩:=W.ro.get hx;have et:rs.take (i+1)=rs.take i++[r]:=(by rw [List.take_succ,h2];rfl);have split:cU rs a b=(cU (rs.take i) a b).or ((g6 a b r).or (cU (rs.drop (i+1)) a b)):=by
       have:rs=rs.take i++r::rs.drop (i+1):=by
         have hil:i<rs.length:=(List.getElem?_eq_some_iff.mp h2).1;have e:rs[i]=r:=(by rw [List.getElem?_eq_getElem hil] at h2;exact Option.some.inj h2);rw [<- e,List.getElem_cons_drop,List.take_append_drop]
       conv=>lhs;rw [this]
       unfold cU;rw [List.findSome?_append,List.findSome?_cons];cases g6 a b r <;> rfl
     rw [hno,Option.none_or] at split;walk_at "rd";refine ⟨_,SqT.of h3,rfl,_,_,rfl,_,_,rfl,_,_,rfl,_,_,rfl,rfl,?_⟩;walk_at "rd";have next:g6 a b r=none->N [some (V.ref p),some (V.int a),some (V.int b),some (V.int r.a),some (V.int r.b),some (V.int r.t),some (V.int r.u)] H2:=fun z=>hN _ _ ⟨rfl,by
       rw [et];unfold cU at hno ⊢;rw [List.findSome?_append,hno,List.findSome?_cons,z]
       rfl,_,_,_,_,rfl⟩
     have got:∀ v,g6 a b r=some v->cU rs a b=some v:=fun v z=>by rw [split,z];rfl
     unfold g6 at next got;split
     . rename_i c1
       split
       . rename_i c2
         exact k _ a0 a1 b0 b1 (got _ (by rw [if_pos ⟨c1,c2⟩]))
       . rename_i c2
         split
         . rename_i c3
           split
           . rename_i c4
             exact k _ a0 a1 b0 b1 (got _ (by rw [if_neg (fun z=>c2 z.2),if_pos ⟨c3,c4⟩]))
           . rename_i c4
             exact next (by rw [if_neg (fun z=>c2 z.2),if_neg (fun z=>c4 z.2)])
         . rename_i c3
           exact next (by rw [if_neg (fun z=>c2 z.2),if_neg (fun z=>c3 z.1)])
     . rename_i c1
       split
       . rename_i c3
         split
         . rename_i c4
           exact k _ a0 a1 b0 b1 (got _ (by rw [if_neg (fun z=>c1 z.1),if_pos ⟨c3,c4⟩]))
         . rename_i c4
           exact next (by rw [if_neg (fun z=>c1 z.1),if_neg (fun z=>c4 z.2)])
       . rename_i c3
         exact next (by rw [if_neg (fun z=>c1 z.1),if_neg (fun z=>c3 z.1)])
   . rintro σ H2 ⟨rfl,hno,v1,v2,v3,v4,rfl⟩;rw [List.length_map,hlen,List.take_length] at hno;walk_at "rd";exact ⟨by decide,e2 a0 a1 b0 b1 hno⟩
def og (T:Txt K mg):Sp:=fun vs H Q _=>∃ (p:Addr) (ns:List Int),vs=[.ref p]/\(SqL K H p (ns.map V.int)\/SqT K H p (ns.map V.int))/\Q (.int ns.sum) H
abbrev ee:Stmt:=top 24
theorem JN:FnScope ["numbers"] ["numbers"] (aa ee):=FnScope.of (by kernel_rfl)
theorem wY:NmL (aa ee) "numbers":=.of (by kernel_rfl)
theorem mS:NmG (aa ee) "sum":=.of (by kernel_rfl)
theorem KR (T:Txt K mg) (hq:bc (CXe P w)) {f:Addr} {fd:FuncData} (D:Df K mg "total" ee ["numbers"] f fd):FnOk P w K mg base (CXe P w) 1 f fd ["numbers"] (og T):=by
 refine D.F.okC JN (fun vs H Q E h=>?_) (fun cdv A outer s H vs Q E hr h=>?_)
 . obtain ⟨p,ns,rfl,_⟩:=h
   rfl
 . obtain ⟨p,ns,rfl,hp,k⟩:=h;refine ⟨_,(aq (aO (bS (Kd rfl) mS.g T.sum Nu (ag (pvl 0 wY) aj) (hn:=mS.n) (hdb:=mS.d)))),?_⟩;rw [show L2.start ["numbers"] [V.ref p]=[some (V.ref p)] from rfl];walk_at "rd";exact ⟨ns,hp,k⟩
def iW (T:Txt K mg):Nat->Sp
 | 0=>fun _ _ _ _=>False
 | n+1=>fun vs H Q _=>∃ (o p t:Addr) (m:Int) (ps:List Addr) (rs:List Road) (r:Int) (par:Int->Int) (dep:Int->Nat) (nd:Int->Int) (na ka ia:Addr) (kl:List Addr) (bs:List V) (S:Int->Prop) (v y:Int),vs=[.ref o,.int v,.int y]/\OutAt T.Web T.Outlook H o p t m ps rs r par dep nd na ka ia kl bs S/\(0<=v/\v<m)/\m.toNat<=dep v+1+n/\(∀ c∈kd m rs r par v,S c) /\
   ∀ l H',H l=none->Same H H'->H' l=some (.lst ((gld m rs r par dep nd v y).map V.int))->Q (.ref l) H'
def jA (T:Txt K mg):Sp:=iW T 25
def Eh (T:Txt K mg):Nat->Sp
 | 0=>fun _ _ _ _=>False
 | n+1=>fun vs H Q _=>∃ (o p t:Addr) (m:Int) (ps:List Addr) (rs:List Road) (r:Int) (par:Int->Int) (dep:Int->Nat) (nd:Int->Int) (na ka ia:Addr) (kl:List Addr) (bs:List V) (S:Int->Prop) (v c y:Int),vs=[.ref o,.int v,.int c,.int y]/\OutAt T.Web T.Outlook H o p t m ps rs r par dep nd na ka ia kl bs S/\(0<=v/\v<m)/\c∈kd m rs r par v/\m.toNat<=dep c+1+n/\(∀ c∈kd m rs r par v,S c) /\
   ∀ l H',H l=none->Same H H'->H' l=some (.lst ((byK m rs r par nd (idl m rs r par dep nd) (gld m rs r par dep nd) v y c).map V.int))->Q (.ref l) H'
abbrev aB:Stmt:=top 43
theorem cF:FnScope ["outlook","place","over","room","best","kid","load"] ["outlook","place","over"] (aa aB):=FnScope.of (by kernel_rfl)
theorem cR:NmL (aa aB) "outlook":=.of (by kernel_rfl)
theorem cB:NmL (aa aB) "place":=.of (by kernel_rfl)
theorem qL:NmL (aa aB) "over":=.of (by kernel_rfl)
theorem fV:NmL (aa aB) "room":=.of (by kernel_rfl)
theorem cI:NmL (aa aB) "best":=.of (by kernel_rfl)
theorem j8:NmL (aa aB) "kid":=.of (by kernel_rfl)
theorem fQ:NmL (aa aB) "load":=.of (by kernel_rfl)
theorem gu:NmG (aa aB) "idle_kids":=.of (by kernel_rfl)
theorem ig:NmG (aa aB) "load_by":=.of (by kernel_rfl)
theorem dA:NmG (aa aB) "total":=.of (by kernel_rfl)
abbrev bz:Stmt:=top 44
theorem qT:FnScope ["outlook","place","kid","room","given","over"] ["outlook","place","kid","room"] (aa bz):=FnScope.of (by kernel_rfl)
theorem dI:NmL (aa bz) "outlook":=.of (by kernel_rfl)
theorem jB:NmL (aa bz) "place":=.of (by kernel_rfl)
theorem fY:NmL (aa bz) "kid":=.of (by kernel_rfl)
theorem yN:NmL (aa bz) "room":=.of (by kernel_rfl)
theorem m5:NmL (aa bz) "given":=.of (by kernel_rfl)
theorem oO:NmL (aa bz) "over":=.of (by kernel_rfl)
theorem hJ:NmG (aa bz) "toll":=.of (by kernel_rfl)
theorem mP:NmG (aa bz) "added":=.of (by kernel_rfl)
theorem hZ:NmG (aa bz) "greatest_load":=.of (by kernel_rfl)
theorem kh:NmG (aa bz) "idle_kids":=.of (by kernel_rfl)
theorem DS (T:Txt K mg) (hq:bc (CXe P w)) {f:Addr} {fd:FuncData} (D:Df K mg "load_by" bz ["outlook","place","kid","room"] f fd) {db:Addr} {eC:FuncData} (di:Df K mg "added" dM ["one","other"] db eC) (G_added:FnOk P w K mg base (CXe P w) 1 db eC ["one","other"] (mR T)) {bp:Addr} {bZ:FuncData} (bf:Df K mg "idle_kids" bi ["outlook","place","left_out"] bp bZ) (G_idle_kids:FnOk P w K mg base (CXe P w) 2 bp bZ ["outlook","place","left_out"] (ii T)) {c7:Addr} {dL:FuncData} (b6:Df K mg "toll" cA ["web","a","b"] c7 dL) (G_toll:FnOk P w K mg base (CXe P w) 3 c7 dL ["web","a","b"] (mG T)) {bd:Addr} {bX:FuncData} (D_greatest_load:Df K mg "greatest_load" aB ["outlook","place","over"] bd bX) {n N:Nat} (hN:3<=N) (G_greatest_load:FnOk P w K mg base (CXe P w) N bd bX ["outlook","place","over"] (iW T n)):FnOk P w K mg base (CXe P w) (N+1) f fd ["outlook","place","kid","room"] (Eh T n):=by
 refine D.F.okC qT (fun vs H Q E h=>?_) (fun cdv A outer s H vs Q E hr h=>?_)
 . cases n with
   | zero=>exact h.elim
   | succ n =>
   obtain ⟨o,p,t,m,ps,rs,r,par,dep,nd,na,ka,ia,kl,bs,S,v,c,y,rfl,_⟩:=h
   rfl
 . cases n with
   | zero=>exact h.elim
   | succ n =>
   obtain ⟨o,p,t,m,ps,rs,r,par,dep,nd,na,ka,ia,kl,bs,S,v,c,y,rfl,O,vr,cm,fu,hS,k⟩:=h;have g:=O.web.go;have R:=O.rt;have m24:=g.m24;obtain ⟨dx,ob⟩:=O.ob;obtain ⟨⟨cr,cn,cp⟩,_,_⟩:=qD g R vr.1 vr.2 cm;obtain ⟨k1,hk1,a0,a1⟩:=EG g R cr.1 cr.2 cn;obtain ⟨k2,hk2,b0,b1⟩:=E2 g R cr.1 cr.2 cn;have e1:dnT rs par c=k1:=by unfold dnT;rw [hk1];rfl
   have e2:upT rs par c=k2:=by unfold upT;rw [hk2];rfl
   rw [cp] at hk1 hk2;refine ⟨_,(ap (aD (i:=4) qT.nd rfl (Or.inl m5.l) (au lr (pvl 3 yN) (au jV (bQ bW (cS  (pvl 0 dI) rfl) (pvl 2 fY) (fun _ _=>rfl)) (ax G_toll (hr.mono (by omega)) hJ.g b6.m b6.F.kp b6.b .nil (aK hq) (ag (cS  (pvl 0 dI) rfl) (ag (pvl 1 jB) (ag (pvl 2 fY) aj))) (hdb:=hJ.d))))) (ap (aD (i:=5) qT.nd rfl (Or.inl oO.l) (au lr (au jV (ax G_toll (hr.mono (by omega)) hJ.g b6.m b6.F.kp b6.b .nil (aK hq) (ag (cS  (pvl 0 dI) rfl) (ag (pvl 2 fY) (ag (pvl 1 jB) aj))) (hdb:=hJ.d)) (au eX (pvl 4 m5) ao)) ao)) (aq (aO (ax G_added (hr.mono (by omega)) mP.g di.m di.F.kp di.b .nil (aK hq) (ag (ax G_greatest_load (hr.mono (by omega)) hZ.g D_greatest_load.m D_greatest_load.F.kp D_greatest_load.b .nil (aK hq) (ag (pvl 0 dI) (ag (pvl 2 fY) (ag (pvl 5 oO) aj))) (hdb:=hZ.d)) (ag (ax G_idle_kids (hr.mono (by omega)) kh.g bf.m bf.F.kp bf.b .nil (aK hq) (ag (pvl 0 dI) (ag (pvl 1 jB) (ag (pvl 2 fY) aj))) (hdb:=kh.d)) aj)) (hdb:=mP.d)))))),?_⟩;rw [show L2.start ["outlook","place","kid","room","given","over"] [V.ref o,V.int v,V.int c,V.int y]=[some (V.ref o),some (V.int v),some (V.int c),some (V.int y),none,none] from rfl];walk_at "rd";refine ⟨T.Outlook,dx,_,ob,T.bO,T.vX,_,pL _ _ _ _,ixL O.hn (zL nd cr.1 cr.2) ?_⟩;have W:=O.web;refine ⟨T.Outlook,dx,_,ob,T.bO,T.n_web,_,oU _ _ _ _,?_⟩;refine ⟨p,t,m,ps,rs,v,c,rfl,W,fun k' _ _ _ _ h=>?_,fun z=>absurd ⟨vr,cr⟩ z,fun _ _ _ _ z=>by rw [hk1] at z;cases z⟩;rw [hk1] at h;cases h;refine ⟨_,rfl,_,rfl,.inr ⟨by omega,by omega⟩,?_⟩;refine ⟨T.Outlook,dx,_,ob,T.bO,T.n_web,_,oU _ _ _ _,?_⟩;refine ⟨p,t,m,ps,rs,c,v,rfl,W,fun k' _ _ _ _ h=>?_,fun z=>absurd ⟨cr,vr⟩ z,fun _ _ _ _ z=>by rw [hk2] at z;cases z⟩;rw [hk2] at h;cases h;refine ⟨_,rfl,.inl ⟨by omega,by omega⟩,?_⟩;refine ⟨o,p,t,m,ps,rs,r,par,dep,nd,na,ka,ia,kl,bs,S,c,_,rfl,O,cr,fu,fun d hd=>O.cl c cr.1 cr.2 (hS c cm) d hd,fun l1 H1 n1 s1 h1=>?_⟩;refine ⟨o,p,t,m,ps,rs,r,par,dep,nd,na,ka,ia,kl,bs,S,v,_,rfl,O.same s1,vr,.inr ⟨_,rfl⟩,hS,fun l2 H2 n2 s2 h2=>?_⟩;refine ⟨l1,l2,_,_,rfl,s2 _ _ h1,h2,by rw [Mq g R cr.1 cr.2];omega,fun l3 H3 n3 s3 h3=>?_⟩;refine k l3 H3 (s1.free (s2.free n3)) (s1.trans (s2.trans s3)) ?_;unfold byK;rw [e1,e2];exact h3
theorem wg (T:Txt K mg) (hq:bc (CXe P w)) {f:Addr} {fd:FuncData} (D:Df K mg "greatest_load" aB ["outlook","place","over"] f fd) {f9:Addr} {rg:FuncData} (f8:Df K mg "load_by" bz ["outlook","place","kid","room"] f9 rg) {db:Addr} {eC:FuncData} (di:Df K mg "added" dM ["one","other"] db eC) (G_added:FnOk P w K mg base (CXe P w) 1 db eC ["one","other"] (mR T)) {bp:Addr} {bZ:FuncData} (bf:Df K mg "idle_kids" bi ["outlook","place","left_out"] bp bZ) (G_idle_kids:FnOk P w K mg base (CXe P w) 2 bp bZ ["outlook","place","left_out"] (ii T)) {c7:Addr} {dL:FuncData} (b6:Df K mg "toll" cA ["web","a","b"] c7 dL) (G_toll:FnOk P w K mg base (CXe P w) 3 c7 dL ["web","a","b"] (mG T)) {c9:Addr} {eu:FuncData} (bR:Df K mg "total" ee ["numbers"] c9 eu) (G_total:FnOk P w K mg base (CXe P w) 1 c9 eu ["numbers"] (og T)):∀ n:Nat,FnOk P w K mg base (CXe P w) (2*n+4) f fd ["outlook","place","over"] (iW T n):=by
 intro n;have D_greatest_load:=D
 induction n with
 | zero=>exact D.F.okC cF (fun vs H Q E h=>h.elim) (fun cdv A outer s H vs Q E hr h=>h.elim)
 | succ n G_greatest_load =>
 have G_load_by:=DS T hq f8 di G_added bf G_idle_kids b6 G_toll D_greatest_load (by omega) G_greatest_load;refine D.F.okC cF (fun vs H Q E h=>?_) (fun cdv A outer s H vs Q E hr h=>?_)
 . obtain ⟨o,p,t,m,ps,rs,r,par,dep,nd,na,ka,ia,kl,bs,S,v,y,rfl,_⟩:=h
   rfl
 . obtain ⟨o,p,t,m,ps,rs,r,par,dep,nd,na,ka,ia,kl,bs,S,v,y,rfl,O,vr,fu,hS,k⟩:=h;have g:=O.web.go;have R:=O.rt;have m24:=g.m24;obtain ⟨dx,ob⟩:=O.ob;refine ⟨_,(ap (aD (i:=3) cF.nd rfl (Or.inl fV.l) (au eX (bQ bW (cS  (pvl 0 cR) rfl) (pvl 1 cB) (fun _ _=>rfl)) (pvl 2 qL))) (ap (aD (i:=4) cF.nd rfl (Or.inl cI.l) (ax G_idle_kids (hr.mono (by omega)) gu.g bf.m bf.F.kp bf.b .nil (aK hq) (ag (pvl 0 cR) (ag (pvl 1 cB) (ag yR aj))) (hdb:=gu.d))) (ap (Ex (pvl 4 cI) (pvl 1 cB) Cf (pvl 3 fV) GF iE) (ap (eK PassesOwn.never rfl (jJ (bQ bW (cS  (pvl 0 cR) rfl) (pvl 1 cB) (fun _ _=>rfl))) (aY (i:=5) cF.nd rfl (Or.inl j8.l)) (ap (aD (i:=6) cF.nd rfl (Or.inl fQ.l) (ax G_load_by (hr.mono (by omega)) ig.g f8.m f8.F.kp f8.b .nil (aK hq) (ag (pvl 0 cR) (ag (pvl 1 cB) (ag (pvl 5 j8) (ag (pvl 3 fV) aj)))) (hdb:=ig.d))) (aq (bB (aJ Br (ax G_total (hr.mono (by omega)) dA.g bR.m bR.F.kp bR.b .nil (aK hq) (ag (pvl 6 fQ) aj) (hdb:=dA.d)) (ax G_total (hr.mono (by omega)) dA.g bR.m bR.F.kp bR.b .nil (aK hq) (ag (pvl 4 cI) aj) (hdb:=dA.d)) (aN _)) (aq (aD (i:=4) cF.nd rfl (Or.inl cI.l) (pvl 6 fQ))) aP)))) (aq (aO (pvl 4 cI))))))),?_⟩;rw [show L2.start ["outlook","place","over","room","best","kid","load"] [V.ref o,V.int v,V.int y]=[some (V.ref o),some (V.int v),some (V.int y),none,none,none,none] from rfl];walk_at "rd";refine ⟨T.Outlook,dx,_,ob,T.bO,T.vX,_,pL _ _ _ _,ixL O.hn (zL nd vr.1 vr.2) ⟨_,rfl,?_⟩⟩;refine ⟨o,p,t,m,ps,rs,r,par,dep,nd,na,ka,ia,kl,bs,S,v,_,rfl,O,vr,.inl rfl,hS,fun l1 H1 n1 s1 h1=>?_⟩;have kl1:(idK m rs r par (idl m rs r par dep nd) v V.non).length=m.toNat:=wf fun k hk=>by
     have w:=qD g R vr.1 vr.2 hk;exact EU g R w.1.1.1 w.1.1.2
   refine ixL h1 (atG vr.1 (by omega)) ⟨_,rfl,wW h1 vr.1 (by rw [List.length_map];omega) ?_⟩;have s2:=s1.put n1 (.lst (((idK m rs r par (idl m rs r par dep nd) v V.non).map V.int).set v.toNat (V.int ((idK m rs r par (idl m rs r par dep nd) v V.non).getD v.toNat 0+(nd v+y)))));have h2:upd H1 l1 (.lst (((idK m rs r par (idl m rs r par dep nd) v V.non).map V.int).set v.toNat (V.int ((idK m rs r par (idl m rs r par dep nd) v V.non).getD v.toNat 0+(nd v+y))))) l1=some (.lst ((u7 (idK m rs r par (idl m rs r par dep nd) v V.non) v (nd v+y)).map V.int)):=by
     rw [ah];unfold u7;rw [List.map_set]
   generalize upd H1 l1 (.lst (((idK m rs r par (idl m rs r par dep nd) v V.non).map V.int).set v.toNat (V.int ((idK m rs r par (idl m rs r par dep nd) v V.non).getD v.toNat 0+(nd v+y)))))=H2 at s2 h2 ⊢;obtain ⟨ak,hak,hkk⟩:=O.kids vr.1 vr.2;refine ⟨T.Outlook,dx,_,s2 _ _ ob,T.bO,T.DN,_,xU _ _ _ _,ixL (s2 _ _ O.hk) hak ⟨ak,rfl,⟨_,SqL.of (s2 _ _ hkk)⟩,?_⟩⟩;refine lB (K:=K) (xs:=(kd m rs r par v).map V.int) (fun i σ H3=>Same H H3/\∃ (l:Addr) (v5 v6:Option V),H l=none/\H3 l=some (.lst (((((kd m rs r par v).take i).map (byK m rs r par nd (idl m rs r par dep nd) (gld m rs r par dep nd) v (nd v+y))).foldl pC (u7 (idK m rs r par (idl m rs r par dep nd) v .non) v (nd v+y))).map V.int))/\σ=[some (V.ref o),some (V.int v),some (V.int y),some (V.int (nd v+y)),some (V.ref l),v5,v6]) ⟨s2,l1,_,_,n1,h2,rfl⟩ (fun i σ H3 _ z=>SqL.of (z.1 _ _ hkk)) ?_ ?_
   . rintro i y' σ H3 N BB hBB hN hy ⟨s3,l,v5,v6,nl,el,rfl⟩;refine hBB _ _ ?_;rw [List.getElem?_map] at hy;obtain ⟨c,hc,rfl⟩:=Option.map_eq_some_iff.mp hy;have cm:c∈kd m rs r par v:=List.mem_of_getElem? hc;have et:(kd m rs r par v).take (i+1)=(kd m rs r par v).take i++[c]:=(by rw [List.take_succ,hc];rfl);have w:=qD g R vr.1 vr.2 cm;obtain ⟨n',rfl⟩:∃ n',n=n'+1:=⟨n - 1,by omega⟩;walk_at "rd";refine ⟨o,p,t,m,ps,rs,r,par,dep,nd,na,ka,ia,kl,bs,S,v,c,_,rfl,O.same s3,vr,cm,by omega,hS,fun l4 H4 n4 s4 h4=>?_⟩;refine ⟨l4,_,rfl,.inl (SqL.of h4),l,_,rfl,.inl (SqL.of (s4 _ _ el)),?_⟩;refine ⟨_,rfl,_,rfl,?_⟩;have ef:(((kd m rs r par v).take (i+1)).map (byK m rs r par nd (idl m rs r par dep nd) (gld m rs r par dep nd) v (nd v+y))).foldl pC (u7 (idK m rs r par (idl m rs r par dep nd) v .non) v (nd v+y))=pC ((((kd m rs r par v).take i).map (byK m rs r par nd (idl m rs r par dep nd) (gld m rs r par dep nd) v (nd v+y))).foldl pC (u7 (idK m rs r par (idl m rs r par dep nd) v .non) v (nd v+y))) (byK m rs r par nd (idl m rs r par dep nd) (gld m rs r par dep nd) v (nd v+y) c):=by
       rw [et,List.map_append,List.foldl_append]
       rfl
     split
     . rename_i q
       refine hN _ _ ⟨s3.trans s4,l4,_,_,s3.free n4,?_,rfl⟩;rw [ef,Os q];exact h4
     . rename_i q
       refine hN _ _ ⟨s3.trans s4,l,_,_,nl,?_,rfl⟩;rw [ef,Nk q];exact s4 _ _ el
   . rintro BB σ H3 hBB ⟨s3,l,v5,v6,nl,el,rfl⟩;refine hBB _ _ ?_;rw [List.length_map,List.take_length] at el;walk_at "rd";refine k l H3 nl s3 ?_;rw [xH g R vr.1 vr.2];exact el
theorem wZ (T:Txt K mg) (hq:bc (CXe P w)) {f:Addr} {fd:FuncData} (D:Df K mg "greatest_load" aB ["outlook","place","over"] f fd) {f9:Addr} {rg:FuncData} (f8:Df K mg "load_by" bz ["outlook","place","kid","room"] f9 rg) {db:Addr} {eC:FuncData} (di:Df K mg "added" dM ["one","other"] db eC) (G_added:FnOk P w K mg base (CXe P w) 1 db eC ["one","other"] (mR T)) {bp:Addr} {bZ:FuncData} (bf:Df K mg "idle_kids" bi ["outlook","place","left_out"] bp bZ) (G_idle_kids:FnOk P w K mg base (CXe P w) 2 bp bZ ["outlook","place","left_out"] (ii T)) {c7:Addr} {dL:FuncData} (b6:Df K mg "toll" cA ["web","a","b"] c7 dL) (G_toll:FnOk P w K mg base (CXe P w) 3 c7 dL ["web","a","b"] (mG T)) {c9:Addr} {eu:FuncData} (bR:Df K mg "total" ee ["numbers"] c9 eu) (G_total:FnOk P w K mg base (CXe P w) 1 c9 eu ["numbers"] (og T)):FnOk P w K mg base (CXe P w) 54 f fd ["outlook","place","over"] (jA T):=wg T hq D f8 di G_added bf G_idle_kids b6 G_toll bR G_total 25
def vq (T:Txt K mg):Sp:=fun vs H Q _=>∃ (o p t:Addr) (m:Int) (ps:List Addr) (rs:List Road) (r:Int) (par:Int->Int) (dep:Int->Nat) (nd:Int->Int) (na ka ia:Addr) (kl:List Addr) (bs:List V) (S:Int->Prop) (v:Int),vs=[.ref o,.int v,.int (par v)]/\OutAt T.Web T.Outlook H o p t m ps rs r par dep nd na ka ia kl bs S/\(0<=v/\v<m)/\v≠r/\(∀ c∈kd m rs r par v,S c) /\
 ∀ l H',H l=none->Same H H'->H' l=some (.lst ((idl m rs r par dep nd v).map V.int))->Q (.ref l) H'
abbrev bL:Stmt:=top 40
theorem Da:FnScope ["outlook","place","front"] ["outlook","place","front"] (aa bL):=FnScope.of (by kernel_rfl)
theorem dY:NmL (aa bL) "outlook":=.of (by kernel_rfl)
theorem fh:NmL (aa bL) "place":=.of (by kernel_rfl)
theorem vH:NmL (aa bL) "front":=.of (by kernel_rfl)
theorem iY:NmG (aa bL) "idle_kids":=.of (by kernel_rfl)
theorem gv:NmG (aa bL) "greatest_load":=.of (by kernel_rfl)
theorem mm:NmG (aa bL) "toll":=.of (by kernel_rfl)
theorem Dn (T:Txt K mg) (hq:bc (CXe P w)) {f:Addr} {fd:FuncData} (D:Df K mg "idle_load" bL ["outlook","place","front"] f fd) {bd:Addr} {bX:FuncData} (D_greatest_load:Df K mg "greatest_load" aB ["outlook","place","over"] bd bX) (G_greatest_load:FnOk P w K mg base (CXe P w) 54 bd bX ["outlook","place","over"] (jA T)) {bp:Addr} {bZ:FuncData} (bf:Df K mg "idle_kids" bi ["outlook","place","left_out"] bp bZ) (G_idle_kids:FnOk P w K mg base (CXe P w) 2 bp bZ ["outlook","place","left_out"] (ii T)) {c7:Addr} {dL:FuncData} (b6:Df K mg "toll" cA ["web","a","b"] c7 dL) (G_toll:FnOk P w K mg base (CXe P w) 3 c7 dL ["web","a","b"] (mG T)):FnOk P w K mg base (CXe P w) 55 f fd ["outlook","place","front"] (vq T):=by
 refine D.F.okC Da (fun vs H Q E h=>?_) (fun cdv A outer s H vs Q E hr h=>?_)
 . obtain ⟨o,p,t,m,ps,rs,r,par,dep,nd,na,ka,ia,kl,bs,S,v,rfl,_⟩:=h
   rfl
 . obtain ⟨o,p,t,m,ps,rs,r,par,dep,nd,na,ka,ia,kl,bs,S,v,rfl,O,vr,vn,hS,k⟩:=h;have g:=O.web.go;have R:=O.rt;have m24:=g.m24;have W:=O.web;obtain ⟨dx,ob⟩:=O.ob;obtain ⟨k2,hk2,b0,b1⟩:=E2 g R vr.1 vr.2 vn;have e2:upT rs par v=k2:=by unfold upT;rw [hk2];rfl
   have u:=R.up v vr.1 vr.2 vn;rw [BW g R vr.1 vr.2] at k;refine ⟨_,(ap (bB (aJ Br (bQ bW (cS  (pvl 0 dY) rfl) (pvl 1 fh) (fun _ _=>rfl)) ao (aN _)) (aq (aO (ax G_idle_kids (hr.mono (by decide)) iY.g bf.m bf.F.kp bf.b .nil (aK hq) (ag (pvl 0 dY) (ag (pvl 1 fh) (ag yR aj))) (hdb:=iY.d)))) aP) (aq (aO (ax G_greatest_load (hr.mono (by decide)) gv.g D_greatest_load.m D_greatest_load.F.kp D_greatest_load.b .nil (aK hq) (ag (pvl 0 dY) (ag (pvl 1 fh) (ag (au lr (ax G_toll (hr.mono (by decide)) mm.g b6.m b6.F.kp b6.b .nil (aK hq) (ag (cS  (pvl 0 dY) rfl) (ag (pvl 1 fh) (ag (pvl 2 vH) aj))) (hdb:=mm.d)) ao) aj))) (hdb:=gv.d))))),?_⟩;rw [show L2.start ["outlook","place","front"] [V.ref o,V.int v,V.int (par v)]=[some (V.ref o),some (V.int v),some (V.int (par v))] from rfl];walk_at "rd";refine ⟨T.Outlook,dx,_,ob,T.bO,T.vX,_,pL _ _ _ _,ixL O.hn (zL nd vr.1 vr.2) ⟨_,rfl,?_⟩⟩;by_cases c:0<nd v
   . rw [if_pos c] at k ⊢;exact ⟨o,p,t,m,ps,rs,r,par,dep,nd,na,ka,ia,kl,bs,S,v,_,rfl,O,vr,.inl rfl,hS,k⟩
   . rw [if_neg c] at k ⊢;refine ⟨T.Outlook,dx,_,ob,T.bO,T.n_web,_,oU _ _ _ _,?_⟩;refine ⟨p,t,m,ps,rs,v,par v,rfl,W,fun k' _ _ _ _ h=>?_,fun z=>absurd ⟨vr,u.1⟩ z,fun _ _ _ _ z=>by rw [hk2] at z;cases z⟩;rw [hk2] at h;cases h;refine ⟨_,rfl,?_⟩;refine ⟨o,p,t,m,ps,rs,r,par,dep,nd,na,ka,ia,kl,bs,S,v,_,rfl,O,vr,by show m.toNat<=dep v+1+24;omega,hS,?_⟩;rw [<- e2];exact k
def EM (T:Txt K mg):Sp:=fun vs H Q E=>∃ (p t:Addr) (m:Int) (ps:List Addr) (rs:List Road) (r:Int),vs=[.ref p,.int r]/\WebAt T.Web H p m t ps rs /\
 (0<=r->r<m->∃ par dep,Rooted m rs r par dep/\∀ l H',H l=none->Same H H'->H' l=some (.lst ((jt m rs r par dep r).map V.int))->(jt m rs r par dep r).Nodup->(∀ v,v∈jt m rs r par dep r↔0<=v/\v<m)->Q (.ref l) H')/\(¬ (0<=r/\r<m)->E (.ref T.NoPlace) none H)
abbrev dh:Stmt:=top 27
theorem mE:FnScope ["web","r","nearer","places","waiting","place","kid"] ["web","r"] (aa dh):=FnScope.of (by kernel_rfl)
theorem wy:NmL (aa dh) "web":=.of (by kernel_rfl)
theorem AF:NmL (aa dh) "r":=.of (by kernel_rfl)
theorem qI:NmL (aa dh) "nearer":=.of (by kernel_rfl)
theorem kG:NmL (aa dh) "places":=.of (by kernel_rfl)
theorem g9:NmL (aa dh) "waiting":=.of (by kernel_rfl)
theorem jg:NmL (aa dh) "place":=.of (by kernel_rfl)
theorem wq:NmL (aa dh) "kid":=.of (by kernel_rfl)
theorem tF:NmG (aa dh) "ahead":=.of (by kernel_rfl)
theorem xw:NmG (aa dh) "reversed":=.of (by kernel_rfl)
theorem vO:NmG (aa dh) "kids":=.of (by kernel_rfl)
theorem MD (T:Txt K mg) (hq:bc (CXe P w)) {f:Addr} {fd:FuncData} (D:Df K mg "down" dh ["web","r"] f fd) {eg:Addr} {iu:FuncData} (c8:Df K mg "ahead" ce ["web","r"] eg iu) (G_ahead:FnOk P w K mg base (CXe P w) 5 eg iu ["web","r"] (sE T)) {fM:Addr} {jH:FuncData} (dR:Df K mg "kids" eB ["web","place","front"] fM jH) (G_kids:FnOk P w K mg base (CXe P w) 4 fM jH ["web","place","front"] (vW T)):FnOk P w K mg base (CXe P w) 6 f fd ["web","r"] (EM T):=by
 refine D.F.okX mE (fun vs H Q E h=>?_) (fun cdv A outer s H vs Q E hr h=>?_)
 . obtain ⟨p,t,m,ps,rs,r,rfl,_⟩:=h
   rfl
 . obtain ⟨p,t,m,ps,rs,r,rfl,W,k,e⟩:=h;have g:=W.go;have m24:=g.m24;refine ⟨_,(ap (aD (i:=2) mE.nd rfl (Or.inl qI.l) (ax G_ahead (hr.mono (by decide)) tF.g c8.m c8.F.kp c8.b .nil c6 (ag (pvl 0 wy) (ag (pvl 1 AF) aj)) (hdb:=tF.d))) (ap (aD (i:=3) mE.nd rfl (Or.inl kG.l) (bN aj)) (ap (aD (i:=4) mE.nd rfl (Or.inl g9.l) (bN (ag (pvl 1 AF) aj))) (ap (xz PassesOwn.leaving (xk (pvl 4 g9) (fun _=>rfl)) (ap (aD (i:=5) mE.nd rfl (Or.inl jg.l) (CK PySem.F.plainAttrs_list PySem.F.slot_list_pop PySem.F.type_list_pop CG (pvl 4 g9))) (ap (cw (lm PySem.F.plainAttrs_list PySem.F.slot_list_append PySem.F.type_list_append eZ (pvl 3 kG) (ag (pvl 5 jg) aj))) (aq (eK PassesOwn.leaving rfl (Hu xw.g T.reversed (ax G_kids (hr.mono (by decide)) vO.g dR.m dR.F.kp dR.b .nil c6 (ag (pvl 0 wy) (ag (pvl 5 jg) (ag (bQ bW (pvl 2 qI) (pvl 5 jg) (fun _ _=>rfl)) aj))) (hdb:=vO.d))) (aY (i:=6) mE.nd rfl (Or.inl wq.l)) (aq (cw (lm PySem.F.plainAttrs_list PySem.F.slot_list_append PySem.F.type_list_append eZ (pvl 4 g9) (ag (pvl 6 wq) aj))))))))) (aq (aO (pvl 3 kG))))))),?_⟩;rw [show L2.start ["web","r","nearer","places","waiting","place","kid"] [V.ref p,V.int r]=[some (V.ref p),some (V.int r),none,none,none,none,none] from rfl];walk_at "rd";refine ⟨p,t,m,ps,rs,r,rfl,W,fun r0 r1=>?_,e⟩;obtain ⟨par,dep,R,k⟩:=k r0 r1;refine ⟨par,dep,R,fun l1 H1 n1 s1 e1=>⟨by decide,fun l3 n3=>⟨aR (by simp),fun l4 n4=>?_⟩⟩⟩;have n30:H l3=none:=s1.free n3;have s3:=s1.trans (Same.new (.lst []) n3);have n40:H l4=none:=s3.free n4;have n13:l1≠l3:=fun z=>by rw [<- z,e1] at n3;cases n3
   have n34:l3≠l4:=fun z=>by rw [<- z,ah] at n4;cases n4
   have e13:=Same.new (.lst []) n3 _ _ e1;have n14:l1≠l4:=fun z=>by rw [<- z,e13] at n4;cases n4
   have s4:=s3.trans (Same.new (.lst [V.int r]) n4);have e14:=Same.new (.lst [V.int r]) n4 _ _ e13;have e34:upd (upd H1 l3 (.lst [])) l4 (.lst [V.int r]) l3=some (.lst []):=by rw [ar n34,ah]
   have e44:upd (upd H1 l3 (.lst [])) l4 (.lst [V.int r]) l4=some (.lst [V.int r]):=ah;generalize upd (upd H1 l3 (.lst [])) l4 (.lst [V.int r])=H4 at s4 e14 e34 e44 ⊢;refine EW (fun n σ H5=>∃ (ks ws pl:List Int) (v5 v6:Option V),n=2*(m.toNat - ks.length)+ws.length/\σ=[some (.ref p),some (.int r),some (.ref l1),some (.ref l3),some (.ref l4),v5,v6]/\Same H H5/\H5 l1=some (.lst (jT m r par))/\H5 l3=some (.lst (pl.map V.int))/\H5 l4=some (.lst (ws.map V.int))/\AInv m rs r par ks ws/\(pl++ws).Perm (r::ks)/\pl++ws.reverse.flatMap (jt m rs r par dep)=jt m rs r par dep r) (2*m.toNat+1) ⟨[],[r],[],_,_,rfl,rfl,s4,e14,e34,e44,AInv.start,List.Perm.refl _,by simp⟩ ?_;rintro n σ H5 NW BB hBB hN hN2 ⟨ks,ws,pl,v5,v6,rfl,rfl,s5,h1,h3,h4,J,pe,ep⟩;refine hBB _ _ _ ?_;have rk:∀ w∈r::ks,0<=w/\w<m:=fun w hw=>by
     rcases List.mem_cons.mp hw with rfl|z
     . exact ⟨r0,r1⟩
     . exact J.rng w z
   have nk:(r::ks).Nodup:=List.nodup_cons.mpr ⟨J.nr,J.nd⟩;have kl:=cL (m:=m) (by omega) nk rk;have kl1:=cL (m:=m) (by omega) J.nd J.rng;have pl1:=pe.length_eq;rw [List.length_append] at pl1;rw [List.length_cons] at kl pl1;walk_at "rd";refine ⟨_,.inl ⟨_,SqL.of h4,rfl⟩,?_⟩;rcases List.eq_nil_or_concat ws with rfl|⟨ws',q,rfl⟩
   . rw [if_neg (by simp)];rw [List.reverse_nil,List.flatMap_nil,List.append_nil] at ep;rw [List.append_nil] at pe;subst ep;refine k l3 H5 n30 s5 h3 (pe.nodup_iff.mpr nk) fun v=>⟨fun z=>rk v (pe.mem_iff.mp z),fun z=>pe.mem_iff.mpr ?_⟩;by_cases c:v=r
     . rw [c];exact List.mem_cons_self
     . exact List.mem_cons_of_mem _ (J.all R v z.1 z.2 c)
   . rw [List.concat_eq_append] at J h4 hN hN2 pe ep pl1 ⊢;rw [if_pos (by simp)];have hq:q∈ws'++[q]:=List.mem_append_right _ (List.mem_singleton.mpr rfl);have pr:=J.at_ r0 r1 hq;have J2:=J.step g R r0 r1 (p:=q) (ws':=ws') (List.perm_append_singleton q ws');refine ⟨NW,fun σ' H' z=>?_,?_⟩
     . obtain ⟨m',lt,ks',ws'',pl',a5,a6,z1,z2⟩:=hN2 _ _ z;exact ⟨m',lt,ks',ws'',z1,pl',a5,a6,z2⟩
     rw [List.map_append,List.map_cons,List.map_nil] at h4;refine ⟨tyL h4,JT h4 ?_⟩;have s6:Same H (upd H5 l4 (.lst (ws'.map V.int))):=s5.put n40 _;have h36:upd H5 l4 (.lst (ws'.map V.int)) l3=some (.lst (pl.map V.int)):=(by rw [ar n34];exact h3);have h16:upd H5 l4 (.lst (ws'.map V.int)) l1=some (.lst (jT m r par)):=(by rw [ar n14];exact h1);have h46:upd H5 l4 (.lst (ws'.map V.int)) l4=some (.lst (ws'.map V.int)):=ah;generalize upd H5 l4 (.lst (ws'.map V.int))=H6 at s6 h36 h16 h46 ⊢;refine ⟨tyL h36,vL h36 (dU (by rw [List.length_map];omega)) ?_⟩;have s7:Same H (upd H6 l3 (.lst (pl.map V.int++[V.int q]))):=s6.put n30 _;have h37:upd H6 l3 (.lst (pl.map V.int++[V.int q])) l3=some (.lst ((pl++[q]).map V.int)):=(by rw [ah,List.map_append];rfl);have h17:upd H6 l3 (.lst (pl.map V.int++[V.int q])) l1=some (.lst (jT m r par)):=(by rw [ar n13];exact h16);have h47:upd H6 l3 (.lst (pl.map V.int++[V.int q])) l4=some (.lst (ws'.map V.int)):=(by rw [ar n34.symm];exact h46);generalize upd H6 l3 (.lst (pl.map V.int++[V.int q]))=H7 at s7 h37 h17 h47 ⊢;refine ixL h17 (gF pr.1 (wS pr.1 pr.2)) ?_;have hfv:Pb.front r par q=.non\/∃ i,Pb.front r par q=.int i:=by
       unfold Pb.front;by_cases c:q=r
       . rw [if_pos c];exact .inl rfl
       . rw [if_neg c];exact .inr ⟨_,rfl⟩
     have pq:=Ax g R pr.1 pr.2;refine ⟨p,t,m,ps,rs,q,_,rfl,W.same s7,pr.1,pr.2,hfv,fun l8 H8 n8 s8 e8=>⟨l8,rfl,_,SqL.of e8,?_⟩⟩;generalize bq m rs (Pb.front r par q) q=kk at e8 J2 pq ⊢;have n81:l1≠l8:=fun z=>by rw [<- z,h17] at n8;cases n8
     have n83:l3≠l8:=fun z=>by rw [<- z,h37] at n8;cases n8
     have n84:l4≠l8:=fun z=>by rw [<- z,h47] at n8;cases n8
     have kl2:=cL (m:=m) (by omega) J2.nd J2.rng;rw [List.length_append] at kl2;have wl2:=cL (m:=m) (by omega) J2.wnd fun w hw=>J2.at_ r0 r1 hw;rw [List.length_append] at wl2;refine Jn (K:=K) (xs:=kk.map V.int) (fun i σ H9=>∃ v6,σ=[some (.ref p),some (.int r),some (.ref l1),some (.ref l3),some (.ref l4),some (.int q),v6]/\Same H H9/\H9 l8=some (.lst (kk.map V.int))/\H9 l1=some (.lst (jT m r par))/\H9 l3=some (.lst ((pl++[q]).map V.int))/\H9 l4=some (.lst ((ws'++kk.reverse.take i).map V.int))) ⟨_,rfl,s7.trans s8,e8,s8 _ _ h17,s8 _ _ h37,by rw [List.take_zero,List.append_nil];exact s8 _ _ h47⟩ (fun i σ H9 _ z=>by obtain ⟨_,_,_,z,_⟩:=z;exact SqL.of z) ?_ ?_
     . rintro i x σ H9 NI hI hi ⟨v6,rfl,s9,e9,h19,h39,h49⟩;rw [<- List.map_reverse,List.getElem?_map] at hi;obtain ⟨v,hv,rfl⟩:=Option.map_eq_some_iff.mp hi;have et:kk.reverse.take (i+1)=kk.reverse.take i++[v]:=(by rw [List.take_succ,hv];rfl);have wlen:(ws'++kk.reverse.take i).length<=100:=by
         rw [List.length_append,List.length_take,List.length_reverse];omega
       walk_at "rd";refine ⟨tyL h49,vL h49 (dU (by rw [List.length_map];omega)) (hI _ _ ⟨_,rfl,s9.put n40 _,?_,?_,?_,?_⟩)⟩
       . rw [ar n84.symm];exact e9
       . rw [ar n14];exact h19
       . rw [ar n34];exact h39
       . rw [ah,et,<- List.append_assoc,List.map_append (l₁:=ws'++kk.reverse.take i)];rfl
     . rintro σ H9 ⟨v6,rfl,s9,e9,h19,h39,h49⟩;rw [List.length_map,show kk.length=kk.reverse.length by rw [List.length_reverse],List.take_length] at h49;refine hN _ _ _ ?_ ⟨ks++kk,ws'++kk.reverse,pl++[q],_,_,rfl,rfl,s9,h19,h39,h49,J2.perm (List.Perm.append_left _ kk.reverse_perm.symm),?_,?_⟩
       . rw [List.length_append,List.length_append,List.length_append,List.length_reverse];simp only [List.length_cons,List.length_nil];omega
       . have p1:(pl++[q]++(ws'++kk.reverse)).Perm (pl++(ws'++[q])++kk):=by
           rw [List.append_assoc,List.append_assoc];refine List.Perm.append_left _ ?_;rw [<- List.append_assoc];exact List.Perm.append (List.perm_append_comm) kk.reverse_perm
         exact p1.trans (List.Perm.append_right _ pe)
       . rw [<- ep,List.reverse_append,List.reverse_append,List.reverse_reverse,List.reverse_singleton,List.singleton_append,List.flatMap_cons,pq,List.flatMap_append];simp
/-- the places of a row with the ones ahead of them,from its end -/
def Fi (par:Int->Int) (v:Int):List V:=[.int v,.int (par v)]
abbrev PairsAt (H:Hp) (par:Int->Int):List Addr->List Int->Prop:=Paired fun q v=>H q=some (.tup (Fi par v))
theorem PairsAt.same {H H':Hp} {par:Int->Int} {qs:List Addr} {vs:List Int} (e:Same H H') (h:PairsAt H par qs vs):PairsAt H' par qs vs:=Paired.imp' (fun q v x=>e q _ x) h
theorem PairsAt.get {H:Hp} {par:Int->Int}:∀ {ps:List Addr} {rs:List Int} {i:Nat} {x:V},PairsAt H par ps rs->(ps.map V.ref)[i]?=some x->∃ p r,x=.ref p/\ps[i]?=some p/\rs[i]?=some r/\H p=some (.tup (Fi par r))
 | _,_,i,x,.nil,e=>by simp at e
 | _,_,0,x,.cons (a:=p) (b:=r) h hs,e=>⟨p,r,by simpa using e.symm,by simp,by simp,h⟩
 | a::l1,_,i+1,x,.cons h hs,e=>by
   have e':(List.map V.ref l1)[i]?=some x:=by simpa using e
   obtain ⟨p,r,h1,h2,h3,h4⟩:=PairsAt.get hs e';exact ⟨p,r,h1,by simpa using h2,by simpa using h3,h4⟩
theorem PairsAt.snoc {H:Hp} {par:Int->Int} {q:Addr} {v:Int} (e:H q=some (.tup (Fi par v))):∀ {qs:List Addr} {vs:List Int},PairsAt H par qs vs->PairsAt H par (qs++[q]) (vs++[v])
 | _,_,.nil=>.cons e .nil
 | _,_,.cons x xs=>.cons x (PairsAt.snoc e xs)
def ow (T:Txt K mg):Sp:=fun vs H Q E=>∃ (p t:Addr) (m:Int) (ps:List Addr) (rs:List Road) (r:Int),vs=[.ref p,.int r]/\WebAt T.Web H p m t ps rs /\
 (0<=r->r<m->∃ par dep,Rooted m rs r par dep/\∀ l qs tl H',jt m rs r par dep r=r::tl->H l=none->Same H H'->H' l=some (.lst (qs.map V.ref))->PairsAt H' par qs tl.reverse->Order m r par tl->Q (.ref l) H')/\(¬ (0<=r/\r<m)->E (.ref T.NoPlace) none H)
abbrev cg:Stmt:=top 29
theorem AN:FnScope ["web","r","nearer"] ["web","r"] (aa cg):=FnScope.of (by kernel_rfl)
theorem sU:NmL (aa cg) "web":=.of (by kernel_rfl)
theorem wz:NmC (aa cg) "r":=.of (by kernel_rfl)
theorem wQ:NmC (aa cg) "nearer":=.of (by kernel_rfl)
theorem oI:NmG (aa cg) "ahead":=.of (by kernel_rfl)
theorem uX:NmG (aa cg) "reversed":=.of (by kernel_rfl)
theorem qK:NmG (aa cg) "down":=.of (by kernel_rfl)
theorem Hx (T:Txt K mg) (hq:bc (CXe P w)) {f:Addr} {fd:FuncData} (D:Df K mg "inward" cg ["web","r"] f fd) {eg:Addr} {iu:FuncData} (c8:Df K mg "ahead" ce ["web","r"] eg iu) (G_ahead:FnOk P w K mg base (CXe P w) 5 eg iu ["web","r"] (sE T)) {nV:Addr} {EF:FuncData} (qx:Df K mg "down" dh ["web","r"] nV EF) (G_down:FnOk P w K mg base (CXe P w) 6 nV EF ["web","r"] (EM T)):FnOk P w K mg base (CXe P w) 7 f fd ["web","r"] (ow T):=by
 refine D.F.okX AN (fun vs H Q E h=>?_) (fun cdv A outer s H vs Q E hr h=>?_)
 . obtain ⟨p,t,m,ps,rs,r,rfl,_⟩:=h
   rfl
 . obtain ⟨p,t,m,ps,rs,r,rfl,W,k,e⟩:=h;have g:=W.go;have m24:=g.m24;refine ⟨_,(ap (aD (i:=2) AN.nd rfl (Or.inr wQ.l) (ax G_ahead (hr.mono (by decide)) oI.g c8.m c8.F.kp c8.b .nil c6 (ag (pvl 0 sU) (ag (pvc 1 wz) aj)) (hdb:=oI.d))) (aq (aO (mH rfl (vR (Nc:=["place","nearer","r"]) 1 [2,1] (by decide +kernel) rfl (by decide +kernel) rfl (by show ∀ (y:Str × NameKind),y∈_->y.2=NameKind.free->(aa cg).names.lookup y.1=some NameKind.cell;decide +kernel) rfl (fun _ h=>kI h) (fun i hi=>match i,hi with|0,_=>⟨"nearer",2,rfl,rfl,rfl,by decide +kernel⟩|1,_=>⟨"r",1,rfl,rfl,rfl,by decide +kernel⟩|i+2,hi=>absurd hi (by show ¬ i+2<2;omega))) (Hu uX.g T.reversed (ax G_down (hr.mono (by decide)) qK.g qx.m qx.F.kp qx.b .nil c6 (ag (pvl 0 sU) (ag (pvc 1 wz) aj)) (hdb:=qK.d))) (fun _ _ _ _=>(aY (i:=0) (show (["place","nearer","r"]:List Str).Nodup from by decide +kernel) rfl (Or.inl rfl))) (fun _ _ _ _=>(zx (aJ xW (pv 0) (pv 2) (aN _)))) (fun _ _ _ _=>(qM (ag (pv 0) (ag (bQ (JL K rfl) (pv 1) (pv 0) (fun _ _=>rfl)) aj)))))))),?_⟩;rw [show L2.start ["web","r","nearer"] [V.ref p,V.int r]=[some (V.ref p),some (V.int r),none] from rfl];walk_at "rd";refine ex6 p t m ps rs r ?_;refine an4 rfl W (fun r0 r1=>?_) e;obtain ⟨par,dep,R,k⟩:=k r0 r1;refine ⟨par,dep,R,fun l1 H1 n1 s1 e1=>?_⟩;refine ex6 p t m ps rs r ?_;refine an4 rfl (W.same s1) (fun _ _=>⟨par,dep,R,fun l2 H2 n2 s2 e2 nd al=>?_⟩) (fun z=>absurd ⟨r0,r1⟩ z);obtain ⟨tl,et,O⟩:=Fl g R r0 r1 nd al;have ll:=JU g R r0 r1;rw [et] at e2 ll;rw [List.length_cons] at ll;refine ⟨l2,rfl,_,SqL.of e2,fun pc npc=>?_⟩;have e12:=s2 _ _ e1;have s12:=s1.trans s2;have npc0:=s12.free npc;refine KI (K:=K) (xs:=(r::tl).map V.int) (fun i zs σ H3=>Same H2 H3/\H3 pc=some (.lst zs)/\(∃ qs:List Addr,zs=qs.map V.ref/\PairsAt H3 par qs (tl.reverse.take i))/\∃ v,σ=[v,some (V.ref l1),some (V.int r)]) ⟨Same.new _ npc,ah,⟨[],rfl,.nil⟩,_,rfl⟩ (fun i zs σ H3 _ z=>SqL.of (z.1 _ _ e2)) ?_ ?_
   . rintro i x zs σ H3 N hN hx ⟨s3,e3,⟨qs,rfl,pa⟩,v,rfl⟩;rw [<- List.map_reverse,List.reverse_cons,List.getElem?_map] at hx;obtain ⟨y,gy,rfl⟩:=Option.map_eq_some_iff.mp hx;have il:=(List.getElem?_eq_some_iff.mp gy).1;rw [List.length_append,List.length_reverse] at il;have ql:qs.length=(tl.reverse.take i).length:=Paired.length pa;rw [List.length_take,List.length_reverse] at ql;walk_at "rd";by_cases c:i<tl.length
     . rw [List.getElem?_append_left (by rw [List.length_reverse];exact c)] at gy;have ym:y∈tl:=List.mem_reverse.mp (List.mem_of_getElem? gy);have yr:=O.rng y ym;rw [if_pos (O.ne ym)];have gp:atI (jT m r par) y=some (V.int (par y)):=by
         have ef:Pb.front r par y=V.int (par y):=(by unfold Pb.front;rw [if_neg (O.ne ym)]);rw [<- ef];exact gF yr.1 (wS yr.1 yr.2)
       refine ixL (s3 _ _ e12) gp ⟨aR (by simp),fun q nq=>?_⟩;have s4:=Same.new (.tup [V.int y,V.int (par y)]) nq;have nqp:q≠pc:=fun z=>by rw [z,e3] at nq;cases nq
       refine ⟨s4 _ _ e3,dU (by rw [List.length_map];omega),hN _ _ _ ⟨(s3.trans s4).put npc _,ah,⟨qs++[q],by rw [List.map_append];rfl,?_⟩,_,rfl⟩⟩;rw [List.take_succ,gy];refine PairsAt.snoc (by rw [ar nqp,ah];rfl) ?_;exact Paired.imp' (fun a b h=>by
         rw [ar (gm h e3 (by intro z;cases z)),ar (bh h nq)];exact h) pa
     . have ei:i=tl.reverse.length:=(by rw [List.length_reverse];simp at il;omega);rw [ei,List.getElem?_append_right (Nat.le_refl _),Nat.sub_self] at gy;cases gy;rw [if_neg (fun z=>z rfl)];refine hN _ _ _ ⟨s3,e3,⟨qs,rfl,?_⟩,_,rfl⟩;rw [List.take_of_length_le (by omega)] at pa ⊢;exact pa
   . rintro zs σ H3 ⟨s3,e3,⟨qs,rfl,pa⟩,v,rfl⟩;rw [List.take_of_length_le (by rw [List.length_map,List.length_reverse,List.length_cons];omega)] at pa;exact k pc qs tl H3 et npc0 (s12.trans s3) e3 pa O
def aH (m:Int) (xs:List Int):Bool:=decide ((xs.length:Int)=m) && xs.all fun x=>decide (0<=x)
theorem uk {m:Int} {xs:List Int} (h:(xs.length:Int)=m) (h0:∀ x∈xs,0<=x):aH m xs=true:=by
 unfold aH;rw [decide_eq_true h,Bool.true_and,List.all_eq_true];exact fun x hx=>decide_eq_true (h0 x hx)
theorem mw {m:Int} {xs:List Int} (h:aH m xs=true):(xs.length:Int)=m:=by
 unfold aH at h;rw [Bool.and_eq_true] at h;exact of_decide_eq_true h.1
theorem lJ {m:Int} {xs:List Int} (h:aH m xs=true):∀ x∈xs,0<=x:=by
 unfold aH at h;rw [Bool.and_eq_true,List.all_eq_true] at h;exact fun x hx=>of_decide_eq_true (h.2 x hx)
def t6 (T:Txt K mg):Sp:=fun vs H Q _=>∃ (p a t:Addr) (c:Bool) (m:Int) (ps:List Addr) (rs:List Road) (xs:List Int),vs=[.ref p,.ref a]/\WebAt T.Web H p m t ps rs/\SqX K c H a (xs.map V.int)/\xs.length<=1000/\∀ H',Same H H'->Q (.bl (aH m xs)) H'
abbrev b7:Stmt:=top 23
theorem CA:FnScope ["web","numbers"] ["web","numbers"] (aa b7):=FnScope.of (by kernel_rfl)
theorem wX:NmL (aa b7) "web":=.of (by kernel_rfl)
theorem jU:NmL (aa b7) "numbers":=.of (by kernel_rfl)
theorem jC:NmG (aa b7) "len":=.of (by kernel_rfl)
theorem jr:NmG (aa b7) "all":=.of (by kernel_rfl)
theorem BQ (T:Txt K mg) (hq:bc (CXe P w)) {f:Addr} {fd:FuncData} (D:Df K mg "is_filled" b7 ["web","numbers"] f fd):FnOk P w K mg base (CXe P w) 1 f fd ["web","numbers"] (t6 T):=by
 refine D.F.okC CA (fun vs H Q E h=>?_) (fun cdv A outer s H vs Q E hr h=>?_)
 . obtain ⟨p,a,t,c,m,ps,rs,xs,rfl,_⟩:=h
   rfl
 . obtain ⟨p,a,t,c,m,ps,rs,xs,rfl,W,ha,hz,k⟩:=h;refine ⟨_,(aq (aO (MY (wc cT (bS eE jC.g T.len lx (ag (pvl 1 jU) aj) (hn:=jC.n) (hdb:=jC.d)) (cS  (pvl 0 wX) rfl) (aN _)) (Nl (bS (IC rfl) jr.g T.all NM (ag (mH rfl (wJ (Nc:=["number"]) 1 (by decide +kernel) (by decide +kernel) rfl (by decide +kernel) rfl) (GR c (pvl 1 jU)) (fun _ _ _ _=>(aY (i:=0) (show (["number"]:List Str).Nodup from by decide +kernel) rfl (Or.inl rfl))) (fun _ _ _ _=>vZ) (fun _ _ _ _=>(wc OA (pv 0) ao (aN _)))) aj) (hn:=jr.n) (hdb:=jr.d)))))),?_⟩;rw [show L2.start ["web","numbers"] [V.ref p,V.ref a]=[some (V.ref p),some (V.ref a)] from rfl];walk_at "rd";obtain ⟨dx,ob⟩:=W.ob;have ha':SqL K H a (xs.map V.int)\/SqT K H a (xs.map V.int):=by
     cases c
     . exact .inr ha
     . exact .inl ha
   refine ⟨_,ha',T.Web,dx,_,ob,T.jf,T.n_many,_,jW m t,rfl,?_⟩;rw [List.length_map];by_cases hm:(xs.length:Int)=m
   . rw [if_pos (by rw [hm])];refine ⟨⟨_,ha⟩,fun l nl=>?_⟩;refine xI (K:=K) (c:=c) (xs:=xs.map V.int) (fun i bs σ H2=>Same H H2/\H2 l=some (.lst bs)/\bs=((xs.take i).map fun x=>decide (0<=x)).map V.bl/\∃ v,σ=[v]) ⟨Same.new _ nl,ah,rfl,_,rfl⟩ (fun i bs σ H2 _ z=>Same.sqX z.1 ha) ?_ ?_
     . rintro i x bs σ H2 N hN hx ⟨s2,e2,rfl,v,rfl⟩;rw [List.getElem?_map] at hx;obtain ⟨y,gy,rfl⟩:=Option.map_eq_some_iff.mp hx;walk_at "rd";refine ⟨e2,dU (by rw [List.length_map,List.length_map,List.length_take];omega),hN _ _ _ ⟨s2.put nl _,ah,?_,_,rfl⟩⟩;rw [List.take_succ,gy,List.map_append,List.map_append]
       rfl
     . rintro bs σ H2 ⟨s2,e2,rfl,v,rfl⟩;refine ⟨l,rfl,_,SqL.of e2,?_⟩;have e:(((xs.take (xs.map V.int).length).map fun x=>decide (0<=x)).all id)=aH m xs:=by
         rw [List.length_map,List.take_length,List.all_map];unfold aH;rw [decide_eq_true hm,Bool.true_and]
         rfl
       rw [e];exact k _ s2
   . rw [if_neg (fun z=>hm (by injection z))];have e:aH m xs=false:=by
       unfold aH;rw [decide_eq_false hm,Bool.false_and]
     rw [e] at k;exact k H (Same.refl _)
def rZ (T:Txt K mg):Sp:=fun vs H Q E=>∃ (p a t:Addr) (c:Bool) (m:Int) (ps:List Addr) (rs:List Road) (xs:List Int),vs=[.ref p,.ref a]/\WebAt T.Web H p m t ps rs/\SqX K c H a (xs.map V.int)/\xs.length<=1000 /\
 (aH m xs=true->∀ l H',Same H H'->SqT K H' l (xs.map V.int)->Q (.ref l) H')/\(aH m xs=false->∀ H',Same H H'->E (.ref T.BadWish) none H')
abbrev ck:Stmt:=top 31
theorem Gx:FnScope ["web","numbers"] ["web","numbers"] (aa ck):=FnScope.of (by kernel_rfl)
theorem zq:NmL (aa ck) "web":=.of (by kernel_rfl)
theorem lQ:NmL (aa ck) "numbers":=.of (by kernel_rfl)
theorem jQ:NmG (aa ck) "is_filled":=.of (by kernel_rfl)
theorem lN:NmG (aa ck) "BadWish":=.of (by kernel_rfl)
theorem jE:NmG (aa ck) "tuple":=.of (by kernel_rfl)
theorem Gg (T:Txt K mg) (hq:bc (CXe P w)) {f:Addr} {fd:FuncData} (D:Df K mg "wish_of" ck ["web","numbers"] f fd) {fA:Addr} {va:FuncData} (gM:Df K mg "is_filled" b7 ["web","numbers"] fA va) (G_is_filled:FnOk P w K mg base (CXe P w) 1 fA va ["web","numbers"] (t6 T)):FnOk P w K mg base (CXe P w) 2 f fd ["web","numbers"] (rZ T):=by
 refine D.F.okX Gx (fun vs H Q E h=>?_) (fun cdv A outer s H vs Q E hr h=>?_)
 . obtain ⟨p,a,t,c,m,ps,rs,xs,rfl,_⟩:=h
   rfl
 . obtain ⟨p,a,t,c,m,ps,rs,xs,rfl,W,ha,hz,k,e⟩:=h;refine ⟨_,(ap (bB (qv (qz (ax G_is_filled (hr.mono (by decide)) jQ.g gM.m gM.F.kp gM.b .nil c6 (ag (pvl 0 zq) (ag (pvl 1 lQ) aj)) (hdb:=jQ.d)))) (aq (rP T.HR rfl wd lN.g T.AK (ag yk aj) (hdb:=lN.d))) aP) (aq (aO (f6 jh jE.g T.tuple rY (ag (pvl 1 lQ) aj) (hn:=jE.n) (hdb:=jE.d))))),?_⟩;rw [show L2.start ["web","numbers"] [V.ref p,V.ref a]=[some (V.ref p),some (V.ref a)] from rfl];walk_at "rd";refine ⟨p,a,t,c,m,ps,rs,xs,rfl,W,ha,hz,fun H1 s1=>⟨_,rfl,?_⟩⟩;by_cases z:aH m xs=false
   . rw [if_pos z];exact ⟨by decide,e z H1 s1⟩
   . rw [if_neg z];have z':aH m xs=true:=(by simpa using z);cases c
     . exact ⟨_,.inr ⟨Same.sqX (c:=false) s1 ha,k z' a H1 s1 (Same.sqX (c:=false) s1 ha)⟩⟩
     . exact ⟨_,.inl ⟨Same.sqX (c:=true) s1 ha,fun l nl=>k z' l _ (s1.trans (Same.new _ nl)) (SqT.of ah)⟩⟩
def xm (T:Txt K mg):Sp:=fun vs H Q E=>∃ (p a t:Addr) (c:Bool) (m:Int) (ps:List Addr) (rs:List Road) (xs:List Int) (r:Int),vs=[.ref p,.ref a,.int r]/\WebAt T.Web H p m t ps rs/\SqX K c H a (xs.map V.int)/\xs.length<=1000 /\
 (aH m xs=true->0<=r->r<m->∃ par dep,Rooted m rs r par dep/\∀ l H',H l=none->Same H H'->H' l=some (.lst ((wT m rs r par dep (fun v=>xs.getD v.toNat 0) (ned rs par)).map V.int))->Q (.ref l) H') /\
 (aH m xs=false->∀ H',Same H H'->E (.ref T.BadWish) none H')/\(aH m xs=true->¬ (0<=r/\r<m)->∀ H',Same H H'->E (.ref T.NoPlace) none H')
abbrev b9:Stmt:=top 34
theorem qY:FnScope ["web","wish","r","found","place","front"] ["web","wish","r"] (aa b9):=FnScope.of (by kernel_rfl)
theorem m9:NmL (aa b9) "web":=.of (by kernel_rfl)
theorem A9:NmL (aa b9) "wish":=.of (by kernel_rfl)
theorem Fs:NmL (aa b9) "r":=.of (by kernel_rfl)
theorem iL:NmL (aa b9) "found":=.of (by kernel_rfl)
theorem kX:NmL (aa b9) "place":=.of (by kernel_rfl)
theorem kZ:NmL (aa b9) "front":=.of (by kernel_rfl)
theorem mf:NmG (aa b9) "list":=.of (by kernel_rfl)
theorem ng:NmG (aa b9) "wish_of":=.of (by kernel_rfl)
theorem oX:NmG (aa b9) "inward":=.of (by kernel_rfl)
theorem tm:NmG (aa b9) "toll":=.of (by kernel_rfl)
theorem IW (T:Txt K mg) (hq:bc (CXe P w)) {f:Addr} {fd:FuncData} (D:Df K mg "needs" b9 ["web","wish","r"] f fd) {fk:Addr} {lH:FuncData} (eA:Df K mg "inward" cg ["web","r"] fk lH) (G_inward:FnOk P w K mg base (CXe P w) 7 fk lH ["web","r"] (ow T)) {c7:Addr} {dL:FuncData} (b6:Df K mg "toll" cA ["web","a","b"] c7 dL) (G_toll:FnOk P w K mg base (CXe P w) 3 c7 dL ["web","a","b"] (mG T)) {d4:Addr} {j5:FuncData} (dE:Df K mg "wish_of" ck ["web","numbers"] d4 j5) (G_wish_of:FnOk P w K mg base (CXe P w) 2 d4 j5 ["web","numbers"] (rZ T)):FnOk P w K mg base (CXe P w) 8 f fd ["web","wish","r"] (xm T):=by
 refine D.F.okX qY (fun vs H Q E h=>?_) (fun cdv A outer s H vs Q E hr h=>?_)
 . obtain ⟨p,a,t,c,m,ps,rs,xs,r,rfl,_⟩:=h
   rfl
 . obtain ⟨p,a,t,c,m,ps,rs,xs,r,rfl,W,ha,hz,k,e,e'⟩:=h;have g:=W.go;have m24:=g.m24;refine ⟨_,(ap (aD (i:=3) qY.nd rfl (Or.inl iL.l) (f6 jX mf.g T.list vU (ag (ax G_wish_of (hr.mono (by decide)) ng.g dE.m dE.F.kp dE.b .nil c6 (ag (pvl 0 m9) (ag (pvl 1 A9) aj)) (hdb:=ng.d)) aj) (hn:=mf.n) (hdb:=mf.d))) (ap (eK PassesOwn.leaving rfl (jJ (ax G_inward (hr.mono (by decide)) oX.g eA.m eA.F.kp eA.b .nil c6 (ag (pvl 0 m9) (ag (pvl 2 Fs) aj)) (hdb:=oX.d))) (ua (n:=2) rfl (cZ (aY (i:=4) qY.nd rfl (Or.inl kX.l)) (cZ (aY (i:=5) qY.nd rfl (Or.inl kZ.l)) mF))) (aq (Ex (pvl 3 iL) (pvl 5 kZ) Cf (au jV (bQ bW (pvl 3 iL) (pvl 4 kX) (fun _ _=>rfl)) (ax G_toll (hr.mono (by decide)) tm.g b6.m b6.F.kp b6.b .nil c6 (ag (pvl 0 m9) (ag (pvl 5 kZ) (ag (pvl 4 kX) aj))) (hdb:=tm.d))) GF iE))) (aq (aO (pvl 3 iL))))),?_⟩;rw [show L2.start ["web","wish","r","found","place","front"] [V.ref p,V.ref a,V.int r]=[some (V.ref p),some (V.ref a),some (V.int r),none,none,none] from rfl];walk_at "rd";refine ex8 p a t c m ps rs xs ?_;refine an6 rfl W ha hz (fun fi l0 H0 s0 e0=>?_) e;have xl:(xs.length:Int)=m:=by
     unfold aH at fi;rw [Bool.and_eq_true] at fi;exact of_decide_eq_true fi.1
   refine ⟨l0,rfl,_,.inr e0,fun l n1=>?_⟩;have s1:=Same.new (.lst (xs.map V.int)) n1;have s01:=s0.trans s1;have nl:=s0.free n1;have e1:upd H0 l (.lst (xs.map V.int)) l=some (.lst (xs.map V.int)):=ah;generalize upd H0 l (.lst (xs.map V.int))=H1 at s1 s01 e1 ⊢;refine ex6 p t m ps rs r ?_;refine an4 rfl (W.same s01) (fun r0 r1=>?_) (fun z=>e' fi z H1 s01);obtain ⟨par,dep,R,k⟩:=k fi r0 r1;refine ⟨par,dep,R,fun l2 qs tl H2 _ n2 s2 e2 pa O=>?_⟩;have nll:l2≠l:=fun z=>by rw [z,e1] at n2;cases n2
   refine ⟨l2,rfl,⟨_,SqL.of e2⟩,?_⟩;have ql:qs.length=tl.reverse.length:=Paired.length pa;refine lB (K:=K) (xs:=qs.map V.ref) (fun i σ H3=>Same H H3/\H3 l2=some (.lst (qs.map V.ref))/\PairsAt H3 par qs tl.reverse/\∃ (cs:List Int) (v4 v5:Option V),H3 l=some (.lst (cs.map V.int))/\Sofar m rs r par dep (fun v=>xs.getD v.toNat 0) (ned rs par) (tl.drop (tl.length - i)) cs/\σ=[some (V.ref p),some (V.ref a),some (V.int r),some (V.ref l),v4,v5]) ⟨s01.trans s2,e2,pa,xs,_,_,s2 _ _ e1,by rw [Nat.sub_zero,List.drop_length];exact Sofar.nil xl,rfl⟩ (fun i σ H3 _ z=>SqL.of z.2.1) ?_ ?_
   . rintro i x σ H3 N BB hBB hN hx ⟨s3,e3,pa3,cs,v4,v5,c3,so,rfl⟩;refine hBB _ _ ?_;obtain ⟨q,v,rfl,hq,hv,eq⟩:=pa3.get hx;obtain ⟨⟨vr,vn⟩,ev,so'⟩:=O.turn g R so hv;have u:=R.up v vr.1 vr.2 vn;obtain ⟨kk,hk,k0,k1⟩:=EG g R vr.1 vr.2 vn;have cl:=so.len;walk_at "rd";refine ⟨_,SqT.of eq,rfl,_,_,rfl,_,_,rfl,rfl,?_⟩;refine ixL c3 (atG u.1.1 (by omega)) (ixL c3 (atG vr.1 (by omega)) ?_);refine ⟨p,t,m,ps,rs,par v,v,rfl,W.same s3,fun k' _ _ _ _ h=>?_,fun z=>absurd ⟨u.1,vr⟩ z,fun _ _ _ _ z=>by rw [hk] at z;cases z⟩;rw [hk] at h;cases h;refine ⟨_,rfl,_,rfl,.inr ⟨by omega,by omega⟩,_,rfl,wW c3 u.1.1 (by rw [List.length_map];omega) (hN _ _ ⟨s3.put nl _,?_,?_,we par (ned rs par) cs v,_,_,?_,so',rfl⟩)⟩
     . rw [ar nll];exact e3
     . exact Paired.imp' (fun a b h=>by rw [ar (gm h c3 (by intro z;cases z))];exact h) pa3
     . rw [ah,<- List.map_set];unfold we ned;rw [hk]
       rfl
   . rintro BB σ H3 hBB ⟨s3,e3,pa3,cs,v4,v5,c3,so,rfl⟩;refine hBB _ _ ?_;rw [List.length_map,ql,List.length_reverse,Nat.sub_self,List.drop_zero] at so;rw [O.done g R so] at c3;walk_at "rd";exact k l H3 nl s3 c3
theorem OutAt.put {C O:Addr} {H:Hp} {o p t:Addr} {m:Int} {ps:List Addr} {rs:List Road} {r:Int} {par:Int->Int} {dep:Int->Nat} {nd:Int->Int} {na ka ia:Addr} {kl:List Addr} {bs:List V} {S:Int->Prop} (h:OutAt C O H o p t m ps rs r par dep nd na ka ia kl bs S) (hna:na≠ia) (hka:ka≠ia) (hkl:∀ q∈kl,q≠ia) (hd:∀ c,S c->0<=c/\∀ a,atI bs c=some (.ref a)->a≠ia) (bl:bs.length=m.toNat) {v:Int} (v0:0<=v) (v1:v<m) (hS:∀ c∈kd m rs r par v,S c) {l:Addr} (hl:H l=some (.lst ((idl m rs r par dep nd v).map V.int))) (nl:l≠ia) :
   OutAt C O (upd H ia (.lst (bs.set v.toNat (.ref l)))) o p t m ps rs r par dep nd na ka ia kl (bs.set v.toNat (.ref l)) (fun c=>c=v\/S c) where
 ob:=by
   obtain ⟨dx,q⟩:=h.ob;exact ⟨dx,by rw [ar (gm q h.hi (by intro z;cases z))];exact q⟩
 web:=by
   have W:=h.web;refine ⟨?_,?_,?_,W.go⟩
   . obtain ⟨dx,q⟩:=W.ob;exact ⟨dx,by rw [ar (gm q h.hi (by intro z;cases z))];exact q⟩
   . rw [ar (gm W.tu h.hi (by intro z;cases z))];exact W.tu
   . exact Paired.imp' (fun q x e=>by rw [ar (gm e h.hi (by intro z;cases z))];exact e) W.ro
 rt:=h.rt
 hn:=by rw [ar hna];exact h.hn
 hk:=by rw [ar hka];exact h.hk
 kp:=zc (fun q x hq e=>by rw [ar (hkl q hq)];exact e) h.kp
 hi:=ah
 done:=fun c hc=>by
   by_cases e:c=v
   . subst e;refine ⟨l,gF v0 ?_,by rw [ar nl];exact hl⟩;rw [List.getElem?_set_self (by omega)]
   . have hc:=hc.resolve_left e;obtain ⟨a,h1,h2⟩:=h.done c hc;obtain ⟨c0,h3⟩:=hd c hc;refine ⟨a,gF c0 ?_,by rw [ar (h3 a h1)];exact h2⟩;rw [List.getElem?_set_ne (by omega)];exact (yg c0).symm.trans h1
 cl:=fun u u0 u1 hu c hc=>by
   rcases hu with rfl|hu
   . exact .inr (hS c hc)
   . exact .inr (h.cl u u0 u1 hu c hc)
theorem OutAt.sub {C O:Addr} {H:Hp} {o p t:Addr} {m:Int} {ps:List Addr} {rs:List Road} {r:Int} {par:Int->Int} {dep:Int->Nat} {nd:Int->Int} {na ka ia:Addr} {kl:List Addr} {bs:List V} {S:Int->Prop} {S':Int->Prop} (h:OutAt C O H o p t m ps rs r par dep nd na ka ia kl bs S) (f:∀ c,S' c->S c) (cl:∀ u,0<=u->u<m->S' u->∀ c∈kd m rs r par u,S' c):OutAt C O H o p t m ps rs r par dep nd na ka ia kl bs S' :=
 ⟨h.ob,h.web,h.rt,h.hn,h.hk,h.kp,h.hi,fun c hc=>h.done c (f c hc),cl⟩
theorem WebAt.kpt {C O:Addr} {H H':Hp} {o p:Addr} {m:Int} {t dx:Addr} {ps:List Addr} {rs:List Road} (e:Kpt o H H') (ho:H o=some (.ins O dx [])) (h:WebAt C H p m t ps rs):WebAt C H' p m t ps rs :=
 ⟨let ⟨dx,q⟩:=h.ob;⟨dx,e _ _ q (gm q ho (by intro z;cases z))⟩,e _ _ h.tu (gm h.tu ho (by intro z;cases z)),Paired.imp' (fun q x z=>e _ _ z (gm z ho (by intro z;cases z))) h.ro,h.go⟩
def km (T:Txt K mg):Sp:=fun vs H Q _=>∃ (o dx p a t:Addr) (c:Bool) (m:Int) (ps:List Addr) (rs:List Road) (xs:List Int) (r:Int),vs=[.ref o,.ref p,.ref a,.int r]/\H o=some (.ins T.Outlook dx [])/\WebAt T.Web H p m t ps rs/\SqX K c H a (xs.map V.int)/\aH m xs=true/\(0<=r/\r<m) /\
 ∃ par dep,Rooted m rs r par dep/\∀ na ka ia kl bs H',OutAt T.Web T.Outlook H' o p t m ps rs r par dep (gat m rs r par dep (fun v=>xs.getD v.toNat 0) (ned rs par)) na ka ia kl bs (fun v=>(0<=v/\v<m)/\v≠r)->(∀ b x,H b=some x->b≠o->H' b=some x)->Q .non H'
abbrev aA:Stmt:=Ez (top 39) 0
theorem gR:FnScope ["self","web","wish","r","place","front"] ["self","web","wish","r"] (aa aA):=FnScope.of (by kernel_rfl)
theorem bK:NmL (aa aA) "self":=.of (by kernel_rfl)
theorem cf:NmC (aa aA) "web":=.of (by kernel_rfl)
theorem nJ:NmL (aa aA) "wish":=.of (by kernel_rfl)
theorem fG:NmL (aa aA) "r":=.of (by kernel_rfl)
theorem d3:NmL (aa aA) "place":=.of (by kernel_rfl)
theorem gX:NmL (aa aA) "front":=.of (by kernel_rfl)
theorem gY:NmG (aa aA) "needs":=.of (by kernel_rfl)
theorem kj:NmG (aa aA) "enumerate":=.of (by kernel_rfl)
theorem gZ:NmG (aa aA) "ahead":=.of (by kernel_rfl)
theorem gr:NmG (aa aA) "inward":=.of (by kernel_rfl)
theorem fB:NmG (aa aA) "idle_load":=.of (by kernel_rfl)
theorem tQ (T:Txt K mg) (hq:bc (CXe P w)) {f:Addr} {fd:FuncData} (F:Fun K "__init__" "Outlook.__init__" aA f fd) {eg:Addr} {iu:FuncData} (c8:Df K mg "ahead" ce ["web","r"] eg iu) (G_ahead:FnOk P w K mg base (CXe P w) 5 eg iu ["web","r"] (sE T)) {ft:Addr} {ug:FuncData} (gL:Df K mg "idle_load" bL ["outlook","place","front"] ft ug) (G_idle_load:FnOk P w K mg base (CXe P w) 55 ft ug ["outlook","place","front"] (vq T)) {fk:Addr} {lH:FuncData} (eA:Df K mg "inward" cg ["web","r"] fk lH) (G_inward:FnOk P w K mg base (CXe P w) 7 fk lH ["web","r"] (ow T)) {fM:Addr} {jH:FuncData} (dR:Df K mg "kids" eB ["web","place","front"] fM jH) (G_kids:FnOk P w K mg base (CXe P w) 4 fM jH ["web","place","front"] (vW T)) {gI:Addr} {nN:FuncData} (fX:Df K mg "needs" b9 ["web","wish","r"] gI nN) (G_needs:FnOk P w K mg base (CXe P w) 8 gI nN ["web","wish","r"] (xm T)):FnOk P w K mg base (CXe P w) 56 f fd ["self","web","wish","r"] (km T):=by
 refine F.okC gR (fun vs H Q E h=>?_) (fun cdv A outer s H vs Q E hr h=>?_)
 . obtain ⟨o,dx,p,a,t,c,m,ps,rs,xs,r,rfl,_⟩:=h
   rfl
 . obtain ⟨o,dx,p,a,t,c,m,ps,rs,xs,r,rfl,ho,W,ha,fi,rr,par,dep,R,k⟩:=h;have g:=W.go;have m24:=g.m24;obtain ⟨dw,wb⟩:=W.ob;refine ⟨_,(ap (qA (pvl 0 bK) (pvc 1 cf) rfl) (ap (qA (pvl 0 bK) (ax G_needs (hr.mono (by decide)) gY.g fX.m fX.F.kp fX.b .nil (aK hq) (ag (pvc 1 cf) (ag (pvl 2 nJ) (ag (pvl 3 fG) aj))) (hdb:=gY.d)) rfl) (ap (qA (pvl 0 bK) (mH rfl (vR (Nc:=["place","front","web"]) 2 [1] (by decide +kernel) rfl (by decide +kernel) rfl (by show ∀ (y:Str × NameKind),y∈_->y.2=NameKind.free->(aa aA).names.lookup y.1=some NameKind.cell;decide +kernel) rfl (fun _ h=>kI h) (fun i hi=>match i,hi with|0,_=>⟨"web",1,rfl,rfl,rfl,by decide +kernel⟩|i+1,hi=>absurd hi (by show ¬ i+1<1;omega))) (MJ true kj.g T.enumerate (ax G_ahead (hr.mono (by decide)) gZ.g c8.m c8.F.kp c8.b .nil (aK hq) (ag (pvc 1 cf) (ag (pvl 3 fG) aj)) (hdb:=gZ.d))) (fun _ _ _ _=>(EB K rfl (n:=2) rfl (cZ (aY (i:=0) (show (["place","front","web"]:List Str).Nodup from by decide +kernel) rfl (Or.inl rfl)) (cZ (aY (i:=1) (show (["place","front","web"]:List Str).Nodup from by decide +kernel) rfl (Or.inl rfl)) mF)))) (fun _ _ _ _=>vZ) (fun _ _ _ _=>(ax G_kids (hr.mono (by decide)) (by rfl) dR.m dR.F.kp dR.b .nil (aK hq) (ag (pv 2) (ag (pv 0) (ag (pv 1) aj)))))) rfl) (ap (qA (pvl 0 bK) (au qr (bN (ag yR aj)) (cS  (pvc 1 cf) rfl)) rfl) (aq (eK PassesOwn.never rfl (jJ (ax G_inward (hr.mono (by decide)) gr.g eA.m eA.F.kp eA.b .nil (aK hq) (ag (pvc 1 cf) (ag (pvl 3 fG) aj)) (hdb:=gr.d))) (ua (n:=2) rfl (cZ (aY (i:=4) gR.nd rfl (Or.inl d3.l)) (cZ (aY (i:=5) gR.nd rfl (Or.inl gX.l)) mF))) (aq (nF (ax G_idle_load (hr.mono (by decide)) fB.g gL.m gL.F.kp gL.b .nil (aK hq) (ag (pvl 0 bK) (ag (pvl 4 d3) (ag (pvl 5 gX) aj))) (hdb:=fB.d)) (qC (cS  (pvl 0 bK) rfl) (pvl 4 d3) iE))))))))),?_⟩;rw [show L2.start ["self","web","wish","r","place","front"] [V.ref o,V.ref p,V.ref a,V.int r]=[some (V.ref o),some (V.ref p),some (V.ref a),some (V.int r),none,none] from rfl];walk_at "rd";have xl:(xs.length:Int)=m:=by
     have fi:=fi;unfold aH at fi;rw [Bool.and_eq_true] at fi;exact of_decide_eq_true fi.1
   refine ⟨T.Outlook,dx,[],ho,T.bO,T.n_web,by decide,?_⟩;have k1:Kpt o H (upd H o (.ins T.Outlook dx (aW "web" (.ref p) []))):=Kpt.refl.put _;have o1:upd H o (.ins T.Outlook dx (aW "web" (.ref p) [])) o=some (.ins T.Outlook dx (aW "web" (.ref p) [])):=ah;generalize upd H o (.ins T.Outlook dx (aW "web" (.ref p) []))=H1 at k1 o1 ⊢;refine ⟨p,a,t,c,m,ps,rs,xs,r,rfl,W.kpt k1 ho,k1.sqX ho ha,by omega,fun _ _ _=>⟨par,dep,R,fun na H2 n2 s2 e2=>?_⟩,fun z=>(by rw [fi] at z;cases z),fun _ z=>absurd rr z⟩;have k2:=k1.then s2;refine ⟨T.Outlook,dx,_,s2 _ _ o1,T.bO,T.vX,by show 1<1000;decide,?_⟩;have nao:na≠o:=fun z=>by rw [z,o1] at n2;cases n2
   have k3:=k2.put (.ins T.Outlook dx (aW "needs" (.ref na) (aW "web" (.ref p) [])));have o3:upd H2 o (.ins T.Outlook dx (aW "needs" (.ref na) (aW "web" (.ref p) []))) o=some (.ins T.Outlook dx (aW "needs" (.ref na) (aW "web" (.ref p) []))):=ah;have e3:upd H2 o (.ins T.Outlook dx (aW "needs" (.ref na) (aW "web" (.ref p) []))) na=_:=(ar nao).trans e2;generalize upd H2 o (.ins T.Outlook dx (aW "needs" (.ref na) (aW "web" (.ref p) [])))=H3 at k3 o3 e3 ⊢;have W3:=W.kpt k3 ho;refine ⟨p,t,m,ps,rs,r,rfl,W3,fun _ _=>⟨par,dep,R,fun la H4 n4 s4 e4=>⟨la,rfl,⟨_,SqL.of e4⟩,fun ka nka=>?_⟩⟩,fun z=>absurd rr z⟩;have n3ka:=s4.free nka;refine GG (K:=K) (c:=true) (xs:=jT m r par) (fun i ys σ H5=>Same H4 H5/\H5 ka=some (.lst ys)/\(∃ kl:List Addr,ys=kl.map V.ref/\Paired (fun a v=>H5 a=some (.lst ((kd m rs r par v).map V.int))) kl ((below m.toNat).take i)/\∀ q∈kl,q≠ka)/\∃ v w,σ=[v,w,some (V.ref p)]) ⟨Same.new _ nka,ah,⟨[],rfl,.nil,by simp⟩,_,_,rfl⟩ (fun i ys σ H5 z=>SqL.of (z.1 _ _ e4)) ?_ ?_
   . rintro i x ys σ H5 q N hN hx ⟨s5,e5,⟨kl,rfl,pk,hkq⟩,v,w,rfl⟩ nq;have il:i<m.toNat:=by
       have:=(List.getElem?_eq_some_iff.mp hx).1;unfold jT at this
       rwa [List.length_map,bx] at this
     have ex:x=Pb.front r par (i:Int):=by
       have:=wS (m:=m) (r:=r) (par:=par) (v:=(i:Int)) (by omega) (by omega);rw [show ((i:Int)).toNat=i from rfl,hx] at this;exact Option.some.inj this
     have qe:=s5 _ _ e4;have s6:=Same.new (.tup [V.int i,x]) nq;have s46:=s5.trans s6;have et:(below m.toNat).take (i+1)=(below m.toNat).take i++[(i:Int)]:=(by rw [List.take_succ,fe il];rfl);have kll:kl.length<=24:=by
       have:=Paired.length pk;rw [List.length_take] at this;omega
     walk_at "rd";refine ⟨_,SqT.of ah,rfl,_,_,rfl,_,_,rfl,rfl,?_⟩;refine ⟨p,t,m,ps,rs,i,x,rfl,W3.same (s4.trans s46),by omega,by omega,?_,fun l6 H6 n6 s7 e7=>?_⟩
     . rw [ex];unfold Pb.front;split
       . exact .inl rfl
       . exact .inr ⟨_,rfl⟩
     have s57:=s6.trans s7;refine ⟨s57 _ _ e5,dU (by rw [List.length_map];omega),hN _ _ _ ⟨(s5.trans s57).put nka _,ah,⟨kl++[l6],by rw [List.map_append];rfl,?_,fun q hq=>?_⟩,_,_,rfl⟩⟩;have nk:l6≠ka:=fun z=>by rw [z,s6 _ _ e5] at n6;cases n6
     rotate_left
     . rcases List.mem_append.mp hq with h|h
       . exact hkq q h
       . rw [List.mem_singleton.mp h];exact fun z=>by rw [z,s6 _ _ e5] at n6;cases n6
     rw [et];refine Cn (by rw [ar nk,e7,ex]) (zc (fun q v hq h=>?_) pk);have e:q≠ka:=fun z=>hkq q hq z;rw [ar e];exact s57 _ _ h
   . rintro ys σ H5 ⟨s5,e5,⟨kl,rfl,pk,hkq⟩,v,w,rfl⟩;rw [show (jT m r par).length=m.toNat by unfold jT;rw [List.length_map,bx],List.take_of_length_le (by rw [bx];exact Nat.le_refl _)] at pk;have o5:=s5 _ _ (s4 _ _ o3);have k5:=(k3.then s4).then s5;have e5n:=s5 _ _ (s4 _ _ e3);refine ⟨T.Outlook,dx,_,o5,T.bO,T.DN,by show 2<1000;decide,by decide,fun l1 n1=>?_⟩;have kao:ka≠o:=fun z=>by rw [z,o5] at e5;cases e5
     have k6:=k5.put (.ins T.Outlook dx (aW "kids" (.ref ka) (aW "needs" (.ref na) (aW "web" (.ref p) []))));have o6:upd H5 o (.ins T.Outlook dx (aW "kids" (.ref ka) (aW "needs" (.ref na) (aW "web" (.ref p) [])))) o=some (.ins T.Outlook dx (aW "kids" (.ref ka) (aW "needs" (.ref na) (aW "web" (.ref p) [])))):=ah;have e6:upd H5 o (.ins T.Outlook dx (aW "kids" (.ref ka) (aW "needs" (.ref na) (aW "web" (.ref p) [])))) ka=_:=(ar kao).trans e5;have e6n:upd H5 o (.ins T.Outlook dx (aW "kids" (.ref ka) (aW "needs" (.ref na) (aW "web" (.ref p) [])))) na=_:=(ar nao).trans e5n;have pk6:Paired (fun a v=>upd H5 o (.ins T.Outlook dx (aW "kids" (.ref ka) (aW "needs" (.ref na) (aW "web" (.ref p) [])))) a=some (.lst ((kd m rs r par v).map V.int))) kl (below m.toNat):=Paired.imp' (fun q v h=>by rw [ar (gm h o5 (by intro z;cases z))];exact h) pk;generalize upd H5 o (.ins T.Outlook dx (aW "kids" (.ref ka) (aW "needs" (.ref na) (aW "web" (.ref p) []))))=H6 at k6 o6 e6 e6n pk6 n1 ⊢;have s7:=Same.new (.lst [V.non]) n1;obtain ⟨dw',wb'⟩:=(W.kpt k6 ho).ob;refine ⟨T.Web,dw',_,s7 _ _ wb',T.jf,T.n_many,_,jW _ _,?_⟩;refine ⟨l1,m,[V.non],rfl,rfl,ah,by omega,by omega,aR (by simp;omega),fun ia nia=>?_⟩;rw [nZ];have s8:=s7.trans (Same.new (.lst (List.replicate m.toNat V.non)) nia);have i8:upd (upd H6 l1 (.lst [V.non])) ia (.lst (List.replicate m.toNat V.non)) ia=some (.lst (List.replicate m.toNat V.non)):=ah;have nia6:=s7.free nia;generalize upd (upd H6 l1 (.lst [V.non])) ia (.lst (List.replicate m.toNat V.non))=H8 at s8 i8 ⊢;have o8:=s8 _ _ o6;refine ⟨T.Outlook,dx,_,o8,T.bO,T.n_idle,by show 3<1000;decide,?_⟩;have k8:=(k6.then s8).put (.ins T.Outlook dx (iK p na ka ia));have iao:ia≠o:=fun z=>by rw [z,o6] at nia6;cases nia6
     have O9:OutAt T.Web T.Outlook (upd H8 o (.ins T.Outlook dx (iK p na ka ia))) o p t m ps rs r par dep (gat m rs r par dep (fun v=>xs.getD v.toNat 0) (ned rs par)) na ka ia kl (List.replicate m.toNat V.non) (fun _=>False) :=
       ⟨⟨dx,ah⟩,W.kpt k8 ho,R,(ar nao).trans (s8 _ _ e6n),(ar kao).trans (s8 _ _ e6),Paired.imp' (fun q v h=>by rw [ar (gm h o6 (by intro z;cases z))];exact s8 _ _ h) pk6,(ar iao).trans i8,fun c z=>z.elim,fun u _ _ z=>z.elim⟩
     have k9:=k8;show ow T [V.ref p,V.int r] (upd H8 o (.ins T.Outlook dx (iK p na ka ia))) _ _;generalize upd H8 o (.ins T.Outlook dx (iK p na ka ia))=H9 at O9 k9 ⊢;have hia:H ia=none:=by
       cases e:H ia with
       | none=>rfl
       | some x=>rw [k6 _ _ e iao] at nia6;cases nia6
     have hna:na≠ia:=fun z=>by rw [<- z,e6n] at nia6;cases nia6
     have hka:ka≠ia:=fun z=>by rw [<- z,e6] at nia6;cases nia6
     have hkl:∀ q∈kl,q≠ia:=fun q hq z=>by
       obtain ⟨v,hv⟩:=EJ pk6 hq;rw [z,nia6] at hv;cases hv
     refine ⟨p,t,m,ps,rs,r,rfl,O9.web,fun _ _=>⟨par,dep,R,fun lq qs tl H10 et n10 s10 e10 pa Or=>⟨lq,rfl,⟨_,SqL.of e10⟩,?_⟩⟩,fun z=>absurd rr z⟩;have nlq:lq≠ia:=fun z=>by rw [z,O9.hi] at n10;cases n10
     refine lB (K:=K) (xs:=qs.map V.ref) (fun i σ H11=>Kpt o H H11/\H11 lq=some (.lst (qs.map V.ref))/\PairsAt H11 par qs tl.reverse/\∃ (bs:List V) (v4 v5:Option V),OutAt T.Web T.Outlook H11 o p t m ps rs r par dep (gat m rs r par dep (fun v=>xs.getD v.toNat 0) (ned rs par)) na ka ia kl bs (fun c=>c∈tl.drop (tl.length - i))/\bs.length=m.toNat/\(∀ c,c∈tl.drop (tl.length - i)->∀ a,atI bs c=some (.ref a)->a≠ia)/\σ=[some (V.ref o),some (V.ref p),some (V.ref a),some (V.int r),v4,v5]) ⟨k9.then s10,e10,pa,List.replicate m.toNat V.non,_,_,(O9.same s10).sub (fun c hc=>?_) (fun u _ _ hu=>?_),List.length_replicate,fun c hc=>?_,rfl⟩ (fun i σ H11 _ z=>SqL.of z.2.1) ?_ ?_
     . rw [Nat.sub_zero,List.drop_length] at hc;cases hc
     . rw [Nat.sub_zero,List.drop_length] at hu;cases hu
     . rw [Nat.sub_zero,List.drop_length] at hc;cases hc
     . rintro i x σ H11 N BB hBB hN hx ⟨k11,e11,pa11,bs,v4,v5,O11,bl,hda,rfl⟩;refine hBB _ _ ?_;obtain ⟨q,v,rfl,hq,hv,eq⟩:=pa11.get hx;obtain ⟨⟨vr,vn⟩,ed,_,hdp,hdk⟩:=Or.cut R hv;have hS:∀ c∈kd m rs r par v,c∈tl.drop (tl.length - i):=fun c hc=>by
         have w:=(dj g R vr.1 vr.2).mp hc;exact hdk c w.1.1 w.1.2 w.2.1 w.2.2
       walk_at "rd";refine ⟨_,SqT.of eq,rfl,_,_,rfl,_,_,rfl,rfl,?_⟩;refine ⟨o,p,t,m,ps,rs,r,par,dep,_,na,ka,ia,kl,bs,_,v,rfl,O11,vr,vn,hS,fun l H12 n12 s12 e12=>?_⟩;have O12:=O11.same s12;obtain ⟨dx',ob'⟩:=O12.ob;have nl:l≠ia:=fun z=>by rw [z,O11.hi] at n12;cases n12
       refine ⟨T.Outlook,dx',_,ob',T.bO,T.n_idle,_,xQ _ _ _ _,wW O12.hi vr.1 (by omega) (hN _ _ ⟨?_,?_,?_,_,_,_,(O12.put hna hka hkl (fun c hc=>⟨(hdp c hc).1.1,hda c hc⟩) bl vr.1 vr.2 hS e12 nl).sub (fun c hc=>?_) (fun u u0 u1 hu c hc=>?_),?_,?_,rfl⟩)⟩
       . exact fun b y hb nb=>by rw [ar (bh hb hia)];exact s12 _ _ (k11 b y hb nb)
       . rw [ar nlq];exact s12 _ _ e11
       . exact Paired.imp' (fun a b h=>by rw [ar (gm (s12 _ _ h) O12.hi (by intro z;cases z))];exact s12 _ _ h) pa11
       . rw [ed] at hc;exact List.mem_cons.mp hc
       . rw [ed];rw [ed] at hu;rcases List.mem_cons.mp hu with rfl|hu
         . exact List.mem_cons_of_mem _ (hS c hc)
         . exact List.mem_cons_of_mem _ (O11.cl u u0 u1 hu c hc)
       . rw [List.length_set];exact bl
       . intro c hc a' ha';rw [ed] at hc;by_cases e:c=v
         . subst e;rw [yg vr.1,List.getElem?_set_self (by omega)] at ha';cases ha';exact nl
         . have hc:=(List.mem_cons.mp hc).resolve_left e;have c0:=(hdp c hc).1.1;rw [yg c0,List.getElem?_set_ne (by omega),<- yg c0] at ha';exact hda c hc a' ha'
     . rintro BB σ H11 hBB ⟨k11,e11,pa11,bs,v4,v5,O11,bl,hda,rfl⟩;refine hBB _ _ ?_;have ql:qs.length=tl.reverse.length:=Paired.length pa11;rw [List.length_map,ql,List.length_reverse,Nat.sub_self,List.drop_zero] at O11;walk_at "rd";refine k na ka ia kl bs H11 (O11.sub (fun c hc=>?_) (fun u u0 u1 hu c hc=>?_)) k11
       . exact (Or.all c hc.1.1 hc.1.2).resolve_left hc.2
       . have w:=(dj g R u0 u1).mp hc;exact ⟨w.1,w.2.1⟩
/-- the needs,seen from r -/
abbrev Fe (m:Int) (rs:List Road) (r:Int) (par:Int->Int) (dep:Int->Nat) (xs:List Int):Int->Int:=gat m rs r par dep (fun v=>xs.getD v.toNat 0) (ned rs par)
def yw (T:Txt K mg):Sp:=fun vs H Q _=>∃ (p a t:Addr) (c:Bool) (m:Int) (ps:List Addr) (rs:List Road) (xs:List Int) (r:Int),vs=[.ref p,.ref a,.int r]/\WebAt T.Web H p m t ps rs/\SqX K c H a (xs.map V.int)/\aH m xs=true/\(0<=r/\r<m) /\
 ∃ par dep,Rooted m rs r par dep/\∀ l H',H l=none->Same H H'->H' l=some (.tup ((gld m rs r par dep (Fe m rs r par dep xs) r (-1)).map V.int))->Q (.ref l) H'
abbrev ci:Stmt:=top 38
theorem Fy:FnScope ["web","wish","r"] ["web","wish","r"] (aa ci):=FnScope.of (by kernel_rfl)
theorem y7:NmL (aa ci) "web":=.of (by kernel_rfl)
theorem xM:NmL (aa ci) "wish":=.of (by kernel_rfl)
theorem uL:NmL (aa ci) "r":=.of (by kernel_rfl)
theorem jw:NmG (aa ci) "tuple":=.of (by kernel_rfl)
theorem h8:NmG (aa ci) "greatest_load":=.of (by kernel_rfl)
theorem lK:NmG (aa ci) "Outlook":=.of (by kernel_rfl)
theorem E4 (T:Txt K mg) (hq:bc (CXe P w)) {f:Addr} {fd:FuncData} (D:Df K mg "failing" ci ["web","wish","r"] f fd) {f_Outlook___init__:Addr} {gS:FuncData} (F_Outlook___init__:Fun K "__init__" "Outlook.__init__" aA f_Outlook___init__ gS) (b_Outlook:Binds K gS ["self","web","wish","r"] []) (uh:Mk K T.Outlook f_Outlook___init__) (G_Outlook_init:FnOk P w K mg base (CXe P w) 56 f_Outlook___init__ gS ["self","web","wish","r"] (km T)) {bd:Addr} {bX:FuncData} (D_greatest_load:Df K mg "greatest_load" aB ["outlook","place","over"] bd bX) (G_greatest_load:FnOk P w K mg base (CXe P w) 54 bd bX ["outlook","place","over"] (jA T)):FnOk P w K mg base (CXe P w) 58 f fd ["web","wish","r"] (yw T):=by
 refine D.F.okC Fy (fun vs H Q E h=>?_) (fun cdv A outer s H vs Q E hr h=>?_)
 . obtain ⟨p,a,t,c,m,ps,rs,xs,r,rfl,_⟩:=h
   rfl
 . obtain ⟨p,a,t,c,m,ps,rs,xs,r,rfl,W,ha,fi,rr,par,dep,R,k⟩:=h;have m24:=W.go.m24;refine ⟨_,(aq (aO (f6 jh jw.g T.tuple rY (ag (ax G_greatest_load (hr.mono (by decide)) h8.g D_greatest_load.m D_greatest_load.F.kp D_greatest_load.b .nil (aK hq) (ag (EN uh G_Outlook_init (hr.mono (by decide)) lK.g T.GS b_Outlook .nil (aK hq) (ag (pvl 0 y7) (ag (pvl 1 xM) (ag (pvl 2 uL) aj))) (hdb:=lK.d)) (ag (pvl 2 uL) (ag (yi u8 ao) aj))) (hdb:=h8.d)) aj) (hn:=jw.n) (hdb:=jw.d)))),?_⟩;rw [show L2.start ["web","wish","r"] [V.ref p,V.ref a,V.int r]=[some (V.ref p),some (V.ref a),some (V.int r)] from rfl];walk_at "rd";intro o dx no ndx ne;have no1:upd H dx (.own o) o=none:=by rw [ar ne.symm];exact no
   have s0:Same H (upd (upd H dx (.own o)) o (.ins T.Outlook dx [])):=(Same.new _ ndx).trans (Same.new _ no1);refine ⟨o,dx,p,a,t,c,m,ps,rs,xs,r,rfl,ah,W.same s0,Same.sqX s0 ha,fi,rr,par,dep,R,fun na ka ia kl bs H1 O kp=>?_⟩;have s1:Same H H1:=fun b x hb=>kp b x (s0 b x hb) (bh hb no);refine ⟨rfl,?_⟩;refine ⟨o,p,t,m,ps,rs,r,par,dep,_,na,ka,ia,kl,bs,_,r,_,rfl,O,rr,by show m.toNat<=dep r+1+24;omega,fun c hc=>?_,fun l H2 n2 s2 h2=>?_⟩
   . have w:=(dj W.go R rr.1 rr.2).mp hc;exact ⟨w.1,w.2.1⟩
   . refine ⟨l,rfl,_,.inl ⟨SqL.of h2,fun l3 n3=>k l3 _ (s1.free (s2.free n3)) ((s1.trans s2).trans (Same.new _ n3)) ah⟩⟩
def sC (T:Txt K mg):Sp:=fun vs H Q E=>∃ (p a t:Addr) (c:Bool) (m:Int) (ps:List Addr) (rs:List Road) (xs:List Int),vs=[.ref p,.ref a]/\WebAt T.Web H p m t ps rs/\SqX K c H a (xs.map V.int)/\xs.length<=1000 /\
 (aH m xs=true->∀ H',Same H H'->Q (.bl (decide (xs.sum=0))) H')/\(aH m xs=false->∀ H',Same H H'->E (.ref T.BadWish) none H')
abbrev cM:Stmt:=top 37
theorem Fz:FnScope ["web","wish"] ["web","wish"] (aa cM):=FnScope.of (by kernel_rfl)
theorem zK:NmL (aa cM) "web":=.of (by kernel_rfl)
theorem yL:NmL (aa cM) "wish":=.of (by kernel_rfl)
theorem nW:NmG (aa cM) "total":=.of (by kernel_rfl)
theorem lL:NmG (aa cM) "wish_of":=.of (by kernel_rfl)
theorem FJ (T:Txt K mg) (hq:bc (CXe P w)) {f:Addr} {fd:FuncData} (D:Df K mg "is_idle" cM ["web","wish"] f fd) {c9:Addr} {eu:FuncData} (bR:Df K mg "total" ee ["numbers"] c9 eu) (G_total:FnOk P w K mg base (CXe P w) 1 c9 eu ["numbers"] (og T)) {d4:Addr} {j5:FuncData} (dE:Df K mg "wish_of" ck ["web","numbers"] d4 j5) (G_wish_of:FnOk P w K mg base (CXe P w) 2 d4 j5 ["web","numbers"] (rZ T)):FnOk P w K mg base (CXe P w) 3 f fd ["web","wish"] (sC T):=by
 refine D.F.okX Fz (fun vs H Q E h=>?_) (fun cdv A outer s H vs Q E hr h=>?_)
 . obtain ⟨p,a,t,c,m,ps,rs,xs,rfl,_⟩:=h
   rfl
 . obtain ⟨p,a,t,c,m,ps,rs,xs,rfl,W,ha,hz,k,e⟩:=h;refine ⟨_,(aq (aO (wc cT (ax G_total (hr.mono (by decide)) nW.g bR.m bR.F.kp bR.b .nil c6 (ag (ax G_wish_of (hr.mono (by decide)) lL.g dE.m dE.F.kp dE.b .nil c6 (ag (pvl 0 zK) (ag (pvl 1 yL) aj)) (hdb:=lL.d)) aj) (hdb:=nW.d)) ao (aN _)))),?_⟩;rw [show L2.start ["web","wish"] [V.ref p,V.ref a]=[some (V.ref p),some (V.ref a)] from rfl];walk_at "rd";refine ⟨p,a,t,c,m,ps,rs,xs,rfl,W,ha,hz,fun fi l H1 s1 h1=>?_,e⟩;refine ⟨l,_,rfl,.inr h1,?_⟩;refine ⟨rfl,?_⟩;rw [show decide (V.int xs.sum=V.int 0)=decide (xs.sum=0) by by_cases z:xs.sum=0 <;> simp [z]];exact k fi H1 s1
def xx (T:Txt K mg):Sp:=fun vs H Q E=>∃ (p a t:Addr) (c:Bool) (m:Int) (ps:List Addr) (rs:List Road) (xs:List Int),vs=[.ref p,.ref a]/\WebAt T.Web H p m t ps rs/\SqX K c H a (xs.map V.int)/\xs.length<=1000 /\
 (aH m xs=true->xs.sum≠0->∃ par dep,Rooted m rs (j7 m xs) par dep/\∀ l H',H l=none->Same H H'->H' l=some (.tup ((gld m rs (j7 m xs) par dep (Fe m rs (j7 m xs) par dep xs) (j7 m xs) (-1)).map V.int))->Q (.ref l) H') /\
 (aH m xs=false->∀ H',Same H H'->E (.ref T.BadWish) none H')/\(aH m xs=true->xs.sum=0->∀ H',Same H H'->E (.ref T.NoWorst) none H')
abbrev cG:Stmt:=top 36
theorem Dd:FnScope ["web","wish","wanted_at"] ["web","wish"] (aa cG):=FnScope.of (by kernel_rfl)
theorem mU:NmL (aa cG) "web":=.of (by kernel_rfl)
theorem tE:NmC (aa cG) "wish":=.of (by kernel_rfl)
theorem lO:NmL (aa cG) "wanted_at":=.of (by kernel_rfl)
theorem nM:NmG (aa cG) "is_idle":=.of (by kernel_rfl)
theorem mW:NmG (aa cG) "NoWorst":=.of (by kernel_rfl)
theorem zO:NmG (aa cG) "range":=.of (by kernel_rfl)
theorem mM:NmG (aa cG) "failing":=.of (by kernel_rfl)
theorem JV (T:Txt K mg) (hq:bc (CXe P w)) {f:Addr} {fd:FuncData} (D:Df K mg "fails" cG ["web","wish"] f fd) {iA:Addr} {yQ:FuncData} (jM:Df K mg "failing" ci ["web","wish","r"] iA yQ) (G_failing:FnOk P w K mg base (CXe P w) 58 iA yQ ["web","wish","r"] (yw T)) {d6:Addr} {ki:FuncData} (dC:Df K mg "is_idle" cM ["web","wish"] d6 ki) (G_is_idle:FnOk P w K mg base (CXe P w) 3 d6 ki ["web","wish"] (sC T)):FnOk P w K mg base (CXe P w) 59 f fd ["web","wish"] (xx T):=by
 refine D.F.okX Dd (fun vs H Q E h=>?_) (fun cdv A outer s H vs Q E hr h=>?_)
 . obtain ⟨p,a,t,c,m,ps,rs,xs,rfl,_⟩:=h
   rfl
 . obtain ⟨p,a,t,c,m,ps,rs,xs,rfl,W,ha,hz,k,e,e'⟩:=h;have g:=W.go;have m24:=g.m24;obtain ⟨dw,wb⟩:=W.ob;refine ⟨_,(ap (bB (qz (ax G_is_idle (hr.mono (by decide)) nM.g dC.m dC.F.kp dC.b .nil c6 (ag (pvl 0 mU) (ag (pvc 1 tE) aj)) (hdb:=nM.d))) (aq (rP T.GD rfl wd mW.g T.AG (ag yk aj) (hdb:=mW.d))) aP) (ap (FH (i:=2) Dd.nd rfl lO.l rfl (vR (Nc:=["place","wish"]) 1 [1] (by decide +kernel) rfl (by decide +kernel) rfl (by show ∀ (y:Str × NameKind),y∈_->y.2=NameKind.free->(aa cG).names.lookup y.1=some NameKind.cell;decide +kernel) rfl (fun _ h=>kI h) (fun i hi=>match i,hi with|0,_=>⟨"wish",1,rfl,rfl,rfl,by decide +kernel⟩|i+1,hi=>absurd hi (by show ¬ i+1<1;omega))) (vg zO.g T.range (ag (cS  (pvl 0 mU) rfl) aj)) (fun _ _ _ _=>(aY (i:=0) (show (["place","wish"]:List Str).Nodup from by decide +kernel) rfl (Or.inl rfl))) (fun _ _ _ _=>(zx (aJ Br (bQ (MF c K rfl) (pv 1) (pv 0) (fun _ _=>rfl)) ao (aN _)))) (fun _ _ _ _=>(pv 0))) (aq (aO (ax G_failing (hr.mono (by decide)) mM.g jM.m jM.F.kp jM.b .nil c6 (ag (pvl 0 mU) (ag (pvc 1 tE) (ag (bQ bW (pvl 2 lO) ao (fun _ _=>rfl)) aj))) (hdb:=mM.d)))))),?_⟩;rw [show L2.start ["web","wish","wanted_at"] [V.ref p,V.ref a]=[some (V.ref p),some (V.ref a),none] from rfl];walk_at "rd";refine ⟨p,a,t,c,m,ps,rs,xs,rfl,W,ha,hz,fun fi H1 s1=>?_,e⟩;refine ⟨_,rfl,?_⟩;by_cases z:xs.sum=0
   . rw [if_pos (by simpa using z)];exact ⟨by decide,e' fi z H1 s1⟩
   . rw [if_neg (by simpa using z)];obtain ⟨par,dep,R,k⟩:=k fi z;have xl:=mw fi;have nn:=lJ fi;obtain ⟨tl,etl,rr,x0⟩:=zi xl nn z;refine ⟨T.Web,dw,_,s1 _ _ wb,T.jf,T.n_many,_,jW _ _,m,rfl,by omega,by omega,fun pc npc=>?_⟩;have npc0:=s1.free npc;refine FZ (fun i zs σ H3=>Same H1 H3/\H3 pc=some (.lst zs)/\zs=((below i).filter fun v=>decide (0<xs.getD v.toNat 0)).map V.int/\∃ v,σ=[v,some (V.ref a)]) ⟨Same.new _ npc,ah,rfl,_,rfl⟩ ?_ ?_
     . rintro i zs σ H3 N hN hi ⟨s3,e3,rfl,v,rfl⟩;have ll:((below i).filter fun v=>decide (0<xs.getD v.toNat 0)).length<=24:=by
         have h1:=List.length_filter_le (fun v=>decide (0<xs.getD v.toNat 0)) (below i);rw [bx] at h1;omega
       walk_at "rd";rw [Int.zero_add];refine ixX (Same.sqX (s1.trans s3) ha) (atG (by omega) (by omega)) ⟨_,rfl,?_⟩;rw [show ((i:Int)).toNat=i from rfl];by_cases q:0<xs.getD i 0
       . rw [if_pos q];refine ⟨e3,dU (by rw [List.length_map];omega),hN _ _ _ ⟨s3.put npc _,ah,?_,_,rfl⟩⟩;rw [yp,List.filter_append,List.filter_cons_of_pos (by simpa using q),List.filter_nil,List.map_append]
         rfl
       . rw [if_neg q];refine hN _ _ _ ⟨s3,e3,?_,_,rfl⟩;rw [yp,List.filter_append,List.filter_cons_of_neg (by simpa using q),List.filter_nil,List.append_nil]
     . rintro zs σ H3 ⟨s3,e3,rfl,v,rfl⟩;rw [etl] at e3;have s13:=s1.trans s3;refine ixL (v:=V.int (j7 m xs)) e3 (gF (by decide) rfl) ?_;exact ⟨p,a,t,c,m,ps,rs,xs,_,rfl,W.same s13,Same.sqX s13 ha,fi,rr,par,dep,R,fun l H4 n4 s4 h4=>k l H4 (s13.free n4) (s13.trans s4) h4⟩
def vc (T:Txt K mg):Sp:=fun vs H Q E=>∃ (p a t:Addr) (c:Bool) (m:Int) (ps:List Addr) (rs:List Road) (xs:List Int),vs=[.ref p,.ref a]/\WebAt T.Web H p m t ps rs/\SqX K c H a (xs.map V.int)/\xs.length<=1000 /\
 (aH m xs=true->xs.sum≠0->∃ par dep,Rooted m rs (j7 m xs) par dep/\∀ H',Same H H'->Q (.int ((gld m rs (j7 m xs) par dep (Fe m rs (j7 m xs) par dep xs) (j7 m xs) (-1)).sum+1)) H') /\
 (aH m xs=true->xs.sum=0->∀ H',Same H H'->Q (.int 0) H')/\(aH m xs=false->∀ H',Same H H'->E (.ref T.BadWish) none H')
abbrev cY:Stmt:=top 35
theorem G7:FnScope ["web","wish"] ["web","wish"] (aa cY):=FnScope.of (by kernel_rfl)
theorem tf:NmL (aa cY) "web":=.of (by kernel_rfl)
theorem qF:NmL (aa cY) "wish":=.of (by kernel_rfl)
theorem mt:NmG (aa cY) "is_idle":=.of (by kernel_rfl)
theorem oY:NmG (aa cY) "total":=.of (by kernel_rfl)
theorem oJ:NmG (aa cY) "fails":=.of (by kernel_rfl)
theorem Hq (T:Txt K mg) (hq:bc (CXe P w)) {f:Addr} {fd:FuncData} (D:Df K mg "always" cY ["web","wish"] f fd) {gO:Addr} {mZ:FuncData} (fW:Df K mg "fails" cG ["web","wish"] gO mZ) (G_fails:FnOk P w K mg base (CXe P w) 59 gO mZ ["web","wish"] (xx T)) {d6:Addr} {ki:FuncData} (dC:Df K mg "is_idle" cM ["web","wish"] d6 ki) (G_is_idle:FnOk P w K mg base (CXe P w) 3 d6 ki ["web","wish"] (sC T)) {c9:Addr} {eu:FuncData} (bR:Df K mg "total" ee ["numbers"] c9 eu) (G_total:FnOk P w K mg base (CXe P w) 1 c9 eu ["numbers"] (og T)):FnOk P w K mg base (CXe P w) 60 f fd ["web","wish"] (vc T):=by
 refine D.F.okX G7 (fun vs H Q E h=>?_) (fun cdv A outer s H vs Q E hr h=>?_)
 . obtain ⟨p,a,t,c,m,ps,rs,xs,rfl,_⟩:=h
   rfl
 . obtain ⟨p,a,t,c,m,ps,rs,xs,rfl,W,ha,hz,k,e,e'⟩:=h;refine ⟨_,(ap (bB (qz (ax G_is_idle (hr.mono (by decide)) mt.g dC.m dC.F.kp dC.b .nil c6 (ag (pvl 0 tf) (ag (pvl 1 qF) aj)) (hdb:=mt.d))) (aq (aO ao)) aP) (aq (aO (au eX (ax G_total (hr.mono (by decide)) oY.g bR.m bR.F.kp bR.b .nil c6 (ag (ax G_fails (hr.mono (by decide)) oJ.g fW.m fW.F.kp fW.b .nil c6 (ag (pvl 0 tf) (ag (pvl 1 qF) aj)) (hdb:=oJ.d)) aj) (hdb:=oY.d)) ao)))),?_⟩;rw [show L2.start ["web","wish"] [V.ref p,V.ref a]=[some (V.ref p),some (V.ref a)] from rfl];walk_at "rd";refine ⟨p,a,t,c,m,ps,rs,xs,rfl,W,ha,hz,fun fi H1 s1=>?_,e'⟩;refine ⟨_,rfl,?_⟩;by_cases z:xs.sum=0
   . rw [if_pos (by simpa using z)];exact e fi z H1 s1
   . rw [if_neg (by simpa using z)];obtain ⟨par,dep,R,k⟩:=k fi z;refine ⟨p,a,t,c,m,ps,rs,xs,rfl,W.same s1,Same.sqX s1 ha,hz,fun _ _=>⟨par,dep,R,fun l H2 n2 s2 h2=>?_⟩,fun z=>(by rw [fi] at z;cases z),fun _ z'=>absurd z' z⟩;refine ⟨l,_,rfl,.inr (SqT.of h2),_,rfl,k H2 (s1.trans s2)⟩
def t7 (T:Txt K mg):Sp:=fun vs H Q E=>∃ (p a t:Addr) (c:Bool) (m:Int) (ps:List Addr) (rs:List Road) (xs:List Int) (r:Int),vs=[.ref p,.ref a,.int r]/\WebAt T.Web H p m t ps rs/\SqX K c H a (xs.map V.int)/\xs.length<=1000 /\
 (aH m xs=true->0<=r->r<m->∃ par dep,Rooted m rs r par dep/\∀ H',Same H H'->Q (.int (gat m rs r par dep (fun v=>xs.getD v.toNat 0) (ned rs par) r)) H') /\
 (aH m xs=false->∀ H',Same H H'->E (.ref T.BadWish) none H')/\(aH m xs=true->¬ (0<=r/\r<m)->∀ H',Same H H'->E (.ref T.NoPlace) none H')
abbrev b8:Stmt:=top 33
theorem CV:FnScope ["web","wish","v"] ["web","wish","v"] (aa b8):=FnScope.of (by kernel_rfl)
theorem wL:NmL (aa b8) "web":=.of (by kernel_rfl)
theorem wp:NmL (aa b8) "wish":=.of (by kernel_rfl)
theorem qO:NmL (aa b8) "v":=.of (by kernel_rfl)
theorem lM:NmG (aa b8) "needs":=.of (by kernel_rfl)
theorem BE (T:Txt K mg) (hq:bc (CXe P w)) {f:Addr} {fd:FuncData} (D:Df K mg "pile_need" b8 ["web","wish","v"] f fd) {gI:Addr} {nN:FuncData} (fX:Df K mg "needs" b9 ["web","wish","r"] gI nN) (G_needs:FnOk P w K mg base (CXe P w) 8 gI nN ["web","wish","r"] (xm T)):FnOk P w K mg base (CXe P w) 9 f fd ["web","wish","v"] (t7 T):=by
 refine D.F.okX CV (fun vs H Q E h=>?_) (fun cdv A outer s H vs Q E hr h=>?_)
 . obtain ⟨p,a,t,c,m,ps,rs,xs,r,rfl,_⟩:=h
   rfl
 . obtain ⟨p,a,t,c,m,ps,rs,xs,r,rfl,W,ha,hz,k,e,e'⟩:=h;refine ⟨_,(aq (aO (bQ bW (ax G_needs (hr.mono (by decide)) lM.g fX.m fX.F.kp fX.b .nil c6 (ag (pvl 0 wL) (ag (pvl 1 wp) (ag (pvl 2 qO) aj))) (hdb:=lM.d)) (pvl 2 qO) (fun _ _=>rfl)))),?_⟩;rw [show L2.start ["web","wish","v"] [V.ref p,V.ref a,V.int r]=[some (V.ref p),some (V.ref a),some (V.int r)] from rfl];walk_at "rd";refine ex9 p a t c m ps rs xs r ?_;refine an7 rfl W ha hz (fun fi r0 r1=>?_) e e';obtain ⟨par,dep,R,k⟩:=k fi r0 r1;refine ⟨par,dep,R,fun l H1 n1 s1 e1=>?_⟩;refine ixL e1 (atG r0 ?_) ?_
   . unfold wT;rw [List.length_map,bx];omega
   . rw [JI r0 r1];exact k H1 s1
theorem gj {K:PySem.W.Frag} {C C' Tl:Addr} (xe:XErr K Tl C) (x':XErr K Tl C') (ne:C'≠Tl) (n:C'≠C):Fj K C (.ref C') false:=by
 refine ⟨x'.x,?_⟩;rw [xe.mr,decide_eq_false ne,Bool.or_false,decide_eq_false n]
/-- the kinds that are told -/
def kdL (m:Int) (xs:List Int) (so r:Int):List Bool:=if aH m xs=false then [true,false,false,true,false] else if so=0/\¬ (0<=r/\r<m) then [false,true,false,true,false] else if so=2/\xs.sum=0 then [false,false,true,true,false] else []
def uP (T:Txt K mg):Sp:=fun vs H Q _=>∃ (p a t:Addr) (c:Bool) (m:Int) (ps:List Addr) (rs:List Road) (xs:List Int) (r so:Int),vs=[.int so,.ref p,.ref a,.int r]/\WebAt T.Web H p m t ps rs/\SqX K c H a (xs.map V.int)/\xs.length<=1000/\0<=so/\so<=2 /\
 ∀ l H',H l=none->Same H H'->H' l=some (.lst ((kdL m xs so r).map V.bl))->Q (.ref l) H'
abbrev aG:Stmt:=top 54
theorem iz:FnScope ["sort","web","wish","r","kinds","e"] ["sort","web","wish","r"] (aa aG):=FnScope.of (by kernel_rfl)
theorem ml:NmL (aa aG) "sort":=.of (by kernel_rfl)
theorem jo:NmL (aa aG) "web":=.of (by kernel_rfl)
theorem iV:NmL (aa aG) "wish":=.of (by kernel_rfl)
theorem zD:NmL (aa aG) "r":=.of (by kernel_rfl)
theorem dF:NmL (aa aG) "kinds":=.of (by kernel_rfl)
theorem d7:NmL (aa aG) "e":=.of (by kernel_rfl)
theorem i9:NmG (aa aG) "pile_need":=.of (by kernel_rfl)
theorem kn:NmG (aa aG) "always":=.of (by kernel_rfl)
theorem lI:NmG (aa aG) "fails":=.of (by kernel_rfl)
theorem je:NmG (aa aG) "TollError":=.of (by kernel_rfl)
theorem ay:NmG (aa aG) "isinstance":=.of (by kernel_rfl)
theorem q0:NmG (aa aG) "BadWish":=.of (by kernel_rfl)
theorem sP:NmG (aa aG) "NoPlace":=.of (by kernel_rfl)
theorem rT:NmG (aa aG) "NoWorst":=.of (by kernel_rfl)
theorem eP:NmG (aa aG) "ValueError":=.of (by kernel_rfl)
theorem pI:NmG (aa aG) "BadLaying":=.of (by kernel_rfl)
theorem tS:NmG (aa aG) "BadWeb":=.of (by kernel_rfl)
theorem tJ:NmG (aa aG) "NoRoad":=.of (by kernel_rfl)
theorem Cc (T:Txt K mg) (hq:bc (CXe P w)) {f:Addr} {fd:FuncData} (D:Df K mg "_law_kinds" aG ["sort","web","wish","r"] f fd) {fj:Addr} {lw:FuncData} (eJ:Df K mg "always" cY ["web","wish"] fj lw) (G_always:FnOk P w K mg base (CXe P w) 60 fj lw ["web","wish"] (vc T)) {gO:Addr} {mZ:FuncData} (fW:Df K mg "fails" cG ["web","wish"] gO mZ) (G_fails:FnOk P w K mg base (CXe P w) 59 gO mZ ["web","wish"] (xx T)) {fx:Addr} {ub:FuncData} (gK:Df K mg "pile_need" b8 ["web","wish","v"] fx ub) (G_pile_need:FnOk P w K mg base (CXe P w) 9 fx ub ["web","wish","v"] (t7 T)):FnOk P w K mg base (CXe P w) 61 f fd ["sort","web","wish","r"] (uP T):=by
 refine D.F.okC iz (fun vs H Q E h=>?_) (fun cdv A outer s H vs Q E hr h=>?_)
 . obtain ⟨p,a,t,c,m,ps,rs,xs,r,so,rfl,_⟩:=h
   rfl
 . obtain ⟨p,a,t,c,m,ps,rs,xs,r,so,rfl,W,ha,x1,so0,so2,k⟩:=h;refine ⟨_,(ap (aD (i:=4) iz.nd rfl (Or.inl dF.l) (bN aj)) (ap (Ol rfl rfl rfl (oj (Hi (aJ cT (pvl 0 ml) ao (aN _)) (oj (xA (wK G_pile_need (hr.mono (by decide)) i9.g gK.m gK.F.kp gK.b .nil (ag (pvl 1 jo) (ag (pvl 2 iV) (ag (pvl 3 zD) aj))) (hdb:=i9.d)))) (oj (Hi (aJ cT (pvl 0 ml) ao (aN _)) (oj (xA (wK G_always (hr.mono (by decide)) kn.g eJ.m eJ.F.kp eJ.b .nil (ag (pvl 1 jo) (ag (pvl 2 iV) aj)) (hdb:=kn.d)))) (oj (xA (wK G_fails (hr.mono (by decide)) lI.g fW.m fW.F.kp fW.b .nil (ag (pvl 1 jo) (ag (pvl 2 iV) aj)) (hdb:=lI.d)))))))) (OG (i:=5) T.DY.x je.g T.D5 iz.nd rfl d7.l (fun _=>(ap (aD (i:=4) iz.nd rfl (Or.inl dF.l) (bN (ag (bS (ou K rfl) ay.g T.isinstance gB (ag (pvl 5 d7) (ag (kE (v:=.ref T.BadWish) q0.g T.AK rfl) aj)) (hn:=ay.n) (hdb:=ay.d)) (ag (bS (ou K rfl) ay.g T.isinstance gB (ag (pvl 5 d7) (ag (kE (v:=.ref T.NoPlace) sP.g T.Al rfl) aj)) (hn:=ay.n) (hdb:=ay.d)) (ag (bS (ou K rfl) ay.g T.isinstance gB (ag (pvl 5 d7) (ag (kE (v:=.ref T.NoWorst) rT.g T.AG rfl) aj)) (hn:=ay.n) (hdb:=ay.d)) aj))))) (aq (aD (i:=4) iz.nd rfl (Or.inl dF.l) (au MS (pvl 4 dF) (bN (ag (bS (ou K rfl) ay.g T.isinstance gB (ag (pvl 5 d7) (ag (Ma (v:=.ty "ValueError") eP.g T.ValueError Be rfl (hn:=eP.n) (hd:=eP.d)) aj)) (hn:=ay.n) (hdb:=ay.d)) (ag (bS (Fo K rfl) ay.g T.isinstance gB (ag (pvl 5 d7) (ag (qM (ag (kE (v:=.ref T.BadLaying) pI.g T.D9 rfl) (ag (kE (v:=.ref T.BadWeb) tS.g T.Lg rfl) (ag (kE (v:=.ref T.NoRoad) tJ.g T.DI rfl) aj)))) aj)) (hn:=ay.n) (hdb:=ay.d)) aj)))))))) M5 (hdb:=je.d))) (aq (aO (pvl 4 dF))))),?_⟩;rw [show L2.start ["sort","web","wish","r","kinds","e"] [V.int so,V.ref p,V.ref a,V.int r]=[some (V.int so),some (V.ref p),some (V.ref a),some (V.int r),none,none] from rfl];have uW:T.BadWish≠T.TollError:=(cC T.ndx 5 0 rfl rfl (by decide));have vA:T.NoPlace≠T.TollError:=(cC T.ndx 2 0 rfl rfl (by decide));have vK:T.NoWorst≠T.TollError:=(cC T.ndx 6 0 rfl rfl (by decide));have pH:T.BadLaying≠T.TollError:=(cC T.ndx 4 0 rfl rfl (by decide));have wN:T.BadWeb≠T.TollError:=(cC T.ndx 1 0 rfl rfl (by decide));have wV:T.NoRoad≠T.TollError:=(cC T.ndx 3 0 rfl rfl (by decide));walk_at "rd";refine ⟨aR (by simp),fun l0 n0=>?_⟩;have s0:=Same.new (.lst []) n0;have x0:∀ (H':Hp) (B:Prop),Same (upd H l0 (.lst [])) H'->kdL m xs so r=[true,false,false,true,false]->(∃ C,Value.ref T.BadWish=Value.ref C/\∃ x,PySem.W.mroIn K C (Value.ref T.TollError)=some x/\if x=true then ∀ (ea:Addr),H' ea=none->iU K [V.ref ea,V.ref T.BadWish] (upd H' ea (ExO ea (.ref T.BadWish) none)) fun x H1=>iU K [V.ref ea,V.ref T.NoPlace] H1 fun x_1 H1=>iU K [V.ref ea,V.ref T.NoWorst] H1 fun x_2 H1=>[x,x_1,x_2].length<=sizeLine/\∀ (p:Addr),H1 p=none->iU K [V.ref ea,V.ty "ValueError"] (upd H1 p (HO.lst [x,x_1,x_2])) fun x H1=>[V.ref T.BadLaying,V.ref T.BadWeb,V.ref T.NoRoad].length<=sizeLine/\∀ (p_1:Addr),H1 p_1=none->xO K [V.ref ea,V.ref p_1] (upd H1 p_1 (HO.tup [V.ref T.BadLaying,V.ref T.BadWeb,V.ref T.NoRoad])) fun x_3 H1=>[x,x_3].length<=sizeLine/\∀ (p_2:Addr),H1 p_2=none->rCat (V.ref p) (V.ref p_2) (upd H1 p_2 (HO.lst [x,x_3])) Q else B):=by
     intro H' B s' ek;have xe:=T.oB;have lz:decide (T.BadWish=T.BadWish)=true:=decide_eq_true rfl;have lG:decide (T.NoPlace=T.BadWish)=false:=decide_eq_false (cC T.ndx 2 5 rfl rfl (by decide));have lD:decide (T.NoWorst=T.BadWish)=false:=decide_eq_false (cC T.ndx 6 5 rfl rfl (by decide));refine ⟨T.BadWish,rfl,true,by rw [xe.mr];simp,?_⟩;rw [if_pos rfl];intro ea ne;have he:upd H' ea (ExO ea (.ref T.BadWish) none) ea=some (ExO ea (.ref T.BadWish) none):=ah;have s2:=s'.trans (Same.new (ExO ea (.ref T.BadWish) none) ne);generalize upd H' ea (ExO ea (.ref T.BadWish) none)=H2 at he s2 ⊢;refine iR he trivial xe T.oB uW (iR he trivial xe T.oF vA (iR he trivial xe T.oz vK ⟨aR (by simp),fun p1 n1=>?_⟩));rw [lz,lG,lD];have t1:=Same.new (.lst [V.bl true,V.bl false,V.bl false]) n1;have f1:upd H2 p1 (.lst [V.bl true,V.bl false,V.bl false]) p1=some (.lst [V.bl true,V.bl false,V.bl false]):=ah;generalize upd H2 p1 (.lst [V.bl true,V.bl false,V.bl false])=H3 at t1 f1 ⊢;refine zo (t1 _ _ he) trivial xe ⟨aR (by simp),fun p2 n2=>?_⟩;have t2:=Same.new (.tup [V.ref T.BadLaying,V.ref T.BadWeb,V.ref T.NoRoad]) n2;refine ⟨ea,_,none,p2,_,[false,false,false],rfl,t2 _ _ (t1 _ _ he),trivial,xe.x,ah,.cons (gj xe T.py pH (cC T.ndx 4 5 rfl rfl (by decide))) (.cons (gj xe T.xa wN (cC T.ndx 1 5 rfl rfl (by decide))) (.cons (gj xe T.wO wV (cC T.ndx 3 5 rfl rfl (by decide))) .nil)),aR (by simp),fun p3 n3=>?_⟩;have f1':=t2 _ _ f1;have t12:=t1.trans t2;generalize upd H3 p2 (.tup [V.ref T.BadLaying,V.ref T.BadWeb,V.ref T.NoRoad])=H4 at t12 f1' n3 ⊢;have t3:=Same.new (.lst [V.bl true,V.bl ([false,false,false].any id)]) n3;refine II (t3 _ _ f1') ah (aR (by simp)) fun l nl=>?_;have t4:=(s0.trans s2).trans (t12.trans t3);refine k l _ (t4.free nl) (t4.trans (Same.new _ nl)) ?_;rw [ah,ek]
     rfl
   have xx1:∀ (H':Hp) (B:Prop),Same (upd H l0 (.lst [])) H'->kdL m xs so r=[false,true,false,true,false]->(∃ C,Value.ref T.NoPlace=Value.ref C/\∃ x,PySem.W.mroIn K C (Value.ref T.TollError)=some x/\if x=true then ∀ (ea:Addr),H' ea=none->iU K [V.ref ea,V.ref T.BadWish] (upd H' ea (ExO ea (.ref T.NoPlace) none)) fun x H1=>iU K [V.ref ea,V.ref T.NoPlace] H1 fun x_1 H1=>iU K [V.ref ea,V.ref T.NoWorst] H1 fun x_2 H1=>[x,x_1,x_2].length<=sizeLine/\∀ (p:Addr),H1 p=none->iU K [V.ref ea,V.ty "ValueError"] (upd H1 p (HO.lst [x,x_1,x_2])) fun x H1=>[V.ref T.BadLaying,V.ref T.BadWeb,V.ref T.NoRoad].length<=sizeLine/\∀ (p_1:Addr),H1 p_1=none->xO K [V.ref ea,V.ref p_1] (upd H1 p_1 (HO.tup [V.ref T.BadLaying,V.ref T.BadWeb,V.ref T.NoRoad])) fun x_3 H1=>[x,x_3].length<=sizeLine/\∀ (p_2:Addr),H1 p_2=none->rCat (V.ref p) (V.ref p_2) (upd H1 p_2 (HO.lst [x,x_3])) Q else B):=by
     intro H' B s' ek;have xe:=T.oF;have lz:decide (T.BadWish=T.NoPlace)=false:=decide_eq_false (cC T.ndx 5 2 rfl rfl (by decide));have lG:decide (T.NoPlace=T.NoPlace)=true:=decide_eq_true rfl;have lD:decide (T.NoWorst=T.NoPlace)=false:=decide_eq_false (cC T.ndx 6 2 rfl rfl (by decide));refine ⟨T.NoPlace,rfl,true,by rw [xe.mr];simp,?_⟩;rw [if_pos rfl];intro ea ne;have he:upd H' ea (ExO ea (.ref T.NoPlace) none) ea=some (ExO ea (.ref T.NoPlace) none):=ah;have s2:=s'.trans (Same.new (ExO ea (.ref T.NoPlace) none) ne);generalize upd H' ea (ExO ea (.ref T.NoPlace) none)=H2 at he s2 ⊢;refine iR he trivial xe T.oB uW (iR he trivial xe T.oF vA (iR he trivial xe T.oz vK ⟨aR (by simp),fun p1 n1=>?_⟩));rw [lz,lG,lD];have t1:=Same.new (.lst [V.bl false,V.bl true,V.bl false]) n1;have f1:upd H2 p1 (.lst [V.bl false,V.bl true,V.bl false]) p1=some (.lst [V.bl false,V.bl true,V.bl false]):=ah;generalize upd H2 p1 (.lst [V.bl false,V.bl true,V.bl false])=H3 at t1 f1 ⊢;refine zo (t1 _ _ he) trivial xe ⟨aR (by simp),fun p2 n2=>?_⟩;have t2:=Same.new (.tup [V.ref T.BadLaying,V.ref T.BadWeb,V.ref T.NoRoad]) n2;refine ⟨ea,_,none,p2,_,[false,false,false],rfl,t2 _ _ (t1 _ _ he),trivial,xe.x,ah,.cons (gj xe T.py pH (cC T.ndx 4 2 rfl rfl (by decide))) (.cons (gj xe T.xa wN (cC T.ndx 1 2 rfl rfl (by decide))) (.cons (gj xe T.wO wV (cC T.ndx 3 2 rfl rfl (by decide))) .nil)),aR (by simp),fun p3 n3=>?_⟩;have f1':=t2 _ _ f1;have t12:=t1.trans t2;generalize upd H3 p2 (.tup [V.ref T.BadLaying,V.ref T.BadWeb,V.ref T.NoRoad])=H4 at t12 f1' n3 ⊢;have t3:=Same.new (.lst [V.bl true,V.bl ([false,false,false].any id)]) n3;refine II (t3 _ _ f1') ah (aR (by simp)) fun l nl=>?_;have t4:=(s0.trans s2).trans (t12.trans t3);refine k l _ (t4.free nl) (t4.trans (Same.new _ nl)) ?_;rw [ah,ek]
     rfl
   have x2:∀ (H':Hp) (B:Prop),Same (upd H l0 (.lst [])) H'->kdL m xs so r=[false,false,true,true,false]->(∃ C,Value.ref T.NoWorst=Value.ref C/\∃ x,PySem.W.mroIn K C (Value.ref T.TollError)=some x/\if x=true then ∀ (ea:Addr),H' ea=none->iU K [V.ref ea,V.ref T.BadWish] (upd H' ea (ExO ea (.ref T.NoWorst) none)) fun x H1=>iU K [V.ref ea,V.ref T.NoPlace] H1 fun x_1 H1=>iU K [V.ref ea,V.ref T.NoWorst] H1 fun x_2 H1=>[x,x_1,x_2].length<=sizeLine/\∀ (p:Addr),H1 p=none->iU K [V.ref ea,V.ty "ValueError"] (upd H1 p (HO.lst [x,x_1,x_2])) fun x H1=>[V.ref T.BadLaying,V.ref T.BadWeb,V.ref T.NoRoad].length<=sizeLine/\∀ (p_1:Addr),H1 p_1=none->xO K [V.ref ea,V.ref p_1] (upd H1 p_1 (HO.tup [V.ref T.BadLaying,V.ref T.BadWeb,V.ref T.NoRoad])) fun x_3 H1=>[x,x_3].length<=sizeLine/\∀ (p_2:Addr),H1 p_2=none->rCat (V.ref p) (V.ref p_2) (upd H1 p_2 (HO.lst [x,x_3])) Q else B):=by
     intro H' B s' ek;have xe:=T.oz;have lz:decide (T.BadWish=T.NoWorst)=false:=decide_eq_false (cC T.ndx 5 6 rfl rfl (by decide));have lG:decide (T.NoPlace=T.NoWorst)=false:=decide_eq_false (cC T.ndx 2 6 rfl rfl (by decide));have lD:decide (T.NoWorst=T.NoWorst)=true:=decide_eq_true rfl;refine ⟨T.NoWorst,rfl,true,by rw [xe.mr];simp,?_⟩;rw [if_pos rfl];intro ea ne;have he:upd H' ea (ExO ea (.ref T.NoWorst) none) ea=some (ExO ea (.ref T.NoWorst) none):=ah;have s2:=s'.trans (Same.new (ExO ea (.ref T.NoWorst) none) ne);generalize upd H' ea (ExO ea (.ref T.NoWorst) none)=H2 at he s2 ⊢;refine iR he trivial xe T.oB uW (iR he trivial xe T.oF vA (iR he trivial xe T.oz vK ⟨aR (by simp),fun p1 n1=>?_⟩));rw [lz,lG,lD];have t1:=Same.new (.lst [V.bl false,V.bl false,V.bl true]) n1;have f1:upd H2 p1 (.lst [V.bl false,V.bl false,V.bl true]) p1=some (.lst [V.bl false,V.bl false,V.bl true]):=ah;generalize upd H2 p1 (.lst [V.bl false,V.bl false,V.bl true])=H3 at t1 f1 ⊢;refine zo (t1 _ _ he) trivial xe ⟨aR (by simp),fun p2 n2=>?_⟩;have t2:=Same.new (.tup [V.ref T.BadLaying,V.ref T.BadWeb,V.ref T.NoRoad]) n2;refine ⟨ea,_,none,p2,_,[false,false,false],rfl,t2 _ _ (t1 _ _ he),trivial,xe.x,ah,.cons (gj xe T.py pH (cC T.ndx 4 6 rfl rfl (by decide))) (.cons (gj xe T.xa wN (cC T.ndx 1 6 rfl rfl (by decide))) (.cons (gj xe T.wO wV (cC T.ndx 3 6 rfl rfl (by decide))) .nil)),aR (by simp),fun p3 n3=>?_⟩;have f1':=t2 _ _ f1;have t12:=t1.trans t2;generalize upd H3 p2 (.tup [V.ref T.BadLaying,V.ref T.BadWeb,V.ref T.NoRoad])=H4 at t12 f1' n3 ⊢;have t3:=Same.new (.lst [V.bl true,V.bl ([false,false,false].any id)]) n3;refine II (t3 _ _ f1') ah (aR (by simp)) fun l nl=>?_;have t4:=(s0.trans s2).trans (t12.trans t3);refine k l _ (t4.free nl) (t4.trans (Same.new _ nl)) ?_;rw [ah,ek]
     rfl
   have good:∀ H',Same (upd H l0 (.lst [])) H'->kdL m xs so r=[]->Q (.ref l0) H':=fun H' s' ek=>k l0 H' n0 (s0.trans s') (by rw [ek];exact s' _ _ ah);have kn0:aH m xs=false->kdL m xs so r=[true,false,false,true,false]:=fun z=>by unfold kdL;rw [if_pos z]
   have kn1:aH m xs=true->so=0->¬ (0<=r/\r<m)->kdL m xs so r=[false,true,false,true,false]:=fun z z1 z2=>by unfold kdL;rw [if_neg (by rw [z];decide),if_pos ⟨z1,z2⟩]
   have kn2:aH m xs=true->so=2->xs.sum=0->kdL m xs so r=[false,false,true,true,false]:=fun z z1 z2=>by unfold kdL;rw [if_neg (by rw [z];decide),if_neg (fun q=>by omega),if_pos ⟨z1,z2⟩]
   have kn3:aH m xs=true->(so=0->0<=r/\r<m)->(so=2->xs.sum≠0)->kdL m xs so r=[]:=fun z z1 z2=>by unfold kdL;rw [if_neg (by rw [z];decide),if_neg (fun q=>q.2 (z1 q.1)),if_neg (fun q=>z2 q.1 q.2)]
   have W0:=W.same s0;have h0:=Same.sqX s0 ha;by_cases c0:so=0
   . rw [if_pos c0];refine ⟨p,a,t,c,m,ps,rs,xs,r,rfl,W0,h0,x1,fun fi r0 r1=>?_,fun fi H' s'=>x0 H' _ s' (kn0 fi),fun fi nr H' s'=>xx1 H' _ s' (kn1 fi c0 nr)⟩;obtain ⟨par,dep,R⟩:=uG W.go r0 r1;exact ⟨par,dep,R,fun H' s'=>good H' s' (kn3 fi (fun _=>⟨r0,r1⟩) (fun z=>by omega))⟩
   . rw [if_neg c0];by_cases c1:so=1
     . rw [if_pos c1];refine ⟨p,a,t,c,m,ps,rs,xs,rfl,W0,h0,x1,fun fi z=>?_,fun fi z H' s'=>good H' s' (kn3 fi (fun z=>absurd z c0) (fun z=>by omega)),fun fi H' s'=>x0 H' _ s' (kn0 fi)⟩;obtain ⟨_,_,rr,_⟩:=zi (mw fi) (lJ fi) z;obtain ⟨par,dep,R⟩:=uG W.go rr.1 rr.2;exact ⟨par,dep,R,fun H' s'=>good H' s' (kn3 fi (fun z=>absurd z c0) (fun z=>by omega))⟩
     . rw [if_neg c1];refine ⟨p,a,t,c,m,ps,rs,xs,rfl,W0,h0,x1,fun fi z=>?_,fun fi H' s'=>x0 H' _ s' (kn0 fi),fun fi z H' s'=>x2 H' _ s' (kn2 fi (by omega) z)⟩;obtain ⟨_,_,rr,_⟩:=zi (mw fi) (lJ fi) z;obtain ⟨par,dep,R⟩:=uG W.go rr.1 rr.2;exact ⟨par,dep,R,fun l H' _ s' _=>good H' s' (kn3 fi (fun z=>absurd z c0) (fun _=>z))⟩
def sY (T:Txt K mg):Sp:=fun vs H Q _=>∃ (a:Addr) (xs:List Int) (m c:Int),vs=[.ref a,.int c]/\H a=some (.lst (xs.map V.int))/\(xs.length:Int)=m/\1<=m/\m<=24/\∀ l (zs:List Int) H',H l=none->Same H H'->H' l=some (.lst (zs.map V.int))->zs.length<=1000->((zs.length:Int)≠m\/∃ z∈zs,z<0)->Q (.ref l) H'
theorem Ha (xs:List Int) (i:Nat):(xs.map V.int).eraseIdx i=(xs.eraseIdx i).map V.int:=by
 rw [List.eraseIdx_eq_take_drop_succ,List.eraseIdx_eq_take_drop_succ,List.map_append,List.map_take,List.map_drop]
abbrev bC:Stmt:=top 53
theorem jk:FnScope ["numbers","cell","at","made"] ["numbers","cell"] (aa bC):=FnScope.of (by kernel_rfl)
theorem jN:NmL (aa bC) "numbers":=.of (by kernel_rfl)
theorem b3:NmL (aa bC) "cell":=.of (by kernel_rfl)
theorem eF:NmL (aa bC) "at":=.of (by kernel_rfl)
theorem b5:NmL (aa bC) "made":=.of (by kernel_rfl)
theorem iX:NmG (aa bC) "len":=.of (by kernel_rfl)
theorem iB:NmG (aa bC) "list":=.of (by kernel_rfl)
theorem AW (T:Txt K mg) (hq:bc (CXe P w)) {f:Addr} {fd:FuncData} (D:Df K mg "_law_spoilt" bC ["numbers","cell"] f fd):FnOk P w K mg base (CXe P w) 1 f fd ["numbers","cell"] (sY T):=by
 refine D.F.okC jk (fun vs H Q E h=>?_) (fun cdv A outer s H vs Q E hr h=>?_)
 . obtain ⟨a,xs,m,c,rfl,_⟩:=h
   rfl
 . obtain ⟨a,xs,m,c,rfl,ha,xl,m1,m24,k⟩:=h;have p40:(0:Int)<10^Int.toNat 40:=Int.pow_pos (by decide);refine ⟨_,(ap (aD (i:=2) jk.nd rfl (Or.inl eF.l) (au aZ (au cq (pvl 1 b3) ao) (bS eE iX.g T.len lx (ag (pvl 0 jN) aj) (hn:=iX.n) (hdb:=iX.d)))) (ap (aD (i:=3) jk.nd rfl (Or.inl b5.l) (f6 jX iB.g T.list vU (ag (pvl 0 jN) aj) (hn:=iB.n) (hdb:=iB.d))) (ap (bB (aJ cT (au aZ (pvl 1 b3) ao) ao (aN _)) (aq (cw (lm PySem.F.plainAttrs_list PySem.F.slot_list_pop PySem.F.type_list_pop Kp (pvl 3 b5) (ag (pvl 2 eF) aj)))) aP) (ap (bB (aJ cT (au aZ (pvl 1 b3) ao) ao (aN _)) (aq (cw (lm PySem.F.plainAttrs_list PySem.F.slot_list_insert PySem.F.type_list_insert Av (pvl 3 b5) (ag (pvl 2 eF) (ag ao aj))))) aP) (ap (bB (aJ cT (au aZ (pvl 1 b3) ao) ao (aN _)) (aq (aD (i:=3) jk.nd rfl (Or.inl b5.l) (bN aj))) aP) (ap (bB (aJ cT (au aZ (pvl 1 b3) ao) ao (aN _)) (aq (nF (yi u8 ao) (qC (pvl 3 b5) (pvl 2 eF) iE))) aP) (ap (bB (aJ cT (au aZ (pvl 1 b3) ao) ao (aN _)) (aq (nF (au lr (yi u8 ao) (au aZ (au cq (pvl 1 b3) ao) (au ip ao ao))) (qC (pvl 3 b5) (pvl 2 eF) iE))) aP) (aq (aO (pvl 3 b5)))))))))),?_⟩;rw [show L2.start ["numbers","cell","at","made"] [V.ref a,V.int c]=[some (V.ref a),some (V.int c),none,none] from rfl];refine bM fun N1 h1=>?_;walk_at "rd";refine ⟨⟨by decide,by decide⟩,_,.inl (SqL.of ha),?_⟩;rw [List.length_map];have j0:=Int.emod_nonneg (c / 5) (show (xs.length:Int)≠0 by omega);have j1:=Int.emod_lt_of_pos (c / 5) (show 0<(xs.length:Int) by omega);generalize c / 5 % (xs.length:Int)=j at j0 j1 ⊢;refine ⟨by omega,h1 _ _ (bM fun N2 h2=>?_)⟩;walk_at "rd";refine ⟨_,.inl (SqL.of ha),fun l nl=>h2 _ _ ?_⟩;have s1:=Same.new (.lst (xs.map V.int)) nl;have el:upd H l (.lst (xs.map V.int)) l=some (.lst (xs.map V.int)):=ah;generalize upd H l (.lst (xs.map V.int))=H1 at s1 el ⊢;have mx:(xs.set j.toNat (-1)).length=xs.length:=List.length_set;have jl:j.toNat<xs.length:=by omega
   rcases (show c % 5=0\/c % 5=1\/c % 5=2\/c % 5=3\/c % 5=4 by omega) with z|z|z|z|z
   . refine bM fun N10 M10=>?_;walk_at "rd";refine ⟨by decide,?_⟩;rw [if_pos z];refine ⟨tyL el,l,xs.map V.int,j,j.toNat,V.int (xs.getD j.toNat 0),rfl,rfl,el,by omega,by omega,seqIndex_of j0 (by rw [List.length_map];exact j1),by rw [List.getElem?_map,List.getD,List.getElem?_eq_getElem jl];rfl,M10 _ _ ?_⟩;have e2:upd H1 l (.lst ((xs.map V.int).eraseIdx j.toNat)) l=some (.lst ((xs.eraseIdx j.toNat).map V.int)):=(by rw [ah,Ha]);have s2:=s1.put nl (.lst ((xs.map V.int).eraseIdx j.toNat));have zl:(xs.eraseIdx j.toNat).length=xs.length - 1:=List.length_eraseIdx_of_lt jl;have nf:(((xs.eraseIdx j.toNat).length:Int)≠m\/∃ z∈(xs.eraseIdx j.toNat),z<0):=.inl (by omega);have zb:(xs.eraseIdx j.toNat).length<=1000:=(by omega);generalize xs.eraseIdx j.toNat=zs at e2 nf zb;generalize upd H1 l (.lst ((xs.map V.int).eraseIdx j.toNat))=H2 at e2 s2 ⊢;have nl2:=nl;refine bM fun N11 M11=>?_;walk_at "rd";refine ⟨by decide,?_⟩;rw [if_neg (by omega)];refine M11 _ _ ?_;refine bM fun N12 M12=>?_;walk_at "rd";refine ⟨by decide,?_⟩;rw [if_neg (by omega)];refine M12 _ _ ?_;refine bM fun N13 M13=>?_;walk_at "rd";refine ⟨by decide,?_⟩;rw [if_neg (by omega)];refine M13 _ _ ?_;refine bM fun N14 M14=>?_;walk_at "rd";refine ⟨by decide,?_⟩;rw [if_neg (by omega)];refine M14 _ _ ?_;walk_at "rd";exact k _ zs H2 nl2 s2 e2 zb nf
   . refine bM fun N10 M10=>?_;walk_at "rd";refine ⟨by decide,?_⟩;rw [if_neg (by omega)];refine M10 _ _ ?_;refine bM fun N11 M11=>?_;walk_at "rd";refine ⟨by decide,?_⟩;rw [if_pos z];refine ⟨tyL el,Na el j0 (by rw [List.length_map];omega) (dU (by rw [List.length_map];omega)) (M11 _ _ ?_)⟩;have e2:upd H1 l (.lst ((xs.map V.int).take j.toNat++V.int 0::(xs.map V.int).drop j.toNat)) l=some (.lst ((xs.take j.toNat++0::xs.drop j.toNat).map V.int)):=(by rw [ah,List.map_append,List.map_cons,List.map_take,List.map_drop]);have s2:=s1.put nl (.lst ((xs.map V.int).take j.toNat++V.int 0::(xs.map V.int).drop j.toNat));have zl:(xs.take j.toNat++0::xs.drop j.toNat).length=xs.length+1:=(by rw [List.length_append,List.length_cons,List.length_take,List.length_drop];omega);have nf:(((xs.take j.toNat++0::xs.drop j.toNat).length:Int)≠m\/∃ z∈(xs.take j.toNat++0::xs.drop j.toNat),z<0):=.inl (by omega);have zb:(xs.take j.toNat++0::xs.drop j.toNat).length<=1000:=(by omega);generalize xs.take j.toNat++0::xs.drop j.toNat=zs at e2 nf zb;generalize upd H1 l (.lst ((xs.map V.int).take j.toNat++V.int 0::(xs.map V.int).drop j.toNat))=H2 at e2 s2 ⊢;have nl2:=nl;refine bM fun N12 M12=>?_;walk_at "rd";refine ⟨by decide,?_⟩;rw [if_neg (by omega)];refine M12 _ _ ?_;refine bM fun N13 M13=>?_;walk_at "rd";refine ⟨by decide,?_⟩;rw [if_neg (by omega)];refine M13 _ _ ?_;refine bM fun N14 M14=>?_;walk_at "rd";refine ⟨by decide,?_⟩;rw [if_neg (by omega)];refine M14 _ _ ?_;walk_at "rd";exact k _ zs H2 nl2 s2 e2 zb nf
   . refine bM fun N10 M10=>?_;walk_at "rd";refine ⟨by decide,?_⟩;rw [if_neg (by omega)];refine M10 _ _ ?_;refine bM fun N11 M11=>?_;walk_at "rd";refine ⟨by decide,?_⟩;rw [if_neg (by omega)];refine M11 _ _ ?_;refine bM fun N12 M12=>?_;walk_at "rd";refine ⟨by decide,?_⟩;rw [if_pos z];refine ⟨aR (by simp),fun l2 n2=>M12 _ _ ?_⟩;have e2:upd H1 l2 (.lst []) l2=some (.lst (([]:List Int).map V.int)):=ah;have s2:=s1.trans (Same.new (.lst []) n2);have nf:((([]:List Int).length:Int)≠m\/∃ z∈([]:List Int),z<0):=.inl (by simp;omega);have zb:([]:List Int).length<=1000:=(by simp);generalize ([]:List Int)=zs at e2 nf zb;have nl2:=s1.free n2;generalize upd H1 l2 (.lst [])=H2 at e2 s2 ⊢;clear nl el;refine bM fun N13 M13=>?_;walk_at "rd";refine ⟨by decide,?_⟩;rw [if_neg (by omega)];refine M13 _ _ ?_;refine bM fun N14 M14=>?_;walk_at "rd";refine ⟨by decide,?_⟩;rw [if_neg (by omega)];refine M14 _ _ ?_;walk_at "rd";exact k _ zs H2 nl2 s2 e2 zb nf
   . refine bM fun N10 M10=>?_;walk_at "rd";refine ⟨by decide,?_⟩;rw [if_neg (by omega)];refine M10 _ _ ?_;refine bM fun N11 M11=>?_;walk_at "rd";refine ⟨by decide,?_⟩;rw [if_neg (by omega)];refine M11 _ _ ?_;refine bM fun N12 M12=>?_;walk_at "rd";refine ⟨by decide,?_⟩;rw [if_neg (by omega)];refine M12 _ _ ?_;refine bM fun N13 M13=>?_;walk_at "rd";refine ⟨by decide,?_⟩;rw [if_pos z];refine wW el j0 (by rw [List.length_map];omega) (M13 _ _ ?_);have e2:upd H1 l (.lst ((xs.map V.int).set j.toNat (V.int (-1)))) l=some (.lst ((xs.set j.toNat (-1)).map V.int)):=(by rw [ah,List.map_set]);have s2:=s1.put nl (.lst ((xs.map V.int).set j.toNat (V.int (-1))));have nf:(((xs.set j.toNat (-1)).length:Int)≠m\/∃ z∈(xs.set j.toNat (-1)),z<0):=.inr ⟨_,List.mem_set jl _,(by decide)⟩;have zb:(xs.set j.toNat (-1)).length<=1000:=(by rw [List.length_set];omega);generalize xs.set j.toNat (-1)=zs at e2 nf zb;generalize upd H1 l (.lst ((xs.map V.int).set j.toNat (V.int (-1))))=H2 at e2 s2 ⊢;have nl2:=nl;refine bM fun N14 M14=>?_;walk_at "rd";refine ⟨by decide,?_⟩;rw [if_neg (by omega)];refine M14 _ _ ?_;walk_at "rd";exact k _ zs H2 nl2 s2 e2 zb nf
   . refine bM fun N10 M10=>?_;walk_at "rd";refine ⟨by decide,?_⟩;rw [if_neg (by omega)];refine M10 _ _ ?_;refine bM fun N11 M11=>?_;walk_at "rd";refine ⟨by decide,?_⟩;rw [if_neg (by omega)];refine M11 _ _ ?_;refine bM fun N12 M12=>?_;walk_at "rd";refine ⟨by decide,?_⟩;rw [if_neg (by omega)];refine M12 _ _ ?_;refine bM fun N13 M13=>?_;walk_at "rd";refine ⟨by decide,?_⟩;rw [if_neg (by omega)];refine M13 _ _ ?_;refine bM fun N14 M14=>?_;walk_at "rd";refine ⟨by decide,?_⟩;rw [if_pos z];refine ⟨⟨by decide,by decide⟩,⟨by decide,by decide,by decide⟩,p40,?_⟩;have w0:=Int.emod_nonneg (c / 120) (Int.ne_of_gt p40);have wn:-1 - c / 120 % 10^Int.toNat 40<0:=(by omega);generalize -1 - c / 120 % 10^Int.toNat 40=w at wn ⊢;refine wW el j0 (by rw [List.length_map];omega) (M14 _ _ ?_);have e2:upd H1 l (.lst ((xs.map V.int).set j.toNat (V.int w))) l=some (.lst ((xs.set j.toNat w).map V.int)):=(by rw [ah,List.map_set]);have s2:=s1.put nl (.lst ((xs.map V.int).set j.toNat (V.int w)));have nf:(((xs.set j.toNat w).length:Int)≠m\/∃ z∈(xs.set j.toNat w),z<0):=.inr ⟨_,List.mem_set jl _,wn⟩;have zb:(xs.set j.toNat w).length<=1000:=(by rw [List.length_set];omega);generalize xs.set j.toNat w=zs at e2 nf zb;generalize upd H1 l (.lst ((xs.map V.int).set j.toNat (V.int w)))=H2 at e2 s2 ⊢;have nl2:=nl;walk_at "rd";exact k _ zs H2 nl2 s2 e2 zb nf
def wx (T:Txt K mg):Sp:=fun vs H Q _=>∃ (c:Int),vs=[.int c]/\∀ t,2<=t->t<=1000000->Q (.int t) H
abbrev d0:Stmt:=top 47
theorem Eg:FnScope ["part"] ["part"] (aa d0):=FnScope.of (by kernel_rfl)
theorem jv:NmL (aa d0) "part":=.of (by kernel_rfl)
theorem Ek (T:Txt K mg) (hq:bc (CXe P w)) {f:Addr} {fd:FuncData} (D:Df K mg "_law_toll" d0 ["part"] f fd):FnOk P w K mg base (CXe P w) 1 f fd ["part"] (wx T):=by
 refine D.F.okC Eg (fun vs H Q E h=>?_) (fun cdv A outer s H vs Q E hr h=>?_)
 . obtain ⟨c,rfl,_⟩:=h
   rfl
 . obtain ⟨c,rfl,k⟩:=h;refine ⟨_,(ap (bB (aJ cT (au aZ (pvl 0 jv) ao) ao (aN _)) (aq (aO (au eX ao (au aZ (au cq (pvl 0 jv) ao) (au lr (au ip ao ao) ao))))) aP) (aq (aO (au eX ao (au aZ (au cq (pvl 0 jv) ao) ao))))),?_⟩;rw [show L2.start ["part"] [V.int c]=[some (V.int c)] from rfl];walk_at "rd";have e6:(10:Int)^Int.toNat 6 - 1=999999:=by decide
   have a1:=Int.emod_nonneg (c / 8) (show (999999:Int)≠0 by decide);have a2:=Int.emod_lt_of_pos (c / 8) (show (0:Int)<999999 by decide);have a3:=Int.emod_nonneg (c / 8) (show (4:Int)≠0 by decide);have a4:=Int.emod_lt_of_pos (c / 8) (show (0:Int)<4 by decide);refine ⟨by decide,?_⟩;by_cases z:c % 8=7
   . rw [if_pos z];refine ⟨⟨by decide,by decide⟩,⟨by decide,by decide,by decide⟩,by decide,?_⟩;rw [e6];exact k _ (by omega) (by omega)
   . rw [if_neg z];exact ⟨⟨by decide,by decide⟩,by decide,k _ (by omega) (by omega)⟩
def uj (T:Txt K mg):Sp:=fun vs H Q _=>∃ (a:Addr) (ns:List Int) (m s:Int),vs=[.ref a,.int m,.int s]/\SqL K H a (ns.map V.int)/\1<=m/\m<=24/\0<=s/\s<4 /\
 ∀ (l:Addr) (ps:List Addr) (rs:List Road) (H':Hp),H l=none->Same H H'->H' l=some (.lst (ps.map V.ref))->RoadsAt H' ps rs->Good m rs->Q (.ref l) H'
abbrev aX:Stmt:=top 48
theorem cW:FnScope ["script","many","shape","roads","k","part","to","there","back"] ["script","many","shape"] (aa aX):=FnScope.of (by kernel_rfl)
theorem tU:NmL (aa aX) "script":=.of (by kernel_rfl)
theorem wk:NmL (aa aX) "many":=.of (by kernel_rfl)
theorem ul:NmL (aa aX) "shape":=.of (by kernel_rfl)
theorem eW:NmL (aa aX) "roads":=.of (by kernel_rfl)
theorem cH:NmL (aa aX) "k":=.of (by kernel_rfl)
theorem bH:NmL (aa aX) "part":=.of (by kernel_rfl)
theorem kg:NmL (aa aX) "to":=.of (by kernel_rfl)
theorem eY:NmL (aa aX) "there":=.of (by kernel_rfl)
theorem fE:NmL (aa aX) "back":=.of (by kernel_rfl)
theorem uy:NmG (aa aX) "range":=.of (by kernel_rfl)
theorem jc:NmG (aa aX) "_law_drawn":=.of (by kernel_rfl)
theorem dP:NmG (aa aX) "_law_toll":=.of (by kernel_rfl)
theorem Cp (T:Txt K mg) (hq:bc (CXe P w)) {f:Addr} {fd:FuncData} (D:Df K mg "_law_roads" aX ["script","many","shape"] f fd) {ba:Addr} {bA:FuncData} (az:Df K mg "_law_drawn" be ["script","k"] ba bA) (G_law_drawn:FnOk P w K mg base (CXe P w) 1 ba bA ["script","k"] (fT T)) {gd:Addr} {wv:FuncData} (dZ:Df K mg "_law_toll" d0 ["part"] gd wv) (G_law_toll:FnOk P w K mg base (CXe P w) 1 gd wv ["part"] (wx T)):FnOk P w K mg base (CXe P w) 2 f fd ["script","many","shape"] (uj T):=by
 refine D.F.okC cW (fun vs H Q E h=>?_) (fun cdv A outer s H vs Q E hr h=>?_)
 . obtain ⟨a,ns,m,s,rfl,_⟩:=h
   rfl
 . obtain ⟨a,ns,m,sh,rfl,ha,m1,m24,sh0,sh4,k⟩:=h;refine ⟨_,(ap (aD (i:=3) cW.nd rfl (Or.inl eW.l) (bN aj)) (ap (eK PassesOwn.never rfl (AH uy.g T.range (ag ao (ag (pvl 1 wk) aj))) (aY (i:=4) cW.nd rfl (Or.inl cH.l)) (ap (aD (i:=5) cW.nd rfl (Or.inl bH.l) (ax G_law_drawn (hr.mono (by decide)) jc.g az.m az.F.kp az.b .nil (aK hq) (ag (pvl 0 tU) (ag (pvl 4 cH) aj)) (hdb:=jc.d))) (ap (aD (i:=6) cW.nd rfl (Or.inl kg.l) (bQ bW (bN (ag (au aZ (pvl 5 bH) (pvl 4 cH)) (ag (au lr (pvl 4 cH) ao) (ag ao (ag (au aZ (pvl 5 bH) (pvl 4 cH)) aj))))) (pvl 2 ul) (fun _ _=>rfl))) (ap (aD (i:=5) cW.nd rfl (Or.inl bH.l) (au cq (pvl 5 bH) (pvl 4 cH))) (ap (aD (i:=7) cW.nd rfl (Or.inl eY.l) (ax G_law_toll (hr.mono (by decide)) dP.g dZ.m dZ.F.kp dZ.b .nil (aK hq) (ag (au aZ (pvl 5 bH) (au ip ao ao)) aj) (hdb:=dP.d))) (ap (aD (i:=8) cW.nd rfl (Or.inl fE.l) (ax G_law_toll (hr.mono (by decide)) dP.g dZ.m dZ.F.kp dZ.b .nil (aK hq) (ag (au aZ (au cq (pvl 5 bH) (au ip ao ao)) (au ip ao ao)) aj) (hdb:=dP.d))) (ap (bB (aJ cT (au aZ (au B8 (pvl 5 bH) (au ip ao ao)) ao) ao (aN _)) (aq (aD (i:=8) cW.nd rfl (Or.inl fE.l) (pvl 7 eY))) aP) (aq (bB (aJ cT (au aZ (au B8 (pvl 5 bH) (au ip ao ao)) ao) ao (aN _)) (aq (cw (lm PySem.F.plainAttrs_list PySem.F.slot_list_append PySem.F.type_list_append eZ (pvl 3 eW) (ag (qM (ag (pvl 6 kg) (ag (pvl 4 cH) (ag (pvl 7 eY) (ag (pvl 8 fE) aj))))) aj)))) (aq (cw (lm PySem.F.plainAttrs_list PySem.F.slot_list_insert PySem.F.type_list_insert Av (pvl 3 eW) (ag ao (ag (qM (ag (pvl 4 cH) (ag (pvl 6 kg) (ag (pvl 8 fE) (ag (pvl 7 eY) aj))))) aj)))))))))))))) (aq (aO (pvl 3 eW))))),?_⟩;rw [show L2.start ["script","many","shape","roads","k","part","to","there","back"] [V.ref a,V.int m,V.int sh]=[some (V.ref a),some (V.int m),some (V.int sh),none,none,none,none,none,none] from rfl];walk_at "rd";refine ⟨by decide,fun lo nlo=>⟨1,m,⟨rfl,rfl⟩,⟨by decide,by decide,by omega,by omega⟩,?_⟩⟩;refine sq (fun i σ H3=>∃ (ps:List Addr) (rs:List Road) (rows:List Row) (v4 v5 v6 v7 v8:Option V),σ=[some (V.ref a),some (V.int m),some (V.int sh),some (V.ref lo),v4,v5,v6,v7,v8]/\Same H H3/\H3 lo=some (.lst (ps.map V.ref))/\RoadsAt H3 ps rs/\Rows i rows/\Put (below m.toNat) rows rs) ⟨[],[],[],_,_,_,_,_,rfl,Same.new _ nlo,ah,.nil,⟨rfl,fun i r h=>by cases h⟩,Put.nil _⟩ ?_ ?_
   . rintro i σ H3 N hN hi ⟨ps,rs,rows,v4,v5,v6,v7,v8,rfl,s3,hl3,ro3,R,P⟩;have k0:(1:Int)<=1+(i:Int):=(by omega);have k1:1+(i:Int)<m:=(by omega);generalize hk:(1:Int)+(i:Int)=kk at k0 k1 ⊢;have psl:ps.length=rs.length:=Paired.length ro3;have rl:=R.len;have pl:=P.len;walk_at "rd";refine ⟨a,ns,kk,rfl,Same.seq s3 ha,by omega,by omega,fun c c0=>?_⟩;have em:∀ (x n:Int),0<n->0<=x % n/\x % n<n:=fun x n h=>⟨Int.emod_nonneg x (Int.ne_of_gt h),Int.emod_lt_of_pos x h⟩;have hg:=em c kk (by omega);have cp9:Nw 10 9:=⟨by decide,by decide,by decide⟩;have e9:(10:Int)^Int.toNat 9=1000000000:=(by decide);have e18:(10:Int)^Int.toNat 18=1000000000000000000:=(by decide);have e19:(10:Int)^Int.toNat 19=10000000000000000000:=(by decide);refine ⟨c,rfl,by omega,c,rfl,by omega,aR (by simp),fun q1 hq1=>?_⟩;have s4:=Same.new (.lst [.int (c % kk),.int (kk - 1),.int 0,.int (c % kk)]) hq1;obtain ⟨un,hun,u0,u1⟩:∃ un:Int,atI [V.int (c % kk),V.int (kk - 1),V.int 0,V.int (c % kk)] sh=some (.int un)/\0<=un/\un<kk:=by
       rcases (show sh=0\/sh=1\/sh=2\/sh=3 by omega) with z|z|z|z
       . exact ⟨_,by rw [z];rfl,hg.1,hg.2⟩
       . exact ⟨_,by rw [z];rfl,by omega,by omega⟩
       . exact ⟨_,by rw [z];rfl,by omega,by omega⟩
       . exact ⟨_,by rw [z];rfl,hg.1,hg.2⟩
     refine ixL ah hun ?_;generalize upd H3 q1 (.lst [.int (c % kk),.int (kk - 1),.int 0,.int (c % kk)])=H4 at s4 ⊢;rw [e9,e18,e19];refine ⟨c,rfl,⟨by omega,by omega⟩,cp9,by decide,_,rfl,fun th t0 t1=>⟨cp9,⟨by decide,by decide⟩,cp9,by decide,_,rfl,fun bk b0 b1=>⟨⟨by decide,by decide,by decide⟩,⟨by decide,by decide⟩,by decide,?_⟩⟩⟩;have hl4:=s4 _ _ hl3;have ro4:=RoadsAt.same s4 ro3;have lu:=xZ (n:=m.toNat) u0 (by omega);have lk:=xZ (n:=m.toNat) (show 0<=kk by omega) (by omega);have keep:∀ {H7:Hp} {zs:List V} {q:Addr} {r':Road},Same H3 H7->H7 q=some (.tup (iH r'))->upd H7 lo (.lst zs) q=some (.tup (iH r')):=fun {H7 zs q r'} s7 h=>by rw [ar (gm h (s7 _ _ hl3) (by intro z;cases z))];exact h
     have fin:∀ (H7:Hp) (q:Addr) (row:Row) (n:Nat) (v5 v6 v7 v8:Option V),Same H3 H7->row.k=kk->RowOk row->H7 q=some (.tup (iH (fS (below m.toNat) row)))->N [some (V.ref a),some (V.int m),some (V.int sh),some (V.ref lo),some (V.int kk),v5,v6,v7,v8] (upd H7 lo (.lst ((ps.take n++q::ps.drop n).map V.ref))):=by
       intro H7 q row n v5 v6 v7 v8 s7 rk rok hq;refine hN _ _ ⟨_,rs.take n++fS (below m.toNat) row::rs.drop n,rows++[row],_,_,_,_,_,rfl,(s3.trans s7).put nlo _,ah,?_,HE R (by omega) rok,P.step row n⟩;exact Nm n (Paired.imp' (fun p r h=>keep s7 h) (RoadsAt.same s7 ro3)) (keep s7 hq)
     have app:∀ (H7:Hp) (q:Addr) (row:Row) (v5 v6 v7 v8:Option V),Same H3 H7->row.k=kk->RowOk row->H7 q=some (.tup (iH (fS (below m.toNat) row)))->rAppend (V.ref lo) [V.ref q] H7 fun _ H1=>N [some (V.ref a),some (V.int m),some (V.int sh),some (V.ref lo),some (V.int kk),v5,v6,v7,v8] H1:=fun H7 q row v5 v6 v7 v8 s7 rk rok hq=>by
       refine vL (s7 _ _ hl3) (dU (by rw [List.length_map];omega)) ?_;have:=fin H7 q row ps.length v5 v6 v7 v8 s7 rk rok hq;rw [List.take_length,List.drop_length,List.map_append] at this;exact this
     have ins:∀ (H7:Hp) (q:Addr) (row:Row) (v5 v6 v7 v8:Option V),Same H3 H7->row.k=kk->RowOk row->H7 q=some (.tup (iH (fS (below m.toNat) row)))->rInsert (V.ref lo) [V.int 0,V.ref q] H7 fun _ H1=>N [some (V.ref a),some (V.int m),some (V.int sh),some (V.ref lo),some (V.int kk),v5,v6,v7,v8] H1:=fun H7 q row v5 v6 v7 v8 s7 rk rok hq=>by
       refine Na (s7 _ _ hl3) (Int.le_refl _) (by omega) (dU (by rw [List.length_map];omega)) ?_;have:=fin H7 q row 0 v5 v6 v7 v8 s7 rk rok hq;rw [List.take_zero,List.drop_zero,List.nil_append] at this;exact this
     have e1:∀ x y:Int,iH (fS (below m.toNat) ⟨kk,un,x,y,1,0⟩)=[V.int un,V.int kk,V.int x,V.int y]:=fun x y=>by
       unfold fS;rw [if_pos rfl];show [V.int ((below m.toNat).getD un.toNat 0),V.int ((below m.toNat).getD kk.toNat 0),V.int x,V.int y]=_;rw [lu,lk]
     have e2:∀ x y:Int,iH (fS (below m.toNat) ⟨kk,un,x,y,0,0⟩)=[V.int kk,V.int un,V.int x,V.int y]:=fun x y=>by
       unfold fS;rw [if_neg (show ¬ (0:Int)=1 by decide)];show [V.int ((below m.toNat).getD kk.toNat 0),V.int ((below m.toNat).getD un.toNat 0),V.int x,V.int y]=_;rw [lu,lk]
     have okR:∀ (x y w:Int),2<=x->x<=1000000->2<=y->y<=1000000->RowOk ⟨kk,un,x,y,w,0⟩:=fun x y w a b c d=>⟨u0,u1,a,b,c,d,Int.le_refl _,by show (0:Int)<kk;omega⟩;have both:∀ (th bk:Int) (v5 v7 v8:Option V),2<=th->th<=1000000->2<=bk->bk<=1000000->(tyV K "list" (V.ref lo) H4/\[V.int un,V.int kk,V.int th,V.int bk].length<=sizeLine/\∀ p,H4 p=none->rAppend (V.ref lo) [V.ref p] (upd H4 p (.tup [V.int un,V.int kk,V.int th,V.int bk])) fun _ H1=>N [some (V.ref a),some (V.int m),some (V.int sh),some (V.ref lo),some (V.int kk),v5,some (V.int un),v7,v8] H1)/\(tyV K "list" (V.ref lo) H4/\[V.int kk,V.int un,V.int bk,V.int th].length<=sizeLine/\∀ p,H4 p=none->rInsert (V.ref lo) [V.int 0,V.ref p] (upd H4 p (.tup [V.int kk,V.int un,V.int bk,V.int th])) fun _ H1=>N [some (V.ref a),some (V.int m),some (V.int sh),some (V.ref lo),some (V.int kk),v5,some (V.int un),v7,v8] H1):=fun th bk v5 v7 v8 t0 t1 b0 b1 =>
       ⟨⟨tyL hl4,aR (by simp),fun p hp=>app _ p ⟨kk,un,th,bk,1,0⟩ _ _ _ _ (s4.trans (Same.new _ hp)) rfl (okR _ _ _ t0 t1 b0 b1) (by rw [ah,e1])⟩,⟨tyL hl4,aR (by simp),fun p hp=>ins _ p ⟨kk,un,bk,th,0,0⟩ _ _ _ _ (s4.trans (Same.new _ hp)) rfl (okR _ _ _ b0 b1 t0 t1) (by rw [ah,e2])⟩⟩
     by_cases y1:c / kk / 1000000000000000000 % 3=0
     . rw [if_pos y1];refine ⟨⟨by decide,by decide,by decide⟩,⟨by decide,by decide⟩,by decide,?_⟩;by_cases y2:c / kk / 10000000000000000000 % 2=0
       . rw [if_pos y2];exact (both th th _ _ _ t0 t1 t0 t1).1
       . rw [if_neg y2];exact (both th th _ _ _ t0 t1 t0 t1).2
     . rw [if_neg y1];refine ⟨⟨by decide,by decide,by decide⟩,⟨by decide,by decide⟩,by decide,?_⟩;by_cases y2:c / kk / 10000000000000000000 % 2=0
       . rw [if_pos y2];exact (both th bk _ _ _ t0 t1 b0 b1).1
       . rw [if_neg y2];exact (both th bk _ _ _ t0 t1 b0 b1).2
   . rintro σ H3 ⟨ps,rs,rows,v4,v5,v6,v7,v8,rfl,s3,hl3,ro3,R,P⟩;have g:=MA (n:=m.toNat) (by omega) (by omega) (Cw _) (by rw [show m.toNat - 1=(m - 1).toNat by omega];exact R) P;rw [Int.toNat_of_nonneg (by omega)] at g;walk_at "rd";exact k lo ps rs H3 nlo s3 hl3 ro3 g
def yD (T:Txt K mg):Sp:=fun vs H Q _=>∃ (a:Addr) (ns:List Int) (z:Int),vs=[.ref a,.int z]/\SqL K H a (ns.map V.int)/\1<=z/\z<=24 /\
 ∀ (t l:Addr) (m:Int) (ps:List Addr) (rs:List Road) (H':Hp),H t=none->H l=none->Same H H'->H' t=some (.tup [.int m,.ref l])->H' l=some (.lst (ps.map V.ref))->RoadsAt H' ps rs->Good m rs->Q (.ref t) H'
abbrev cj:Stmt:=top 49
theorem mB:FnScope ["script","reach","head","many"] ["script","reach"] (aa cj):=FnScope.of (by kernel_rfl)
theorem mn:NmL (aa cj) "script":=.of (by kernel_rfl)
theorem jF:NmL (aa cj) "reach":=.of (by kernel_rfl)
theorem eT:NmL (aa cj) "head":=.of (by kernel_rfl)
theorem hW:NmL (aa cj) "many":=.of (by kernel_rfl)
theorem j2:NmG (aa cj) "_law_drawn":=.of (by kernel_rfl)
theorem jY:NmG (aa cj) "_law_roads":=.of (by kernel_rfl)
theorem FI (T:Txt K mg) (hq:bc (CXe P w)) {f:Addr} {fd:FuncData} (D:Df K mg "_law_web" cj ["script","reach"] f fd) {ba:Addr} {bA:FuncData} (az:Df K mg "_law_drawn" be ["script","k"] ba bA) (G_law_drawn:FnOk P w K mg base (CXe P w) 1 ba bA ["script","k"] (fT T)) {fw:Addr} {uT:FuncData} (gJ:Df K mg "_law_roads" aX ["script","many","shape"] fw uT) (G_law_roads:FnOk P w K mg base (CXe P w) 2 fw uT ["script","many","shape"] (uj T)):FnOk P w K mg base (CXe P w) 3 f fd ["script","reach"] (yD T):=by
 refine D.F.okC mB (fun vs H Q E h=>?_) (fun cdv A outer s H vs Q E hr h=>?_)
 . obtain ⟨a,ns,z,rfl,_⟩:=h
   rfl
 . obtain ⟨a,ns,z,rfl,ha,z1,z24,k⟩:=h;refine ⟨_,(ap (aD (i:=2) mB.nd rfl (Or.inl eT.l) (au cq (ax G_law_drawn (hr.mono (by decide)) j2.g az.m az.F.kp az.b .nil (aK hq) (ag (pvl 0 mn) (ag ao aj)) (hdb:=j2.d)) ao)) (ap (aD (i:=3) mB.nd rfl (Or.inl hW.l) (au eX ao (au aZ (pvl 2 eT) (pvl 1 jF)))) (ap (bB (aJ cT (au aZ (au cq (pvl 2 eT) (pvl 1 jF)) ao) ao (aN _)) (aq (aD (i:=3) mB.nd rfl (Or.inl hW.l) (au eX ao (au aZ (au cq (pvl 2 eT) (au jV ao (pvl 1 jF))) ao)))) aP) (aq (aO (qM (ag (pvl 3 hW) (ag (ax G_law_roads (hr.mono (by decide)) jY.g gJ.m gJ.F.kp gJ.b .nil (aK hq) (ag (pvl 0 mn) (ag (pvl 3 hW) (ag (au aZ (au cq (pvl 2 eT) ao) ao) aj))) (hdb:=jY.d)) aj)))))))),?_⟩;rw [show L2.start ["script","reach","head","many"] [V.ref a,V.int z]=[some (V.ref a),some (V.int z),none,none] from rfl];have em:∀ (x n:Int),0<n->0<=x % n/\x % n<n:=fun x n h=>⟨Int.emod_nonneg x (Int.ne_of_gt h),Int.emod_lt_of_pos x h⟩;walk_at "rd";refine ⟨a,ns,0,rfl,ha,by decide,by decide,fun c c0=>⟨c,rfl,⟨by decide,by decide⟩,by omega,⟨by omega,by omega⟩,by decide,?_⟩⟩;have h1:=em (c / 2) z (by omega);have h2:=em (c / 2 / (12*z)) 24 (by decide);have h3:=em (c / 2 / 300) 4 (by decide);apply Mf (1+c / 2 / (12*z) % 24) (1+c / 2 % z)
   . generalize 1+c / 2 % z=m;intro h;exact h
   . exact fun h=>⟨.inl ⟨by decide,by decide⟩,⟨by omega,by omega⟩,by decide,h⟩
   intro m hm;have m1:1<=m:=by omega
   have m24:m<=24:=by omega
   clear hm;refine ⟨⟨by decide,by decide⟩,by decide,?_⟩;refine ⟨a,ns,m,_,rfl,ha,m1,m24,h3.1,h3.2,fun l ps rs H1 nl s1 el ro g=>⟨aR (by simp),fun t nt=>?_⟩⟩;have s2:=Same.new (.tup [.int m,.ref l]) nt;exact k t l m ps rs _ (s1.free nt) nl (s1.trans s2) ah (s2 _ _ el) (RoadsAt.same s2 ro) g
def wG (T:Txt K mg):Sp:=fun vs H Q _=>∃ (a:Addr) (ns:List Int) (m b:Int),vs=[.ref a,.int m,.int b]/\SqL K H a (ns.map V.int)/\ns.length<=63/\1<=m/\m<=24/\1<=b/\∀ (l:Addr) (xs:List Int) (H':Hp),H l=none->Same H H'->H' l=some (.lst (xs.map V.int))->(xs.length:Int)=m->(∀ x∈xs,0<=x)->Q (.ref l) H'
abbrev bD:Stmt:=top 52
theorem lp:FnScope ["script","many","bound","wish","k","place"] ["script","many","bound"] (aa bD):=FnScope.of (by kernel_rfl)
theorem h9:NmL (aa bD) "script":=.of (by kernel_rfl)
theorem gb:NmL (aa bD) "many":=.of (by kernel_rfl)
theorem wo:NmL (aa bD) "bound":=.of (by kernel_rfl)
theorem ju:NmL (aa bD) "wish":=.of (by kernel_rfl)
theorem gq:NmL (aa bD) "k":=.of (by kernel_rfl)
theorem mj:NmL (aa bD) "place":=.of (by kernel_rfl)
theorem wj:NmG (aa bD) "range":=.of (by kernel_rfl)
theorem j3:NmG (aa bD) "len":=.of (by kernel_rfl)
theorem dN:NmG (aa bD) "_law_drawn":=.of (by kernel_rfl)
theorem D2 (T:Txt K mg) (hq:bc (CXe P w)) {f:Addr} {fd:FuncData} (D:Df K mg "_law_wish" bD ["script","many","bound"] f fd) {ba:Addr} {bA:FuncData} (az:Df K mg "_law_drawn" be ["script","k"] ba bA) (G_law_drawn:FnOk P w K mg base (CXe P w) 1 ba bA ["script","k"] (fT T)):FnOk P w K mg base (CXe P w) 2 f fd ["script","many","bound"] (wG T):=by
 refine D.F.okC lp (fun vs H Q E h=>?_) (fun cdv A outer s H vs Q E hr h=>?_)
 . obtain ⟨a,ns,m,b,rfl,_⟩:=h
   rfl
 . obtain ⟨a,ns,m,b,rfl,ha,hn,m0,m1,b0,k⟩:=h;refine ⟨_,(ap (aD (i:=3) lp.nd rfl (Or.inl ju.l) (au qr (bN (ag ao aj)) (pvl 1 gb))) (ap (eK PassesOwn.never rfl (AH wj.g T.range (ag (pvl 1 gb) (ag (bS eE j3.g T.len lx (ag (pvl 0 h9) aj) (hn:=j3.n) (hdb:=j3.d)) aj))) (aY (i:=4) lp.nd rfl (Or.inl gq.l)) (aq (bB (aJ cT (au aZ (pvl 4 gq) ao) ao (aN _)) (ap (aD (i:=5) lp.nd rfl (Or.inl mj.l) (au aZ (ax G_law_drawn (hr.mono (by decide)) dN.g az.m az.F.kp az.b .nil (aK hq) (ag (pvl 0 h9) (ag (pvl 4 gq) aj)) (hdb:=dN.d)) (pvl 1 gb))) (aq (nF (au aZ (au cq (ax G_law_drawn (hr.mono (by decide)) dN.g az.m az.F.kp az.b .nil (aK hq) (ag (pvl 0 h9) (ag (pvl 4 gq) aj)) (hdb:=dN.d)) (pvl 1 gb)) (bQ bW (bN (ag (pvl 2 wo) (ag ao (ag ao aj)))) (au aZ (au cq (pvl 4 gq) ao) ao) (fun _ _=>rfl))) (qC (pvl 3 ju) (pvl 5 mj) iE)))) aP))) (aq (aO (pvl 3 ju))))),?_⟩;rw [show L2.start ["script","many","bound","wish","k","place"] [V.ref a,V.int m,V.int b]=[some (V.ref a),some (V.int m),some (V.int b),none,none,none] from rfl];walk_at "rd";refine ⟨aR (by simp),fun l0 n0=>?_⟩;refine ⟨l0,m,_,rfl,rfl,ah,by omega,by omega,aR (by simp;omega),fun l n1=>?_⟩;rw [Ow];have s0:Same H (upd H l0 (.lst [.int 0])):=Same.new _ n0;have s1:=s0.trans (Same.new (.lst (List.replicate m.toNat (V.int 0))) n1);have nl:=s0.free n1;refine ⟨_,.inl (Same.seq s1 ha),m,_,⟨rfl,rfl⟩,⟨by omega,by omega,by omega,by rw [List.length_map];omega⟩,?_⟩;rw [List.length_map];have e1:upd (upd H l0 (.lst [.int 0])) l (.lst (List.replicate m.toNat (V.int 0))) l=some (.lst ((List.replicate m.toNat (0:Int)).map V.int)):=by rw [ah,List.map_replicate]
   generalize upd (upd H l0 (.lst [.int 0])) l (.lst (List.replicate m.toNat (V.int 0)))=H1 at s1 e1 ⊢;refine sq (fun i σ H2=>Same H H2/\∃ (xs:List Int) (v4 v5:Option V),H2 l=some (.lst (xs.map V.int))/\(xs.length:Int)=m/\(∀ x∈xs,0<=x)/\σ=[some (.ref a),some (.int m),some (.int b),some (.ref l),v4,v5]) ⟨s1,_,_,_,e1,by rw [List.length_replicate];omega,fun x hx=>by rw [(List.mem_replicate.mp hx).2];decide,rfl⟩ ?_ ?_
   . rintro i σ H2 N hN hi ⟨s2,xs,v4,v5,e2,xl,x0,rfl⟩;have i0:0<=m+(i:Int):=(by omega);have i1:m+(i:Int)<=1000:=(by omega);generalize m+(i:Int)=j at i0 i1 ⊢;have sa:=Same.seq s2 ha;walk_at "rd";refine ⟨by decide,?_⟩;by_cases z:j % 2=1
     . rw [if_pos z];refine ⟨a,ns,j,rfl,sa,i0,i1,fun c c0=>⟨c,rfl,by omega,?_⟩⟩;have h1:=Int.emod_nonneg c (show m≠0 by omega);have h2:=Int.emod_lt_of_pos c (show 0<m by omega);generalize c % m=p at h1 h2 ⊢;refine ⟨a,ns,j,rfl,sa,i0,i1,fun c' c0'=>?_⟩;refine ⟨c',rfl,⟨by omega,by omega⟩,aR (by simp),fun q nq=>⟨⟨by decide,by decide⟩,by decide,?_⟩⟩;have s3:=Same.new (.lst [V.int b,V.int 3,V.int 2]) nq;obtain ⟨w,hw,w0⟩:∃ w:Int,atI [V.int b,V.int 3,V.int 2] (j / 2 % 3)=some (.int w)/\0<w:=by
         rcases (show j / 2 % 3=0\/j / 2 % 3=1\/j / 2 % 3=2 by omega) with z|z|z
         . exact ⟨_,by rw [z];rfl,b0⟩
         . exact ⟨_,by rw [z];rfl,by decide⟩
         . exact ⟨_,by rw [z];rfl,by decide⟩
       refine ixL ah hw ⟨w,rfl,w0,wW (s3 _ _ e2) h1 (by rw [List.length_map];omega) (hN _ _ ⟨(s2.trans s3).put nl _,xs.set p.toNat (c' / m % w),_,_,by rw [ah,List.map_set],by rw [List.length_set];exact xl,Nt x0 (Int.emod_nonneg _ (by omega)),rfl⟩)⟩
     . rw [if_neg z];exact hN _ _ ⟨s2,xs,_,_,e2,xl,x0,rfl⟩
   . rintro σ H2 ⟨s2,xs,v4,v5,e2,xl,x0,rfl⟩;exact ⟨_,rfl,k l xs H2 nl s2 e2 xl x0⟩
def Bu (K:PySem.W.Frag):Sp:=fun vs H Q _=>∃ (a:Addr) (ns:List Int),vs=[.ref a]/\SqL K H a (ns.map V.int)/\ns.length<=63/\∀ H',Q (.bl true) H'
def MQ (T:Txt K mg):Sp:=Bu K
theorem vP {K:PySem.W.Frag} {H:Hp} {l l':Addr} {bs cs:List Bool} {Q:VK} (h1:H l=some (.lst (bs.map V.bl))) (h2:H l'=some (.lst (cs.map V.bl))) (e:bs=cs) (q:Q (.bl false) H):Nh K (.ref l) (.ref l') H Q:=by
 refine ⟨_,_,.lst (SqL.of h1) (zB _),.lst (SqL.of h2) (zB _),?_,?_⟩
 . have:=BM bs;simp only [PyData.depth];omega
 . simp only [PyData.eqv];rw [GC,decide_eq_true e];exact q
theorem kd1 {m:Int} {xs:List Int} {so r:Int} (z:aH m xs=false):kdL m xs so r=[true,false,false,true,false]:=by unfold kdL;rw [if_pos z]
theorem kd2 {m:Int} {xs:List Int} {r:Int} (z:aH m xs=true) (z2:¬ (0<=r/\r<m)):kdL m xs 0 r=[false,true,false,true,false]:=by unfold kdL;rw [if_neg (by rw [z];decide),if_pos ⟨rfl,z2⟩]
theorem kd3 {m:Int} {xs:List Int} {r:Int} (z:aH m xs=true) (z2:xs.sum=0):kdL m xs 2 r=[false,false,true,true,false]:=by unfold kdL;rw [if_neg (by rw [z];decide),if_neg (fun q=>absurd q.1 (by decide)),if_pos ⟨rfl,z2⟩]
theorem kd4 {m:Int} {xs:List Int} {so r:Int} (z:aH m xs=true) (z1:so=0->0<=r/\r<m) (z2:so=2->xs.sum≠0):kdL m xs so r=[]:=by unfold kdL;rw [if_neg (by rw [z];decide),if_neg (fun q=>q.2 (z1 q.1)),if_neg (fun q=>z2 q.1 q.2)]
theorem OI {m:Int} {zs:List Int} (h:(zs.length:Int)≠m\/∃ z∈zs,z<0):aH m zs=false:=by
 cases e:aH m zs
 . rfl
 . rcases h with h|⟨z,hz,h⟩
   . exact absurd (mw e) h
   . have:=lJ e z hz;omega
abbrev bG:Stmt:=top 55
theorem gC:FnScope ["script","many","roads","web","wish","cell","k","bad","place","sort","fuller"] ["script"] (aa bG):=FnScope.of (by kernel_rfl)
theorem eS:NmL (aa bG) "script":=.of (by kernel_rfl)
theorem cP:NmL (aa bG) "many":=.of (by kernel_rfl)
theorem vC:NmL (aa bG) "roads":=.of (by kernel_rfl)
theorem fb:NmL (aa bG) "web":=.of (by kernel_rfl)
theorem gH:NmL (aa bG) "wish":=.of (by kernel_rfl)
theorem cN:NmL (aa bG) "cell":=.of (by kernel_rfl)
theorem BH:NmL (aa bG) "k":=.of (by kernel_rfl)
theorem yq:NmL (aa bG) "bad":=.of (by kernel_rfl)
theorem nR:NmL (aa bG) "place":=.of (by kernel_rfl)
theorem wt:NmL (aa bG) "sort":=.of (by kernel_rfl)
theorem ji:NmL (aa bG) "fuller":=.of (by kernel_rfl)
theorem qi:NmG (aa bG) "_law_web":=.of (by kernel_rfl)
theorem y6:NmG (aa bG) "Web":=.of (by kernel_rfl)
theorem gG:NmG (aa bG) "list":=.of (by kernel_rfl)
theorem oV:NmG (aa bG) "_law_wish":=.of (by kernel_rfl)
theorem mX:NmG (aa bG) "_law_bound":=.of (by kernel_rfl)
theorem gi:NmG (aa bG) "_law_drawn":=.of (by kernel_rfl)
theorem uK:NmG (aa bG) "range":=.of (by kernel_rfl)
theorem qX:NmG (aa bG) "min":=.of (by kernel_rfl)
theorem rX:NmG (aa bG) "len":=.of (by kernel_rfl)
theorem ms:NmG (aa bG) "_law_spoilt":=.of (by kernel_rfl)
theorem bg:NmG (aa bG) "_law_kinds":=.of (by kernel_rfl)
theorem sB:NmG (aa bG) "max":=.of (by kernel_rfl)
theorem sV:NmG (aa bG) "always":=.of (by kernel_rfl)
theorem NQ (T:Txt K mg) (hq:bc (CXe P w)) {f:Addr} {fd:FuncData} (D:Df K mg "law" bG ["script"] f fd) {f_Web___init__:Addr} {jZ:FuncData} (F_Web___init__:Fun K "__init__" "Web.__init__" aM f_Web___init__ jZ) (b_Web:Binds K jZ ["self","many","roads"] []) (FE:Mk K T.Web f_Web___init__) (G_Web_init:FnOk P w K mg base (CXe P w) 3 f_Web___init__ jZ ["self","many","roads"] (kc T)) {fm:Addr} {uE:FuncData} (gN:Df K mg "_law_bound" cD ["script"] fm uE) (G_law_bound:FnOk P w K mg base (CXe P w) 2 fm uE ["script"] (uF T)) {ba:Addr} {bA:FuncData} (az:Df K mg "_law_drawn" be ["script","k"] ba bA) (G_law_drawn:FnOk P w K mg base (CXe P w) 1 ba bA ["script","k"] (fT T)) {fq:Addr} {vE:FuncData} (aQ:Df K mg "_law_kinds" aG ["sort","web","wish","r"] fq vE) (G_law_kinds:FnOk P w K mg base (CXe P w) 61 fq vE ["sort","web","wish","r"] (uP T)) {eD:Addr} {tH:FuncData} (fN:Df K mg "_law_spoilt" bC ["numbers","cell"] eD tH) (G_law_spoilt:FnOk P w K mg base (CXe P w) 1 eD tH ["numbers","cell"] (sY T)) {iG:Addr} {yd:FuncData} (jI:Df K mg "_law_web" cj ["script","reach"] iG yd) (G_law_web:FnOk P w K mg base (CXe P w) 3 iG yd ["script","reach"] (yD T)) {gf:Addr} {wC:FuncData} (iQ:Df K mg "_law_wish" bD ["script","many","bound"] gf wC) (G_law_wish:FnOk P w K mg base (CXe P w) 2 gf wC ["script","many","bound"] (wG T)) {fj:Addr} {lw:FuncData} (eJ:Df K mg "always" cY ["web","wish"] fj lw) (G_always:FnOk P w K mg base (CXe P w) 60 fj lw ["web","wish"] (vc T)):FnOk P w K mg base (CXe P w) 62 f fd ["script"] (MQ T):=by
 refine D.F.okC gC (fun vs H Q E h=>?_) (fun cdv A outer s H vs Q E hr h=>?_)
 . obtain ⟨a,ns,rfl,_⟩:=h
   rfl
 . obtain ⟨a,ns,rfl,ha,hn,k⟩:=h;have hv:=hr.units;refine ⟨_,(ap (nF (ax G_law_web (hr.mono (by decide)) qi.g jI.m jI.F.kp jI.b .nil (aK hq) (ag (pvl 0 eS) (ag ao aj)) (hdb:=qi.d)) (ua (n:=2) rfl (cZ (aY (i:=1) gC.nd rfl (Or.inl cP.l)) (cZ (aY (i:=2) gC.nd rfl (Or.inl vC.l)) mF)))) (ap (aD (i:=3) gC.nd rfl (Or.inl fb.l) (EN FE G_Web_init (hr.mono (by decide)) y6.g T.Oy b_Web .nil (aK hq) (ag (pvl 1 cP) (ag (f6 jX gG.g T.list vU (ag (pvl 2 vC) aj) (hn:=gG.n) (hdb:=gG.d)) aj)) (hdb:=y6.d))) (ap (aD (i:=4) gC.nd rfl (Or.inl gH.l) (ax G_law_wish (hr.mono (by decide)) oV.g iQ.m iQ.F.kp iQ.b .nil (aK hq) (ag (pvl 0 eS) (ag (pvl 1 cP) (ag (ax G_law_bound (hr.mono (by decide)) mX.g gN.m gN.F.kp gN.b .nil (aK hq) (ag (pvl 0 eS) aj) (hdb:=mX.d)) aj))) (hdb:=oV.d))) (ap (aD (i:=5) gC.nd rfl (Or.inl cN.l) (ax G_law_drawn (hr.mono (by decide)) gi.g az.m az.F.kp az.b .nil (aK hq) (ag (pvl 0 eS) (ag ao aj)) (hdb:=gi.d))) (ap (eK PassesOwn.never rfl (vg uK.g T.range (ag (au eX ao (bS (HC rfl) qX.g T.min NO (ag (bS eE rX.g T.len lx (ag (pvl 0 eS) aj) (hn:=rX.n) (hdb:=rX.d)) (ag ao aj)) (hn:=qX.n) (hdb:=qX.d))) aj)) (aY (i:=6) gC.nd rfl (Or.inl BH.l)) (ap (aD (i:=5) gC.nd rfl (Or.inl cN.l) (au eX (au cq (pvl 5 cN) ao) (ax G_law_drawn (hr.mono (by decide)) gi.g az.m az.F.kp az.b .nil (aK hq) (ag (pvl 0 eS) (ag (pvl 6 BH) aj)) (hdb:=gi.d)))) (ap (aD (i:=7) gC.nd rfl (Or.inl yq.l) (ax G_law_spoilt (hr.mono (by decide)) ms.g fN.m fN.F.kp fN.b .nil (aK hq) (ag (pvl 4 gH) (ag (pvl 5 cN) aj)) (hdb:=ms.d))) (ap (aD (i:=8) gC.nd rfl (Or.inl nR.l) (bQ bW (bN (ag (yi u8 ao) (ag (pvl 1 cP) (ag (au eX (pvl 1 cP) (au aZ (au cq (pvl 5 cN) ao) (au ip ao ao))) (ag (au lr (yi u8 ao) (au aZ (au cq (pvl 5 cN) ao) (au ip ao ao))) aj))))) (au aZ (au cq (pvl 5 cN) ao) ao) (fun _ _=>rfl))) (ap (eK PassesOwn.never rfl (vg uK.g T.range (ag ao aj)) (aY (i:=9) gC.nd rfl (Or.inl wt.l)) (aq (bB (aJ (qJ hv) (ax G_law_kinds (hr.mono (by decide)) bg.g aQ.m aQ.F.kp aQ.b .nil (aK hq) (ag (pvl 9 wt) (ag (pvl 3 fb) (ag (pvl 7 yq) (ag (pvl 8 nR) aj)))) (hdb:=bg.d)) (bN (ag dg (ag dg (ag dg (ag dg (ag dg aj)))))) (aN _)) (aq (aO dg)) aP))) (ap (bB (aJ (qJ hv) (ax G_law_kinds (hr.mono (by decide)) bg.g aQ.m aQ.F.kp aQ.b .nil (aK hq) (ag ao (ag (pvl 3 fb) (ag (pvl 4 gH) (ag (pvl 8 nR) aj)))) (hdb:=bg.d)) (bN (ag dg (ag dg (ag dg (ag dg (ag dg aj)))))) (aN _)) (aq (aO dg)) aP) (ap (bB (PW.pt (LG (aJ (qJ hv) (ax G_law_kinds (hr.mono (by decide)) bg.g aQ.m aQ.F.kp aQ.b .nil (aK hq) (ag ao (ag (pvl 3 fb) (ag (pvl 4 gH) (ag (au aZ (pvl 5 cN) (pvl 1 cP)) aj)))) (hdb:=bg.d)) (bN aj) (aN _)) (HS (aJ (qJ hv) (ax G_law_kinds (hr.mono (by decide)) bg.g aQ.m aQ.F.kp aQ.b .nil (aK hq) (ag ao (ag (pvl 3 fb) (ag (pvl 4 gH) (ag ao aj)))) (hdb:=bg.d)) (bN aj) (aN _))))) (aq (aO dg)) aP) (ap (aD (i:=10) gC.nd rfl (Or.inl ji.l) (f6 jX gG.g T.list vU (ag (pvl 4 gH) aj) (hn:=gG.n) (hdb:=gG.d))) (ap (nF (bS (HG rfl) sB.g T.max Nr (ag ao (ag (bQ bW (pvl 10 ji) (au aZ (pvl 5 cN) (pvl 1 cP)) (fun _ _=>rfl)) aj)) (hn:=sB.n) (hdb:=sB.d)) (qC (pvl 10 ji) (au aZ (pvl 5 cN) (pvl 1 cP)) iE)) (aq (bB (aJ (qJ hv) (ax G_law_kinds (hr.mono (by decide)) bg.g aQ.m aQ.F.kp aQ.b .nil (aK hq) (ag ao (ag (pvl 3 fb) (ag (pvl 10 ji) (ag ao aj)))) (hdb:=bg.d)) (bN aj) (aN _)) (aq (aO dg)) aP))))))))))) (ap (bB (aJ (qJ hv) (ax G_law_kinds (hr.mono (by decide)) bg.g aQ.m aQ.F.kp aQ.b .nil (aK hq) (ag ao (ag (pvl 3 fb) (ag (au qr (bN (ag ao aj)) (pvl 1 cP)) (ag ao aj)))) (hdb:=bg.d)) (bN (ag dg (ag dg (ag dg (ag dg (ag dg aj)))))) (aN _)) (aq (aO dg)) aP) (aq (aO (wc cT (ax G_always (hr.mono (by decide)) sV.g eJ.m eJ.F.kp eJ.b .nil (aK hq) (ag (pvl 3 fb) (ag (au qr (bN (ag ao aj)) (pvl 1 cP)) aj)) (hdb:=sV.d)) ao (aN _)))))))))),?_⟩;rw [show L2.start ["script","many","roads","web","wish","cell","k","bad","place","sort","fuller"] [V.ref a]=[some (V.ref a),none,none,none,none,none,none,none,none,none,none] from rfl];refine bM fun N1 h1=>?_;walk_at "rd";refine ⟨a,ns,7,rfl,ha,by decide,by decide,fun t l m ps rs H1 nt nl s1 et el ro g=>?_⟩;have m1:=g.m1;have m24:=g.m24;refine ⟨t,rfl,_,SqT.of et,rfl,_,_,rfl,_,_,rfl,rfl,h1 _ _ (bM fun N2 h2=>?_)⟩;walk_at "rd";refine ⟨_,.inl (SqL.of el),fun lc nlc=>?_⟩;have s2:=Same.new (.lst (ps.map V.ref)) nlc;refine NH T (c:=true) (SqL.of ah) (RoadsAt.same s2 ro) g fun x tw H2 hx htw s3 W=>?_;have s13:=s1.trans (s2.trans s3);refine h2 _ _ (bM fun N4 h4=>?_);walk_at "rd";refine ⟨a,ns,rfl,Same.seq s13 ha,fun b H4 b1 s5=>?_⟩;have s15:=s13.trans s5;refine ⟨a,ns,m,b,rfl,Same.seq s15 ha,hn,m1,m24,b1,fun ly ys H6 ny s7 ey yl y0=>h4 _ _ (bM fun N7 h7=>?_)⟩;have s17:=s15.trans s7;have W6:=W.same (s5.trans s7);have fy:=uk yl y0;walk_at "rd";refine ⟨a,ns,1,rfl,Same.seq s17 ha,by decide,by decide,fun c0 c00=>h7 _ _ (bM fun N11 h11=>?_)⟩;clear W s15 s13 el et ro;walk_at "rd";refine ⟨_,.inl (Same.seq s17 ha),_,6,⟨rfl,rfl⟩,?_⟩;rw [List.length_map];obtain ⟨nk,hnk,nk5⟩:∃ nk:Int,(1+if 6<(ns.length:Int) then (6:Int) else (ns.length:Int))=nk/\nk<=7:=⟨_,rfl,by split <;> omega⟩;have nk0:0<=nk:=by rw [<- hnk];split <;> omega
   rw [hnk];refine ⟨by omega,by omega,?_⟩;have p40:(0:Int)<10^Int.toNat 40:=Int.pow_pos (by decide);have mp:0<m:=by omega
   have y1:ys.length<=1000:=by omega
   refine yZ (fun i σ H10=>Same H6 H10/\∃ (c:Int) (v6 v7 v8 v9 v10:Option V),0<=c/\σ=[some (V.ref a),some (V.int m),some (V.ref l),some (V.ref x),some (V.ref ly),some (V.int c),v6,v7,v8,v9,v10]) ⟨Same.refl _,c0,_,_,_,_,_,c00,rfl⟩ ?_ ?_
   . rintro i σ H10 N BB hBB hN hi ⟨s10,c,v6,v7,v8,v9,v10,cc0,rfl⟩;refine hBB _ _ (bM fun M1 k1=>?_);walk_at "rd";refine ⟨⟨by decide,by decide⟩,a,ns,_,rfl,Same.seq (s17.trans s10) ha,by omega,by omega,fun dv dv0=>⟨dv,rfl,k1 _ _ (bM fun M2 k2=>?_)⟩⟩;have e0:0<=c / 7+dv:=(by omega);generalize c / 7+dv=e at e0 ⊢;walk_at "rd";refine ⟨ly,ys,m,e,rfl,s10 _ _ ey,yl,m1,m24,fun b1 us H11 nb1 s11 eb1 ub1 nf1=>k2 _ _ (bM fun M3 k3=>?_)⟩;have s611:=s10.trans s11;replace nf1:=OI nf1;have w0:=Int.emod_nonneg (e / 9) (Int.ne_of_gt p40);walk_at "rd";generalize e / 9 % 10^Int.toNat 40=aw at w0 ⊢;refine ⟨⟨by decide,by decide⟩,⟨by decide,by decide,by decide⟩,p40,⟨by decide,by decide⟩,⟨by decide,by decide,by decide⟩,p40,aR (by simp),fun r1 nr1=>⟨⟨by decide,by decide⟩,by decide,?_⟩⟩;obtain ⟨pl,hpl,npl⟩:∃ pl:Int,atI [V.int (-1),V.int m,V.int (m+aw),V.int (-1 - aw)] (e / 2 % 4)=some (.int pl)/\¬ (0<=pl/\pl<m):=by
       rcases (show e / 2 % 4=0\/e / 2 % 4=1\/e / 2 % 4=2\/e / 2 % 4=3 by omega) with z|z|z|z <;> rw [z]
       . exact ⟨_,rfl,by omega⟩
       . exact ⟨_,rfl,by omega⟩
       . exact ⟨_,rfl,by omega⟩
       . exact ⟨_,rfl,by omega⟩
     refine ixL ah hpl ?_;have s14:=Same.new (.lst [V.int (-1),V.int m,V.int (m+aw),V.int (-1 - aw)]) nr1;have s614:=s611.trans s14;replace eb1:=s14 _ _ eb1;generalize upd H11 r1 (.lst [V.int (-1),V.int m,V.int (m+aw),V.int (-1 - aw)])=H14 at s614 eb1 ⊢;clear s14 s611 hpl;refine k3 _ _ (bM fun M4 k4=>?_);walk_at "rd";refine ⟨by omega,by omega,?_⟩;have W14:=W6.same s614;have ey14:=s614 _ _ ey;refine yZ (fun j σ H15=>Same H14 H15/\∃ (v9 v10:Option V),σ=[some (V.ref a),some (V.int m),some (V.ref l),some (V.ref x),some (V.ref ly),some (V.int e),some (V.int (0+(i:Int))),some (V.ref b1),some (V.int pl),v9,v10]) ⟨Same.refl _,_,_,rfl⟩ ?_ ?_
     . rintro j σ H15 N2 B2 hB2 hN2 hj ⟨s15,w9,w10,rfl⟩;refine hB2 _ _ ?_;walk_at "rd";refine ⟨x,b1,tw,true,m,ps,rs,us,pl,_,rfl,W14.same s15,SqL.of (s15 _ _ eb1),ub1,by omega,by omega,fun lk H18 nlk s18 elk=>⟨aR (by simp),fun q1 n1=>?_⟩⟩;have u1:=Same.new (.lst ([true,false,false,true,false].map V.bl)) n1;refine vP (cs:=[true,false,false,true,false]) (u1 _ _ elk) ah (kd1 nf1) ⟨_,rfl,?_⟩;rw [if_neg (by decide)];exact hN2 _ _ ⟨s15.trans (s18.trans u1),_,_,rfl⟩
     . rintro B2 σ H15 hB2 ⟨s15,w9,w10,rfl⟩;refine hB2 _ _ (k4 _ _ (bM fun L1 g1=>?_));walk_at "rd";refine ⟨x,ly,tw,true,m,ps,rs,ys,pl,0,rfl,W14.same s15,SqL.of (s15 _ _ ey14),y1,by omega,by omega,fun lk H18 nlk s18 elk=>⟨aR (by simp),fun q1 n1=>?_⟩⟩;have u1:=Same.new (.lst ([false,true,false,true,false].map V.bl)) n1;refine vP (cs:=[false,true,false,true,false]) (u1 _ _ elk) ah (kd2 fy npl) ⟨_,rfl,?_⟩;rw [if_neg (by decide)];have s19:=s15.trans (s18.trans u1);refine g1 _ _ (bM fun L02 g2=>?_);change Same H14 (upd H18 q1 (.lst [V.bl false,V.bl true,V.bl false,V.bl true,V.bl false])) at s19;generalize upd H18 q1 (.lst [V.bl false,V.bl true,V.bl false,V.bl true,V.bl false])=H19 at s19 ⊢;have r0:=Int.emod_nonneg e (Int.ne_of_gt mp);have r1':=Int.emod_lt_of_pos e mp;walk_at "rd";refine ⟨mp,x,ly,tw,true,m,ps,rs,ys,_,0,rfl,W14.same s19,SqL.of (s19 _ _ ey14),y1,by omega,by omega,fun lk H20 nlk s20 elk=>⟨aR (by simp),fun q2 n2=>?_⟩⟩;have u2:=Same.new (.lst []) n2;refine vP (cs:=[]) (u2 _ _ elk) ah (kd4 fy (fun _=>⟨r0,r1'⟩) (fun z=>absurd z (by decide))) ⟨_,rfl,?_⟩;rw [if_neg (by decide)];have s21:=s19.trans (s20.trans u2);generalize upd H20 q2 (.lst [])=H21 at s21 ⊢;refine ⟨x,ly,tw,true,m,ps,rs,ys,_,1,rfl,W14.same s21,SqL.of (s21 _ _ ey14),y1,by omega,by omega,fun lk H22 nlk s22 elk=>⟨aR (by simp),fun q3 n3=>?_⟩⟩;have u3:=Same.new (.lst []) n3;refine vP (cs:=[]) (u3 _ _ elk) ah (kd4 fy (fun z=>absurd z (by decide)) (fun z=>absurd z (by decide))) ⟨_,rfl,?_⟩;rw [if_neg (by decide)];have s23:=s21.trans (s22.trans u3);generalize upd H22 q3 (.lst [])=H23 at s23 ⊢;refine g2 _ _ (bM fun L03 g3=>?_);walk_at "rd";refine ⟨_,.inl (SqL.of (s23 _ _ ey14)),fun lf nlf=>g3 _ _ (bM fun L04 g4=>?_)⟩;have u4:=Same.new (.lst (ys.map V.int)) nlf;have ef:upd H23 lf (.lst (ys.map V.int)) lf=some (.lst (ys.map V.int)):=ah;have nlf14:=s23.free nlf;have s24:=s23.trans u4;generalize upd H23 lf (.lst (ys.map V.int))=H24 at s24 ef ⊢;walk_at "rd";refine ⟨mp,?_⟩;generalize e % m=r at r0 r1' ⊢;refine ixL ef (atG r0 (by omega)) ⟨_,_,⟨rfl,rfl⟩,mp,wW ef r0 (by rw [List.length_map];omega) (g4 _ _ ?_)⟩;obtain ⟨z,hz,z1⟩:∃ z,(if ys.getD r.toNat 0 > 1 then ys.getD r.toNat 0 else 1)=z/\1<=z:=⟨_,rfl,by split <;> omega⟩;rw [hz,<- List.map_set];have ff:aH m (ys.set r.toNat z)=true:=uk (by rw [List.length_set];exact yl) fun x hx=>by
         rcases List.mem_or_eq_of_mem_set hx with q|q
         . exact y0 x q
         . omega
       have fs:(ys.set r.toNat z).sum≠0:=fun q=>by
         have:=GZ (lJ ff) (List.mem_iff_getElem?.mpr ⟨r.toNat,List.getElem?_set_self (by omega)⟩:z∈ys.set r.toNat z);omega
       have s25:=s24.put nlf14 (.lst ((ys.set r.toNat z).map V.int));have ef2:upd H24 lf (.lst ((ys.set r.toNat z).map V.int)) lf=some (.lst ((ys.set r.toNat z).map V.int)):=ah;generalize upd H24 lf (.lst ((ys.set r.toNat z).map V.int))=H25 at s25 ef2 ⊢;walk_at "rd";refine ⟨x,lf,tw,true,m,ps,rs,_,_,2,rfl,W14.same s25,SqL.of ef2,by rw [List.length_set];exact y1,by omega,by omega,fun lk H22 nlk s22 elk=>⟨aR (by simp),fun q3 n3=>?_⟩⟩;have u3:=Same.new (.lst []) n3;refine vP (cs:=[]) (u3 _ _ elk) ah (kd4 ff (fun z=>absurd z (by decide)) (fun _=>fs)) ⟨_,rfl,?_⟩;rw [if_neg (by decide)];exact hN _ _ ⟨s614.trans (s25.trans (s22.trans u3)),e,_,_,_,_,_,e0,rfl⟩
   . rintro BB σ H10 hBB ⟨s10,c,v6,v7,v8,v9,v10,cc0,rfl⟩;refine hBB _ _ (h11 _ _ ?_);walk_at "rd";have fz:aH m (zrs m)=true:=uk (by rw [vT];omega) fun x hx=>by rw [(List.mem_replicate.mp hx).2];decide
     have zl:(zrs m).length<=1000:=(by rw [vT];omega);refine ⟨by decide,fun r1 nr1=>?_⟩;have u1:=Same.new (.lst [V.int 0]) nr1;refine ⟨r1,m,[V.int 0],rfl,rfl,ah,by omega,by omega,aR (by simp;omega),fun r2 nr2=>?_⟩;rw [nZ,<- Ab];have u2:=u1.trans (Same.new (.lst ((zrs m).map V.int)) nr2);have e2:upd (upd H10 r1 (.lst [V.int 0])) r2 (.lst ((zrs m).map V.int)) r2=some (.lst ((zrs m).map V.int)):=ah;generalize upd (upd H10 r1 (.lst [V.int 0])) r2 (.lst ((zrs m).map V.int))=H11 at u2 e2 ⊢;have s11:=s10.trans u2;refine ⟨x,r2,tw,true,m,ps,rs,zrs m,_,2,rfl,W6.same s11,SqL.of e2,zl,by omega,by omega,fun lk H22 nlk s22 elk=>⟨aR (by simp),fun q3 n3=>?_⟩⟩;have u3:=Same.new (.lst ([false,false,true,true,false].map V.bl)) n3;refine vP (cs:=[false,false,true,true,false]) (u3 _ _ elk) ah (kd3 fz (EI m)) ⟨_,rfl,?_⟩;rw [if_neg (by decide)];have s23:=s11.trans (s22.trans u3);change Same H6 (upd H22 q3 (.lst [V.bl false,V.bl false,V.bl true,V.bl true,V.bl false])) at s23;generalize upd H22 q3 (.lst [V.bl false,V.bl false,V.bl true,V.bl true,V.bl false])=H23 at s23 ⊢;refine ⟨by decide,fun r3 nr3=>?_⟩;have u4:=Same.new (.lst [V.int 0]) nr3;refine ⟨r3,m,[V.int 0],rfl,rfl,ah,by omega,by omega,aR (by simp;omega),fun r4 nr4=>?_⟩;rw [nZ,<- Ab];have u5:=u4.trans (Same.new (.lst ((zrs m).map V.int)) nr4);refine ⟨x,r4,tw,true,m,ps,rs,zrs m,rfl,W6.same (s23.trans u5),SqL.of ah,zl,fun _ z=>absurd (EI m) z,fun _ _ H' s'=>⟨rfl,k _⟩,fun z=>by rw [fz] at z;cases z⟩
end
theorem OX:bc CX0:=fun _ _ _ _ _ h=>h
theorem all_mk {l:PySem.W.OpenLaw} {w:World} {K:PySem.W.Frag} {h:Heap} {mg:Str->Option Value} {fa:Addr} {bo:Addr} {fo:Addr} {dJ:Addr} {eh:Addr} {cQ:Addr} {dD:Addr} {dH:Addr} {j6:Addr} {cJ:Addr} {xc_TollError:Value} {xd_TollError:Option Addr} {xk_TollError:ClassData} {xs_TollError:Array (Option Value)} {xc_BadWeb:Value} {xd_BadWeb:Option Addr} {xk_BadWeb:ClassData} {xs_BadWeb:Array (Option Value)} {xc_NoPlace:Value} {xd_NoPlace:Option Addr} {xk_NoPlace:ClassData} {xs_NoPlace:Array (Option Value)} {qn_NoPlace qq_NoPlace:Str} {qN_NoPlace:Addr} {qb_NoPlace qm_NoPlace:List Value} {qh_NoPlace:Bool} {qs_NoPlace:List Str} {qu_NoPlace:List Value} {qa_NoPlace:Bool} {qc_NoPlace:Option Bool} {qd_NoPlace:Option Addr} {q0_NoPlace q1_NoPlace q2_NoPlace q3_NoPlace q5_NoPlace:Option Value} {xc_NoRoad:Value} {xd_NoRoad:Option Addr} {xk_NoRoad:ClassData} {xs_NoRoad:Array (Option Value)} {qn_NoRoad qq_NoRoad:Str} {qN_NoRoad:Addr} {qb_NoRoad qm_NoRoad:List Value} {qh_NoRoad:Bool} {qs_NoRoad:List Str} {qu_NoRoad:List Value} {qa_NoRoad:Bool} {qc_NoRoad:Option Bool} {qd_NoRoad:Option Addr} {q0_NoRoad q1_NoRoad q2_NoRoad q3_NoRoad q5_NoRoad:Option Value} {xc_BadLaying:Value} {xd_BadLaying:Option Addr} {xk_BadLaying:ClassData} {xs_BadLaying:Array (Option Value)} {xc_BadWish:Value} {xd_BadWish:Option Addr} {xk_BadWish:ClassData} {xs_BadWish:Array (Option Value)} {qn_BadWish qq_BadWish:Str} {qN_BadWish:Addr} {qb_BadWish qm_BadWish:List Value} {qh_BadWish:Bool} {qs_BadWish:List Str} {qu_BadWish:List Value} {qa_BadWish:Bool} {qc_BadWish:Option Bool} {qd_BadWish:Option Addr} {q0_BadWish q1_BadWish q2_BadWish q3_BadWish q5_BadWish:Option Value} {xc_NoWorst:Value} {xd_NoWorst:Option Addr} {xk_NoWorst:ClassData} {xs_NoWorst:Array (Option Value)} {qn_NoWorst qq_NoWorst:Str} {qN_NoWorst:Addr} {qb_NoWorst qm_NoWorst:List Value} {qh_NoWorst:Bool} {qs_NoWorst:List Str} {qu_NoWorst:List Value} {qa_NoWorst:Bool} {qc_NoWorst:Option Bool} {qd_NoWorst:Option Addr} {q0_NoWorst q1_NoWorst q2_NoWorst q3_NoWorst q5_NoWorst:Option Value} {dq:Addr} {od_check_counts xV:Option Addr} {xY:Array (Option Value)} {oc_check_counts yy yC yt oC yE:Value} {dB:Addr} {od_is_place Ec:Option Addr} {Ei:Array (Option Value)} {oc_is_place Ea Em D4 wB El:Value} {eI:Addr} {od_check_ends Bn:Option Addr} {AY:Array (Option Value)} {oc_check_ends A0 Bh Bi sS Bf:Value} {cz:Addr} {od_other_ends A5:Option Addr} {Bm:Array (Option Value)} {oc_other_ends A4 Bo Bb tj AX:Value} {dk:Addr} {od_check_joined yh:Option Addr} {yA:Array (Option Value)} {oc_check_joined xK xT yc oA y4:Value} {dQ:Addr} {od_check_tolls zI:Option Addr} {zd:Array (Option Value)} {oc_check_tolls zP y8 Ae qH zR:Value} {f_Web___init__:Addr} {od_Web___init__ xL:Option Addr} {y3:Array (Option Value)} {oc_Web___init__ yF yo yP oN xJ:Value} {ba:Addr} {od_law_drawn B3:Option Addr} {CL:Array (Option Value)} {oc_law_drawn BT CQ Dz uz Dh:Value} {fm:Addr} {od_law_bound C3:Option Addr} {CC:Array (Option Value)} {oc_law_bound Db Cr C6 ud Ci:Value} {bu:Addr} {od_check_place zj:Option Addr} {zM:Array (Option Value)} {oc_check_place Ag zy zV qt zT:Value} {eG:Addr} {od_neighbours AR:Option Addr} {AZ:Array (Option Value)} {oc_neighbours A7 A1 A3 tz Bk:Value} {fM:Addr} {od_kids ME:Option Addr} {MI:Array (Option Value)} {oc_kids Ms Mj MH E3 L6:Value} {eg:Addr} {od_ahead KH:Option Addr} {K3:Array (Option Value)} {oc_ahead Jj J9 KD Cq K2:Value} {db:Addr} {od_added Ij:Option Addr} {Kn:Array (Option Value)} {oc_added Js KG IH C5 KA:Value} {bp:Addr} {od_idle_kids Dx:Option Addr} {DB:Array (Option Value)} {oc_idle_kids DM C9 Ca ue BI:Value} {c7:Addr} {od_toll Mw:Option Addr} {LV:Array (Option Value)} {oc_toll MC Ml Md EY Mb:Value} {c9:Addr} {od_total K7:Option Addr} {JJ:Array (Option Value)} {oc_total Kq Jl Ih CP Kw:Value} {f9:Addr} {od_load_by F4:Option Addr} {FN:Array (Option Value)} {oc_load_by Fn Fh FL xP Ff:Value} {bd:Addr} {od_greatest_load xE:Option Addr} {wI:Array (Option Value)} {oc_greatest_load xg wR xc m3 xC:Value} {ft:Addr} {od_idle_load Cm:Option Addr} {CZ:Array (Option Value)} {oc_idle_load Dl Co BP uB De:Value} {nV:Addr} {od_down Mm:Option Addr} {My:Array (Option Value)} {oc_down Mp Mz Mx EH MM:Value} {fk:Addr} {od_inward GM:Option Addr} {G3:Array (Option Value)} {oc_inward HN GW HV AM G8:Value} {fA:Addr} {od_is_filled DJ:Option Addr} {CI:Array (Option Value)} {oc_is_filled BK DP Du vJ BX:Value} {d4:Addr} {od_wish_of Fc:Option Addr} {F6:Array (Option Value)} {oc_wish_of FX FY Gr yW Gi:Value} {gI:Addr} {od_needs IM:Option Addr} {Lq:Array (Option Value)} {oc_needs Jp KC JK CF Lu:Value} {f_Outlook___init__:Addr} {od_Outlook___init__ tK:Option Addr} {tM:Array (Option Value)} {oc_Outlook___init__ tP tL tR kq tI:Value} {iA:Addr} {od_failing Go:Option Addr} {Fq:Array (Option Value)} {oc_failing E5 F3 Ft yB Gp:Value} {d6:Addr} {od_is_idle E6:Option Addr} {F8:Array (Option Value)} {oc_is_idle Fg Gk FV yf Gm:Value} {gO:Addr} {od_fails I0:Option Addr} {JW:Array (Option Value)} {oc_fails J0 Ka IK CO Il:Value} {fj:Addr} {od_always HW:Option Addr} {G0:Array (Option Value)} {oc_always GB HL Hk Ar Hm:Value} {fx:Addr} {od_pile_need Ch:Option Addr} {CD:Array (Option Value)} {oc_pile_need CU B5 CW uU Cb:Value} {fq:Addr} {od_law_kinds C7:Option Addr} {CH:Array (Option Value)} {oc_law_kinds Cy BU Dm ur BC:Value} {eD:Addr} {od_law_spoilt AU:Option Addr} {Bp:Array (Option Value)} {oc_law_spoilt Bq Bd A2 sT A6:Value} {gd:Addr} {od_law_toll DV:Option Addr} {Ee:Array (Option Value)} {oc_law_toll DX Ef Eb ww D0:Value} {fw:Addr} {od_law_roads Cg:Option Addr} {CB:Array (Option Value)} {oc_law_roads Dc DL BO vz Cs:Value} {iG:Addr} {od_law_web Gh:Option Addr} {F5:Array (Option Value)} {oc_law_web FA FM Ga xS FD:Value} {gf:Addr} {od_law_wish DR:Option Addr} {Eo:Array (Option Value)} {oc_law_wish D1 DW Ep wH Et:Value} {E9:Addr} {od_law GQ:Option Addr} {Od:Array (Option Value)} {oc_law Hv HH He CS GP:Value} {t_MOST_PLACES:Tok} {t_LEAST_TOLL:Tok} {t_MOST_TOLL:Tok} (X:K.In h) (G:h.Ns mainGlobals mg) (hfa:mg "law"=some (.ref fa))
   (nO:PySem.W.nsIn K mainGlobals "TollError"=some (some (.ref bo)))
   (uq:PySem.W.nsIn K mainGlobals "BadWeb"=some (some (.ref fo)))
   (sL:PySem.W.nsIn K mainGlobals "NoPlace"=some (some (.ref dJ)))
   (tX:PySem.W.nsIn K mainGlobals "NoRoad"=some (some (.ref eh)))
   (nh:PySem.W.nsIn K mainGlobals "BadLaying"=some (some (.ref cQ)))
   (sO:PySem.W.nsIn K mainGlobals "BadWish"=some (some (.ref dD)))
   (rD:PySem.W.nsIn K mainGlobals "NoWorst"=some (some (.ref dH)))
   (BN:PySem.W.nsIn K mainGlobals "Web"=some (some (.ref j6)))
   (rS:PySem.W.nsIn K mainGlobals "Outlook"=some (some (.ref cJ)))
   (nj:K.lookup bo=some ⟨xc_TollError,xd_TollError,.cls xk_TollError,xs_TollError⟩)
   (nA:xk_TollError.mro=.ref bo::bmV)
   (m8:PySem.W.typeIn K (.ref bo)=some (.type "type"))
   (nG:PySem.W.findIn K (.ref bo) "__getattribute__"=some (some (.builtin "BaseException.__getattribute__")))
   (nL:PySem.W.findIn K (.ref bo) "__getattr__"=some none)
   (mQ:PySem.W.findIn K (.ref bo) "__class__"=some (some (.builtin "object.__class__")))
   (oh:PySem.W.hasDictIn K bo=true)
   (vG:K.lookup fo=some ⟨xc_BadWeb,xd_BadWeb,.cls xk_BadWeb,xs_BadWeb⟩)
   (vw:xk_BadWeb.mro=.ref fo::.ref bo::bmV)
   (u6:PySem.W.typeIn K (.ref fo)=some (.type "type"))
   (uA:PySem.W.findIn K (.ref fo) "__getattribute__"=some (some (.builtin "BaseException.__getattribute__")))
   (vo:PySem.W.findIn K (.ref fo) "__getattr__"=some none)
   (u9:PySem.W.findIn K (.ref fo) "__class__"=some (some (.builtin "object.__class__")))
   (uD:PySem.W.hasDictIn K fo=true)
   (mD:K.lookup dJ=some ⟨xc_NoPlace,xd_NoPlace,.cls xk_NoPlace,xs_NoPlace⟩)
   (rG:xk_NoPlace.mro=.ref dJ::.ref bo::bmV)
   (rF:PySem.W.typeIn K (.ref dJ)=some (.type "type"))
   (q8:PySem.W.findIn K (.ref dJ) "__getattribute__"=some (some (.builtin "BaseException.__getattribute__")))
   (sF:PySem.W.findIn K (.ref dJ) "__getattr__"=some none)
   (rV:PySem.W.findIn K (.ref dJ) "__class__"=some (some (.builtin "object.__class__")))
   (sH:PySem.W.hasDictIn K dJ=true)
   (rL:(⟨xc_NoPlace,xd_NoPlace,.cls xk_NoPlace,xs_NoPlace⟩:Obj)=excClassObj qn_NoPlace qq_NoPlace dJ qN_NoPlace qb_NoPlace qm_NoPlace qh_NoPlace qs_NoPlace qu_NoPlace qa_NoPlace qc_NoPlace qd_NoPlace q0_NoPlace q1_NoPlace q2_NoPlace q3_NoPlace q5_NoPlace "ValueError.__new__")
   (rA:PySem.W.nsOkIn K qN_NoPlace=true)
   (qW:PySem.W.nsIn K qN_NoPlace "__init__"=some none)
   (si:PySem.W.tailIn K bmV qm_NoPlace=true)
   (o0:K.lookup eh=some ⟨xc_NoRoad,xd_NoRoad,.cls xk_NoRoad,xs_NoRoad⟩)
   (ui:xk_NoRoad.mro=.ref eh::.ref bo::bmV)
   (uC:PySem.W.typeIn K (.ref eh)=some (.type "type"))
   (uZ:PySem.W.findIn K (.ref eh) "__getattribute__"=some (some (.builtin "BaseException.__getattribute__")))
   (uQ:PySem.W.findIn K (.ref eh) "__getattr__"=some none)
   (vy:PySem.W.findIn K (.ref eh) "__class__"=some (some (.builtin "object.__class__")))
   (ut:PySem.W.hasDictIn K eh=true)
   (vI:(⟨xc_NoRoad,xd_NoRoad,.cls xk_NoRoad,xs_NoRoad⟩:Obj)=excClassObj qn_NoRoad qq_NoRoad eh qN_NoRoad qb_NoRoad qm_NoRoad qh_NoRoad qs_NoRoad qu_NoRoad qa_NoRoad qc_NoRoad qd_NoRoad q0_NoRoad q1_NoRoad q2_NoRoad q3_NoRoad q5_NoRoad "ValueError.__new__")
   (um:PySem.W.nsOkIn K qN_NoRoad=true)
   (uu:PySem.W.nsIn K qN_NoRoad "__init__"=some none)
   (vd:PySem.W.tailIn K bmV qm_NoRoad=true)
   (nI:K.lookup cQ=some ⟨xc_BadLaying,xd_BadLaying,.cls xk_BadLaying,xs_BadLaying⟩)
   (nS:xk_BadLaying.mro=.ref cQ::.ref bo::bmV)
   (nD:PySem.W.typeIn K (.ref cQ)=some (.type "type"))
   (nz:PySem.W.findIn K (.ref cQ) "__getattribute__"=some (some (.builtin "BaseException.__getattribute__")))
   (nP:PySem.W.findIn K (.ref cQ) "__getattr__"=some none)
   (n5:PySem.W.findIn K (.ref cQ) "__class__"=some (some (.builtin "object.__class__")))
   (mL:PySem.W.hasDictIn K cQ=true)
   (mC:K.lookup dD=some ⟨xc_BadWish,xd_BadWish,.cls xk_BadWish,xs_BadWish⟩)
   (sv:xk_BadWish.mro=.ref dD::.ref bo::bmV)
   (rp:PySem.W.typeIn K (.ref dD)=some (.type "type"))
   (rM:PySem.W.findIn K (.ref dD) "__getattribute__"=some (some (.builtin "BaseException.__getattribute__")))
   (re:PySem.W.findIn K (.ref dD) "__getattr__"=some none)
   (sy:PySem.W.findIn K (.ref dD) "__class__"=some (some (.builtin "object.__class__")))
   (qZ:PySem.W.hasDictIn K dD=true)
   (sI:(⟨xc_BadWish,xd_BadWish,.cls xk_BadWish,xs_BadWish⟩:Obj)=excClassObj qn_BadWish qq_BadWish dD qN_BadWish qb_BadWish qm_BadWish qh_BadWish qs_BadWish qu_BadWish qa_BadWish qc_BadWish qd_BadWish q0_BadWish q1_BadWish q2_BadWish q3_BadWish q5_BadWish "ValueError.__new__")
   (rK:PySem.W.nsOkIn K qN_BadWish=true)
   (rh:PySem.W.nsIn K qN_BadWish "__init__"=some none)
   (rd:PySem.W.tailIn K bmV qm_BadWish=true)
   (my:K.lookup dH=some ⟨xc_NoWorst,xd_NoWorst,.cls xk_NoWorst,xs_NoWorst⟩)
   (sK:xk_NoWorst.mro=.ref dH::.ref bo::bmV)
   (sJ:PySem.W.typeIn K (.ref dH)=some (.type "type"))
   (rE:PySem.W.findIn K (.ref dH) "__getattribute__"=some (some (.builtin "BaseException.__getattribute__")))
   (rm:PySem.W.findIn K (.ref dH) "__getattr__"=some none)
   (qV:PySem.W.findIn K (.ref dH) "__class__"=some (some (.builtin "object.__class__")))
   (q9:PySem.W.hasDictIn K dH=true)
   (su:(⟨xc_NoWorst,xd_NoWorst,.cls xk_NoWorst,xs_NoWorst⟩:Obj)=excClassObj qn_NoWorst qq_NoWorst dH qN_NoWorst qb_NoWorst qm_NoWorst qh_NoWorst qs_NoWorst qu_NoWorst qa_NoWorst qc_NoWorst qd_NoWorst q0_NoWorst q1_NoWorst q2_NoWorst q3_NoWorst q5_NoWorst "ValueError.__new__")
   (se:PySem.W.nsOkIn K qN_NoWorst=true)
   (sM:PySem.W.nsIn K qN_NoWorst "__init__"=some none)
   (rO:PySem.W.tailIn K bmV qm_NoWorst=true)
   (xgs:PySem.W.specialIn K (.builtin "object.__class__") "__get__"=some (some (.builtin "getset_descriptor.__get__")))
   (xtk:PySem.W.takesIn K (.builtin "object.__class__")=some true)
   (xnd:[bo,fo,dJ,eh,cQ,dD,dH].Nodup)
   (kN:PySem.W.nsIn K mainGlobals "check_counts"=some (some (.ref dq)))
   (kW:K.lookup dq=some ⟨oc_check_counts,od_check_counts,.func (PySem.W.fnOf "check_counts" "check_counts" (aF bj) (aE bj) (aa bj) .none yy yC yt xV oC yE),xY⟩)
   (kT:PySem.W.codeIn K oC "check_counts"=true)
   (kU:PySem.W.keepIn K (.ref dq)=true)
   (rQ:PySem.W.nsIn K mainGlobals "is_place"=some (some (.ref dB)))
   (sQ:K.lookup dB=some ⟨oc_is_place,od_is_place,.func (PySem.W.fnOf "is_place" "is_place" (aF cV) (aE cV) (aa cV) .none Ea Em D4 Ec wB El),Ei⟩)
   (rB:PySem.W.codeIn K wB "is_place"=true)
   (rn:PySem.W.keepIn K (.ref dB)=true)
   (nU:PySem.W.nsIn K mainGlobals "check_ends"=some (some (.ref eI)))
   (nB:K.lookup eI=some ⟨oc_check_ends,od_check_ends,.func (PySem.W.fnOf "check_ends" "check_ends" (aF bP) (aE bP) (aa bP) .none A0 Bh Bi Bn sS Bf),AY⟩)
   (nC:PySem.W.codeIn K sS "check_ends"=true)
   (mV:PySem.W.keepIn K (.ref eI)=true)
   (nu:PySem.W.nsIn K mainGlobals "other_ends"=some (some (.ref cz)))
   (oq:K.lookup cz=some ⟨oc_other_ends,od_other_ends,.func (PySem.W.fnOf "other_ends" "other_ends" (aF bJ) (aE bJ) (aa bJ) .none A4 Bo Bb A5 tj AX),Bm⟩)
   (nK:PySem.W.codeIn K tj "other_ends"=true)
   (m7:PySem.W.keepIn K (.ref cz)=true)
   (kJ:PySem.W.nsIn K mainGlobals "check_joined"=some (some (.ref dk)))
   (kP:K.lookup dk=some ⟨oc_check_joined,od_check_joined,.func (PySem.W.fnOf "check_joined" "check_joined" (aF aL) (aE aL) (aa aL) .none xK xT yc yh oA y4),yA⟩)
   (kD:PySem.W.codeIn K oA "check_joined"=true)
   (kC:PySem.W.keepIn K (.ref dk)=true)
   (md:PySem.W.nsIn K mainGlobals "check_tolls"=some (some (.ref dQ)))
   (lU:K.lookup dQ=some ⟨oc_check_tolls,od_check_tolls,.func (PySem.W.fnOf "check_tolls" "check_tolls" (aF bw) (aE bw) (aa bw) .none zP y8 Ae zI qH zR),zd⟩)
   (lV:PySem.W.codeIn K qH "check_tolls"=true)
   (lY:PySem.W.keepIn K (.ref dQ)=true)
   (kR:PySem.W.findIn K (.ref j6) "__init__"=some (some (.ref f_Web___init__)))
   (k7:PySem.W.isFn K (.ref f_Web___init__)=true)
   (kO:K.lookup f_Web___init__=some ⟨oc_Web___init__,od_Web___init__,.func (PySem.W.fnOf "__init__" "Web.__init__" (aF aM) (aE aM) (aa aM) .none yF yo yP xL oN xJ),y3⟩)
   (kF:PySem.W.codeIn K oN "Web.__init__"=true)
   (kz:PySem.W.keepIn K (.ref f_Web___init__)=true)
   (p8:PySem.W.nsIn K mainGlobals "_law_drawn"=some (some (.ref ba)))
   (pP:K.lookup ba=some ⟨oc_law_drawn,od_law_drawn,.func (PySem.W.fnOf "_law_drawn" "_law_drawn" (aF be) (aE be) (aa be) .none BT CQ Dz B3 uz Dh),CL⟩)
   (pB:PySem.W.codeIn K uz "_law_drawn"=true)
   (qg:PySem.W.keepIn K (.ref ba)=true)
   (pJ:PySem.W.nsIn K mainGlobals "_law_bound"=some (some (.ref fm)))
   (p9:K.lookup fm=some ⟨oc_law_bound,od_law_bound,.func (PySem.W.fnOf "_law_bound" "_law_bound" (aF cD) (aE cD) (aa cD) .none Db Cr C6 C3 ud Ci),CC⟩)
   (pU:PySem.W.codeIn K ud "_law_bound"=true)
   (p7:PySem.W.keepIn K (.ref fm)=true)
   (lS:PySem.W.nsIn K mainGlobals "check_place"=some (some (.ref bu)))
   (lX:K.lookup bu=some ⟨oc_check_place,od_check_place,.func (PySem.W.fnOf "check_place" "check_place" (aF bn) (aE bn) (aa bn) .none Ag zy zV zj qt zT),zM⟩)
   (mh:PySem.W.codeIn K qt "check_place"=true)
   (l5:PySem.W.keepIn K (.ref bu)=true)
   (nX:PySem.W.nsIn K mainGlobals "neighbours"=some (some (.ref eG)))
   (n9:K.lookup eG=some ⟨oc_neighbours,od_neighbours,.func (PySem.W.fnOf "neighbours" "neighbours" (aF bI) (aE bI) (aa bI) .none A7 A1 A3 AR tz Bk),AZ⟩)
   (nY:PySem.W.codeIn K tz "neighbours"=true)
   (mN:PySem.W.keepIn K (.ref eG)=true)
   (CT:PySem.W.nsIn K mainGlobals "kids"=some (some (.ref fM)))
   (Cj:K.lookup fM=some ⟨oc_kids,od_kids,.func (PySem.W.fnOf "kids" "kids" (aF eB) (aE eB) (aa eB) .none Ms Mj MH ME E3 L6),MI⟩)
   (B9:PySem.W.codeIn K E3 "kids"=true)
   (Cz:PySem.W.keepIn K (.ref fM)=true)
   (zS:PySem.W.nsIn K mainGlobals "ahead"=some (some (.ref eg)))
   (zt:K.lookup eg=some ⟨oc_ahead,od_ahead,.func (PySem.W.fnOf "ahead" "ahead" (aF ce) (aE ce) (aa ce) .none Jj J9 KD KH Cq K2),K3⟩)
   (zz:PySem.W.codeIn K Cq "ahead"=true)
   (Ah:PySem.W.keepIn K (.ref eg)=true)
   (Ad:PySem.W.nsIn K mainGlobals "added"=some (some (.ref db)))
   (z9:K.lookup db=some ⟨oc_added,od_added,.func (PySem.W.fnOf "added" "added" (aF dM) (aE dM) (aa dM) .none Js KG IH Ij C5 KA),Kn⟩)
   (zg:PySem.W.codeIn K C5 "added"=true)
   (Aa:PySem.W.keepIn K (.ref db)=true)
   (pN:PySem.W.nsIn K mainGlobals "idle_kids"=some (some (.ref bp)))
   (qc:K.lookup bp=some ⟨oc_idle_kids,od_idle_kids,.func (PySem.W.fnOf "idle_kids" "idle_kids" (aF bi) (aE bi) (aa bi) .none DM C9 Ca Dx ue BI),DB⟩)
   (pd:PySem.W.codeIn K ue "idle_kids"=true)
   (pZ:PySem.W.keepIn K (.ref bp)=true)
   (Cd:PySem.W.nsIn K mainGlobals "toll"=some (some (.ref c7)))
   (CN:K.lookup c7=some ⟨oc_toll,od_toll,.func (PySem.W.fnOf "toll" "toll" (aF cA) (aE cA) (aa cA) .none MC Ml Md Mw EY Mb),LV⟩)
   (DQ:PySem.W.codeIn K EY "toll"=true)
   (BF:PySem.W.keepIn K (.ref c7)=true)
   (zu:PySem.W.nsIn K mainGlobals "total"=some (some (.ref c9)))
   (z0:K.lookup c9=some ⟨oc_total,od_total,.func (PySem.W.fnOf "total" "total" (aF ee) (aE ee) (aa ee) .none Kq Jl Ih K7 CP Kw),JJ⟩)
   (zE:PySem.W.codeIn K CP "total"=true)
   (zJ:PySem.W.keepIn K (.ref c9)=true)
   (tZ:PySem.W.nsIn K mainGlobals "load_by"=some (some (.ref f9)))
   (uJ:K.lookup f9=some ⟨oc_load_by,od_load_by,.func (PySem.W.fnOf "load_by" "load_by" (aF bz) (aE bz) (aa bz) .none Fn Fh FL F4 xP Ff),FN⟩)
   (t9:PySem.W.codeIn K xP "load_by"=true)
   (uY:PySem.W.keepIn K (.ref f9)=true)
   (jS:PySem.W.nsIn K mainGlobals "greatest_load"=some (some (.ref bd)))
   (jP:K.lookup bd=some ⟨oc_greatest_load,od_greatest_load,.func (PySem.W.fnOf "greatest_load" "greatest_load" (aF aB) (aE aB) (aa aB) .none xg wR xc xE m3 xC),wI⟩)
   (kb:PySem.W.codeIn K m3 "greatest_load"=true)
   (j4:PySem.W.keepIn K (.ref bd)=true)
   (pK:PySem.W.nsIn K mainGlobals "idle_load"=some (some (.ref ft)))
   (pS:K.lookup ft=some ⟨oc_idle_load,od_idle_load,.func (PySem.W.fnOf "idle_load" "idle_load" (aF bL) (aE bL) (aa bL) .none Dl Co BP Cm uB De),CZ⟩)
   (qa:PySem.W.codeIn K uB "idle_load"=true)
   (pF:PySem.W.keepIn K (.ref ft)=true)
   (Ce:PySem.W.nsIn K mainGlobals "down"=some (some (.ref nV)))
   (Dp:K.lookup nV=some ⟨oc_down,od_down,.func (PySem.W.fnOf "down" "down" (aF dh) (aE dh) (aa dh) .none Mp Mz Mx Mm EH MM),My⟩)
   (DK:PySem.W.codeIn K EH "down"=true)
   (Dv:PySem.W.keepIn K (.ref nV)=true)
   (xB:PySem.W.nsIn K mainGlobals "inward"=some (some (.ref fk)))
   (xy:K.lookup fk=some ⟨oc_inward,od_inward,.func (PySem.W.fnOf "inward" "inward" (aF cg) (aE cg) (aa cg) .none HN GW HV GM AM G8),G3⟩)
   (xD:PySem.W.codeIn K AM "inward"=true)
   (xt:PySem.W.keepIn K (.ref fk)=true)
   (pX:PySem.W.nsIn K mainGlobals "is_filled"=some (some (.ref fA)))
   (pi:K.lookup fA=some ⟨oc_is_filled,od_is_filled,.func (PySem.W.fnOf "is_filled" "is_filled" (aF b7) (aE b7) (aa b7) .none BK DP Du DJ vJ BX),CI⟩)
   (pj:PySem.W.codeIn K vJ "is_filled"=true)
   (qf:PySem.W.keepIn K (.ref fA)=true)
   (uM:PySem.W.nsIn K mainGlobals "wish_of"=some (some (.ref d4)))
   (uV:K.lookup d4=some ⟨oc_wish_of,od_wish_of,.func (PySem.W.fnOf "wish_of" "wish_of" (aF ck) (aE ck) (aa ck) .none FX FY Gr Fc yW Gi),F6⟩)
   (uR:PySem.W.codeIn K yW "wish_of"=true)
   (uo:PySem.W.keepIn K (.ref d4)=true)
   (zX:PySem.W.nsIn K mainGlobals "needs"=some (some (.ref gI)))
   (zH:K.lookup gI=some ⟨oc_needs,od_needs,.func (PySem.W.fnOf "needs" "needs" (aF b9) (aE b9) (aa b9) .none Jp KC JK IM CF Lu),Lq⟩)
   (zm:PySem.W.codeIn K CF "needs"=true)
   (zQ:PySem.W.keepIn K (.ref gI)=true)
   (ik:PySem.W.findIn K (.ref cJ) "__init__"=some (some (.ref f_Outlook___init__)))
   (ir:PySem.W.isFn K (.ref f_Outlook___init__)=true)
   (iw:K.lookup f_Outlook___init__=some ⟨oc_Outlook___init__,od_Outlook___init__,.func (PySem.W.fnOf "__init__" "Outlook.__init__" (aF aA) (aE aA) (aa aA) .none tP tL tR tK kq tI),tM⟩)
   (ic:PySem.W.codeIn K kq "Outlook.__init__"=true)
   (iC:PySem.W.keepIn K (.ref f_Outlook___init__)=true)
   (vM:PySem.W.nsIn K mainGlobals "failing"=some (some (.ref iA)))
   (uH:K.lookup iA=some ⟨oc_failing,od_failing,.func (PySem.W.fnOf "failing" "failing" (aF ci) (aE ci) (aa ci) .none E5 F3 Ft Go yB Gp),Fq⟩)
   (tV:PySem.W.codeIn K yB "failing"=true)
   (uS:PySem.W.keepIn K (.ref iA)=true)
   (uN:PySem.W.nsIn K mainGlobals "is_idle"=some (some (.ref d6)))
   (vB:K.lookup d6=some ⟨oc_is_idle,od_is_idle,.func (PySem.W.fnOf "is_idle" "is_idle" (aF cM) (aE cM) (aa cM) .none Fg Gk FV E6 yf Gm),F8⟩)
   (vD:PySem.W.codeIn K yf "is_idle"=true)
   (vl:PySem.W.keepIn K (.ref d6)=true)
   (zw:PySem.W.nsIn K mainGlobals "fails"=some (some (.ref gO)))
   (zn:K.lookup gO=some ⟨oc_fails,od_fails,.func (PySem.W.fnOf "fails" "fails" (aF cG) (aE cG) (aa cG) .none J0 Ka IK I0 CO Il),JW⟩)
   (za:PySem.W.codeIn K CO "fails"=true)
   (zf:PySem.W.keepIn K (.ref gO)=true)
   (xh:PySem.W.nsIn K mainGlobals "always"=some (some (.ref fj)))
   (xF:K.lookup fj=some ⟨oc_always,od_always,.func (PySem.W.fnOf "always" "always" (aF cY) (aE cY) (aa cY) .none GB HL Hk HW Ar Hm),G0⟩)
   (wU:PySem.W.codeIn K Ar "always"=true)
   (xq:PySem.W.keepIn K (.ref fj)=true)
   (pM:PySem.W.nsIn K mainGlobals "pile_need"=some (some (.ref fx)))
   (pQ:K.lookup fx=some ⟨oc_pile_need,od_pile_need,.func (PySem.W.fnOf "pile_need" "pile_need" (aF b8) (aE b8) (aa b8) .none CU B5 CW Ch uU Cb),CD⟩)
   (pY:PySem.W.codeIn K uU "pile_need"=true)
   (ph:PySem.W.keepIn K (.ref fx)=true)
   (pO:PySem.W.nsIn K mainGlobals "_law_kinds"=some (some (.ref fq)))
   (qb:K.lookup fq=some ⟨oc_law_kinds,od_law_kinds,.func (PySem.W.fnOf "_law_kinds" "_law_kinds" (aF aG) (aE aG) (aa aG) .none Cy BU Dm C7 ur BC),CH⟩)
   (pD:PySem.W.codeIn K ur "_law_kinds"=true)
   (qd:PySem.W.keepIn K (.ref fq)=true)
   (mT:PySem.W.nsIn K mainGlobals "_law_spoilt"=some (some (.ref eD)))
   (nQ:K.lookup eD=some ⟨oc_law_spoilt,od_law_spoilt,.func (PySem.W.fnOf "_law_spoilt" "_law_spoilt" (aF bC) (aE bC) (aa bC) .none Bq Bd A2 AU sT A6),Bp⟩)
   (ni:PySem.W.codeIn K sT "_law_spoilt"=true)
   (mO:PySem.W.keepIn K (.ref eD)=true)
   (r9:PySem.W.nsIn K mainGlobals "_law_toll"=some (some (.ref gd)))
   (rj:K.lookup gd=some ⟨oc_law_toll,od_law_toll,.func (PySem.W.fnOf "_law_toll" "_law_toll" (aF d0) (aE d0) (aa d0) .none DX Ef Eb DV ww D0),Ee⟩)
   (sD:PySem.W.codeIn K ww "_law_toll"=true)
   (rR:PySem.W.keepIn K (.ref gd)=true)
   (pW:PySem.W.nsIn K mainGlobals "_law_roads"=some (some (.ref fw)))
   (pf:K.lookup fw=some ⟨oc_law_roads,od_law_roads,.func (PySem.W.fnOf "_law_roads" "_law_roads" (aF aX) (aE aX) (aa aX) .none Dc DL BO Cg vz Cs),CB⟩)
   (pR:PySem.W.codeIn K vz "_law_roads"=true)
   (pT:PySem.W.keepIn K (.ref fw)=true)
   (uO:PySem.W.nsIn K mainGlobals "_law_web"=some (some (.ref iG)))
   (uw:K.lookup iG=some ⟨oc_law_web,od_law_web,.func (PySem.W.fnOf "_law_web" "_law_web" (aF cj) (aE cj) (aa cj) .none FA FM Ga Gh xS FD),F5⟩)
   (vh:PySem.W.codeIn K xS "_law_web"=true)
   (vx:PySem.W.keepIn K (.ref iG)=true)
   (rq:PySem.W.nsIn K mainGlobals "_law_wish"=some (some (.ref gf)))
   (rN:K.lookup gf=some ⟨oc_law_wish,od_law_wish,.func (PySem.W.fnOf "_law_wish" "_law_wish" (aF bD) (aE bD) (aa bD) .none D1 DW Ep DR wH Et),Eo⟩)
   (sG:PySem.W.codeIn K wH "_law_wish"=true)
   (r6:PySem.W.keepIn K (.ref gf)=true)
   (Bs:PySem.W.nsIn K mainGlobals "law"=some (some (.ref E9)))
   (FG:K.lookup E9=some ⟨oc_law,od_law,.func (PySem.W.fnOf "law" "law" (aF bG) (aE bG) (aa bG) .none Hv HH He GQ CS GP),Od⟩)
   (F0:PySem.W.codeIn K CS "law"=true)
   (Gu:PySem.W.keepIn K (.ref E9)=true)
   (Dg:PySem.W.plainGet K j6 Str.empty=true)
   (Ck:PySem.W.hasDictIn K j6=true)
   (C1:PySem.W.plainOver K j6=true)
   (B6:PySem.W.findIn K (.ref j6) "__setattr__"=some (some (.builtin "object.__setattr__")))
   (BS:PySem.W.makesIn K j6=true)
   (Dy:PySem.W.keepIn K (.ref j6)=true)
   (n_many_Web:PySem.W.findIn K (.ref j6) "many"=some none)
   (n_roads_Web:PySem.W.findIn K (.ref j6) "roads"=some none)
   (ss:PySem.W.plainGet K cJ Str.empty=true)
   (sx:PySem.W.hasDictIn K cJ=true)
   (sg:PySem.W.plainOver K cJ=true)
   (sj:PySem.W.findIn K (.ref cJ) "__setattr__"=some (some (.builtin "object.__setattr__")))
   (sN:PySem.W.makesIn K cJ=true)
   (qU:PySem.W.keepIn K (.ref cJ)=true)
   (n_web_Outlook:PySem.W.findIn K (.ref cJ) "web"=some none)
   (n_needs_Outlook:PySem.W.findIn K (.ref cJ) "needs"=some none)
   (n_kids_Outlook:PySem.W.findIn K (.ref cJ) "kids"=some none)
   (n_idle_Outlook:PySem.W.findIn K (.ref cJ) "idle"=some none)
   (z_range:PySem.W.nsIn K mainGlobals "range"=some none)
   (z_zip:PySem.W.nsIn K mainGlobals "zip"=some none)
   (z_len:PySem.W.nsIn K mainGlobals "len"=some none)
   (z_isinstance:PySem.W.nsIn K mainGlobals "isinstance"=some none)
   (z_all:PySem.W.nsIn K mainGlobals "all"=some none)
   (z_any:PySem.W.nsIn K mainGlobals "any"=some none)
   (z_int:PySem.W.nsIn K mainGlobals "int"=some none)
   (z_tuple:PySem.W.nsIn K mainGlobals "tuple"=some none)
   (z_list:PySem.W.nsIn K mainGlobals "list"=some none)
   (z_reversed:PySem.W.nsIn K mainGlobals "reversed"=some none)
   (z_sorted:PySem.W.nsIn K mainGlobals "sorted"=some none)
   (z_min:PySem.W.nsIn K mainGlobals "min"=some none)
   (z_max:PySem.W.nsIn K mainGlobals "max"=some none)
   (z_enumerate:PySem.W.nsIn K mainGlobals "enumerate"=some none)
   (z_sum:PySem.W.nsIn K mainGlobals "sum"=some none)
   (z_ValueError:PySem.W.nsIn K mainGlobals "ValueError"=some none)
   (v_MOST_PLACES:PySem.W.nsIn K mainGlobals "MOST_PLACES"=some (some (.int 24 t_MOST_PLACES)))
   (v_LEAST_TOLL:PySem.W.nsIn K mainGlobals "LEAST_TOLL"=some (some (.int 2 t_LEAST_TOLL)))
   (v_MOST_TOLL:PySem.W.nsIn K mainGlobals "MOST_TOLL"=some (some (.int 1000000 t_MOST_TOLL))) :
   ∃ fd:FuncData,(∀ (s:Shared) (v:Value),BindsTo s fd ⟨[v],[]⟩ [("script",v)])/\∀ base:Heap,K.In base->base.Ns mainGlobals mg->FnOk l.prog w K mg base (CXe l.prog w) 62 fa fd ["script"] (Bu K):=by
 have e:=hfa.symm.trans (PySem.W.mg_of X G Bs);cases e
 let T:Txt K mg:=⟨bo,PySem.W.mg_of X G nO,fo,PySem.W.mg_of X G uq,dJ,PySem.W.mg_of X G sL,eh,PySem.W.mg_of X G tX,cQ,PySem.W.mg_of X G nh,dD,PySem.W.mg_of X G sO,dH,PySem.W.mg_of X G rD,j6,PySem.W.mg_of X G BN,cJ,PySem.W.mg_of X G rS,Mt m8 nG nL mQ xgs xtk oh nj nA,mJ u6 uA vo u9 xgs xtk uD vG vw,mJ rF q8 sF rV xgs xtk sH mD rG,wa _ _ _ _ _ _ _ _ _ _ _ _ _ _ _ _ mD rL rA qW si,mJ uC uZ uQ vy xgs xtk ut o0 ui,wa _ _ _ _ _ _ _ _ _ _ _ _ _ _ _ _ o0 vI um uu vd,mJ nD nz nP n5 xgs xtk mL nI nS,mJ rp rM re sy xgs xtk qZ mC sv,wa _ _ _ _ _ _ _ _ _ _ _ _ _ _ _ _ mC sI rK rh rd,mJ sJ rE rm qV xgs xtk q9 my sK,wa _ _ _ _ _ _ _ _ _ _ _ _ _ _ _ _ my su se sM rO,xnd,PySem.W.mg_none_of X G z_range,PySem.W.mg_none_of X G z_zip,PySem.W.mg_none_of X G z_len,PySem.W.mg_none_of X G z_isinstance,PySem.W.mg_none_of X G z_all,PySem.W.mg_none_of X G z_any,PySem.W.mg_none_of X G z_int,PySem.W.mg_none_of X G z_tuple,PySem.W.mg_none_of X G z_list,PySem.W.mg_none_of X G z_reversed,PySem.W.mg_none_of X G z_sorted,PySem.W.mg_none_of X G z_min,PySem.W.mg_none_of X G z_max,PySem.W.mg_none_of X G z_enumerate,PySem.W.mg_none_of X G z_sum,PySem.W.mg_none_of X G z_ValueError,⟨_,PySem.W.mg_of X G v_MOST_PLACES⟩,⟨_,PySem.W.mg_of X G v_LEAST_TOLL⟩,⟨_,PySem.W.mg_of X G v_MOST_TOLL⟩,⟨Dg,Ck,C1,B6⟩,n_many_Web,n_roads_Web,⟨ss,sx,sg,sj⟩,n_web_Outlook,n_needs_Outlook,n_kids_Outlook,n_idle_Outlook⟩
 have F_check_counts:=aV (st:=bj) kW kT kU;have b_check_counts:=F_check_counts.binds (ps:=["many","roads"]) fun _ _ _ _ _ _ us hl=>by obtain ⟨u0,u1,rfl⟩:=us2 hl;rfl
 have d9:Df K mg "check_counts" bj ["many","roads"] dq _:=⟨F_check_counts,PySem.W.mg_of X G kN,b_check_counts⟩;have F_is_place:=aV (st:=cV) sQ rB rn;have b_is_place:=F_is_place.binds (ps:=["many","number"]) fun _ _ _ _ _ _ us hl=>by obtain ⟨u0,u1,rfl⟩:=us2 hl;rfl
 have bU:Df K mg "is_place" cV ["many","number"] dB _:=⟨F_is_place,PySem.W.mg_of X G rQ,b_is_place⟩;have F_check_ends:=aV (st:=bP) nB nC mV;have b_check_ends:=F_check_ends.binds (ps:=["many","road"]) fun _ _ _ _ _ _ us hl=>by obtain ⟨u0,u1,rfl⟩:=us2 hl;rfl
 have fJ:Df K mg "check_ends" bP ["many","road"] eI _:=⟨F_check_ends,PySem.W.mg_of X G nU,b_check_ends⟩;have F_other_ends:=aV (st:=bJ) oq nK m7;have b_other_ends:=F_other_ends.binds (ps:=["roads","place"]) fun _ _ _ _ _ _ us hl=>by obtain ⟨u0,u1,rfl⟩:=us2 hl;rfl
 have b4:Df K mg "other_ends" bJ ["roads","place"] cz _:=⟨F_other_ends,PySem.W.mg_of X G nu,b_other_ends⟩;have F_check_joined:=aV (st:=aL) kP kD kC;have b_check_joined:=F_check_joined.binds (ps:=["many","roads"]) fun _ _ _ _ _ _ us hl=>by obtain ⟨u0,u1,rfl⟩:=us2 hl;rfl
 have d8:Df K mg "check_joined" aL ["many","roads"] dk _:=⟨F_check_joined,PySem.W.mg_of X G kJ,b_check_joined⟩;have F_check_tolls:=aV (st:=bw) lU lV lY;have b_check_tolls:=F_check_tolls.binds (ps:=["road"]) fun _ _ _ _ _ _ us hl=>by obtain ⟨u0,rfl⟩:=us1 hl;rfl
 have eR:Df K mg "check_tolls" bw ["road"] dQ _:=⟨F_check_tolls,PySem.W.mg_of X G md,b_check_tolls⟩;have F_Web___init__:=aV (st:=aM) kO kF kz;have b_Web:=F_Web___init__.binds (ps:=["self","many","roads"]) fun _ _ _ _ _ _ us hl=>by obtain ⟨u0,u1,u2,rfl⟩:=us3 hl;rfl
 have F_law_drawn:=aV (st:=be) pP pB qg;have b_law_drawn:=F_law_drawn.binds (ps:=["script","k"]) fun _ _ _ _ _ _ us hl=>by obtain ⟨u0,u1,rfl⟩:=us2 hl;rfl
 have az:Df K mg "_law_drawn" be ["script","k"] ba _:=⟨F_law_drawn,PySem.W.mg_of X G p8,b_law_drawn⟩;have F_law_bound:=aV (st:=cD) p9 pU p7;have b_law_bound:=F_law_bound.binds (ps:=["script"]) fun _ _ _ _ _ _ us hl=>by obtain ⟨u0,rfl⟩:=us1 hl;rfl
 have gN:Df K mg "_law_bound" cD ["script"] fm _:=⟨F_law_bound,PySem.W.mg_of X G pJ,b_law_bound⟩;have F_check_place:=aV (st:=bn) lX mh l5;have b_check_place:=F_check_place.binds (ps:=["web","number"]) fun _ _ _ _ _ _ us hl=>by obtain ⟨u0,u1,rfl⟩:=us2 hl;rfl
 have aI:Df K mg "check_place" bn ["web","number"] bu _:=⟨F_check_place,PySem.W.mg_of X G lS,b_check_place⟩;have F_neighbours:=aV (st:=bI) n9 nY mN;have b_neighbours:=F_neighbours.binds (ps:=["web","a"]) fun _ _ _ _ _ _ us hl=>by obtain ⟨u0,u1,rfl⟩:=us2 hl;rfl
 have fK:Df K mg "neighbours" bI ["web","a"] eG _:=⟨F_neighbours,PySem.W.mg_of X G nX,b_neighbours⟩;have F_kids:=aV (st:=eB) Cj B9 Cz;have b_kids:=F_kids.binds (ps:=["web","place","front"]) fun _ _ _ _ _ _ us hl=>by obtain ⟨u0,u1,u2,rfl⟩:=us3 hl;rfl
 have dR:Df K mg "kids" eB ["web","place","front"] fM _:=⟨F_kids,PySem.W.mg_of X G CT,b_kids⟩;have F_ahead:=aV (st:=ce) zt zz Ah;have b_ahead:=F_ahead.binds (ps:=["web","r"]) fun _ _ _ _ _ _ us hl=>by obtain ⟨u0,u1,rfl⟩:=us2 hl;rfl
 have c8:Df K mg "ahead" ce ["web","r"] eg _:=⟨F_ahead,PySem.W.mg_of X G zS,b_ahead⟩;have F_added:=aV (st:=dM) z9 zg Aa;have b_added:=F_added.binds (ps:=["one","other"]) fun _ _ _ _ _ _ us hl=>by obtain ⟨u0,u1,rfl⟩:=us2 hl;rfl
 have di:Df K mg "added" dM ["one","other"] db _:=⟨F_added,PySem.W.mg_of X G Ad,b_added⟩;have F_idle_kids:=aV (st:=bi) qc pd pZ;have b_idle_kids:=F_idle_kids.binds (ps:=["outlook","place","left_out"]) fun _ _ _ _ _ _ us hl=>by obtain ⟨u0,u1,u2,rfl⟩:=us3 hl;rfl
 have bf:Df K mg "idle_kids" bi ["outlook","place","left_out"] bp _:=⟨F_idle_kids,PySem.W.mg_of X G pN,b_idle_kids⟩;have F_toll:=aV (st:=cA) CN DQ BF;have b_toll:=F_toll.binds (ps:=["web","a","b"]) fun _ _ _ _ _ _ us hl=>by obtain ⟨u0,u1,u2,rfl⟩:=us3 hl;rfl
 have b6:Df K mg "toll" cA ["web","a","b"] c7 _:=⟨F_toll,PySem.W.mg_of X G Cd,b_toll⟩;have F_total:=aV (st:=ee) z0 zE zJ;have b_total:=F_total.binds (ps:=["numbers"]) fun _ _ _ _ _ _ us hl=>by obtain ⟨u0,rfl⟩:=us1 hl;rfl
 have bR:Df K mg "total" ee ["numbers"] c9 _:=⟨F_total,PySem.W.mg_of X G zu,b_total⟩;have F_load_by:=aV (st:=bz) uJ t9 uY;have b_load_by:=F_load_by.binds (ps:=["outlook","place","kid","room"]) fun _ _ _ _ _ _ us hl=>by obtain ⟨u0,u1,u2,u3,rfl⟩:=us4 hl;rfl
 have f8:Df K mg "load_by" bz ["outlook","place","kid","room"] f9 _:=⟨F_load_by,PySem.W.mg_of X G tZ,b_load_by⟩;have F_greatest_load:=aV (st:=aB) jP kb j4;have b_greatest_load:=F_greatest_load.binds (ps:=["outlook","place","over"]) fun _ _ _ _ _ _ us hl=>by obtain ⟨u0,u1,u2,rfl⟩:=us3 hl;rfl
 have D_greatest_load:Df K mg "greatest_load" aB ["outlook","place","over"] bd _:=⟨F_greatest_load,PySem.W.mg_of X G jS,b_greatest_load⟩;have F_idle_load:=aV (st:=bL) pS qa pF;have b_idle_load:=F_idle_load.binds (ps:=["outlook","place","front"]) fun _ _ _ _ _ _ us hl=>by obtain ⟨u0,u1,u2,rfl⟩:=us3 hl;rfl
 have gL:Df K mg "idle_load" bL ["outlook","place","front"] ft _:=⟨F_idle_load,PySem.W.mg_of X G pK,b_idle_load⟩;have F_down:=aV (st:=dh) Dp DK Dv;have b_down:=F_down.binds (ps:=["web","r"]) fun _ _ _ _ _ _ us hl=>by obtain ⟨u0,u1,rfl⟩:=us2 hl;rfl
 have qx:Df K mg "down" dh ["web","r"] nV _:=⟨F_down,PySem.W.mg_of X G Ce,b_down⟩;have F_inward:=aV (st:=cg) xy xD xt;have b_inward:=F_inward.binds (ps:=["web","r"]) fun _ _ _ _ _ _ us hl=>by obtain ⟨u0,u1,rfl⟩:=us2 hl;rfl
 have eA:Df K mg "inward" cg ["web","r"] fk _:=⟨F_inward,PySem.W.mg_of X G xB,b_inward⟩;have F_is_filled:=aV (st:=b7) pi pj qf;have b_is_filled:=F_is_filled.binds (ps:=["web","numbers"]) fun _ _ _ _ _ _ us hl=>by obtain ⟨u0,u1,rfl⟩:=us2 hl;rfl
 have gM:Df K mg "is_filled" b7 ["web","numbers"] fA _:=⟨F_is_filled,PySem.W.mg_of X G pX,b_is_filled⟩;have F_wish_of:=aV (st:=ck) uV uR uo;have b_wish_of:=F_wish_of.binds (ps:=["web","numbers"]) fun _ _ _ _ _ _ us hl=>by obtain ⟨u0,u1,rfl⟩:=us2 hl;rfl
 have dE:Df K mg "wish_of" ck ["web","numbers"] d4 _:=⟨F_wish_of,PySem.W.mg_of X G uM,b_wish_of⟩;have F_needs:=aV (st:=b9) zH zm zQ;have b_needs:=F_needs.binds (ps:=["web","wish","r"]) fun _ _ _ _ _ _ us hl=>by obtain ⟨u0,u1,u2,rfl⟩:=us3 hl;rfl
 have fX:Df K mg "needs" b9 ["web","wish","r"] gI _:=⟨F_needs,PySem.W.mg_of X G zX,b_needs⟩;have F_Outlook___init__:=aV (st:=aA) iw ic iC;have b_Outlook:=F_Outlook___init__.binds (ps:=["self","web","wish","r"]) fun _ _ _ _ _ _ us hl=>by obtain ⟨u0,u1,u2,u3,rfl⟩:=us4 hl;rfl
 have F_failing:=aV (st:=ci) uH tV uS;have b_failing:=F_failing.binds (ps:=["web","wish","r"]) fun _ _ _ _ _ _ us hl=>by obtain ⟨u0,u1,u2,rfl⟩:=us3 hl;rfl
 have jM:Df K mg "failing" ci ["web","wish","r"] iA _:=⟨F_failing,PySem.W.mg_of X G vM,b_failing⟩;have F_is_idle:=aV (st:=cM) vB vD vl;have b_is_idle:=F_is_idle.binds (ps:=["web","wish"]) fun _ _ _ _ _ _ us hl=>by obtain ⟨u0,u1,rfl⟩:=us2 hl;rfl
 have dC:Df K mg "is_idle" cM ["web","wish"] d6 _:=⟨F_is_idle,PySem.W.mg_of X G uN,b_is_idle⟩;have F_fails:=aV (st:=cG) zn za zf;have b_fails:=F_fails.binds (ps:=["web","wish"]) fun _ _ _ _ _ _ us hl=>by obtain ⟨u0,u1,rfl⟩:=us2 hl;rfl
 have fW:Df K mg "fails" cG ["web","wish"] gO _:=⟨F_fails,PySem.W.mg_of X G zw,b_fails⟩;have F_always:=aV (st:=cY) xF wU xq;have b_always:=F_always.binds (ps:=["web","wish"]) fun _ _ _ _ _ _ us hl=>by obtain ⟨u0,u1,rfl⟩:=us2 hl;rfl
 have eJ:Df K mg "always" cY ["web","wish"] fj _:=⟨F_always,PySem.W.mg_of X G xh,b_always⟩;have F_pile_need:=aV (st:=b8) pQ pY ph;have b_pile_need:=F_pile_need.binds (ps:=["web","wish","v"]) fun _ _ _ _ _ _ us hl=>by obtain ⟨u0,u1,u2,rfl⟩:=us3 hl;rfl
 have gK:Df K mg "pile_need" b8 ["web","wish","v"] fx _:=⟨F_pile_need,PySem.W.mg_of X G pM,b_pile_need⟩;have F_law_kinds:=aV (st:=aG) qb pD qd;have b_law_kinds:=F_law_kinds.binds (ps:=["sort","web","wish","r"]) fun _ _ _ _ _ _ us hl=>by obtain ⟨u0,u1,u2,u3,rfl⟩:=us4 hl;rfl
 have aQ:Df K mg "_law_kinds" aG ["sort","web","wish","r"] fq _:=⟨F_law_kinds,PySem.W.mg_of X G pO,b_law_kinds⟩;have F_law_spoilt:=aV (st:=bC) nQ ni mO;have b_law_spoilt:=F_law_spoilt.binds (ps:=["numbers","cell"]) fun _ _ _ _ _ _ us hl=>by obtain ⟨u0,u1,rfl⟩:=us2 hl;rfl
 have fN:Df K mg "_law_spoilt" bC ["numbers","cell"] eD _:=⟨F_law_spoilt,PySem.W.mg_of X G mT,b_law_spoilt⟩;have F_law_toll:=aV (st:=d0) rj sD rR;have b_law_toll:=F_law_toll.binds (ps:=["part"]) fun _ _ _ _ _ _ us hl=>by obtain ⟨u0,rfl⟩:=us1 hl;rfl
 have dZ:Df K mg "_law_toll" d0 ["part"] gd _:=⟨F_law_toll,PySem.W.mg_of X G r9,b_law_toll⟩;have F_law_roads:=aV (st:=aX) pf pR pT;have b_law_roads:=F_law_roads.binds (ps:=["script","many","shape"]) fun _ _ _ _ _ _ us hl=>by obtain ⟨u0,u1,u2,rfl⟩:=us3 hl;rfl
 have gJ:Df K mg "_law_roads" aX ["script","many","shape"] fw _:=⟨F_law_roads,PySem.W.mg_of X G pW,b_law_roads⟩;have F_law_web:=aV (st:=cj) uw vh vx;have b_law_web:=F_law_web.binds (ps:=["script","reach"]) fun _ _ _ _ _ _ us hl=>by obtain ⟨u0,u1,rfl⟩:=us2 hl;rfl
 have jI:Df K mg "_law_web" cj ["script","reach"] iG _:=⟨F_law_web,PySem.W.mg_of X G uO,b_law_web⟩;have F_law_wish:=aV (st:=bD) rN sG r6;have b_law_wish:=F_law_wish.binds (ps:=["script","many","bound"]) fun _ _ _ _ _ _ us hl=>by obtain ⟨u0,u1,u2,rfl⟩:=us3 hl;rfl
 have iQ:Df K mg "_law_wish" bD ["script","many","bound"] gf _:=⟨F_law_wish,PySem.W.mg_of X G rq,b_law_wish⟩;have F_law:=aV (st:=bG) FG F0 Gu;have b_law:=F_law.binds (ps:=["script"]) fun _ _ _ _ _ _ us hl=>by obtain ⟨u0,rfl⟩:=us1 hl;rfl
 have OF:Df K mg "law" bG ["script"] fa _:=⟨F_law,PySem.W.mg_of X G Bs,b_law⟩;refine ⟨PySem.W.fnOf "law" "law" (aF bG) (aE bG) (aa bG) .none Hv HH He GQ CS GP,fun s v=>.of_eq rfl,fun base _ _=>?_⟩;have FE:Mk K T.Web f_Web___init__:=⟨BS,kR,k7,Dy⟩;have uh:Mk K T.Outlook f_Outlook___init__:=⟨sN,ik,ir,qU⟩;have G_check_counts:=yG (P:=l.prog) (w:=w) (base:=base) T aU d9;have G_is_place:=Er (P:=l.prog) (w:=w) (base:=base) T aU bU;have G_check_ends:=Bg (P:=l.prog) (w:=w) (base:=base) T aU fJ bU G_is_place;have G_other_ends:=Bj (P:=l.prog) (w:=w) (base:=base) T aU b4;have G_check_joined:=ya (P:=l.prog) (w:=w) (base:=base) T aU d8 b4 G_other_ends;have G_check_tolls:=Af (P:=l.prog) (w:=w) (base:=base) T aU eR;have G_Web_init:=yV (P:=l.prog) (w:=w) (base:=base) T aU F_Web___init__ d9 G_check_counts fJ G_check_ends d8 G_check_joined eR G_check_tolls;have G_law_drawn:=Dr (P:=l.prog) (w:=w) (base:=base) T aU az;have G_law_bound:=Cu (P:=l.prog) (w:=w) (base:=base) T aU gN az G_law_drawn;have G_check_place:=zA (P:=l.prog) (w:=w) (base:=base) T aU aI bU G_is_place;have G_neighbours:=Ba (P:=l.prog) (w:=w) (base:=base) T aU fK aI G_check_place b4 G_other_ends;have G_kids:=LY (P:=l.prog) (w:=w) (base:=base) T aU dR fK G_neighbours;have G_ahead:=Jm (P:=l.prog) (w:=w) (base:=base) T aU c8 aI G_check_place dR G_kids;have G_added:=Iq (P:=l.prog) (w:=w) (base:=base) T aU di;have G_idle_kids:=DF (P:=l.prog) (w:=w) (base:=base) T aU bf di G_added;have G_toll:=Mr (P:=l.prog) (w:=w) (base:=base) T aU b6 aI G_check_place;have G_total:=KR (P:=l.prog) (w:=w) (base:=base) T aU bR;have G_greatest_load:=wZ (P:=l.prog) (w:=w) (base:=base) T aU D_greatest_load f8 di G_added bf G_idle_kids b6 G_toll bR G_total;have G_idle_load:=Dn (P:=l.prog) (w:=w) (base:=base) T aU gL D_greatest_load G_greatest_load bf G_idle_kids b6 G_toll;have G_down:=MD (P:=l.prog) (w:=w) (base:=base) T aU qx c8 G_ahead dR G_kids;have G_inward:=Hx (P:=l.prog) (w:=w) (base:=base) T aU eA c8 G_ahead qx G_down;have G_is_filled:=BQ (P:=l.prog) (w:=w) (base:=base) T aU gM;have G_wish_of:=Gg (P:=l.prog) (w:=w) (base:=base) T aU dE gM G_is_filled;have G_needs:=IW (P:=l.prog) (w:=w) (base:=base) T aU fX eA G_inward b6 G_toll dE G_wish_of;have G_Outlook_init:=tQ (P:=l.prog) (w:=w) (base:=base) T aU F_Outlook___init__ c8 G_ahead gL G_idle_load eA G_inward dR G_kids fX G_needs;have G_failing:=E4 (P:=l.prog) (w:=w) (base:=base) T aU jM F_Outlook___init__ b_Outlook uh G_Outlook_init D_greatest_load G_greatest_load;have G_is_idle:=FJ (P:=l.prog) (w:=w) (base:=base) T aU dC bR G_total dE G_wish_of;have G_fails:=JV (P:=l.prog) (w:=w) (base:=base) T aU fW jM G_failing dC G_is_idle;have G_always:=Hq (P:=l.prog) (w:=w) (base:=base) T aU eJ fW G_fails dC G_is_idle bR G_total;have G_pile_need:=BE (P:=l.prog) (w:=w) (base:=base) T aU gK fX G_needs;have G_law_kinds:=Cc (P:=l.prog) (w:=w) (base:=base) T aU aQ eJ G_always fW G_fails gK G_pile_need;have G_law_spoilt:=AW (P:=l.prog) (w:=w) (base:=base) T aU fN;have G_law_toll:=Ek (P:=l.prog) (w:=w) (base:=base) T aU dZ;have G_law_roads:=Cp (P:=l.prog) (w:=w) (base:=base) T aU gJ az G_law_drawn dZ G_law_toll;have G_law_web:=FI (P:=l.prog) (w:=w) (base:=base) T aU jI az G_law_drawn gJ G_law_roads;have G_law_wish:=D2 (P:=l.prog) (w:=w) (base:=base) T aU iQ az G_law_drawn;have G_law:=NQ (P:=l.prog) (w:=w) (base:=base) T aU OF F_Web___init__ b_Web FE G_Web_init gN G_law_bound az G_law_drawn aQ G_law_kinds fN G_law_spoilt jI G_law_web iQ G_law_wish eJ G_always;exact G_law
theorem walk {l:PySem.W.OpenLaw} {q:Program} {loose:List Str} {XP:(Str->Option Value)->Heap->Prop} {YP:World->Heap->Prop} {d:DefRec} {K:Params->PySem.W.Frag} (hn:l.most=some 63) (hdf:d.params.defaults=[])
   (hY:∀ (w:World) (h:Heap),YP w h->(K w.params).In h)
   (F:∀ (w:World) (mg:Str->Option Value) (fa:Addr) (h:Heap),(K w.params).In h->h.Ns mainGlobals mg->mg d.name=some (.ref fa) ->
     ∃ fd:FuncData,(∀ (s:Shared) (u:Value),BindsTo s fd ⟨[u],[]⟩ [("script",u)])/\∀ base:Heap,(K w.params).In base->base.Ns mainGlobals mg->FnOk l.prog w (K w.params) mg base (CXe l.prog w) 62 fa fd ["script"] (Bu (K w.params))) :
   PySem.W.WalkO q loose XP YP l.row.toRowW d [] (fun f vs=>PySem.call f vs) :=
 L2.walk_of (n:=63) (k:=62) (x:="script") (CX:=fun w=>(CXe l.prog w)) (sp:=fun w=>Bu (K w.params)) hn (by decide) hdf ⟨rfl,by decide,by decide⟩ hY F (fun _ _ a ns hl _ hS=>⟨a,ns,rfl,hS,hl,fun _=>rfl⟩) fun _ _ _ _ _ z=>aU _ _ _ _ _ z
end Pk
open PySem PySem.W PyProof.Rows
set_option maxRecDepth 100000 in
set_option maxHeartbeats 0 in
theorem PySem.Challenge.cw_pebbletoll_k42_always_refused_holds : PySem.Challenge.rw_pebbletoll_k42_always_refused.Holds := by
 w_on;o_law
 refine PySem.W.holds_open (q:=Hd.qq) (loose:=[]) (Xt:=(fun s=>PySem.W.xlAt Hd.qq [] s && PySem.W.recOk (PySem.W.RowW.records (PySem.W.OpenRow.toRowW (PySem.Challenge.rw_pebbletoll_k42_always_refused).row)) s)) (XP:=PySem.W.XL Hd.qq []) (Yf:=PySem.W.Hook.obs (PySem.W.kHook Hd.KK Hd.asK Hd.asK_eq)) (Ya:=PySem.W.Hook.val (PySem.W.kHook Hd.KK Hd.asK Hd.asK_eq)) (YP:=PySem.W.Hook.says (PySem.W.kHook Hd.KK Hd.asK Hd.asK_eq)) (N:=6440) Hd.left (PySem.W.Hook.of (PySem.W.kHook Hd.KK Hd.asK Hd.asK_eq)) (PySem.W.Hook.keeps (PySem.W.kHook Hd.KK Hd.asK Hd.asK_eq)) (fun s e=>PySem.W.xl_of s (Bool.and_eq_true_iff.mp e).1) PySem.W.XL.keeps (by rfl) (by rfl) (by rfl) (fun s e=>PySem.W.recFacts_of (Bool.and_eq_true_iff.mp e).2) (by rfl) (by assumption) (by decide +kernel) ⟨rfl,rfl,rfl,rfl,rfl,by decide +kernel⟩ ?hw ?hc
 (case hw=>w_witness2)
 k_fill
 refine Pk.walk (l:=PySem.Challenge.rw_pebbletoll_k42_always_refused) rfl rfl (fun w h Y=>PySem.W.kIn_of Y) ?F
 case F =>
   intro w mg fa h KX G hmg;refine' Pk.all_mk KX G hmg ?nO ?uq ?sL ?tX ?nh ?sO ?rD ?BN ?rS ?nj ?nA ?m8 ?nG ?nL ?mQ ?oh ?vG ?vw ?u6 ?uA ?vo ?u9 ?uD ?mD ?rG ?rF ?q8 ?sF ?rV ?sH ?rL ?rA ?qW ?si ?o0 ?ui ?uC ?uZ ?uQ ?vy ?ut ?vI ?um ?uu ?vd ?nI ?nS ?nD ?nz ?nP ?n5 ?mL ?mC ?sv ?rp ?rM ?re ?sy ?qZ ?sI ?rK ?rh ?rd ?my ?sK ?sJ ?rE ?rm ?qV ?q9 ?su ?se ?sM ?rO ?xgs ?xtk ?xnd ?kN ?kW ?kT ?kU ?rQ ?sQ ?rB ?rn ?nU ?nB ?nC ?mV ?nu ?oq ?nK ?m7 ?kJ ?kP ?kD ?kC ?md ?lU ?lV ?lY ?kR ?k7 ?kO ?kF ?kz ?p8 ?pP ?pB ?qg ?pJ ?p9 ?pU ?p7 ?lS ?lX ?mh ?l5 ?nX ?n9 ?nY ?mN ?CT ?Cj ?B9 ?Cz ?zS ?zt ?zz ?Ah ?Ad ?z9 ?zg ?Aa ?pN ?qc ?pd ?pZ ?Cd ?CN ?DQ ?BF ?zu ?z0 ?zE ?zJ ?tZ ?uJ ?t9 ?uY ?jS ?jP ?kb ?j4 ?pK ?pS ?qa ?pF ?Ce ?Dp ?DK ?Dv ?xB ?xy ?xD ?xt ?pX ?pi ?pj ?qf ?uM ?uV ?uR ?uo ?zX ?zH ?zm ?zQ ?ik ?ir ?iw ?ic ?iC ?vM ?uH ?tV ?uS ?uN ?vB ?vD ?vl ?zw ?zn ?za ?zf ?xh ?xF ?wU ?xq ?pM ?pQ ?pY ?ph ?pO ?qb ?pD ?qd ?mT ?nQ ?ni ?mO ?r9 ?rj ?sD ?rR ?pW ?pf ?pR ?pT ?uO ?uw ?vh ?vx ?rq ?rN ?sG ?r6 ?Bs ?FG ?F0 ?Gu ?Dg ?Ck ?C1 ?B6 ?BS ?Dy ?n_many_Web ?n_roads_Web ?ss ?sx ?sg ?sj ?sN ?qU ?n_web_Outlook ?n_needs_Outlook ?n_kids_Outlook ?n_idle_Outlook ?z_range ?z_zip ?z_len ?z_isinstance ?z_all ?z_any ?z_int ?z_tuple ?z_list ?z_reversed ?z_sorted ?z_min ?z_max ?z_enumerate ?z_sum ?z_ValueError ?v_MOST_PLACES ?v_LEAST_TOLL ?v_MOST_TOLL
   (case nO=>k_is)
   (case uq=>k_is)
   (case sL=>k_is)
   (case tX=>k_is)
   (case nh=>k_is)
   (case sO=>k_is)
   (case rD=>k_is)
   (case BN=>k_is)
   (case rS=>k_is)
   (case nj=>k_is)
   (case nA=>rfl)
   (case m8=>k_is)
   (case nG=>k_is)
   (case nL=>k_is)
   (case mQ=>k_is)
   (case oh=>k_is)
   (case vG=>k_is)
   (case vw=>rfl)
   (case u6=>k_is)
   (case uA=>k_is)
   (case vo=>k_is)
   (case u9=>k_is)
   (case uD=>k_is)
   (case mD=>k_is)
   (case rG=>rfl)
   (case rF=>k_is)
   (case q8=>k_is)
   (case sF=>k_is)
   (case rV=>k_is)
   (case sH=>k_is)
   (case rL=>rfl)
   (case rA=>kernel_rfl)
   (case qW=>k_is)
   (case si=>kernel_rfl)
   (case o0=>k_is)
   (case ui=>rfl)
   (case uC=>k_is)
   (case uZ=>k_is)
   (case uQ=>k_is)
   (case vy=>k_is)
   (case ut=>k_is)
   (case vI=>rfl)
   (case um=>kernel_rfl)
   (case uu=>k_is)
   (case vd=>kernel_rfl)
   (case nI=>k_is)
   (case nS=>rfl)
   (case nD=>k_is)
   (case nz=>k_is)
   (case nP=>k_is)
   (case n5=>k_is)
   (case mL=>k_is)
   (case mC=>k_is)
   (case sv=>rfl)
   (case rp=>k_is)
   (case rM=>k_is)
   (case re=>k_is)
   (case sy=>k_is)
   (case qZ=>k_is)
   (case sI=>rfl)
   (case rK=>kernel_rfl)
   (case rh=>k_is)
   (case rd=>kernel_rfl)
   (case my=>k_is)
   (case sK=>rfl)
   (case sJ=>k_is)
   (case rE=>k_is)
   (case rm=>k_is)
   (case qV=>k_is)
   (case q9=>k_is)
   (case su=>rfl)
   (case se=>kernel_rfl)
   (case sM=>k_is)
   (case rO=>kernel_rfl)
   (case xgs=>k_is)
   (case xtk=>k_is)
   (case xnd=>decide)
   (case kN=>k_is)
   (case kW=>k_is)
   (case kT=>k_is)
   (case kU=>k_is)
   (case rQ=>k_is)
   (case sQ=>k_is)
   (case rB=>k_is)
   (case rn=>k_is)
   (case nU=>k_is)
   (case nB=>k_is)
   (case nC=>k_is)
   (case mV=>k_is)
   (case nu=>k_is)
   (case oq=>k_is)
   (case nK=>k_is)
   (case m7=>k_is)
   (case kJ=>k_is)
   (case kP=>k_is)
   (case kD=>k_is)
   (case kC=>k_is)
   (case md=>k_is)
   (case lU=>k_is)
   (case lV=>k_is)
   (case lY=>k_is)
   (case kR=>k_is)
   (case k7=>k_is)
   (case kO=>k_is)
   (case kF=>k_is)
   (case kz=>k_is)
   (case p8=>k_is)
   (case pP=>k_is)
   (case pB=>k_is)
   (case qg=>k_is)
   (case pJ=>k_is)
   (case p9=>k_is)
   (case pU=>k_is)
   (case p7=>k_is)
   (case lS=>k_is)
   (case lX=>k_is)
   (case mh=>k_is)
   (case l5=>k_is)
   (case nX=>k_is)
   (case n9=>k_is)
   (case nY=>k_is)
   (case mN=>k_is)
   (case CT=>k_is)
   (case Cj=>k_is)
   (case B9=>k_is)
   (case Cz=>k_is)
   (case zS=>k_is)
   (case zt=>k_is)
   (case zz=>k_is)
   (case Ah=>k_is)
   (case Ad=>k_is)
   (case z9=>k_is)
   (case zg=>k_is)
   (case Aa=>k_is)
   (case pN=>k_is)
   (case qc=>k_is)
   (case pd=>k_is)
   (case pZ=>k_is)
   (case Cd=>k_is)
   (case CN=>k_is)
   (case DQ=>k_is)
   (case BF=>k_is)
   (case zu=>k_is)
   (case z0=>k_is)
   (case zE=>k_is)
   (case zJ=>k_is)
   (case tZ=>k_is)
   (case uJ=>k_is)
   (case t9=>k_is)
   (case uY=>k_is)
   (case jS=>k_is)
   (case jP=>k_is)
   (case kb=>k_is)
   (case j4=>k_is)
   (case pK=>k_is)
   (case pS=>k_is)
   (case qa=>k_is)
   (case pF=>k_is)
   (case Ce=>k_is)
   (case Dp=>k_is)
   (case DK=>k_is)
   (case Dv=>k_is)
   (case xB=>k_is)
   (case xy=>k_is)
   (case xD=>k_is)
   (case xt=>k_is)
   (case pX=>k_is)
   (case pi=>k_is)
   (case pj=>k_is)
   (case qf=>k_is)
   (case uM=>k_is)
   (case uV=>k_is)
   (case uR=>k_is)
   (case uo=>k_is)
   (case zX=>k_is)
   (case zH=>k_is)
   (case zm=>k_is)
   (case zQ=>k_is)
   (case ik=>k_is)
   (case ir=>k_is)
   (case iw=>k_is)
   (case ic=>k_is)
   (case iC=>k_is)
   (case vM=>k_is)
   (case uH=>k_is)
   (case tV=>k_is)
   (case uS=>k_is)
   (case uN=>k_is)
   (case vB=>k_is)
   (case vD=>k_is)
   (case vl=>k_is)
   (case zw=>k_is)
   (case zn=>k_is)
   (case za=>k_is)
   (case zf=>k_is)
   (case xh=>k_is)
   (case xF=>k_is)
   (case wU=>k_is)
   (case xq=>k_is)
   (case pM=>k_is)
   (case pQ=>k_is)
   (case pY=>k_is)
   (case ph=>k_is)
   (case pO=>k_is)
   (case qb=>k_is)
   (case pD=>k_is)
   (case qd=>k_is)
   (case mT=>k_is)
   (case nQ=>k_is)
   (case ni=>k_is)
   (case mO=>k_is)
   (case r9=>k_is)
   (case rj=>k_is)
   (case sD=>k_is)
   (case rR=>k_is)
   (case pW=>k_is)
   (case pf=>k_is)
   (case pR=>k_is)
   (case pT=>k_is)
   (case uO=>k_is)
   (case uw=>k_is)
   (case vh=>k_is)
   (case vx=>k_is)
   (case rq=>k_is)
   (case rN=>k_is)
   (case sG=>k_is)
   (case r6=>k_is)
   (case Bs=>k_is)
   (case FG=>k_is)
   (case F0=>k_is)
   (case Gu=>k_is)
   (case Dg=>k_is)
   (case Ck=>k_is)
   (case C1=>k_is)
   (case B6=>k_is)
   (case BS=>k_is)
   (case Dy=>k_is)
   (case n_many_Web=>k_is)
   (case n_roads_Web=>k_is)
   (case ss=>k_is)
   (case sx=>k_is)
   (case sg=>k_is)
   (case sj=>k_is)
   (case sN=>k_is)
   (case qU=>k_is)
   (case n_web_Outlook=>k_is)
   (case n_needs_Outlook=>k_is)
   (case n_kids_Outlook=>k_is)
   (case n_idle_Outlook=>k_is)
   (case z_range=>k_is)
   (case z_zip=>k_is)
   (case z_len=>k_is)
   (case z_isinstance=>k_is)
   (case z_all=>k_is)
   (case z_any=>k_is)
   (case z_int=>k_is)
   (case z_tuple=>k_is)
   (case z_list=>k_is)
   (case z_reversed=>k_is)
   (case z_sorted=>k_is)
   (case z_min=>k_is)
   (case z_max=>k_is)
   (case z_enumerate=>k_is)
   (case z_sum=>k_is)
   (case z_ValueError=>k_is)
   (case v_MOST_PLACES=>k_is)
   (case v_LEAST_TOLL=>k_is)
   (case v_MOST_TOLL=>k_is)
#print axioms PySem.Challenge.cw_pebbletoll_k42_always_refused_holds