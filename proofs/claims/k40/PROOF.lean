import PyProof.Rows.All
import Wide.All
import OpenK.AllK
import Wide.FinOn
import Lean
import PyProof.EqAt
import PyProof.EqKinds
import PyProof.TupleCall
import PyProof.P3Eq
import PyProof.NeData
import PyProof.FitsBits
import PyProof.ZipIter
import PyProof.TupleIter
import KE.KRevIter
import PyProof.TupleOfGen
import PyProof.ListRange
import KE.KIsAll
import PyProof.ExcArgsOwn
import OpenK.KDescr
import PyProof.StationsW
import PyProof.ExcBaseAll.ValueError
import OpenK.KOwn
import PyProof.RulesAs
import PyProof.RulesDel
import PyProof.Rows.SortWalk
import PyProof.CompUse
import KE.KDictSum
import PyProof.WalkInts
import KE.KSortTup
import PyProof.Rows.TupDisplay
import KE.KIntText
import PyProof.JoinWalk
import PyProof.ExcInit
import PyProof.ExcClass2
import PySem.Challenge.RW_pebbletoll_k40_whole_any_laying_meets
set_option Elab.async false
set_option linter.all false
set_option maxRecDepth 100000
namespace Hd
open PySem
def top (i:Nat):Stmt:=PySem.Challenge.pw_pebbletoll_k40_whole_any_laying_meets.main.body.getD i (.Pass ⟨0,0,0,0⟩)
def inC (s:Stmt) (j:Nat):Stmt:=match s with
 | .ClassDef _ _ _ b _ _ _ _ _ _ _=>b.getD j (.Pass ⟨0,0,0,0⟩)
 | _=>.Pass ⟨0,0,0,0⟩
def kA (s:Stmt):Arguments:=match s with
 | .FunctionDef _ a _ _ _ _ _ _ _ _=>a
 | _=>{ posonlyargs:=[],args:=[],vararg:=none,kwonlyargs:=[],kw_defaults:=[],kwarg:=none,defaults:=[] }
def kB (s:Stmt):List Stmt:=match s with
 | .FunctionDef _ _ b _ _ _ _ _ _ _=>b
 | _=>[]
def kS (s:Stmt):Scope:=match s with
 | .FunctionDef _ _ _ _ _ _ sc _ _ _=>sc
 | _=>{ kind:=.function,names:=[],isGenerator:=false,isCoroutine:=false }
open PySem.W PySem.Calls PyProof.Rows
def en (P:Params) (s:Str) (t:Tok) (v:Value):DictEntry:=.mk (PyData.keyHash P s) (.str s t) v
def cO (a b:Str) (t1 t2 t3:Tok) (i1 i2 i3 i4 i5:Int) (r1:Value) (b1:Bool) (i6:Int) (r2 v1 v2 v3 r3:Value) (i7 i8:Int) (t4:Tok):Obj:=.mk (.type "code") none (.fields #[.str a t1,.str b t2,.str "/claim/cut.py" t3,.int i1 0,.int i2 0,.int i3 0,.int i4 0,.int i5 0,r1,.bool b1,.int i6 0,r2,v1,v2,v3,r3,.int i7 0,.int i8 0,.str "/claim/cut.py" t4]) #[]
def fR (a b:Str) (s:Stmt):Obj:=.mk .none none (.func (.mk a b (kA s) (.stmts (kB s)) (kS s) 0 [] .none .none .none .none none .none .none 0)) #[]
def fO (a b:Str) (s:Stmt) (pm cd:Value):Obj:=.mk (.type "function") none (.func (PySem.W.fnOf a b (kA s) (kB s) (kS s) .none .none .none pm none cd .none)) #[]
def tO (xs:Array Value):Obj:=.mk (.type "tuple") none (.seq xs 0) #[]
def x0:Obj:=(tO #[])
def x1:Obj:=(.mk .none none (.fields #[]) #[])
def x2:Obj:=(cO "<module>" "<module>" 182 183 184 1 0 0 0 0 (.ref 11) false 181 (.ref 12) .none .none .none .none 185 1 186)
def x3:Obj:=(.mk (.type "frame") none .plain #[(some (.ref 13)),(some (.ref 3)),(some (.ref 3)),none,(some (.str "__main__" 164)),none,(some (.ref 0))])
noncomputable def ha (P:Params):Heap:=.mk (.mk (boot_o_0 P::boot_o_1 P::boot_o_2 P::boot_o_3 P::boot_o_4 P::boot_o_5 P::boot_o_6 P::boot_o_7 P::boot_o_8 P::boot_o_9 P::boot_o_10 P::x0::x1::x2::x3::[])) (.mk [] [] [] 0 [] [] false #[] [] 0 false false false 0 [2000,10,10] false 0 true [] [] 0 false)
noncomputable def hb (P:Params):Heap:=.mk (.mk (boot_o_0 P::boot_o_1 P::boot_o_2 P::boot_o_3 P::boot_o_4 P::boot_o_5 P::boot_o_6 P::boot_o_7 P::boot_o_8 P::boot_o_9 P::boot_o_10 P::x0::x1::x2::x3::[])) (.mk [] [] [] 0 [] [] false #[] [] 0 false false false 0 [2000,10,10] false 0 true [] [] 0 false)
abbrev st0:List Stmt:=[top 0,top 1,top 2,top 3,top 4,top 5,top 6,top 7,top 8,top 9,top 10,top 11,top 12,top 13,top 14,top 15,top 16,top 17,top 18,top 19,top 20,top 21,top 22,top 23,top 24,top 25,top 26,top 27,top 28,top 29]
abbrev st1:List Stmt:=[top 30,top 31,top 32,top 33,top 34,top 35,top 36,top 37,top 38,top 39,top 40,top 41,top 42,top 43,top 44,top 45,top 46,top 47,top 48,top 49,top 50,top 51,top 52,top 53,top 54,top 55]
abbrev bb:List Stmt:=st0++(st1++([]))
def env:Env:={ scope:=PySem.Challenge.pw_pebbletoll_k40_whole_any_laying_meets.main.scope,locals:=mainNs,globals:=mainNs,cells:=[],code:=(.ref 13),frame:=some 14 }
abbrev cE:Code:=.body bb env
theorem Sz (w:World) (os:OsState):topGo treeTable PySem.Challenge.pw_pebbletoll_k40_whole_any_laying_meets w 11 (some (.ref 6)) 12 (Shared.mk (boot_heap w.params) (.mk []) boot_drawn boot_toks os) (topStub PySem.Challenge.pw_pebbletoll_k40_whole_any_laying_meets)=some ((Shared.mk (ha w.params) (.mk []) (.mk 0 0 0 0) 187 os),Thread.mk (denote treeTable cE) cE (.mk 0 0 0 0) [topFrame (.mk 0 0 0 0)]):=by kernel_rfl
theorem SF (w:World) (os:OsState):segRun treeTable PySem.Challenge.pw_pebbletoll_k40_whole_any_laying_meets w 11 (some (.ref 6)) 1 1 (Shared.mk (ha w.params) (.mk []) (.mk 0 0 0 0) 187 os) (blockOf bb env cE (.mk 0 0 0 0) [topFrame (.mk 0 0 0 0)])=some (.next,(Shared.mk (hb w.params) (.mk []) (.mk 0 0 0 0) 187 os),cE,(.mk 0 0 0 0)):=by kernel_rfl
def x4 (P:Params):Obj:=(.mk (.type "dict") none (.dict #[(en P "__name__" 165 (.str "pebbletoll.wishes" 461)),(en P "__doc__" 166 .none),(en P "__package__" 167 .none),(en P "__loader__" 168 (.builtin "__main__.__loader__#opaque")),(en P "__spec__" 169 .none),(en P "__annotations__" 170 (.ref 6)),(en P "__builtins__" 171 (.ref 4)),(en P "__file__" 173 (.str "/claim/cut.py" 172)),(en P "__cached__" 174 .none),(en P "TollError" 206 (.ref 24)),(en P "BadWeb" 222 (.ref 37)),(en P "NoPlace" 238 (.ref 49)),(en P "NoRoad" 254 (.ref 61)),(en P "BadWish" 270 (.ref 73)),(en P "NoWorst" 286 (.ref 85)),(en P "MOST_PLACES" 290 (.int 24 289)),(en P "LEAST_TOLL" 292 (.int 2 291)),(en P "MOST_TOLL" 294 (.int 1000000 293)),(en P "Web" 322 (.ref 102)),(en P "toll" 335 (.ref 113)),(en P "neighbours" 343 (.ref 120)),(en P "check_place" 351 (.ref 127)),(en P "is_place" 359 (.ref 134)),(en P "check_counts" 367 (.ref 141)),(en P "check_ends" 375 (.ref 148)),(en P "check_tolls" 383 (.ref 155)),(en P "check_joined" 395 (.ref 162)),(en P "other_ends" 405 (.ref 169)),(en P "is_filled" 413 (.ref 174)),(en P "total" 420 (.ref 181)),(en P "ahead" 435 (.ref 188)),(en P "down" 448 (.ref 195)),(en P "kids" 454 (.ref 200)),(en P "inward" 460 (.ref 205))] 34) #[])
def x5:Obj:=(.mk .none none (.fields #[(.int 2 0),(.int 0 0),(.ref 20),(.int 4 0),(.int 0 0),(.ref 33),(.int 6 0),(.int 0 0),(.ref 45),(.int 8 0),(.int 0 0),(.ref 57),(.int 10 0),(.int 0 0),(.ref 69),(.int 12 0),(.int 0 0),(.ref 81),(.int 18 0),(.int 0 0),(.ref 93),(.int 29 0),(.int 0 0),(.ref 112),(.int 38 0),(.int 0 0),(.ref 119),(.int 41 0),(.int 0 0),(.ref 126),(.int 44 0),(.int 0 0),(.ref 133),(.int 46 0),(.int 0 0),(.ref 140),(.int 51 0),(.int 0 0),(.ref 147),(.int 56 0),(.int 0 0),(.ref 154),(.int 60 0),(.int 0 0),(.ref 161),(.int 71 0),(.int 0 0),(.ref 168),(.int 80 0),(.int 0 0),(.ref 173),(.int 82 0),(.int 0 0),(.ref 180),(.int 85 0),(.int 0 0),(.ref 187),(.int 96 0),(.int 0 0),(.ref 194),(.int 106 0),(.int 0 0),(.ref 199),(.int 108 0),(.int 0 0),(.ref 204)]) #[])
def x6:Obj:=(tO #[(.type "ValueError")])
def x7:Obj:=(.mk (.type "builtin_function_or_method") none (.fields #[(.builtin "type.__prepare__"),(.type "type")]) #[])
def x8 (P:Params):Obj:=(.mk (.type "dict") none (.dict #[(en P "__module__" 196 (.str "pebbletoll.errors" 187)),(en P "__qualname__" 198 (.str "TollError" 197)),(en P "__firstlineno__" 200 (.int 2 199)),(en P "__static_attributes__" 201 (.ref 22))] 4) #[])
def x9:Obj:=(cO "TollError" "TollError" 191 192 193 2 0 0 0 0 (.ref 18) false 181 (.ref 19) .none .none .none .none 194 2 195)
def x10:Obj:=(.mk (.type "frame") none .plain #[(some (.ref 20)),(some (.ref 3)),(some (.ref 17)),none,(some (.str "pebbletoll.errors" 187)),none,(some (.ref 0))])
def x11 (P:Params):Obj:=(.mk (.type "dict") none (.dict #[(en P "__module__" 196 (.str "pebbletoll.errors" 187)),(en P "__firstlineno__" 200 (.int 2 199)),(en P "__static_attributes__" 201 (.ref 22)),(en P "__weakref__" 203 (.ref 25)),(en P "__doc__" 204 .none)] 3) #[])
def x12:Obj:=(.mk (.type "type") none (.cls (.mk "TollError" [(.type "ValueError")] [(.ref 24),(.type "ValueError"),(.type "Exception"),(.type "BaseException"),(.type "object")] 23 "TollError" true [] [(.ref 37),(.ref 49),(.ref 61),(.ref 73),(.ref 85)] false none false)) #[(some (.ref 15)),none,(some (.str "TollError" 189)),(some (.str "TollError" 197)),(some (.builtin "ValueError.__new__")),(some (.bool true))])
def x13:Obj:=(.mk (.type "getset_descriptor") none (.fields #[(.str "__weakref__" 202),(.ref 24),(.builtin "ExceptionGroup.__weakref__"),.none]) #[])
def x14:Obj:=(.mk (.type "super") none (.fields #[(.ref 24),(.ref 24),(.ref 24)]) #[])
def x15:Obj:=(.mk (.type "builtin_function_or_method") none (.fields #[(.builtin "object.__init_subclass__"),(.ref 24)]) #[])
def x16:Obj:=(tO #[(.ref 24)])
def x17 (P:Params):Obj:=(.mk (.type "dict") none (.dict #[(en P "__module__" 214 (.str "pebbletoll.errors" 187)),(en P "__qualname__" 216 (.str "BadWeb" 215)),(en P "__firstlineno__" 218 (.int 4 217)),(en P "__static_attributes__" 219 (.ref 35))] 4) #[])
def x18:Obj:=(cO "BadWeb" "BadWeb" 209 210 211 4 0 0 0 0 (.ref 31) false 181 (.ref 32) .none .none .none .none 212 4 213)
def x19:Obj:=(.mk (.type "frame") none .plain #[(some (.ref 33)),(some (.ref 3)),(some (.ref 30)),none,(some (.str "pebbletoll.errors" 187)),none,(some (.ref 0))])
def x20 (P:Params):Obj:=(.mk (.type "dict") none (.dict #[(en P "__module__" 214 (.str "pebbletoll.errors" 187)),(en P "__firstlineno__" 218 (.int 4 217)),(en P "__static_attributes__" 219 (.ref 35)),(en P "__doc__" 220 .none)] 2) #[])
def x21:Obj:=(.mk (.type "type") none (.cls (.mk "BadWeb" [(.ref 24)] [(.ref 37),(.ref 24),(.type "ValueError"),(.type "Exception"),(.type "BaseException"),(.type "object")] 36 "BadWeb" true [] [] false none false)) #[(some (.ref 28)),none,(some (.str "BadWeb" 207)),(some (.str "BadWeb" 215)),(some (.builtin "ValueError.__new__")),(some (.bool true))])
def x22:Obj:=(.mk (.type "super") none (.fields #[(.ref 37),(.ref 37),(.ref 37)]) #[])
def x23:Obj:=(.mk (.type "builtin_function_or_method") none (.fields #[(.builtin "object.__init_subclass__"),(.ref 37)]) #[])
def x24 (P:Params):Obj:=(.mk (.type "dict") none (.dict #[(en P "__module__" 230 (.str "pebbletoll.errors" 187)),(en P "__qualname__" 232 (.str "NoPlace" 231)),(en P "__firstlineno__" 234 (.int 6 233)),(en P "__static_attributes__" 235 (.ref 47))] 4) #[])
def x25:Obj:=(cO "NoPlace" "NoPlace" 225 226 227 6 0 0 0 0 (.ref 43) false 181 (.ref 44) .none .none .none .none 228 6 229)
def x26:Obj:=(.mk (.type "frame") none .plain #[(some (.ref 45)),(some (.ref 3)),(some (.ref 42)),none,(some (.str "pebbletoll.errors" 187)),none,(some (.ref 0))])
def x27 (P:Params):Obj:=(.mk (.type "dict") none (.dict #[(en P "__module__" 230 (.str "pebbletoll.errors" 187)),(en P "__firstlineno__" 234 (.int 6 233)),(en P "__static_attributes__" 235 (.ref 47)),(en P "__doc__" 236 .none)] 2) #[])
def x28:Obj:=(.mk (.type "type") none (.cls (.mk "NoPlace" [(.ref 24)] [(.ref 49),(.ref 24),(.type "ValueError"),(.type "Exception"),(.type "BaseException"),(.type "object")] 48 "NoPlace" true [] [] false none false)) #[(some (.ref 40)),none,(some (.str "NoPlace" 223)),(some (.str "NoPlace" 231)),(some (.builtin "ValueError.__new__")),(some (.bool true))])
def x29:Obj:=(.mk (.type "super") none (.fields #[(.ref 49),(.ref 49),(.ref 49)]) #[])
def x30:Obj:=(.mk (.type "builtin_function_or_method") none (.fields #[(.builtin "object.__init_subclass__"),(.ref 49)]) #[])
def x31 (P:Params):Obj:=(.mk (.type "dict") none (.dict #[(en P "__module__" 246 (.str "pebbletoll.errors" 187)),(en P "__qualname__" 248 (.str "NoRoad" 247)),(en P "__firstlineno__" 250 (.int 8 249)),(en P "__static_attributes__" 251 (.ref 59))] 4) #[])
def x32:Obj:=(cO "NoRoad" "NoRoad" 241 242 243 8 0 0 0 0 (.ref 55) false 181 (.ref 56) .none .none .none .none 244 8 245)
def x33:Obj:=(.mk (.type "frame") none .plain #[(some (.ref 57)),(some (.ref 3)),(some (.ref 54)),none,(some (.str "pebbletoll.errors" 187)),none,(some (.ref 0))])
def x34 (P:Params):Obj:=(.mk (.type "dict") none (.dict #[(en P "__module__" 246 (.str "pebbletoll.errors" 187)),(en P "__firstlineno__" 250 (.int 8 249)),(en P "__static_attributes__" 251 (.ref 59)),(en P "__doc__" 252 .none)] 2) #[])
def x35:Obj:=(.mk (.type "type") none (.cls (.mk "NoRoad" [(.ref 24)] [(.ref 61),(.ref 24),(.type "ValueError"),(.type "Exception"),(.type "BaseException"),(.type "object")] 60 "NoRoad" true [] [] false none false)) #[(some (.ref 52)),none,(some (.str "NoRoad" 239)),(some (.str "NoRoad" 247)),(some (.builtin "ValueError.__new__")),(some (.bool true))])
def x36:Obj:=(.mk (.type "super") none (.fields #[(.ref 61),(.ref 61),(.ref 61)]) #[])
def x37:Obj:=(.mk (.type "builtin_function_or_method") none (.fields #[(.builtin "object.__init_subclass__"),(.ref 61)]) #[])
def x38 (P:Params):Obj:=(.mk (.type "dict") none (.dict #[(en P "__module__" 262 (.str "pebbletoll.errors" 187)),(en P "__qualname__" 264 (.str "BadWish" 263)),(en P "__firstlineno__" 266 (.int 10 265)),(en P "__static_attributes__" 267 (.ref 71))] 4) #[])
def x39:Obj:=(cO "BadWish" "BadWish" 257 258 259 10 0 0 0 0 (.ref 67) false 181 (.ref 68) .none .none .none .none 260 10 261)
def x40:Obj:=(.mk (.type "frame") none .plain #[(some (.ref 69)),(some (.ref 3)),(some (.ref 66)),none,(some (.str "pebbletoll.errors" 187)),none,(some (.ref 0))])
def x41 (P:Params):Obj:=(.mk (.type "dict") none (.dict #[(en P "__module__" 262 (.str "pebbletoll.errors" 187)),(en P "__firstlineno__" 266 (.int 10 265)),(en P "__static_attributes__" 267 (.ref 71)),(en P "__doc__" 268 .none)] 2) #[])
def x42:Obj:=(.mk (.type "type") none (.cls (.mk "BadWish" [(.ref 24)] [(.ref 73),(.ref 24),(.type "ValueError"),(.type "Exception"),(.type "BaseException"),(.type "object")] 72 "BadWish" true [] [] false none false)) #[(some (.ref 64)),none,(some (.str "BadWish" 255)),(some (.str "BadWish" 263)),(some (.builtin "ValueError.__new__")),(some (.bool true))])
def x43:Obj:=(.mk (.type "super") none (.fields #[(.ref 73),(.ref 73),(.ref 73)]) #[])
def x44:Obj:=(.mk (.type "builtin_function_or_method") none (.fields #[(.builtin "object.__init_subclass__"),(.ref 73)]) #[])
def x45 (P:Params):Obj:=(.mk (.type "dict") none (.dict #[(en P "__module__" 278 (.str "pebbletoll.errors" 187)),(en P "__qualname__" 280 (.str "NoWorst" 279)),(en P "__firstlineno__" 282 (.int 12 281)),(en P "__static_attributes__" 283 (.ref 83))] 4) #[])
def x46:Obj:=(cO "NoWorst" "NoWorst" 273 274 275 12 0 0 0 0 (.ref 79) false 181 (.ref 80) .none .none .none .none 276 12 277)
def x47:Obj:=(.mk (.type "frame") none .plain #[(some (.ref 81)),(some (.ref 3)),(some (.ref 78)),none,(some (.str "pebbletoll.errors" 187)),none,(some (.ref 0))])
def x48 (P:Params):Obj:=(.mk (.type "dict") none (.dict #[(en P "__module__" 278 (.str "pebbletoll.errors" 187)),(en P "__firstlineno__" 282 (.int 12 281)),(en P "__static_attributes__" 283 (.ref 83)),(en P "__doc__" 284 .none)] 2) #[])
def x49:Obj:=(.mk (.type "type") none (.cls (.mk "NoWorst" [(.ref 24)] [(.ref 85),(.ref 24),(.type "ValueError"),(.type "Exception"),(.type "BaseException"),(.type "object")] 84 "NoWorst" true [] [] false none false)) #[(some (.ref 76)),none,(some (.str "NoWorst" 271)),(some (.str "NoWorst" 279)),(some (.builtin "ValueError.__new__")),(some (.bool true))])
def x50:Obj:=(.mk (.type "super") none (.fields #[(.ref 85),(.ref 85),(.ref 85)]) #[])
def x51:Obj:=(.mk (.type "builtin_function_or_method") none (.fields #[(.builtin "object.__init_subclass__"),(.ref 85)]) #[])
def x52 (P:Params):Obj:=(.mk (.type "dict") none (.dict #[(en P "__module__" 302 (.str "pebbletoll.webs" 287)),(en P "__qualname__" 304 (.str "Web" 303)),(en P "__firstlineno__" 306 (.int 18 305)),(en P "__init__" 312 (.ref 99)),(en P "__static_attributes__" 315 (.ref 100))] 5) #[])
def x53:Obj:=(.mk .none none (.fields #[(.int 20 0),(.int 4 0),(.ref 98)]) #[])
def x54:Obj:=(cO "Web" "Web" 297 298 299 18 0 0 0 0 (.ref 91) false 181 (.ref 92) .none .none .none .none 300 18 301)
def x55:Obj:=(.mk (.type "frame") none .plain #[(some (.ref 93)),(some (.ref 3)),(some (.ref 90)),none,(some (.str "pebbletoll.webs" 287)),none,(some (.ref 0))])
def x56:Obj:=(fR "__init__" "Web.__init__" (inC (top 11) 0))
def x57:Obj:=(cO "__init__" "Web.__init__" 307 308 309 20 3 0 0 3 (.ref 95) true 181 (.ref 96) .none .none .none (.ref 97) 310 20 311)
def x58:Obj:=(fO "__init__" "Web.__init__" (inC (top 11) 0) (.str "pebbletoll.webs" 287) (.ref 98))
def x59:Obj:=(tO #[(.str "many" 313),(.str "roads" 314)])
def x60 (P:Params):Obj:=(.mk (.type "dict") none (.dict #[(en P "__module__" 302 (.str "pebbletoll.webs" 287)),(en P "__firstlineno__" 306 (.int 18 305)),(en P "__init__" 312 (.ref 99)),(en P "__static_attributes__" 315 (.ref 100)),(en P "__dict__" 317 (.ref 103)),(en P "__weakref__" 319 (.ref 104)),(en P "__doc__" 320 .none)] 4) #[])
def x61:Obj:=(.mk (.type "type") none (.cls (.mk "Web" [(.type "object")] [(.ref 102),(.type "object")] 101 "Web" true [] [] false none false)) #[none,none,(some (.str "Web" 295)),(some (.str "Web" 303)),(some (.builtin "object.__new__")),(some (.bool true))])
def x62:Obj:=(.mk (.type "getset_descriptor") none (.fields #[(.str "__dict__" 316),(.ref 102),(.builtin "function.__dict__"),(.builtin "function.__dict__#set")]) #[])
def x63:Obj:=(.mk (.type "getset_descriptor") none (.fields #[(.str "__weakref__" 318),(.ref 102),(.builtin "ExceptionGroup.__weakref__"),.none]) #[])
def x64:Obj:=(.mk (.type "super") none (.fields #[(.ref 102),(.ref 102),(.ref 102)]) #[])
def x65:Obj:=(.mk (.type "builtin_function_or_method") none (.fields #[(.builtin "object.__init_subclass__"),(.ref 102)]) #[])
def x66:Obj:=(tO #[(.str "web" 326),(.str "a" 327),(.str "b" 328),(.str "one" 329),(.str "other" 330),(.str "there" 331),(.str "back" 332)])
def x67:Obj:=(fR "toll" "toll" (top 12))
def x68:Obj:=(cO "toll" "toll" 323 324 325 29 3 0 0 3 (.ref 107) true 181 (.ref 108) .none (.ref 109) (.ref 110) (.ref 111) 333 29 334)
def x69:Obj:=(fO "toll" "toll" (top 12) (.str "pebbletoll.webs" 287) (.ref 112))
def x70:Obj:=(tO #[(.str "web" 339),(.str "a" 340)])
def x71:Obj:=(fR "neighbours" "neighbours" (top 13))
def x72:Obj:=(cO "neighbours" "neighbours" 336 337 338 38 2 0 0 3 (.ref 114) true 181 (.ref 115) .none (.ref 116) (.ref 117) (.ref 118) 341 38 342)
def x73:Obj:=(fO "neighbours" "neighbours" (top 13) (.str "pebbletoll.webs" 287) (.ref 119))
def x74:Obj:=(tO #[(.str "web" 347),(.str "number" 348)])
def x75:Obj:=(fR "check_place" "check_place" (top 14))
def x76:Obj:=(cO "check_place" "check_place" 344 345 346 41 2 0 0 3 (.ref 121) true 181 (.ref 122) .none (.ref 123) (.ref 124) (.ref 125) 349 41 350)
def x77:Obj:=(fO "check_place" "check_place" (top 14) (.str "pebbletoll.webs" 287) (.ref 126))
def x78:Obj:=(tO #[(.str "many" 355),(.str "number" 356)])
def x79:Obj:=(fR "is_place" "is_place" (top 15))
def x80:Obj:=(cO "is_place" "is_place" 352 353 354 44 2 0 0 3 (.ref 128) true 181 (.ref 129) .none (.ref 130) (.ref 131) (.ref 132) 357 44 358)
def x81:Obj:=(fO "is_place" "is_place" (top 15) (.str "pebbletoll.webs" 287) (.ref 133))
def x82:Obj:=(tO #[(.str "many" 363),(.str "roads" 364)])
def x83:Obj:=(fR "check_counts" "check_counts" (top 16))
def x84:Obj:=(cO "check_counts" "check_counts" 360 361 362 46 2 0 0 3 (.ref 135) true 181 (.ref 136) .none (.ref 137) (.ref 138) (.ref 139) 365 46 366)
def x85:Obj:=(fO "check_counts" "check_counts" (top 16) (.str "pebbletoll.webs" 287) (.ref 140))
def x86:Obj:=(tO #[(.str "many" 371),(.str "road" 372)])
def x87:Obj:=(fR "check_ends" "check_ends" (top 17))
def x88:Obj:=(cO "check_ends" "check_ends" 368 369 370 51 2 0 0 3 (.ref 142) true 181 (.ref 143) .none (.ref 144) (.ref 145) (.ref 146) 373 51 374)
def x89:Obj:=(fO "check_ends" "check_ends" (top 17) (.str "pebbletoll.webs" 287) (.ref 147))
def x90:Obj:=(tO #[(.str "road" 379),(.str "number" 380)])
def x91:Obj:=(fR "check_tolls" "check_tolls" (top 18))
def x92:Obj:=(cO "check_tolls" "check_tolls" 376 377 378 56 1 0 0 3 (.ref 149) true 181 (.ref 150) .none (.ref 151) (.ref 152) (.ref 153) 381 56 382)
def x93:Obj:=(fO "check_tolls" "check_tolls" (top 18) (.str "pebbletoll.webs" 287) (.ref 154))
def x94:Obj:=(tO #[(.str "many" 387),(.str "roads" 388),(.str "reached" 389),(.str "waiting" 390),(.str "place" 391),(.str "end" 392)])
def x95:Obj:=(fR "check_joined" "check_joined" (top 19))
def x96:Obj:=(cO "check_joined" "check_joined" 384 385 386 60 2 0 0 3 (.ref 156) true 181 (.ref 157) .none (.ref 158) (.ref 159) (.ref 160) 393 60 394)
def x97:Obj:=(fO "check_joined" "check_joined" (top 19) (.str "pebbletoll.webs" 287) (.ref 161))
def x98:Obj:=(tO #[(.str "roads" 399),(.str "place" 400),(.str "ends" 401),(.str "road" 402)])
def x99:Obj:=(fR "other_ends" "other_ends" (top 20))
def IB:Obj:=(cO "other_ends" "other_ends" 396 397 398 71 2 0 0 3 (.ref 163) true 181 (.ref 164) .none (.ref 165) (.ref 166) (.ref 167) 403 71 404)
def IG:Obj:=(fO "other_ends" "other_ends" (top 20) (.str "pebbletoll.webs" 287) (.ref 168))
def ON:Obj:=(fR "is_filled" "is_filled" (top 22))
def Kl:Obj:=(cO "is_filled" "is_filled" 408 409 410 80 2 0 0 3 (.ref 170) true 181 (.ref 171) .none .none .none (.ref 172) 411 80 412)
def JU:Obj:=(fO "is_filled" "is_filled" (top 22) (.str "pebbletoll.layings" 406) (.ref 173))
def JD:Obj:=(tO #[(.str "numbers" 417)])
def Oe:Obj:=(fR "total" "total" (top 23))
def Kd:Obj:=(cO "total" "total" 414 415 416 82 1 0 0 3 (.ref 175) true 181 (.ref 176) .none (.ref 177) (.ref 178) (.ref 179) 418 82 419)
def JB:Obj:=(fO "total" "total" (top 23) (.str "pebbletoll.layings" 406) (.ref 180))
def Ig:Obj:=(tO #[(.str "web" 426),(.str "r" 427),(.str "nearer" 428),(.str "waiting" 429),(.str "place" 430),(.str "front" 431),(.str "kid" 432)])
def O7:Obj:=(fR "ahead" "ahead" (top 25))
def Jz:Obj:=(cO "ahead" "ahead" 423 424 425 85 2 0 0 3 (.ref 182) true 181 (.ref 183) .none (.ref 184) (.ref 185) (.ref 186) 433 85 434)
def Il:Obj:=(fO "ahead" "ahead" (top 25) (.str "pebbletoll.ways" 421) (.ref 187))
def Ix:Obj:=(tO #[(.str "web" 439),(.str "r" 440),(.str "nearer" 441),(.str "places" 442),(.str "waiting" 443),(.str "place" 444),(.str "kid" 445)])
def Nq:Obj:=(fR "down" "down" (top 26))
def IW:Obj:=(cO "down" "down" 436 437 438 96 2 0 0 3 (.ref 189) true 181 (.ref 190) .none (.ref 191) (.ref 192) (.ref 193) 446 96 447)
def JP:Obj:=(fO "down" "down" (top 26) (.str "pebbletoll.ways" 421) (.ref 194))
def OI:Obj:=(fR "kids" "kids" (top 27))
def Iu:Obj:=(cO "kids" "kids" 449 450 451 106 3 0 0 3 (.ref 196) true 181 (.ref 197) .none .none .none (.ref 198) 452 106 453)
def Jp:Obj:=(fO "kids" "kids" (top 27) (.str "pebbletoll.ways" 421) (.ref 199))
def ND:Obj:=(fR "inward" "inward" (top 28))
def JN:Obj:=(cO "inward" "inward" 455 456 457 108 2 0 0 3 (.ref 201) true 181 (.ref 202) .none .none .none (.ref 203) 458 108 459)
def IC:Obj:=(fO "inward" "inward" (top 28) (.str "pebbletoll.ways" 421) (.ref 204))
noncomputable def h0 (P:Params):Heap:=.mk (.mk (boot_o_0 P::boot_o_1 P::boot_o_2 P::x4 P::boot_o_4 P::boot_o_5 P::boot_o_6 P::boot_o_7 P::boot_o_8 P::boot_o_9 P::boot_o_10 P::x0::x5::x2::x3::x6::x7::x8 P::x0::x1::x9::x10::x0::x11 P::x12::x13::x14::x15::x16::x7::x17 P::x0::x1::x18::x19::x0::x20 P::x21::x22::x23::x16::x7::x24 P::x0::x1::x25::x26::x0::x27 P::x28::x29::x30::x16::x7::x31 P::x0::x1::x32::x33::x0::x34 P::x35::x36::x37::x16::x7::x38 P::x0::x1::x39::x40::x0::x41 P::x42::x43::x44::x16::x7::x45 P::x0::x1::x46::x47::x0::x48 P::x49::x50::x51::x0::x7::x52 P::x0::x53::x54::x55::x0::x1::x56::x57::x58::x59::x60 P::x61::x62::x63::x64::x65::x0::x1::x66::x0::x67::x68::x69::x0::x1::x70::x0::x71::x72::x73::x0::x1::x74::x0::x75::x76::x77::x0::x1::x78::x0::x79::x80::x81::x0::x1::x82::x0::x83::x84::x85::x0::x1::x86::x0::x87::x88::x89::x0::x1::x90::x0::x91::x92::x93::x0::x1::x94::x0::x95::x96::x97::x0::x1::x98::x0::x99::IB::IG::x0::x1::ON::Kl::JU::x0::x1::JD::x0::Oe::Kd::JB::x0::x1::Ig::x0::O7::Jz::Il::x0::x1::Ix::x0::Nq::IW::JP::x0::x1::OI::Iu::Jp::x0::x1::ND::JN::IC::[])) (.mk [] [] [] 0 [] [] false #[] [] 0 false false false 0 [2000,10,10] false 0 true [] [] 0 false)
theorem SB (w:World) (os:OsState):segRun treeTable PySem.Challenge.pw_pebbletoll_k40_whole_any_laying_meets w 11 (some (.ref 6)) 1 2001 (Shared.mk (hb w.params) (.mk []) (.mk 0 0 0 0) 187 os) (piecesOf st0 env cE (.mk 0 0 0 0) [topFrame (.mk 0 0 0 0)])=some (.next,(Shared.mk (h0 w.params) (.mk []) (.mk 0 0 0 0) 463 os),cE,(.mk 111 0 111 8)):=by kernel_rfl
def O0 (P:Params):Obj:=(.mk (.type "dict") none (.dict #[(en P "__name__" 165 (.str "law_pebbletoll_k40_whole_any_laying_meets" 597)),(en P "__doc__" 166 .none),(en P "__package__" 167 .none),(en P "__loader__" 168 (.builtin "__main__.__loader__#opaque")),(en P "__spec__" 169 .none),(en P "__annotations__" 170 (.ref 6)),(en P "__builtins__" 171 (.ref 4)),(en P "__file__" 173 (.str "/claim/cut.py" 172)),(en P "__cached__" 174 .none),(en P "TollError" 206 (.ref 24)),(en P "BadWeb" 222 (.ref 37)),(en P "NoPlace" 238 (.ref 49)),(en P "NoRoad" 254 (.ref 61)),(en P "BadWish" 270 (.ref 73)),(en P "NoWorst" 286 (.ref 85)),(en P "MOST_PLACES" 290 (.int 24 289)),(en P "LEAST_TOLL" 292 (.int 2 291)),(en P "MOST_TOLL" 294 (.int 1000000 293)),(en P "Web" 322 (.ref 102)),(en P "toll" 335 (.ref 113)),(en P "neighbours" 343 (.ref 120)),(en P "check_place" 351 (.ref 127)),(en P "is_place" 359 (.ref 134)),(en P "check_counts" 367 (.ref 141)),(en P "check_ends" 375 (.ref 148)),(en P "check_tolls" 383 (.ref 155)),(en P "check_joined" 395 (.ref 162)),(en P "other_ends" 405 (.ref 169)),(en P "is_filled" 413 (.ref 174)),(en P "total" 420 (.ref 181)),(en P "ahead" 435 (.ref 188)),(en P "down" 448 (.ref 195)),(en P "kids" 454 (.ref 200)),(en P "inward" 460 (.ref 205)),(en P "wish_of" 470 (.ref 212)),(en P "needs" 484 (.ref 219)),(en P "always" 492 (.ref 226)),(en P "fails" 498 (.ref 231)),(en P "is_idle" 506 (.ref 238)),(en P "failing" 515 (.ref 245)),(en P "Outlook" 545 (.ref 260)),(en P "idle_load" 554 (.ref 271)),(en P "idle_kids" 565 (.ref 278)),(en P "added" 571 (.ref 283)),(en P "greatest_load" 584 (.ref 290)),(en P "load_by" 596 (.ref 297)),(en P "_law_drawn" 609 (.ref 304)),(en P "_law_toll" 616 (.ref 311)),(en P "_law_roads" 631 (.ref 318)),(en P "_law_web" 641 (.ref 325)),(en P "_law_tolls" 653 (.ref 332)),(en P "_law_down" 667 (.ref 339)),(en P "_law_standings" 673 (.ref 344)),(en P "_law_bound" 681 (.ref 351)),(en P "_law_laying" 693 (.ref 358)),(en P "_law_wish" 705 (.ref 365)),(en P "_law_put" 723 (.ref 372)),(en P "law" 739 (.ref 379))] 58) #[])
def Q4:Obj:=(.mk .none none (.fields #[(.int 2 0),(.int 0 0),(.ref 20),(.int 4 0),(.int 0 0),(.ref 33),(.int 6 0),(.int 0 0),(.ref 45),(.int 8 0),(.int 0 0),(.ref 57),(.int 10 0),(.int 0 0),(.ref 69),(.int 12 0),(.int 0 0),(.ref 81),(.int 18 0),(.int 0 0),(.ref 93),(.int 29 0),(.int 0 0),(.ref 112),(.int 38 0),(.int 0 0),(.ref 119),(.int 41 0),(.int 0 0),(.ref 126),(.int 44 0),(.int 0 0),(.ref 133),(.int 46 0),(.int 0 0),(.ref 140),(.int 51 0),(.int 0 0),(.ref 147),(.int 56 0),(.int 0 0),(.ref 154),(.int 60 0),(.int 0 0),(.ref 161),(.int 71 0),(.int 0 0),(.ref 168),(.int 80 0),(.int 0 0),(.ref 173),(.int 82 0),(.int 0 0),(.ref 180),(.int 85 0),(.int 0 0),(.ref 187),(.int 96 0),(.int 0 0),(.ref 194),(.int 106 0),(.int 0 0),(.ref 199),(.int 108 0),(.int 0 0),(.ref 204),(.int 112 0),(.int 0 0),(.ref 211),(.int 117 0),(.int 0 0),(.ref 218),(.int 122 0),(.int 0 0),(.ref 225),(.int 126 0),(.int 0 0),(.ref 230),(.int 131 0),(.int 0 0),(.ref 237),(.int 133 0),(.int 0 0),(.ref 244),(.int 135 0),(.int 0 0),(.ref 251),(.int 144 0),(.int 0 0),(.ref 270),(.int 148 0),(.int 0 0),(.ref 277),(.int 154 0),(.int 0 0),(.ref 282),(.int 156 0),(.int 0 0),(.ref 289),(.int 165 0),(.int 0 0),(.ref 296),(.int 170 0),(.int 0 0),(.ref 303),(.int 179 0),(.int 0 0),(.ref 310),(.int 183 0),(.int 0 0),(.ref 317),(.int 198 0),(.int 0 0),(.ref 324),(.int 204 0),(.int 0 0),(.ref 331),(.int 210 0),(.int 0 0),(.ref 338),(.int 220 0),(.int 0 0),(.ref 343),(.int 228 0),(.int 0 0),(.ref 350),(.int 231 0),(.int 0 0),(.ref 357),(.int 238 0),(.int 0 0),(.ref 364),(.int 245 0),(.int 0 0),(.ref 371),(.int 266 0),(.int 0 0),(.ref 378)]) #[])
def Ox:Obj:=(tO #[(.str "web" 466),(.str "numbers" 467)])
def RQ:Obj:=(fR "wish_of" "wish_of" (top 30))
def NL:Obj:=(cO "wish_of" "wish_of" 463 464 465 112 2 0 0 3 (.ref 206) true 181 (.ref 207) .none (.ref 208) (.ref 209) (.ref 210) 468 112 469)
def Nd:Obj:=(fO "wish_of" "wish_of" (top 30) (.str "pebbletoll.wishes" 461) (.ref 211))
def O5:Obj:=(tO #[(.str "web" 476),(.str "wish" 477),(.str "r" 478),(.str "found" 479),(.str "place" 480),(.str "front" 481)])
def RJ:Obj:=(fR "needs" "needs" (top 32))
def Ng:Obj:=(cO "needs" "needs" 473 474 475 117 3 0 0 3 (.ref 213) true 181 (.ref 214) .none (.ref 215) (.ref 216) (.ref 217) 482 117 483)
def No:Obj:=(fO "needs" "needs" (top 32) (.str "pebbletoll.always" 471) (.ref 218))
def NQ:Obj:=(tO #[(.str "web" 488),(.str "wish" 489)])
def Rn:Obj:=(fR "always" "always" (top 33))
def Oa:Obj:=(cO "always" "always" 485 486 487 122 2 0 0 3 (.ref 220) true 181 (.ref 221) .none (.ref 222) (.ref 223) (.ref 224) 490 122 491)
def MY:Obj:=(fO "always" "always" (top 33) (.str "pebbletoll.always" 471) (.ref 225))
def R4:Obj:=(fR "fails" "fails" (top 34))
def NA:Obj:=(cO "fails" "fails" 493 494 495 126 2 0 0 3 (.ref 227) true 181 (.ref 228) .none .none .none (.ref 229) 496 126 497)
def NU:Obj:=(fO "fails" "fails" (top 34) (.str "pebbletoll.always" 471) (.ref 230))
def Mp:Obj:=(tO #[(.str "web" 502),(.str "wish" 503)])
def Rx:Obj:=(fR "is_idle" "is_idle" (top 35))
def Nr:Obj:=(cO "is_idle" "is_idle" 499 500 501 131 2 0 0 3 (.ref 232) true 181 (.ref 233) .none (.ref 234) (.ref 235) (.ref 236) 504 131 505)
def Nl:Obj:=(fO "is_idle" "is_idle" (top 35) (.str "pebbletoll.always" 471) (.ref 237))
def MO:Obj:=(tO #[(.str "web" 510),(.str "wish" 511),(.str "r" 512)])
def RI:Obj:=(fR "failing" "failing" (top 36))
def MX:Obj:=(cO "failing" "failing" 507 508 509 133 3 0 0 3 (.ref 239) true 181 (.ref 240) .none (.ref 241) (.ref 242) (.ref 243) 513 133 514)
def Na:Obj:=(fO "failing" "failing" (top 36) (.str "pebbletoll.always" 471) (.ref 244))
def RG (P:Params):Obj:=(.mk (.type "dict") none (.dict #[(en P "__module__" 523 (.str "pebbletoll.always" 471)),(en P "__qualname__" 525 (.str "Outlook" 524)),(en P "__firstlineno__" 527 (.int 135 526)),(en P "__init__" 533 (.ref 257)),(en P "__static_attributes__" 538 (.ref 258))] 5) #[])
def RH:Obj:=(.mk .none none (.fields #[(.int 137 0),(.int 4 0),(.ref 256)]) #[])
def QZ:Obj:=(cO "Outlook" "Outlook" 518 519 520 135 0 0 0 0 (.ref 249) false 181 (.ref 250) .none .none .none .none 521 135 522)
def RN:Obj:=(.mk (.type "frame") none .plain #[(some (.ref 251)),(some (.ref 3)),(some (.ref 248)),none,(some (.str "pebbletoll.always" 471)),none,(some (.ref 0))])
def Sb:Obj:=(fR "__init__" "Outlook.__init__" (inC (top 37) 0))
def MT:Obj:=(cO "__init__" "Outlook.__init__" 528 529 530 137 4 0 0 3 (.ref 253) true 181 (.ref 254) .none .none .none (.ref 255) 531 137 532)
def Pl:Obj:=(fO "__init__" "Outlook.__init__" (inC (top 37) 0) (.str "pebbletoll.always" 471) (.ref 256))
def Pn:Obj:=(tO #[(.str "idle" 534),(.str "kids" 535),(.str "needs" 536),(.str "web" 537)])
def Ms (P:Params):Obj:=(.mk (.type "dict") none (.dict #[(en P "__module__" 523 (.str "pebbletoll.always" 471)),(en P "__firstlineno__" 527 (.int 135 526)),(en P "__init__" 533 (.ref 257)),(en P "__static_attributes__" 538 (.ref 258)),(en P "__dict__" 540 (.ref 261)),(en P "__weakref__" 542 (.ref 262)),(en P "__doc__" 543 .none)] 4) #[])
def NY:Obj:=(.mk (.type "type") none (.cls (.mk "Outlook" [(.type "object")] [(.ref 260),(.type "object")] 259 "Outlook" true [] [] false none false)) #[none,none,(some (.str "Outlook" 516)),(some (.str "Outlook" 524)),(some (.builtin "object.__new__")),(some (.bool true))])
def Mr:Obj:=(.mk (.type "getset_descriptor") none (.fields #[(.str "__dict__" 539),(.ref 260),(.builtin "function.__dict__"),(.builtin "function.__dict__#set")]) #[])
def MS:Obj:=(.mk (.type "getset_descriptor") none (.fields #[(.str "__weakref__" 541),(.ref 260),(.builtin "ExceptionGroup.__weakref__"),.none]) #[])
def Rb:Obj:=(.mk (.type "super") none (.fields #[(.ref 260),(.ref 260),(.ref 260)]) #[])
def Rf:Obj:=(.mk (.type "builtin_function_or_method") none (.fields #[(.builtin "object.__init_subclass__"),(.ref 260)]) #[])
def MC:Obj:=(tO #[(.str "outlook" 549),(.str "place" 550),(.str "front" 551)])
def RS:Obj:=(fR "idle_load" "idle_load" (top 38))
def Pj:Obj:=(cO "idle_load" "idle_load" 546 547 548 144 3 0 0 3 (.ref 265) true 181 (.ref 266) .none (.ref 267) (.ref 268) (.ref 269) 552 144 553)
def OZ:Obj:=(fO "idle_load" "idle_load" (top 38) (.str "pebbletoll.always" 471) (.ref 270))
def L5:Obj:=(tO #[(.str "outlook" 558),(.str "place" 559),(.str "left_out" 560),(.str "load" 561),(.str "kid" 562)])
def RP:Obj:=(fR "idle_kids" "idle_kids" (top 39))
def MV:Obj:=(cO "idle_kids" "idle_kids" 555 556 557 148 3 0 0 3 (.ref 272) true 181 (.ref 273) .none (.ref 274) (.ref 275) (.ref 276) 563 148 564)
def Nb:Obj:=(fO "idle_kids" "idle_kids" (top 39) (.str "pebbletoll.always" 471) (.ref 277))
def Q3:Obj:=(fR "added" "added" (top 40))
def On:Obj:=(cO "added" "added" 566 567 568 154 2 0 0 3 (.ref 279) true 181 (.ref 280) .none .none .none (.ref 281) 569 154 570)
def NH:Obj:=(fO "added" "added" (top 40) (.str "pebbletoll.always" 471) (.ref 282))
def M8:Obj:=(tO #[(.str "outlook" 575),(.str "place" 576),(.str "over" 577),(.str "room" 578),(.str "best" 579),(.str "kid" 580),(.str "load" 581)])
def Rk:Obj:=(fR "greatest_load" "greatest_load" (top 41))
def NV:Obj:=(cO "greatest_load" "greatest_load" 572 573 574 156 3 0 0 3 (.ref 284) true 181 (.ref 285) .none (.ref 286) (.ref 287) (.ref 288) 582 156 583)
def Ou:Obj:=(fO "greatest_load" "greatest_load" (top 41) (.str "pebbletoll.always" 471) (.ref 289))
def Mf:Obj:=(tO #[(.str "outlook" 588),(.str "place" 589),(.str "kid" 590),(.str "room" 591),(.str "given" 592),(.str "over" 593)])
def RB:Obj:=(fR "load_by" "load_by" (top 42))
def OO:Obj:=(cO "load_by" "load_by" 585 586 587 165 4 0 0 3 (.ref 291) true 181 (.ref 292) .none (.ref 293) (.ref 294) (.ref 295) 594 165 595)
def MH:Obj:=(fO "load_by" "load_by" (top 42) (.str "pebbletoll.always" 471) (.ref 296))
def M9:Obj:=(tO #[(.str "script" 602),(.str "k" 603),(.str "cell" 604),(.str "near" 605),(.str "far" 606)])
def Q1:Obj:=(fR "_law_drawn" "_law_drawn" (top 44))
def Oz:Obj:=(cO "_law_drawn" "_law_drawn" 599 600 601 170 2 0 0 3 (.ref 298) true 181 (.ref 299) .none (.ref 300) (.ref 301) (.ref 302) 607 170 608)
def NK:Obj:=(fO "_law_drawn" "_law_drawn" (top 44) (.str "law_pebbletoll_k40_whole_any_laying_meets" 597) (.ref 303))
def O1:Obj:=(tO #[(.str "part" 613)])
def RT:Obj:=(fR "_law_toll" "_law_toll" (top 45))
def Pi:Obj:=(cO "_law_toll" "_law_toll" 610 611 612 179 1 0 0 3 (.ref 305) true 181 (.ref 306) .none (.ref 307) (.ref 308) (.ref 309) 614 179 615)
def Oq:Obj:=(fO "_law_toll" "_law_toll" (top 45) (.str "law_pebbletoll_k40_whole_any_laying_meets" 597) (.ref 310))
def O8:Obj:=(tO #[(.str "script" 620),(.str "many" 621),(.str "shape" 622),(.str "roads" 623),(.str "k" 624),(.str "part" 625),(.str "to" 626),(.str "there" 627),(.str "back" 628)])
def R1:Obj:=(fR "_law_roads" "_law_roads" (top 46))
def MB:Obj:=(cO "_law_roads" "_law_roads" 617 618 619 183 3 0 0 3 (.ref 312) true 181 (.ref 313) .none (.ref 314) (.ref 315) (.ref 316) 629 183 630)
def Pr:Obj:=(fO "_law_roads" "_law_roads" (top 46) (.str "law_pebbletoll_k40_whole_any_laying_meets" 597) (.ref 317))
def NJ:Obj:=(tO #[(.str "script" 635),(.str "reach" 636),(.str "head" 637),(.str "many" 638)])
def RC:Obj:=(fR "_law_web" "_law_web" (top 47))
def NB:Obj:=(cO "_law_web" "_law_web" 632 633 634 198 2 0 0 3 (.ref 319) true 181 (.ref 320) .none (.ref 321) (.ref 322) (.ref 323) 639 198 640)
def O2:Obj:=(fO "_law_web" "_law_web" (top 47) (.str "law_pebbletoll_k40_whole_any_laying_meets" 597) (.ref 324))
def Mi:Obj:=(tO #[(.str "roads" 645),(.str "tolls" 646),(.str "one" 647),(.str "other" 648),(.str "there" 649),(.str "back" 650)])
def Rc:Obj:=(fR "_law_tolls" "_law_tolls" (top 48))
def NF:Obj:=(cO "_law_tolls" "_law_tolls" 642 643 644 204 1 0 0 3 (.ref 326) true 181 (.ref 327) .none (.ref 328) (.ref 329) (.ref 330) 651 204 652)
def NR:Obj:=(fO "_law_tolls" "_law_tolls" (top 48) (.str "law_pebbletoll_k40_whole_any_laying_meets" 597) (.ref 331))
def Mt:Obj:=(tO #[(.str "tolls" 657),(.str "many" 658),(.str "r" 659),(.str "order" 660),(.str "at" 661),(.str "place" 662),(.str "above" 663),(.str "kid" 664)])
def RZ:Obj:=(fR "_law_down" "_law_down" (top 49))
def OJ:Obj:=(cO "_law_down" "_law_down" 654 655 656 210 3 0 0 3 (.ref 333) true 181 (.ref 334) .none (.ref 335) (.ref 336) (.ref 337) 665 210 666)
def Mg:Obj:=(fO "_law_down" "_law_down" (top 49) (.str "law_pebbletoll_k40_whole_any_laying_meets" 597) (.ref 338))
def Q2:Obj:=(fR "_law_standings" "_law_standings" (top 50))
def O6:Obj:=(cO "_law_standings" "_law_standings" 668 669 670 220 5 0 0 3 (.ref 340) true 181 (.ref 341) .none .none .none (.ref 342) 671 220 672)
def N9:Obj:=(fO "_law_standings" "_law_standings" (top 50) (.str "law_pebbletoll_k40_whole_any_laying_meets" 597) (.ref 343))
def MR:Obj:=(tO #[(.str "script" 677),(.str "head" 678)])
def Sd:Obj:=(fR "_law_bound" "_law_bound" (top 51))
def Pa:Obj:=(cO "_law_bound" "_law_bound" 674 675 676 228 1 0 0 3 (.ref 345) true 181 (.ref 346) .none (.ref 347) (.ref 348) (.ref 349) 679 228 680)
def NG:Obj:=(fO "_law_bound" "_law_bound" (top 51) (.str "law_pebbletoll_k40_whole_any_laying_meets" 597) (.ref 350))
def RK:Obj:=(tO #[(.str "script" 685),(.str "many" 686),(.str "bound" 687),(.str "laying" 688),(.str "k" 689),(.str "place" 690)])
def Ri:Obj:=(fR "_law_laying" "_law_laying" (top 52))
def QX:Obj:=(cO "_law_laying" "_law_laying" 682 683 684 231 3 0 0 3 (.ref 352) true 181 (.ref 353) .none (.ref 354) (.ref 355) (.ref 356) 691 231 692)
def R3:Obj:=(fO "_law_laying" "_law_laying" (top 52) (.str "law_pebbletoll_k40_whole_any_laying_meets" 597) (.ref 357))
def Oc:Obj:=(tO #[(.str "script" 697),(.str "many" 698),(.str "bound" 699),(.str "wish" 700),(.str "k" 701),(.str "place" 702)])
def Rt:Obj:=(fR "_law_wish" "_law_wish" (top 53))
def NT:Obj:=(cO "_law_wish" "_law_wish" 694 695 696 238 3 0 0 3 (.ref 359) true 181 (.ref 360) .none (.ref 361) (.ref 362) (.ref 363) 703 238 704)
def OC:Obj:=(fO "_law_wish" "_law_wish" (top 53) (.str "law_pebbletoll_k40_whole_any_laying_meets" 597) (.ref 364))
def Of:Obj:=(tO #[(.str "tolls" 709),(.str "many" 710),(.str "pebbles" 711),(.str "part" 712),(.str "laying" 713),(.str "left" 714),(.str "roads" 715),(.str "free" 716),(.str "k" 717),(.str "place" 718),(.str "some" 719),(.str "toll_of" 720)])
def QV:Obj:=(fR "_law_put" "_law_put" (top 54))
def Oh:Obj:=(cO "_law_put" "_law_put" 706 707 708 245 4 0 0 3 (.ref 366) true 181 (.ref 367) .none (.ref 368) (.ref 369) (.ref 370) 721 245 722)
def Mj:Obj:=(fO "_law_put" "_law_put" (top 54) (.str "law_pebbletoll_k40_whole_any_laying_meets" 597) (.ref 371))
def OT:Obj:=(tO #[(.str "script" 727),(.str "many" 728),(.str "roads" 729),(.str "web" 730),(.str "tolls" 731),(.str "wish" 732),(.str "pebbles" 733),(.str "r" 734),(.str "k" 735),(.str "laying" 736)])
def RU:Obj:=(fR "law" "law" (top 55))
def O3:Obj:=(cO "law" "law" 724 725 726 266 1 0 0 3 (.ref 373) true 181 (.ref 374) .none (.ref 375) (.ref 376) (.ref 377) 737 266 738)
def Me:Obj:=(fO "law" "law" (top 55) (.str "law_pebbletoll_k40_whole_any_laying_meets" 597) (.ref 378))
noncomputable def h1 (P:Params):Heap:=.mk (.mk (boot_o_0 P::boot_o_1 P::boot_o_2 P::O0 P::boot_o_4 P::boot_o_5 P::boot_o_6 P::boot_o_7 P::boot_o_8 P::boot_o_9 P::boot_o_10 P::x0::Q4::x2::x3::x6::x7::x8 P::x0::x1::x9::x10::x0::x11 P::x12::x13::x14::x15::x16::x7::x17 P::x0::x1::x18::x19::x0::x20 P::x21::x22::x23::x16::x7::x24 P::x0::x1::x25::x26::x0::x27 P::x28::x29::x30::x16::x7::x31 P::x0::x1::x32::x33::x0::x34 P::x35::x36::x37::x16::x7::x38 P::x0::x1::x39::x40::x0::x41 P::x42::x43::x44::x16::x7::x45 P::x0::x1::x46::x47::x0::x48 P::x49::x50::x51::x0::x7::x52 P::x0::x53::x54::x55::x0::x1::x56::x57::x58::x59::x60 P::x61::x62::x63::x64::x65::x0::x1::x66::x0::x67::x68::x69::x0::x1::x70::x0::x71::x72::x73::x0::x1::x74::x0::x75::x76::x77::x0::x1::x78::x0::x79::x80::x81::x0::x1::x82::x0::x83::x84::x85::x0::x1::x86::x0::x87::x88::x89::x0::x1::x90::x0::x91::x92::x93::x0::x1::x94::x0::x95::x96::x97::x0::x1::x98::x0::x99::IB::IG::x0::x1::ON::Kl::JU::x0::x1::JD::x0::Oe::Kd::JB::x0::x1::Ig::x0::O7::Jz::Il::x0::x1::Ix::x0::Nq::IW::JP::x0::x1::OI::Iu::Jp::x0::x1::ND::JN::IC::x0::x1::Ox::x0::RQ::NL::Nd::x0::x1::O5::x0::RJ::Ng::No::x0::x1::NQ::x0::Rn::Oa::MY::x0::x1::R4::NA::NU::x0::x1::Mp::x0::Rx::Nr::Nl::x0::x1::MO::x0::RI::MX::Na::x0::x7::RG P::x0::RH::QZ::RN::x0::x1::Sb::MT::Pl::Pn::Ms P::NY::Mr::MS::Rb::Rf::x0::x1::MC::x0::RS::Pj::OZ::x0::x1::L5::x0::RP::MV::Nb::x0::x1::Q3::On::NH::x0::x1::M8::x0::Rk::NV::Ou::x0::x1::Mf::x0::RB::OO::MH::x0::x1::M9::x0::Q1::Oz::NK::x0::x1::O1::x0::RT::Pi::Oq::x0::x1::O8::x0::R1::MB::Pr::x0::x1::NJ::x0::RC::NB::O2::x0::x1::Mi::x0::Rc::NF::NR::x0::x1::Mt::x0::RZ::OJ::Mg::x0::x1::Q2::O6::N9::x0::x1::MR::x0::Sd::Pa::NG::x0::x1::RK::x0::Ri::QX::R3::x0::x1::Oc::x0::Rt::NT::OC::x0::x1::Of::x0::QV::Oh::Mj::x0::x1::OT::x0::RU::O3::Me::[])) (.mk [] [] [] 0 [] [] false #[] [] 0 false false false 0 [2000,10,10] false 0 true [] [] 0 false)
theorem Sx (w:World) (os:OsState):segRun treeTable PySem.Challenge.pw_pebbletoll_k40_whole_any_laying_meets w 11 (some (.ref 6)) 1 983 (Shared.mk (h0 w.params) (.mk []) (.mk 0 0 0 0) 463 os) (piecesOf st1 env cE (.mk 111 0 111 8) [topFrame (.mk 0 0 0 0)])=some (.next,(Shared.mk (h1 w.params) (.mk []) (.mk 0 0 0 0) 740 os),cE,(.mk 266 0 280 15)):=by kernel_rfl
noncomputable def hf (P:Params):Heap:=.mk (.mk (boot_o_0 P::boot_o_1 P::boot_o_2 P::O0 P::boot_o_4 P::boot_o_5 P::boot_o_6 P::boot_o_7 P::boot_o_8 P::boot_o_9 P::boot_o_10 P::x0::Q4::x2::x3::x6::x7::x8 P::x0::x1::x9::x10::x0::x11 P::x12::x13::x14::x15::x16::x7::x17 P::x0::x1::x18::x19::x0::x20 P::x21::x22::x23::x16::x7::x24 P::x0::x1::x25::x26::x0::x27 P::x28::x29::x30::x16::x7::x31 P::x0::x1::x32::x33::x0::x34 P::x35::x36::x37::x16::x7::x38 P::x0::x1::x39::x40::x0::x41 P::x42::x43::x44::x16::x7::x45 P::x0::x1::x46::x47::x0::x48 P::x49::x50::x51::x0::x7::x52 P::x0::x53::x54::x55::x0::x1::x56::x57::x58::x59::x60 P::x61::x62::x63::x64::x65::x0::x1::x66::x0::x67::x68::x69::x0::x1::x70::x0::x71::x72::x73::x0::x1::x74::x0::x75::x76::x77::x0::x1::x78::x0::x79::x80::x81::x0::x1::x82::x0::x83::x84::x85::x0::x1::x86::x0::x87::x88::x89::x0::x1::x90::x0::x91::x92::x93::x0::x1::x94::x0::x95::x96::x97::x0::x1::x98::x0::x99::IB::IG::x0::x1::ON::Kl::JU::x0::x1::JD::x0::Oe::Kd::JB::x0::x1::Ig::x0::O7::Jz::Il::x0::x1::Ix::x0::Nq::IW::JP::x0::x1::OI::Iu::Jp::x0::x1::ND::JN::IC::x0::x1::Ox::x0::RQ::NL::Nd::x0::x1::O5::x0::RJ::Ng::No::x0::x1::NQ::x0::Rn::Oa::MY::x0::x1::R4::NA::NU::x0::x1::Mp::x0::Rx::Nr::Nl::x0::x1::MO::x0::RI::MX::Na::x0::x7::RG P::x0::RH::QZ::RN::x0::x1::Sb::MT::Pl::Pn::Ms P::NY::Mr::MS::Rb::Rf::x0::x1::MC::x0::RS::Pj::OZ::x0::x1::L5::x0::RP::MV::Nb::x0::x1::Q3::On::NH::x0::x1::M8::x0::Rk::NV::Ou::x0::x1::Mf::x0::RB::OO::MH::x0::x1::M9::x0::Q1::Oz::NK::x0::x1::O1::x0::RT::Pi::Oq::x0::x1::O8::x0::R1::MB::Pr::x0::x1::NJ::x0::RC::NB::O2::x0::x1::Mi::x0::Rc::NF::NR::x0::x1::Mt::x0::RZ::OJ::Mg::x0::x1::Q2::O6::N9::x0::x1::MR::x0::Sd::Pa::NG::x0::x1::RK::x0::Ri::QX::R3::x0::x1::Oc::x0::Rt::NT::OC::x0::x1::Of::x0::QV::Oh::Mj::x0::x1::OT::x0::RU::O3::Me::[])) (.mk [] [] [] 0 [] [] false #[] [] 0 false false false 0 [2000,10,10] false 0 true [] [] 0 false)
theorem Sw (w:World) (os:OsState):topRun treeTable PySem.Challenge.pw_pebbletoll_k40_whole_any_laying_meets w 11 (some (.ref 6)) 2 (Shared.mk (h1 w.params) (.mk []) (.mk 0 0 0 0) 740 os) (restOf [] env cE (.mk 266 0 280 15) [topFrame (.mk 0 0 0 0)])=some (Shared.mk (hf w.params) (.mk []) (.mk 0 0 0 0) 740 os):=by kernel_rfl
theorem run (w:World) (os:OsState):topRun treeTable PySem.Challenge.pw_pebbletoll_k40_whole_any_laying_meets w 11 (some (.ref 6)) (12+(1+(2001+(983+(2))))) (Shared.mk (boot_heap w.params) (.mk []) boot_drawn boot_toks os) (topStub PySem.Challenge.pw_pebbletoll_k40_whole_any_laying_meets)=some (Shared.mk (hf w.params) (.mk []) (.mk 0 0 0 0) 740 os):=go_top (Sz w os) (piece_block (SF w os) (piece_app (SB w os) (piece_app (Sx w os) (Sw w os))))
theorem opn:∀ w:World,(fencedOpening treeTable PySem.Challenge.pw_pebbletoll_k40_whole_any_laying_meets w 6090).map (fun s=>(s.heap,s.gens,s.drawn,s.toks))=some (boot_heap w.params,Array.mk [],boot_drawn,boot_toks):=boot_open (by kernel_rfl) (by decide) fun s=>by kernel_rfl
theorem siz (w:World):((boot_heap w.params).isNs mainGlobals && (Array.mk ([]:List GenState)).size == 0,(boot_heap w.params).objs.size,(boot_heap w.params).nsMap mainGlobals "__annotations__")=(true,11,(some (.ref 6))):=by kernel_rfl
noncomputable def KK:Params->Frag:=fun P =>
 (nat_lit 2,boot_o_2 P) ::
 (nat_lit 3,O0 P) ::
 (nat_lit 15,x6) ::
 (nat_lit 22,x0) ::
 (nat_lit 23,x11 P) ::
 (nat_lit 24,x12) ::
 (nat_lit 25,x13) ::
 (nat_lit 28,x16) ::
 (nat_lit 35,x0) ::
 (nat_lit 36,x20 P) ::
 (nat_lit 37,x21) ::
 (nat_lit 40,x16) ::
 (nat_lit 47,x0) ::
 (nat_lit 48,x27 P) ::
 (nat_lit 49,x28) ::
 (nat_lit 52,x16) ::
 (nat_lit 59,x0) ::
 (nat_lit 60,x34 P) ::
 (nat_lit 61,x35) ::
 (nat_lit 64,x16) ::
 (nat_lit 71,x0) ::
 (nat_lit 72,x41 P) ::
 (nat_lit 73,x42) ::
 (nat_lit 76,x16) ::
 (nat_lit 83,x0) ::
 (nat_lit 84,x48 P) ::
 (nat_lit 85,x49) ::
 (nat_lit 95,x0) ::
 (nat_lit 98,x57) ::
 (nat_lit 99,x58) ::
 (nat_lit 100,x59) ::
 (nat_lit 101,x60 P) ::
 (nat_lit 102,x61) ::
 (nat_lit 103,x62) ::
 (nat_lit 104,x63) ::
 (nat_lit 107,x0) ::
 (nat_lit 109,x66) ::
 (nat_lit 110,x0) ::
 (nat_lit 112,x68) ::
 (nat_lit 113,x69) ::
 (nat_lit 114,x0) ::
 (nat_lit 116,x70) ::
 (nat_lit 117,x0) ::
 (nat_lit 119,x72) ::
 (nat_lit 120,x73) ::
 (nat_lit 121,x0) ::
 (nat_lit 123,x74) ::
 (nat_lit 124,x0) ::
 (nat_lit 126,x76) ::
 (nat_lit 127,x77) ::
 (nat_lit 128,x0) ::
 (nat_lit 130,x78) ::
 (nat_lit 131,x0) ::
 (nat_lit 133,x80) ::
 (nat_lit 134,x81) ::
 (nat_lit 135,x0) ::
 (nat_lit 137,x82) ::
 (nat_lit 138,x0) ::
 (nat_lit 140,x84) ::
 (nat_lit 141,x85) ::
 (nat_lit 142,x0) ::
 (nat_lit 144,x86) ::
 (nat_lit 145,x0) ::
 (nat_lit 147,x88) ::
 (nat_lit 148,x89) ::
 (nat_lit 149,x0) ::
 (nat_lit 151,x90) ::
 (nat_lit 152,x0) ::
 (nat_lit 154,x92) ::
 (nat_lit 155,x93) ::
 (nat_lit 156,x0) ::
 (nat_lit 158,x94) ::
 (nat_lit 159,x0) ::
 (nat_lit 161,x96) ::
 (nat_lit 162,x97) ::
 (nat_lit 163,x0) ::
 (nat_lit 165,x98) ::
 (nat_lit 166,x0) ::
 (nat_lit 168,IB) ::
 (nat_lit 169,IG) ::
 (nat_lit 170,x0) ::
 (nat_lit 173,Kl) ::
 (nat_lit 174,JU) ::
 (nat_lit 175,x0) ::
 (nat_lit 177,JD) ::
 (nat_lit 178,x0) ::
 (nat_lit 180,Kd) ::
 (nat_lit 181,JB) ::
 (nat_lit 182,x0) ::
 (nat_lit 184,Ig) ::
 (nat_lit 185,x0) ::
 (nat_lit 187,Jz) ::
 (nat_lit 188,Il) ::
 (nat_lit 189,x0) ::
 (nat_lit 191,Ix) ::
 (nat_lit 192,x0) ::
 (nat_lit 194,IW) ::
 (nat_lit 195,JP) ::
 (nat_lit 196,x0) ::
 (nat_lit 199,Iu) ::
 (nat_lit 200,Jp) ::
 (nat_lit 201,x0) ::
 (nat_lit 204,JN) ::
 (nat_lit 205,IC) ::
 (nat_lit 206,x0) ::
 (nat_lit 208,Ox) ::
 (nat_lit 209,x0) ::
 (nat_lit 211,NL) ::
 (nat_lit 212,Nd) ::
 (nat_lit 213,x0) ::
 (nat_lit 215,O5) ::
 (nat_lit 216,x0) ::
 (nat_lit 218,Ng) ::
 (nat_lit 219,No) ::
 (nat_lit 220,x0) ::
 (nat_lit 222,NQ) ::
 (nat_lit 223,x0) ::
 (nat_lit 225,Oa) ::
 (nat_lit 226,MY) ::
 (nat_lit 227,x0) ::
 (nat_lit 230,NA) ::
 (nat_lit 231,NU) ::
 (nat_lit 232,x0) ::
 (nat_lit 234,Mp) ::
 (nat_lit 235,x0) ::
 (nat_lit 237,Nr) ::
 (nat_lit 238,Nl) ::
 (nat_lit 239,x0) ::
 (nat_lit 241,MO) ::
 (nat_lit 242,x0) ::
 (nat_lit 244,MX) ::
 (nat_lit 245,Na) ::
 (nat_lit 253,x0) ::
 (nat_lit 256,MT) ::
 (nat_lit 257,Pl) ::
 (nat_lit 258,Pn) ::
 (nat_lit 259,Ms P) ::
 (nat_lit 260,NY) ::
 (nat_lit 261,Mr) ::
 (nat_lit 262,MS) ::
 (nat_lit 265,x0) ::
 (nat_lit 267,MC) ::
 (nat_lit 268,x0) ::
 (nat_lit 270,Pj) ::
 (nat_lit 271,OZ) ::
 (nat_lit 272,x0) ::
 (nat_lit 274,L5) ::
 (nat_lit 275,x0) ::
 (nat_lit 277,MV) ::
 (nat_lit 278,Nb) ::
 (nat_lit 279,x0) ::
 (nat_lit 282,On) ::
 (nat_lit 283,NH) ::
 (nat_lit 284,x0) ::
 (nat_lit 286,M8) ::
 (nat_lit 287,x0) ::
 (nat_lit 289,NV) ::
 (nat_lit 290,Ou) ::
 (nat_lit 291,x0) ::
 (nat_lit 293,Mf) ::
 (nat_lit 294,x0) ::
 (nat_lit 296,OO) ::
 (nat_lit 297,MH) ::
 (nat_lit 298,x0) ::
 (nat_lit 300,M9) ::
 (nat_lit 301,x0) ::
 (nat_lit 303,Oz) ::
 (nat_lit 304,NK) ::
 (nat_lit 305,x0) ::
 (nat_lit 307,O1) ::
 (nat_lit 308,x0) ::
 (nat_lit 310,Pi) ::
 (nat_lit 311,Oq) ::
 (nat_lit 312,x0) ::
 (nat_lit 314,O8) ::
 (nat_lit 315,x0) ::
 (nat_lit 317,MB) ::
 (nat_lit 318,Pr) ::
 (nat_lit 319,x0) ::
 (nat_lit 321,NJ) ::
 (nat_lit 322,x0) ::
 (nat_lit 324,NB) ::
 (nat_lit 325,O2) ::
 (nat_lit 326,x0) ::
 (nat_lit 328,Mi) ::
 (nat_lit 329,x0) ::
 (nat_lit 331,NF) ::
 (nat_lit 332,NR) ::
 (nat_lit 333,x0) ::
 (nat_lit 335,Mt) ::
 (nat_lit 336,x0) ::
 (nat_lit 338,OJ) ::
 (nat_lit 339,Mg) ::
 (nat_lit 340,x0) ::
 (nat_lit 343,O6) ::
 (nat_lit 344,N9) ::
 (nat_lit 345,x0) ::
 (nat_lit 347,MR) ::
 (nat_lit 348,x0) ::
 (nat_lit 350,Pa) ::
 (nat_lit 351,NG) ::
 (nat_lit 359,x0) ::
 (nat_lit 361,Oc) ::
 (nat_lit 362,x0) ::
 (nat_lit 364,NT) ::
 (nat_lit 365,OC) ::
 (nat_lit 366,x0) ::
 (nat_lit 368,Of) ::
 (nat_lit 369,x0) ::
 (nat_lit 371,Oh) ::
 (nat_lit 372,Mj) ::
 (nat_lit 373,x0) ::
 (nat_lit 375,OT) ::
 (nat_lit 376,x0) ::
 (nat_lit 378,O3) ::
 (nat_lit 379,Me)::[]
abbrev qq:Program:=PySem.W.view PySem.Challenge.pw_pebbletoll_k40_whole_any_laying_meets [1,2,3,4,5,6,8,9,10,11,12,13,14,15,16,17,18,19,20,22,23,25,26,27,28,30,32,33,34,35,36,37,38,39,40,41,42,44,45,46,47,48,49,50,51,52,53,54,55]
abbrev asK:List Addr:=[2,3,15,22,23,24,25,28,35,36,37,40,47,48,49,52,59,60,61,64,71,72,73,76,83,84,85,95,98,99,100,101,102,103,104,107,109,110,112,113,114,116,117,119,120,121,123,124,126,127,128,130,131,133,134,135,137,138,140,141,142,144,145,147,148,149,151,152,154,155,156,158,159,161,162,163,165,166,168,169,170,173,174,175,177,178,180,181,182,184,185,187,188,189,191,192,194,195,196,199,200,201,204,205,206,208,209,211,212,213,215,216,218,219,220,222,223,225,226,227,230,231,232,234,235,237,238,239,241,242,244,245,253,256,257,258,259,260,261,262,265,267,268,270,271,272,274,275,277,278,279,282,283,284,286,287,289,290,291,293,294,296,297,298,300,301,303,304,305,307,308,310,311,312,314,315,317,318,319,321,322,324,325,326,328,329,331,332,333,335,336,338,339,340,343,344,345,347,348,350,351,359,361,362,364,365,366,368,369,371,372,373,375,376,378,379]
theorem asK_eq:∀ P,asK=(KK P).map (·.1):=fun _=>by kernel_rfl
theorem Sk (w:World):(fun os=>((staticsOk (importedModules PySem.Challenge.pw_pebbletoll_k40_whole_any_laying_meets.main.body) (boot_heap w.params) (hf w.params) && namesBound PySem.Challenge.pw_pebbletoll_k40_whole_any_laying_meets (hf w.params) && gensDone (Shared.mk (Hd.hf w.params) (.mk []) (.mk 0 0 0 0) 740 os) && laidKept (boot_heap w.params) (hf w.params)),openSeen qq [] (importedModules PySem.Challenge.pw_pebbletoll_k40_whole_any_laying_meets.main.body) (fun s=>PySem.W.xlAt Hd.qq [] s && PySem.W.recOk (PySem.W.RowW.records (PySem.W.OpenRow.toRowW (PySem.Challenge.rw_pebbletoll_k40_whole_any_laying_meets).row)) s) true (Shared.mk (Hd.hf w.params) (.mk []) (.mk 0 0 0 0) 740 os),Hook.obs (PySem.W.kHook Hd.KK Hd.asK Hd.asK_eq) (Shared.mk (Hd.hf w.params) (.mk []) (.mk 0 0 0 0) 740 os)))=fun _=>(true,openGood qq [],Hook.val (PySem.W.kHook Hd.KK Hd.asK Hd.asK_eq) w):=by kernel_rfl
theorem left:PySem.W.LeftO (PySem.Challenge.rw_pebbletoll_k40_whole_any_laying_meets).row.prog qq [] (fun s=>PySem.W.xlAt Hd.qq [] s && PySem.W.recOk (PySem.W.RowW.records (PySem.W.OpenRow.toRowW (PySem.Challenge.rw_pebbletoll_k40_whole_any_laying_meets).row)) s) (PySem.W.Hook.obs (PySem.W.kHook Hd.KK Hd.asK Hd.asK_eq)) (PySem.W.Hook.val (PySem.W.kHook Hd.KK Hd.asK Hd.asK_eq)) 6090:=LeftO.of_pieces opn siz run (by decide) Sk
end Hd
set_option Elab.async false
set_option linter.all false
set_option maxRecDepth 100000
namespace L2
open PySem PySem.Spec PyProof.Rows
abbrev Key:=Sum Int Str
def ya:Key->Value->Bool
 | .inl k,v=>Value.isInt k v
 | .inr x,v=>Value.isStrOf x v
def Sy (w:World):Key->Int
 | .inl k=>hashInt k
 | .inr x=>hashStr w x
theorem dZ:∀ {k:Key} {v:Value},ya k v=true->(∃ i t,k=Sum.inl i/\v=Value.int i t)\/(∃ x t,k=Sum.inr x/\v=Value.str x t)
 | .inl i,v,h=>by
   obtain ⟨t,e⟩:=Value.isInt_shape (k:=i) (v:=v) h;exact .inl ⟨i,t,rfl,e⟩
 | .inr x,v,h=>by
   obtain ⟨t,e⟩:=Value.isStrOf_shape (x:=x) (v:=v) h;exact .inr ⟨x,t,rfl,e⟩
theorem Ln (i:Int) (t:Tok):ya (.inl i) (.int i t)=true:=by simp [ya,Value.isInt]
theorem Km (x:Str) (t:Tok):ya (.inr x) (.str x t)=true:=by simp [ya,Value.isStrOf]
theorem QW (a b:Int):decide ((Sum.inl a:Key)=Sum.inl b)=(a == b):=by
 by_cases e:a=b
 . subst e;simp
 . have h:¬ (Sum.inl a:Key)=Sum.inl b:=fun q=>e (Sum.inl.inj q);rw [decide_eq_false h];exact (beq_eq_false_iff_ne.mpr e).symm
theorem Rh (a b:Str):decide ((Sum.inr a:Key)=Sum.inr b)=decide (a=b):=by
 by_cases e:a=b
 . subst e;simp
 . have h:¬ (Sum.inr a:Key)=Sum.inr b:=fun q=>e (Sum.inr.inj q);rw [decide_eq_false h,decide_eq_false e]
theorem Q9 (a:Int) (b:Str):decide ((Sum.inl a:Key)=Sum.inr b)=false:=decide_eq_false (fun q=>nomatch q)
theorem RA (a:Str) (b:Int):decide ((Sum.inr a:Key)=Sum.inl b)=false:=decide_eq_false (fun q=>nomatch q)
def dA (prog:Program) (w:World):PySem.KeyKind prog w Key where
 is:=ya
 hash:=Sy w
 inj:=fun v a b ha hb=>by
   rcases dZ ha with ⟨i,t,rfl,rfl⟩|⟨x,t,rfl,rfl⟩
   . rcases dZ hb with ⟨j,u,rfl,e⟩|⟨y,u,rfl,e⟩
     . injection e with e1 _;rw [e1]
     . exact nomatch e
   . rcases dZ hb with ⟨j,u,rfl,e⟩|⟨y,u,rfl,e⟩
     . exact nomatch e
     . injection e with e1 _;rw [e1]
 byValue:=fun k v h=>by
   rcases dZ h with ⟨i,t,rfl,rfl⟩|⟨x,t,rfl,rfl⟩ <;> rfl
 pyHash:=fun hv h=>by
   rcases dZ hv with ⟨i,t,rfl,rfl⟩|⟨x,t,rfl,rfl⟩
   . exact wpAny_pyHash_int h
   . exact wpAny_pyHash_str h
 eqBool:=fun hu hv h=>by
   rcases dZ hu with ⟨i,t,rfl,rfl⟩|⟨x,t,rfl,rfl⟩
   . rcases dZ hv with ⟨j,u,rfl,rfl⟩|⟨y,u,rfl,rfl⟩
     . rw [QW] at h;exact wpAny_eqBool_int h
     . rw [Q9] at h;exact SeqAt.EqAt.int_str i t y u _ _ _ _ h
   . rcases dZ hv with ⟨j,u,rfl,rfl⟩|⟨y,u,rfl,rfl⟩
     . rw [RA] at h;exact SeqAt.EqAt.str_int x t j u _ _ _ _ h
     . rw [Rh] at h;exact wpAny_eqBool_str h
 «strs»:=fun k x t v h=>by
   rcases dZ h with ⟨i,u,rfl,e⟩|⟨y,u,rfl,e⟩
   . exact nomatch e
   . injection e with e1 _
     subst e1;cases v <;> rfl
theorem GU (prog:Program) (w:World) (i:Int) (t:Tok):(dA prog w).is (.inl i) (.int i t)=true:=Ln i t
theorem Gq (prog:Program) (w:World) (x:Str) (t:Tok):(dA prog w).is (.inr x) (.str x t)=true:=Km x t
end L2
namespace L2
open PySem PySem.Spec PyProof.Rows
inductive V where
 | non|bl (b:Bool)|int (i:Int)|str (x:Str)|byt (b:Array UInt8)|flt (b:UInt64)|ref (a:Addr)|ty (n:String)
 deriving DecidableEq
def RelV:V->Value->Prop
 | .non,u=>u=Value.none
 | .bl b,u=>u=Value.bool b
 | .int i,u=>∃ t,u=Value.int i t
 | .str x,u=>∃ t,u=Value.str x t
 | .byt b,u=>∃ t,u=Value.bytes b t
 | .flt b,u=>∃ t,u=Value.float b t
 | .ref a,u=>u=Value.ref a
 | .ty n,u=>u=Value.type n
abbrev Vals:List V->List Value->Prop:=Paired RelV
theorem Vals.length {xs:List V} {us:List Value} (r:Vals xs us):xs.length=us.length:=Paired.length r
theorem Vals.get:∀ {xs:List V} {us:List Value} {i:Nat} {x:V},Vals xs us->xs[i]?=some x->∃ u,us[i]?=some u/\RelV x u
 | _,_,_,_,.nil,e=>by simp at e
 | _,_,0,_,.cons r _,e=>by simp at e;subst e;exact ⟨_,rfl,r⟩
 | _,_,i+1,x,.cons _ t,e=>by
   obtain ⟨u,h1,h2⟩:=Vals.get (i:=i) (x:=x) t (by simpa using e);exact ⟨u,by simpa using h1,h2⟩
theorem Vals.set {x:V} {u:Value} (r:RelV x u):∀ {xs:List V} {us:List Value} (i:Nat),Vals xs us->Vals (xs.set i x) (us.set i u)
 | _,_,_,.nil=>.nil
 | _,_,0,.cons _ t=>.cons r t
 | _,_,i+1,.cons q t=>.cons q (Vals.set r i t)
theorem Vals.append:∀ {xs ys:List V} {us ws:List Value},Vals xs us->Vals ys ws->Vals (xs++ys) (us++ws)
 | _,_,_,_,.nil,s=>s
 | _,_,_,_,.cons r t,s=>.cons r (Vals.append t s)
theorem Vals.take:∀ {xs:List V} {us:List Value} (n:Nat),Vals xs us->Vals (xs.take n) (us.take n)
 | _,_,0,_=>.nil
 | _,_,_+1,.nil=>.nil
 | _,_,n+1,.cons r t=>.cons r (Vals.take n t)
theorem Vals.drop:∀ {xs:List V} {us:List Value} (n:Nat),Vals xs us->Vals (xs.drop n) (us.drop n)
 | _,_,0,r=>r
 | _,_,_+1,.nil=>.nil
 | _,_,n+1,.cons _ t=>Vals.drop n t
def RelO:Option V->Option Value->Prop
 | some v,some u=>RelV v u
 | none,none=>True
 | _,_=>False
def KV {κ:Type}:List (κ × V)->List (κ × Value)->Prop:=Paired fun (p:κ × V) (q:κ × Value)=>p.1=q.1/\RelV p.2 q.2
def kV:Key->V
 | .inl i=>.int i
 | .inr x=>.str x
inductive HO where
 /-- a list -/
 | lst (xs:List V)
 /-- a tuple (never changes) -/
 | tup (xs:List V)
 /-- a dict whose keys are ints and texts;one whose keys are tuples of ints and texts (the empty one is both) -/
 | dK (kvs:List (Key × V))|dT (kvs:List (List Key × V))
 /-- a set of ints: its members,its size -/
 | set (S:Int->Bool) (n:Nat)
 /-- an instance of the class at C,its dict at dx,its attributes -/
 | ins (C dx:Addr) (fs:List (Str × V))
 /-- the dict of the instance at x -/
 | own (x:Addr)
 /-- the dict of an exception -/
 | xd (fs:List (Str × V))
 /-- a bound method,f of x -/
 | met (f x:Addr)
 /-- a range object lo,lo+1,.. below hi -/
 | rng (lo hi:Int)
 /-- a thing that is known to the object (the script;a dict while a loop walks it): read,never written while it is so -/
 | frz (o:Obj) (u:HO)
 /-- a code object's table -/
 | tbl (ps:Array Value)
 /-- any other thing,by what is true of its one object (a def of one's own: SetO a S n:=HO.ext fun h=>..) -/
 | ext (φ:Heap->Prop)
abbrev Hp:=Addr->Option HO
def upd (H:Hp) (a:Addr) (o:HO):Hp:=fun b=>if b=a then some o else H b
theorem ah {H:Hp} {a:Addr} {o:HO}:upd H a o a=some o:=by unfold upd;rw [if_pos rfl]
theorem aq {H:Hp} {a b:Addr} {o:HO} (h:b≠a):upd H a o b=H b:=by unfold upd;rw [if_neg h]
theorem oS {H:Hp} {a:Addr} {o u:HO}:upd (upd H a o) a u=upd H a u:=by
 funext b;unfold upd;split <;> rfl
theorem fM {H:Hp} {a b:Addr} {o u:HO} (h:H a=some o) (h':H b=some u) (d:o≠u):a≠b:=by
 intro e;subst e;rw [h] at h';exact d (Option.some.inj h')
theorem bf {H:Hp} {a b:Addr} {o:HO} (h:H a=some o) (h':H b=none):a≠b:=by
 intro e;subst e;rw [h] at h';cases h'
section
variable (P:Program) (w:World)
def ObjOk (H:Hp) (h:Heap) (a:Addr):HO->Prop
 | .lst xs=>xs.length<=sizeLine/\∃ (its:List Value) (n:Nat),Vals xs its/\h.get? a=some { cls:=.type "list",data:=.seq its.toArray n }
 | .tup xs=>xs.length<=sizeLine/\∃ its:List Value,Vals xs its/\IsTup h a its.toArray
 | .dK kvs=>kvs.length<=sizeLine/\(a == sysModules)=false/\∃ vs,KV kvs vs/\h.DictOf (dA P w) a vs
 | .dT kvs=>kvs.length<=sizeLine/\(a == sysModules)=false/\∃ xs:List (List Key × Addr × Value),
     Paired (fun (p:List Key × V) (q:List Key × Addr × Value)=>p.1=q.1/\H q.2.1=some (.tup (p.1.map kV))/\RelV p.2 q.2.2) kvs xs /\
     ∃ o es ep,h.get? a=some o/\o.ExactDict/\o.data=.dict es ep/\es.toList=xs.map (entryOfKey (tupleKind (dA P w)))/\(xs.map (·.1)).Nodup
 | .set S n=>h.SetOf (intKind P w) a S n
 | .ins C dx fs=>H dx=some (.own a)/\fs.length<=1000/\dx≠a/\h.get? a=some (PySem.W.instObj C dx) /\
     ∃ mA,h.Ns1 dx mA/\(∀ f,RelO (fs.lookup f) (mA f))/\PySem.Within mA (fs.map (·.1))
 | .own _=>∃ o,h.get? a=some o
 | .xd fs=>∃ mA,h.Ns1 a mA/\∀ f,RelO (fs.lookup f) (mA f)
 | .rng lo hi=>∃ t u v,h.get? a=some { cls:=.type "range",data:=.fields #[.int lo t,.int hi u,.int 1 v] }
 | .frz o u=>h.get? a=some o/\ObjOk H h a u
 | .tbl ps=>h.get? a=some { cls:=.none,data:=.fields ps }
 | .met f x=>h.get? a=some (PySem.W.methodObj (.ref f) (.ref x))
 | .ext φ=>φ h/\(∃ o,h.get? a=some o)/\∀ h1 h2:Heap,φ h1->(∀ o,h1.get? a=some o->h2.get? a=some o)->φ h2
def HOk (H:Hp) (h:Heap):Prop:=∀ a o,H a=some o->ObjOk P w H h a o
end
section
variable {P:Program} {w:World} {H H':Hp} {h h':Heap} {a:Addr} {o:HO}
theorem ObjOk.lt (x:ObjOk P w H h a o):a<h.objs.size:=by
 cases o with
 | lst xs=>obtain ⟨_,_,_,_,e⟩:=x;exact Heap.lt_size e
 | tup xs=>obtain ⟨_,_,_,p⟩:=x;exact p.lt
 | dK kvs=>obtain ⟨_,_,_,_,o,_,_,e,_⟩:=x;exact Heap.lt_size e
 | dT kvs=>obtain ⟨_,_,_,_,o,_,_,e,_⟩:=x;exact Heap.lt_size e
 | set S n=>obtain ⟨o,_,_,_,e,_⟩:=x;exact Heap.lt_size e
 | ins C dx fs=>obtain ⟨_,_,_,e,_⟩:=x;exact Heap.lt_size e
 | own y=>obtain ⟨_,e⟩:=x;exact Heap.lt_size e
 | xd fs=>obtain ⟨_,⟨_,_,_,e,_⟩,_⟩:=x;exact Heap.lt_size e
 | rng lo hi=>obtain ⟨_,_,_,e⟩:=x;exact Heap.lt_size e
 | frz ob u=>obtain ⟨e,_⟩:=x;exact Heap.lt_size e
 | tbl ps=>exact Heap.lt_size (show h.get? a=some _ from x)
 | met f y=>exact Heap.lt_size (show h.get? a=some _ from x)
 | ext φ=>obtain ⟨_,⟨_,e⟩,_⟩:=x;exact Heap.lt_size e
theorem Paired.mapP {α β:Type} {F G:α->β->Prop}:∀ {l₁:List α} {l₂:List β},Paired F l₁ l₂->(∀ a b,F a b->G a b)->Paired G l₁ l₂
 | _,_,.nil,_=>.nil
 | _,_,.cons r t,f=>.cons (f _ _ r) (Paired.mapP t f)
theorem Paired.imp' {α β:Type} {F G:α->β->Prop} (f:∀ a b,F a b->G a b) {l₁:List α} {l₂:List β} (r:Paired F l₁ l₂):Paired G l₁ l₂:=Paired.mapP r f
theorem ObjOk.stay (x:ObjOk P w H h a o) (k:∀ b u,(b=a\/H b=some (.own a))->h.get? b=some u->h'.get? b=some u)
   (ho:∀ b,H b=some (.own a)->H' b=some (.own a)) (ht:∀ b xs,H b=some (.tup xs)->H' b=some (.tup xs)):ObjOk P w H' h' a o:=by
 induction o with
 | lst xs=>obtain ⟨z,its,n,r,e⟩:=x;exact ⟨z,its,n,r,k _ _ (.inl rfl) e⟩
 | tup xs=>obtain ⟨z,its,r,ob,e,c⟩:=x;exact ⟨z,its,r,ob,k _ _ (.inl rfl) e,c⟩
 | dK kvs=>obtain ⟨z,y,vs,r,ob,es,ep,e,c⟩:=x;exact ⟨z,y,vs,r,ob,es,ep,k _ _ (.inl rfl) e,c⟩
 | dT kvs =>
   obtain ⟨z,y,xs,r,ob,es,ep,e,c⟩:=x;exact ⟨z,y,xs,Paired.mapP r fun p q z=>⟨z.1,ht _ _ z.2.1,z.2.2⟩,ob,es,ep,k _ _ (.inl rfl) e,c⟩
 | set S n=>obtain ⟨ob,es,ep,t,e,c⟩:=x;exact ⟨ob,es,ep,t,k _ _ (.inl rfl) e,c⟩
 | ins C dx fs =>
   obtain ⟨d,z,ne,e,mA,⟨od,es,ep,e2,c⟩,r⟩:=x;exact ⟨ho _ d,z,ne,k _ _ (.inl rfl) e,mA,⟨od,es,ep,k _ _ (.inr d) e2,c⟩,r⟩
 | own y=>obtain ⟨ob,e⟩:=x;exact ⟨ob,k _ _ (.inl rfl) e⟩
 | xd fs=>obtain ⟨mA,⟨od,es,ep,e,c⟩,r⟩:=x;exact ⟨mA,⟨od,es,ep,k _ _ (.inl rfl) e,c⟩,r⟩
 | rng lo hi=>obtain ⟨t,u,v,e⟩:=x;exact ⟨t,u,v,k _ _ (.inl rfl) e⟩
 | frz ob u ih=>obtain ⟨e,q⟩:=x;exact ⟨k _ _ (.inl rfl) e,ih q⟩
 | tbl ps =>
   have e:h.get? a=some { cls:=.none,data:=.fields ps }:=x;show h'.get? a=some { cls:=.none,data:=.fields ps };exact k a _ (.inl rfl) e
 | met f y =>
   have e:h.get? a=some (PySem.W.methodObj (.ref f) (.ref y)):=x;show h'.get? a=some (PySem.W.methodObj (.ref f) (.ref y));exact k a _ (.inl rfl) e
 | ext φ=>obtain ⟨p,⟨o,e⟩,st⟩:=x;exact ⟨st _ _ p fun o q=>k _ _ (.inl rfl) q,⟨o,k _ _ (.inl rfl) e⟩,st⟩
theorem HOk.lt (x:HOk P w H h) (e:H a=some o):a<h.objs.size:=(x a o e).lt
theorem HOk.fresh (x:HOk P w H h) (e:h.objs.size<=a):H a=none:=by
 cases q:H a with
 | none=>rfl
 | some u=>exact absurd (Nat.lt_of_lt_of_le (x.lt q) e) (Nat.lt_irrefl _)
theorem HOk.kept (x:HOk P w H h) (k:∀ b u,h.get? b=some u->h'.get? b=some u):HOk P w H h':=fun a o e =>
 (x a o e).stay (fun b u _ q=>k b u q) (fun _ q=>q) fun _ _ q=>q
theorem HOk.laid (x:HOk P w H h) (k:∀ b u,h.get? b=some u->h'.get? b=some u) (hp:h.objs.size<=a) (new:ObjOk P w (upd H a o) h' a o):HOk P w (upd H a o) h':=fun b u e=>by
 have hn:=x.fresh hp;by_cases hb:b=a
 . subst hb;rw [ah] at e;cases e;exact new
 . rw [aq hb] at e;exact (x b u e).stay (fun c v _ q=>k c v q) (fun c q=>by rw [aq (bf q hn)];exact q) fun c xs q=>by rw [aq (bf q hn)];exact q
end
def Rd (H:Hp) (a:Addr) (u:HO):Prop:=H a=some u\/∃ o,H a=some (.frz o u)
theorem Rd.ok {P:Program} {w:World} {H:Hp} {h:Heap} {a:Addr} {u:HO} (r:Rd H a u) (x:HOk P w H h):ObjOk P w H h a u:=by
 rcases r with r|⟨o,r⟩
 . exact x a u r
 . obtain ⟨_,q⟩:=x a _ r;exact q
def Mut:Option HO->Prop
 | some (.lst _)=>True
 | some (.dK _)=>True
 | some (.dT _)=>True
 | some (.set _ _)=>True
 | some (.ins _ _ _)=>True
 | some (.ext _)=>True
 | _=>False
section
variable {P:Program} {w:World} {H:Hp} {h h':Heap} {x e:Addr} {o':HO}
theorem HOk.write (ok:HOk P w H h) (mu:Mut (H x)) (he:e=x\/H e=some (.own x)) (k:∀ b u,b≠e->h.get? b=some u->h'.get? b=some u) (heo:∃ u,h'.get? e=some u)
   (new:ObjOk P w (upd H x o') h' x o'):HOk P w (upd H x o') h':=fun b u q=>by
 have nown:∀ c y,H c=some (.own y)->c≠x:=fun c y r z=>by subst z;rw [r] at mu;exact mu
 have ntup:∀ c xs,H c=some (.tup xs)->c≠x:=fun c xs r z=>by subst z;rw [r] at mu;exact mu
 by_cases hb:b=x
 . subst hb;rw [ah] at q;cases q;exact new
 . rw [aq hb] at q;by_cases hbe:b=e
   . have q':H b=some (.own x):=by
       rcases he with z|z
       . exact absurd (hbe.trans z) hb
       . rw [hbe];exact z
     rw [q] at q';cases q';obtain ⟨v,hv⟩:=heo;exact ⟨v,by rw [hbe];exact hv⟩
   . refine (ok b u q).stay (fun c v hc r=>k c v ?_ r) (fun c r=>by rw [aq (nown c b r)];exact r) fun c xs r=>by rw [aq (ntup c xs r)];exact r
     rcases hc with rfl|hc
     . exact hbe
     . rintro rfl;rcases he with z|z
       . exact nown c b hc z
       . rw [hc] at z;cases z;exact hb rfl
end
structure Un (fs ex:List Addr) (H H':Hp) (h h':Heap):Prop where
 keep:∀ b o,h.get? b=some o->H b=none->b ∉ fs->b ∉ ex->h'.get? b=some o
 slot:∀ b o,h.get? b=some o->H b=none->b∈fs->b ∉ ex->∃ sl,h'.get? b=some { o with slots:=sl }
 free:∀ b o,h.get? b=some o->H b=none->b ∉ ex->H' b=none
 there:∀ b o,h.get? b=some o->b ∉ ex->∃ o',h'.get? b=some o'
 tups:∀ b xs,H b=some (.tup xs)->H' b=some (.tup xs)
 frzs:∀ b o u,H b=some (.frz o u)->H' b=some (.frz o u)
 tbls:∀ b ps,H b=some (.tbl ps)->∃ more,H' b=some (.tbl (ps++more))
section
variable {fs fs' ex ex':List Addr} {H H1 H2:Hp} {h h1 h2 h':Heap} {a x e:Addr} {o:HO}
theorem Un.any (u:Un fs ex H H1 h h1) {b:Addr} {ob:Obj} (q:h.get? b=some ob) (n:H b=none) (hx:b ∉ ex):∃ sl,h1.get? b=some { ob with slots:=sl }:=by
 by_cases hb:b∈fs
 . exact u.slot b ob q n hb hx
 . exact ⟨ob.slots,u.keep b ob q n hb hx⟩
theorem Un.kept (k:∀ b u,h.get? b=some u->h'.get? b=some u):Un fs ex H H h h' :=
 ⟨fun b ob q _ _ _=>k b ob q,fun b ob q _ _ _=>⟨ob.slots,k b ob q⟩,fun _ _ _ n _=>n,fun b ob q _=>⟨ob,k b ob q⟩,fun _ _ q=>q,fun _ _ _ q=>q,fun _ ps q=>⟨#[],by rw [q];simp⟩⟩
theorem Un.refl:Un fs ex H H h h:=Un.kept fun _ _ q=>q
theorem Un.laid (k:∀ b u,h.get? b=some u->h'.get? b=some u) (hp:h.objs.size<=a) (hn:H a=none):Un fs ex H (upd H a o) h h' where
 keep:=fun b u q _ _ _=>k b u q
 slot:=fun b u q _ _ _=>⟨u.slots,k b u q⟩
 free:=fun b u q n _=>by rw [aq (Nat.ne_of_lt (Nat.lt_of_lt_of_le (Heap.lt_size q) hp))];exact n
 there:=fun b u q _=>⟨u,k b u q⟩
 tups:=fun b xs q=>by rw [aq (bf q hn)];exact q
 frzs:=fun b u xs q=>by rw [aq (bf q hn)];exact q
 tbls:=fun b ps q=>⟨#[],by rw [aq (bf q hn),q];simp⟩
theorem Un.write (mu:Mut (H x)) (he:e=x\/H e=some (.own x)) (k:∀ b u,b≠e->h.get? b=some u->h'.get? b=some u) (heo:∃ u,h'.get? e=some u):Un fs ex H (upd H x o) h h':=by
 have hx:∀ b,H b=none->b≠x:=fun b n z=>by subst z;rw [n] at mu;exact mu
 have hb:∀ b,H b=none->b≠e:=fun b n z=>by
   subst z;rcases he with r|r
   . exact hx b n r
   . rw [n] at r;cases r
 have hm:∀ b u,H b=some u->¬ Mut (some u)->b≠x:=fun b u q nm z=>by subst z;rw [q] at mu;exact nm mu
 refine ⟨fun b u q n _ _=>k b u (hb b n) q,fun b u q n _ _=>⟨u.slots,k b u (hb b n) q⟩,fun b u q n _=>by rw [aq (hx b n)];exact n,fun b u q _=>?_,
   fun b xs q=>by rw [aq (hm b _ q fun z=>z)];exact q,fun b u xs q=>by rw [aq (hm b _ q fun z=>z)];exact q,fun b ps q=>⟨#[],by rw [aq (hm b _ q fun z=>z),q];simp⟩⟩
 by_cases hbe:b=e
 . subst hbe;exact heo
 . exact ⟨u,k b u hbe q⟩
end
def trk (h:Heap) (H:Hp):List Addr:=(List.range h.objs.size).filter fun a=>(H a).isSome
def uT (h:Heap) (H:Hp):Heap:=PySem.W.hideAll h (trk h H)
theorem K5 (h:Heap) (H:Hp):(uT h H).objs.size=h.objs.size:=PySem.W.hideAll_size _ _
theorem NZ {h:Heap} {H:Hp} {b:Addr} {o:Obj} (e:h.get? b=some o) (n:H b=none):(uT h H).get? b=some o :=
 PySem.W.hideAll_get _ e fun hm=>by
   have q:(H b).isSome=true:=(List.mem_filter.mp hm).2;rw [n] at q;simp at q
theorem Qr {h:Heap} {H:Hp} {b:Addr} {o:Obj} (e:(uT h H).get? b=some o):h.get? b=some o/\H b=none:=by
 have e':h.get? b=some o:=PySem.W.of_hideAll (trk h H) e;refine ⟨e',?_⟩;cases q:H b with
 | none=>rfl
 | some x =>
   have hm:b∈trk h H:=List.mem_filter.mpr ⟨List.mem_range.mpr (Heap.lt_size e'),by simp [q]⟩;have z:(uT h H).get? b=none:=PySem.W.hideAll_none (trk h H) hm;rw [z] at e;cases e
def Qc (g h:Heap) (L:Addr):List (Addr × Obj):=(List.range h.objs.size).filterMap fun a=>if a=L\/(g.get? a).isSome=true then none else (h.get? a).map fun o=>(a,o)
def rest (g h:Heap) (L d:Addr):List (Addr × Obj):=(Qc g h L).filter fun p=>decide (p.1≠d)
end L2
namespace L2
open PySem PySem.Spec PyProof.Rows
structure Mod (K:PySem.W.Frag) (mg:Str->Option Value) (base:Heap):Prop where
 kin:K.In base
 glob:base.Ns mainGlobals mg
 blt:∃ mb,base.Ns builtinsNs mb/\∀ x:Str,x≠"__name__"->mb x=bootBuiltins x
 nolimit:base.NoLimit
structure Cx where
 prog:Program
 w:World
 K:PySem.W.Frag
 mg:Str->Option Value
 base:Heap
 A:Around
 N:List Str
 s₀:Shared
 H₀:Hp
 env:Env
 outer:List Env
 stack:List Env
 ex:List Addr
 fn:Str->Bool
 calm:Bool
 pn:List (Addr × Obj)
 xe:Value->Shared->Prop
def frs (l:List Env):List Addr:=l.filterMap (·.frame)
abbrev Cx.fs (X:Cx):List Addr:=frs X.outer
def Vis (sc:Scope) (x:Str):Prop:=sc.names.lookup x=some .local\/sc.names.lookup x=some .cell\/sc.names.lookup x=some .free
def Loc (sc:Scope) (x:Str):Prop:=sc.names.lookup x=some .local\/sc.names.lookup x=some .cell
def SE (env:Env) (h:Heap) (m:Str->Option Value) (x:Str) (u:Value):Prop :=
 (env.kindOf x=some .local/\m x=some u)\/((env.kindOf x=some .cell\/env.kindOf x=some .free)/\∃ c,env.cells.lookup x=some c/\h.IsCell c (some u))
structure Cx.Ok (X:Cx):Prop where
 mod:Mod X.K X.mg X.base
 kind:X.env.scope.kind=.function
 glob:X.env.globals=mainGlobals
 blt:X.env.builtins=builtinsNs
 above:X.s₀.heap.objs.size<=X.env.locals
 inj:∀ x y c,X.env.cells.lookup x=some c->X.env.cells.lookup y=some c->x=y
 has:∀ x,(X.env.kindOf x=some .cell\/X.env.kindOf x=some .free)->∃ c,X.env.cells.lookup x=some c
 cab:∀ x c,X.fn x=true->X.env.cells.lookup x=some c->X.s₀.heap.objs.size<=c
 hd:X.calm=true->X.A.handled=none
 frames:X.A.frames=some X.stack
 stk:X.stack=X.outer\/(X.stack=X.env::X.outer/\X.env.frame=some X.env.locals)
 exf:∀ b∈X.ex,b≠X.env.locals/\∀ x c,X.env.cells.lookup x=some c->c≠b
 bs:∀ b o,X.base.get? b=some o->X.s₀.heap.get? b=some o/\X.H₀ b=none
 bsz:X.base.objs.size<=X.s₀.heap.objs.size
 noex:∀ b o,X.base.get? b=some o->b ∉ X.ex
 exfs:∀ b∈X.ex,b ∉ X.fs
 funs:X.s₀.heap.FunFrames X.base X.outer
 frf:∀ b∈X.fs,X.H₀ b=none
structure Inv (X:Cx) (pins:List (Addr × Obj)) (σ:List (Option V)) (H:Hp) (s:Shared):Prop where
 ok:X.Ok
 os:s.os=X.s₀.os
 bare:AllBare s.gens
 base:Un X.fs X.ex X.H₀ H X.s₀.heap s.heap
 loc:∃ m,s.heap.Ns X.env.locals m/\∀ (i:Nat) (x:Str) (v:V),X.N[i]?=some x->σ[i]?=some (some v)->Vis X.env.scope x->∃ u,RelV v u/\SE X.env s.heap m x u
 cell:∀ x c,X.env.cells.lookup x=some c->∃ v,s.heap.IsCell c v
 free:H X.env.locals=none
 freeC:∀ x c,X.env.cells.lookup x=some c->H c=none
 pin:∀ p∈X.pn++pins,s.heap.get? p.1=some p.2/\H p.1=none/\p.1≠X.env.locals/\p.1 ∉ X.fs/\∀ v,p.2.data≠.cell v
 hok:HOk X.prog X.w H s.heap
 len:σ.length=X.N.length
section
variable {X:Cx} {pins:List (Addr × Obj)} {σ:List (Option V)} {H H':Hp} {s:Shared} {h':Heap}
theorem Cx.Ok.nofr (ok:X.Ok) {b:Addr} {o:Obj} (e:X.base.get? b=some o):b ∉ X.fs:=fun hb=>by
 have:=(ok.funs.mem hb).1;rw [e] at this;cases this
theorem Inv.bs (I:Inv X pins σ H s):∀ b o,X.base.get? b=some o->s.heap.get? b=some o/\H b=none:=fun b o e =>
 ⟨I.base.keep b o (I.ok.bs b o e).1 (I.ok.bs b o e).2 (I.ok.nofr e) (I.ok.noex b o e),I.base.free b o (I.ok.bs b o e).1 (I.ok.bs b o e).2 (I.ok.noex b o e)⟩
theorem Inv.bk (I:Inv X pins σ H s):∀ b o,X.base.get? b=some o->s.heap.get? b=some o:=fun b o e=>(I.bs b o e).1
theorem Inv.mod (I:Inv X pins σ H s):Mod X.K X.mg X.base:=I.ok.mod
theorem Inv.kIn (I:Inv X pins σ H s):X.K.In s.heap:=I.ok.mod.kin.keeps I.bk
theorem Inv.lt (I:Inv X pins σ H s):X.env.locals<s.heap.objs.size:=let ⟨_,hn,_⟩:=I.loc;hn.lt
theorem Inv.sz (I:Inv X pins σ H s):X.s₀.heap.objs.size<=s.heap.objs.size:=Nat.le_trans I.ok.above (Nat.le_of_lt I.lt)
theorem Inv.nofs (I:Inv X pins σ H s) {a:Addr} (h:s.heap.objs.size<=a):a ∉ X.fs:=fun hb=>by
 obtain ⟨_,o,ho,_⟩:=I.ok.funs.mem hb;exact absurd (Nat.lt_of_lt_of_le (Heap.lt_size ho) (Nat.le_trans I.sz h)) (Nat.lt_irrefl _)
theorem Inv.cne (I:Inv X pins σ H s):∀ x c,X.env.cells.lookup x=some c->c≠X.env.locals:=fun x c e z=>by
 obtain ⟨v,o,ho,hd⟩:=I.cell x c e;obtain ⟨m,⟨o',es,ep,ho',hd',_⟩,_⟩:=I.loc;rw [z,ho'] at ho;cases ho;rw [hd'] at hd;cases hd
theorem Inv.funs (I:Inv X pins σ H s):s.heap.FunFrames X.base X.outer:=by
 have all:∀ (l:List Env),(∀ b∈frs l,b∈X.fs)->X.s₀.heap.FunFrames X.base l->s.heap.FunFrames X.base l:=by
   intro l
   induction l with
   | nil=>intro _ _;trivial
   | cons env r ih =>
     intro hs hl;obtain ⟨hk,⟨L,o,hf,hn,ho,hd⟩,hr⟩:=hl;have hL:L∈X.fs:=hs L (by unfold frs;rw [List.filterMap_cons,hf];exact List.mem_cons_self);obtain ⟨sl,e⟩:=I.base.slot L o ho (I.ok.frf L hL) hL fun z=>I.ok.exfs L z hL;exact ⟨hk,⟨L,_,hf,hn,e,hd⟩,ih (fun b hb=>hs b (by unfold frs;rw [List.filterMap_cons,hf];exact List.mem_cons_of_mem _ hb)) hr⟩
 exact all X.outer (fun _ hb=>hb) I.ok.funs
theorem Inv.stack (I:Inv X pins σ H s):s.heap.FunFrames X.base X.stack:=by
 rcases I.ok.stk with e|⟨e,hf⟩
 . rw [e];exact I.funs
 . rw [e];obtain ⟨m,hn,_⟩:=I.loc;refine .cons (by rw [I.ok.kind];decide) hf hn ?_ I.funs;exact Heap.get?_none_of_le (Nat.le_trans I.ok.bsz I.ok.above)
theorem Inv.stkSub (I:Inv X pins σ H s):∀ b∈frs X.stack,b∈X.env.locals::X.fs:=fun b hb=>by
 rcases I.ok.stk with e|⟨e,hf⟩
 . rw [e] at hb;exact List.mem_cons_of_mem _ hb
 . rw [e] at hb;unfold frs at hb;rw [List.filterMap_cons,hf] at hb;exact hb
theorem Inv.stkFree (I:Inv X pins σ H s):∀ b∈frs X.stack,H b=none:=fun b hb=>by
 rcases List.mem_cons.mp (I.stkSub b hb) with e|hb
 . rw [e];exact I.free
 . obtain ⟨_,o,ho,_⟩:=I.ok.funs.mem hb;exact I.base.free b o ho (I.ok.frf b hb) fun z=>I.ok.exfs b z hb
theorem Inv.step {g':Array GenState} {t':Nat} {d':Drawn} {ch:List Addr} (I:Inv X pins σ H s)
   (hch:∀ b∈ch,(b∈X.ex\/X.s₀.heap.objs.size<=b)/\b≠X.env.locals/\(∀ x c,X.env.cells.lookup x=some c->c≠b)/\∀ p∈X.pn++pins,p.1≠b)
   (keep:∀ b o,b≠X.env.locals->b ∉ X.fs->b ∉ ch->s.heap.get? b=some o->H b=none->h'.get? b=some o)
   (slot:∀ b o,b≠X.env.locals->b∈X.fs->b ∉ ch->s.heap.get? b=some o->H b=none->∃ sl,h'.get? b=some { o with slots:=sl }) (free:∀ b o,b ∉ ch->s.heap.get? b=some o->H b=none->H' b=none)
   (there:∀ b o,b ∉ ch->s.heap.get? b=some o->∃ o',h'.get? b=some o')
   (tups:∀ b xs,H b=some (.tup xs)->H' b=some (.tup xs)) (frzs:∀ b o u,H b=some (.frz o u)->H' b=some (.frz o u)) (tbls:∀ b ps,H b=some (.tbl ps)->∃ more,H' b=some (.tbl (ps++more)))
   (ns:∀ m,s.heap.Ns X.env.locals m->h'.Ns X.env.locals m) (hok:HOk X.prog X.w H' h') (hg:AllBare g') :
   Inv X pins σ H' { s with heap:=h',gens:=g',drawn:=d',toks:=t' }:=by
 have neL:∀ b o,X.s₀.heap.get? b=some o->b≠X.env.locals:=fun b o e=>Nat.ne_of_lt (Nat.lt_of_lt_of_le (Heap.lt_size e) I.ok.above);have neC:∀ b o,X.s₀.heap.get? b=some o->b ∉ X.ex->b ∉ ch:=fun b o e hx hb=>by
   rcases (hch b hb).1 with z|z
   . exact hx z
   . exact absurd (Nat.lt_of_lt_of_le (Heap.lt_size e) z) (Nat.lt_irrefl _)
 have cellK:∀ x c,X.env.cells.lookup x=some c->∀ v,s.heap.IsCell c v->h'.IsCell c v:=fun x c e v ⟨o,ho,hd⟩=>by
   have nch:c ∉ ch:=fun z=>(hch c z).2.2.1 x c e rfl;by_cases hc:c∈X.fs
   . obtain ⟨sl,q⟩:=slot c o (I.cne x c e) hc nch ho (I.freeC x c e);exact ⟨_,q,hd⟩
   . exact ⟨o,keep c o (I.cne x c e) hc nch ho (I.freeC x c e),hd⟩
 refine ⟨I.ok,I.os,hg,⟨fun b o e n hb hx=>?_,fun b o e n hb hx=>?_,fun b o e n hx=>?_,fun b o e hx=>?_,fun b xs e=>tups b xs (I.base.tups b xs e),fun b o xs e=>frzs b o xs (I.base.frzs b o xs e),fun b ps e=>?_⟩,?_,fun x c e=>?_,?_,fun x c e=>?_,fun p hp=>?_,hok,I.len⟩
 . exact keep b o (neL b o e) hb (neC b o e hx) (I.base.keep b o e n hb hx) (I.base.free b o e n hx)
 . obtain ⟨sl,e1⟩:=I.base.slot b o e n hb hx;obtain ⟨sl',e2⟩:=slot b _ (neL b o e) hb (neC b o e hx) e1 (I.base.free b o e n hx);exact ⟨sl',e2⟩
 . obtain ⟨o',e1⟩:=I.base.there b o e hx;exact free b o' (neC b o e hx) e1 (I.base.free b o e n hx)
 . obtain ⟨o',e1⟩:=I.base.there b o e hx;exact there b o' (neC b o e hx) e1
 . obtain ⟨m1,e1⟩:=I.base.tbls b ps e;obtain ⟨m2,e2⟩:=tbls b _ e1;exact ⟨m1++m2,by rw [e2,Array.append_assoc]⟩
 . obtain ⟨m,hn,hl⟩:=I.loc;refine ⟨m,ns m hn,fun i x v e1 e2 e3=>?_⟩;obtain ⟨u,r,l⟩:=hl i x v e1 e2 e3;refine ⟨u,r,?_⟩;rcases l with l|⟨k,c,e,z⟩
   . exact .inl l
   . exact .inr ⟨k,c,e,cellK x c e _ z⟩
 . obtain ⟨v,z⟩:=I.cell x c e;exact ⟨v,cellK x c e v z⟩
 . obtain ⟨m,⟨o,_,_,ho,_⟩,_⟩:=I.loc;exact free _ o (fun z=>(hch _ z).2.1 rfl) ho I.free
 . obtain ⟨v,o,ho,hd⟩:=I.cell x c e;exact free c o (fun z=>(hch c z).2.2.1 x c e rfl) ho (I.freeC x c e)
 . obtain ⟨e,n,ne,nf,d⟩:=I.pin p hp;have nch:p.1 ∉ ch:=fun z=>(hch p.1 z).2.2.2 p hp rfl;exact ⟨keep p.1 p.2 ne nf nch e n,free p.1 p.2 nch e n,ne,nf,d⟩
theorem Inv.un {t':Nat} (I:Inv X pins σ H s) (u:Un X.fs [] H H' s.heap h') (hok:HOk X.prog X.w H' h'):Inv X pins σ H' { s with heap:=h',toks:=t' }:=by
 obtain ⟨m,⟨o,es,ep,ho,r⟩,_⟩:=id I.loc;obtain ⟨sl,hL⟩:=u.any ho I.free (by simp);exact I.step (g':=s.gens) (d':=s.drawn) (ch:=[]) (fun _ z=>nomatch z) (fun b o _ hb _ e n=>u.keep b o e n hb (by simp)) (fun b o _ hb _ e n=>u.slot b o e n hb (by simp)) (fun b o _ e n=>u.free b o e n (by simp)) (fun b o _ e=>u.there b o e (by simp)) u.tups u.frzs u.tbls (fun m' hm=>by
   obtain ⟨o',es',ep',ho',r'⟩:=hm;rw [ho] at ho';cases ho';exact ⟨_,es',ep',hL,r'⟩) hok I.bare
theorem Inv.call {g':Array GenState} {t':Nat} {d':Drawn} {ch:List Addr} (I:Inv X pins σ H s) (u:Un (frs X.stack) ch H H' s.heap h') (hok:HOk X.prog X.w H' h') (hg:AllBare g')
   (hch:∀ b∈ch,(b∈X.ex\/X.s₀.heap.objs.size<=b)/\b≠X.env.locals/\(∀ x c,X.env.cells.lookup x=some c->c≠b)/\∀ p∈X.pn++pins,p.1≠b) :
   Inv X pins σ H' { s with heap:=h',gens:=g',drawn:=d',toks:=t' }:=by
 obtain ⟨m,⟨o,es,ep,ho,r⟩,_⟩:=id I.loc;obtain ⟨sl,hL⟩:=u.any ho I.free fun z=>(hch _ z).2.1 rfl;exact I.step (ch:=ch) hch (fun b o hL hb hc e n=>u.keep b o e n (fun z=>(List.mem_cons.mp (I.stkSub b z)).elim hL hb) hc) (fun b o _ _ hc e n=>u.any e n hc) (fun b o hc e n=>u.free b o e n hc) (fun b o hc e=>u.there b o e hc) u.tups u.frzs u.tbls (fun m' hm=>by
   obtain ⟨o',es',ep',ho',r'⟩:=hm;rw [ho] at ho';cases ho';exact ⟨_,es',ep',hL,r'⟩) hok hg
theorem Inv.turned {t':Nat} {it:Addr} (I:Inv X pins σ H s) (k:∀ b o,b≠it->s.heap.get? b=some o->h'.get? b=some o) (hn:H it=none) (hL:it≠X.env.locals)
   (h1:it∈X.ex\/X.s₀.heap.objs.size<=it) (h2:∀ x c,X.env.cells.lookup x=some c->c≠it) (h3:∀ p∈X.pn++pins,p.1≠it):Inv X pins σ H { s with heap:=h',toks:=t' }:=by
 have nit:∀ b u,H b=some u->b≠it:=fun b u e z=>by rw [z,hn] at e;cases e
 refine I.step (g':=s.gens) (d':=s.drawn) (ch:=[it]) (fun b hb=>?_) (fun b o _ _ hc e _=>k b o (fun z=>hc (by simp [z])) e) (fun b o _ _ hc e _=>⟨o.slots,k b o (fun z=>hc (by simp [z])) e⟩) (fun _ _ _ _ n=>n)
   (fun b o hc e=>⟨o,k b o (fun z=>hc (by simp [z])) e⟩) (fun _ _ e=>e) (fun _ _ _ e=>e) (fun b ps e=>⟨#[],by rw [e];simp⟩) (fun m hm=>?_) (fun b u e=>?_) I.bare
 . have e:b=it:=by simpa using hb
   subst e;exact ⟨h1,hL,h2,h3⟩
 . obtain ⟨o,es,ep,ho,r⟩:=hm;exact ⟨o,es,ep,k _ o (Ne.symm hL) ho,r⟩
 . refine (I.hok b u e).stay (fun c v hc q=>k c v ?_ q) (fun _ q=>q) fun _ _ q=>q;rcases hc with z|z
   . rw [z];exact nit b u e
   . exact nit c _ z
theorem Inv.tok (I:Inv X pins σ H s) (t:Nat):Inv X pins σ H { s with toks:=t }:=I.un (h':=s.heap) (t':=t) Un.refl I.hok
theorem Inv.kept {t':Nat} (I:Inv X pins σ H s) (k:∀ b u,s.heap.get? b=some u->h'.get? b=some u):Inv X pins σ H { s with heap:=h',toks:=t' }:=I.un (Un.kept k) (I.hok.kept k)
theorem Inv.laid {a:Addr} {o:HO} {t':Nat} (I:Inv X pins σ H s) (k:∀ b u,s.heap.get? b=some u->h'.get? b=some u) (hp:s.heap.objs.size<=a) (new:ObjOk X.prog X.w (upd H a o) h' a o) :
   Inv X pins σ (upd H a o) { s with heap:=h',toks:=t' }:=I.un (Un.laid k hp (I.hok.fresh hp)) (I.hok.laid k hp new)
theorem Inv.write {x e:Addr} {o:HO} {t':Nat} (I:Inv X pins σ H s) (mu:Mut (H x)) (he:e=x\/H e=some (.own x)) (k:∀ b u,b≠e->s.heap.get? b=some u->h'.get? b=some u) (heo:∃ u,h'.get? e=some u)
   (new:ObjOk X.prog X.w (upd H x o) h' x o):Inv X pins σ (upd H x o) { s with heap:=h',toks:=t' }:=I.un (Un.write mu he k heo) (I.hok.write mu he k heo new)
theorem Inv.pins_of {pins':List (Addr × Obj)} (I:Inv X pins σ H s) (h:∀ p∈pins',s.heap.get? p.1=some p.2/\H p.1=none/\p.1≠X.env.locals/\p.1 ∉ X.fs/\∀ v,p.2.data≠.cell v):Inv X pins' σ H s :=
 ⟨I.ok,I.os,I.bare,I.base,I.loc,I.cell,I.free,I.freeC,fun p hp=>(List.mem_append.mp hp).elim (fun z=>I.pin p (List.mem_append_left _ z)) (h p),I.hok,I.len⟩
theorem E3 {N:List Str} (hN:N.Nodup) {i j:Nat} {x:Str} (a:N[i]?=some x) (b:N[j]?=some x):i=j:=by
 obtain ⟨h1,e1⟩:=List.getElem?_eq_some_iff.mp a;obtain ⟨h2,e2⟩:=List.getElem?_eq_some_iff.mp b;exact (List.getElem_inj hN).mp (e1.trans e2.symm)
theorem C9 {M:Model} {A:Around} {E:Value->Shared->Prop} {i:Nat} {x:Str} {v:V} {u:Value} {Q:Unit->Shared->Prop} (I:Inv X pins σ H s) (hN:X.N.Nodup) (hi:X.N[i]?=some x) (hx:Loc X.env.scope x) (r:RelV v u)
   (h:∀ s',Inv X pins (σ.set i (some v)) H s'->(∃ a,Heap.SameBut a s.heap s'.heap/\(a=X.env.locals\/X.env.cells.lookup x=some a))->Q () s') (hf:X.fn x=true\/X.env.scope.names.lookup x=some .local:=by first|exact .inl rfl|exact .inr rfl|assumption):wpAny M A (storeName X.env x u) Q E s:=by
 obtain ⟨m,hn,hl⟩:=id I.loc;have hcls:(X.env.scope.kind == .class || (X.env.scope.kind == .module && X.env.locals != X.env.globals))=false:=by rw [I.ok.kind];rfl
 have hiσ:i<σ.length:=by rw [I.len];exact (List.getElem?_eq_some_iff.mp hi).1
 have cne:=I.cne;have tracked:∀ {a:Addr} {h':Heap},(∃ o,s.heap.get? a=some o/\H a=none)->Heap.SameBut a s.heap h'->HOk X.prog X.w H h':=fun {a h'} ha hs b ob e=>by
   obtain ⟨_,_,hfree⟩:=ha;refine (I.hok b ob e).stay (fun c w' hc q=>(hs.2 c ?_).trans q) (fun _ q=>q) fun _ _ q=>q;rintro rfl;rcases hc with rfl|hc
   . rw [hfree] at e;cases e
   . rw [hfree] at hc;cases hc
 rcases hx with hk|hk
 . refine wpAny_storeName_local hk hn (fun h' hn' hs=>?_) hcls;obtain ⟨oL,_,_,hoL,_⟩:=id hn;refine h _ ⟨I.ok,I.os,I.bare,⟨fun b o e n hb hx=>?_,fun b o e n hb hx=>?_,I.base.free,fun b o e hx=>?_,I.base.tups,I.base.frzs,I.base.tbls⟩,⟨_,hn',fun j y v' e1 e2 e3=>?_⟩,fun y c e=>?_,I.free,I.freeC,fun p hp=>?_,tracked ⟨oL,hoL,I.free⟩ hs,by simpa using I.len⟩ ⟨_,hs,.inl rfl⟩
   . exact (hs.2 b (Nat.ne_of_lt (Nat.lt_of_lt_of_le (Heap.lt_size e) I.ok.above))).trans (I.base.keep b o e n hb hx)
   . obtain ⟨sl,e1⟩:=I.base.slot b o e n hb hx;exact ⟨sl,(hs.2 b (Nat.ne_of_lt (Nat.lt_of_lt_of_le (Heap.lt_size e) I.ok.above))).trans e1⟩
   . obtain ⟨o',e1⟩:=I.base.there b o e hx;exact ⟨o',(hs.2 b (Nat.ne_of_lt (Nat.lt_of_lt_of_le (Heap.lt_size e) I.ok.above))).trans e1⟩
   . by_cases hj:j=i
     . subst hj;rw [hi] at e1;cases e1;rw [List.getElem?_set_self hiσ] at e2;cases e2;exact ⟨u,r,.inl ⟨hk,by simp⟩⟩
     . rw [List.getElem?_set_ne (Ne.symm hj)] at e2;obtain ⟨u',r',q⟩:=hl j y v' e1 e2 e3;refine ⟨u',r',?_⟩;rcases q with ⟨k,e⟩|⟨k,c,e,z⟩
       . refine .inl ⟨k,?_⟩;have:y≠x:=fun e=>hj (E3 hN e1 (e ▸ hi));simp [this,e]
       . exact .inr ⟨k,c,e,z.sameBut hs (cne y c e)⟩
   . obtain ⟨w',z⟩:=I.cell y c e;exact ⟨w',z.sameBut hs (cne y c e)⟩
   . obtain ⟨e,n,ne,nf,d⟩:=I.pin p hp;exact ⟨(hs.2 p.1 ne).trans e,n,ne,nf,d⟩
 . have hfn:X.fn x=true:=by
     rcases hf with z|z
     . exact z
     . rw [z] at hk;cases hk
   obtain ⟨c,hc⟩:=I.ok.has x (.inl hk);obtain ⟨w',z⟩:=I.cell x c hc;refine wpAny_storeName_cell I.ok.kind hk hc z (fun h' hc' hs=>?_);obtain ⟨oc,hoc,hocd⟩:=id z;refine h { s with heap:=h' } ⟨I.ok,I.os,I.bare,⟨fun b o e n hb hx=>?_,fun b o e n hb hx=>?_,I.base.free,fun b o e hx=>?_,I.base.tups,I.base.frzs,I.base.tbls⟩,⟨m,hn.sameBut hs (Ne.symm (cne x c hc)),fun j y v' e1 e2 e3=>?_⟩,fun y c' e=>?_,I.free,I.freeC,fun p hp=>?_,tracked ⟨oc,hoc,I.freeC x c hc⟩ hs,by simpa using I.len⟩ ⟨c,hs,.inr hc⟩
   . exact (hs.2 b (Nat.ne_of_lt (Nat.lt_of_lt_of_le (Heap.lt_size e) (I.ok.cab x c hfn hc)))).trans (I.base.keep b o e n hb hx)
   . obtain ⟨sl,e1⟩:=I.base.slot b o e n hb hx;exact ⟨sl,(hs.2 b (Nat.ne_of_lt (Nat.lt_of_lt_of_le (Heap.lt_size e) (I.ok.cab x c hfn hc)))).trans e1⟩
   . obtain ⟨o',e1⟩:=I.base.there b o e hx;exact ⟨o',(hs.2 b (Nat.ne_of_lt (Nat.lt_of_lt_of_le (Heap.lt_size e) (I.ok.cab x c hfn hc)))).trans e1⟩
   . by_cases hj:j=i
     . subst hj;rw [hi] at e1;cases e1;rw [List.getElem?_set_self hiσ] at e2;cases e2;exact ⟨u,r,.inr ⟨.inl hk,c,hc,hc'⟩⟩
     . rw [List.getElem?_set_ne (Ne.symm hj)] at e2;obtain ⟨u',r',q⟩:=hl j y v' e1 e2 e3;refine ⟨u',r',?_⟩;rcases q with q|⟨k,c',e,z'⟩
       . exact .inl q
       . refine .inr ⟨k,c',e,z'.sameBut hs ?_⟩;rintro rfl;exact hj (E3 hN e1 (I.ok.inj _ _ _ e hc ▸ hi))
   . by_cases hcc:c'=c
     . subst hcc;exact ⟨_,hc'⟩
     . obtain ⟨w2,z2⟩:=I.cell y c' e;exact ⟨w2,z2.sameBut hs hcc⟩
   . obtain ⟨e,n,ne,nf,d⟩:=I.pin p hp;refine ⟨(hs.2 p.1 ?_).trans e,n,ne,nf,d⟩;intro q;rw [q,hoc] at e;have q':oc=p.2:=Option.some.inj e;exact d w' (by rw [<- q'];exact hocd)
theorem Er {M:Model} {A:Around} {E:Value->Shared->Prop} {i:Nat} {x:Str} {v:V} {u:Value} {Q:Unit->Shared->Prop} (I:Inv X pins σ H s) (hN:X.N.Nodup) (hi:X.N[i]?=some x) (hx:Loc X.env.scope x) (r:RelV v u)
   (h:∀ s',Inv X pins (σ.set i (some v)) H s'->Q () s') (hf:X.fn x=true\/X.env.scope.names.lookup x=some .local:=by first|exact .inl rfl|exact .inr rfl|assumption):wpAny M A (storeName X.env x u) Q E s :=
 C9 I hN hi hx r (fun s' I' _=>h s' I') hf
theorem Inv.call' {s':Shared} {ch:List Addr} (I:Inv X pins σ H s) (ho:s'.os=s.os) (u:Un (frs X.stack) ch H H' s.heap s'.heap) (hok:HOk X.prog X.w H' s'.heap) (hg:AllBare s'.gens)
   (hch:∀ b∈ch,(b∈X.ex\/X.s₀.heap.objs.size<=b)/\b≠X.env.locals/\(∀ x c,X.env.cells.lookup x=some c->c≠b)/\∀ p∈X.pn++pins,p.1≠b):Inv X pins σ H' s':=by
 obtain ⟨h',g',d',t',o'⟩:=s';have e:o'=s.os:=ho;subst e;exact I.call (g':=g') (t':=t') (d':=d') u hok hg hch
end
abbrev XK:=Value->Option Addr->Hp->Prop
abbrev St:=List (Option V)
abbrev VK:=V->Hp->Prop
abbrev TE:=St->Hp->VK->Prop
abbrev TT:=St->Hp->(Bool->Hp->Prop)->Prop
abbrev TA:=St->Hp->(List V->Hp->Prop)->Prop
structure Ends where
 nx:St->Hp->Prop
 rt:VK
 bk:St->Hp->Prop:=fun _ _=>False
 ct:St->Hp->Prop:=fun _ _=>False
abbrev TS:=Ends->St->Hp->Prop
def EP (X:Cx) (pins:List (Addr × Obj)) (σ:St) (Q:VK) (u:Value) (s':Shared):Prop:=∃ v H',Inv X pins σ H' s'/\RelV v u/\Q v H'
def TP (X:Cx) (pins:List (Addr × Obj)) (σ:St) (Q:Bool->Hp->Prop) (b:Bool) (s':Shared):Prop:=∃ H',Inv X pins σ H' s'/\Q b H'
def AP (X:Cx) (pins:List (Addr × Obj)) (σ:St) (Q:List V->Hp->Prop) (us:List Value) (s':Shared):Prop:=∃ vs H',Inv X pins σ H' s'/\Vals vs us/\Q vs H'
def SP (X:Cx) (pins:List (Addr × Obj)) (D:Ends) (f:Flow) (s':Shared):Prop :=
 match f with
 | .next=>∃ σ' H',Inv X pins σ' H' s'/\D.nx σ' H'
 | .brk=>∃ σ' H',Inv X pins σ' H' s'/\D.bk σ' H'
 | .cont=>∃ σ' H',Inv X pins σ' H' s'/\D.ct σ' H'
 | .ret u=>∃ v σ' H',Inv X pins σ' H' s'/\RelV v u/\D.rt v H'
def PE (X:Cx) (e:Expr) (t:TE):Prop :=
 ∀ (pins:List (Addr × Obj)) (s:Shared) (σ:St) (H:Hp) (Q:VK),Inv X pins σ H s->t σ H Q->wpAny (model X.prog X.w) X.A (eval e X.env) (EP X pins σ Q) X.xe s
def PT (X:Cx) (e:Expr) (t:TT):Prop :=
 ∀ (pins:List (Addr × Obj)) (s:Shared) (σ:St) (H:Hp) (Q:Bool->Hp->Prop),Inv X pins σ H s->t σ H Q->wpAny (model X.prog X.w) X.A (isTrue e X.env (eval e X.env)) (TP X pins σ Q) X.xe s
def PW (X:Cx) (e:Expr) (t:TT):Prop :=
 ∀ (whole:Sem Value) (pins:List (Addr × Obj)) (s:Shared) (σ:St) (H:Hp) (Q:Bool->Hp->Prop),Inv X pins σ H s->t σ H Q->wpAny (model X.prog X.w) X.A (isTrue e X.env whole) (TP X pins σ Q) X.xe s
theorem PW.pt {X:Cx} {e:Expr} {t:TT} (h:PW X e t):PT X e t:=h _
def PA (X:Cx) (es:List Expr) (t:TA):Prop :=
 ∀ (pos:Pos) (pins:List (Addr × Obj)) (s:Shared) (σ:St) (H:Hp) (Q:List V->Hp->Prop),Inv X pins σ H s->t σ H Q->wpAny (model X.prog X.w) X.A (spliced (backTo pos (starEach es X.env))) (AP X pins σ Q) X.xe s
def PS (X:Cx) (st:Stmt) (t:TS):Prop :=
 ∀ (pins:List (Addr × Obj)) (s:Shared) (σ:St) (H:Hp) (D:Ends),Inv X pins σ H s->t D σ H->wpAny (model X.prog X.w) X.A (exec st X.env) (SP X pins D) X.xe s
def PSs (X:Cx) (st:List Stmt) (t:TS):Prop :=
 ∀ (pins:List (Addr × Obj)) (s:Shared) (σ:St) (H:Hp) (D:Ends),Inv X pins σ H s->t D σ H->wpAny (model X.prog X.w) X.A (execs st X.env) (SP X pins D) X.xe s
theorem thn {α:Type} {t:Sem α} {Q Q':α->Shared->Prop} {M:Model} {A:Around} {E:Value->Shared->Prop} {s:Shared} (h:wpAny M A t Q E s) (hQ:∀ a s,Q a s->Q' a s):wpAny M A t Q' E s:=wpAny_mono h hQ fun _ _ x=>x
theorem bw {t:Sem Value} {X:Cx} {pins:List (Addr × Obj)} {σ:St} {Q:VK} {Q':Value->Shared->Prop} {M:Model} {A:Around} {E:Value->Shared->Prop} {s:Shared} (h:wpAny M A t (EP X pins σ Q) E s) (hQ:∀ u s v H,Inv X pins σ H s->RelV v u->Q v H->Q' u s):wpAny M A t Q' E s:=thn h fun u s ⟨v,H,I,r,q⟩=>hQ u s v H I r q
theorem rj {t:Sem (List Value)} {X:Cx} {pins:List (Addr × Obj)} {σ:St} {Q:List V->Hp->Prop} {Q':List Value->Shared->Prop} {M:Model} {A:Around} {E:Value->Shared->Prop} {s:Shared} (h:wpAny M A t (AP X pins σ Q) E s) (hQ:∀ u s v H,Inv X pins σ H s->Vals v u->Q v H->Q' u s):wpAny M A t Q' E s:=thn h fun u s ⟨v,H,I,r,q⟩=>hQ u s v H I r q
theorem BC {t:Sem Bool} {X:Cx} {pins:List (Addr × Obj)} {σ:St} {Q:Bool->Hp->Prop} {Q':Bool->Shared->Prop} {M:Model} {A:Around} {E:Value->Shared->Prop} {s:Shared} (h:wpAny M A t (TP X pins σ Q) E s) (hQ:∀ u s H,Inv X pins σ H s->Q u H->Q' u s):wpAny M A t Q' E s:=thn h fun u s ⟨H,I,q⟩=>hQ u s H I q
end L2
namespace L2
open PySem PySem.Spec PyProof.Rows
section
variable {X:Cx}
def BJ (i:Nat):TE:=fun σ H Q=>∃ v,σ[i]?=some (some v)/\Q v H
def tC (v:V):TE:=fun _ H Q=>Q v H
theorem Fc {i:Nat} {x:Str} {pos:Pos} (hN:X.N[i]?=some x) (hv:Vis X.env.scope x) (hd:(x == ("__debug__":Str))=false:=by decide) (hcd:(x == ("__classdict__":Str))=false:=by decide):PE X (.Name x pos) (BJ i):=by
 intro pins s σ H Q I h;obtain ⟨v,e,h⟩:=h;obtain ⟨m,hn,hl⟩:=I.loc;obtain ⟨u,r,l⟩:=hl i x v hN e hv;have fin:EP X pins σ Q u s:=⟨v,H,I,r,h⟩;rcases l with ⟨hk,hm⟩|⟨hk,c,hc,hcell⟩
 . exact wpAny_Name (wpAny_loadName_local I.ok.kind hk hn hm fin) hd
 . rcases hk with hk|hk
   . exact wpAny_Name (wpAny_loadName_cell I.ok.kind hk hc hcell fin) hd
   . exact wpAny_Name (wpAny_loadName_free I.ok.kind hk hc hcell fin hcd) hd
theorem ap {i j pos}:PE X (.Constant (.int i) j pos) (tC (.int i)):=fun _ _ _ H _ I h=>wpAny_Constant_int ⟨.int i,H,I.tok _,⟨_,rfl⟩,h⟩
theorem Bf {b j pos}:PE X (.Constant (.bool b) j pos) (tC (.bl b)):=fun _ _ _ H _ I h=>Constant_bool ⟨.bl b,H,I,rfl,h⟩
theorem vT {j pos}:PE X (.Constant .none j pos) (tC .non):=fun _ _ _ H _ I h=>Constant_none ⟨.non,H,I,rfl,h⟩
theorem Al {x j pos}:PE X (.Constant (.str x) j pos) (tC (.str x)):=fun _ _ _ H _ I h=>Calls.Constant_str ⟨.str x,H,I.tok _,⟨_,rfl⟩,h⟩
def Gl (X:Cx) (x:Str):Prop:=X.env.kindOf x=some .globalImplicit
theorem yd {E:Value->Shared->Prop} {pins:List (Addr × Obj)} {s:Shared} {σ:St} {H:Hp} {x:Str} {u:Value} {pos:Pos} {Q:Value->Shared->Prop} (I:Inv X pins σ H s) (hg:Gl X x) (hm:X.mg x=some u) (h:Q u s)
   (hd:(x == ("__debug__":Str))=false:=by decide):wpAny (model X.prog X.w) X.A (eval (.Name x pos) X.env) Q E s :=
 Calls.Name_function_global I.ok.kind hg (Calls.loadGlobal_global (by rw [I.ok.glob];exact I.mod.glob.keeps I.bk) hm h) hd
theorem oZ {E:Value->Shared->Prop} {pins:List (Addr × Obj)} {s:Shared} {σ:St} {H:Hp} {x:Str} {u:Value} {pos:Pos} {Q:Value->Shared->Prop} (I:Inv X pins σ H s) (hg:Gl X x) (hm:X.mg x=none) (hv:bootBuiltins x=some u) (h:Q u s)
   (hn:x≠"__name__":=by decide) (hd:(x == ("__debug__":Str))=false:=by decide):wpAny (model X.prog X.w) X.A (eval (.Name x pos) X.env) Q E s:=by
 obtain ⟨mb,h1,h2⟩:=I.mod.blt;exact Calls.Name_function_global I.ok.kind hg (Calls.loadGlobal_builtin (by rw [I.ok.glob];exact I.mod.glob.keeps I.bk) hm (by rw [I.ok.blt];exact h1.keeps I.bk) ((h2 x hn).trans hv) h) hd
theorem PY {x:Str} {v:V} {u:Value} {pos:Pos} (hg:Gl X x) (hm:X.mg x=some u) (r:RelV v u) (hd:(x == ("__debug__":Str))=false:=by decide):PE X (.Name x pos) (tC v) :=
 fun _ _ _ H _ I h=>yd I hg hm ⟨v,H,I,r,h⟩ hd
variable {a b:Expr} {ta tb:TE} {pos:Pos}
def PC (X:Cx) (op:CmpOp) (a b:Expr) (t:TE):Prop :=
 ∀ (pins:List (Addr × Obj)) (s:Shared) (σ:St) (H:Hp) (Q:VK),Inv X pins σ H s->t σ H Q ->
   wpAny (model X.prog X.w) X.A (eval a X.env) (fun v s₁=>wpAny (model X.prog X.w) X.A (eval b X.env) (fun u s₂=>wpAny (model X.prog X.w) X.A (compareOp op v u) (EP X pins σ Q) X.xe s₂) X.xe s₁) X.xe s
theorem Oi (b:Expr) {op:CmpOp} (h:op≠.In) (h2:op≠.NotIn):behindInMarks op b=false:=by
 have e1:(op == CmpOp.In)=false:=by cases op <;> first|rfl|exact absurd rfl h
 have e2:(op == CmpOp.NotIn)=false:=by cases op <;> first|rfl|exact absurd rfl h2
 cases b <;> simp [behindInMarks,e1,e2]
def Q7 (ta:TE):TE:=fun σ H Q=>ta σ H fun x H1=>Q (.bl (decide (x=.non))) H1
def Jb (ta:TE):TE:=fun σ H Q=>ta σ H fun x H1=>Q (.bl (!decide (x=.non))) H1
theorem RelV.none_iff {x:V} {v:Value} (r:RelV x v):(v == Value.none)=decide (x=.non):=by
 cases x with
 | non=>cases r;rfl
 | bl _=>cases r;rfl
 | int _=>obtain ⟨t,rfl⟩:=r;rfl
 | str _=>obtain ⟨t,rfl⟩:=r;rfl
 | byt _=>obtain ⟨t,rfl⟩:=r;rfl
 | flt _=>obtain ⟨t,rfl⟩:=r;rfl
 | ref _=>cases r;rfl
 | ty _=>cases r;rfl
theorem HS {j pos'} (ha:PE X a ta):PC X .IsNot a (.Constant .none j pos') (Jb ta):=by
 intro pins s σ H Q I h;refine bw (ha pins s σ H _ I h) fun v s1 x H1 I1 r1 q1=>?_;exact Constant_none (isnot_none_gen ⟨.bl _,H1,I1,by rw [r1.none_iff];rfl,q1⟩)
def tB (t:TE):TT:=fun σ H Q=>t σ H fun x H1=>∃ c,x=.bl c/\Q c H1
theorem AW {op:CmpOp} {t:TE} (h:PC X op a b t) (h1:behindInMarks op b=false:=by first|exact Oi _ (by decide) (by decide)|rfl):PT X (.Compare a [op] [b] pos) (tB t):=by
 intro pins s σ H Q I hw;refine wpAny_isTrue_Compare1 (thn (h pins s σ H _ I hw) fun v s1 h1=>thn h1 fun u s2 h2=>thn h2 fun c s3 ⟨x,H1,I1,r1,q1⟩=>?_) h1;obtain ⟨d,rfl,q⟩:=q1;cases r1;exact wpAny_truthy_bool ⟨H1,I1,q⟩
theorem sP {e:Expr} {t:TE} (h:PE X e t) (he:∀ whole,isTrue e X.env whole=(do let v <- whole;standAt e.pos;holding [v] (truthy v)):=by intro _;rfl):PT X e (tB t):=by
 intro pins s σ H Q I hw;refine isTrue_plain (bw (h pins s σ H _ I hw) fun v s1 x H1 I1 r1 q1=>?_) (he _);obtain ⟨d,rfl,q⟩:=q1;cases r1;exact wpAny_truthy_bool ⟨H1,I1,q⟩
variable {tA tB':TT} {rest:List Expr}
def L8 (t u:TT):TT:=fun σ H Q=>t σ H fun c H1=>if c=true then u σ H1 Q else Q false H1
def tOr (t u:TT):TT:=fun σ H Q=>t σ H fun c H1=>if c=true then Q true H1 else u σ H1 Q
def Mb (t:TT):TT:=fun σ H Q=>t σ H fun c H1=>Q (!c) H1
theorem oN (ha:PT X a tA):PW X (.BoolOp .And [a] pos) tA:=by
 intro wh pins s σ H Q I h;refine isTrue_and (thn (ha pins s σ H Q I h) fun c s1 e=>?_);cases c with
 | true=>exact isTrue_and_nil e
 | false=>exact e
theorem Kz (ha:PT X a tA):PW X (.BoolOp .Or [a] pos) tA:=by
 intro wh pins s σ H Q I h;refine isTrue_or (thn (ha pins s σ H Q I h) fun c s1 e=>?_);cases c with
 | false=>exact isTrue_or_nil e
 | true=>exact e
theorem oY (ha:PT X a tA) (hb:PW X (.BoolOp .And (b::rest) pos) tB'):PW X (.BoolOp .And (a::b::rest) pos) (L8 tA tB'):=by
 intro wh pins s σ H Q I h;refine isTrue_and (BC (ha pins s σ H _ I h) fun c s1 H1 I1 q1=>?_);cases c with
 | true=>exact hb wh pins s1 σ H1 Q I1 q1
 | false=>exact ⟨H1,I1,q1⟩
theorem PD (ha:PT X a tA) (hb:PW X (.BoolOp .Or (b::rest) pos) tB'):PW X (.BoolOp .Or (a::b::rest) pos) (tOr tA tB'):=by
 intro wh pins s σ H Q I h;refine isTrue_or (BC (ha pins s σ H _ I h) fun c s1 H1 I1 q1=>?_);cases c with
 | true=>exact ⟨H1,I1,q1⟩
 | false=>exact hb wh pins s1 σ H1 Q I1 q1
theorem sJ (ha:PT X a tA):PT X (.UnaryOp .Not a pos) (Mb tA):=by
 intro pins s σ H Q I h;exact isTrue_not (ha pins s σ H (fun c H1=>Q (!c) H1) I h)
def Ju (ta tb:TE):TE:=fun σ H Q=>ta σ H fun x H1=>∃ c,x=.bl c/\if c=true then tb σ H1 Q else Q (.bl false) H1
def RL (ta tb:TE):TE:=fun σ H Q=>ta σ H fun x H1=>∃ c,x=.bl c/\if c=true then Q (.bl true) H1 else tb σ H1 Q
def Ps (ta:TE):TE:=fun σ H Q=>ta σ H fun x H1=>∃ c,x=.bl c/\Q (.bl (!c)) H1
theorem Q0 {op} {t:TE} (h:PE X a t):PE X (.BoolOp op [a] pos) t:=fun pins s σ H Q I hw=>BoolOp_one (h pins s σ H Q I hw)
theorem Sa (ha:PE X a ta) (hb:PE X (.BoolOp .And (b::rest) pos) tb):PE X (.BoolOp .And (a::b::rest) pos) (Ju ta tb):=by
 intro pins s σ H Q I h;refine BoolOp_and (bw (ha pins s σ H _ I h) fun v s1 x H1 I1 r1 q1=>?_);obtain ⟨c,rfl,q1⟩:=q1;cases r1;refine wpAny_truthy_bool ?_;cases c with
 | true=>exact hb pins s1 σ H1 Q I1 q1
 | false=>exact ⟨.bl false,H1,I1,rfl,q1⟩
def tIf (t:TT) (ta tb:TE):TE:=fun σ H Q=>t σ H fun c H1=>if c=true then ta σ H1 Q else tb σ H1 Q
end
end L2
namespace L2
open PySem PySem.Spec PyProof.Rows
def SqL (K:PySem.W.Frag) (H:Hp) (a:Addr) (xs:List V):Prop :=
 Rd H a (.lst xs) \/
   ∃ (o:Obj) (its:Array Value) (n:Nat),K.lookup a=some o/\o.cls=.type "list"/\o.dict=none/\o.data=.seq its n/\its.size<=sizeLine/\Vals xs its.toList
def SqT (K:PySem.W.Frag) (H:Hp) (a:Addr) (xs:List V):Prop :=
 Rd H a (.tup xs) \/
   ∃ (o:Obj) (its:Array Value) (n:Nat),K.lookup a=some o/\o.cls=.type "tuple"/\o.data=.seq its n/\its.size<=sizeLine/\Vals xs its.toList
def SA:Value->Option V
 | .none=>some .non
 | .bool b=>some (.bl b)
 | .int i _=>some (.int i)
 | .str x _=>some (.str x)
 | .bytes b _=>some (.byt b)
 | .float b _=>some (.flt b)
 | .ref a=>some (.ref a)
 | .type n=>some (.ty n)
 | _=>none
theorem RelV.abs {x:V} {u:Value} (r:RelV x u):SA u=some x:=by
 cases x with
 | non=>cases r;rfl
 | bl _=>cases r;rfl
 | int _=>obtain ⟨t,rfl⟩:=r;rfl
 | str _=>obtain ⟨t,rfl⟩:=r;rfl
 | byt _=>obtain ⟨t,rfl⟩:=r;rfl
 | flt _=>obtain ⟨t,rfl⟩:=r;rfl
 | ref _=>cases r;rfl
 | ty _=>cases r;rfl
theorem RelV.inj {x y:V} {u:Value} (r:RelV x u) (q:RelV y u):x=y:=Option.some.inj (r.abs.symm.trans q.abs)
theorem Vals.inj {xs ys:List V} {us:List Value} (h:Vals xs us) (h2:Vals ys us):xs=ys:=by
 induction h generalizing ys with
 | nil=>cases h2;rfl
 | cons r _ ih=>cases h2 with|cons r2 t2=>rw [r.inj r2,ih t2]
section
variable {X:Cx} {pins:List (Addr × Obj)} {σ:St} {H:Hp} {s:Shared} {a:Addr} {xs ys:List V}
theorem SqL.of {K:PySem.W.Frag} (h:H a=some (.lst xs)):SqL K H a xs:=.inl (.inl h)
theorem SqT.of {K:PySem.W.Frag} (h:H a=some (.tup xs)):SqT K H a xs:=.inl (.inl h)
theorem Inv.list (I:Inv X pins σ H s) (h:SqL X.K H a xs):∃ its:List Value,Vals xs its/\PlainL s.heap a its.toArray/\xs.length<=sizeLine:=by
 rcases h with h|⟨o,its,n,hk,hc,hd,hs,hz,r⟩
 . obtain ⟨z,its,n,r,e⟩:=h.ok I.hok;exact ⟨its,r,⟨_,n,e,rfl,rfl,rfl⟩,z⟩
 . refine ⟨its.toList,r,⟨o,n,I.kIn a o hk,hc,hd,by simpa using hs⟩,?_⟩;have e:=r.length;simp only [Array.length_toList] at e;omega
theorem Inv.tuple (I:Inv X pins σ H s) (h:SqT X.K H a xs):∃ its:List Value,Vals xs its/\IsTup s.heap a its.toArray/\xs.length<=sizeLine:=by
 rcases h with h|⟨o,its,n,hk,hc,hs,hz,r⟩
 . obtain ⟨z,its,r,p⟩:=h.ok I.hok;exact ⟨its,r,p,z⟩
 . refine ⟨its.toList,r,⟨o,I.kIn a o hk,hc,n,by simpa using hs⟩,?_⟩;have e:=r.length;simp only [Array.length_toList] at e;omega
theorem Inv.list_inj (I:Inv X pins σ H s) (h:SqL X.K H a xs) (h':SqL X.K H a ys):xs=ys:=by
 obtain ⟨its,r,⟨o,n,e,_,_,d⟩,_⟩:=I.list h;obtain ⟨its',r',⟨o',n',e',_,_,d'⟩,_⟩:=I.list h';rw [e] at e';cases e';rw [d] at d';injection d' with d1 _
 have:its=its':=by simpa using congrArg Array.toList d1
 subst this;exact r.inj r'
theorem Inv.tuple_inj (I:Inv X pins σ H s) (h:SqT X.K H a xs) (h':SqT X.K H a ys):xs=ys:=by
 obtain ⟨its,r,⟨o,e,_,n,d⟩,_⟩:=I.tuple h;obtain ⟨its',r',⟨o',e',_,n',d'⟩,_⟩:=I.tuple h';rw [e] at e';cases e';rw [d] at d';injection d' with d1 _
 have:its=its':=by simpa using congrArg Array.toList d1
 subst this;exact r.inj r'
end
abbrev Cx.wish (X:Cx) (E:Value->Shared->Prop):Cx:={ X with xe:=E }
abbrev Cx.nox (X:Cx):Cx:=X.wish fun _ _=>False
theorem Cx.Ok.wish {X:Cx} (ok:X.Ok) (E:Value->Shared->Prop):(X.wish E).Ok :=
 ⟨ok.mod,ok.kind,ok.glob,ok.blt,ok.above,ok.inj,ok.has,ok.cab,ok.hd,ok.frames,ok.stk,ok.exf,ok.bs,ok.bsz,ok.noex,ok.exfs,ok.funs,ok.frf⟩
theorem Cx.Ok.unwish {X:Cx} {E:Value->Shared->Prop} (ok:(X.wish E).Ok):X.Ok :=
 ⟨ok.mod,ok.kind,ok.glob,ok.blt,ok.above,ok.inj,ok.has,ok.cab,ok.hd,ok.frames,ok.stk,ok.exf,ok.bs,ok.bsz,ok.noex,ok.exfs,ok.funs,ok.frf⟩
section
variable {X:Cx} {pins:List (Addr × Obj)} {σ:St} {H:Hp} {s:Shared} {E:Value->Shared->Prop}
theorem Inv.wish (I:Inv X pins σ H s) (E:Value->Shared->Prop):Inv (X.wish E) pins σ H s:=⟨I.ok.wish E,I.os,I.bare,I.base,I.loc,I.cell,I.free,I.freeC,I.pin,I.hok,I.len⟩
theorem Inv.unwish (I:Inv (X.wish E) pins σ H s):Inv X pins σ H s:=⟨I.ok.unwish,I.os,I.bare,I.base,I.loc,I.cell,I.free,I.freeC,I.pin,I.hok,I.len⟩
theorem SP.unwish {D:Ends} {f:Flow} {s':Shared} (h:SP (X.wish E) pins D f s'):SP X pins D f s':=by
 cases f with
 | next=>obtain ⟨σ',H',I,q⟩:=h;exact ⟨σ',H',I.unwish,q⟩
 | brk=>obtain ⟨σ',H',I,q⟩:=h;exact ⟨σ',H',I.unwish,q⟩
 | cont=>obtain ⟨σ',H',I,q⟩:=h;exact ⟨σ',H',I.unwish,q⟩
 | ret u=>obtain ⟨v,σ',H',I,r,q⟩:=h;exact ⟨v,σ',H',I.unwish,r,q⟩
theorem PSs.nox {st:List Stmt} {t:TS} (h:PSs X.nox st t):PSs X st t:=fun pins s σ H D I hw =>
 wpAny_mono (h pins s σ H D (I.wish _) hw) (fun _ _ q=>q.unwish) fun _ _ z=>False.elim z
end
section
variable {X:Cx} {st:Stmt} {rest:List Stmt} {t u:TS} {e:Expr} {te:TE} {pos:Pos}
def tNext:TS:=fun D σ H=>D.nx σ H
def Jw (t u:TS):TS:=fun D σ H=>t { D with nx:=u D } σ H
theorem bj:PSs X [] tNext:=fun _ _ σ H _ I h=>wpAny_execs_nil ⟨σ,H,I,h⟩
theorem aj (h1:PS X st t) (h2:PSs X rest u):PSs X (st::rest) (Jw t u):=by
 intro pins s σ H D I h;refine wpAny_execs_cons (thn (h1 pins s σ H { D with nx:=u D } I h) fun f s1 q=>?_);cases f with
 | next =>
   obtain ⟨σ',H',I',q⟩:=q;exact h2 pins s1 σ' H' D I' q
 | ret v=>exact q
 | brk=>exact q
 | cont=>exact q
theorem au (h1:PS X st t):PSs X [st] t:=by
 intro pins s σ H D I h;refine wpAny_execs_cons (thn (h1 pins s σ H D I h) fun f s1 q=>?_);cases f with
 | next=>exact wpAny_execs_nil q
 | ret v=>exact q
 | brk=>exact q
 | cont=>exact q
theorem Inv.quiet {pins:List (Addr × Obj)} {σ:St} {H:Hp} {s:Shared} (I:Inv X pins σ H s):interactive X.env=false:=by simp [interactive,I.ok.kind]
def JX (te:TE):TS:=fun D σ H=>te σ H fun _ H1=>D.nx σ H1
theorem c8 (he:PE X e te) (hs:swapsWith e none pos.line X.env=pure false:=by rfl):PS X (.Expr e pos) (JX te):=by
 intro pins s σ H D I h;exact wpAny_Expr_any (bw (he pins s σ H _ I h) fun v s1 x H1 I1 r1 q1=>⟨σ,H1,I1,q1⟩) I.quiet hs
def Mx (te:TE):TS:=fun D σ H=>te σ H D.rt
theorem aU (he:PE X e te):PS X (.Return (some e) pos) (Mx te):=by
 intro pins s σ H D I h;exact wpAny_Return_some (bw (he pins s σ H _ I h) fun v s1 x H1 I1 r1 q1=>⟨x,σ,H1,I1,r1,q1⟩)
def PQ:TS:=fun D _ H=>D.rt .non H
def ML (c:TT) (t u:TS):TS:=fun D σ H=>c σ H fun b H1=>if b=true then t D σ H1 else u D σ H1
theorem bU {c:Expr} {a b:List Stmt} {tc:TT} (hc:PT X c tc) (ha:PSs X a t) (hb:PSs X b u):PS X (.If c a b pos) (ML tc t u):=by
 intro pins s σ H D I h;refine wpAny_If (BC (hc pins s σ H _ I h) fun d s1 H1 I1 q1=>?_);cases d with
 | true=>exact ha pins s1 σ H1 D I1 q1
 | false=>exact hb pins s1 σ H1 D I1 q1
def tNever:TS:=fun _ _ _=>False
theorem mX:PS X st tNever:=fun _ _ _ _ _ _ h=>h.elim
end
abbrev TG:=V->St->Hp->(St->Hp->Prop)->Prop
abbrev TGs:=List V->St->Hp->(St->Hp->Prop)->Prop
def PG (X:Cx) (target:Expr) (t:TG):Prop :=
 ∀ (pins:List (Addr × Obj)) (s:Shared) (σ:St) (H:Hp) (v:V) (u:Value) (Q:St->Hp->Prop),Inv X pins σ H s->RelV v u->t v σ H Q ->
   wpAny (model X.prog X.w) X.A (assign target X.env u) (fun _ s'=>∃ σ' H',Inv X pins σ' H' s'/\Q σ' H') X.xe s
def PGs (X:Cx) (ts:List Expr) (t:TGs):Prop :=
 ∀ (pins:List (Addr × Obj)) (s:Shared) (σ:St) (H:Hp) (vs:List V) (us:List Value) (Q:St->Hp->Prop),Inv X pins σ H s->Vals vs us->t vs σ H Q ->
   wpAny (model X.prog X.w) X.A (assignInOrder ((assignEach ts X.env).map (·.2)) us) (fun _ s'=>∃ σ' H',Inv X pins σ' H' s'/\Q σ' H') X.xe s
abbrev Fn:=V->V->V->Hp->(Hp->Prop)->Prop
def MQ (X:Cx) (t:Fn):Prop :=
 ∀ (pins:List (Addr × Obj)) (s:Shared) (σ:St) (H:Hp) (o i v:V) (ov iv u:Value) (Q:Hp->Prop),Inv X pins σ H s->RelV o ov->RelV i iv->RelV v u->t o i v H Q ->
   wpAny (model X.prog X.w) X.A (setItem ov iv u) (fun _ s'=>∃ H',Inv X pins σ H' s'/\Q H') X.xe s
abbrev TIp:=V->V->Hp->VK->Prop
def PIp (X:Cx) (op:Operator) (t:TIp):Prop :=
 ∀ (pins:List (Addr × Obj)) (s:Shared) (σ:St) (H:Hp) (x y:V) (v u:Value) (Q:VK),Inv X pins σ H s->RelV x v->RelV y u->t x y H Q ->
   wpAny (model X.prog X.w) X.A (inplaceOp op v u) (EP X pins σ Q) X.xe s
section
variable {X:Cx} {pos:Pos}
def AB (i:Nat):TG:=fun v σ H Q=>Q (σ.set i (some v)) H
theorem aI {i:Nat} {x:Str} (hN:X.N.Nodup) (hi:X.N[i]?=some x) (hx:Loc X.env.scope x) (hf:X.fn x=true\/X.env.scope.names.lookup x=some .local:=by first|exact .inl rfl|exact .inr rfl|assumption):PG X (.Name x pos) (AB i):=by
 intro pins s σ H v u Q I r h;exact wpAny_assign_Name (Er I hN hi hx r (fun s' I'=>⟨_,H,I',h⟩) hf)
def gNil:TGs:=fun vs σ H Q=>vs=[]/\Q σ H
def Kc (t:TG) (u:TGs):TGs:=fun vs σ H Q=>∃ v r,vs=v::r/\t v σ H fun σ' H'=>u r σ' H' Q
theorem jR:PGs X [] gNil:=by
 intro pins s σ H vs us Q I r h;obtain ⟨e,h⟩:=h;subst e;cases r;exact assignInOrder_nil ⟨σ,H,I,h⟩
theorem bF {e:Expr} {es:List Expr} {t:TG} {u:TGs} (h1:PG X e t) (h2:PGs X es u)
   (hs:(assignEach (e::es) X.env).map (·.2)=assign e X.env::(assignEach es X.env).map (·.2):=by rfl):PGs X (e::es) (Kc t u):=by
 intro pins s σ H vs us Q I r h;obtain ⟨v,vr,e1,h⟩:=h;subst e1;cases r with
 | cons r rr =>
   rw [hs];refine assignInOrder_cons (thn (h1 pins s σ H _ _ _ I r h) fun _ s1 ⟨σ1,H1,I1,q1⟩=>?_);exact h2 pins s1 σ1 H1 _ _ Q I1 rr q1
def Jo (K:PySem.W.Frag) (n:Nat) (t:TGs):TG:=fun v σ H Q=>∃ a xs,v=.ref a/\SqT K H a xs/\xs.length=n/\t xs σ H Q
theorem nu {es:List Expr} {k:Nat} {t:TGs} {n:Nat} (hc:X.calm=true) (h:PGs X es t)
   (hn:(assignEach es X.env).length=n:=by rfl) (hst:(assignEach es X.env).findIdx? (·.1)=none:=by rfl):PG X (.Tuple es k pos) (Jo X.K n t):=by
 intro pins s σ H v u Q I r hw;obtain ⟨a,xs,e1,hq,hl,hw⟩:=hw;subst e1;cases r;obtain ⟨its,rv,ht,hz⟩:=I.tuple hq;refine assign_Tuple_tuple (I.ok.hd hc) ht (by simp [hn,<- hl,rv.length]) hst fun h' hx=>?_;have I1:Inv X pins σ H { s with heap:=h' }:=I.kept (t':=s.toks) fun b o e=>hx b o (Nat.ne_of_lt (Heap.lt_size e)) e;exact h pins _ σ H xs _ Q I1 (by simpa using rv) hw
def Pc (to ti:TE) (t:Fn):TG:=fun v σ H Q=>to σ H fun o H1=>ti σ H1 fun i H2=>t o i v H2 fun H3=>Q σ H3
theorem nh {o i:Expr} {to ti:TE} {t:Fn} (ho:PE X o to) (hi:PE X i ti) (hs:MQ X t)
   (ha:∀ v,assign (.Subscript o i pos) X.env v=(do
     let ov <- holding [v] (eval o X.env)
     let iv <- holding [v,ov] (eval i X.env)
     standAt pos
     holding [v,ov,iv] (setItem ov iv v)
     release [v,ov,iv] []):=by intro _;rfl):PG X (.Subscript o i pos) (Pc to ti t):=by
 intro pins s σ H v u Q I r h;rw [ha];refine wpAny_bind (wpAny_holding (bw (ho pins s σ H _ I h) fun ov s1 x H1 I1 r1 q1=>?_));refine wpAny_bind (wpAny_holding (bw (hi pins s1 σ H1 _ I1 q1) fun iv s2 y H2 I2 r2 q2=>?_));refine wpAny_bind (wpAny_standAt (wpAny_bind (wpAny_holding (thn (hs pins s2 σ H2 x y v ov iv u _ I2 r1 r2 r q2) fun _ s3 ⟨H3,I3,q3⟩=>?_))));exact wpAny_release ⟨σ,H3,I3,q3⟩
def F8 (te:TE) (g:TG):TS:=fun D σ H=>te σ H fun x H1=>g x σ H1 D.nx
theorem j7 {tg e:Expr} {te:TE} {g:TG} (he:PE X e te) (hg:PG X tg g) (hs:swapsWithSole [tg] e pos.line X.env=pure false:=by rfl) (hw:swappedStores [tg] e X.env=pure none:=by rfl)
   (h1:(assignEach [tg] X.env).map (·.2)=[assign tg X.env]:=by rfl):PS X (.Assign [tg] e pos) (F8 te g):=by
 intro pins s σ H D I h;refine wpAny_Assign_stores (bw (he pins s σ H _ I h) fun v s1 x H1 I1 r1 q1=>?_) hs hw;rw [h1];exact thn (hg pins s1 σ H1 x v _ I1 r1 q1) fun _ s2 q=>q
theorem az {i:Nat} {x:Str} {e:Expr} {te:TE} {pos':Pos} (hN:X.N.Nodup) (hi:X.N[i]?=some x) (hx:Loc X.env.scope x) (he:PE X e te) (hs:swapsWith e (some (.Name x pos')) pos.line X.env=pure false:=by rfl) (hf:X.fn x=true\/X.env.scope.names.lookup x=some .local:=by first|exact .inl rfl|exact .inr rfl|assumption) :
   PS X (.Assign [.Name x pos'] e pos) (F8 te (AB i)):=by
 intro pins s σ H D I h;refine wpAny_Assign_Name (bw (he pins s σ H _ I h) fun v s1 y H1 I1 r1 q1=>?_) hs;exact Er I1 hN hi hx r1 (fun s2 I2=>⟨_,H1,I2,q1⟩) hf
def Q5 (i:Nat) (te:TE) (ti:TIp):TS:=fun D σ H=>∃ x,σ[i]?=some (some x)/\te σ H fun y H1=>ti x y H1 fun z H2=>D.nx (σ.set i (some z)) H2
def J8 (to ti te:TE) (tget:V->V->Hp->VK->Prop) (tip:TIp) (tset:Fn):TS:=fun D σ H=>to σ H fun o H1=>ti σ H1 fun i H2=>tget o i H2 fun x H3=>te σ H3 fun y H4=>tip x y H4 fun z H5=>tset o i z H5 fun H6=>D.nx σ H6
def Re (X:Cx) (t:V->V->Hp->VK->Prop):Prop :=
 ∀ (pins:List (Addr × Obj)) (s:Shared) (σ:St) (H:Hp) (o i:V) (ov iv:Value) (Q:VK),Inv X pins σ H s->RelV o ov->RelV i iv->t o i H Q ->
   wpAny (model X.prog X.w) X.A (getItem ov iv) (EP X pins σ Q) X.xe s
theorem G9 {o i e:Expr} {to ti te:TE} {tget:V->V->Hp->VK->Prop} {tip:TIp} {tset:Fn} {op:Operator} {tpos:Pos} (ho:PE X o to) (hi:PE X i ti) (hg:Re X tget) (he:PE X e te) (hp:PIp X op tip) (hs:MQ X tset)
   (ha:∀ ov iv new,augStore i ov iv new=(do holding [new,ov,iv] (setItem ov iv new);release [new,ov,iv] [];pure .next):=by intros;rfl):PS X (.AugAssign (.Subscript o i tpos) op e pos) (J8 to ti te tget tip tset):=by
 intro pins s σ H D I h;refine wpAny_AugAssign_SubscriptAny (bw (ho pins s σ H _ I h) fun ov s1 x1 H1 I1 r1 q1=>?_) ha;refine bw (hi pins s1 σ H1 _ I1 q1) fun iv s2 x2 H2 I2 r2 q2=>?_;refine thn (hg pins s2 σ H2 x1 x2 ov iv _ I2 r1 r2 q2) fun old s3 ⟨x3,H3,I3,r3,q3⟩=>?_;refine bw (he pins s3 σ H3 _ I3 q3) fun v s4 x4 H4 I4 r4 q4=>?_;refine thn (hp pins s4 σ H4 x3 x4 old v _ I4 r3 r4 q4) fun new s5 ⟨x5,H5,I5,r5,q5⟩=>?_;exact thn (hs pins s5 σ H5 x1 x2 x5 ov iv new _ I5 r1 r2 r5 q5) fun _ s6 ⟨H6,I6,q6⟩=>⟨σ,H6,I6,q6⟩
def ipI (f:Int->Int->Int):TIp:=fun x y H Q=>∃ i j,x=.int i/\y=.int j/\Q (.int (f i j)) H
theorem L0:PIp X .Add (ipI fun i j=>i+j):=by
 intro pins s σ H x y v u Q I r1 r2 h;obtain ⟨i,j,e1,e2,q⟩:=h;subst e1;subst e2;obtain ⟨t,rfl⟩:=r1;obtain ⟨t',rfl⟩:=r2;exact iadd_int ⟨.int _,H,I.tok _,⟨_,rfl⟩,q⟩
end
section
variable {X:Cx} {pos:Pos}
def Fm (c:TT) (tb:TS):TS:=fun D σ H=>∃ W:Nat->St->Hp->Prop,(∃ m,W m σ H)/\∀ m σ H,W m σ H ->
 c σ H fun b H1=>if b=true then ∃ N:St->Hp->Prop,(∀ σ' H',N σ' H'->∃ m',m'<m/\W m' σ' H')/\tb { D with nx:=N,ct:=N,bk:=D.nx } σ H1 else D.nx σ H1
theorem tM {c:Expr} {body:List Stmt} {tc:TT} {tb:TS} (hp:PassesOwn (model X.prog X.w) X.A X.env X.xe) (hc:PT X c tc) (hb:PSs X body tb):PS X (.While c body [] pos) (Fm tc tb):=by
 intro pins s σ H D I h;obtain ⟨W,⟨m0,w0⟩,turn⟩:=h;refine wpAny_While (codeAny_whileLoop (fun n s'=>∃ σ' H',Inv X pins σ' H' s'/\W n σ' H') ?_ m0 ⟨σ,H,I,w0⟩);rintro n s1 ⟨σ1,H1,I1,w1⟩;refine wpAny_passesOwn hp (BC (hc pins s1 σ1 H1 _ I1 (turn n σ1 H1 w1)) fun b s2 H2 I2 q2=>?_);cases b with
 | true =>
   obtain ⟨N,hN,q2⟩:=q2;rw [if_pos rfl];refine wpAny_passesOwn hp (thn (hb pins s2 σ1 H2 _ I2 q2) fun f s3 q3=>?_);cases f with
   | next =>
     obtain ⟨σ3,H3,I3,n3⟩:=q3;obtain ⟨m',hm,w3⟩:=hN σ3 H3 n3;exact ⟨m',hm,σ3,H3,I3,w3⟩
   | cont =>
     obtain ⟨σ3,H3,I3,n3⟩:=q3;obtain ⟨m',hm,w3⟩:=hN σ3 H3 n3;exact ⟨m',hm,σ3,H3,I3,w3⟩
   | brk=>exact q3
   | ret v=>exact q3
 | false =>
   rw [if_neg Bool.false_ne_true];exact wpAny_execs_nil ⟨σ1,H2,I2,q2⟩
end
structure It where
 go:Nat->Hp->Prop
 yld:Nat->Hp->V->Hp->Prop
 stop:Nat->Hp->Prop
def kF (X:Cx) (pins:List (Addr × Obj)) (H:Hp) (b:Addr):Prop :=
 H b=none/\b≠X.env.locals/\b ∉ X.fs/\(b∈X.ex\/X.s₀.heap.objs.size<=b)/\(∀ x c,X.env.cells.lookup x=some c->c≠b)/\∀ p∈X.pn++pins,p.1≠b
theorem Inv.fpOk {X:Cx} {pins:List (Addr × Obj)} {σ:St} {H H':Hp} {s:Shared} {b:Addr} (I:Inv X pins σ H s) (hb:s.heap.objs.size<=b) (hn:H' b=none):kF X pins H' b:=by
 refine ⟨hn,Nat.ne_of_gt (Nat.lt_of_lt_of_le I.lt hb),I.nofs hb,.inr (Nat.le_trans I.sz hb),fun x c e z=>?_,fun p hp z=>?_⟩
 . obtain ⟨v,q⟩:=I.cell x c e;exact absurd (Nat.lt_of_lt_of_le q.lt (by rw [z];exact hb)) (Nat.lt_irrefl _)
 . exact absurd (Nat.lt_of_lt_of_le (Heap.lt_size (I.pin p hp).1) (by rw [z];exact hb)) (Nat.lt_irrefl _)
structure Turn (P:Program) (w:World) (K:PySem.W.Frag) (tg:Expr) (J:It) (fp:List Addr) (it:Addr) (tn:Nat->Heap->Prop):Prop where
 mem:it∈fp
 obj:∀ i h,tn i h->∀ b∈fp,∃ o,h.get? b=some o/\∀ v,o.data≠.cell v
 keep:∀ i h h',tn i h->(∀ b∈fp,∀ o,h.get? b=some o->h'.get? b=some o)->tn i h'
 item:∀ (X:Cx),X.prog=P->X.w=w->X.K=K->X.calm=true->∀ (i:Nat) (pins:List (Addr × Obj)) (s:Shared) (σ:St) (H:Hp) (E:Value->Shared->Prop),Inv X pins σ H s->(∀ b∈fp,kF X pins H b)->tn i s.heap->J.go i H ->
   wpAny (model P w) X.A (pyNext (.ref it)) (fun r s1=>∃ u,r=some u /\
     wpAny (model P w) X.A (letOwnedTupleGo tg (.ref it) u) (fun _ s2=>∃ x H',Inv X pins σ H' s2/\RelV x u/\J.yld i H x H'/\tn (i+1) s2.heap/\∀ b∈fp,H' b=none) E s1) E s
 done:∀ (X:Cx),X.prog=P->X.w=w->X.K=K->X.calm=true->∀ (i:Nat) (pins:List (Addr × Obj)) (s:Shared) (σ:St) (H:Hp) (E:Value->Shared->Prop),Inv X pins σ H s->(∀ b∈fp,kF X pins H b)->tn i s.heap->J.stop i H ->
   wpAny (model P w) X.A (pyNext (.ref it)) (fun r s1=>r=none/\Inv X pins σ H s1) E s
 self:∀ (A:Around) (i:Nat) (s:Shared) (Q:Value->Shared->Prop) (E:Value->Shared->Prop),tn i s.heap->Q (.ref it) s->wpAny (model P w) A (pyIter (.ref it)) Q E s
abbrev TI:=St->Hp->(It->Hp->Prop)->Prop
def PIE (X:Cx) (pins:List (Addr × Obj)) (σ:St) (tg:Expr) (R:It->Hp->Prop) (itv:Value) (s2:Shared):Prop :=
 ∃ (it:Addr) (fp:List Addr) (tn:Nat->Heap->Prop) (J:It) (H':Hp),itv=.ref it/\Inv X pins σ H' s2/\Turn X.prog X.w X.K tg J fp it tn/\tn 0 s2.heap/\(∀ b∈fp,kF X pins H' b)/\R J H'
def PI (X:Cx) (tg iter:Expr) (wi:TI):Prop :=
 ∀ (pins:List (Addr × Obj)) (s:Shared) (σ:St) (H:Hp) (R:It->Hp->Prop),Inv X pins σ H s->wi σ H R ->
   wpAny (model X.prog X.w) X.A (eval iter X.env) (fun v s1=>wpAny (model X.prog X.w) X.A (pyIter v) (PIE X pins σ tg R) X.xe s1) X.xe s
theorem DH {M:Model} {A:Around} {E:Value->Shared->Prop} {s:Shared} {tg:Expr} {it:Addr} {u:Value} {o:Obj} {n:String} {vs:Array Value} {Q:Unit->Shared->Prop} (ho:s.heap.get? it=some o) (hc:o.cls=.type n) (hd:o.data=.fields vs)
   (hn:["enumerate","zip","dict_itemiterator","dict_reverseitemiterator","odict_iterator","itertools.zip_longest","itertools.pairwise"].contains n=false) (hQ:Q () s):wpAny M A (letOwnedTupleGo tg (.ref it) u) Q E s:=by
 unfold letOwnedTupleGo;cases tg <;> first
   | exact wpAny_pure hQ
   | (cases u <;> first
       | exact wpAny_pure hQ
       | (refine wpAny_bind (wpAny_load ho ?_)
          rw [hc,hd];show wpAny M A (if (["enumerate","zip","dict_itemiterator","dict_reverseitemiterator","odict_iterator","itertools.zip_longest","itertools.pairwise"].contains n && vs[0]? == some (rawInt _))=true then _ else _) Q E s;rw [if_neg (by intro h;rw [hn,Bool.false_and] at h;cases h)];exact wpAny_pure hQ))
def Itl (K:PySem.W.Frag) (a:Addr):It :=
 ⟨fun i H=>∃ xs x,SqL K H a xs/\xs[i]?=some x,fun i H x H'=>H'=H/\∀ xs,SqL K H a xs->xs[i]?=some x,fun i H=>∃ xs,SqL K H a xs/\xs.length<=i⟩
def Itt (K:PySem.W.Frag) (a:Addr):It :=
 ⟨fun i H=>∃ xs x,SqT K H a xs/\xs[i]?=some x,fun i H x H'=>H'=H/\∀ xs,SqT K H a xs->xs[i]?=some x,fun i H=>∃ xs,SqT K H a xs/\xs.length<=i⟩
def Itr (lo:Int) (n:Nat):It:=⟨fun i _=>i<n,fun i H x H'=>H'=H/\x=.int (lo+i),fun i _=>n<=i⟩
theorem KM {P:Program} {w:World} {K:PySem.W.Frag} {tg:Expr} (a it:Addr):Turn P w K tg (Itl K a) [it] it (fun i h=>h.IsListIter it a i) where
 mem:=by simp
 obj:=fun i h st b hb=>by
   have e:b=it:=by simpa using hb
   subst e;obtain ⟨o,e,c,d⟩:=st;exact ⟨o,e,fun v z=>by rw [d] at z;cases z⟩
 keep:=fun i h h' st k=>st.at fun o e=>k it (by simp) o e
 item:=by
   intro X hP hw hK hc i pins s σ H E I hf st hg;subst hP hw hK;obtain ⟨xs,x,hq,hx⟩:=hg;obtain ⟨its,rv,p,hz⟩:=I.list hq;obtain ⟨u,hu,ru⟩:=rv.get hx;obtain ⟨f0,f1,f2,f3,f4,f5⟩:=hf it (by simp);refine wpAny_pyNext_list_item st p.isList (x:=u) (by simpa using hu) fun h' st' sb=>?_;have I1:Inv X pins σ H { s with heap:=h' }:=I.turned (t':=s.toks) (fun b o hb e=>(sb.2 b hb).trans e) f0 f1 f3 f4 f5;obtain ⟨o,e,c,d⟩:=id st';exact ⟨u,rfl,DH (s:={ s with heap:=h' }) e c d (by decide) ⟨x,H,I1,ru,⟨rfl,fun ys hy=>by rw [I.list_inj hy hq];exact hx⟩,st',fun b hb=>(hf b hb).1⟩⟩
 done:=by
   intro X hP hw hK hc i pins s σ H E I hf st hg;subst hP hw hK;obtain ⟨xs,hq,hx⟩:=hg;obtain ⟨its,rv,p,hz⟩:=I.list hq;obtain ⟨f0,f1,f2,f3,f4,f5⟩:=hf it (by simp);have hl:=rv.length;exact wpAny_pyNext_list_end (I.ok.hd hc) st p.isList (by simp;omega) fun h' eb=>⟨rfl,I.turned (t':=s.toks) (fun b o hb e=>eb b o hb e) f0 f1 f3 f4 f5⟩
 self:=fun _ _ _ _ _ st h=>wpAny_pyIter_listiter st h
theorem JK {P:Program} {w:World} {K:PySem.W.Frag} {tg:Expr} (a it:Addr):Turn P w K tg (Itt K a) [it] it (fun i h=>h.IsTupleIter it a i) where
 mem:=by simp
 obj:=fun i h st b hb=>by
   have e:b=it:=by simpa using hb
   subst e;obtain ⟨o,e,c,d⟩:=st;exact ⟨o,e,fun v z=>by rw [d] at z;cases z⟩
 keep:=fun i h h' st k=>st.at fun o e=>k it (by simp) o e
 item:=by
   intro X hP hw hK hc i pins s σ H E I hf st hg;subst hP hw hK;obtain ⟨xs,x,hq,hx⟩:=hg;obtain ⟨its,rv,p,hz⟩:=I.tuple hq;obtain ⟨u,hu,ru⟩:=rv.get hx;obtain ⟨f0,f1,f2,f3,f4,f5⟩:=hf it (by simp);refine wpAny_pyNext_tuple_item st (show s.heap.IsTuple a its.toArray from p) (x:=u) (by simpa using hu) fun h' st' sb=>?_;have I1:Inv X pins σ H { s with heap:=h' }:=I.turned (t':=s.toks) (fun b o hb e=>(sb.2 b hb).trans e) f0 f1 f3 f4 f5;obtain ⟨o,e,c,d⟩:=id st';exact ⟨u,rfl,DH (s:={ s with heap:=h' }) e c d (by decide) ⟨x,H,I1,ru,⟨rfl,fun ys hy=>by rw [I.tuple_inj hy hq];exact hx⟩,st',fun b hb=>(hf b hb).1⟩⟩
 done:=by
   intro X hP hw hK hc i pins s σ H E I hf st hg;subst hP hw hK;obtain ⟨xs,hq,hx⟩:=hg;obtain ⟨its,rv,p,hz⟩:=I.tuple hq;obtain ⟨f0,f1,f2,f3,f4,f5⟩:=hf it (by simp);have hl:=rv.length;exact wpAny_pyNext_tuple_end (I.ok.hd hc) st (show s.heap.IsTuple a its.toArray from p) (by simp;omega) fun h' eb=>⟨rfl,I.turned (t':=s.toks) (fun b o hb e=>eb b o hb e) f0 f1 f3 f4 f5⟩
 self:=fun _ _ _ _ _ st h=>wpAny_pyIter_tupleiter st h
theorem Ij {P:Program} {w:World} {K:PySem.W.Frag} {tg:Expr} (it:Addr) (lo:Int) (n:Nat):Turn P w K tg (Itr lo n) [it] it (fun i h=>IsRangeIter h it (lo+(i:Nat)*1) ((n:Int) - (i:Nat)) 1) where
 mem:=by simp
 obj:=fun i h st b hb=>by
   have e:b=it:=by simpa using hb
   subst e;exact ⟨_,st,fun v z=>by
     have z':Data.fields _=Data.cell v:=z;cases z'⟩
 keep:=fun i h h' st k=>k it (by simp) _ st
 item:=by
   intro X hP hw hK hc i pins s σ H E I hf st hg;subst hP hw hK;obtain ⟨f0,f1,f2,f3,f4,f5⟩:=hf it (by simp);have W:=Walks.range (prog:=X.prog) (w:=X.w) (I.ok.hd hc) it lo 1 n;refine W.item i s _ _ hg st fun v h' tk hv st' kk=>?_;obtain ⟨t,rfl⟩:=hv;have I1:Inv X pins σ H { s with heap:=h',toks:=tk }:=I.turned (fun b o hb e=>kk b o (by simpa using hb) e) f0 f1 f3 f4 f5;refine ⟨_,rfl,DH (s:={ s with heap:=h',toks:=tk }) (n:="range_iterator") st' rfl rfl (by decide) ⟨.int (lo+i),H,I1,⟨t,?_⟩,⟨rfl,rfl⟩,st',fun b hb=>(hf b hb).1⟩⟩;rw [Int.mul_one]
 done:=by
   intro X hP hw hK hc i pins s σ H E I hf st hg;subst hP hw hK;obtain ⟨f0,f1,f2,f3,f4,f5⟩:=hf it (by simp);exact wpAny_pyNext_range_end (I.ok.hd hc) st (by have:n<=i:=hg;omega) fun h' eb=>⟨rfl,I.turned (t':=s.toks) (fun b o hb e=>eb b o hb e) f0 f1 f3 f4 f5⟩
 self:=fun _ _ _ _ _ st h=>wpAny_pyIter_rangeiter st h
end L2
namespace L2
open PySem PySem.Spec PyProof.Rows
section
variable {X:Cx} {tg:Expr}
def Kf (K:PySem.W.Frag) (tl:TE):TI:=fun σ H R=>tl σ H fun x H1=>∃ a,x=.ref a/\(∃ xs,SqL K H1 a xs)/\R (Itl K a) H1
def Pm (K:PySem.W.Frag) (tl:TE):TI:=fun σ H R=>tl σ H fun x H1=>∃ a,x=.ref a/\(∃ xs,SqT K H1 a xs)/\R (Itt K a) H1
theorem jI {l:Expr} {tl:TE} (hl:PE X l tl):PI X tg l (Kf X.K tl):=by
 intro pins s σ H R I h;refine bw (hl pins s σ H _ I h) fun v s1 x H1 I1 r1 q1=>?_;obtain ⟨a,e,⟨xs,hq⟩,q⟩:=q1;subst e;cases r1;obtain ⟨its,rv,p,hz⟩:=I1.list hq;refine wpAny_pyIter_list p.isList ?_;refine ⟨s1.heap.objs.size,[s1.heap.objs.size],_,_,H1,rfl,I1.kept (t':=s1.toks) fun b o e=>Heap.get?_push_of_some _ e,KM a _,⟨_,Heap.get?_push_size _ rfl,rfl,rfl⟩,fun b hb=>?_,q⟩;have e:b=s1.heap.objs.size:=by simpa using hb
 subst e;exact I1.fpOk (Nat.le_refl _) (I1.hok.fresh (Nat.le_refl _))
theorem wV {l:Expr} {tl:TE} (hl:PE X l tl):PI X tg l (Pm X.K tl):=by
 intro pins s σ H R I h;refine bw (hl pins s σ H _ I h) fun v s1 x H1 I1 r1 q1=>?_;obtain ⟨a,e,⟨xs,hq⟩,q⟩:=q1;subst e;cases r1;obtain ⟨its,rv,p,hz⟩:=I1.tuple hq;refine wpAny_pyIter_tuple (show s1.heap.IsTuple a its.toArray from p) ?_;refine ⟨s1.heap.objs.size,[s1.heap.objs.size],_,_,H1,rfl,I1.kept (t':=s1.toks) fun b o e=>Heap.get?_push_of_some _ e,JK a _,⟨_,Heap.get?_push_size _ rfl,rfl,rfl⟩,fun b hb=>?_,q⟩;have e:b=s1.heap.objs.size:=by simpa using hb
 subst e;exact I1.fpOk (Nat.le_refl _) (I1.hok.fresh (Nat.le_refl _))
theorem Fg {pins:List (Addr × Obj)} {σ:St} {H:Hp} {s:Shared} {R:It->Hp->Prop} {E:Value->Shared->Prop} {lo hi:Int} {t u v:Tok} {tk:Nat} (I:Inv X pins σ H s) (h1:-(2^62)<=lo) (h2:lo<2^62) (h3:-(2^62)<=hi) (h4:hi<2^62)
   (q:R (Itr lo (hi - lo).toNat) H):wpAny (model X.prog X.w) X.A (pyIter (.ref s.heap.objs.size)) (PIE X pins σ tg R) E { s with heap:=s.heap.push { cls:=.type "range",data:=.fields #[.int lo t,.int hi u,.int 1 v] },toks:=tk }:=by
 refine wpAny_pyIter_range (IsRange.new ..) (small_one h1 h2 h3 h4) ?_;have I1:Inv X pins σ H { s with heap:=s.heap.push { cls:=.type "range",data:=.fields #[.int lo t,.int hi u,.int 1 v] },toks:=tk }:=I.kept fun b o e=>Heap.get?_push_of_some _ e;refine ⟨(s.heap.push { cls:=.type "range",data:=.fields #[.int lo t,.int hi u,.int 1 v] }).objs.size,[(s.heap.push { cls:=.type "range",data:=.fields #[.int lo t,.int hi u,.int 1 v] }).objs.size],_,_,H,rfl,
   I1.kept (t':=tk) fun b o e=>Heap.get?_push_of_some _ e,Ij _ lo (hi - lo).toNat,?_,fun b hb=>?_,q⟩
 . have e1:lo+((0:Nat):Int)*1=lo:=by simp
   have e2:(((hi - lo).toNat:Nat):Int) - ((0:Nat):Int)=Builtin.Range.rangeSize lo hi 1:=by rw [rangeSize_one];split <;> omega
   show IsRangeIter _ _ (lo+((0:Nat):Int)*1) ((((hi - lo).toNat:Nat):Int) - ((0:Nat):Int)) 1;rw [e1,e2];exact Heap.get?_push_size _ rfl
 . have e:b=(s.heap.push { cls:=.type "range",data:=.fields #[.int lo t,.int hi u,.int 1 v] }).objs.size:=by simpa using hb
   subst e;exact I1.fpOk (Nat.le_refl _) (I1.hok.fresh (Nat.le_refl _))
def Jx (ta:TA):TI:=fun σ H R=>ta σ H fun vs H1=>∃ j:Int,vs=[.int j]/\-(2^62)<=j/\j<2^62/\R (Itr 0 j.toNat) H1
def IU (ta:TA):TI:=fun σ H R=>ta σ H fun vs H1=>∃ i j:Int,vs=[.int i,.int j]/\(-(2^62)<=i/\i<2^62/\-(2^62)<=j/\j<2^62)/\R (Itr i (j - i).toNat) H1
theorem m8 {a:Expr} {ta:TA} {p pos:Pos} (hg:Gl X "range") (hm:X.mg "range"=none) (ha:PA X [a] ta) (hs:starEach [a] X.env=[(false,eval a X.env)]:=by rfl):PI X tg (.Call (.Name "range" p) [a] [] pos) (Jx ta):=by
 intro pins s σ H R I h;refine Call_ (oZ I hg hm boot_range (PyProof.Rows.callWith_type1 (rj (ha pos pins s σ H _ I h) fun us s1 vs H1 I1 r1 q1=>?_) hs rfl));obtain ⟨j,e,q1,q2,q⟩:=q1;subst e;cases r1 with
 | cons r rr =>
   cases rr;obtain ⟨t,rfl⟩:=r;exact call_range_1 (Fg I1 (by omega) (by omega) q1 q2 (by simpa using q))
theorem CW {a b:Expr} {ta:TA} {p pos:Pos} (hg:Gl X "range") (hm:X.mg "range"=none) (ha:PA X [a,b] ta) (hs:starEach [a,b] X.env=[(false,eval a X.env),(false,eval b X.env)]:=by rfl) (hs2:starEach [b] X.env=[(false,eval b X.env)]:=by rfl) :
   PI X tg (.Call (.Name "range" p) [a,b] [] pos) (IU ta):=by
 intro pins s σ H R I h;refine Call_ (oZ I hg hm boot_range (PyProof.Rows.callWith_type1 (rj (ha pos pins s σ H _ I h) fun us s1 vs H1 I1 r1 q1=>?_) (by rw [hs,hs2]) (by rw [hs2];rfl)));obtain ⟨i,j,e,⟨q1,q2,q3,q4⟩,q⟩:=q1;subst e;cases r1 with
 | cons r rr =>
   cases rr with
   | cons r' rr =>
     cases rr;obtain ⟨t,rfl⟩:=r;obtain ⟨t',rfl⟩:=r';exact call_range_2 (Fg I1 q1 q2 q3 q4 q)
def Ry (wi:TI) (g:TG) (tb:TS):TS:=fun D σ H=>wi σ H fun J H1=>∃ W:Nat->Nat->St->Hp->Prop,(∃ m,W 0 m σ H1)/\∀ i m σ H,W i m σ H ->
 (J.stop i H/\D.nx σ H)\/(J.go i H/\∃ N:St->Hp->Prop,(∀ σ' H',N σ' H'->∃ m',m'<m/\W (i+1) m' σ' H')/\∀ x H',J.yld i H x H'->g x σ H' fun σ2 H2=>tb { D with nx:=N,ct:=N,bk:=D.nx } σ2 H2)
def rT (fp:List Addr) (h:Heap):List (Addr × Obj):=fp.filterMap fun b=>(h.get? b).map fun o=>(b,o)
theorem jO {fp:List Addr} {h:Heap} {b:Addr} {o:Obj} (hb:b∈fp) (e:h.get? b=some o):(b,o)∈rT fp h:=List.mem_filterMap.mpr ⟨b,hb,by rw [e];rfl⟩
theorem Kw {fp:List Addr} {h:Heap} {p:Addr × Obj} (hp:p∈rT fp h):p.1∈fp/\h.get? p.1=some p.2:=by
 obtain ⟨b,hb,e⟩:=List.mem_filterMap.mp hp;cases q:h.get? b with
 | none=>rw [q] at e;cases e
 | some o =>
   rw [q] at e;have e':(b,o)=p:=Option.some.inj e;subst e';exact ⟨hb,q⟩
theorem Inv.pinned {pins:List (Addr × Obj)} {σ:St} {H:Hp} {s:Shared} {fp:List Addr} (I:Inv X pins σ H s) (hf:∀ b∈fp,kF X pins H b) (ho:∀ b∈fp,∃ o,s.heap.get? b=some o/\∀ v,o.data≠.cell v):Inv X (pins++rT fp s.heap) σ H s :=
 I.pins_of fun p hp=>(List.mem_append.mp hp).elim (fun z=>I.pin p (List.mem_append_right _ z)) fun z=>by
   obtain ⟨hb,e⟩:=Kw z;obtain ⟨f0,f1,f2,_⟩:=hf p.1 hb;obtain ⟨o,e',d⟩:=ho p.1 hb;rw [e] at e';cases e';exact ⟨e,f0,f1,f2,d⟩
theorem Inv.unpinned {pins pl:List (Addr × Obj)} {σ:St} {H:Hp} {s:Shared} (I:Inv X (pins++pl) σ H s):Inv X pins σ H s:=I.pins_of fun p hp=>I.pin p (List.mem_append_right _ (List.mem_append_left _ hp))
theorem dN {iter:Expr} {body:List Stmt} {wi:TI} {g:TG} {tb:TS} {pos:Pos} (hp:PassesOwn (model X.prog X.w) X.A X.env X.xe) (hc:X.calm=true) (hi:PI X tg iter wi) (hg:PG X tg g) (hb:PSs X body tb)
   (hs:∀ x,foldedSetIterable iter X.env x=pure x:=by intro _;rfl):PS X (.For tg iter body [] pos) (Ry wi g tb):=by
 intro pins s σ H D I h;refine wpAny_For (thn (hi pins s σ H _ I h) fun v s1 h1=>thn h1 fun itv s2 h2=>?_) hs;obtain ⟨it,fp,tn,J,H2,e,I2,T,st2,f2,W,⟨m0,w0⟩,turn⟩:=h2;subst e;have stat:∀ {H':Hp},(∀ b∈fp,H' b=none)->∀ b∈fp,kF X pins H' b:=fun hn b hb=>⟨hn b hb,(f2 b hb).2⟩;refine codeAny_forLoop_any (fun n s'=>∃ i σ' H',Inv X pins σ' H' s'/\tn i s'.heap/\(∀ b∈fp,H' b=none)/\W i n σ' H') ?_ m0 ⟨0,σ,H2,I2,st2,fun b hb=>(f2 b hb).1,w0⟩;rintro n s3 ⟨i,σ3,H3,I3,st3,fr3,w3⟩;rcases turn i n σ3 H3 w3 with ⟨stop,qn⟩|⟨go,N,hN,step⟩
 . refine wpAny_passesOwn hp (thn (T.done X rfl rfl rfl hc i pins s3 σ3 H3 X.xe I3 (stat fr3) st3 stop) fun r s4 ⟨hr,I4⟩=>?_);subst hr;exact wpAny_execs_nil ⟨σ3,H3,I4,qn⟩
 . refine wpAny_passesOwn hp (thn (T.item X rfl rfl rfl hc i pins s3 σ3 H3 X.xe I3 (stat fr3) st3 go) fun r s4 ⟨u,hr,h4⟩=>?_);subst hr;refine wpAny_passesOwn hp (thn h4 fun _ s5 ⟨x,H5,I5,r5,y5,st5,fr5⟩=>?_);have I5':=I5.pinned (stat fr5) (T.obj _ _ st5);refine wpAny_passesOwn hp (thn (hg _ s5 σ3 H5 x u _ I5' r5 (step x H5 y5)) fun _ s6 ⟨σ6,H6,I6,q6⟩=>?_);refine wpAny_passesOwn hp (thn (hb _ s6 σ6 H6 _ I6 q6) fun f s7 q7=>?_);have again:∀ {σ7:St} {H7:Hp},Inv X (pins++rT fp s5.heap) σ7 H7 s7->N σ7 H7->∃ m,m<n/\∃ i σ' H',Inv X pins σ' H' s7/\tn i s7.heap/\(∀ b∈fp,H' b=none)/\W i m σ' H':=fun {σ7 H7} I7 n7=>by
     obtain ⟨m',hm,w7⟩:=hN σ7 H7 n7;refine ⟨m',hm,i+1,σ7,H7,I7.unpinned,T.keep _ _ _ st5 fun b hb o e=>(I7.pin (b,o) (List.mem_append_right _ (List.mem_append_right _ (jO hb e)))).1,fun b hb=>?_,w7⟩;obtain ⟨o,e,d⟩:=T.obj _ _ st5 b hb;exact (I7.pin (b,o) (List.mem_append_right _ (List.mem_append_right _ (jO hb e)))).2.1
   cases f with
   | next=>obtain ⟨σ7,H7,I7,n7⟩:=q7;exact again I7 n7
   | cont=>obtain ⟨σ7,H7,I7,n7⟩:=q7;exact again I7 n7
   | brk=>obtain ⟨σ7,H7,I7,q7⟩:=q7;exact ⟨σ7,H7,I7.unpinned,q7⟩
   | ret v=>obtain ⟨x7,σ7,H7,I7,r7,q7⟩:=q7;exact ⟨x7,σ7,H7,I7.unpinned,r7,q7⟩
end
theorem L6 {K:PySem.W.Frag} {a:Addr} {xs:List V} {g:TG} {tb:TS} {D:Ends} {σ:St} {H:Hp} (Pv:Nat->St->Hp->Prop) (h0:Pv 0 σ H) (hl:∀ i σ H,i<=xs.length->Pv i σ H->SqL K H a xs)
   (hs:∀ i x σ H,xs[i]?=some x->Pv i σ H->g x σ H fun σ2 H2=>tb { D with nx:=Pv (i+1),ct:=Pv (i+1),bk:=D.nx } σ2 H2) (hd:∀ σ H,Pv xs.length σ H->D.nx σ H) :
   ∃ W:Nat->Nat->St->Hp->Prop,(∃ m,W 0 m σ H)/\∀ i m σ H,W i m σ H ->
     ((Itl K a).stop i H/\D.nx σ H)\/((Itl K a).go i H/\∃ N:St->Hp->Prop,(∀ σ' H',N σ' H'->∃ m',m'<m/\W (i+1) m' σ' H')/\∀ x H',(Itl K a).yld i H x H'->g x σ H' fun σ2 H2=>tb { D with nx:=N,ct:=N,bk:=D.nx } σ2 H2):=by
 refine ⟨fun i m σ H=>m=xs.length - i/\i<=xs.length/\Pv i σ H,⟨xs.length,by simp,Nat.zero_le _,h0⟩,?_⟩;rintro i m σ H ⟨rfl,hi,p⟩;have q:=hl i σ H hi p;by_cases hlt:i<xs.length
 . refine .inr ⟨⟨xs,xs[i],q,by simp [hlt]⟩,Pv (i+1),fun σ' H' p'=>⟨xs.length - (i+1),by omega,rfl,hlt,p'⟩,fun x H' y=>?_⟩;obtain ⟨e,y⟩:=y;subst e;exact hs i x σ _ (y xs q) p
 . have e:i=xs.length:=by omega
   subst e;exact .inl ⟨⟨xs,q,Nat.le_refl _⟩,hd σ H p⟩
theorem Ck {K:PySem.W.Frag} {a:Addr} {xs:List V} {g:TG} {tb:TS} {D:Ends} {σ:St} {H:Hp} (Pv:Nat->St->Hp->Prop) (h0:Pv 0 σ H) (hl:∀ i σ H,i<=xs.length->Pv i σ H->SqT K H a xs)
   (hs:∀ i x σ H,xs[i]?=some x->Pv i σ H->g x σ H fun σ2 H2=>tb { D with nx:=Pv (i+1),ct:=Pv (i+1),bk:=D.nx } σ2 H2) (hd:∀ σ H,Pv xs.length σ H->D.nx σ H) :
   ∃ W:Nat->Nat->St->Hp->Prop,(∃ m,W 0 m σ H)/\∀ i m σ H,W i m σ H ->
     ((Itt K a).stop i H/\D.nx σ H)\/((Itt K a).go i H/\∃ N:St->Hp->Prop,(∀ σ' H',N σ' H'->∃ m',m'<m/\W (i+1) m' σ' H')/\∀ x H',(Itt K a).yld i H x H'->g x σ H' fun σ2 H2=>tb { D with nx:=N,ct:=N,bk:=D.nx } σ2 H2):=by
 refine ⟨fun i m σ H=>m=xs.length - i/\i<=xs.length/\Pv i σ H,⟨xs.length,by simp,Nat.zero_le _,h0⟩,?_⟩;rintro i m σ H ⟨rfl,hi,p⟩;have q:=hl i σ H hi p;by_cases hlt:i<xs.length
 . refine .inr ⟨⟨xs,xs[i],q,by simp [hlt]⟩,Pv (i+1),fun σ' H' p'=>⟨xs.length - (i+1),by omega,rfl,hlt,p'⟩,fun x H' y=>?_⟩;obtain ⟨e,y⟩:=y;subst e;exact hs i x σ _ (y xs q) p
 . have e:i=xs.length:=by omega
   subst e;exact .inl ⟨⟨xs,q,Nat.le_refl _⟩,hd σ H p⟩
theorem KS {lo:Int} {n:Nat} {g:TG} {tb:TS} {D:Ends} {σ:St} {H:Hp} (Pv:Nat->St->Hp->Prop) (h0:Pv 0 σ H)
   (hs:∀ i σ H,i<n->Pv i σ H->g (.int (lo+i)) σ H fun σ2 H2=>tb { D with nx:=Pv (i+1),ct:=Pv (i+1),bk:=D.nx } σ2 H2) (hd:∀ σ H,Pv n σ H->D.nx σ H) :
   ∃ W:Nat->Nat->St->Hp->Prop,(∃ m,W 0 m σ H)/\∀ i m σ H,W i m σ H ->
     ((Itr lo n).stop i H/\D.nx σ H)\/((Itr lo n).go i H/\∃ N:St->Hp->Prop,(∀ σ' H',N σ' H'->∃ m',m'<m/\W (i+1) m' σ' H')/\∀ x H',(Itr lo n).yld i H x H'->g x σ H' fun σ2 H2=>tb { D with nx:=N,ct:=N,bk:=D.nx } σ2 H2):=by
 refine ⟨fun i m σ H=>m=n - i/\i<=n/\Pv i σ H,⟨n,by simp,Nat.zero_le _,h0⟩,?_⟩;rintro i m σ H ⟨rfl,hi,p⟩;by_cases hlt:i<n
 . refine .inr ⟨hlt,Pv (i+1),fun σ' H' p'=>⟨n - (i+1),by omega,rfl,hlt,p'⟩,fun x H' y=>?_⟩;obtain ⟨e,y⟩:=y;subst e y;exact hs i σ _ hlt p
 . have e:i=n:=by omega
   subst e;exact .inl ⟨Nat.le_refl _,hd σ H p⟩
end L2
namespace L2
open PySem PySem.Spec PyProof.Rows
abbrev R2:=V->V->Hp->VK->Prop
def OpR (X:Cx) (f:Value->Value->Sem Value) (r:R2):Prop :=
 ∀ (pins:List (Addr × Obj)) (s:Shared) (σ:St) (H:Hp) (x y:V) (v u:Value) (Q:VK),Inv X pins σ H s->RelV x v->RelV y u->r x y H Q ->
   wpAny (model X.prog X.w) X.A (f v u) (EP X pins σ Q) X.xe s
def UnR (X:Cx) (f:Value->Sem Value) (r:V->Hp->VK->Prop):Prop :=
 ∀ (pins:List (Addr × Obj)) (s:Shared) (σ:St) (H:Hp) (x:V) (v:Value) (Q:VK),Inv X pins σ H s->RelV x v->r x H Q ->
   wpAny (model X.prog X.w) X.A (f v) (EP X pins σ Q) X.xe s
def jM (X:Cx) (f:Value) (r:List V->Hp->VK->Prop):Prop :=
 ∀ (pins:List (Addr × Obj)) (s:Shared) (σ:St) (H:Hp) (xs:List V) (us:List Value) (Q:VK),Inv X pins σ H s->Vals xs us->r xs H Q ->
   wpAny (model X.prog X.w) X.A (call f us) (EP X pins σ Q) X.xe s
def SG (X:Cx) (r:V->Hp->(Bool->Hp->Prop)->Prop):Prop :=
 ∀ (pins:List (Addr × Obj)) (s:Shared) (σ:St) (H:Hp) (x:V) (v:Value) (Q:Bool->Hp->Prop),Inv X pins σ H s->RelV x v->r x H Q ->
   wpAny (model X.prog X.w) X.A (truthy v) (TP X pins σ Q) X.xe s
def tOp (r:R2) (ta tb:TE):TE:=fun σ H Q=>ta σ H fun x H1=>tb σ H1 fun y H2=>r x y H2 Q
def tUn (r:V->Hp->VK->Prop) (ta:TE):TE:=fun σ H Q=>ta σ H fun x H1=>r x H1 Q
def rI (C:Int->Int->Prop) (g:Int->Int->V):R2:=fun x y H Q=>∃ i j,x=.int i/\y=.int j/\C i j/\Q (g i j) H
def rI0 (g:Int->Int->V):R2:=fun x y H Q=>∃ i j,x=.int i/\y=.int j/\Q (g i j) H
def rU (g:Int->V):V->Hp->VK->Prop:=fun x H Q=>∃ i,x=.int i/\Q (g i) H
section
variable {X:Cx} {a b c:Expr} {ta tb tc:TE} {pos:Pos}
theorem Ml (ha:PE X a ta) (hb:PE X b tb) {pins:List (Addr × Obj)} {s:Shared} {σ:St} {H:Hp} {R:V->V->Hp->Prop} (I:Inv X pins σ H s)
   (h:ta σ H fun x H1=>tb σ H1 fun y H2=>R x y H2) {Q:Value->Shared->Prop} {f:Value->Value->Sem Value}
   (hf:∀ v u s2 x y H2,Inv X pins σ H2 s2->RelV x v->RelV y u->R x y H2->wpAny (model X.prog X.w) X.A (f v u) Q X.xe s2) :
   wpAny (model X.prog X.w) X.A (eval a X.env) (fun v s₁=>wpAny (model X.prog X.w) X.A (eval b X.env) (fun u s₂=>wpAny (model X.prog X.w) X.A (f v u) Q X.xe s₂) X.xe s₁) X.xe s:=by
 refine bw (ha pins s σ H _ I h) fun v s1 x H1 I1 r1 q1=>?_;refine bw (hb pins s1 σ H1 _ I1 q1) fun u s2 y H2 I2 r2 q2=>?_;exact hf v u s2 x y H2 I2 r1 r2 q2
theorem aw {op:Operator} {r:R2} (ho:OpR X (binaryOp op) r) (ha:PE X a ta) (hb:PE X b tb):PE X (.BinOp a op b pos) (tOp r ta tb):=by
 intro pins s σ H Q I h;exact wpAny_BinOp (Ml ha hb I h fun v u s2 x y H2 I2 rx ry q=>ho pins s2 σ H2 x y v u Q I2 rx ry q)
theorem So {op:UnaryOp} {r:V->Hp->VK->Prop} (ho:UnR X (unaryOp op) r) (ha:PE X a ta):PE X (.UnaryOp op a pos) (tUn r ta):=by
 intro pins s σ H Q I h;exact UnaryOp_ (bw (ha pins s σ H _ I h) fun v s1 x H1 I1 r1 q1=>ho pins s1 σ H1 x v Q I1 r1 q1)
theorem opI {f:Value->Value->Sem Value} {C:Int->Int->Prop} {g:Int->Int->Int}
   (rule:∀ (i j:Int) (t u:Tok) (s:Shared) (Q:Value->Shared->Prop) (E:Value->Shared->Prop),C i j->Q (.int (g i j) s.toks) { s with toks:=s.toks+1 }->wpAny (model X.prog X.w) X.A (f (.int i t) (.int j u)) Q E s) :
   OpR X f (rI C fun i j=>.int (g i j)):=by
 intro pins s σ H x y v u Q I rx ry h;obtain ⟨i,j,rfl,rfl,hc,q⟩:=h;obtain ⟨t,rfl⟩:=rx;obtain ⟨t',rfl⟩:=ry;exact rule i j t t' s _ _ hc ⟨.int (g i j),H,I.tok _,⟨_,rfl⟩,q⟩
theorem Ra {f:Value->Value->Sem Value} {g:Int->Int->Int}
   (rule:∀ (i j:Int) (t u:Tok) (s:Shared) (Q:Value->Shared->Prop) (E:Value->Shared->Prop),Q (.int (g i j) s.toks) { s with toks:=s.toks+1 }->wpAny (model X.prog X.w) X.A (f (.int i t) (.int j u)) Q E s) :
   OpR X f (rI0 fun i j=>.int (g i j)):=by
 intro pins s σ H x y v u Q I rx ry h;obtain ⟨i,j,rfl,rfl,q⟩:=h;obtain ⟨t,rfl⟩:=rx;obtain ⟨t',rfl⟩:=ry;exact rule i j t t' s _ _ ⟨.int (g i j),H,I.tok _,⟨_,rfl⟩,q⟩
theorem Ke {f:Value->Value->Sem Value} {g:Int->Int->Bool}
   (rule:∀ (i j:Int) (t u:Tok) (s:Shared) (Q:Value->Shared->Prop) (E:Value->Shared->Prop),Q (.bool (g i j)) s->wpAny (model X.prog X.w) X.A (f (.int i t) (.int j u)) Q E s) :
   OpR X f (rI0 fun i j=>.bl (g i j)):=by
 intro pins s σ H x y v u Q I rx ry h;obtain ⟨i,j,rfl,rfl,q⟩:=h;obtain ⟨t,rfl⟩:=rx;obtain ⟨t',rfl⟩:=ry;exact rule i j t t' s _ _ ⟨.bl (g i j),H,I,rfl,q⟩
def Ru (i j:Int):Prop:=0<j/\j<1073741824
def Ro (i j:Int):Prop:=0<=j/\j<=1000000/\i.natAbs<2^64
def CMul (i j:Int):Prop:=(-(2^64)<i/\i<2^64)\/(-(2^64)<j/\j<2^64)
theorem CMul.ok {i j:Int} (h:CMul i j):IntMulOk i j:=by
 rcases h with ⟨h1,h2⟩|⟨h1,h2⟩
 . exact .of_left (intBits_le_64 h1 h2)
 . exact .of_right (intBits_le_64 h1 h2)
theorem cu:OpR X (binaryOp .Add) (rI0 fun i j=>.int (i+j)):=Ra fun _ _ _ _ _ _ _ q=>add_int q
theorem lJ:OpR X (binaryOp .Sub) (rI0 fun i j=>.int (i - j)):=Ra fun _ _ _ _ _ _ _ q=>sub_int q
theorem jq:OpR X (binaryOp .Mult) (rI CMul fun i j=>.int (i*j)):=opI fun _ _ _ _ _ _ _ hc q=>mul_int q hc.ok
theorem cG:OpR X (binaryOp .FloorDiv) (rI Ru fun i j=>.int (i / j)):=opI fun i j _ _ _ _ _ hc q=>by
 have h1:(0:Int)<j:=hc.1;have h2:j<1073741824:=hc.2;exact floordiv_int (by omega) (by rw [Int.fdiv_eq_ediv_of_nonneg i (by omega)];exact q) (.inl (PyProof.noPylong_small (by omega)))
theorem aZ:OpR X (binaryOp .Mod) (rI (fun _ j=>0<j) fun i j=>.int (i % j)):=opI fun i j _ _ _ _ _ hc q=>by
 have h1:(0:Int)<j:=hc;exact mod_int' (by omega) (by rw [Int.fmod_eq_emod_of_nonneg i (by omega)];exact q)
theorem nB:OpR X (binaryOp .Pow) (rI Ro fun i j=>.int (i^j.toNat)):=opI fun _ _ _ _ _ _ _ hc q=>pow_int_small hc.1 hc.2.1 hc.2.2 q
theorem unI {f:Value->Sem Value} {g:Int->Int}
   (rule:∀ (i:Int) (t:Tok) (s:Shared) (Q:Value->Shared->Prop) (E:Value->Shared->Prop),Q (.int (g i) s.toks) { s with toks:=s.toks+1 }->wpAny (model X.prog X.w) X.A (f (.int i t)) Q E s) :
   UnR X f (rU fun i=>.int (g i)):=by
 intro pins s σ H x v Q I rx h;obtain ⟨i,rfl,q⟩:=h;obtain ⟨t,rfl⟩:=rx;exact rule i t s _ _ ⟨.int (g i),H,I.tok _,⟨_,rfl⟩,q⟩
theorem Rq:UnR X (unaryOp .USub) (rU fun i=>.int (-i)):=unI fun _ _ _ _ _ q=>neg_int q
end
def qc:V->V->Bool
 | .non,.non=>true|.non,.int _=>true|.int _,.non=>true|.non,.bl _=>true|.bl _,.non=>true|.non,.str _=>true|.str _,.non=>true
 | .int _,.int _=>true|.bl _,.bl _=>true|.str _,.str _=>true|.byt _,.byt _=>true
 | .int _,.str _=>true|.str _,.int _=>true|.bl _,.str _=>true|.str _,.bl _=>true
 | _,_=>false
def rEq:R2:=fun x y H Q=>qc x y=true/\Q (.bl (decide (x=y))) H
def rNe:R2:=fun x y H Q=>qc x y=true/\Q (.bl (!decide (x=y))) H
theorem HM {i j:Int}:decide (V.int i=V.int j)=(i == j):=by
 rw [Bool.eq_iff_iff];simp
theorem LW {i j:Bool}:decide (V.bl i=V.bl j)=(i == j):=by
 rw [Bool.eq_iff_iff];simp
theorem Hb {i j:Str}:decide (V.str i=V.str j)=(i == j):=by
 rw [Bool.eq_iff_iff];simp
theorem Hv {i j:Array UInt8}:decide (V.byt i=V.byt j)=(i.toList == j.toList):=by
 rw [Bool.eq_iff_iff];cases i;cases j;simp
section
variable {X:Cx} {a b c:Expr} {ta tb tc:TE} {pos:Pos}
theorem bD {pins:List (Addr × Obj)} {σ:St} {H:Hp} {s:Shared} {Q:VK} {k k':Bool} (I:Inv X pins σ H s) (q:Q (.bl k) H) (e:k=k'):EP X pins σ Q (.bool k') s:=by
 subst e;exact ⟨.bl k,H,I,rfl,q⟩
theorem fL:OpR X (compareOp .Eq) rEq:=by
 intro pins s σ H x y v u Q I rx ry h;obtain ⟨hs,q⟩:=h;cases x with
 | non =>
   cases rx;cases y with
   | non=>cases ry;exact PySem.EqNone.eq_none_none (bD I q (by simp))
   | bl j=>cases ry;exact PySem.EqNone.eq_none_bool (bD I q (by simp))
   | int j=>obtain ⟨t',rfl⟩:=ry;exact PySem.EqNone.eq_none_int (bD I q (by simp))
   | str j=>obtain ⟨t',rfl⟩:=ry;exact PySem.EqNone.eq_none_str (bD I q (by simp))
   | _=>exact absurd (show false=true from hs) Bool.false_ne_true
 | bl i =>
   cases rx;cases y with
   | non=>cases ry;exact PySem.EqNone.eq_bool_none (bD I q (by simp))
   | bl j=>cases ry;exact eq_bool (bD I q LW)
   | str j=>obtain ⟨t',rfl⟩:=ry;exact PySem.EqMixed.eq_bool_str (bD I q (by simp))
   | _=>exact absurd (show false=true from hs) Bool.false_ne_true
 | int i =>
   obtain ⟨t,rfl⟩:=rx;cases y with
   | non=>cases ry;exact PySem.EqNone.eq_int_none (bD I q (by simp))
   | int j=>obtain ⟨t',rfl⟩:=ry;exact eq_int (bD I q HM)
   | str j=>obtain ⟨t',rfl⟩:=ry;exact PySem.EqMixed.eq_int_str (bD I q (by simp))
   | _=>exact absurd (show false=true from hs) Bool.false_ne_true
 | str i =>
   obtain ⟨t,rfl⟩:=rx;cases y with
   | non=>cases ry;exact PySem.EqNone.eq_str_none (bD I q (by simp))
   | bl j=>cases ry;exact PySem.EqMixed.eq_str_bool (bD I q (by simp))
   | int j=>obtain ⟨t',rfl⟩:=ry;exact PySem.EqMixed.eq_str_int (bD I q (by simp))
   | str j=>obtain ⟨t',rfl⟩:=ry;exact eq_str (bD I q Hb)
   | _=>exact absurd (show false=true from hs) Bool.false_ne_true
 | byt i =>
   obtain ⟨t,rfl⟩:=rx;cases y with
   | byt j=>obtain ⟨t',rfl⟩:=ry;exact PySem.W.eq_bytes (bD I q Hv)
   | _=>exact absurd (show false=true from hs) Bool.false_ne_true
 | _=>cases y <;> exact absurd (show false=true from hs) Bool.false_ne_true
theorem sV:OpR X (compareOp .NotEq) rNe:=by
 intro pins s σ H x y v u Q I rx ry h;obtain ⟨hs,q⟩:=h;cases x with
 | non =>
   cases rx;cases y with
   | non=>cases ry;exact PySem.EqNone.ne_none_none (bD I q (by simp))
   | bl j=>cases ry;exact PySem.EqNone.ne_none_bool (bD I q (by simp))
   | int j=>obtain ⟨t',rfl⟩:=ry;exact PySem.EqNone.ne_none_int (bD I q (by simp))
   | str j=>obtain ⟨t',rfl⟩:=ry;exact PySem.EqNone.ne_none_str (bD I q (by simp))
   | _=>exact absurd (show false=true from hs) Bool.false_ne_true
 | bl i =>
   cases rx;cases y with
   | non=>cases ry;exact PySem.EqNone.ne_bool_none (bD I q (by simp))
   | bl j=>cases ry;exact ne_bool (bD I q (congrArg not LW))
   | str j=>obtain ⟨t',rfl⟩:=ry;exact PySem.EqMixed.ne_bool_str (bD I q (by simp))
   | _=>exact absurd (show false=true from hs) Bool.false_ne_true
 | int i =>
   obtain ⟨t,rfl⟩:=rx;cases y with
   | non=>cases ry;exact PySem.EqNone.ne_int_none (bD I q (by simp))
   | int j=>obtain ⟨t',rfl⟩:=ry;exact ne_int (bD I q (congrArg not HM))
   | str j=>obtain ⟨t',rfl⟩:=ry;exact PySem.EqMixed.ne_int_str (bD I q (by simp))
   | _=>exact absurd (show false=true from hs) Bool.false_ne_true
 | str i =>
   obtain ⟨t,rfl⟩:=rx;cases y with
   | non=>cases ry;exact PySem.EqNone.ne_str_none (bD I q (by simp))
   | bl j=>cases ry;exact PySem.EqMixed.ne_str_bool (bD I q (by simp))
   | int j=>obtain ⟨t',rfl⟩:=ry;exact PySem.EqMixed.ne_str_int (bD I q (by simp))
   | str j=>obtain ⟨t',rfl⟩:=ry;exact ne_str (bD I q (congrArg not Hb))
   | _=>exact absurd (show false=true from hs) Bool.false_ne_true
 | byt i =>
   obtain ⟨t,rfl⟩:=rx;cases y with
   | byt j=>obtain ⟨t',rfl⟩:=ry;exact PySem.W.ne_bytes (bD I q (congrArg not Hv))
   | _=>exact absurd (show false=true from hs) Bool.false_ne_true
 | _=>cases y <;> exact absurd (show false=true from hs) Bool.false_ne_true
theorem AJ:OpR X (compareOp .Lt) (rI0 fun i j=>.bl (decide (i<j))):=Ke fun _ _ _ _ _ _ _ q=>lt_int q
theorem A5:OpR X (compareOp .LtE) (rI0 fun i j=>.bl (decide (i<=j))):=Ke fun _ _ _ _ _ _ _ q=>le_int q
theorem zV:OpR X (compareOp .Gt) (rI0 fun i j=>.bl (decide (j<i))):=Ke fun _ _ _ _ _ _ _ q=>gt_int q
theorem Pz:OpR X (compareOp .GtE) (rI0 fun i j=>.bl (decide (j<=i))):=Ke fun _ _ _ _ _ _ _ q=>ge_int q
theorem aX (b:Expr) {op:CmpOp} (h:op≠.In:=by decide) (h2:op≠.NotIn:=by decide):behindInMarks op b=false:=by
 have e1:(op == CmpOp.In)=false:=by cases op <;> first|rfl|exact absurd rfl h
 have e2:(op == CmpOp.NotIn)=false:=by cases op <;> first|rfl|exact absurd rfl h2
 cases b <;> simp [behindInMarks,e1,e2]
theorem ye {op:CmpOp} {r:R2} (ho:OpR X (compareOp op) r) (ha:PE X a ta) (hb:PE X b tb) (hm:behindInMarks op b=false):PE X (.Compare a [op] [b] pos) (tOp r ta tb):=by
 intro pins s σ H Q I h;exact wpAny_Compare1 (Ml ha hb I h fun v u s2 x y H2 I2 rx ry q=>ho pins s2 σ H2 x y v u Q I2 rx ry q) hm
def DJ (t:TE):TT:=fun σ H Q=>t σ H fun x H'=>∃ k,x=.bl k/\Q k H'
theorem aR {op:CmpOp} {r:R2} (ho:OpR X (compareOp op) r) (ha:PE X a ta) (hb:PE X b tb) (hm:behindInMarks op b=false):PT X (.Compare a [op] [b] pos) (DJ (tOp r ta tb)):=by
 intro pins s σ H Q I h;refine wpAny_isTrue_Compare1 (bw (ha pins s σ H _ I h) fun v s1 x H1 I1 r1 q1=>bw (hb pins s1 σ H1 _ I1 q1) fun u s2 y H2 I2 r2 q2 =>
   bw (ho pins s2 σ H2 x y v u _ I2 r1 r2 q2) fun c s3 z H3 I3 r3 ⟨k,e,q3⟩=>?_) hm
 subst e;cases r3;exact wpAny_truthy_bool ⟨H3,I3,q3⟩
def AD (r r':R2) (ta tb tc:TE):TE:=fun σ H Q=>ta σ H fun x H1=>tb σ H1 fun y H2=>r x y H2 fun z H3=>∃ k,z=.bl k /\
 (if k=true then tc σ H3 fun w' H4=>r' y w' H4 Q else Q (.bl false) H3)
theorem Mm {op op':CmpOp} {r r':R2} (ho:OpR X (compareOp op) r) (ho':OpR X (compareOp op') r') (ha:PE X a ta) (hb:PE X b tb) (hc:PE X c tc)
   (hm:lastMarks [op,op'] [b,c]=false:=by with_unfolding_all rfl):PE X (.Compare a [op,op'] [b,c] pos) (AD r r' ta tb tc):=by
 intro pins s σ H Q I h;refine Compare_chain (bw (ha pins s σ H _ I h) fun v s1 x H1 I1 r1 q1=>chain_link (bw (hb pins s1 σ H1 _ I1 q1) fun u s2 y H2 I2 r2 q2 =>
   bw (ho pins s2 σ H2 x y v u _ I2 r1 r2 q2) fun d s3 z H3 I3 r3 ⟨k,e,q3⟩=>?_)) hm
 subst e;cases r3;refine wpAny_truthy_bool ?_;cases k with
 | false=>exact ite_ff ⟨.bl false,H3,I3,rfl,q3⟩
 | true=>exact ite_tt (chain_last (thn (hc pins s3 σ H3 _ I3 q3) fun w' s4 ⟨z',H4,I4,r4,q4⟩=>ho' pins s4 σ H4 y z' u w' Q I4 r2 r4 q4))
theorem F5 {op op':CmpOp} {r r':R2} (ho:OpR X (compareOp op) r) (ho':OpR X (compareOp op') r') (ha:PE X a ta) (hb:PE X b tb) (hc:PE X c tc)
   (hm:lastMarks [op,op'] [b,c]=false:=by with_unfolding_all rfl):PT X (.Compare a [op,op'] [b,c] pos) (DJ (AD r r' ta tb tc)):=by
 intro pins s σ H Q I h;refine isTrue_chain (bw (ha pins s σ H _ I h) fun v s1 x H1 I1 r1 q1=>test_link (bw (hb pins s1 σ H1 _ I1 q1) fun u s2 y H2 I2 r2 q2 =>
   bw (ho pins s2 σ H2 x y v u _ I2 r1 r2 q2) fun d s3 z H3 I3 r3 ⟨k,e,q3⟩=>?_)) hm
 subst e;cases r3;refine wpAny_truthy_bool ?_;cases k with
 | false =>
   obtain ⟨k',e',q'⟩:=q3;cases e';exact ite_ff ⟨H3,I3,q'⟩
 | true =>
   refine ite_tt (test_last (thn (hc pins s3 σ H3 _ I3 q3) fun w' s4 ⟨z',H4,I4,r4,q4⟩=>thn (ho' pins s4 σ H4 y z' u w' _ I4 r2 r4 q4) fun d' s5 ⟨z2,H5,I5,r5,k2,e2,q5⟩=>?_));subst e2;cases r5;exact wpAny_truthy_bool ⟨H5,I5,q5⟩
def Rs (K:PySem.W.Frag) (x:V) (H:Hp) (k:Bool):Prop :=
 match x with
 | .non=>k=false
 | .bl b=>k=b
 | .int i=>k=(i != 0)
 | .str y=>y.length<=sizeLine/\k=((y.length:Int) != 0)
 | .byt y=>y.size<=sizeLine/\k=((y.size:Int) != 0)
 | .ref p=>(∃ xs,SqL K H p xs/\k=!xs.isEmpty)\/(∃ xs,SqT K H p xs/\k=!xs.isEmpty)\/∃ kvs,H p=some (.dK kvs)/\k=!kvs.isEmpty
 | _=>False
theorem JR {κ:Type} {kvs:List (κ × V)} {vs:List (κ × Value)} (r:KV kvs vs):(!vs.isEmpty)=!kvs.isEmpty:=by
 cases r <;> rfl
theorem Au {xs:List V} {its:List Value} (r:Vals xs its):(!its.toArray.isEmpty)=!xs.isEmpty:=by
 cases r <;> simp
theorem pQ:(sizeLine:Nat)<2^63:=by rw [sizeLine_eq];decide
theorem RM:SG X (fun x H Q=>∃ k,Rs X.K x H k/\Q k H):=by
 intro pins s σ H x v Q I rx h;obtain ⟨k,e,q⟩:=h;have hl:=pQ;have hs:sizeLine=16777216:=sizeLine_eq;cases x with
 | non =>
   cases rx;have e':k=false:=e;subst e';exact truthy_none ⟨H,I,q⟩
 | bl b =>
   cases rx;have e':k=b:=e;subst e';exact wpAny_truthy_bool ⟨H,I,q⟩
 | int i =>
   obtain ⟨t,rfl⟩:=rx;have e':k=(i != 0):=e;subst e';exact PySem.P.truthy_int ⟨H,I,q⟩
 | str y =>
   obtain ⟨t,rfl⟩:=rx;obtain ⟨hy,e'⟩:y.length<=sizeLine/\k=((y.length:Int) != 0):=e;subst e';exact PySem.P.truthy_str (by omega) ⟨H,I.tok _,q⟩
 | byt y =>
   obtain ⟨t,rfl⟩:=rx;obtain ⟨hy,e'⟩:y.size<=sizeLine/\k=((y.size:Int) != 0):=e;subst e';exact PySem.W.truthy_bytes (by omega) ⟨H,I.tok _,q⟩
 | ref p =>
   cases rx;have e':(∃ xs,SqL X.K H p xs/\k=!xs.isEmpty)\/(∃ xs,SqT X.K H p xs/\k=!xs.isEmpty)\/∃ kvs,H p=some (.dK kvs)/\k=!kvs.isEmpty:=e;rcases e' with ⟨xs,hx,e'⟩|⟨xs,hx,e'⟩|⟨kvs,hx,e'⟩
   . subst e';obtain ⟨its,r,pl,hz⟩:=I.list hx;have hlen:=r.length;exact wpAny_truthy_list pl.isList (by simp only [List.size_toArray];omega) ⟨H,I.tok _,by rw [Au r];exact q⟩
   . subst e';obtain ⟨its,r,pl,hz⟩:=I.tuple hx;have hlen:=r.length;exact truthy_tuple pl (by simp only [List.size_toArray];omega) ⟨H,I.tok _,by rw [Au r];exact q⟩
   . subst e';obtain ⟨hz,hS,vs,r,m⟩:kvs.length<=sizeLine/\(p == sysModules)=false/\∃ vs,KV kvs vs/\s.heap.DictOf (dA X.prog X.w) p vs:=I.hok p _ hx;have hlen:kvs.length=vs.length:=Paired.length r;exact wpAny_truthy_dict hS m (by omega) ⟨H,I.tok _,by rw [JR r];exact q⟩
 | _=>exact (show False from e).elim
theorem zg (ha:PE X a ta) (he:∀ whole,isTrue a X.env whole=(do let v <- whole;standAt a.pos;holding [v] (truthy v))) :
   PT X a (fun σ H Q=>ta σ H fun x H'=>∃ k,Rs X.K x H' k/\Q k H'):=by
 intro pins s σ H Q I h;exact isTrue_plain (bw (ha pins s σ H _ I h) fun v s1 x H1 I1 r1 q1=>RM pins s1 σ H1 x v Q I1 r1 q1) (he _)
theorem mY {x:V} {us:List Value} (r:Vals [x] us):∃ u,us=[u]/\RelV x u:=by
 cases r with
 | cons r1 r2=>cases r2;exact ⟨_,rfl,r1⟩
theorem PL {x y:V} {us:List Value} (r:Vals [x,y] us):∃ u w',us=[u,w']/\RelV x u/\RelV y w':=by
 cases r with
 | cons r1 r2 =>
   cases r2 with
   | cons r3 r4=>cases r4;exact ⟨_,_,rfl,r1,r3⟩
theorem C4 (hc:X.calm=true):jM X (.builtin "min") (fun xs H Q=>∃ i j,xs=[.int i,.int j]/\Q (.int (if j<i then j else i)) H):=by
 intro pins s σ H xs us Q I r h;obtain ⟨i,j,rfl,q⟩:=h;obtain ⟨u,w',rfl,⟨t,rfl⟩,⟨t',rfl⟩⟩:=PL r;refine min_two_ints (I.ok.hd hc) fun h' tk k=>⟨_,H,I.kept k,?_,q⟩;by_cases hj:j<i
 . rw [if_pos hj,if_pos hj];exact ⟨_,rfl⟩
 . rw [if_neg hj,if_neg hj];exact ⟨_,rfl⟩
theorem KY:jM X (.type "int") (fun xs H Q=>(∃ i,xs=[.int i]/\Q (.int i) H)\/∃ k,xs=[.bl k]/\Q (.int (if k then 1 else 0)) H):=by
 intro pins s σ H xs us Q I r h;rcases h with ⟨i,rfl,q⟩|⟨k,rfl,q⟩
 . obtain ⟨u,rfl,t,rfl⟩:=mY r;exact call_int_int ⟨.int i,H,I,⟨_,rfl⟩,q⟩
 . obtain ⟨u,rfl,r1⟩:=mY r;cases r1;exact call_int_bool ⟨.int (if k then 1 else 0),H,I.tok _,⟨_,rfl⟩,q⟩
end
end L2
namespace L2
open PySem PySem.Spec PyProof.Rows
structure ObjM (h:Heap) (x dx C:Addr) (mA:Str->Option Value):Prop where
 obj:h.get? x=some (PySem.W.instObj C dx)
 ns:h.Ns1 dx mA
 ne:dx≠x
theorem KJ {h:Heap} {dx:Addr} {mA:Str->Option Value} (n:h.Ns1 dx mA):∃ od,h.get? dx=some od/\∀ name,PySem.W.lookIn name od=some (mA name):=by
 obtain ⟨o,es,ep,ho,hd,hk,_,hm⟩:=n;refine ⟨o,ho,fun name=>?_⟩;have e:=hm name;unfold nsFind findBy at e;rw [<- Array.find?_toList] at e;unfold PySem.W.lookIn;rw [hd];dsimp only;split
 . rename_i y q
   rw [q] at e;exact congrArg some e
 . rename_i q
   rw [q] at e;have a:es.toList.any (·.refKey)=false:=by
     rw [List.any_eq_false];intro y hy;obtain ⟨z,t,hkey⟩:=hk y (Array.mem_toList_iff.mp hy);simp [DictEntry.refKey,hkey]
   have a':¬ es.toList.any (·.refKey)=true:=by rw [a];exact Bool.false_ne_true
   rw [if_neg a'];exact congrArg some e
theorem ObjM.look {h:Heap} {x dx C:Addr} {mA:Str->Option Value} (I:ObjM h x dx C mA):∃ od,PySem.W.InstAt h x (PySem.W.instObj C dx) C (some od)/\∀ name,PySem.W.lookIn name od=some (mA name) :=
 let ⟨od,ho,hl⟩:=KJ I.ns
 ⟨od,⟨I.obj,rfl,rfl,ho⟩,hl⟩
section
variable {prog:Program} {w:World} {A:Around} {E:Value->Shared->Prop} {s:Shared} {K:PySem.W.Frag} {x dx C f:Addr} {mA:Str->Option Value} {name:Str} {v:Value}
theorem Qy {expr:Bool} {Q:Value->Shared->Prop} (X:K.In s.heap) (I:ObjM s.heap x dx C mA) (hg:PySem.W.plainGet K C name=true) (hh:PySem.W.hasDictIn K C=true)
   (ha:PySem.W.findIn K (.ref C) name=some none) (hv:mA name=some v) (hv':PySem.W.handedIn v=true) (h:Q v { s with toks:=s.toks+1 }) :
   wpAny (model prog w) A (getAttr (.ref x) name expr) Q E s:=by
 obtain ⟨od,J,hl⟩:=I.look;exact PySem.W.get_value X J (PySem.W.plainGet_of hg).1 (PySem.W.findObj_own hh ha rfl (by rw [hl,hv])) hv' h
theorem QD {ns:List Str} {Q:Unit->Shared->Prop} (X:K.In s.heap) (I:ObjM s.heap x dx C mA)
   (hs:PySem.W.findIn K (.ref C) "__setattr__"=some (some (.builtin "object.__setattr__"))) (hp:PySem.W.plainOver K C=true) (ht:PySem.W.takerIn K C name=some none) (hh:PySem.W.hasDictIn K C=true)
   (hw:PySem.Within mA ns) (hsz:ns.length<=sizeLine)
   (h:∀ h',ObjM h' x dx C (fun y=>if y=name then some v else mA y)->Heap.SameBut dx s.heap h'->Q () { s with heap:=h',toks:=s.toks+2 }) :
   wpAny (model prog w) A (setAttr (.ref x) name v) Q E s:=by
 obtain ⟨od,J,hl⟩:=I.look;refine PySem.W.set_plain X J hs (PySem.W.osa_open (s:={ s with toks:=s.toks+1 }) (r:=none) X J hp ht fun b=>?_);obtain ⟨cd,hc,hd'⟩:=PySem.W.any_some hh;have hx:s.heap.get? x=some ⟨.ref C,some dx,.plain,#[]⟩:=I.obj;refine wpAny_bind (wpAny_pure (wpAny_bind (wpAny_bind (wpAny_loadPart hx (wpAny_bind (PySem.W.Looks.here (s:={ s with toks:=s.toks+1 }) (PySem.W.looks_clsIn X hc) ?_))))));rw [hd'];refine wpAny_pure (a:=some dx) (wpAny_bind (wpAny_pure (wpAny_bind ?_)));refine wpAny_nsSet1 (s:={ s with toks:=s.toks+1 }) I.ns fun h' hn2 hs2=>?_;obtain ⟨oD,esD,epD,hoD,hdD,hcD⟩:=hn2.count (PySem.Within.cons name v hw);refine wpAny_bind (wpAny_lookBehind hoD (by rw [hdD];exact pastItsLine_dict (Nat.le_trans hcD (by rw [List.length_cons];omega))) ?_);exact wpAny_pure (h _ ⟨(hs2.2 _ (Ne.symm I.ne)).trans I.obj,hn2,I.ne⟩ hs2)
theorem OA {R:Result->Shared->Prop} {vs:List Value} {kw:List (Str × Value)} (X:K.In s.heap) (hm:PySem.W.makesIn K C=true)
   (hi:PySem.W.findIn K (.ref C) "__init__"=some (some (.ref f))) (hf:PySem.W.typeIn K (.ref f)=some (.type "function"))
   (h:codeAny (model prog w) (A.under (.builtin "type.__call__" ⟨.ref C::vs,kw⟩)) (.call (.ref f) ⟨.ref (s.heap.objs.size+1)::vs,kw⟩) (PySem.W.InitBack (s.heap.objs.size+1) R)
     { s with heap:=(s.heap.push PySem.W.emptyDict).push (PySem.W.instObj C s.heap.objs.size) }) :
   codeAny (model prog w) A (.call (.ref C) ⟨vs,kw⟩) R s:=by
 obtain ⟨hh,g,d,t,os⟩:=s;exact PySem.W.make_core (PySem.W.makes_of X hm) (PySem.W.looks_findIn X hi) (fun self=>PySem.W.bind_fn X self hf) (.inl rfl) h
end
def aV (f:Str) (v:V):List (Str × V)->List (Str × V)
 | []=>[(f,v)]
 | (g,x)::r=>if g=f then (g,v)::r else (g,x)::aV f v r
theorem bO (f g:Str) (v:V):∀ fs:List (Str × V),(aV f v fs).lookup g=if g=f then some v else fs.lookup g
 | []=>by
   show List.lookup g [(f,v)]=_;by_cases h:g=f
   . have hb:(g == f)=true:=beq_iff_eq.mpr h;simp only [List.lookup,hb,if_pos h]
   . have hb:(g == f)=false:=beq_eq_false_iff_ne.mpr h;simp only [List.lookup,hb,if_neg h]
 | (k,x)::r=>by
   have ih:=bO f g v r;rw [show aV f v ((k,x)::r)=(if k=f then (k,v)::r else (k,x)::aV f v r) from rfl];by_cases hk:k=f
   . rw [if_pos hk];by_cases h:g=k
     . have hb:(g == k)=true:=beq_iff_eq.mpr h;simp only [List.lookup,hb,if_pos (h.trans hk)]
     . have hb:(g == k)=false:=beq_eq_false_iff_ne.mpr h;simp only [List.lookup,hb,if_neg (fun e:g=f=>h (e.trans hk.symm))]
   . rw [if_neg hk];by_cases h:g=k
     . have hb:(g == k)=true:=beq_iff_eq.mpr h;simp only [List.lookup,hb,if_neg (fun e:g=f=>hk (h.symm.trans e))]
     . have hb:(g == k)=false:=beq_eq_false_iff_ne.mpr h;simp only [List.lookup,hb];exact ih
theorem xw (f:Str) (v:V):∀ fs:List (Str × V),f∈(aV f v fs).map (·.1)/\∀ g,g∈fs.map (·.1)->g∈(aV f v fs).map (·.1)
 | []=>⟨by simp [aV],fun g h=>by simp at h⟩
 | (k,x)::r=>by
   obtain ⟨i1,i2⟩:=xw f v r;rw [show aV f v ((k,x)::r)=(if k=f then (k,v)::r else (k,x)::aV f v r) from rfl];by_cases hk:k=f
   . rw [if_pos hk];subst hk;exact ⟨by simp,fun g h=>by simpa using h⟩
   . rw [if_neg hk];refine ⟨?_,fun g h=>?_⟩
     . rw [List.map_cons];exact List.mem_cons_of_mem _ i1
     . rw [List.map_cons] at h ⊢;rcases List.mem_cons.mp h with e|e
       . exact List.mem_cons.mpr (.inl e)
       . exact List.mem_cons_of_mem _ (i2 g e)
theorem yz (f:Str) (v:V):∀ fs:List (Str × V),(aV f v fs).length<=fs.length+1
 | []=>by simp [aV]
 | (k,x)::r=>by
   have ih:=yz f v r;rw [show aV f v ((k,x)::r)=(if k=f then (k,v)::r else (k,x)::aV f v r) from rfl];by_cases hk:k=f
   . rw [if_pos hk,List.length_cons,List.length_cons];omega
   . rw [if_neg hk,List.length_cons,List.length_cons];omega
theorem RelO.some_of {v:V} {o:Option Value} (r:RelO (some v) o):∃ u,o=some u/\RelV v u:=by
 cases o with
 | none=>exact (show False from r).elim
 | some u=>exact ⟨u,rfl,r⟩
theorem LM {v:V} {u:Value} (r:RelV v u):PySem.W.handedIn u=true:=by
 cases v with
 | non=>cases (show u=Value.none from r);rfl
 | bl b=>cases (show u=Value.bool b from r);rfl
 | int i=>obtain ⟨t,e⟩:=(show ∃ t,u=Value.int i t from r);cases e;rfl
 | str x=>obtain ⟨t,e⟩:=(show ∃ t,u=Value.str x t from r);cases e;rfl
 | byt b=>obtain ⟨t,e⟩:=(show ∃ t,u=Value.bytes b t from r);cases e;rfl
 | flt b=>obtain ⟨t,e⟩:=(show ∃ t,u=Value.float b t from r);cases e;rfl
 | ref a=>cases (show u=Value.ref a from r);rfl
 | ty n=>cases (show u=Value.type n from r);rfl
section
variable {P:Program} {w:World} {H H':Hp} {h h':Heap} {a C dx:Addr} {fs fs':List (Str × V)}
theorem HZ (hok:HOk P w H h) (e:H a=some (.ins C dx fs)):∃ mA,ObjM h a dx C mA/\(∀ f,RelO (fs.lookup f) (mA f))/\PySem.Within mA (fs.map (·.1))/\fs.length<=1000/\H dx=some (.own a):=by
 obtain ⟨d,z,ne,ob,mA,n,r,q⟩:=(show ObjOk P w H h a (.ins C dx fs) from hok a _ e);exact ⟨mA,⟨ob,n,ne⟩,r,q,z,d⟩
end
structure Cls (K:PySem.W.Frag) (C:Addr):Prop where
 pg:PySem.W.plainGet K C Str.empty=true
 hd:PySem.W.hasDictIn K C=true
 po:PySem.W.plainOver K C=true
 sa:PySem.W.findIn K (.ref C) "__setattr__"=some (some (.builtin "object.__setattr__"))
theorem Cls.get {K:PySem.W.Frag} {C:Addr} (c:Cls K C) (f:Str):PySem.W.plainGet K C f=true:=c.pg
def NoAttr (K:PySem.W.Frag) (C:Addr) (f:Str):Prop:=PySem.W.findIn K (.ref C) f=some none
theorem NoAttr.taker {K:PySem.W.Frag} {C:Addr} {f:Str} (n:NoAttr K C f):PySem.W.takerIn K C f=some none:=by
 unfold PySem.W.takerIn;rw [show PySem.W.findIn K (.ref C) f=some none from n]
 rfl
section
variable {X:Cx} {pins:List (Addr × Obj)} {σ:St} {H:Hp} {s:Shared} {a C dx:Addr} {fs:List (Str × V)} {f:Str} {v:V} {A:Around} {E:Value->Shared->Prop}
theorem Iz {b:Bool} {Q:Value->Shared->Prop} (I:Inv X pins σ H s) (e:H a=some (.ins C dx fs)) (c:Cls X.K C) (n:NoAttr X.K C f) (l:fs.lookup f=some v)
   (h:∀ u s',Inv X pins σ H s'->RelV v u->Q u s'):wpAny (model X.prog X.w) A (getAttr (.ref a) f b) Q E s:=by
 obtain ⟨mA,O,r,_,_,_⟩:=HZ I.hok e;obtain ⟨u,hu,ru⟩:=RelO.some_of (v:=v) (o:=mA f) (by rw [<- l];exact r f);exact Qy I.kIn O (c.get f) c.hd n hu (LM ru) (h u _ (I.tok _) ru)
theorem Jj {y:V} {u:Value} {Q:Unit->Shared->Prop} (I:Inv X pins σ H s) (e:H a=some (.ins C dx fs)) (c:Cls X.K C) (n:NoAttr X.K C f) (hl:fs.length<1000) (ry:RelV y u)
   (h:∀ s',Inv X pins σ (upd H a (.ins C dx (aV f y fs))) s'->Q () s'):wpAny (model X.prog X.w) A (setAttr (.ref a) f u) Q E s:=by
 obtain ⟨mA,O,r,wi,_,ho⟩:=HZ I.hok e;have hz:(fs.map (·.1)).length<=sizeLine:=by rw [List.length_map,sizeLine_eq];omega
 refine QD I.kIn O c.sa c.po n.taker c.hd wi hz fun h' O' sb=>h _ ?_;have hd:∃ o,h'.get? dx=some o:=let ⟨o,_,_,e',_⟩:=O'.ns;⟨o,e'⟩;refine I.write (x:=a) (e:=dx) (by rw [e];exact True.intro) (.inr ho) (fun b q hb z=>(sb.2 b hb).trans z) hd ?_;refine ⟨by rw [aq O.ne];exact ho,?_,O.ne,O'.obj,_,O'.ns,fun g=>?_,fun g hg=>?_⟩
 . have:=yz f y fs;omega
 . show RelO ((aV f y fs).lookup g) (if g=f then some u else mA g);rw [bO];by_cases q:g=f
   . rw [if_pos q,if_pos q];exact ry
   . rw [if_neg q,if_neg q];exact r g
 . by_cases q:g=f
   . rw [q];exact (xw f y fs).1
   . refine (xw f y fs).2 g (wi g fun z=>hg ?_);show (if g=f then some u else mA g)=none;rw [if_neg q];exact z
theorem Inv.made (I:Inv X pins σ H s):Inv X pins σ (upd (upd H s.heap.objs.size (.own (s.heap.objs.size+1))) (s.heap.objs.size+1) (.ins C s.heap.objs.size []))
   { s with heap:=(s.heap.push PySem.W.emptyDict).push (PySem.W.instObj C s.heap.objs.size) }:=by
 have e1:(s.heap.push PySem.W.emptyDict).get? s.heap.objs.size=some PySem.W.emptyDict:=Heap.get?_push_size s.heap rfl;have e2:((s.heap.push PySem.W.emptyDict).push (PySem.W.instObj C s.heap.objs.size)).get? (s.heap.objs.size+1)=some (PySem.W.instObj C s.heap.objs.size):=by
   have:=Heap.get?_push_size (s.heap.push PySem.W.emptyDict) (o:=PySem.W.instObj C s.heap.objs.size) rfl
   rwa [Heap.size_push] at this
 have e3:(s.heap.push PySem.W.emptyDict).Ns s.heap.objs.size (fun _=>none):=⟨PySem.W.emptyDict,#[],_,e1,rfl,(fun e he=>absurd he (by simp)),fun _=>rfl⟩;have I1:=I.laid (a:=s.heap.objs.size) (o:=.own (s.heap.objs.size+1)) (h':=s.heap.push PySem.W.emptyDict) (t':=s.toks) (fun b u q=>Heap.get?_push_of_some _ q) (Nat.le_refl _) ⟨_,e1⟩;refine I1.laid (a:=s.heap.objs.size+1) (o:=.ins C s.heap.objs.size []) (t':=s.toks) (fun b u q=>Heap.get?_push_of_some _ q) (Nat.le_of_eq (Heap.size_push _ _)) ?_;have ne:s.heap.objs.size≠s.heap.objs.size+1:=Nat.ne_of_lt (Nat.lt_succ_self _);refine ⟨by rw [aq ne,ah],Nat.zero_le _,ne,e2,fun _=>none,(Heap.Ns1.of_empty e3).at fun o q=>Heap.get?_push_of_some _ q,fun _=>True.intro,fun y hy=>absurd rfl hy⟩
theorem Qp {prog:Program} {w:World} {env:Env} {e:Expr} {f:Str} {pos:Pos} {s:Shared} {Q:Value->Shared->Prop} (hb:attributeBase e f env (eval e env)=eval e env)
   (h:wpAny (model prog w) A (eval e env) (fun o s₁=>wpAny (model prog w) A (getAttr o f true) Q E s₁) E s):wpAny (model prog w) A (eval (.Attribute e f pos) env) Q E s :=
 Attribute_any_ h (by rw [arm_eval_Attribute,hb])
end
def OV (K:PySem.W.Frag) (ta:TE) (f:Str):TE:=fun σ H Q=>ta σ H fun x H1=>∃ a C dx fs v,x=.ref a/\H1 a=some (.ins C dx fs)/\Cls K C/\NoAttr K C f/\fs.lookup f=some v/\Q v H1
def Pf (K:PySem.W.Frag) (ta tv:TE) (f:Str):TS:=fun D σ H=>tv σ H fun y H1=>ta σ H1 fun x H2=>∃ a C dx fs,x=.ref a/\H2 a=some (.ins C dx fs)/\Cls K C/\NoAttr K C f/\fs.length<1000 /\
 D.nx σ (upd H2 a (.ins C dx (aV f y fs)))
section
variable {X:Cx} {o e value:Expr} {f:Str} {pos pos' tpos:Pos} {ta tv:TE}
theorem di (he:PE X e ta) (hb:attributeBase e f X.env (eval e X.env)=eval e X.env):PE X (.Attribute e f pos) (OV X.K ta f):=by
 intro pins s σ H Q I h;refine Qp hb (bw (he pins s σ H _ I h) fun u s1 x H1 I1 rx ⟨a,C,dx,fs,v,ex,ea,c,n,l,q⟩=>?_);subst ex;obtain rfl:u=Value.ref a:=rx;exact Iz I1 ea c n l fun u' s2 I2 ru=>⟨v,H1,I2,ru,q⟩
theorem sA (ha:PE X o ta) (hv:PE X value tv) (hs:swapsWith value (some (.Attribute o f pos')) pos.line X.env=pure false):PS X (.Assign [.Attribute o f pos'] value pos) (Pf X.K ta tv f):=by
 intro pins s σ H D I h;refine plainObj_wpAny_Assign_Attribute (bw (hv pins s σ H _ I h) fun u s1 y H1 I1 ry q=>bw (ha pins s1 σ H1 _ I1 q) fun ov s2 x H2 I2 rx ⟨a,C,dx,fs,ex,ea,c,n,l,q2⟩=>?_) hs;subst ex;obtain rfl:ov=Value.ref a:=rx;exact Jj I2 ea c n l ry fun s3 I3=>⟨σ,_,I3,q2⟩
end
section
variable {X:Cx} {pins:List (Addr × Obj)} {σ:St} {H:Hp} {s:Shared} {A:Around} {E:Value->Shared->Prop} {Q:Value->Shared->Prop} {c:Value} {b:Bool}
end
end L2
namespace L2
open PySem PySem.Spec PyProof.Rows
structure Room (k:Nat) (A:Around):Prop where
 hd:A.handled=none
 dp:A.depth+3*k+5<recursionLimit
 un:A.units+16*k+200<cLine
theorem Room.mono {j k:Nat} {A:Around} (r:Room k A) (h:j<=k):Room j A:=⟨r.hd,by have:=r.dp;omega,by have:=r.un;omega⟩
theorem Room.deeper {k:Nat} {A:Around} (r:Room (k+1) A) (env:Env):Room k (A.deeper env) :=
 ⟨r.hd,by have:=r.dp;show A.depth+1+3*k+5<_;omega,by have:=r.un;show A.units+3+16*k+200<_;omega⟩
theorem IZ {A:Around} {C:Addr} {us:List Value} {kw:List (Str × Value)}:(A.under (.builtin "type.__call__" ⟨.ref C::us,kw⟩)).depth=A.depth+1:=by
 first|rfl|simp [Around.under,Code.weight,Code.isCreation,Code.isGuard,Code.isCaller,Code.frames,Code.isFrame,guardIds]
theorem JO {A:Around} {C:Addr} {us:List Value} {kw:List (Str × Value)}:(A.under (.builtin "type.__call__" ⟨.ref C::us,kw⟩)).units=A.units+1:=by
 first|rfl|simp [Around.under,Code.cUnits,Code.frames,Code.isFrame]
theorem Room.make {k:Nat} {A:Around} (r:Room (k+1) A) (C:Addr) (us:List Value) (kw:List (Str × Value)):Room k (A.under (.builtin "type.__call__" ⟨.ref C::us,kw⟩)) :=
 ⟨r.hd,by have:=r.dp;rw [IZ];omega,by have:=r.un;rw [JO];omega⟩
theorem Room.depth {k:Nat} {A:Around} (r:Room k A):A.depth<recursionLimit:=by have:=r.dp;omega
theorem Room.units {k:Nat} {A:Around} (r:Room k A):A.units+64<cLine:=by have:=r.un;omega
def tNil:TA:=fun _ H Q=>Q [] H
def Je (ta:TE) (tr:TA):TA:=fun σ H Q=>ta σ H fun x H1=>tr σ H1 fun xs H2=>Q (x::xs) H2
section
variable {X:Cx} {e:Expr} {es:List Expr} {te:TE} {t:TA} {pos:Pos}
theorem ao:PA X [] tNil:=fun _ _ _ _ H Q I h=>Calls.spliced_nil ⟨[],H,I,.nil,h⟩
theorem ag (ha:PE X e te) (hr:PA X es t) (hs:starEach (e::es) X.env=(false,eval e X.env)::starEach es X.env:=by rfl):PA X (e::es) (Je te t):=by
 intro pos pins s σ H Q I h;rw [hs];show wpAny _ _ (spliced ((false,eval e X.env)::backTo pos (starEach es X.env))) _ _ s;refine Calls.spliced_cons (bw (ha pins s σ H _ I h) fun u s1 x H1 I1 r1 q1=>?_);exact rj (hr pos pins s1 σ H1 _ I1 q1) fun us s2 xs H2 I2 r2 q2=>⟨x::xs,H2,I2,.cons r1 r2,q2⟩
def Nx (t:TA):TE:=fun σ H Q=>t σ H fun xs H1=>xs.length<=sizeLine/\∀ p,H1 p=none->Q (.ref p) (upd H1 p (.tup xs))
def OX (t:TA):TE:=fun σ H Q=>t σ H fun xs H1=>xs.length<=sizeLine/\∀ p,H1 p=none->Q (.ref p) (upd H1 p (.lst xs))
theorem iz {x1} (h:PA X es t):PE X (.Tuple es x1 pos) (Nx t):=by
 intro pins s σ H Q I hq;refine wpAny_Tuple_spliced (rj (h pos pins s σ H _ I hq) fun us s1 xs H1 I1 r ⟨z,q⟩=>⟨by rw [<- r.length];exact z,?_⟩);have hf:H1 s1.heap.objs.size=none:=I1.hok.fresh (Nat.le_refl _);refine ⟨.ref s1.heap.objs.size,upd H1 s1.heap.objs.size (.tup xs),I1.laid (t':=s1.toks) (fun b u e=>Heap.get?_push_of_some _ e) (Nat.le_refl _) ?_,rfl,q _ hf⟩;exact ⟨z,us,r,⟨_,Heap.get?_push_size _ rfl,rfl,_,rfl⟩⟩
theorem eE (h:PA X es t):PE X (.List es pos) (OX t):=by
 intro pins s σ H Q I hq;refine wpAny_List_spliced (rj (h pos pins s σ H _ I hq) fun us s1 xs H1 I1 r ⟨z,q⟩=>⟨by rw [<- r.length];exact z,?_⟩);have hf:H1 s1.heap.objs.size=none:=I1.hok.fresh (Nat.le_refl _);refine ⟨.ref s1.heap.objs.size,upd H1 s1.heap.objs.size (.lst xs),I1.laid (t':=s1.toks) (fun b u e=>Heap.get?_push_of_some _ e) (Nat.le_refl _) ?_,rfl,q _ hf⟩;exact ⟨z,us,0,r,Heap.get?_push_size _ rfl⟩
end
abbrev Sp:=List V->Hp->VK->XK->Prop
abbrev CXT:=List Env->Hp->Shared->XK->Value->Shared->Prop
structure Env0 (P:Program) (w:World) (K:PySem.W.Frag) (mg:Str->Option Value) (base:Heap) (A:Around) (outer:List Env) (s:Shared) (H:Hp):Prop where
 frames:A.frames=some outer
 mod:Mod K mg base
 bs:∀ b o,base.get? b=some o->s.heap.get? b=some o/\H b=none
 bsz:base.objs.size<=s.heap.objs.size
 funs:s.heap.FunFrames base outer
 frf:∀ b∈frs outer,H b=none
 hok:HOk P w H s.heap
 bare:AllBare s.gens
def CE (outer:List Env) (P:Program) (w:World) (H:Hp) (s:Shared) (Q:VK) (u:Value) (s':Shared):Prop :=
 ∃ v H',s'.os=s.os/\AllBare s'.gens/\Un (frs outer) [] H H' s.heap s'.heap/\HOk P w H' s'.heap/\RelV v u/\Q v H'
def CR (CX:CXT) (outer:List Env) (P:Program) (w:World) (H:Hp) (s:Shared) (Q:VK) (E:XK) (r:Result) (s':Shared):Prop :=
 match r with
 | .ok (.ret u)=>CE outer P w H s Q u s'
 | .ok _=>False
 | .error e=>CX outer H s E e s'
structure FnOk (P:Program) (w:World) (K:PySem.W.Frag) (mg:Str->Option Value) (base:Heap) (CX:CXT) (k:Nat) (f:Addr) (fd:FuncData) (ps:List Str) (sp:Sp):Prop where
 len:∀ vs H Q E,sp vs H Q E->vs.length=ps.length
 run:∀ (A:Around) (outer:List Env) (s:Shared) (H:Hp) (args:Args) (us:List Value) (vs:List V) (Q:VK) (E:XK),Room k A->Env0 P w K mg base A outer s H->BindsTo s fd args (ps.zip us)->Vals vs us->sp vs H Q E ->
   codeAny (model P w) A (.call (.ref f) args) (CR CX outer P w H s Q E) s
theorem Env0.make {P:Program} {w:World} {K:PySem.W.Frag} {mg:Str->Option Value} {base:Heap} {A:Around} {outer:List Env} {s:Shared} {H:Hp} (e:Env0 P w K mg base A outer s H) (C:Addr) (us:List Value) (kw:List (Str × Value)) :
   Env0 P w K mg base (A.under (.builtin "type.__call__" ⟨.ref C::us,kw⟩)) outer s H:=⟨by first|exact e.frames|(simpa [Around.under,Code.envs,Code.isFrame,pushEnvs] using e.frames),e.mod,e.bs,e.bsz,e.funs,e.frf,e.hok,e.bare⟩
section
variable {X:Cx} {pins:List (Addr × Obj)} {σ:St} {H:Hp} {s s':Shared}
theorem Inv.env0 (I:Inv X pins σ H s):Env0 X.prog X.w X.K X.mg X.base X.A X.stack s H :=
 ⟨I.ok.frames,I.ok.mod,I.bs,Nat.le_trans I.ok.bsz I.sz,I.stack,I.stkFree,I.hok,I.bare⟩
theorem Inv.after {Q:VK} {u:Value} (I:Inv X pins σ H s) (h:CE X.stack X.prog X.w H s Q u s'):EP X pins σ Q u s':=by
 obtain ⟨v,H',os,bare,un,hok,r,q⟩:=h;obtain ⟨hh,g,d,t,os'⟩:=s';obtain rfl:os'=s.os:=os;exact ⟨v,H',I.call (h':=hh) (g':=g) (d':=d) (t':=t) (ch:=[]) un hok bare (fun b z=>absurd z (by simp)),r,q⟩
end
def IL (sp:Sp) (dvs:List V) (E:XK) (t:TA):TE:=fun σ H Q=>t σ H fun vs H1=>sp (vs++dvs) H1 Q E
def IM (C:Addr) (sp:Sp) (dvs:List V) (E:XK) (t:TA):TE:=fun σ H Q=>t σ H fun vs H1=>∀ x dx,H1 x=none->H1 dx=none->dx≠x ->
 sp (.ref x::(vs++dvs)) (upd (upd H1 dx (.own x)) x (.ins C dx [])) (fun v H2=>v=.non/\Q (.ref x) H2) E
def Binds (K:PySem.W.Frag) (fd:FuncData) (ps:List Str) (ds:List Value):Prop :=
 ∀ (s:Shared) (us:List Value),K.In s.heap->(us++ds).length=ps.length->BindsTo s fd ⟨us,[]⟩ (ps.zip (us++ds))
theorem Binds.all {K:PySem.W.Frag} {fd:FuncData} {ps:List Str} (h:∀ us:List Value,us.length=ps.length->bindArgs fd ⟨us,[]⟩=pure (ps.zip us)):Binds K fd ps []:=fun s us _ hl=>by
 rw [List.append_nil] at hl ⊢;exact .of_eq (h us hl)
def rZ (CX:CXT) (X:Cx) (E:XK):Prop:=∀ (pins:List (Addr × Obj)) (σ:St) (H:Hp) (s:Shared) (e:Value) (s':Shared),Inv X pins σ H s->CX X.stack H s E e s'->X.xe e s'
section
variable {X:Cx} {CX:CXT} {k:Nat} {f C:Addr} {fd:FuncData} {ps:List Str} {sp:Sp} {dvs:List V} {ds:List Value} {E:XK} {x m:Str} {p pos apos:Pos} {e o:Expr} {es:List Expr} {ta:TE} {t:TA}
theorem R8 {pins:List (Addr × Obj)} {σ:St} {H:Hp} {s:Shared} {Q:VK} {us:List Value} {vs:List V} (F:FnOk X.prog X.w X.K X.mg X.base CX k f fd ps sp) (hr:Room k X.A) (hb:Binds X.K fd ps ds) (hd:Vals dvs ds) (hx:rZ CX X E)
   (I:Inv X pins σ H s) (r:Vals vs us) (h:sp (vs++dvs) H Q E):wpAny (model X.prog X.w) X.A (call (.ref f) us) (EP X pins σ Q) X.xe s:=by
 have r2:Vals (vs++dvs) (us++ds):=r.append hd;have hl:(us++ds).length=ps.length:=by rw [<- r2.length];exact F.len _ _ _ _ h
 refine wpAny_call (codeAny_mono (F.run X.A X.stack s H ⟨us,[]⟩ (us++ds) (vs++dvs) Q E hr I.env0 (hb s us I.kIn hl) r2 h) fun r s' hq=>?_);cases r with
 | error e=>exact hx pins σ H s e s' I hq
 | ok fl =>
   cases fl with
   | ret u=>exact I.after hq
   | next=>exact False.elim hq
   | brk=>exact False.elim hq
   | cont=>exact False.elim hq
theorem ax (F:FnOk X.prog X.w X.K X.mg X.base CX k f fd ps sp) (hr:Room k X.A) (hg:Gl X x) (hm:X.mg x=some (.ref f)) (hk:PySem.W.keepIn X.K (.ref f)=true) (hb:Binds X.K fd ps ds) (hd:Vals dvs ds) (hx:rZ CX X E)
   (ha:PA X (e::es) t) (hdb:(x == ("__debug__":Str))=false:=by decide) (he:starEach (e::es) X.env=(false,eval e X.env)::starEach es X.env:=by rfl) (hpl:(backTo pos (starEach es X.env)).any (·.1)=false:=by rfl) :
   PE X (.Call (.Name x p) (e::es) [] pos) (IL sp dvs E t):=by
 intro pins s σ H Q I h;refine wpAny_Call_Name_kw (yd I hg hm ?_ hdb);refine PySem.W.callWith_K (h₀:=X.base) I.ok.mod.kin hk (rj (ha pos pins s σ H _ I h) fun us s1 vs H1 I1 r q=>⟨I1.kIn,?_⟩) he hpl;exact R8 F hr hb hd hx I1 r q
structure Mk (K:PySem.W.Frag) (C f:Addr):Prop where
 makes:PySem.W.makesIn K C=true
 init:PySem.W.findIn K (.ref C) "__init__"=some (some (.ref f))
 fn:PySem.W.isFn K (.ref f)=true
 kp:PySem.W.keepIn K (.ref C)=true
theorem OP {pins:List (Addr × Obj)} {σ:St} {H:Hp} {s:Shared} {Q:VK} {us:List Value} {vs:List V} (M:Mk X.K C f) (F:FnOk X.prog X.w X.K X.mg X.base CX k f fd ps sp) (hr:Room (k+1) X.A) (hb:Binds X.K fd ps ds) (hd:Vals dvs ds)
   (hx:rZ CX X E) (I:Inv X pins σ H s) (r:Vals vs us)
   (h:∀ x dx,H x=none->H dx=none->dx≠x->sp (.ref x::(vs++dvs)) (upd (upd H dx (.own x)) x (.ins C dx [])) (fun v H2=>v=.non/\Q (.ref x) H2) E) :
   wpAny (model X.prog X.w) X.A (call (.ref C) us) (EP X pins σ Q) X.xe s:=by
 have hq:=h (s.heap.objs.size+1) s.heap.objs.size (I.hok.fresh (Nat.le_succ _)) (I.hok.fresh (Nat.le_refl _)) (Nat.ne_of_lt (Nat.lt_succ_self _));have I2:=Inv.made (C:=C) I;have r2:Vals (V.ref (s.heap.objs.size+1)::(vs++dvs)) (Value.ref (s.heap.objs.size+1)::(us++ds)):=.cons rfl (r.append hd);have hl:(Value.ref (s.heap.objs.size+1)::us++ds).length=ps.length:=by
   have e:=r2.length;rw [F.len _ _ _ _ hq] at e;exact e.symm
 refine wpAny_call (OA (f:=f) I.kIn M.makes M.init (beq_iff_eq.mp M.fn) (codeAny_mono (F.run _ X.stack _ _ ⟨Value.ref (s.heap.objs.size+1)::us,[]⟩ (Value.ref (s.heap.objs.size+1)::(us++ds)) _ _ E (hr.make C us [])
   (I2.env0.make C us []) (hb _ (Value.ref (s.heap.objs.size+1)::us) I2.kIn hl) r2 hq) fun r s' hq'=>?_))
 cases r with
 | error e=>exact hx pins σ _ _ e s' I2 hq'
 | ok fl =>
   cases fl with
   | ret u =>
     obtain ⟨v,H',I3,rv,ev,q3⟩:=I2.after hq';subst ev;exact ⟨rv,⟨V.ref (s.heap.objs.size+1),H',I3,rfl,q3⟩⟩
   | next=>exact False.elim hq'
   | brk=>exact False.elim hq'
   | cont=>exact False.elim hq'
theorem Ha (M:Mk X.K C f) (F:FnOk X.prog X.w X.K X.mg X.base CX k f fd ps sp) (hr:Room (k+1) X.A) (hg:Gl X x) (hm:X.mg x=some (.ref C)) (hb:Binds X.K fd ps ds) (hd:Vals dvs ds) (hx:rZ CX X E)
   (ha:PA X (e::es) t) (hdb:(x == ("__debug__":Str))=false:=by decide) (he:starEach (e::es) X.env=(false,eval e X.env)::starEach es X.env:=by rfl) (hpl:(backTo pos (starEach es X.env)).any (·.1)=false:=by rfl) :
   PE X (.Call (.Name x p) (e::es) [] pos) (IM C sp dvs E t):=by
 intro pins s σ H Q I h;refine wpAny_Call_Name_kw (yd I hg hm ?_ hdb);refine PySem.W.callWith_K (h₀:=X.base) I.ok.mod.kin M.kp (rj (ha pos pins s σ H _ I h) fun us s1 vs H1 I1 r q=>⟨I1.kIn,?_⟩) he hpl;exact OP M F hr hb hd hx I1 r q
end
section
variable {X:Cx} {CX:CXT} {k:Nat} {f C:Addr} {fd:FuncData} {ps ks:List Str} {sp:Sp} {E:XK} {x m:Str} {p pos apos kpos:Pos} {e o:Expr} {es:List Expr} {kws:List Keyword} {te ta:TE} {t tk:TA} {nm:Option Str}
variable {g:List Value->List Value->List Value} {gV:List V->List V->List V}
end
structure FnScope (N P:List Str) (sc:Scope):Prop where
 kind:sc.kind=.function
 co:sc.isCoroutine=false
 gen:sc.isGenerator=false
 nd:N.Nodup
 pre:N.take P.length=P
 par:∀ x∈P,sc.names.lookup x=some .local\/sc.names.lookup x=some .cell
 nofree:∀ y∈sc.names,y.2≠.free
theorem CD {kindOf:Str->Option NameKind} {x:Str}:∀ {binds:List (Str × Value)} {m:Str->Option Value},(∀ v,(x,v) ∉ binds)->bindL kindOf binds m x=m x
 | [],_,_=>rfl
 | (n,v)::r,m,h=>by
   unfold bindL;rw [CD fun w hw=>h w (List.mem_cons_of_mem _ hw)];split
   . have:x≠n:=(by rintro rfl;exact h v List.mem_cons_self);simp [this]
   . rfl
theorem CV {kindOf:Str->Option NameKind} {x:Str}:∀ {binds:List (Str × Value)} {m:Str->Option Value},(∀ v,(x,v) ∉ binds)->bindC kindOf binds m x=m x
 | [],_,_=>rfl
 | (n,v)::r,m,h=>by
   unfold bindC;rw [CV fun w hw=>h w (List.mem_cons_of_mem _ hw)];split
   . rfl
   . have:x≠n:=(by rintro rfl;exact h v List.mem_cons_self);simp [this]
theorem CC {kindOf:Str->Option NameKind} {x:Str} {v:Value}:∀ {P:List Str} {vs:List Value} {i:Nat} {m:Str->Option Value},P.Nodup->P[i]?=some x->vs[i]?=some v->kindOf x=some .local ->
   bindL kindOf (P.zip vs) m x=some v
 | [],_,_,_,_,h,_,_=>by simp at h
 | _::_,[],_,_,_,_,h,_=>by simp at h
 | p::P,w::vs,0,m,nd,h1,h2,hk=>by
   simp at h1 h2;subst h1;subst h2;show bindL kindOf ((p,w)::P.zip vs) m p=_;unfold bindL;rw [CD fun v hv=>(List.nodup_cons.mp nd).1 (List.of_mem_zip hv).1,if_pos hk];simp
 | p::P,w::vs,i+1,m,nd,h1,h2,hk=>by
   show bindL kindOf ((p,w)::P.zip vs) m x=_;unfold bindL;exact CC (i:=i) (List.nodup_cons.mp nd).2 (by simpa using h1) (by simpa using h2) hk
theorem C3 {kindOf:Str->Option NameKind} {x:Str} {v:Value}:∀ {P:List Str} {vs:List Value} {i:Nat} {m:Str->Option Value},P.Nodup->P[i]?=some x->vs[i]?=some v->kindOf x≠some .local ->
   bindC kindOf (P.zip vs) m x=some v
 | [],_,_,_,_,h,_,_=>by simp at h
 | _::_,[],_,_,_,_,h,_=>by simp at h
 | p::P,w::vs,0,m,nd,h1,h2,hk=>by
   simp at h1 h2;subst h1;subst h2;show bindC kindOf ((p,w)::P.zip vs) m p=_;unfold bindC;rw [CV fun v hv=>(List.nodup_cons.mp nd).1 (List.of_mem_zip hv).1,if_neg hk];simp
 | p::P,w::vs,i+1,m,nd,h1,h2,hk=>by
   show bindC kindOf ((p,w)::P.zip vs) m x=_;unfold bindC;exact C3 (i:=i) (List.nodup_cons.mp nd).2 (by simpa using h1) (by simpa using h2) hk
def start (N:List Str) (vs:List V):St:=vs.map some++List.replicate (N.length - vs.length) none
def nM (CX:CXT) (P:Program) (w:World) (K:PySem.W.Frag) (mg:Str->Option Value) (base:Heap) (N:List Str) (qual:Str) (scope:Scope) (f:Addr) (cd:Value) (A:Around) (outer:List Env) (s:Shared) (H:Hp) (E:XK):Cx where
 prog:=P
 w:=w
 K:=K
 mg:=mg
 base:=base
 A:=A.deeper (envOfC qual scope s.heap.objs.size f cd)
 N:=N
 s₀:=s
 H₀:=H
 env:=envOfC qual scope s.heap.objs.size f cd
 outer:=outer
 stack:=envOfC qual scope s.heap.objs.size f cd::outer
 ex:=[]
 calm:=true
 fn:=fun _=>true
 pn:=[]
 xe:=fun e s'=>wpAny (model P w) (A.deeper (envOfC qual scope s.heap.objs.size f cd)) (leaving (envOfC qual scope s.heap.objs.size f cd) e) (fun _ s''=>CX outer H s E e s'') (fun e' s''=>CX outer H s E e' s'') s'
theorem kf {sc:Scope} {n:Nat} {x:Str} (h:sc.names.lookup x=some .cell):∃ c,(cellsFrom n sc.names []).lookup x=some c:=by
 have q:=PySem.W.cellsFrom_some sc.names n [] (.inl h);exact Option.isSome_iff_exists.mp q
theorem Lk {CX:CXT} {P:Program} {w:World} {K:PySem.W.Frag} {mg:Str->Option Value} {base:Heap} {N ps:List Str} {qual:Str} {scope:Scope} {f:Addr} {cd:Value} {A:Around} {outer:List Env} {s s1:Shared} {H:Hp} {E:XK} {us:List Value} {vs:List V}
   (S:FnScope N ps scope) (hd:A.handled=none) (e0:Env0 P w K mg base A outer s H) (hl:vs.length=ps.length) (r:Vals vs us)
   (x:InCallC s s.heap.objs.size (bindL (envOfC qual scope s.heap.objs.size f cd).kindOf (ps.zip us) fun _=>none) (cellsFrom (s.heap.objs.size+1) scope.names []) (bindC (envOfC qual scope s.heap.objs.size f cd).kindOf (ps.zip us) fun _=>none) s1) :
   Inv (nM CX P w K mg base N qual scope f cd A outer s H E) [] (start N vs) H s1:=by
 have hpl:ps.length<=N.length:=by have:=congrArg List.length S.pre;rw [List.length_take] at this;omega
 obtain ⟨h1,tk,rfl,hk⟩:=x.done;have noA:∀ b:Addr,b ∉ (nM CX P w K mg base N qual scope f cd A outer s H E).ex:=fun b z=>absurd (show b∈([]:List Addr) from z) (by simp);refine ⟨⟨e0.mod,S.kind,rfl,rfl,Nat.le_refl _,fun y z c h1 h2=>?_,fun y hy=>?_,fun y c _ h=>?_,fun _=>hd,Around.frames_deeper e0.frames,.inr ⟨rfl,rfl⟩,fun b z=>absurd z (noA b),e0.bs,e0.bsz,fun b _ _=>noA b,fun b z=>absurd z (noA b),e0.funs,e0.frf⟩,
   rfl,e0.bare,Un.kept hk,⟨_,x.toInCall.ns,fun i y v h1 h2 h3=>?_⟩,fun y c h=>⟨_,x.cell y c h⟩,e0.hok.fresh (Nat.le_refl _),fun y c h=>?_,fun p hp=>absurd (show p∈([]:List (Addr × Obj)) from hp) (by simp),e0.hok.kept hk,?_⟩
 . exact name_of_addr x.apart (PySem.mem_of_lookup h1) (PySem.mem_of_lookup h2)
 . have hy:scope.names.lookup y=some .cell\/scope.names.lookup y=some .free:=hy;rcases hy with hy|hy
   . exact kf hy
   . exact absurd rfl (S.nofree _ (PySem.mem_of_lookup hy))
 . exact Nat.le_of_lt (x.above y c (PySem.mem_of_lookup h))
 . have hi:i<vs.length:=by
     unfold start at h2;by_cases hi:i<vs.length
     . exact hi
     . rw [List.getElem?_append_right (by simpa using hi)] at h2;rw [List.getElem?_replicate] at h2;split at h2 <;> cases h2
   have ha:vs[i]?=some v:=by
     unfold start at h2;rw [List.getElem?_append_left (by simpa using hi),List.getElem?_map] at h2;cases e:vs[i]? with
     | none=>rw [e] at h2;cases h2
     | some a=>rw [e] at h2;cases h2;rfl
   obtain ⟨u,hu,rv⟩:=r.get ha;have hp:ps[i]?=some y:=by
     rw [<- S.pre,List.getElem?_take_of_lt (by omega)];exact h1
   have ndP:ps.Nodup:=by rw [<- S.pre];exact S.nd.sublist (List.take_sublist _ _)
   refine ⟨u,rv,?_⟩;rcases S.par y (List.mem_of_getElem? hp) with k|k
   . exact .inl ⟨k,CC ndP hp hu k⟩
   . obtain ⟨c,e⟩:=kf (n:=s.heap.objs.size+1) k;refine .inr ⟨.inl k,c,e,?_⟩;have q:=x.cell y c e;rw [C3 ndP hp hu (by show scope.names.lookup y≠_;rw [k];decide)] at q;exact q
 . exact e0.hok.fresh (Nat.le_of_lt (x.above y c (PySem.mem_of_lookup h)))
 . unfold start;show _=N.length;rw [List.length_append,List.length_map,List.length_replicate];omega
theorem Py {CX:CXT} {P:Program} {w:World} {K:PySem.W.Frag} {mg:Str->Option Value} {base:Heap} {k:Nat} {f:Addr} {name qual:Str} {params:Arguments} {body:List Stmt} {scope:Scope} {dV kV doc pm cdv ct oc:Value} {an od:Option Addr}
   {osl:Array (Option Value)} {N ps:List Str} {sp:Sp} (lk:K.lookup f=some ⟨oc,od,.func (PySem.W.fnOf name qual params body scope dV kV doc pm an cdv ct),osl⟩) (hcd:PySem.W.codeIn K cdv qual=true) (S:FnScope N ps scope)
   (len:∀ vs H Q E,sp vs H Q E->vs.length=ps.length)
   (hbody:∀ (A:Around) (outer:List Env) (s:Shared) (H:Hp) (vs:List V) (Q:VK) (E:XK),Room k (A.deeper (envOfC qual scope s.heap.objs.size f cdv))->sp vs H Q E ->
     ∃ t,PSs (nM CX P w K mg base N qual scope f cdv A outer s H E) body t/\t { nx:=fun _ H'=>Q .non H',rt:=Q } (start N vs) H) :
   FnOk P w K mg base CX (k+1) f (PySem.W.fnOf name qual params body scope dV kV doc pm an cdv ct) ps sp:=by
 refine ⟨len,fun A outer s H args us vs Q E hr e0 hb r hsp=>?_⟩;have hl:=len _ _ _ _ hsp;have KX:K.In s.heap:=e0.mod.kin.keeps fun b o e=>(e0.bs b o e).1;have lim:s.heap.NoLimit:=e0.mod.nolimit.keeps fun b o e=>(e0.bs b o e).1;have hkind:∀ y∈ps.zip us,scope.names.lookup y.1=some .local\/(scope.names.lookup y.1=some .cell/\((cellsFrom (s.heap.objs.size+1) scope.names []).lookup y.1).isSome=true):=fun ⟨n,v⟩ hy=>by
   rcases S.par n (List.of_mem_zip hy).1 with q|q
   . exact .inl q
   . exact .inr ⟨q,PySem.W.cellsFrom_some _ _ _ (.inl q)⟩
 refine codeAny_call_function hr.depth (KX _ _ lk) rfl S.co S.gen rfl (PySem.W.codeRec_of KX hcd) (hb _ _ _ _ ?_);refine wpAny_newFunctionEnv_cells S.kind hkind fun env he s1 x=>?_;subst he;refine ⟨lim.keeps x.toInCall.keep,codeAny_func ?_⟩;obtain ⟨t,ht,hq⟩:=hbody A outer s H vs Q E (hr.deeper _) hsp;have I:Inv (nM CX P w K mg base N qual scope f cdv A outer s H E) [] (start N vs) H s1:=Lk S hr.hd e0 hl r x;refine wpAny_mono (ht [] s1 (start N vs) H _ I hq) (fun fl s' hs=>?_) fun e s' hs=>hs;have fin:∀ {σ':St} {H':Hp} {v:V} {u:Value},Inv (nM CX P w K mg base N qual scope f cdv A outer s H E) [] σ' H' s'->RelV v u->Q v H'->CE outer P w H s Q u s' :=
   fun {σ' H' v u} J rv q=>⟨v,H',J.os,J.bare,J.base,J.hok,rv,q⟩
 cases fl with
 | ret u =>
   obtain ⟨v,σ',H',J,rv,q⟩:=hs;exact fin J rv q
 | next =>
   obtain ⟨σ',H',J,q⟩:=hs;exact fin (v:=V.non) (u:=Value.none) J rfl q
 | brk =>
   obtain ⟨_,_,_,q⟩:=hs;exact False.elim q
 | cont =>
   obtain ⟨_,_,_,q⟩:=hs;exact False.elim q
end L2
namespace L2
open PySem PySem.Spec PyProof.Rows
section
variable {X:Cx} {x:Str} {p pos:Pos} {e:Expr} {es:List Expr} {t:TA} {id T:String} {r:List V->Hp->VK->Prop}
def tCB (r:List V->Hp->VK->Prop) (t:TA):TE:=fun σ H Q=>t σ H fun vs H1=>r vs H1 Q
theorem cJ (hc:jM X (.builtin id) r) (hg:Gl X x) (hm:X.mg x=none) (hv:bootBuiltins x=some (.builtin id)) (ha:PA X (e::es) t) (hn:x≠"__name__":=by decide) (hdb:(x == ("__debug__":Str))=false:=by decide)
   (he:starEach (e::es) X.env=(false,eval e X.env)::starEach es X.env:=by rfl) (hpl:(backTo pos (starEach es X.env)).any (·.1)=false:=by rfl):PE X (.Call (.Name x p) (e::es) [] pos) (tCB r t):=by
 intro pins s σ H Q I h;refine wpAny_Call_Name_kw (oZ I hg hm hv ?_ hn hdb);exact PyProof.Rows.callWith_builtin1 (rj (ha pos pins s σ H _ I h) fun us s1 vs H1 I1 r1 q1=>hc pins s1 σ H1 vs us Q I1 r1 q1) he hpl
theorem jl (hc:jM X (.type T) r) (hg:Gl X x) (hm:X.mg x=none) (hv:bootBuiltins x=some (.type T)) (ha:PA X (e::es) t) (hn:x≠"__name__":=by decide) (hdb:(x == ("__debug__":Str))=false:=by decide)
   (he:starEach (e::es) X.env=(false,eval e X.env)::starEach es X.env:=by rfl) (hpl:(backTo pos (starEach es X.env)).any (·.1)=false:=by rfl):PE X (.Call (.Name x p) (e::es) [] pos) (tCB r t):=by
 intro pins s σ H Q I h;refine wpAny_Call_Name_kw (oZ I hg hm hv ?_ hn hdb);exact PyProof.Rows.callWith_type1 (rj (ha pos pins s σ H _ I h) fun us s1 vs H1 I1 r1 q1=>hc pins s1 σ H1 vs us Q I1 r1 q1) he hpl
end
end L2
namespace HT
open PySem PyProof.Rows
section
open PySem.SeqAt
open PySem.AutoSeq1 (wpAny_loadPart')
open PySem.MeetsSeq PySem.MeetsSeq2 PySem.MeetsSeq3
end
section
variable {prog:Program} {w:World} {A:Around} {E:Value->Shared->Prop} {s:Shared}
end
end HT
namespace L2
open PySem PySem.Spec PyProof.Rows
abbrev TO:=St->Hp->(Option Int->Hp->Prop)->Prop
def PO (X:Cx) (e:Option Expr) (t:TO):Prop :=
 ∀ (pins:List (Addr × Obj)) (s:Shared) (σ:St) (H:Hp) (Q:Option Int->Hp->Prop),Inv X pins σ H s->t σ H Q ->
   wpAny (model X.prog X.w) X.A (evalPart e X.env) (fun u s'=>∃ o H',Inv X pins σ H' s'/\IsPart u o/\Q o H') X.xe s
section
variable {X:Cx} {e:Expr} {te:TE} {lo hi:Option Expr} {tl th:TO} {pos p2:Pos}
end
end L2
namespace L2
open PySem PySem.Spec PyProof.Rows
def ixN (n:Nat) (i:Int):Option Nat:=if 0<=i then (if i<n then some i.toNat else none) else if -(n:Int)<=i then some (i+n).toNat else none
def atI {α:Type} (xs:List α) (i:Int):Option α:=(ixN xs.length i).bind fun j=>xs[j]?
theorem Hw {n:Nat} {i:Int} {j:Nat} (h:ixN n i=some j):seqIndex? i n=some j/\j<n/\-(n:Int)<=i/\i<n:=by
 unfold ixN at h;by_cases h0:0<=i
 . rw [if_pos h0] at h;by_cases h1:i<n
   . rw [if_pos h1] at h;have e:i.toNat=j:=Option.some.inj h;exact ⟨by rw [seqIndex_of h0 h1,e],by omega,by omega,h1⟩
   . rw [if_neg h1] at h;cases h
 . rw [if_neg h0] at h;by_cases h1:-(n:Int)<=i
   . rw [if_pos h1] at h;have e:(i+n).toNat=j:=Option.some.inj h;exact ⟨by rw [seqIndex_neg (by omega) h1,e],by omega,h1,by omega⟩
   . rw [if_neg h1] at h;cases h
theorem BD {α:Type} {xs:List α} {i:Int} {v:α} (h:atI xs i=some v):∃ j,seqIndex? i xs.length=some j/\xs[j]?=some v/\j<xs.length/\-(xs.length:Int)<=i/\i<xs.length:=by
 unfold atI at h;cases e:ixN xs.length i with
 | none=>rw [e] at h;cases h
 | some j =>
   rw [e] at h;obtain ⟨h1,h2,h3,h4⟩:=Hw e;exact ⟨j,h1,h,h2,h3,h4⟩
theorem HA {α:Type} {xs:List α} {j:Nat} {v:α} (h:xs[j]?=some v):atI xs (j:Int)=some v:=by
 have hj:j<xs.length:=(List.getElem?_eq_some_iff.mp h).1;have e:ixN xs.length (j:Int)=some j:=by
   unfold ixN;rw [if_pos (by omega),if_pos (by omega)];simp
 unfold atI;rw [e];exact h
def P2 (b:Expr):Prop:=∀ o i,subscripted b false o i=operate [o,i] (getItem o i)
def IxR (X:Cx) (r:R2):Prop :=
 ∀ (value slice:Expr) (pins:List (Addr × Obj)) (s:Shared) (σ:St) (H:Hp) (x y:V) (v u:Value) (Q:VK),Inv X pins σ H s->RelV x v->RelV y u->r x y H Q ->
   subscripted slice false v u=operate [v,u] (getItem v u)->wpAny (model X.prog X.w) X.A (subscriptTail value slice v u) (EP X pins σ Q) X.xe s
def MtR (X:Cx) (id:String) (r:V->List V->Hp->VK->Prop):Prop :=
 ∀ (pins:List (Addr × Obj)) (s:Shared) (σ:St) (H:Hp) (x:V) (xs:List V) (v:Value) (us:List Value) (Q:VK),Inv X pins σ H s->RelV x v->Vals xs us->r x xs H Q ->
   wpAny (model X.prog X.w) X.A (call (.builtin id) (v::us)) (EP X pins σ Q) X.xe s
section
variable {X:Cx} {a b:Expr} {ta tb:TE} {pos:Pos}
theorem bi {r:R2} (hr:IxR X r) (ha:PE X a ta) (hb:PE X b tb) (hs:P2 b):PE X (.Subscript a b pos) (tOp r ta tb):=by
 intro pins s σ H Q I h;exact Subscript_ (Ml ha hb I h fun v u s2 x y H2 I2 rx ry q=>hr a b pins s2 σ H2 x y v u Q I2 rx ry q (hs _ _))
def Eb (K:PySem.W.Frag):R2:=fun x y H Q=>∃ p xs i v,x=.ref p/\y=.int i/\SqL K H p xs/\atI xs i=some v/\Q v H
def R0 (K:PySem.W.Frag):R2:=fun x y H Q=>∃ p xs i v,x=.ref p/\y=.int i/\SqT K H p xs/\atI xs i=some v/\Q v H
theorem bg:IxR X (Eb X.K):=by
 intro value slice pins s σ H x y v u Q I rx ry h hs;obtain ⟨p,xs,i,z,rfl,rfl,hq,he,q⟩:=h;cases rx;obtain ⟨t,rfl⟩:=ry;obtain ⟨its,r,pl,hz⟩:=I.list hq;obtain ⟨j,h1,h2,h3,h4,h5⟩:=BD he;obtain ⟨w,ew,rw'⟩:=r.get h2;have hl:=r.length;have hn:=pQ;have fin:EP X pins σ Q w s:=⟨z,H,I,rw',q⟩;by_cases h0:0<=i
 . have hj:i.toNat=j:=by
     rw [seqIndex_of h0 h5] at h1;exact Option.some.inj h1
   exact item_listR pl.isList h0 (by omega) (by rw [hj];simpa using ew) fin hs
 . have hj:(i+(its.toArray.size:Int)).toNat=j:=by
     rw [seqIndex_neg (by omega) h4] at h1;rw [List.size_toArray,<- hl];exact Option.some.inj h1
   exact subscriptTail_builtinR (x:=w) pl.isList.typeIs slot_list_getitem.lookup
     (wpAny_getItem_list_neg (Q:=fun r s'=>r=w/\EP X pins σ Q r s') pl.isList (by omega) (by rw [List.size_toArray] <;> omega) (by omega) (by rw [hj];simpa using ew) ⟨rfl,fin⟩) hs
theorem jE:IxR X (R0 X.K):=by
 intro value slice pins s σ H x y v u Q I rx ry h hs;obtain ⟨p,xs,i,z,rfl,rfl,hq,he,q⟩:=h;cases rx;obtain ⟨t,rfl⟩:=ry;obtain ⟨its,r,pl,hz⟩:=I.tuple hq;obtain ⟨j,h1,h2,h3,h4,h5⟩:=BD he;obtain ⟨w,ew,rw'⟩:=r.get h2;have hl:=r.length;have hn:=pQ;have fin:EP X pins σ Q w s:=⟨z,H,I,rw',q⟩;exact subscriptTail_builtinR (x:=w) pl.typeIs slot_tuple_getitem.lookup
   (getItem_tuple (j:=j) (Q:=fun r s'=>r=w/\EP X pins σ Q r s') pl (by omega) (by omega) (by rw [List.size_toArray,<- hl];exact h1) (by simpa using ew) ⟨rfl,fin⟩) hs
theorem I0 (its:List Value) (n j:Nat) (u:Value):Obj.mapSeq (·.setIfInBounds j u) { cls:=.type "list",data:=.seq its.toArray n }={ cls:=.type "list",data:=.seq (its.set j u).toArray n }:=by
 simp [Obj.mapSeq]
theorem Inv.lst {pins:List (Addr × Obj)} {σ:St} {H:Hp} {s:Shared} {p:Addr} {xs:List V} (I:Inv X pins σ H s) (h:H p=some (.lst xs)) :
   ∃ (its:List Value) (n:Nat),Vals xs its/\s.heap.get? p=some { cls:=.type "list",data:=.seq its.toArray n }/\xs.length<=sizeLine:=by
 obtain ⟨z,its,n,r,e⟩:=I.hok p _ h;exact ⟨its,n,r,e,z⟩
theorem Inv.lstUpd {pins:List (Addr × Obj)} {σ:St} {H:Hp} {s:Shared} {p:Addr} {xs ys:List V} {its its':List Value} {n n':Nat} {f:Obj->Obj} (I:Inv X pins σ H s) (h:H p=some (.lst xs))
   (ho:s.heap.get? p=some { cls:=.type "list",data:=.seq its.toArray n }) (hf:f { cls:=.type "list",data:=.seq its.toArray n }={ cls:=.type "list",data:=.seq its'.toArray n' }) (r:Vals ys its') (hz:ys.length<=sizeLine) (t:Nat) :
   Inv X pins σ (upd H p (.lst ys)) { s with heap:=s.heap.update p f,toks:=t }:=by
 have e:(s.heap.update p f).get? p=some { cls:=.type "list",data:=.seq its'.toArray n' }:=by
   rw [Heap.get?_update_self f ho (by rw [hf] <;> rfl),hf]
 refine I.write (x:=p) (e:=p) (by rw [h];trivial) (.inl rfl) (fun b u hb q=>(Heap.get?_update_other _ _ (Ne.symm hb)).trans q) ⟨_,e⟩ ?_;exact ⟨hz,its',n',r,e⟩
def rSetL:V->V->V->Hp->(Hp->Prop)->Prop:=fun o i v H Q=>∃ p xs k j,o=.ref p/\i=.int k/\H p=some (.lst xs)/\ixN xs.length k=some j/\Q (upd H p (.lst (xs.set j v)))
theorem gd:MQ X rSetL:=by
 intro pins s σ H o i v ov iv u Q I ro ri rv h;obtain ⟨p,xs,k,j,rfl,rfl,hp,hj,q⟩:=h;cases ro;obtain ⟨t,rfl⟩:=ri;obtain ⟨its,n,r,ho,hz⟩:=I.lst hp;obtain ⟨h1,h2,h3,h4⟩:=Hw hj;have hl:=r.length;have hn:=pQ;have I':Inv X pins σ (upd H p (.lst (xs.set j v))) { s with heap:=s.heap.update p (Obj.mapSeq (·.setIfInBounds j u)) } :=
   I.lstUpd hp ho (I0 its n j u) (r.set rv j) (by rw [List.length_set];exact hz) s.toks
 by_cases h0:0<=k
 . have hk:k.toNat=j:=by
     rw [seqIndex_of h0 h4] at h1;exact Option.some.inj h1
   exact PySem.W.ki_setAt ho h0 (by omega) (by rw [List.size_toArray,<- hl];exact h4) (by rw [hk];exact ⟨_,I',q⟩)
 . have hk:(k+(its.toArray.size:Int)).toNat=j:=by
     rw [seqIndex_neg (by omega) h3] at h1;rw [List.size_toArray,<- hl];exact Option.some.inj h1
   exact PySem.W.ki_setBack ho (by omega) (by rw [List.size_toArray,<- hl];exact h3) (by omega) (by rw [hk];exact ⟨_,I',q⟩)
theorem eB:jM X (.builtin "len") (fun xs H Q=>∃ p ys,xs=[.ref p]/\(SqL X.K H p ys\/SqT X.K H p ys)/\Q (.int ys.length) H):=by
 intro pins s σ H xs us Q I r h;obtain ⟨p,ys,rfl,hq,q⟩:=h;obtain ⟨u,rfl,rx⟩:=mY r;cases rx;have hn:=pQ;rcases hq with hq|hq
 . obtain ⟨its,r',pl,hz⟩:=I.list hq;have hlen:=r'.length;exact Calls.call_len_list pl.isList (by simp only [List.size_toArray] <;> omega) ⟨.int ys.length,H,I.tok _,⟨s.toks+1,by rw [List.size_toArray,hlen]⟩,q⟩
 . obtain ⟨its,r',pl,hz⟩:=I.tuple hq;have hlen:=r'.length;exact len_tuple pl (by simp only [List.size_toArray] <;> omega) ⟨.int ys.length,H,I.tok _,⟨s.toks+1,by rw [List.size_toArray,hlen]⟩,q⟩
theorem xJ:jM X (.type "list") (fun xs H Q=>∃ p ys,xs=[.ref p]/\(SqL X.K H p ys\/SqT X.K H p ys)/\∀ l,H l=none->Q (.ref l) (upd H l (.lst ys))):=by
 intro pins s σ H xs us Q I r h;obtain ⟨p,ys,rfl,hq,q⟩:=h;obtain ⟨u,rfl,rx⟩:=mY r;cases rx;have fin:∀ (its:List Value),Vals ys its->ys.length<=sizeLine->∀ (h':Heap) (c':Nat),(∀ b o',s.heap.get? b=some o'->h'.get? b=some o') ->
     h'.get? s.heap.objs.size=some { cls:=.type "list",dict:=none,data:=.seq its.toArray c',slots:=#[] }->EP X pins σ Q (.ref s.heap.objs.size) { s with heap:=h' }:=fun its r' hz h' c' kp e =>
   ⟨.ref s.heap.objs.size,_,I.laid (t':=s.toks) kp (Nat.le_refl _) (show ObjOk X.prog X.w _ h' _ (.lst ys) from ⟨hz,its,c',r',e⟩),rfl,q _ (I.hok.fresh (Nat.le_refl _))⟩
 rcases hq with hq|hq
 . obtain ⟨its,r',pl,hz⟩:=I.list hq;have hlen:=r'.length;obtain ⟨o,ho,hc,n,hd⟩:=pl.isList;exact call_list_seq p (.inl rfl) ho hc hd (fun h' c' kp e=>fin its r' hz h' c' kp e) (by simp only [List.size_toArray] <;> omega)
 . obtain ⟨its,r',pl,hz⟩:=I.tuple hq;have hlen:=r'.length;obtain ⟨o,ho,hc,n,hd⟩:=pl;exact call_list_seq p (.inr rfl) ho hc hd (fun h' c' kp e=>fin its r' hz h' c' kp e) (by simp only [List.size_toArray] <;> omega)
theorem kc:jM X (.type "tuple") (fun xs H Q=>∃ p ys,xs=[.ref p]/\((SqL X.K H p ys/\∀ l,H l=none->Q (.ref l) (upd H l (.tup ys)))\/(SqT X.K H p ys/\Q (.ref p) H))):=by
 intro pins s σ H xs us Q I r h;obtain ⟨p,ys,rfl,h⟩:=h;obtain ⟨u,rfl,rx⟩:=mY r;cases rx;rcases h with ⟨hq,q⟩|⟨hq,q⟩
 . obtain ⟨its,r',pl,hz⟩:=I.list hq;have hlen:=r'.length;refine call_tuple_list pl.isList (fun h' kp=>?_) (by simp only [List.size_toArray] <;> omega);have I1:Inv X pins σ H { s with heap:=h' }:=I.kept (t':=s.toks) kp;have I2:Inv X pins σ (upd H h'.objs.size (.tup ys)) { s with heap:=h'.push { cls:=.type "tuple",data:=.seq its.toArray } } :=
     I1.laid (t':=s.toks) (fun b o e=>Heap.get?_push_of_some _ e) (Nat.le_refl _) (show ObjOk X.prog X.w _ _ _ (.tup ys) from ⟨hz,its,r',IsTup.new _ _⟩)
   exact ⟨.ref h'.objs.size,_,I2,rfl,q _ (I1.hok.fresh (Nat.le_refl _))⟩
 . obtain ⟨its,r',pl,hz⟩:=I.tuple hq;exact call_tuple_same pl ⟨.ref p,H,I,rfl,q⟩
def tyV (K:PySem.W.Frag) (T:String) (x:V) (H:Hp):Prop:=match x with
 | .str _=>T="str"
 | .int _=>T="int"
 | .ref p=>(T="list"/\∃ xs,SqL K H p xs)\/(T="tuple"/\∃ o,K.lookup p=some o/\o.cls=.type "tuple"/\o.dict=none) \/
     (T="dict"/\((∃ kvs,H p=some (.dK kvs))\/∃ kvs,H p=some (.dT kvs)))\/(T="set"/\∃ S n,H p=some (.set S n))
 | _=>False
theorem Lp {pins:List (Addr × Obj)} {σ:St} {H:Hp} {s:Shared} {T:String} {x:V} {v:Value} (I:Inv X pins σ H s) (r:RelV x v) (ty:tyV X.K T x H) :
   s.TypeIs v T/\∀ a,v=.ref a->∃ ob,s.heap.get? a=some ob/\ob.dict=none:=by
 cases x with
 | str z =>
   obtain ⟨t,rfl⟩:=r;cases (show T="str" from ty);exact ⟨typeIs_str s z t,fun _ e=>nomatch e⟩
 | int i =>
   obtain ⟨t,rfl⟩:=r;cases (show T="int" from ty);exact ⟨typeIs_int s i t,fun _ e=>nomatch e⟩
 | ref p =>
   cases r;rcases ty with ⟨rfl,xs,hq⟩|⟨rfl,o,hk,hc,hd⟩|⟨rfl,hk⟩|⟨rfl,S,n,hk⟩
   . obtain ⟨its,_,pl,_⟩:=I.list hq;refine ⟨pl.isList.typeIs,fun a e=>?_⟩;cases e;obtain ⟨o,n,e,c,hd,_⟩:=pl;exact ⟨o,e,hd⟩
   . refine ⟨⟨o,I.kIn p o hk,hc⟩,fun a e=>?_⟩;cases e;exact ⟨o,I.kIn _ o hk,hd⟩
   . have z:∃ o,s.heap.get? p=some o/\o.ExactDict:=by
       rcases hk with ⟨kvs,hk⟩|⟨kvs,hk⟩
       . obtain ⟨_,_,_,_,o,_,_,e,ex,_⟩:=I.hok p _ hk;exact ⟨o,e,ex⟩
       . obtain ⟨_,_,_,_,o,_,_,e,ex,_⟩:=I.hok p _ hk;exact ⟨o,e,ex⟩
     obtain ⟨o,e,ex⟩:=z;refine ⟨⟨o,e,ex.1⟩,fun a e2=>?_⟩;cases e2;exact ⟨o,e,ex.2.1⟩
   . obtain ⟨o,_,_,_,e,ex,_⟩:=I.hok p _ hk;refine ⟨⟨o,e,ex.1⟩,fun a e2=>?_⟩;cases e2;exact ⟨o,e,ex.2.1⟩
 | _=>exact False.elim ty
def NX (K:PySem.W.Frag) (T:String) (r:V->List V->Hp->VK->Prop) (to:TE):TE:=fun σ H Q=>to σ H fun x H1=>tyV K T x H1/\r x [] H1 Q
def tBM (K:PySem.W.Frag) (T:String) (r:V->List V->Hp->VK->Prop) (to:TE) (t:TA):TE:=fun σ H Q=>to σ H fun x H1=>tyV K T x H1/\t σ H1 fun xs H2=>r x xs H2 Q
variable {o e:Expr} {es:List Expr} {to:TE} {t:TA} {name:Str} {apos cpos:Pos} {T id:String} {r:V->List V->Hp->VK->Prop}
theorem F3 (pa:PlainAttrs T) (slot:Slot T name id) (hty:typeOf (.builtin id)=pure (.type "method_descriptor")) (hm:MtR X id r) (ho:PE X o to)
   (hbase:attributeBase o name X.env (eval o X.env)=eval o X.env:=by rfl) (hline:(apos.endLine == cpos.line)=true:=by rfl):PE X (.Call (.Attribute o name apos) [] [] cpos) (NX X.K T r to):=by
 intro pins s σ H Q I h;refine wpAny_Call_method0_late hbase hline (bw (ho pins s σ H _ I h) fun v s1 x H1 I1 r1 ⟨ty,q1⟩=>?_);obtain ⟨h1,h2⟩:=Lp I1 r1 ty;exact ⟨T,id,pa,slot,hty,h1,h2,Calls.callWith_builtin rfl (PySem.evalArgs_none (hm pins s1 σ H1 x [] v [] Q I1 r1 .nil q1))⟩
theorem oF (pa:PlainAttrs T) (slot:Slot T name id) (hty:typeOf (.builtin id)=pure (.type "method_descriptor")) (hm:MtR X id r) (ho:PE X o to) (ha:PA X (e::es) t)
   (hbase:attributeBase o name X.env (eval o X.env)=eval o X.env:=by rfl)
   (hfew:((backTo cpos (starEach (e::es) X.env)).all (fun x=>!x.1) && (backToKw cpos (keywordEach [] X.env)).all (fun x=>x.1.isSome)
     && decide ((e::es).length+([]:List Keyword).length+(if ([]:List Keyword).isEmpty then 0 else 1)<30))=true:=by rfl)
   (hline:(apos.endLine == cpos.line)=true:=by rfl) (hs:starEach (e::es) X.env=(false,eval e X.env)::starEach es X.env:=by rfl) (hplain:(backTo cpos (starEach es X.env)).any (·.1)=false:=by rfl) :
   PE X (.Call (.Attribute o name apos) (e::es) [] cpos) (tBM X.K T r to t):=by
 intro pins s σ H Q I h;refine wpAny_Call_method_late hbase hfew hline rfl (bw (ho pins s σ H _ I h) fun v s1 x H1 I1 r1 ⟨ty,q1⟩=>?_);obtain ⟨h1,h2⟩:=Lp I1 r1 ty;refine ⟨T,id,pa,slot,hty,h1,h2,?_⟩;have hA:=ha cpos pins s1 σ H1 _ I1 q1;rw [hs] at hA ⊢;refine Calls.callWith_builtin (by show (false || (backTo cpos (starEach es X.env)).any (·.1))=false;rw [hplain] <;> rfl) (Calls.evalArgs_plain ?_);exact thn hA fun us s2 ⟨vs,H2,I2,r2,q2⟩=>hm pins s2 σ H2 x vs v us Q I2 r1 r2 q2
end
end L2
namespace L2
open PySem PySem.Spec PyProof.Rows
def MtM (X:Cx) (id:String) (r:V->List V->Hp->VK->Prop):Prop :=
 ∀ (pins:List (Addr × Obj)) (s:Shared) (σ:St) (H:Hp) (x:V) (xs:List V) (v:Value) (us:List Value) (Q:VK),Inv X pins σ H s->RelV x v->Vals xs us->r x xs H Q ->
   wpAny (model X.prog X.w) X.A (call (.builtin id) (v::us)) (EP X pins σ Q) X.xe s
theorem Vals.one {x:V} {us:List Value} (h:Vals [x] us):∃ u,us=[u]/\RelV x u:=by
 cases h with
 | cons r t=>cases t;exact ⟨_,rfl,r⟩
theorem Vals.two {x y:V} {us:List Value} (h:Vals [x,y] us):∃ u v,us=[u,v]/\RelV x u/\RelV y v:=by
 cases h with
 | cons r t =>
   obtain ⟨v,e,q⟩:=Vals.one t;subst e;exact ⟨_,v,rfl,r,q⟩
theorem Vals.zero:∀ {us:List Value},Vals [] us->us=[]
 | _,.nil=>rfl
theorem Vals.dropLast {xs:List V} {us:List Value} (h:Vals xs us):Vals xs.dropLast us.dropLast:=by
 induction h with
 | nil=>exact .nil
 | cons r t ih =>
   cases t with
   | nil=>exact .nil
   | cons q t'=>exact .cons r ih
theorem Vals.rep {xs:List V} {us:List Value} (h:Vals xs us):∀ k:Nat,Vals (List.replicate k xs).flatten (List.replicate k us).flatten
 | 0=>.nil
 | k+1=>by
   rw [List.replicate_succ,List.replicate_succ,List.flatten_cons,List.flatten_cons];exact Vals.append h (Vals.rep h k)
theorem Jy {α:Type} (l:List α):l.eraseIdx (l.length - 1)=l.dropLast:=by
 induction l with
 | nil=>rfl
 | cons a r ih =>
   cases r with
   | nil=>rfl
   | cons b r =>
     have e:(a::b::r).length - 1=((b::r).length - 1)+1:=by
       have h1:(a::b::r).length=r.length+2:=rfl;have h2:(b::r).length=r.length+1:=rfl;omega
     rw [e,List.eraseIdx_cons_succ,ih]
     all_goals rfl
theorem CG (its:List Value):∀ (k:Nat) (acc:List Value),
   List.foldl (fun x1 x2=>x1++x2) acc.toArray (List.replicate k its.toArray)=(acc++(List.replicate k its).flatten).toArray
 | 0,acc=>by simp
 | k+1,acc=>by
   have e:acc.toArray++its.toArray=(acc++its).toArray:=by simp
   have e2:(acc++its)++(List.replicate k its).flatten=acc++(List.replicate (k+1) its).flatten:=by
     rw [List.replicate_succ,List.flatten_cons,List.append_assoc]
   rw [<- e2,<- CG its k (acc++its),<- e,List.replicate_succ,List.foldl_cons]
section
variable {X:Cx} {pins:List (Addr × Obj)} {σ:St} {H:Hp} {s:Shared} {l b:Addr} {xs ys zs:List V}
theorem Inv.lset {its its':List Value} {n:Nat} {f:Array Value->Array Value} {t':Nat} (I:Inv X pins σ H s) (hH:H l=some (.lst xs))
   (e:s.heap.get? l=some { cls:=.type "list",data:=.seq its.toArray n }) (hf:f its.toArray=its'.toArray) (hv:Vals ys its') (hz:ys.length<=sizeLine) :
   Inv X pins σ (upd H l (.lst ys)) { s with heap:=s.heap.update l (Obj.mapSeq f),toks:=t' }:=by
 have q:=PySem.IsL.update e f;rw [hf] at q;refine I.write (x:=l) (e:=l) (by rw [hH];exact trivial) (.inl rfl) (fun b' u hb hu=>(Heap.get?_update_other s.heap (Obj.mapSeq f) (Ne.symm hb)).trans hu) ⟨_,q⟩ ?_;exact ⟨hz,its',_,hv,q⟩
theorem Inv.lnew {its:List Value} {t':Nat} (I:Inv X pins σ H s) (hv:Vals ys its) (hz:ys.length<=sizeLine) :
   Inv X pins σ (upd H s.heap.objs.size (.lst ys)) { s with heap:=s.heap.push { cls:=.type "list",data:=.seq its.toArray },toks:=t' } :=
 I.laid (fun _ _ q=>Heap.get?_push_of_some _ q) (Nat.le_refl _) ⟨hz,its,0,hv,Heap.get?_push_size _ rfl⟩
theorem Inv.fresh (I:Inv X pins σ H s):H s.heap.objs.size=none:=I.hok.fresh (Nat.le_refl _)
theorem Inv.lstM (I:Inv X pins σ H s) (hH:H l=some (.lst xs)):xs.length<=sizeLine/\∃ (its:List Value) (n:Nat),Vals xs its/\xs.length=its.length/\s.heap.get? l=some { cls:=.type "list",data:=.seq its.toArray n }:=by
 obtain ⟨z,its,n,r,e⟩:=I.hok l _ hH;exact ⟨z,its,n,r,r.length,e⟩
theorem MP {n:Nat} (h:n<=sizeLine):Builtin.List.listTooLong n=false:=by
 unfold Builtin.List.listTooLong;exact decide_eq_false (by omega)
end
section
variable {X:Cx}
def rAppend:V->List V->Hp->VK->Prop:=fun x vs H Q=>∃ l xs y,x=.ref l/\vs=[y]/\H l=some (.lst xs)/\xs.length<sizeLine/\Q .non (upd H l (.lst (xs++[y])))
theorem ff:MtM X "list.append" rAppend:=by
 intro pins s σ H x vs v us Q I rx rv h;obtain ⟨l,xs,y,rfl,rfl,hH,hz,q⟩:=h;cases rx;obtain ⟨u,rfl,ru⟩:=rv.one;obtain ⟨z,its,n,r,hl,e⟩:=I.lstM hH;refine call_meets F.slot_list_append ⟨_,e,rfl⟩ F.entry_list_append (F.args_list_append_2 _ _) (PySem.list_append l its.toArray n u (by rw [List.size_toArray];omega)) ⟨e,?_⟩;refine ⟨.non,_,I.lset (its':=its++[u]) hH e (by simp) (r.append (.cons ru .nil)) ?_,rfl,q⟩;rw [List.length_append,List.length_singleton];omega
def rPop:V->List V->Hp->VK->Prop:=fun x vs H Q=>∃ l xs y,x=.ref l/\vs=[]/\H l=some (.lst xs)/\xs[xs.length - 1]?=some y/\Q y (upd H l (.lst xs.dropLast))
theorem FM:MtM X "list.pop" rPop:=by
 intro pins s σ H x vs v us Q I rx rv h;obtain ⟨l,xs,y,rfl,rfl,hH,hy,q⟩:=h;cases rx;have hus:=rv.zero;subst hus;obtain ⟨z,its,n,r,hl,e⟩:=I.lstM hH;obtain ⟨u,hu,ru⟩:=r.get hy;have hy':its.toArray[its.toArray.size - 1]?=some u:=by
   show its.toArray[its.length - 1]?=some u;rw [<- Array.getElem?_toList,<- hl];exact hu
 refine call_meets F.slot_list_pop ⟨_,e,rfl⟩ F.entry_list_pop (F.args_list_pop_1 _) (MeetsSeq.list_pop_last l its.toArray n u hy' (by rw [List.size_toArray];omega)) ⟨e,?_⟩;refine ⟨y,_,I.lset (its':=its.dropLast) hH e ?_ r.dropLast ?_,ru,q⟩
 . show its.toArray.eraseIdxIfInBounds (its.toArray.size - 1)=its.dropLast.toArray;rw [List.size_toArray,List.eraseIdxIfInBounds_toArray,Jy]
 . rw [List.length_dropLast];omega
def rRep:R2:=fun x y H Q=>∃ l k xs,x=.ref l/\y=.int k/\H l=some (.lst xs)/\-(2^63)<=k/\k<2^63/\xs.length*k.toNat<=sizeLine /\
 ∀ p,H p=none->Q (.ref p) (upd H p (.lst (List.replicate k.toNat xs).flatten))
theorem QR {α:Type} (xs:List α) (k:Nat):(List.replicate k xs).flatten.length=k*xs.length:=by
 induction k with
 | zero=>simp
 | succ k ih=>rw [List.replicate_succ,List.flatten_cons,List.length_append,ih,Nat.succ_mul,Nat.add_comm]
theorem vX:OpR X (binaryOp .Mult) rRep:=by
 intro pins s σ H x y v u Q I rx ry h;obtain ⟨l,k,xs,rfl,rfl,hH,h1,h2,hz,q⟩:=h;cases rx;obtain ⟨t,rfl⟩:=ry;obtain ⟨z,its,n,r,hl,e⟩:=I.lstM hH;have hlen:its.toArray.size*k.toNat<=sizeLine:=by rw [List.size_toArray,<- hl];exact hz
 have hcap:¬ its.toArray.size*k.toNat > (2^63 - 1) / 8:=by
   have:(sizeLine:Nat)<=(2^63 - 1) / 8:=by decide
   omega
 have hfit:¬ (!Builtin.List.listFitsIndex k)=true:=by
   rw [fitsIndex_both h1 h2];exact Bool.false_ne_true
 have hlong:¬ Builtin.List.listTooLong (its.toArray.size*k.toNat)=true:=by
   rw [MP hlen];exact Bool.false_ne_true
 have hnew:List.foldl (fun x1 x2=>x1++x2) #[] (List.replicate (if its.toArray.isEmpty=true then 0 else k.toNat) its.toArray)=(List.replicate k.toNat its).flatten.toArray:=by
   have f0:∀ m:Nat,List.foldl (fun x1 x2=>x1++x2) #[] (List.replicate m its.toArray)=(List.replicate m its).flatten.toArray:=fun m=>by
     have:=CG its m [];rw [List.nil_append] at this;exact this
   rw [f0];cases its with
   | nil=>simp
   | cons a r'=>rw [if_neg (by simp)]
 refine wpAny_binaryOp_repeat_ref (T:="list") (U:="int") (by decide) ⟨_,e,rfl⟩ (fun s'=>typeIs_int s' k t) noFill_list_mul F.fills_int_mul F.slot_int_rmul repeat_list F.slot_int_index.lookup
   (call_meets F.slot_int_rmul (typeIs_int s k t) F.entry_int_rmul (F.args_int_rmul_2 _ _) (int___rmul___int_list k t l its.toArray n)
     ⟨e,rfl,⟨_,e,rfl⟩,call_meets F.slot_list_mul ⟨_,e,rfl⟩ F.entry_list_mul (F.args_list_mul_2 _ _) (AutoListH.list___mul___list_int_3 l its.toArray n k t hfit hcap hlong) ⟨e,?_⟩⟩)
 rw [hnew];exact ⟨.ref _,_,I.lnew (t':=s.toks) (r.rep k.toNat) (by rw [QR,Nat.mul_comm];exact hz),rfl,q _ I.fresh⟩
end
section
variable {prog:Program} {w:World} {A:Around} {E:Value->Shared->Prop} {s:Shared}
set_option maxRecDepth 100000 in
end
section
variable {X:Cx}
end
end L2
namespace L2
open PySem PySem.Spec PyProof.Rows
section
variable {κ:Type} [DecidableEq κ]
def cR (kvs:List (κ × V)) (k:κ):Option V:=(kvs.find? fun kv=>decide (kv.1=k)).map (·.2)
def dS (kvs:List (κ × V)) (k:κ) (v:V):List (κ × V) :=
 if (kvs.any fun kv=>decide (kv.1=k))=true then kvs.map (fun kv=>if kv.1=k then (kv.1,v) else kv) else kvs++[(k,v)]
theorem eM {p:κ × V} {r:List (κ × V)} {k:κ} (e:p.1=k):cR (p::r) k=some p.2:=by simp [cR,List.find?_cons,e]
theorem eP {p:κ × V} {r:List (κ × V)} {k:κ} (e:¬ p.1=k):cR (p::r) k=cR r k:=by simp [cR,List.find?_cons,e]
theorem pV (k:κ):∀ kvs:List (κ × V),(kvs.any fun kv=>decide (kv.1=k))=(cR kvs k).isSome
 | []=>rfl
 | p::r=>by
   rw [List.any_cons];by_cases e:p.1=k
   . simp only [eM e,decide_eq_true e,Bool.true_or,Option.isSome_some]
   . rw [eP e,decide_eq_false e,Bool.false_or];exact pV k r
theorem FU (k j:κ) (y:V):∀ kvs:List (κ × V),cR (kvs.map fun kv=>if kv.1=k then (kv.1,y) else kv) j=(cR kvs j).map fun x=>if j=k then y else x
 | []=>rfl
 | p::r=>by
   have ih:=FU k j y r;rw [List.map_cons];by_cases h:p.1=k
   . rw [if_pos h];by_cases e:p.1=j
     . rw [eM (p:=(p.1,y)) e,eM e,Option.map_some,if_pos (e.symm.trans h)]
     . rw [eP (p:=(p.1,y)) e,eP e,ih]
   . rw [if_neg h];by_cases e:p.1=j
     . rw [eM (p:=p) e,eM e,Option.map_some,if_neg (fun z=>h (e.trans z))]
     . rw [eP (p:=p) e,eP e,ih]
theorem CP (k j:κ) (y:V):∀ kvs:List (κ × V),cR kvs k=none->cR (kvs++[(k,y)]) j=if j=k then some y else cR kvs j
 | [],_=>by
   by_cases e:k=j
   . rw [if_pos e.symm];exact eM (p:=(k,y)) e
   . rw [if_neg (fun z=>e z.symm)];exact eP (p:=(k,y)) e
 | p::r,hn=>by
   rw [List.cons_append];have hk:¬ p.1=k:=fun z=>by rw [eM z] at hn;cases hn
   rw [eP hk] at hn;have ih:=CP k j y r hn;by_cases e:p.1=j
   . rw [eM e,eM e,if_neg (fun z=>hk (e.trans z))]
   . rw [eP e,eP e,ih]
theorem Ej (kvs:List (κ × V)) (k j:κ) (y:V):cR (dS kvs k y) j=if j=k then some y else cR kvs j:=by
 unfold dS;by_cases a:(kvs.any fun kv=>decide (kv.1=k))=true
 . rw [if_pos a,FU];rw [pV] at a;by_cases e:j=k
   . obtain ⟨x,hx⟩:=Option.isSome_iff_exists.mp a;rw [if_pos e,e,hx,Option.map_some,if_pos rfl]
   . rw [if_neg e];cases cR kvs j with
     | none=>rfl
     | some x=>rw [Option.map_some,if_neg e]
 . rw [if_neg a];refine CP k j y kvs ?_;rw [pV] at a;cases q:cR kvs k with
   | none=>rfl
   | some x=>rw [q] at a;exact (a rfl).elim
theorem j5 (kvs:List (κ × V)) (k:κ) (v:V):(dS kvs k v).length<=kvs.length+1:=by
 unfold dS;split
 . rw [List.length_map];omega
 . rw [List.length_append,List.length_cons,List.length_nil];omega
theorem NS {kvs:List (κ × V)} {k:κ} (v:V) (h:cR kvs k=none):dS kvs k v=kvs++[(k,v)]:=by
 unfold dS;rw [pV,h];exact if_neg (by decide)
theorem RelO.isSome_eq {o:Option V} {u:Option Value} (r:RelO o u):o.isSome=u.isSome:=by
 cases o with
 | none=>cases u with
   | none=>rfl
   | some _=>exact (show False from r).elim
 | some _=>cases u with
   | none=>exact (show False from r).elim
   | some _=>rfl
theorem KV.val {kvs:List (κ × V)} {vs:List (κ × Value)} (r:KV kvs vs) (k:κ):RelO (cR kvs k) (valueAt vs k):=by
 unfold KV at r
 induction r with
 | nil=>exact True.intro
 | @cons p q ps qs h t ih =>
   obtain ⟨h1,h2⟩:=h;by_cases e:p.1=k
   . have e':q.1=k:=h1.symm.trans e;have b:valueAt (q::qs) k=some q.2:=(by simp [valueAt,List.find?_cons,e']);rw [eM e,b];exact h2
   . have e':¬ q.1=k:=fun z=>e (h1.trans z);have b:valueAt (q::qs) k=valueAt qs k:=(by simp [valueAt,List.find?_cons,e']);rw [eP e,b];exact ih
theorem KV.any {kvs:List (κ × V)} {vs:List (κ × Value)} (r:KV kvs vs) (k:κ):(kvs.any fun kv=>decide (kv.1=k))=vs.any fun kv=>decide (kv.1=k):=by
 unfold KV at r
 induction r with
 | nil=>rfl
 | cons h t ih=>rw [List.any_cons,List.any_cons,ih,h.1]
theorem KV.repl {kvs:List (κ × V)} {vs:List (κ × Value)} (r:KV kvs vs) (k:κ) {y:V} {u:Value} (ry:RelV y u) :
   KV (kvs.map fun kv=>if kv.1=k then (kv.1,y) else kv) (vs.map fun kv=>if kv.1=k then (kv.1,u) else kv):=by
 unfold KV at r ⊢
 induction r with
 | nil=>exact .nil
 | @cons p q ps qs h t ih =>
   rw [List.map_cons,List.map_cons];refine .cons ?_ ih;obtain ⟨h1,h2⟩:=h;by_cases e:p.1=k
   . rw [if_pos e,if_pos (h1.symm.trans e)];exact ⟨h1,ry⟩
   . rw [if_neg e,if_neg (fun z=>e (h1.trans z))];exact ⟨h1,h2⟩
theorem KV.put {kvs:List (κ × V)} {vs:List (κ × Value)} (r:KV kvs vs) (k:κ) {y:V} {u:Value} (ry:RelV y u):KV (dS kvs k y) (stored vs k u):=by
 unfold dS stored;rw [r.any k];by_cases e:(vs.any fun kv=>decide (kv.1=k))=true
 . rw [if_pos e,if_pos e];exact r.repl k ry
 . rw [if_neg e,if_neg e];exact Paired.snoc r ⟨rfl,ry⟩
theorem KV.length {kvs:List (κ × V)} {vs:List (κ × Value)} (r:KV kvs vs):kvs.length=vs.length:=Paired.length r
end
theorem yc {P:Program} {w:World} {k:Key} {u:Value} (r:RelV (kV k) u):(dA P w).is k u=true:=by
 cases k with
 | inl i=>obtain ⟨t,e⟩:=(show ∃ t,u=Value.int i t from r);subst e;exact GU P w i t
 | inr x=>obtain ⟨t,e⟩:=(show ∃ t,u=Value.str x t from r);subst e;exact Gq P w x t
theorem CM {P:Program} {w:World}:∀ {ks:List Key} {us:List Value},Vals (ks.map kV) us->ItemsAre (dA P w) ks us
 | [],_,r=>by rw [List.map_nil] at r;cases r;exact .nil
 | k::ks,_,r=>by
   rw [List.map_cons] at r;cases r with
   | cons h t=>exact .cons (yc h) (CM t)
abbrev KT (H:Hp):List (List Key × V)->List (List Key × Addr × Value)->Prop:=Paired fun p q=>p.1=q.1/\H q.2.1=some (.tup (p.1.map kV))/\RelV p.2 q.2.2
theorem KT.val {H:Hp} {kvs:List (List Key × V)} {xs:List (List Key × Addr × Value)} (r:KT H kvs xs) (k:List Key):RelO (cR kvs k) ((atKey xs k).map (·.2)):=by
 induction r with
 | nil=>exact True.intro
 | @cons p q ps qs h t ih =>
   obtain ⟨h1,_,h2⟩:=h;by_cases e:p.1=k
   . have e':q.1=k:=h1.symm.trans e;have b:atKey (q::qs) k=some q.2:=(by simp [atKey,List.find?_cons,e']);rw [eM e,b];exact h2
   . have e':¬ q.1=k:=fun z=>e (h1.trans z);have b:atKey (q::qs) k=atKey qs k:=(by simp [atKey,List.find?_cons,e']);rw [eP e,b];exact ih
theorem KT.repl {H:Hp} {kvs:List (List Key × V)} {xs:List (List Key × Addr × Value)} (r:KT H kvs xs) (k:List Key) {y:V} {u:Value} (ry:RelV y u) :
   KT H (kvs.map fun kv=>if kv.1=k then (kv.1,y) else kv) (xs.map (putAt k u)):=by
 induction r with
 | nil=>exact .nil
 | @cons p q ps qs h t ih =>
   rw [List.map_cons,List.map_cons];refine .cons ?_ ih;obtain ⟨h1,h2,h3⟩:=h;unfold putAt;by_cases e:p.1=k
   . rw [if_pos e,if_pos (h1.symm.trans e)];exact ⟨h1,h2,ry⟩
   . rw [if_neg e,if_neg (fun z=>e (h1.trans z))];exact ⟨h1,h2,h3⟩
theorem KT.put {H:Hp} {kvs:List (List Key × V)} {xs:List (List Key × Addr × Value)} (r:KT H kvs xs) (k:List Key) {b:Addr} {y:V} {u:Value} (hb:H b=some (.tup (k.map kV))) (ry:RelV y u) :
   KT H (dS kvs k y) (storedH xs k b u):=by
 have e:(kvs.any fun kv=>decide (kv.1=k))=(atKey xs k).isSome:=by
   rw [pV,(r.val k).isSome_eq,Option.isSome_map]
 unfold dS storedH;rw [e];by_cases q:(atKey xs k).isSome=true
 . rw [if_pos q,if_pos q];exact r.repl k ry
 . rw [if_neg q,if_neg q];exact Paired.snoc r ⟨rfl,hb,ry⟩
theorem KT.keeps {H H':Hp} {kvs:List (List Key × V)} {xs:List (List Key × Addr × Value)} (r:KT H kvs xs) (ht:∀ b ys,H b=some (.tup ys)->H' b=some (.tup ys)):KT H' kvs xs :=
 Paired.mapP r fun _ _ z=>⟨z.1,ht _ _ z.2.1,z.2.2⟩
section
variable {P:Program} {w:World} {H:Hp} {h:Heap} {a:Addr}
theorem PJ {u:HO} (ok:HOk P w H h) (e:Rd H a u):ObjOk P w H h a u:=e.ok ok
theorem xT {kvs:List (Key × V)} (ok:HOk P w H h) (e:Rd H a (.dK kvs)):kvs.length<=sizeLine/\(a == sysModules)=false/\∃ vs,KV kvs vs/\h.DictOf (dA P w) a vs :=
 show ObjOk P w H h a (.dK kvs) from PJ ok e
theorem PP {kvs:List (Key × V)} (ok:HOk P w H h) (e:H a=some (.dK kvs)):kvs.length<=sizeLine/\(a == sysModules)=false/\∃ vs,KV kvs vs/\h.DictOf (dA P w) a vs:=xT ok (.inl e)
theorem xp {ks:List Key} (ok:HOk P w H h) (e:H a=some (.tup (ks.map kV))):(tupleKind (dA P w)).is h ks a:=by
 obtain ⟨_,its,r,o,h1,h2,n,h3⟩:=(show ObjOk P w H h a (.tup (ks.map kV)) from ok a _ e);exact ⟨o,its.toArray,n,h1,h2,h3,by simpa using CM r⟩
theorem Af {kvs:List (List Key × V)} (ok:HOk P w H h) (e:Rd H a (.dT kvs)):kvs.length<=sizeLine/\(a == sysModules)=false /\
   ∃ xs,KT H kvs xs/\h.DictOfH (tupleKind (dA P w)) a xs:=by
 obtain ⟨z,y,xs,r,o,es,ep,h1,h2,h3,h4,h5⟩:=(show ObjOk P w H h a (.dT kvs) from PJ ok e);refine ⟨z,y,xs,r,o,es,ep,h1,h2,h3,h4,fun x hx=>?_,h5⟩;have all:∀ {l:List (List Key × V)} {m:List (List Key × Addr × Value)},KT H l m->∀ x∈m,(tupleKind (dA P w)).is h x.1 x.2.1:=by
   intro l m q
   induction q with
   | nil=>intro x hx;exact nomatch hx
   | @cons p q ps qs hq t ih =>
     intro x hx;rcases List.mem_cons.mp hx with e|hx
     . subst e;exact xp ok (by rw [<- hq.1];exact hq.2.1)
     . exact ih x hx
 exact all r x hx
theorem Pw {kvs:List (List Key × V)} (ok:HOk P w H h) (e:H a=some (.dT kvs)):kvs.length<=sizeLine/\(a == sysModules)=false /\
   ∃ xs,KT H kvs xs/\h.DictOfH (tupleKind (dA P w)) a xs:=Af ok (.inl e)
end
def DGet (H:Hp) (a:Addr) (y:V) (r:Option V):Prop :=
 (∃ kvs k,Rd H a (.dK kvs)/\y=kV k/\r=cR kvs k)\/∃ kvs k b,Rd H a (.dT kvs)/\y=.ref b/\H b=some (.tup (k.map kV))/\r=cR kvs k
def DPut (H:Hp) (a:Addr) (y v:V) (H':Hp):Prop :=
 (∃ kvs k,H a=some (.dK kvs)/\y=kV k/\kvs.length<sizeLine/\H'=upd H a (.dK (dS kvs k v))) \/
 ∃ kvs k b,H a=some (.dT kvs)/\y=.ref b/\H b=some (.tup (k.map kV))/\kvs.length<sizeLine/\H'=upd H a (.dT (dS kvs k v))
theorem DGet.k {H:Hp} {a:Addr} {kvs:List (Key × V)} {k:Key} (e:H a=some (.dK kvs)):DGet H a (kV k) (cR kvs k):=.inl ⟨kvs,k,.inl e,rfl,rfl⟩
theorem DGet.t {H:Hp} {a b:Addr} {kvs:List (List Key × V)} {k:List Key} (e:H a=some (.dT kvs)) (eb:H b=some (.tup (k.map kV))):DGet H a (.ref b) (cR kvs k):=.inr ⟨kvs,k,b,.inl e,rfl,eb,rfl⟩
theorem DPut.k {H:Hp} {a:Addr} {kvs:List (Key × V)} {k:Key} {v:V} (e:H a=some (.dK kvs)) (hl:kvs.length<sizeLine):DPut H a (kV k) v (upd H a (.dK (dS kvs k v))):=.inl ⟨kvs,k,e,rfl,hl,rfl⟩
theorem DPut.t {H:Hp} {a b:Addr} {kvs:List (List Key × V)} {k:List Key} {v:V} (e:H a=some (.dT kvs)) (eb:H b=some (.tup (k.map kV))) (hl:kvs.length<sizeLine) :
   DPut H a (.ref b) v (upd H a (.dT (dS kvs k v))):=.inr ⟨kvs,k,b,e,rfl,eb,hl,rfl⟩
section
variable {X:Cx} {pins:List (Addr × Obj)} {σ:St} {H:Hp} {s:Shared} {a:Addr} {y v:V} {u r:Value} {o:Option V} {A:Around} {E:Value->Shared->Prop}
theorem Inv.big (I:Inv X pins σ H s):sysModules<s.heap.objs.size:=by
 have h:mainGlobals<s.heap.objs.size:=(I.mod.glob.keeps I.bk).lt;exact Nat.lt_trans (by decide) h
theorem K7 {Q:Value->Shared->Prop} (hu:A.units+1<cLine) (I:Inv X pins σ H s) (g:DGet H a y (some v)) (ry:RelV y u) (h:∀ w' s',Inv X pins σ H s'->RelV v w'->Q w' s') :
   wpAny (model X.prog X.w) A (getItem (.ref a) u) Q E s:=by
 rcases g with ⟨kvs,k,e,ey,l⟩|⟨kvs,k,b,e,ey,eb,l⟩
 . subst ey;obtain ⟨z,hd,vs,rel,dd⟩:=xT I.hok e;obtain ⟨w',hw,rw'⟩:=RelO.some_of (v:=v) (o:=valueAt vs k) (by rw [l];exact rel.val k);exact wpAny_getItem_of (yc ry) dd.mapOf hw (h w' _ (I.tok _) rw')
 . subst ey;cases (show u=Value.ref b from ry);obtain ⟨z,hd,xs,rel,dd⟩:=Af I.hok e;obtain ⟨w',hw,rw'⟩:=RelO.some_of (v:=v) (o:=(atKey xs k).map (·.2)) (by rw [l];exact rel.val k);obtain ⟨p,hp,hp2⟩:=Option.map_eq_some_iff.mp hw;refine wpAny_getItem_heap (tupleKind_room_in1 hu) (xp I.hok eb) dd hp ?_;rw [hp2];exact h w' _ (I.tok _) rw'
theorem SN {Q:Value->Shared->Prop} (hu:A.units+1<cLine) (I:Inv X pins σ H s) (g:DGet H a y o) (ry:RelV y u) (h:∀ s',Inv X pins σ H s'->Q (.bool o.isSome) s') :
   wpAny (model X.prog X.w) A (compareOp .In u (.ref a)) Q E s:=by
 rcases g with ⟨kvs,k,e,ey,l⟩|⟨kvs,k,b,e,ey,eb,l⟩
 . subst ey;obtain ⟨z,hd,vs,rel,dd⟩:=xT I.hok e;refine wpAny_in_of (yc ry) hd dd.mapOf ?_;rw [<- (rel.val k).isSome_eq,<- l];exact h _ (I.tok _)
 . subst ey;cases (show u=Value.ref b from ry);obtain ⟨z,hd,xs,rel,dd⟩:=Af I.hok e;refine wpAny_in_heap (tupleKind_room_in1 hu) (xp I.hok eb) hd dd ?_;have q:=(rel.val k).isSome_eq;rw [Option.isSome_map] at q;rw [<- q,<- l];exact h _ (I.tok _)
theorem QE {Q:Value->Shared->Prop} (hu:A.units+1<cLine) (I:Inv X pins σ H s) (g:DGet H a y o) (ry:RelV y u) (h:∀ s',Inv X pins σ H s'->Q (.bool (!o.isSome)) s') :
   wpAny (model X.prog X.w) A (compareOp .NotIn u (.ref a)) Q E s:=by
 rcases g with ⟨kvs,k,e,ey,l⟩|⟨kvs,k,b,e,ey,eb,l⟩
 . subst ey;obtain ⟨z,hd,vs,rel,dd⟩:=xT I.hok e;refine wpAny_notIn_of (yc ry) hd dd.mapOf ?_;rw [<- (rel.val k).isSome_eq,<- l];exact h _ (I.tok _)
 . subst ey;cases (show u=Value.ref b from ry);obtain ⟨z,hd,xs,rel,dd⟩:=Af I.hok e;refine wpAny_notIn_heap (tupleKind_room_in1 hu) (xp I.hok eb) hd dd ?_;have q:=(rel.val k).isSome_eq;rw [Option.isSome_map] at q;rw [<- q,<- l];exact h _ (I.tok _)
theorem B9 {h':Heap} {t':Nat} {ob:HO} (I:Inv X pins σ H s) (mu:Mut (H a)) (hs:Heap.SameBut a s.heap h') (he:∃ q,h'.get? a=some q) (new:ObjOk X.prog X.w (upd H a ob) h' a ob) :
   Inv X pins σ (upd H a ob) { s with heap:=h',toks:=t' } :=
 I.write (x:=a) (e:=a) mu (.inl rfl) (fun b q hb z=>(hs.2 b hb).trans z) he new
theorem KD {P:Program} {w:World} {H':Hp} {h':Heap} {kvs:List (Key × V)} {vs:List (Key × Value)} (z:kvs.length<=sizeLine) (hd:(a == sysModules)=false) (rel:KV kvs vs) (dd:h'.DictOf (dA P w) a vs) :
   ObjOk P w H' h' a (.dK kvs):=⟨z,hd,vs,rel,dd⟩
theorem LK {H':Hp} {Q:Unit->Shared->Prop} (hu:A.units+1<cLine) (I:Inv X pins σ H s) (g:DPut H a y v H') (ry:RelV y u) (rv:RelV v r) (h:∀ s',Inv X pins σ H' s'->Q () s') :
   wpAny (model X.prog X.w) A (setItem (.ref a) u r) Q E s:=by
 rcases g with ⟨kvs,k,e,ey,l,eH⟩|⟨kvs,k,b,e,ey,eb,l,eH⟩
 . subst ey eH;obtain ⟨z,hd,vs,rel,dd⟩:=PP I.hok e;have hz:vs.length<=sizeLine:=by rw [<- rel.length];exact z
   have hl:(dS kvs k v).length<=sizeLine:=by have:=j5 kvs k v;omega
   refine wpAny_setItem_pairs (hsz:=hz) (yc ry) dd fun h' dd' hs=>h _ ?_;have he:∃ q,h'.get? a=some q:=let ⟨q,_,_,hq,_⟩:=dd';⟨q,hq⟩;exact B9 I (by rw [e];exact True.intro) hs he (KD hl hd (rel.put k rv) dd')
 . subst ey eH;cases (show u=Value.ref b from ry);obtain ⟨z,hd,xs,rel,dd⟩:=Pw I.hok e;have hz:xs.length<=sizeLine:=by rw [<- Paired.length rel];exact z
   have hl:(dS kvs k v).length<=sizeLine:=by have:=j5 kvs k v;omega
   refine wpAny_setItem_heap (hsz:=hz) (tupleKind_room_in1 hu) (xp I.hok eb) dd fun h' dd' hs=>h _ ?_;obtain ⟨q,es,ep,hq,h2,h3,h4,_,h5⟩:=dd';refine B9 I (by rw [e];exact True.intro) hs ⟨q,hq⟩ ⟨hl,hd,_,(rel.put k eb rv).keeps fun c ys ec=>?_,q,es,ep,hq,h2,h3,h4,h5⟩;rw [aq (fM ec e (fun z=>nomatch z))];exact ec
end
section
variable {X:Cx} {pins:List (Addr × Obj)} {σ:St} {H:Hp} {s:Shared} {a:Addr} {kvs:List (Key × V)} {k:Key} {u:Value} {A:Around} {E:Value->Shared->Prop}
theorem Sn {Q:Value->Shared->Prop} (I:Inv X pins σ H s) (e:Rd H a (.dK kvs)) (h:∀ t s',Inv X pins σ H s'->Q (.int kvs.length t) s'):wpAny (model X.prog X.w) A (call (.builtin "len") [.ref a]) Q E s:=by
 obtain ⟨z,hd,vs,rel,dd⟩:=xT I.hok e;refine call_len_dict hd dd (by rw [<- rel.length];rw [sizeLine_eq] at z;omega) ?_;rw [<- rel.length];exact h _ _ (I.tok _)
end
def Rg (i:Expr):Prop:=∀ ov iv,subscripted i false ov iv=operate [ov,iv] (getItem ov iv)
theorem QM {prog:Program} {w:World} {A:Around} {E:Value->Shared->Prop} {s:Shared} {env:Env} {value slice:Expr} {pos:Pos} {T id:String} {Q:Value->Shared->Prop}
   (hl:typeLookup (.type T) "__getitem__"=pure (some (.builtin id))) (hs:Rg slice)
   (h:wpAny (model prog w) A (eval value env) (fun o s₁=>wpAny (model prog w) A (eval slice env) (fun i s₂=>s₂.TypeIs o T/\wpAny (model prog w) A (getItem o i) Q E s₂) E s₁) E s) :
   wpAny (model prog w) A (eval (.Subscript value slice pos) env) Q E s:=by
 refine Subscript_ (wpAny_mono h (fun o s₁ h₁=>wpAny_mono h₁ (fun i s₂ h₂=>?_) fun _ _ x=>x) fun _ _ x=>x);obtain ⟨hT,h₂⟩:=h₂;unfold subscriptTail;refine wpAny_bind ?_;rw [getitemInPython_of_ne hT.not_modules];refine wpAny_bind (wpAny_specialOf hT hl ?_);have fin:wpAny (model prog w) A (subscripted slice false o i) (fun r s₃=>wpAny (model prog w) A (letTemporaryGo value o r >>= fun _=>pure r) Q E s₃) E s₂:=by
   rw [hs o i];exact wpAny_operating (wpAny_mono h₂ (fun r s₃ h₃=>wpAny_bind (wpAny_letTemporaryGo (wpAny_pure h₃))) fun _ _ x=>x)
 first
   | exact wpAny_pure (wpAny_bind fin)
   | exact wpAny_bind (wpAny_pure (wpAny_bind fin))
   | exact wpAny_bind fin
theorem GR {X:Cx} {pins:List (Addr × Obj)} {σ:St} {H:Hp} {s:Shared} {a:Addr} {y:V} {o:Option V} (I:Inv X pins σ H s) (g:DGet H a y o):s.TypeIs (.ref a) "dict":=by
 rcases g with ⟨kvs,k,e,_,_⟩|⟨kvs,k,b,e,_,_,_⟩
 . obtain ⟨_,_,vs,_,dd⟩:=xT I.hok e;exact dd.typeIs
 . obtain ⟨_,_,xs,_,dd⟩:=Af I.hok e;exact dd.typeIs
def J5 (td ty:TE):TE:=fun σ H Q=>td σ H fun x H1=>ty σ H1 fun y H2=>∃ a v,x=.ref a/\DGet H2 a y (some v)/\Q v H2
def Pp (ty td:TE):TE:=fun σ H Q=>ty σ H fun y H1=>td σ H1 fun x H2=>∃ a o,x=.ref a/\DGet H2 a y o/\Q (.bl o.isSome) H2
def Bm (ty td:TE):TE:=fun σ H Q=>ty σ H fun y H1=>td σ H1 fun x H2=>∃ a o,x=.ref a/\DGet H2 a y o/\Q (.bl (!o.isSome)) H2
def IK (td ty tv:TE):TS:=fun D σ H=>tv σ H fun v H1=>td σ H1 fun x H2=>ty σ H2 fun y H3=>∃ a H4,x=.ref a/\DPut H3 a y v H4/\D.nx σ H4
section
variable {X:Cx} {o i e value:Expr} {pos pos' tpos:Pos} {td ty tv:TE}
theorem BT (hu:X.A.units+1<cLine) (ho:PE X o td) (hi:PE X i ty) (hs:Rg i):PE X (.Subscript o i pos) (J5 td ty):=by
 intro pins s σ H Q I h;refine QM PySem.F.slot_dict_getitem.lookup hs (bw (ho pins s σ H _ I h) fun u s1 x H1 I1 rx q1=>bw (hi pins s1 σ H1 _ I1 q1) fun iv s2 y H2 I2 ry ⟨a,v,ex,g,q2⟩=>?_);subst ex;obtain rfl:u=Value.ref a:=rx;exact ⟨GR I2 g,K7 hu I2 g ry fun w' s3 I3 rw'=>⟨v,H2,I3,rw',q2⟩⟩
theorem RE (hu:X.A.units+1<cLine) (hi:PE X i ty) (ho:PE X o td):PC X .In i o (Pp ty td):=by
 intro pins s σ H Q I h;refine bw (hi pins s σ H _ I h) fun iv s1 y H1 I1 ry q1=>bw (ho pins s1 σ H1 _ I1 q1) fun u s2 x H2 I2 rx ⟨a,ov,ex,g,q2⟩=>?_;subst ex;obtain rfl:u=Value.ref a:=rx;exact SN hu I2 g ry fun s3 I3=>⟨.bl ov.isSome,H2,I3,rfl,q2⟩
theorem L1 (hu:X.A.units+1<cLine) (hi:PE X i ty) (ho:PE X o td):PC X .NotIn i o (Bm ty td):=by
 intro pins s σ H Q I h;refine bw (hi pins s σ H _ I h) fun iv s1 y H1 I1 ry q1=>bw (ho pins s1 σ H1 _ I1 q1) fun u s2 x H2 I2 rx ⟨a,ov,ex,g,q2⟩=>?_;subst ex;obtain rfl:u=Value.ref a:=rx;exact QE hu I2 g ry fun s3 I3=>⟨.bl (!ov.isSome),H2,I3,rfl,q2⟩
theorem Cc (hu:X.A.units+1<cLine) (ho:PE X o td) (hi:PE X i ty) (hv:PE X value tv) (hs:swapsWith value (some (.Subscript o i pos')) pos.line X.env=pure false) :
   PS X (.Assign [.Subscript o i pos'] value pos) (IK td ty tv):=by
 intro pins s σ H D I h;refine wpAny_Assign_Subscript (bw (hv pins s σ H _ I h) fun r s1 v H1 I1 rv q1=>bw (ho pins s1 σ H1 _ I1 q1) fun u s2 x H2 I2 rx q2=>bw (hi pins s2 σ H2 _ I2 q2) fun iv s3 y H3 I3 ry ⟨a,H4,ex,g,q3⟩=>?_) hs;subst ex;obtain rfl:u=Value.ref a:=rx;exact LK hu I3 g ry rv fun s4 I4=>⟨σ,H4,I4,q3⟩
end
theorem MI {P:Program} {w:World} {H:Hp} (h:Heap) (hb:sysModules<h.objs.size):ObjOk P w H (h.push { cls:=.type "dict",data:=.dict #[] }) h.objs.size (.dK []) :=
 ⟨Nat.zero_le _,beq_eq_false_iff_ne.mpr (Ne.symm (Nat.ne_of_lt hb)),[],.nil,Heap.DictOf.new h⟩
theorem Om {P:Program} {w:World} {H:Hp} (h:Heap) (hb:sysModules<h.objs.size):ObjOk P w H (h.push { cls:=.type "dict",data:=.dict #[] }) h.objs.size (.dT []) :=
 ⟨Nat.zero_le _,beq_eq_false_iff_ne.mpr (Ne.symm (Nat.ne_of_lt hb)),[],.nil,_,#[],0,Heap.get?_push_size _ rfl,⟨rfl,rfl,rfl⟩,rfl,rfl,List.nodup_nil⟩
def Lc:TE:=fun _ H Q=>∀ p,H p=none->Q (.ref p) (upd H p (.dK []))
def tDNewT:TE:=fun _ H Q=>∀ p,H p=none->Q (.ref p) (upd H p (.dT []))
section
variable {X:Cx} {pos:Pos}
theorem N8:PE X (.Dict [] [] pos) tDNewT:=fun pins s σ H Q I h =>
 wpAny_Dict_empty ⟨.ref s.heap.objs.size,_,I.laid (a:=s.heap.objs.size) (o:=.dT []) (t':=s.toks) (fun _ _ q=>Heap.get?_push_of_some _ q) (Nat.le_refl _) (Om s.heap I.big),rfl,h _ (I.hok.fresh (Nat.le_refl _))⟩
end
def rV:List (TE × TE)->St->Hp->(List (V × V)->Hp->Prop)->Prop
 | [],_,H,Q=>Q [] H
 | (tk,tv)::r,σ,H,Q=>tk σ H fun x H1=>tv σ H1 fun y H2=>rV r σ H2 fun ps H3=>Q ((x,y)::ps) H3
abbrev VV:List (V × V)->List (Value × Value)->Prop:=Paired fun p q=>RelV p.1 q.1/\RelV p.2 q.2
def PPs (X:Cx) (pos:Pos) (keys:List (Option Expr)) (values:List Expr) (trs:List (TE × TE)):Prop :=
 ∀ (pins:List (Addr × Obj)) (s:Shared) (σ:St) (H:Hp) (Q:List (V × V)->Hp->Prop),Inv X pins σ H s->rV trs σ H Q ->
   wpAny (model X.prog X.w) X.A (evalPairs (pairTrees keys values X.env pos)) (fun vs s'=>∃ ps H',Inv X pins σ H' s'/\VV ps vs/\Q ps H') X.xe s
theorem Qh {X:Cx} {pos:Pos}:PPs X pos [] [] []:=fun pins s σ H Q I h=>pairTrees_nil_walk ⟨[],H,I,.nil,h⟩
theorem Ow {X:Cx} {pos:Pos} {k v:Expr} {ks:List (Option Expr)} {vs:List Expr} {tk tv:TE} {trs:List (TE × TE)} (hk:PE X k tk) (hv:PE X v tv) (hr:PPs X pos ks vs trs) :
   PPs X pos (some k::ks) (v::vs) ((tk,tv)::trs):=fun pins s σ H Q I h =>
 pairTrees_cons_walk (bw (hk pins s σ H _ I h) fun u s1 x H1 I1 rx q1=>bw (hv pins s1 σ H1 _ I1 q1) fun w2 s2 y H2 I2 ry q2 =>
   thn (hr pins s2 σ H2 _ I2 q2) fun ws s3 ⟨ps,H3,I3,rel,q3⟩=>⟨(x,y)::ps,H3,I3,.cons ⟨rx,ry⟩ rel,q3⟩)
def rX (kvs more:List (Key × V)):List (Key × V):=more.foldl (fun acc kv=>dS acc kv.1 kv.2) kvs
theorem KV.merge:∀ {more:List (Key × V)} {rs:List (Key × Value)} {kvs:List (Key × V)} {vs:List (Key × Value)},KV more rs->KV kvs vs->KV (rX kvs more) (merged vs rs):=by
 intro more rs kvs vs r;unfold KV at r
 induction r generalizing kvs vs with
 | nil=>intro q;exact q
 | @cons p q ps qs h t ih =>
   intro r0;have e:KV (dS kvs p.1 p.2) (stored vs q.1 q.2):=by
     have:=r0.put p.1 h.2;rw [<- h.1];exact this
   exact ih e
theorem vx:∀ (more kvs:List (Key × V)),(rX kvs more).length<=kvs.length+more.length
 | [],kvs=>by show kvs.length<=kvs.length+0;omega
 | p::r,kvs=>by
   have h1:=vx r (dS kvs p.1 p.2);have h2:=j5 kvs p.1 p.2;show (rX (dS kvs p.1 p.2) r).length<=_;rw [List.length_cons];omega
theorem zS {P:Program} {w:World}:∀ {kvs:List (Key × V)} {ws:List (Value × Value)},VV (kvs.map fun kv=>(kV kv.1,kv.2)) ws->∃ rs,Carries (dA P w) ws rs/\KV kvs rs
 | [],_,r=>by rw [List.map_nil] at r;cases r;exact ⟨[],True.intro,.nil⟩
 | p::kvs,_,r=>by
   rw [List.map_cons] at r;cases r with
   | @cons a b as bs h t =>
     obtain ⟨rs,c,q⟩:=zS (P:=P) (w:=w) t;obtain ⟨b1,b2⟩:=b;exact ⟨(p.1,b2)::rs,⟨yc h.1,rfl,c⟩,.cons ⟨rfl,h.2⟩ q⟩
def JQ (trs:List (TE × TE)):TE:=fun σ H Q=>∀ p,H p=none->rV trs σ (upd H p (.dK [])) fun ps H2=>H2 p=some (.dK [])/\∃ kvs:List (Key × V),ps=kvs.map (fun kv=>(kV kv.1,kv.2))/\kvs.length<=15/\Q (.ref p) (upd H2 p (.dK (rX [] kvs)))
theorem Qk {X:Cx} {pos:Pos} {keys:List (Option Expr)} {values:List Expr} {trs:List (TE × TE)} (h:PPs X pos keys values trs) (hall:keys.all (·.isSome)=true) (hl:keys.length=values.length) (h0:keys≠[])
   (h15:keys.length<=15):PE X (.Dict keys values pos) (JQ trs):=by
 intro pins s σ H Q I q;have hn:=I.hok.fresh (Nat.le_refl s.heap.objs.size);have I1:=I.laid (a:=s.heap.objs.size) (o:=.dK []) (h':=s.heap.push { cls:=.type "dict",data:=.dict #[] }) (t':=s.toks) (fun _ _ q=>Heap.get?_push_of_some _ q) (Nat.le_refl _) (MI s.heap I.big);refine wpAny_Dict_walk (knd:=dA X.prog X.w) hall hl h0 h15 (thn (h pins _ σ _ _ I1 (q _ hn)) fun ws s2 ⟨ps,H2,I2,rel,e,kvs,ep,lk,q2⟩=>?_);subst ep;obtain ⟨rs,c,rk⟩:=zS (P:=X.prog) (w:=X.w) rel;obtain ⟨z,hd,vs0,r0,dd⟩:=PP I2.hok e;cases r0;refine ⟨rs,c,dd,fun h' dd' hs=>⟨.ref s.heap.objs.size,_,?_,rfl,q2⟩⟩;have hz:(rX [] kvs).length<=sizeLine:=by
   have h1:=vx kvs [];rw [List.length_nil] at h1;rw [sizeLine_eq];omega
 have he:∃ q,h'.get? s.heap.objs.size=some q:=let ⟨q,_,_,hq,_⟩:=dd';⟨q,hq⟩;exact B9 I2 (by rw [e];exact True.intro) hs he (KD hz hd (rk.merge .nil) dd')
section
variable {X:Cx} {pins:List (Addr × Obj)} {σ:St} {H:Hp} {s:Shared} {a:Addr} {y d:V} {u r:Value} {o:Option V} {A:Around} {E:Value->Shared->Prop}
end
section
variable {X:Cx} {o e f:Expr} {apos cpos:Pos} {td ty tx:TE}
end
section
variable {X:Cx} {pins:List (Addr × Obj)} {σ:St} {H:Hp} {s:Shared} {a:Addr} {kvs:List (Key × V)} {A:Around} {E:Value->Shared->Prop}
end
section
variable {X:Cx} {pins:List (Addr × Obj)} {σ:St} {H:Hp} {s:Shared} {a:Addr} {y:V} {u:Value} {A:Around} {E:Value->Shared->Prop}
end
end L2
namespace Att
open PySem PySem.W PySem.Calls PyProof.Rows
theorem AX {P:Params} {h:Heap}:∀ (ns:List Int) (vs:List Value),WellAll P h vs (ns.map WData.int)->IntsAre vs ns:=by
 intro ns
 induction ns with
 | nil =>
   intro vs w;rw [List.map_nil] at w;cases w;exact .nil
 | cons n ns ih =>
   intro vs w;rw [List.map_cons] at w;cases w with
   | cons a b =>
     cases a;exact .cons _ _ (ih _ b)
theorem K0 {l:OpenLaw} {n:Nat} (hn:l.most=some n) {P:Params} {h:Heap} {args:List WData} {vals:List Value}
   (hpre:l.row.toRowW.claim.pre args=true) (hwl:WellAll P h vals args) :
   ∃ a vs ns,vals=[Value.ref a]/\args=[WData.list (ns.map WData.int)]/\h.get? a=some { cls:=.type "list",data:=.seq vs.toArray }/\IntsAre vs ns/\ns.length<=n:=by
 have hsh:WShape.hasAll [] args [.list .int]=true:=(pre_splitW hpre).1;have hc:l.pre.holds [] { args:=args }=true:=(pre_splitW hpre).2;obtain ⟨d,r,rfl,h1,h2⟩:=hasAllW_cons hsh;obtain rfl:=hasAllW_nil h2;obtain ⟨xs,rfl,h3⟩:=hasW_list h1;obtain ⟨ns,rfl⟩:=items_int h3;have hlen:ns.length<=n:=by
   unfold OpenLaw.pre at hc;have h4:(WTm.not (.lt (.lit (.int (n:Int))) (.len (.arg 0)))).holds [] { args:=[.list (ns.map .int)] }=true:=by
     have h4:=(holds_andW hc).1;rw [hn] at h4;exact h4
   have h5:=condW_of h4 (w_not (w_lt w_lit (w_len_list (w_arg rfl))));rw [List.length_map] at h5;refine Nat.le_of_not_lt fun q=>?_;have q':(n:Int)<((ns.length:Nat):Int):=by omega
   first
     | (rw [decide_eq_true q'] at h5;exact absurd h5 (by decide))
     | (simp at h5;omega)
 cases hwl with
 | cons w1 w2 =>
   cases w2;cases w1 with
   | list ho hall=>exact ⟨_,_,ns,rfl,rfl,ho,AX ns _ hall,hlen⟩
theorem LQ (l:OpenLaw) (args:List WData):l.row.toRowW.claim.post args (.bool true) args=true :=
 postW_of (r:=l.row.toRowW) (X:=(true == true))
   (show WShape.has [] (.bool true) .bool=true by first|rfl|decide|simp [WShape.has,WShape.arms,WShape.armsAll])
   (show (WTm.eq .res (.lit (.bool true))).value [] { args:=args,res:=some (.bool true),after:=args }=some (.bool (true == true)) from w_eq_bool (w_res rfl) w_lit) rfl
theorem attach_call {l:OpenLaw} {n:Nat} {q:Program} {loose:List Str} {XP:(Str->Option Value)->Heap->Prop} {YP:World->Heap->Prop} {d:DefRec}
   (hn:l.most=some n) (hdf:d.params.defaults=[])
   (call:∀ (w:World) (s₀ s₁:Shared) (mg mb:Str->Option Value) (fa:Addr) (o:Obj) (pm cd doc:Value) (a:Addr) (vs:List Value) (ns:List Int),
     Ground q loose [] XP w s₀ mg mb s₁.heap->YP w s₁.heap ->
     s₁.heap.get? fa=some o->o.data=.func (docDef d.name d.params d.body d.scope pm cd doc)->s₁.heap.CodeRec cd d.name->mg d.name=some (.ref fa) ->
     s₁.heap.get? a=some { cls:=.type "list",data:=.seq vs.toArray }->IntsAre vs ns->ns.length<=n->s₁.gens=#[] ->
     codeAny (model l.prog w) callerA (.call (.ref fa) ⟨[.ref a],[]⟩) (fun r s'=>r=.ok (.ret (.bool true))/\OldK s₁.heap s'.heap/\s'.os=s₁.os/\AllBare s'.gens) s₁) :
   WalkO q loose XP YP l.row.toRowW d [] (fun f vs=>PySem.call f vs):=by
 intro w s₀ s₁ mg mb G Y fa o pm cd doc dV kV ho hd hcd hD hmg hg args vals as hpre hlay hrd hwl hlo;obtain rfl:dV=.none:=Dflts.none hD hdf;obtain rfl:kV=.none:=Dflts.noKw hD;obtain ⟨a,vs,ns,rfl,rfl,hobj,hints,hlen⟩:=K0 hn hpre hwl;refine enter_call (codeAny_mono (call w s₀ s₁ mg mb fa o pm cd doc a vs ns G Y ho (fd_plain hd) hcd hmg hobj hints hlen hg) fun r s' hq=>?_);obtain ⟨rfl,h2,h3,h4⟩:=hq;exact ⟨.inl ⟨.bool true,.bool true,[],rfl,fun _=>rfl,.bool true,LQ l _,fun _=>⟨List.Pairwise.nil,fun _ hm=>(nomatch hm)⟩⟩,h2,h3,h4⟩
section
variable {prog:Program} {w:World} {A:Around} {E:Value->Shared->Prop} {s:Shared} {K:Frag}
end
end Att
namespace L2
open PySem PySem.Spec PyProof.Rows
theorem CT:∀ {vs:List Value} {ns:List Int},IntsAre vs ns->Vals (ns.map V.int) vs
 | _,_,.nil=>.nil
 | _,_,.cons n t h=>.cons ⟨t,rfl⟩ (CT h)
def Pq (H:Hp):Prop:=∀ b,H b=none\/∃ o xs,H b=some (.frz o (.lst xs))
theorem Pe {P:Program} {w:World} {K:PySem.W.Frag} {mg mb:Str->Option Value} {CX:CXT} {k:Nat} {fa a:Addr} {fd:FuncData} {x:Str} {sp:Sp} {s₁:Shared} {vs:List Value} {ns:List Int}
   (KX:K.In s₁.heap) (hns:s₁.heap.Ns mainGlobals mg) (hb:s₁.heap.Ns builtinsNs mb) (hbb:∀ x:Str,x≠"__name__"->mb x=bootBuiltins x) (hlim:s₁.heap.NoLimit) (hg:s₁.gens=#[])
   (ha:s₁.heap.get? a=some { cls:=.type "list",data:=.seq vs.toArray }) (hi:IntsAre vs ns) (hl:ns.length<=sizeLine) (hr:Room k callerA)
   (F:∀ base:Heap,K.In base->base.Ns mainGlobals mg->FnOk P w K mg base CX k fa fd [x] sp) (hbind:∀ (s:Shared) (u:Value),BindsTo s fd ⟨[u],[]⟩ [(x,u)])
   (hsp:∀ H:Hp,Pq H->SqL K H a (ns.map V.int)->sp [.ref a] H (fun v _=>v=.bl true) fun _ _ _=>False)
   (hCX:∀ H e s',CX [] H s₁ (fun _ _ _=>False) e s'->False) :
   codeAny (model P w) callerA (.call (.ref fa) ⟨[.ref a],[]⟩) (fun r s'=>r=.ok (.ret (.bool true))/\OldK s₁.heap s'.heap/\s'.os=s₁.os/\AllBare s'.gens) s₁:=by
 have rv:=CT hi;have lenV:=hi.length;have core:∀ H:Hp,Pq H->SqL K H a (ns.map V.int)->HOk P w H s₁.heap->(∀ b,H b≠none->b=a)->(H a≠none->K.lookup a=none) ->
     codeAny (model P w) callerA (.call (.ref fa) ⟨[.ref a],[]⟩) (fun r s'=>r=.ok (.ret (.bool true))/\OldK s₁.heap s'.heap/\s'.os=s₁.os/\AllBare s'.gens) s₁:=by
   intro H hO hS hok hA hK;have base_of:∀ {b:Addr} {o:Obj},s₁.heap.get? b=some o->H b=none->(uT s₁.heap H).get? b=some o:=fun e n=>NZ e n;have noA:∀ {b:Addr} {o:Obj} {es:Array DictEntry} {ep:Nat},s₁.heap.get? b=some o->o.data=.dict es ep->H b=none:=fun {b o es ep} e d=>by
     cases q:H b with
     | none=>rfl
     | some u =>
       have e':b=a:=hA b (by rw [q];simp);subst e';rw [ha] at e;cases e;have d':Data.seq vs.toArray _=Data.dict es ep:=d;cases d'
   have nsK:∀ {b:Addr} {m:Str->Option Value},s₁.heap.Ns b m->(uT s₁.heap H).Ns b m:=fun {b m} ⟨o,es,ep,e,d,r⟩=>⟨o,es,ep,base_of e (noA e d),d,r⟩;have hKb:K.In (uT s₁.heap H):=fun b o e=>base_of (KX b o e) (by
     cases q:H b with
     | none=>rfl
     | some u =>
       have e':b=a:=hA b (by rw [q];simp);subst e';rw [hK (by rw [q];simp)] at e;cases e)
   have hM:Mod K mg (uT s₁.heap H):=⟨hKb,nsK hns,⟨mb,nsK hb,hbb⟩,let ⟨mc,h1,h2⟩:=hlim;⟨mc,nsK h1,h2⟩⟩;have e0:Env0 P w K mg (uT s₁.heap H) callerA [] s₁ H:=⟨rfl,hM,fun b o e=>Qr e,Nat.le_of_eq (K5 _ _),trivial,fun b hb=>absurd (show b∈([]:List Addr) from hb) (by simp),hok,.of_eq hg⟩;refine codeAny_mono ((F _ hKb (nsK hns)).run callerA [] s₁ H ⟨[.ref a],[]⟩ [.ref a] [.ref a] _ _ hr e0 (hbind s₁ (.ref a)) (.cons rfl .nil) (hsp H hO hS)) fun r s' h=>?_;cases r with
   | error e=>exact (hCX H e s' h).elim
   | ok fl =>
     cases fl with
     | next=>exact False.elim h
     | brk=>exact False.elim h
     | cont=>exact False.elim h
     | ret u =>
       obtain ⟨v,H',os,bare,un,hok',r',q⟩:=h;have q':v=.bl true:=q;subst q';obtain rfl:u=Value.bool true:=r';refine ⟨rfl,OldK.of_keep fun b o e=>?_,os,bare⟩;cases q:H b with
       | none=>exact un.keep b o e q (by intro z;exact absurd (show b∈([]:List Addr) from z) (by simp)) (by simp)
       | some u =>
         rcases hO b with z|⟨ob,xs,z⟩
         . rw [q] at z;cases z
         . have z2:=un.frzs b ob _ z;obtain ⟨e1,_⟩:=hok b _ z;obtain ⟨e2,_⟩:=hok' b _ z2;rw [e] at e1;cases e1;exact e2
 cases hk:K.lookup a with
 | some o =>
   have e:=KX a o hk;rw [ha] at e;cases e;refine core (fun _=>none) (fun _=>.inl rfl) (.inr ⟨_,vs.toArray,_,hk,rfl,rfl,rfl,by rw [List.size_toArray,lenV];exact hl,by simpa using rv⟩) (fun b u z=>by have z':(none:Option HO)=some u:=z;cases z') (fun b z=>absurd rfl z) fun z=>absurd rfl z
 | none =>
   refine core (fun b=>if b=a then some (.frz { cls:=.type "list",data:=.seq vs.toArray } (.lst (ns.map V.int))) else none) (fun b=>?_) (.inl (.inr ⟨{ cls:=.type "list",data:=.seq vs.toArray },if_pos rfl⟩)) (fun b u z=>?_) (fun b z=>?_) fun _=>hk
   . by_cases hb:b=a
     . exact .inr ⟨_,_,if_pos hb⟩
     . exact .inl (if_neg hb)
   . by_cases hb:b=a
     . have z':=(if_pos hb).symm.trans z;cases z';subst hb;exact ⟨ha,by rw [List.length_map];exact hl,vs,_,rv,ha⟩
     . have z':=(if_neg hb).symm.trans z;cases z'
   . by_cases hb:b=a
     . exact hb
     . exact absurd (if_neg hb) z
end L2
namespace L2
open PySem PySem.Spec PyProof.Rows
theorem walk_of {l:PySem.W.OpenLaw} {n k:Nat} {q:Program} {loose:List Str} {XP:(Str->Option Value)->Heap->Prop} {YP:World->Heap->Prop} {d:DefRec} {K:Params->PySem.W.Frag} {CX:World->CXT} {sp:World->Sp} {x:Str}
   (hn:l.most=some n) (hn2:n<=sizeLine) (hdf:d.params.defaults=[]) (hr:Room k callerA)
   (hY:∀ (w:World) (h:Heap),YP w h->(K w.params).In h)
   (F:∀ (w:World) (mg:Str->Option Value) (fa:Addr) (h:Heap),(K w.params).In h->h.Ns mainGlobals mg->mg d.name=some (.ref fa) ->
     ∃ fd:FuncData,(∀ (s:Shared) (u:Value),BindsTo s fd ⟨[u],[]⟩ [(x,u)]) /\
       ∀ base:Heap,(K w.params).In base->base.Ns mainGlobals mg->FnOk l.prog w (K w.params) mg base (CX w) k fa fd [x] (sp w))
   (hsp:∀ (w:World) (H:Hp) (a:Addr) (ns:List Int),ns.length<=n->Pq H->SqL (K w.params) H a (ns.map V.int)->sp w [.ref a] H (fun v _=>v=.bl true) fun _ _ _=>False)
   (hCX:∀ (w:World) (H:Hp) (s:Shared) (e:Value) (s':Shared),CX w [] H s (fun _ _ _=>False) e s'->False) :
   PySem.W.WalkO q loose XP YP l.row.toRowW d [] (fun f vs=>PySem.call f vs):=by
 refine Att.attach_call hn hdf fun w s₀ s₁ mg mb fa o pm cd doc a vs ns G Y ho hd hcd hmg hobj hints hlen hg=>?_;have KX:=hY w _ Y;obtain ⟨fd,hb,hF⟩:=F w mg fa _ KX G.T.g hmg;exact Pe KX G.T.g G.T.b G.T.builtins G.T.nolimit hg hobj hints (Nat.le_trans hlen hn2) hr hF hb (fun H hO hS=>hsp w H a ns hlen hO hS) fun H e s'=>hCX w H s₁ e s'
end L2
namespace L2
open PySem PySem.Spec PyProof.Rows
def Hm (s:Stmt) (j:Nat):Stmt:=match s with
 | .ClassDef _ _ _ body _ _ _ _ _ _ _=>body.getD j (.Pass ⟨0,0,0,0⟩)
 | _=>.Pass ⟨0,0,0,0⟩
def aF (s:Stmt):Arguments:=match s with
 | .FunctionDef _ a _ _ _ _ _ _ _ _=>a
 | _=>{ posonlyargs:=[],args:=[],vararg:=none,kwonlyargs:=[],kw_defaults:=[],kwarg:=none,defaults:=[] }
def aD (s:Stmt):List Stmt:=match s with
 | .FunctionDef _ _ b _ _ _ _ _ _ _=>b
 | _=>[]
def aa (s:Stmt):Scope:=match s with
 | .FunctionDef _ _ _ _ _ _ sc _ _ _=>sc
 | _=>{ kind:=.function,names:=[],isGenerator:=false,isCoroutine:=false }
abbrev CX0:CXT:=fun _ _ _ _ _ _=>False
abbrev E0:XK:=fun _ _ _=>False
structure Fun (K:PySem.W.Frag) (x qual:Str) (st:Stmt) (f:Addr) (fd:FuncData):Prop where
 ex:∃ (oc:Value) (od:Option Addr) (kV doc pm:Value) (an:Option Addr) (cdv ct:Value) (osl:Array (Option Value)),
   fd=PySem.W.fnOf x qual (aF st) (aD st) (aa st) .none kV doc pm an cdv ct/\K.lookup f=some ⟨oc,od,.func fd,osl⟩/\PySem.W.codeIn K cdv qual=true
 kp:PySem.W.keepIn K (.ref f)=true
section
variable {P:Program} {w:World} {K:PySem.W.Frag} {mg:Str->Option Value} {base:Heap}
theorem Fun.binds {x qual:Str} {st:Stmt} {f:Addr} {fd:FuncData} {ps:List Str} (F:Fun K x qual st f fd)
   (h:∀ (kV doc pm:Value) (an:Option Addr) (cdv ct:Value) (us:List Value),us.length=ps.length->bindArgs (PySem.W.fnOf x qual (aF st) (aD st) (aa st) .none kV doc pm an cdv ct) ⟨us,[]⟩=pure (ps.zip us)):Binds K fd ps []:=by
 obtain ⟨oc,od,kV,doc,pm,an,cdv,ct,osl,rfl,lk,hcd⟩:=F.ex;exact .all (h kV doc pm an cdv ct)
theorem aP {x qual:Str} {st:Stmt} {f:Addr} {oc:Value} {od an:Option Addr} {osl:Array (Option Value)} {kV doc pm cdv ct:Value} (l:K.lookup f=some ⟨oc,od,.func (PySem.W.fnOf x qual (aF st) (aD st) (aa st) .none kV doc pm an cdv ct),osl⟩)
   (c:PySem.W.codeIn K cdv qual=true) (k:PySem.W.keepIn K (.ref f)=true):Fun K x qual st f (PySem.W.fnOf x qual (aF st) (aD st) (aa st) .none kV doc pm an cdv ct):=⟨⟨oc,od,kV,doc,pm,an,cdv,ct,osl,rfl,l,c⟩,k⟩
end
theorem Ai {A:Around} {k:Nat} (hr:Room k A):A.units+1<cLine:=Nat.lt_of_le_of_lt (Nat.add_le_add_left (by decide:1<=64) _) hr.units
section
variable {X:Cx}
theorem pv (i:Nat) {x:Str} {pos:Pos} (hN:X.N[i]?=some x:=by rfl) (hv:Vis X.env.scope x:=by first|exact Or.inl rfl|exact Or.inr (Or.inl rfl)|exact Or.inr (Or.inr rfl)) (hd:(x == ("__debug__":Str))=false:=by decide)
   (hcd:(x == ("__classdict__":Str))=false:=by decide):PE X (.Name x pos) (BJ i):=Fc hN hv hd hcd
end
theorem SM {A B:Prop} (h:B):if false=true then A else B:=by
 rw [if_neg Bool.false_ne_true];exact h
theorem SC {A B:Prop} (h:A):if true=true then A else B:=by
 rw [if_pos rfl];exact h
def Same (H H':Hp):Prop:=∀ b o,H b=some o->H' b=some o
theorem Same.refl (H:Hp):Same H H:=fun _ _ h=>h
theorem Same.trans {H H1 H2:Hp} (a:Same H H1) (b:Same H1 H2):Same H H2:=fun c o h=>b c o (a c o h)
theorem Same.free {H H':Hp} (e:Same H H') {l:Addr} (h:H' l=Option.none):H l=Option.none:=by
 cases q:H l with
 | none=>rfl
 | some o =>
   rw [e l o q] at h;cases h
theorem Same.seq {K:PySem.W.Frag} {H H':Hp} {a:Addr} {xs:List V} (e:Same H H') (h:SqL K H a xs):SqL K H' a xs:=by
 rcases h with (h|⟨o,h⟩)|h
 . exact .inl (.inl (e _ _ h))
 . exact .inl (.inr ⟨o,e _ _ h⟩)
 . exact .inr h
end L2
namespace L2
open PySem PySem.Spec PyProof.Rows
section
variable {X:Cx}
theorem LX:jM X (.builtin "len") (fun xs H Q=>∃ a kvs,xs=[V.ref a]/\H a=some (.dK kvs)/\Q (.int kvs.length) H):=by
 intro pins s σ H xs us Q I r h;obtain ⟨a,kvs,rfl,ha,q⟩:=h;obtain ⟨u,rfl,ru⟩:=mY r;cases ru;exact Sn I (.inl ha) fun t s' I'=>⟨.int kvs.length,H,I',⟨t,rfl⟩,q⟩
end
section
variable {κ:Type} [DecidableEq κ]
end
end L2
set_option Elab.async false
set_option linter.all false
set_option maxRecDepth 100000
namespace L2
open PySem PySem.Spec PyProof.Rows
def Cx.comp (X:Cx) (Nc:List Str) (scope:Scope) (cl:List (Str × Addr)) (C:Addr) (s₂:Shared) (H₁:Hp) (fp:List Addr):Cx where
 prog:=X.prog
 w:=X.w
 K:=X.K
 mg:=X.mg
 base:=X.base
 A:=X.A
 N:=Nc
 s₀:=s₂
 H₀:=H₁
 env:=compEnvC scope cl C X.env
 outer:=X.stack
 stack:=X.stack
 ex:=fp
 fn:=fun _=>false
 calm:=X.calm
 pn:=[]
 xe:=fun _ _=>False
structure CompTxt (X:Cx) (Nc:List Str) (own:Nat) (js:List Nat) (scope:Scope) (cl:List (Str × Addr)):Prop where
 clos:closureFor scope X.env=pure cl
 kind:scope.kind=.function
 nocell:∀ y∈scope.names,y.2≠.cell
 names:∀ y∈scope.names,y.2=.local->scope.names.lookup y.1=some .local
 cells:∀ x c,cl.lookup x=some c->X.env.cells.lookup x=some c
 has:∀ x,((relabel scope X.env).names.lookup x=some .cell\/(relabel scope X.env).names.lookup x=some .free)->∃ c,cl.lookup x=some c
 len:Nc.length=own+js.length
 outer:∀ i x,Nc[own+i]?=some x->∃ j,js[i]?=some j/\X.N[j]?=some x/\X.env.scope.names.lookup x=some .cell/\(relabel scope X.env).names.lookup x=some .cell
def hZ (own:Nat) (js:List Nat) (σ:St):St:=List.replicate own none++js.map fun j=>(σ[j]?).getD none
def J7 (own:Nat) (js:List Nat) (wi:TI) (g:TG) (tc:TT) (te:TE):TE:=fun σ H Q=>wi σ H fun J H1=>∀ p,H1 p=none ->
 ∃ W:Nat->Nat->List V->St->Hp->Prop,(∃ m,W 0 m [] (hZ own js σ) (upd H1 p (.lst [])))/\∀ i m ys σc Hc,W i m ys σc Hc ->
   (J.stop i Hc/\Q (.ref p) Hc)\/(J.go i Hc/\∀ x H',J.yld i Hc x H'->g x σc H' fun σ2 H2=>tc σ2 H2 fun b H3 =>
     if b=true then te σ2 H3 fun y H4=>H4 p=some (.lst ys)/\ys.length<sizeLine/\∃ m',m'<m/\W (i+1) m' (ys++[y]) σ2 (upd H4 p (.lst (ys++[y])))
     else ∃ m',m'<m/\W (i+1) m' ys σ2 H3)
def PTs (X:Cx) (ifs:List Expr) (t:TT):Prop :=
 ∀ (pins:List (Addr × Obj)) (s:Shared) (σ:St) (H:Hp) (Q:Bool->Hp->Prop),Inv X pins σ H s->t σ H Q ->
   wpAny (model X.prog X.w) X.A (forIn ifs true fun c r=>if r=true then do let ok <- isTrue c X.env (eval c X.env);pure (ForInStep.yield ok) else pure (ForInStep.yield r)) (TP X pins σ Q) X.xe s
def tYes:TT:=fun _ H Q=>Q true H
theorem sD {X:Cx}:PTs X [] tYes:=fun pins s σ H Q I h=>wpAny_tests_nil ⟨H,I,h⟩
theorem BF {X:Cx} {c:Expr} {t:TT} (h:PT X c t):PTs X [c] t:=fun pins s σ H Q I q=>wpAny_tests_one (h pins s σ H Q I q)
section
variable {prog:Program} {w:World} {A:Around} {E:Value->Shared->Prop} {R:Result->Shared->Prop} {s:Shared}
theorem yD {elt target iter:Expr} {ifs:List Expr} {scope:Scope} {pos:Pos} {it acc:Value} {env:Env} (I:Nat->Shared->Prop)
   (turn:∀ n s,I n s->wpAny (model prog w) A (pyNext it) (fun r s₁=>match r with
     | none=>R (.ok .next) s₁
     | some v=>wpAny (model prog w) A (letOwnedTupleGo target it v) (fun _ s₁'=>wpAny (model prog w) A (assign target env v) (fun _ s₂ =>
         wpAny (model prog w) A (forIn ifs true fun c r=>if r=true then do let ok <- isTrue c env (eval c env);pure (ForInStep.yield ok) else pure (ForInStep.yield r)) (fun ok s₃ =>
           if ok=true then wpAny (model prog w) A (eval elt env) (fun x s₄ =>
             wpAny (model prog w) A (call (.builtin "list.append") [acc,x]) (fun _ s₅=>∃ m,m<n/\I m s₅) (fun _ _=>False) s₄) (fun _ _=>False) s₃
           else ∃ m,m<n/\I m s₃) (fun _ _=>False) s₂) (fun _ _=>False) s₁') (fun _ _=>False) s₁) (fun _ _=>False) s)
   (n:Nat) (h:I n s) :
   codeAny (model prog w) A (.compLoop (.ListComp elt [⟨target,iter,ifs,0⟩] scope pos) 0 it acc env) R s:=by
 refine codeAny_loop rfl I (fun n s hI=>?_) n h;show wpAny _ A ((compTurn (.ListComp elt [⟨target,iter,ifs,0⟩] scope pos) 0 it acc env).onRaise (fun x=>do noteFrame x env;theTreesLotGoes x)) _ _ s;refine wpAny_noted ?_;rw [compTurn_list];refine wpAny_bind (wpAny_standAt (wpAny_bind (wpAny_mono (turn n s hI) (fun r s₁ h₁=>?_) fun _ _ h'=>h'.elim)));cases r with
 | none=>exact wpAny_pure h₁
 | some v =>
   refine wpAny_bind (wpAny_mono h₁ (fun _ s₁' h₁'=>?_) fun _ _ h'=>h'.elim);refine wpAny_bind (wpAny_mono h₁' (fun _ s₂ h₂=>wpAny_bind (wpAny_mono h₂ (fun ok s₃ h₃=>?_) fun _ _ h'=>h'.elim)) fun _ _ h'=>h'.elim);cases ok with
   | true =>
     rw [if_pos rfl] at h₃;simp only [if_true];exact wpAny_bind (wpAny_bind (wpAny_mono h₃ (fun x s₄ h₄=>wpAny_bind (wpAny_mono h₄ (fun _ s₅ h₅=>wpAny_pure (wpAny_pure ⟨rfl,h₅⟩)) fun _ _ h'=>h'.elim)) fun _ _ h'=>h'.elim))
   | false =>
     rw [if_neg Bool.false_ne_true] at h₃;simp only [Bool.false_eq_true,if_false]
     first
       | exact wpAny_pure ⟨rfl,h₃⟩
       | exact wpAny_bind (wpAny_pure (wpAny_pure ⟨rfl,h₃⟩))
end
end L2
set_option Elab.async false
set_option linter.all false
set_option maxRecDepth 100000
namespace L2
open PySem PySem.Spec PyProof.Rows
section
variable {X:Cx} {Nc:List Str} {own:Nat} {js:List Nat} {scope:Scope} {cl:List (Str × Addr)}
theorem Ch {pins:List (Addr × Obj)} {σ:St} {H₁:Hp} {s₂:Shared} {C:Addr} {fp:List Addr} (T:CompTxt X Nc own js scope cl) (I:Inv X pins σ H₁ s₂) (hC:s₂.heap.objs.size<=C)
   (f1:∀ b∈fp,kF X pins H₁ b) (hlt:∀ b∈fp,b<s₂.heap.objs.size):(X.comp Nc scope cl C s₂ H₁ fp).Ok where
 mod:=I.ok.mod
 kind:=by show (relabel scope X.env).kind=_;exact T.kind
 glob:=I.ok.glob
 blt:=I.ok.blt
 above:=hC
 inj:=fun x y c h1 h2=>I.ok.inj x y c (T.cells x c h1) (T.cells y c h2)
 has:=fun x h=>T.has x h
 cab:=fun x c h=>by cases h
 hd:=I.ok.hd
 frames:=I.ok.frames
 stk:=.inl rfl
 exf:=fun b hb=>⟨Nat.ne_of_lt (Nat.lt_of_lt_of_le (hlt b hb) hC),fun x c h=>(f1 b hb).2.2.2.2.1 x c (T.cells x c h)⟩
 bs:=I.bs
 bsz:=Nat.le_trans I.ok.bsz I.sz
 noex:=fun b o e hb=>by
   rcases (f1 b hb).2.2.2.1 with z|z
   . exact I.ok.noex b o e z
   . exact absurd (Nat.lt_of_lt_of_le (Heap.lt_size (I.ok.bs b o e).1) z) (Nat.lt_irrefl _)
 exfs:=fun b hb hs=>by
   rcases List.mem_cons.mp (I.stkSub b hs) with z|z
   . exact (f1 b hb).2.1 z
   . exact (f1 b hb).2.2.1 z
 funs:=I.stack
 frf:=I.stkFree
theorem Ed {pins:List (Addr × Obj)} {σ:St} {H₁:Hp} {s₂:Shared} {C D:Addr} {fp:List Addr} {h₁:Heap} {t:Nat} {m:Str->Option Value} (T:CompTxt X Nc own js scope cl) (I:Inv X pins σ H₁ s₂) (hC:s₂.heap.objs.size<=C)
   (hD:s₂.heap.objs.size<=D) (hDC:D≠C) (f1:∀ b∈fp,kF X pins H₁ b) (hlt:∀ b∈fp,b<s₂.heap.objs.size) (old:∀ b o,s₂.heap.get? b=some o->h₁.get? b=some o) (hns:h₁.Ns C m)
   (hacc:∃ n,h₁.get? D=some { cls:=.type "list",data:=.seq ([]:List Value).toArray n }) :
   Inv (X.comp Nc scope cl C s₂ H₁ fp) [] (hZ own js σ) (upd H₁ D (.lst [])) { s₂ with heap:=h₁,toks:=t }:=by
 obtain ⟨na,hacc⟩:=hacc;have cellK:∀ c v,s₂.heap.IsCell c v->h₁.IsCell c v:=fun c v ⟨o,ho,hd⟩=>⟨o,old c o ho,hd⟩;refine ⟨Ch T I hC f1 hlt,rfl,I.bare,Un.laid old hD (I.hok.fresh hD),⟨m,hns,fun i x v e1 e2 e3=>?_⟩,fun x c e=>?_,?_,fun x c e=>?_,fun p hp=>(by cases hp),I.hok.laid old hD ?_,?_⟩
 . have hN:Nc[i]?=some x:=e1;have hσ:(hZ own js σ)[i]?=some (some v):=e2;unfold hZ at hσ;by_cases hi:i<own
   . rw [List.getElem?_append_left (by simpa using hi),List.getElem?_replicate] at hσ;simp [hi] at hσ
   . obtain ⟨k,rfl⟩:∃ k,i=own+k:=⟨i - own,by omega⟩;rw [List.getElem?_append_right (by simp)] at hσ;simp only [List.length_replicate,Nat.add_sub_cancel_left,List.getElem?_map] at hσ;obtain ⟨j,hj,hx,hk,hr⟩:=T.outer k x hN;rw [hj] at hσ;replace hσ:some (σ[j]?.getD none)=some (some v):=hσ;have hσj:σ[j]?=some (some v):=by
       cases q:σ[j]? with
       | none=>rw [q] at hσ;simp at hσ
       | some y=>rw [q] at hσ;simpa using hσ
     obtain ⟨m0,hn0,hl0⟩:=I.loc;obtain ⟨u,ru,lk⟩:=hl0 j x v hx hσj (.inr (.inl hk));refine ⟨u,ru,.inr ⟨.inl hr,?_⟩⟩;rcases lk with ⟨z,_⟩|⟨_,c,hc,hcell⟩
     . have z':X.env.scope.names.lookup x=some .local:=z;rw [hk] at z';cases z'
     . obtain ⟨c',hc'⟩:=T.has x (.inl hr);have:=T.cells x c' hc';rw [hc] at this;cases this;exact ⟨c,hc',cellK c _ hcell⟩
 . obtain ⟨v,z⟩:=I.cell x c (T.cells x c e);exact ⟨v,cellK c v z⟩
 . show upd H₁ D (.lst []) C=none;rw [aq (Ne.symm hDC)];exact I.hok.fresh hC
 . have e':=T.cells x c e;obtain ⟨v,o,ho,_⟩:=I.cell x c e';rw [aq (Nat.ne_of_lt (Nat.lt_of_lt_of_le (Heap.lt_size ho) hD))];exact I.freeC x c e'
 . exact ⟨Nat.zero_le _,[],na,.nil,hacc⟩
 . show (hZ own js σ).length=Nc.length;rw [T.len];simp [hZ]
theorem C5 {pins:List (Addr × Obj)} {σ σc:St} {H₁ H':Hp} {s₂ s':Shared} {C:Addr} {fp:List Addr} {h':Heap} (I:Inv X pins σ H₁ s₂) (hC:s₂.heap.objs.size<=C)
   (f1:∀ b∈fp,kF X pins H₁ b) (I':Inv (X.comp Nc scope cl C s₂ H₁ fp) [] σc H' s') (hs:Heap.SameBut C s'.heap h'):Inv X pins σ H' { s' with heap:=h' }:=by
 have u:Un (frs X.stack) fp H₁ H' s₂.heap s'.heap:=I'.base;have ne:∀ b o,s₂.heap.get? b=some o->b≠C:=fun b o e=>Nat.ne_of_lt (Nat.lt_of_lt_of_le (Heap.lt_size e) hC);have k:∀ b o,b≠C->s'.heap.get? b=some o->h'.get? b=some o:=fun b o n e=>hs.extBut b o n e;have u':Un (frs X.stack) fp H₁ H' s₂.heap h':=⟨fun b o e n hb hx=>k b o (ne b o e) (u.keep b o e n hb hx),fun b o e n hb hx=>let ⟨sl,q⟩:=u.slot b o e n hb hx;⟨sl,k b _ (ne b o e) q⟩,
   u.free,fun b o e hx=>let ⟨o',q⟩:=u.there b o e hx;⟨o',k b o' (ne b o e) q⟩,u.tups,u.frzs,u.tbls⟩
 have hfree:H' C=none:=I'.free;have hok':HOk X.prog X.w H' h':=fun a o e=>(I'.hok a o e).stay (fun b v hb q=>k b v (fun z=>by
   rcases hb with y|y
   . rw [y] at z;rw [z,hfree] at e;cases e
   . rw [z,hfree] at y;cases y) q) (fun _ q=>q) fun _ _ q=>q
 exact I.call' (s':={ s' with heap:=h' }) (ch:=fp) I'.os u' hok' I'.bare fun b hb=>⟨(f1 b hb).2.2.2.1,(f1 b hb).2.1,(f1 b hb).2.2.2.2.1,(f1 b hb).2.2.2.2.2⟩
theorem oJ {elt target iter:Expr} {ifs:List Expr} {pos:Pos} {wi:TI} {g:TG} {tc:TT} {te:TE} (hc:X.calm=true) (T:CompTxt X Nc own js scope cl)
   (hi:PI X target iter wi) (hg:∀ C s₂ H₁ fp,PG (X.comp Nc scope cl C s₂ H₁ fp) target g) (ht:∀ C s₂ H₁ fp,PTs (X.comp Nc scope cl C s₂ H₁ fp) ifs tc)
   (he:∀ C s₂ H₁ fp,PE (X.comp Nc scope cl C s₂ H₁ fp) elt te) (hs:∀ x,foldedSetIterable iter X.env x=pure x:=by intro _;rfl) :
   PE X (.ListComp elt [⟨target,iter,ifs,0⟩] scope pos) (J7 own js wi g tc te):=by
 intro pins s σ H Q I h;rw [eval_ListComp];refine wpAny_comprehension_free (use:=none) rfl hs T.clos T.kind T.names (thn (hi pins s σ H _ I h) fun v s1 h1=>thn h1 fun itv s2 h2=>?_);obtain ⟨it,fp,tn,J,H1,rfl,I1,Tn,st,f1,R⟩:=h2;have hfp:∀ b∈fp,b<s2.heap.objs.size:=fun b hb=>let ⟨o,e,_⟩:=Tn.obj _ _ st b hb;Heap.lt_size e;refine wpAny_newObj_type (wpAny_newFunctionEnv T.nocell (by intro y hy;simp at hy) (fun h₁ hns₁ hsb₁=>?_) T.kind);dsimp only at hns₁ hsb₁ ⊢;generalize hH2:s2.heap.push { cls:=.type "list",dict:=none,data:=.seq ([]:List Value).toArray }=H2 at hns₁ hsb₁ ⊢;have hC:H2.objs.size=s2.heap.objs.size+1:=by rw [<- hH2,Heap.size_push]
 have hDC:s2.heap.objs.size≠H2.objs.size:=by rw [hC];exact Nat.ne_of_lt (Nat.lt_succ_self _)
 have hCle:s2.heap.objs.size<=H2.objs.size:=by rw [hC];exact Nat.le_succ _
 have below:∀ b,b<s2.heap.objs.size->b≠H2.objs.size:=fun b hb=>by rw [hC];exact Nat.ne_of_lt (Nat.lt_succ_of_lt hb)
 have old:∀ b o,s2.heap.get? b=some o->h₁.get? b=some o:=fun b o e=>hsb₁.extBut b o (below b (Heap.lt_size e)) (Heap.get?_push_of_some _ (hH2 ▸ Heap.get?_push_of_some _ e));have hacc:∃ n,h₁.get? s2.heap.objs.size=some { cls:=.type "list",data:=.seq ([]:List Value).toArray n }:=⟨_,hsb₁.extBut _ _ hDC (Heap.get?_push_of_some _ (hH2 ▸ Heap.get?_push_size _ rfl))⟩;have st₁:tn 0 h₁:=Tn.keep _ _ _ st fun b _ o e=>old b o e;obtain ⟨W,⟨m0,w0⟩,turn⟩:=R s2.heap.objs.size I1.fresh;have Ic:=Ed (t:=s2.toks+([]:List (Str × Value)).length) T I1 hCle (Nat.le_refl _) hDC f1 hfp old hns₁ hacc;generalize hXc:X.comp Nc scope cl H2.objs.size s2 H1 fp=Xc at Ic;have stat:∀ {H':Hp},(∀ b∈fp,H' b=none)->∀ b∈fp,kF Xc [] H' b:=fun {H'} hn b hb=>by
   subst hXc;exact ⟨hn b hb,below b (hfp b hb),(Ch T I1 hCle f1 hfp).exfs b hb,.inl hb,fun x c e=>(f1 b hb).2.2.2.2.1 x c (T.cells x c e),fun p hp=>by cases hp⟩
 have fr0:∀ b∈fp,upd H1 s2.heap.objs.size (.lst []) b=none:=fun b hb=>by
   rw [aq (Nat.ne_of_lt (hfp b hb))];exact (f1 b hb).1
 have calmc:Xc.calm=true:=by subst hXc;exact hc
 have loop:∀ s₃:Shared,s₃={ s2 with heap:=h₁,toks:=s2.toks+([]:List (Str × Value)).length } ->
     codeAny (model X.prog X.w) X.A (.compLoop (.ListComp elt [⟨target,iter,ifs,0⟩] scope pos) 0 (.ref it) (.ref s2.heap.objs.size) (compEnvC scope cl H2.objs.size X.env))
       (compPost (model X.prog X.w) X.A X.xe none (EP X pins σ Q) (.ref s2.heap.objs.size) H2.objs.size) s₃:=by
   rintro s₃ rfl;refine yD (fun n s'=>∃ i ys σ' H',Inv Xc [] σ' H' s'/\tn i s'.heap/\(∀ b∈fp,H' b=none)/\W i n ys σ' H') ?_ m0 ⟨0,[],_,_,Ic,st₁,fr0,w0⟩;rintro n s3 ⟨i,ys,σ3,H3,I3,st3,fr3,w3⟩;rcases turn i n ys σ3 H3 w3 with ⟨stop,q⟩|⟨go,step⟩
   . subst hXc;refine thn (Tn.done (X.comp Nc scope cl H2.objs.size s2 H1 fp) rfl rfl rfl hc i [] s3 σ3 H3 _ I3 (stat fr3) st3 stop) fun r s4 ⟨hr,I4⟩=>?_;subst hr;obtain ⟨m4,hn4,_⟩:=id I4.loc;exact ⟨m4,hn4,fun h' hs'=>⟨.ref s2.heap.objs.size,H3,C5 I1 hCle f1 I4 hs',rfl,q⟩⟩
   . subst hXc;refine thn (Tn.item (X.comp Nc scope cl H2.objs.size s2 H1 fp) rfl rfl rfl hc i [] s3 σ3 H3 _ I3 (stat fr3) st3 go) fun r s4 ⟨u,hr,h4⟩=>?_;subst hr;refine thn h4 fun _ s5 ⟨x,H5,I5,r5,y5,st5,fr5⟩=>?_;have I5':=I5.pinned (stat fr5) (Tn.obj _ _ st5);have back:∀ {σ7:St} {H7:Hp} {s7:Shared},Inv (X.comp Nc scope cl H2.objs.size s2 H1 fp) ([]++rT fp s5.heap) σ7 H7 s7->Inv (X.comp Nc scope cl H2.objs.size s2 H1 fp) [] σ7 H7 s7/\tn (i+1) s7.heap/\∀ b∈fp,H7 b=none:=fun {σ7 H7 s7} I7=>by
       refine ⟨I7.unpinned,Tn.keep _ _ _ st5 fun b hb o e=>(I7.pin (b,o) (List.mem_append_right _ (List.mem_append_right _ (jO hb e)))).1,fun b hb=>?_⟩;obtain ⟨o,e,d⟩:=Tn.obj _ _ st5 b hb;exact (I7.pin (b,o) (List.mem_append_right _ (List.mem_append_right _ (jO hb e)))).2.1
     refine thn (hg _ _ _ _ _ s5 σ3 H5 x u _ I5' r5 (step x H5 y5)) fun _ s6 ⟨σ6,H6,I6,q6⟩=>?_;refine BC (ht _ _ _ _ _ s6 σ6 H6 _ I6 q6) fun ok s7 H7 I7 q7=>?_;cases ok with
     | false =>
       rw [if_neg Bool.false_ne_true] at q7 ⊢;obtain ⟨m',hm,w7⟩:=q7;obtain ⟨J1,J2,J3⟩:=back I7;exact ⟨m',hm,i+1,ys,σ6,H7,J1,J2,J3,w7⟩
     | true =>
       rw [if_pos rfl] at q7 ⊢;refine bw (he _ _ _ _ _ s7 σ6 H7 _ I7 q7) fun y s8 yv H8 I8 r8 ⟨hp8,hl8,m',hm,w8⟩=>?_;refine thn (ff _ s8 σ6 H8 (.ref s2.heap.objs.size) [yv] _ [y] (fun v' H'=>W (i+1) m' (ys++[yv]) σ6 H') I8 rfl (.cons r8 .nil) ⟨_,ys,yv,rfl,rfl,hp8,hl8,w8⟩) fun v9 s9 ⟨_,H9,I9,_,w9⟩=>?_;obtain ⟨J1,J2,J3⟩:=back I9;exact ⟨m',hm,i+1,ys++[yv],σ6,H9,J1,J2,J3,w9⟩
 exact codeAny_compStart_list (loop _ rfl) (Tn.self _ 0 _ _ _ st₁ (loop _ rfl))
end
end L2
set_option Elab.async false
set_option linter.all false
set_option maxRecDepth 100000
namespace L2
open PySem PySem.Spec PyProof.Rows
section
variable {X:Cx}
def rInsert:V->List V->Hp->VK->Prop:=fun x vs H Q=>∃ (l:Addr) (xs:List V) (i:Int) (y:V),x=.ref l/\vs=[.int i,y]/\H l=some (.lst xs)/\0<=i/\i<=xs.length/\xs.length<sizeLine/\Q .non (upd H l (.lst (xs.take i.toNat++y::xs.drop i.toNat)))
theorem LN:MtM X "list.insert" rInsert:=by
 intro pins s σ H x vs v us Q I rx rv h;obtain ⟨l,xs,i,y,rfl,rfl,hH,h0,hk,hz,q⟩:=h;cases rx;obtain ⟨u1,u2,rfl,⟨t,rfl⟩,ru⟩:=rv.two;obtain ⟨z,its,n,r,hl,e⟩:=I.lstM hH;have hn:=pQ;have hf:Builtin.List.listFitsIndex i=true:=by
   unfold Builtin.List.listFitsIndex;rw [Bool.and_eq_true];exact ⟨decide_eq_true (by omega),decide_eq_true (by omega)⟩
 have hf':¬ (!Builtin.List.listFitsIndex i)=true:=by rw [hf];decide
 have hzz:its.toArray.size<=sizeLine:=by rw [List.size_toArray,<- hl];exact z
 refine call_meets PySem.F.slot_list_insert ⟨_,e,rfl⟩ PySem.F.entry_list_insert (PySem.F.args_list_insert_3 _ _ _) (PySem.AutoSeq1.list_insert_list_int_val_1 l its.toArray n i t u2 hf' hzz) ⟨e,?_⟩;refine ⟨.non,_,I.lset (its':=its.take i.toNat++u2::its.drop i.toNat) hH e ?_ ((r.take i.toNat).append (.cons ru (r.drop i.toNat))) ?_,rfl,q⟩
 . show (its.toArray.extract 0 (if i<0 then (i+(its.toArray.size:Int)).toNat else min i.toNat its.toArray.size)).push u2++its.toArray.extract (if i<0 then (i+(its.toArray.size:Int)).toNat else min i.toNat its.toArray.size)=_;have e0:(if i<0 then (i+(its.toArray.size:Int)).toNat else min i.toNat its.toArray.size)=i.toNat:=by
     rw [if_neg (by omega),List.size_toArray];omega
   rw [e0];exact PySem.W.kl_ins_eq its i.toNat u2
 . rw [List.length_append,List.length_cons,List.length_take,List.length_drop];omega
theorem QK:OpR X (binaryOp .Mult) (rI (fun i j=>IntMulOk i j) fun i j=>.int (i*j)):=opI fun i j t u s Q E h q=>PyProof.Rows.mul_int q h
theorem Nv (hc:X.calm=true):jM X (.builtin "all") (fun xs H Q=>∃ (p:Addr) (bs:List Bool),xs=[.ref p]/\SqL X.K H p (bs.map V.bl)/\Q (.bl (bs.all id)) H):=by
 intro pins s σ H xs us Q I r h;obtain ⟨p,bs,rfl,hp,q⟩:=h;obtain ⟨u,rfl,ru⟩:=mY r;cases ru;obtain ⟨its,rv,pl,hz⟩:=I.list hp;have hl:=pl.isList;have hlt:=pl.lt;have hh:X.A.in1.handled=none:=I.ok.hd hc;have hlen:its.length=bs.length:=by rw [<- rv.length,List.length_map]
 refine call_all_walk (wpAny_pyIter_list hl ?_);refine ⟨s.heap.objs.size,[s.heap.objs.size,p],[s.heap.objs.size],its.toArray.size,_,_,fun i=>(bs[i]?).getD true,rfl,Walks.list (A:=X.A.in1) hh _ p (Nat.ne_of_lt hlt) its.toArray,
   ⟨⟨_,Heap.get?_push_size _ rfl,rfl,rfl⟩,hl.push _⟩,fun i v s' Q' E' hP hQ=>?_,fun h' tk hk=>?_⟩
 . have hi:its[i]?=some v:=by simpa using hP
   have hib:i<bs.length:=by rw [<- hlen];exact (List.getElem?_eq_some_iff.mp hi).1
   obtain ⟨u,hu,ru⟩:=rv.get (i:=i) (x:=V.bl bs[i]) (by rw [List.getElem?_map,List.getElem?_eq_getElem hib];rfl);rw [hi] at hu;cases hu;cases ru;replace hQ:Q' (bs[i]?.getD true) s':=hQ;rw [List.getElem?_eq_getElem hib] at hQ;exact wpAny_truthy_bool hQ
 . have e:((List.range its.toArray.size).all fun i=>(bs[i]?).getD true)=bs.all id:=by
     rw [List.size_toArray,hlen];rw [Bool.eq_iff_iff,List.all_eq_true,List.all_eq_true]
     constructor
     . intro z b hb;obtain ⟨i,hi,rfl⟩:=List.getElem_of_mem hb;have:=z i (List.mem_range.mpr hi);rw [List.getElem?_eq_getElem hi] at this;exact this
     . intro z i hi;have hi':=List.mem_range.mp hi;rw [List.getElem?_eq_getElem hi'];exact z _ (List.getElem_mem hi')
   have kk:∀ b o,s.heap.get? b=some o->h'.get? b=some o:=fun b o eb=>hk b o (fun hm=>by rw [List.mem_singleton.mp hm] at eb;exact Nat.lt_irrefl _ (Heap.lt_size eb)) (Heap.get?_push_of_some _ eb);rw [e];exact ⟨.bl _,H,I.kept (t':=tk) kk,rfl,q⟩
end
mutual
inductive Deep (K:PySem.W.Frag) (H:Hp):V->PyData->Prop
 | non:Deep K H .non .none
 | bl (b:Bool):Deep K H (.bl b) (.bool b)
 | int (i:Int):Deep K H (.int i) (.int i)
 | str {x:Str}:PyData.canLay0 (.str x)=true->Deep K H (.str x) (.str x)
 | lst {a:Addr} {xs:List V} {ds:List PyData}:SqL K H a xs->DeepAll K H xs ds->Deep K H (.ref a) (.list ds)
 | tup {a:Addr} {xs:List V} {ds:List PyData}:SqT K H a xs->DeepAll K H xs ds->Deep K H (.ref a) (.tuple ds)
inductive DeepAll (K:PySem.W.Frag) (H:Hp):List V->List PyData->Prop
 | nil:DeepAll K H [] []
 | cons {x:V} {d:PyData} {xs:List V} {ds:List PyData}:Deep K H x d->DeepAll K H xs ds->DeepAll K H (x::xs) (d::ds)
end
mutual
theorem Deep.reads {X:Cx} {pins:List (Addr × Obj)} {σ:St} {H:Hp} {s:Shared} (I:Inv X pins σ H s):∀ {x:V} {d:PyData} {u:Value},Deep X.K H x d->RelV x u->(∃ as,Reads s.heap u d as)/\d.canLay0=true
 | _,_,_,.non,r=>by cases (show _=Value.none from r);exact ⟨⟨_,.none⟩,by simp [PyData.canLay0]⟩
 | _,_,_,.bl b,r=>by cases (show _=Value.bool b from r);exact ⟨⟨_,.bool b⟩,by simp [PyData.canLay0]⟩
 | _,_,_,.int i,r=>by obtain ⟨t,e⟩:=(show ∃ t,_=Value.int i t from r);cases e;exact ⟨⟨_,.int i t⟩,by simp [PyData.canLay0]⟩
 | _,_,_,.str (x:=x) h,r=>by obtain ⟨t,e⟩:=(show ∃ t,_=Value.str x t from r);cases e;exact ⟨⟨_,.str x t⟩,h⟩
 | _,_,_,.lst (a:=a) h hs,r=>by
   cases (show _=Value.ref a from r);obtain ⟨its,rv,⟨o,n,e,c,_,dd⟩,hz⟩:=I.list h;obtain ⟨⟨as,ra⟩,cl⟩:=DeepAll.reads I hs rv;exact ⟨⟨_,.list e c dd (by simpa using ra)⟩,by simpa [PyData.canLay0] using cl⟩
 | _,_,_,.tup (a:=a) h hs,r=>by
   cases (show _=Value.ref a from r);obtain ⟨its,rv,⟨o,e,c,n,dd⟩,hz⟩:=I.tuple h;obtain ⟨⟨as,ra⟩,cl⟩:=DeepAll.reads I hs rv;exact ⟨⟨_,.tuple e c dd (by simpa using ra)⟩,by simpa [PyData.canLay0] using cl⟩
theorem DeepAll.reads {X:Cx} {pins:List (Addr × Obj)} {σ:St} {H:Hp} {s:Shared} (I:Inv X pins σ H s):∀ {xs:List V} {ds:List PyData} {us:List Value},DeepAll X.K H xs ds->Vals xs us->(∃ as,ReadsAll s.heap us ds as)/\PyData.canLayAll0 ds=true
 | _,_,_,.nil,.nil=>⟨⟨_,.nil⟩,by simp [PyData.canLayAll0]⟩
 | _,_,_,.cons h hs,.cons r rs=>by
   obtain ⟨⟨as,ra⟩,c1⟩:=Deep.reads I h r;obtain ⟨⟨bs,rb⟩,c2⟩:=DeepAll.reads I hs rs;exact ⟨⟨_,.cons ra rb⟩,by simp [PyData.canLayAll0,c1,c2]⟩
end
section
variable {X:Cx}
def RR (K:PySem.W.Frag):R2:=fun x y H Q=>∃ d e,Deep K H x d/\Deep K H y e/\d.depth<=40/\Q (.bl (!PyData.eqv d e)) H
theorem R6 (hu:X.A.units+64<cLine):OpR X (compareOp .NotEq) (RR X.K):=by
 intro pins s σ H x y v u Q I rx ry h;obtain ⟨d,e,hd,he,hp,q⟩:=h;obtain ⟨⟨as,ra⟩,ca⟩:=hd.reads I rx;obtain ⟨⟨bs,rb⟩,cb⟩:=he.reads I ry;exact PySem.SeqAt.compareNe_reads ra rb ca cb (by omega) ⟨.bl _,H,I,rfl,q⟩
end
end L2
set_option Elab.async false
set_option linter.all false
set_option maxRecDepth 100000
namespace L2
open PySem PySem.Spec PyProof.Rows
structure SubF (P:Program) (w:World) (l:Addr) (ob:Obj) (src:Heap->Array Value->Prop) (at':Addr->Nat->Heap->Prop):Prop where
 start:∀ (A:Around) (s:Shared) (vs:Array Value) (Q:Value->Shared->Prop) (E:Value->Shared->Prop),src s.heap vs->Q (.ref s.heap.objs.size) { s with heap:=s.heap.push ob }->wpAny (model P w) A (pyIter (.ref l)) Q E s
 first:∀ it h,h.get? it=some ob->at' it 0 h
 atK:∀ it i h h',at' it i h->(∀ o,h.get? it=some o->h'.get? it=some o)->at' it i h'
 srcK:∀ h h' vs,src h vs->(∀ o,h.get? l=some o->h'.get? l=some o)->src h' vs
 obj:∀ it i h,at' it i h->∃ o,h.get? it=some o/\∀ v,o.data≠.cell v
 item:∀ (A:Around) (s:Shared) (it:Addr) (i:Nat) (vs:Array Value) (x:Value) (Q:Value->Shared->Prop) (E:Value->Shared->Prop),at' it i s.heap->src s.heap vs->vs[i]?=some x ->
   (∀ h',at' it (i+1) h'->Heap.SameBut it s.heap h'->Q x { s with heap:=h' })->wpAny (model P w) A (Builtin.SmallTypes.nextOf (.ref it)) Q E s
 fin:∀ (A:Around) (s:Shared) (it:Addr) (i:Nat) (vs:Array Value) (Q:Value->Shared->Prop) (E:Value->Shared->Prop),A.handled=none->at' it i s.heap->src s.heap vs->vs[i]?=none ->
   (∀ h' e,Heap.ExtBut it s.heap h'->(∃ o,h'.get? e=some o/\o.cls=.type "StopIteration")->E (.ref e) { s with heap:=h' })->wpAny (model P w) A (Builtin.SmallTypes.nextOf (.ref it)) Q E s
theorem LD {P:Program} {w:World} (l:Addr):SubF P w l { cls:=.type "list_iterator",data:=.fields #[.ref l,.int 0 0] } (fun h vs=>h.IsList l vs) (fun it i h=>h.IsListIter it l i) where
 start:=fun A s vs Q E hl hq=>wpAny_pyIter_list hl hq
 first:=fun it h e=>⟨_,e,rfl,rfl⟩
 atK:=fun it i h h' x k=>x.at k
 srcK:=fun h h' vs x k=>x.at k
 obj:=fun it i h x=>by
   obtain ⟨o,ho,_,hd⟩:=x;exact ⟨o,ho,fun v z=>by rw [hd] at z;cases z⟩
 item:=fun A s it i vs x Q E ha hs hx hq=>wpAny_nextOf_list_item ha hs hx hq
 fin:=fun A s it i vs Q E hh ha hs hx hq=>wpAny_nextOf_list_end hh ha hs hx hq
section
variable {P:Program} {w:World} {A:Around} {E:Value->Shared->Prop} {s:Shared}
theorem yo {it t:Addr} {i:Nat} {vs:Array Value} {x:Value} {Q:Value->Shared->Prop} (hi:s.heap.IsTupleIter it t i) (ht:s.heap.IsTuple t vs) (hx:vs[i]?=some x)
   (hq:∀ h',h'.IsTupleIter it t (i+1)->Heap.SameBut it s.heap h'->Q x { s with heap:=h' }):wpAny (model P w) A (Builtin.SmallTypes.nextOf (.ref it)) Q E s:=by
 obtain ⟨oi,hoi,hci,hdi⟩:=id hi;obtain ⟨ot,hot,_,nt,hdt⟩:=ht;unfold Builtin.SmallTypes.nextOf;refine wpAny_bind (wpAny_callSpecial?_slot (name:=Str.ofString "__next__") hi.typeIs F.slot_tuple_iterator_next (wpAny_call_entry F.slot_tuple_iterator_next hi.typeIs F.entry_tuple_iterator_next ?_ (F.args_tuple_iterator_next_1 _)));show wpAny (model P w) _ (field (.ref it) 0 >>= _) _ _ s;refine wpAny_bind (wpAny_field hoi hdi (x:=.ref t) rfl ?_);show wpAny (model P w) _ (if (Value.ref t == Value.none)=true then _ else _) _ _ s;rw [if_neg (by exact Bool.false_ne_true)];show wpAny (model P w) _ (field (.ref it) 1 >>= _) _ _ s;refine wpAny_bind (wpAny_field hoi hdi (x:=.int i 0) rfl ?_);show wpAny (model P w) _ (seqItems? (.ref t) >>= _) _ _ s;refine wpAny_bind (wpAny_seqItems hot hdt ?_);simp only [Int.toNat_natCast,hx];refine wpAny_bind (wpAny_setField hoi hdi (by simp) (wpAny_pure ⟨x,rfl,wpAny_pure (hq _ ?_ (Heap.SameBut.update ..))⟩));exact ⟨_,Heap.get?_update_self _ hoi (Obj.isFreed_of_fields (Obj.data_mapFields hdi _)),(Obj.cls_mapFields ..).trans hci,by rw [Obj.data_mapFields hdi];simp [rawInt]⟩
theorem yR {it t:Addr} {i:Nat} {vs:Array Value} {Q:Value->Shared->Prop} (hh:A.handled=none) (hi:s.heap.IsTupleIter it t i) (ht:s.heap.IsTuple t vs) (hx:vs[i]?=none)
   (hE:∀ h' e,Heap.ExtBut it s.heap h'->(∃ o,h'.get? e=some o/\o.cls=.type "StopIteration")->E (.ref e) { s with heap:=h' }):wpAny (model P w) A (Builtin.SmallTypes.nextOf (.ref it)) Q E s:=by
 obtain ⟨oi,hoi,hci,hdi⟩:=id hi;obtain ⟨ot,hot,_,nt,hdt⟩:=ht;unfold Builtin.SmallTypes.nextOf;refine wpAny_bind (wpAny_callSpecial?_slot (name:=Str.ofString "__next__") hi.typeIs F.slot_tuple_iterator_next (wpAny_call_entry F.slot_tuple_iterator_next hi.typeIs F.entry_tuple_iterator_next ?_ (F.args_tuple_iterator_next_1 _)));show wpAny (model P w) _ (field (.ref it) 0 >>= _) _ _ s;refine wpAny_bind (wpAny_field hoi hdi (x:=.ref t) rfl ?_);show wpAny (model P w) _ (if (Value.ref t == Value.none)=true then _ else _) _ _ s;rw [if_neg (by exact Bool.false_ne_true)];show wpAny (model P w) _ (field (.ref it) 1 >>= _) _ _ s;refine wpAny_bind (wpAny_field hoi hdi (x:=.int i 0) rfl ?_);show wpAny (model P w) _ (seqItems? (.ref t) >>= _) _ _ s;refine wpAny_bind (wpAny_seqItems hot hdt ?_);simp only [Int.toNat_natCast,hx];refine wpAny_bind (wpAny_rule (wpAny_bind (wpAny_setField hoi hdi (by simp) ?_)));show wpAny (model P w) _ (newExc (.type "StopIteration") [] >>= _) _ _ _;refine wpAny_bind ?_;simp only [newExc,newTuple];refine wpAny_bind (wpAny_newObj_type ?_ (by size_fits));refine wpAny_bind (m:=firstArgMember _ _) (wpAny_of_eq (a:=Value.none) (by first|rfl|(simp only [firstArgMember];rfl)) ?_);refine wpAny_newObj_type ?_ (by size_fits);simp only [raiseNew];refine wpAny_bind (wpAny_handled ?_)
 first|rw [show A.in1.handled=none from hh]|rw [hh]
 refine wpAny_bind (wpAny_pure (wpAny_throw ?_));exact hE _ _ (((Heap.SameBut.update ..).extBut.push _).push _) ⟨_,Heap.get?_push_size _ rfl,rfl⟩
end
theorem OL {P:Program} {w:World} (l:Addr):SubF P w l { cls:=.type "tuple_iterator",data:=.fields #[.ref l,.int 0 0] } (fun h vs=>h.IsTuple l vs) (fun it i h=>h.IsTupleIter it l i) where
 start:=fun A s vs Q E hl hq=>wpAny_pyIter_tuple hl hq
 first:=fun it h e=>⟨_,e,rfl,rfl⟩
 atK:=fun it i h h' x k=>let ⟨o,ho,r⟩:=x;⟨o,k o ho,r⟩
 srcK:=fun h h' vs x k=>let ⟨o,ho,r⟩:=x;⟨o,k o ho,r⟩
 obj:=fun it i h x=>by
   obtain ⟨o,ho,_,hd⟩:=x;exact ⟨o,ho,fun v z=>by rw [hd] at z;cases z⟩
 item:=fun A s it i vs x Q E ha hs hx hq=>yo ha hs hx hq
 fin:=fun A s it i vs Q E hh ha hs hx hq=>yR hh ha hs hx hq
end L2
set_option Elab.async false
set_option linter.all false
set_option maxRecDepth 100000
namespace L2
open PySem PySem.Spec PyProof.Rows
structure ZAp (z TI TO i1 i2 l1 l2:Addr):Prop where
 a1:TI≠z
 a2:TO≠z
 a3:i1≠z
 a4:i2≠z
 a5:TI≠TO
 a6:TI≠i1
 a7:TI≠i2
 a8:TO≠i1
 a9:TO≠i2
 a0:i1≠i2
 b1:l1≠z/\l1≠TO/\l1≠i1/\l1≠i2
 b2:l2≠z/\l2≠TO/\l2≠i1/\l2≠i2
section
variable {P:Program} {w:World} {A:Around} {E:Value->Shared->Prop} {s:Shared} {l1 l2:Addr} {ob1 ob2:Obj} {src1 src2:Heap->Array Value->Prop} {at1 at2:Addr->Nat->Heap->Prop}
theorem Ei (S1:SubF P w l1 ob1 src1 at1) (S2:SubF P w l2 ob2 src2 at2) {z TI TO i1 i2:Addr} {k1 k2:Nat} {xs ys:Array Value} {x y a b:Value} {Q:Value->Shared->Prop} (D:ZAp z TI TO i1 i2 l1 l2)
   (Hz:IsZip s.heap z TI TO .none) (HI:IsPair s.heap TI (.ref i1) (.ref i2)) (HO':IsPair s.heap TO a b) (p1:at1 i1 k1 s.heap) (p2:at2 i2 k2 s.heap) (q1:src1 s.heap xs) (q2:src2 s.heap ys) (hx:xs[k1]?=some x) (hy:ys[k2]?=some y)
   (hQ:∀ h',IsZip h' z TI TO (rawInt s.heap.objs.size)->IsPair h' TO x y->at1 i1 (k1+1) h'->at2 i2 (k2+1) h'->IsPair h' s.heap.objs.size x y->h'.objs.size=s.heap.objs.size+1 ->
     (∀ c o,c≠z->c≠TO->c≠i1->c≠i2->s.heap.get? c=some o->h'.get? c=some o)->Q (.ref s.heap.objs.size) { s with heap:=h' }) :
   wpAny (model P w) A (Builtin.«zip.__next__» ⟨[.ref z],[]⟩) (fun fn s'=>∃ v,fn=.done (.ret v)/\Q v s') E s:=by
 show wpAny (model P w) _ (field (.ref z) 2 >>= _) _ _ _;refine wpAny_bind (wpAny_field Hz rfl (x:=.bool false) rfl ?_);show wpAny (model P w) _ (field (.ref z) 3 >>= _) _ _ _;refine wpAny_bind (wpAny_field Hz rfl (x:=.ref TI) rfl ?_);refine wpAny_bind (wpAny_seqItems HI rfl ?_);show wpAny (model P w) _ (Builtin.SmallTypes.ownedTupleIsFree (.ref z) >>= _) _ _ _;refine wpAny_bind ?_;unfold Builtin.SmallTypes.ownedTupleIsFree;refine wpAny_bind (wpAny_field Hz rfl (x:=.none) rfl (wpAny_pure ?_));simp only [if_true];refine wpAny_bind (wpAny_rule ?_);refine wpAny_bind (wpAny_field Hz rfl (x:=.ref TO) rfl ?_);refine wpAny_bind (wpAny_setField_rec Hz (by simp) fun g1 z1 e1=>?_);replace z1:IsZip g1 z TI TO .ellipsis:=z1;refine wpAny_bind ?_;simp only [List.zipIdx_cons,List.zipIdx_nil,List.forIn_cons,List.forIn_nil];refine wpAny_bind (wpAny_bind (wpAny_onRaise ?_));show wpAny (model P w) _ (Builtin.SmallTypes.nextOf (.ref i1) >>= _) _ _ _;refine wpAny_bind (S1.item _ { s with heap:=g1 } i1 k1 xs x _ _ (S1.atK _ _ _ _ p1 fun o e=>e1.extBut _ _ D.a3 e) (S1.srcK _ _ _ q1 fun o e=>e1.extBut _ _ D.b1.1 e) hx fun g2 p1b e2=>wpAny_pure ?_);have o2:IsPair g2 TO a b:=e2.extBut _ _ D.a8 (e1.extBut _ _ D.a2 HO');refine wpAny_bind (wpAny_seqItems o2 rfl ?_);refine wpAny_bind (wpAny_updateSeq_pair o2 fun g3 o3 e3=>?_);replace o3:IsPair g3 TO x b:=o3;refine wpAny_bind (wpAny_letGo (wpAny_pure ?_));refine wpAny_bind (wpAny_bind (wpAny_onRaise ?_));show wpAny (model P w) _ (Builtin.SmallTypes.nextOf (.ref i2) >>= _) _ _ _;refine wpAny_bind (S2.item _ { s with heap:=g3 } i2 k2 ys y _ _ (S2.atK _ _ _ _ p2 fun o e=>e3.extBut _ _ D.a9.symm (e2.extBut _ _ D.a0.symm (e1.extBut _ _ D.a4 e))) (S2.srcK _ _ _ q2 fun o e=>e3.extBut _ _ D.b2.2.1 (e2.extBut _ _ D.b2.2.2.1 (e1.extBut _ _ D.b2.1 e))) hy fun g4 p2b e4=>wpAny_pure ?_);have o4:IsPair g4 TO x b:=e4.extBut _ _ D.a9 o3;refine wpAny_bind (wpAny_seqItems o4 rfl ?_);refine wpAny_bind (wpAny_updateSeq_pair o4 fun g5 o5 e5=>?_);replace o5:IsPair g5 TO x y:=o5;refine wpAny_bind (wpAny_letGo (wpAny_pure (wpAny_pure ?_)));refine wpAny_bind (wpAny_seqItems o5 rfl ?_);refine wpAny_bind (wpAny_newTuple ?_);have sz:g5.objs.size=s.heap.objs.size:=by rw [e5.1,e4.1,e3.1,e2.1,e1.1]
 have z5:IsZip g5 z TI TO .ellipsis:=e5.extBut _ _ D.a2.symm (e4.extBut _ _ D.a4.symm (e3.extBut _ _ D.a2.symm (e2.extBut _ _ D.a3.symm z1)));have k5:∀ c o,c≠z->c≠TO->c≠i1->c≠i2->s.heap.get? c=some o->g5.get? c=some o:=fun c o c1 c2 c3 c4 e =>
   e5.extBut _ _ c2 (e4.extBut _ _ c4 (e3.extBut _ _ c2 (e2.extBut _ _ c3 (e1.extBut _ _ c1 e))))
 have p15:at1 i1 (k1+1) g5:=S1.atK _ _ _ _ p1b fun o e=>e5.extBut _ _ D.a8.symm (e4.extBut _ _ D.a0 (e3.extBut _ _ D.a8.symm e));have p25:at2 i2 (k2+1) g5:=S2.atK _ _ _ _ p2b fun o e=>e5.extBut _ _ D.a9.symm e;have zlt:z<g5.objs.size:=Heap.lt_size z5;show wpAny (model P w) _ (Builtin.SmallTypes.ownedTupleHandOut (.ref z) (.ref g5.objs.size) >>= _) _ _ _;refine wpAny_bind ?_;unfold Builtin.SmallTypes.ownedTupleHandOut;have z6:IsZip (g5.push { cls:=.type "tuple",data:=.seq #[x,y] }) z TI TO .ellipsis:=Heap.get?_push_of_some _ z5;refine wpAny_bind (wpAny_setField_rec z6 (by simp) fun g7 z7 e7=>?_);replace z7:IsZip g7 z TI TO (rawInt g5.objs.size):=z7;refine wpAny_setField_rec z7 (by simp) fun g8 z8 e8=>?_;replace z8:IsZip g8 z TI TO (rawInt g5.objs.size):=z8;have up:∀ c o,c≠z->g5.get? c=some o->g8.get? c=some o:=fun c o c1 e=>e8.extBut _ _ c1 (e7.extBut _ _ c1 (Heap.get?_push_of_some _ e));have t8:IsPair g8 g5.objs.size x y:=e8.extBut _ _ (Nat.ne_of_gt zlt) (e7.extBut _ _ (Nat.ne_of_gt zlt) (Heap.get?_push_size _ rfl));have s8:g8.objs.size=g5.objs.size+1:=by rw [e8.1,e7.1,Heap.size_push]
 rw [sz] at z8 t8 s8;refine wpAny_pure ⟨_,rfl,?_⟩;show Q (.ref g5.objs.size) _;rw [sz];exact hQ g8 z8 (up _ _ D.a2 o5) (S1.atK _ _ _ _ p15 fun o e=>up _ o D.a3 e) (S2.atK _ _ _ _ p25 fun o e=>up _ o D.a4 e) t8 s8 fun c o c1 c2 c3 c4 e=>up c o c1 (k5 c o c1 c2 c3 c4 e)
theorem G1 (S1:SubF P w l1 ob1 src1 at1) (S2:SubF P w l2 ob2 src2 at2) {z TI TO i1 i2:Addr} {k1 k2:Nat} {xs ys:Array Value} {a b:Value} {Q:Fin->Shared->Prop} (hh:A.handled=none) (D:ZAp z TI TO i1 i2 l1 l2)
   (Hz:IsZip s.heap z TI TO .none) (HI:IsPair s.heap TI (.ref i1) (.ref i2)) (HO':IsPair s.heap TO a b) (p1:at1 i1 k1 s.heap) (p2:at2 i2 k2 s.heap) (q1:src1 s.heap xs) (q2:src2 s.heap ys) (hend:xs[k1]?=none\/ys[k2]?=none)
   (hE:∀ h' e,(∀ c o,c≠z->c≠TO->c≠i1->c≠i2->s.heap.get? c=some o->h'.get? c=some o)->(∃ o,h'.get? e=some o/\o.cls=.type "StopIteration")->E (.ref e) { s with heap:=h' }) :
   wpAny (model P w) A (Builtin.«zip.__next__» ⟨[.ref z],[]⟩) Q E s:=by
 show wpAny (model P w) _ (field (.ref z) 2 >>= _) _ _ _;refine wpAny_bind (wpAny_field Hz rfl (x:=.bool false) rfl ?_);show wpAny (model P w) _ (field (.ref z) 3 >>= _) _ _ _;refine wpAny_bind (wpAny_field Hz rfl (x:=.ref TI) rfl ?_);refine wpAny_bind (wpAny_seqItems HI rfl ?_);show wpAny (model P w) _ (Builtin.SmallTypes.ownedTupleIsFree (.ref z) >>= _) _ _ _;refine wpAny_bind ?_;unfold Builtin.SmallTypes.ownedTupleIsFree;refine wpAny_bind (wpAny_field Hz rfl (x:=.none) rfl (wpAny_pure ?_));simp only [if_true];refine wpAny_bind (wpAny_rule ?_);refine wpAny_bind (wpAny_field Hz rfl (x:=.ref TO) rfl ?_);refine wpAny_bind (wpAny_setField_rec Hz (by simp) fun g1 z1 e1=>?_);replace z1:IsZip g1 z TI TO .ellipsis:=z1;refine wpAny_bind ?_;simp only [List.zipIdx_cons,List.zipIdx_nil,List.forIn_cons,List.forIn_nil];refine wpAny_bind (wpAny_bind (wpAny_onRaise ?_));show wpAny (model P w) _ (Builtin.SmallTypes.nextOf (.ref i1) >>= _) _ _ _;have p1a:at1 i1 k1 g1:=S1.atK _ _ _ _ p1 fun o e=>e1.extBut _ _ D.a3 e;have q1a:src1 g1 xs:=S1.srcK _ _ _ q1 fun o e=>e1.extBut _ _ D.b1.1 e;cases hx:xs[k1]? with
 | none =>
   refine wpAny_bind (S1.fin _ { s with heap:=g1 } i1 k1 xs _ _ hh p1a q1a hx fun g2 e e2 he=>?_);obtain ⟨oe,hoe,hce⟩:=he;have z2:IsZip g2 z TI TO .ellipsis:=e2 _ _ D.a3.symm z1;have ez:e≠z:=fun t=>by subst t;rw [z2] at hoe;cases hoe;simp at hce
   refine wpAny_setField_rec z2 (by simp) fun g3 _ e3=>hE g3 e (fun c o c1 _ c3 _ t=>e3.extBut _ _ c1 (e2 _ _ c3 (e1.extBut _ _ c1 t))) ⟨oe,e3.extBut _ _ ez hoe,hce⟩
 | some x =>
   have hy:ys[k2]?=none:=by
     rcases hend with h|h
     . rw [hx] at h;cases h
     . exact h
   refine wpAny_bind (S1.item _ { s with heap:=g1 } i1 k1 xs x _ _ p1a q1a hx fun g2 p1b e2=>wpAny_pure ?_);have o2:IsPair g2 TO a b:=e2.extBut _ _ D.a8 (e1.extBut _ _ D.a2 HO');refine wpAny_bind (wpAny_seqItems o2 rfl ?_);refine wpAny_bind (wpAny_updateSeq_pair o2 fun g3 o3 e3=>?_);refine wpAny_bind (wpAny_letGo (wpAny_pure ?_));refine wpAny_bind (wpAny_bind (wpAny_onRaise ?_));show wpAny (model P w) _ (Builtin.SmallTypes.nextOf (.ref i2) >>= _) _ _ _;refine wpAny_bind (S2.fin _ { s with heap:=g3 } i2 k2 ys _ _ hh (S2.atK _ _ _ _ p2 fun o e=>e3.extBut _ _ D.a9.symm (e2.extBut _ _ D.a0.symm (e1.extBut _ _ D.a4 e))) (S2.srcK _ _ _ q2 fun o e=>e3.extBut _ _ D.b2.2.1 (e2.extBut _ _ D.b2.2.2.1 (e1.extBut _ _ D.b2.1 e))) hy fun g4 e e4 he=>?_);obtain ⟨oe,hoe,hce⟩:=he;have z4:IsZip g4 z TI TO .ellipsis:=e4 _ _ D.a4.symm (e3.extBut _ _ D.a2.symm (e2.extBut _ _ D.a3.symm z1));have ez:e≠z:=fun t=>by subst t;rw [z4] at hoe;cases hoe;simp at hce
   refine wpAny_setField_rec z4 (by simp) fun g5 _ e5=>hE g5 e (fun c o c1 c2 c3 c4 t=>e5.extBut _ _ c1 (e4 _ _ c4 (e3.extBut _ _ c2 (e2.extBut _ _ c3 (e1.extBut _ _ c1 t))))) ⟨oe,e5.extBut _ _ ez hoe,hce⟩
abbrev zp1 (h:Heap) (ob1 ob2:Obj):Heap:=(h.push ob1).push ob2
abbrev zp2 (h:Heap) (ob1 ob2:Obj):Heap:=(zp1 h ob1 ob2).push { cls:=.type "tuple",data:=.seq #[.ref h.objs.size,.ref (h.push ob1).objs.size] }
abbrev zp3 (h:Heap) (ob1 ob2:Obj):Heap:=(zp2 h ob1 ob2).push { cls:=.type "tuple",data:=.seq #[.none,.none] }
abbrev zp4 (h:Heap) (ob1 ob2:Obj):Heap:=(zp3 h ob1 ob2).push { cls:=.type "zip",data:=.fields #[.none,.bool false,.bool false,.ref (zp1 h ob1 ob2).objs.size,.ref (zp2 h ob1 ob2).objs.size] }
theorem Dp (S1:∀ P w,SubF P w l1 ob1 src1 at1) (S2:∀ P w,SubF P w l2 ob2 src2 at2) (ne:∀ h vs,src2 h vs->∃ o,h.get? l2=some o) (xs ys:Array Value) :
   Meets (Builtin.«zip.__new__» ⟨[.type "zip",.ref l1,.ref l2],[]⟩) (fun _ R s=>src1 s.heap xs/\src2 s.heap ys/\R (.ok (.ret (.ref (zp3 s.heap ob1 ob2).objs.size))) { s with heap:=zp4 s.heap ob1 ob2 }) :=
 .of_wp fun prog w A R s hyp=>by
   obtain ⟨hp,g,d,tk,os⟩:=s;obtain ⟨q1,q2,r⟩:=hyp;have zsub:=sub_zip;have B1:src1 (Shared.heap ⟨hp,g,d,tk,os⟩) xs:=q1;have B2:src2 (Shared.heap ⟨hp.push ob1,g,d,tk,os⟩) ys:=(S2 prog w).srcK _ _ _ q2 fun o e=>Heap.get?_push_of_some _ e
   wp_walk using ((S1 prog w).start _ _ _ _ _ B1),((S2 prog w).start _ _ _ _ _ B2)
   exact ⟨_,rfl,r⟩
theorem Nk (S1:∀ P w,SubF P w l1 ob1 src1 at1) (S2:∀ P w,SubF P w l2 ob2 src2 at2) (ne:∀ h vs,src2 h vs->∃ o,h.get? l2=some o) {xs ys:Array Value} {Q:Value->Shared->Prop} (q1:src1 s.heap xs) (q2:src2 s.heap ys)
   (h:∀ h',IsZip h' (s.heap.objs.size+4) (s.heap.objs.size+2) (s.heap.objs.size+3) .none->IsPair h' (s.heap.objs.size+2) (.ref s.heap.objs.size) (.ref (s.heap.objs.size+1)) ->
     IsPair h' (s.heap.objs.size+3) .none .none->at1 s.heap.objs.size 0 h'->at2 (s.heap.objs.size+1) 0 h' ->
     (∀ c o,s.heap.get? c=some o->h'.get? c=some o)->Q (.ref (s.heap.objs.size+4)) { s with heap:=h' }) (f1:ob1.isFreed=false) (f2:ob2.isFreed=false) :
   wpAny (model P w) A (call (.type "zip") [.ref l1,.ref l2]) Q E s:=by
 refine callType_new F.called_zip (by decide) (F.typeCall_zip_2 _ _) (F.newCall_zip_2 _ _) (fun obj=>F.args_object_init_3 obj _ _) F.entry_zip_new (Dp S1 S2 ne xs ys) ⟨q1,q2,?_⟩;have n0:(s.heap.push ob1).objs.size=s.heap.objs.size+1:=Heap.size_push ..;have n1:(zp1 s.heap ob1 ob2).objs.size=s.heap.objs.size+2:=by rw [Heap.size_push,n0]
 have n2:(zp2 s.heap ob1 ob2).objs.size=s.heap.objs.size+3:=by rw [Heap.size_push,n1]
 have n3:(zp3 s.heap ob1 ob2).objs.size=s.heap.objs.size+4:=by rw [Heap.size_push,n2]
 have c5:(zp4 s.heap ob1 ob2).get? (zp3 s.heap ob1 ob2).objs.size=some _:=Heap.get?_push_size _ rfl;have c4:(zp4 s.heap ob1 ob2).get? (zp2 s.heap ob1 ob2).objs.size=some _:=Heap.get?_push_of_some _ (Heap.get?_push_size _ rfl);have c3:(zp4 s.heap ob1 ob2).get? (zp1 s.heap ob1 ob2).objs.size=some _:=Heap.get?_push_of_some _ (Heap.get?_push_of_some _ (Heap.get?_push_size _ rfl));have c2:(zp4 s.heap ob1 ob2).get? (s.heap.push ob1).objs.size=some ob2:=Heap.get?_push_of_some _ (Heap.get?_push_of_some _ (Heap.get?_push_of_some _ (Heap.get?_push_size _ f2)));have c1:(zp4 s.heap ob1 ob2).get? s.heap.objs.size=some ob1:=Heap.get?_push_of_some _ (Heap.get?_push_of_some _ (Heap.get?_push_of_some _ (Heap.get?_push_of_some _ (Heap.get?_push_size _ f1))));show _/\_;rw [n1,n2,n3] at c5;rw [n0,n1] at c3;rw [n2] at c4;rw [n0] at c2;rw [n3];exact ⟨⟨_,c5,rfl⟩,h _ c5 c3 c4 ((S1 P w).first _ _ c1) ((S2 P w).first _ _ c2) fun c o e=>Heap.get?_push_of_some _ (Heap.get?_push_of_some _ (Heap.get?_push_of_some _ (Heap.get?_push_of_some _ (Heap.get?_push_of_some _ e))))⟩
end
def SqX (K:PySem.W.Frag):Bool->Hp->Addr->List V->Prop
 | true,H,a,xs=>SqL K H a xs
 | false,H,a,xs=>SqT K H a xs
def Itz (K:PySem.W.Frag) (c d:Bool) (a b:Addr):It :=
 ⟨fun i H=>∃ xs ys x y,SqX K c H a xs/\SqX K d H b ys/\xs[i]?=some x/\ys[i]?=some y,
  fun i H v H'=>∃ p x y,H p=none/\v=.ref p/\H'=upd H p (.tup [x,y])/\(∀ xs,SqX K c H a xs->xs[i]?=some x)/\∀ ys,SqX K d H b ys->ys[i]?=some y,
  fun i H=>∃ xs ys,SqX K c H a xs/\SqX K d H b ys/\(xs.length<=i\/ys.length<=i)⟩
def Rm (a:Addr):Bool->Obj
 | true=>{ cls:=.type "list_iterator",data:=.fields #[.ref a,.int 0 0] }
 | false=>{ cls:=.type "tuple_iterator",data:=.fields #[.ref a,.int 0 0] }
def IQ (a:Addr):Bool->Heap->Array Value->Prop
 | true,h,vs=>h.IsList a vs
 | false,h,vs=>h.IsTuple a vs
def zAt (a:Addr):Bool->Addr->Nat->Heap->Prop
 | true,it,i,h=>h.IsListIter it a i
 | false,it,i,h=>h.IsTupleIter it a i
theorem eZ (a:Addr) (c:Bool) (P:Program) (w:World):SubF P w a (Rm a c) (IQ a c) (zAt a c):=by
 cases c
 . exact OL a
 . exact LD a
theorem wS (a:Addr) (c:Bool):(Rm a c).isFreed=false:=by cases c <;> rfl
theorem oC (a:Addr) (c:Bool) (h:Heap) (vs:Array Value) (e:IQ a c h vs):∃ o,h.get? a=some o:=by
 cases c
 . obtain ⟨o,ho,_⟩:=e;exact ⟨o,ho⟩
 . obtain ⟨o,ho,_⟩:=e;exact ⟨o,ho⟩
theorem Inv.sqX {X:Cx} {pins:List (Addr × Obj)} {σ:St} {H:Hp} {s:Shared} {c:Bool} {a:Addr} {xs:List V} (I:Inv X pins σ H s) (h:SqX X.K c H a xs):∃ its:List Value,Vals xs its/\IQ a c s.heap its.toArray:=by
 cases c with
 | true =>
   obtain ⟨its,r,pl,_⟩:=I.list h;exact ⟨its,r,pl.isList⟩
 | false =>
   obtain ⟨its,r,⟨o,ho,hc,n,hd⟩,_⟩:=I.tuple h;exact ⟨its,r,⟨o,ho,hc,n,hd⟩⟩
theorem Inv.sqX_inj {X:Cx} {pins:List (Addr × Obj)} {σ:St} {H:Hp} {s:Shared} {c:Bool} {a:Addr} {xs ys:List V} (I:Inv X pins σ H s) (h:SqX X.K c H a xs) (h':SqX X.K c H a ys):xs=ys:=by
 cases c with
 | true=>exact I.list_inj h h'
 | false=>exact I.tuple_inj h h'
theorem OM {P:Program} {w:World} {K:PySem.W.Frag} {elts:List Expr} {x1} {tpos:Pos} (c d:Bool) (a b z TI TO i1 i2:Addr) (D:ZAp z TI TO i1 i2 a b) :
   Turn P w K (.Tuple elts x1 tpos) (Itz K c d a b) [z,TI,TO,i1,i2] z (fun i h=>IsZip h z TI TO .none/\IsPair h TI (.ref i1) (.ref i2)/\(∃ u v,IsPair h TO u v)/\zAt a c i1 i h/\zAt b d i2 i h) where
 mem:=by simp
 obj:=fun i h t e he=>by
   obtain ⟨t1,t2,⟨u,v,t3⟩,t4,t5⟩:=t;simp only [List.mem_cons,List.mem_nil_iff,or_false] at he;rcases he with rfl|rfl|rfl|rfl|rfl
   . exact ⟨_,t1,fun v z=>by cases z⟩
   . exact ⟨_,t2,fun v z=>by cases z⟩
   . exact ⟨_,t3,fun v z=>by cases z⟩
   . exact (eZ a c P w).obj _ _ _ t4
   . exact (eZ b d P w).obj _ _ _ t5
 keep:=fun i h h' t k=>by
   obtain ⟨t1,t2,⟨u,v,t3⟩,t4,t5⟩:=t;exact ⟨k z (by simp) _ t1,k TI (by simp) _ t2,⟨u,v,k TO (by simp) _ t3⟩,(eZ a c P w).atK _ _ _ _ t4 fun o e=>k i1 (by simp) o e,(eZ b d P w).atK _ _ _ _ t5 fun o e=>k i2 (by simp) o e⟩
 item:=fun X e1 e2 e3 hc i pins s σ H E I f t g=>by
   subst e1 e2 e3;obtain ⟨t1,t2,⟨u,v,t3⟩,t4,t5⟩:=t;obtain ⟨xs,ys,x,y,s1,s2,hx,hy⟩:=g;obtain ⟨us,r1,q1⟩:=I.sqX s1;obtain ⟨vs,r2,q2⟩:=I.sqX s2;obtain ⟨xu,hxu,rx⟩:=r1.get hx;obtain ⟨yu,hyu,ry⟩:=r2.get hy;have hT:s.TypeIs (.ref z) "zip":=⟨_,t1,rfl⟩;unfold pyNext;refine wpAny_bind (wpAny_attempt (wpAny_callSpecial?_slot (name:=Str.ofString "__next__") hT F.slot_zip_next (wpAny_call_entry F.slot_zip_next hT F.entry_zip_next
     (Ei (eZ a c _ _) (eZ b d _ _) D t1 t2 t3 t4 t5 q1 q2 (x:=xu) (y:=yu) (by simpa using hxu) (by simpa using hyu) fun h' w1 w2 w3 w4 w5 w6 w7=>wpAny_pure ?_) (F.args_zip_next_1 _))))
   refine ⟨_,rfl,wpAny_letOwnedTupleGo_zip w1 fun h2 n1 n2=>?_⟩;have fz:∀ q∈[z,TI,TO,i1,i2],kF X pins H q:=f;have lt0:s.heap.objs.size≠z:=Nat.ne_of_gt (Heap.lt_size t1);have new:IsPair h2 s.heap.objs.size xu yu:=n2.extBut _ _ lt0 w5;have kp:∀ q o,q ∉ [z,TI,TO,i1,i2]->s.heap.get? q=some o->h2.get? q=some o:=fun q o hq e=>by
     simp only [List.mem_cons,List.mem_nil_iff,or_false,not_or] at hq;exact n2.extBut _ _ hq.1 (w7 q o hq.1 hq.2.2.1 hq.2.2.2.1 hq.2.2.2.2 e)
   have kTI:h2.get? TI=some _:=n2.extBut _ _ D.a1 (w7 TI _ D.a1 D.a5 D.a6 D.a7 t2);have Hn:∀ q u,H q=some u->q ∉ [z,TI,TO,i1,i2]:=fun q u e hq=>by rw [(fz q hq).1] at e;cases e
   have I2:Inv X pins σ H { s with heap:=h2 }:=by
     refine I.step (g':=s.gens) (d':=s.drawn) (t':=s.toks) (ch:=[z,TI,TO,i1,i2]) (fun q hq=>⟨(fz q hq).2.2.2.1,(fz q hq).2.1,(fz q hq).2.2.2.2.1,(fz q hq).2.2.2.2.2⟩) (fun q o _ _ hq e _=>kp q o hq e) (fun q o _ _ hq e _=>⟨o.slots,kp q o hq e⟩) (fun _ _ _ _ n=>n)
       (fun q o hq e=>⟨o,kp q o hq e⟩) (fun _ _ e=>e) (fun _ _ _ e=>e) (fun q ps e=>⟨#[],by rw [e];simp⟩) (fun m hm=>?_) (fun q u e=>?_) I.bare
     . obtain ⟨o,es,ep,ho,r⟩:=hm;exact ⟨o,es,ep,kp _ o (fun hq=>(fz _ hq).2.1 rfl) ho,r⟩
     . refine (I.hok q u e).stay (fun q' v hq' e'=>kp q' v ?_ e') (fun _ e'=>e') fun _ _ e'=>e';rcases hq' with rfl|hq'
       . exact Hn _ u e
       . exact Hn _ _ hq'
   have nH:H s.heap.objs.size=none:=I.fresh;have I3:Inv X pins σ (upd H s.heap.objs.size (.tup [x,y])) { s with heap:=h2 }:=by
     refine ⟨I2.ok,I2.os,I2.bare,?_,I2.loc,I2.cell,?_,fun n c e=>?_,fun p hp=>?_,fun q u e=>?_,I2.len⟩
     . refine ⟨I2.base.keep,I2.base.slot,fun q o e n hx=>?_,I2.base.there,fun q xs e=>?_,fun q o u e=>?_,fun q ps e=>?_⟩
       . have lt:q<X.s₀.heap.objs.size:=Heap.lt_size e;rw [aq (Nat.ne_of_lt (Nat.lt_of_lt_of_le lt I.sz))];exact I2.base.free q o e n hx
       . have e':=I2.base.tups q xs e;rw [aq (fun z=>by rw [z,nH] at e';cases e')];exact e'
       . have e':=I2.base.frzs q o u e;rw [aq (fun z=>by rw [z,nH] at e';cases e')];exact e'
       . obtain ⟨more,e'⟩:=I2.base.tbls q ps e;exact ⟨more,by rw [aq (fun z=>by rw [z,nH] at e';cases e')];exact e'⟩
     . rw [aq (Nat.ne_of_lt I.lt)];exact I2.free
     . obtain ⟨vv,o,ho,_⟩:=I.cell n c e;rw [aq (Nat.ne_of_lt (Heap.lt_size ho))];exact I2.freeC n c e
     . obtain ⟨k1,k2,k3⟩:=I.pin p hp;rw [aq (Nat.ne_of_lt (Heap.lt_size k1))];exact I2.pin p hp
     . by_cases hq:q=s.heap.objs.size
       . subst hq;rw [ah] at e;cases e;exact ⟨by show 2<=sizeLine;decide,[xu,yu],.cons rx (.cons ry .nil),_,new,rfl,_,rfl⟩
       . rw [aq hq] at e;refine (I2.hok q u e).stay (fun _ _ _ e'=>e') (fun q' e'=>?_) fun q' xs e'=>?_
         . rw [aq (fun z=>by rw [z,nH] at e';cases e')];exact e'
         . rw [aq (fun z=>by rw [z,nH] at e';cases e')];exact e'
   refine ⟨.ref s.heap.objs.size,_,I3,rfl,⟨_,x,y,nH,rfl,rfl,fun xs' q=>?_,fun ys' q=>?_⟩,⟨n1,kTI,⟨_,_,n2.extBut _ _ D.a2 w2⟩,(eZ a c X.prog X.w).atK _ _ _ _ w3 fun o e=>n2.extBut _ _ D.a3 e,(eZ b d X.prog X.w).atK _ _ _ _ w4 fun o e=>n2.extBut _ _ D.a4 e⟩,fun q hq=>?_⟩
   . rw [<- I.sqX_inj s1 q];exact hx
   . rw [<- I.sqX_inj s2 q];exact hy
   . have hlt:q<s.heap.objs.size:=by
       simp only [List.mem_cons,List.mem_nil_iff,or_false] at hq;rcases hq with rfl|rfl|rfl|rfl|rfl
       . exact Heap.lt_size t1
       . exact Heap.lt_size t2
       . exact Heap.lt_size t3
       . exact let ⟨o,e,_⟩:=(eZ a c X.prog X.w).obj _ _ _ t4;Heap.lt_size e
       . exact let ⟨o,e,_⟩:=(eZ b d X.prog X.w).obj _ _ _ t5;Heap.lt_size e
     rw [aq (Nat.ne_of_lt hlt)];exact (fz q hq).1
 done:=fun X e1 e2 e3 hc i pins s σ H E I f t g=>by
   subst e1 e2 e3;obtain ⟨t1,t2,⟨u,v,t3⟩,t4,t5⟩:=t;obtain ⟨xs,ys,s1,s2,hend⟩:=g;obtain ⟨us,r1,q1⟩:=I.sqX s1;obtain ⟨vs,r2,q2⟩:=I.sqX s2;have fz:∀ q∈[z,TI,TO,i1,i2],kF X pins H q:=f;have hh:X.A.handled=none:=I.ok.hd hc;have hT:s.TypeIs (.ref z) "zip":=⟨_,t1,rfl⟩;have hend':us.toArray[i]?=none\/vs.toArray[i]?=none:=by
     rcases hend with e|e
     . exact .inl (by have:=r1.length;simp;omega)
     . exact .inr (by have:=r2.length;simp;omega)
   unfold pyNext;refine wpAny_bind (wpAny_attempt (wpAny_callSpecial?_slot (name:=Str.ofString "__next__") hT F.slot_zip_next (wpAny_call_entry F.slot_zip_next hT F.entry_zip_next
     (G1 (eZ a c _ _) (eZ b d _ _) hh D t1 t2 t3 t4 t5 q1 q2 hend' fun h' e hk he=>?_) (F.args_zip_next_1 _))))
   obtain ⟨o,ho,hcl⟩:=he;refine wpAny_bind (wpAny_isInstance (T:="StopIteration") (b:=true) ⟨o,ho,hcl⟩ isSubtype_stop (wpAny_pure ⟨rfl,?_⟩));have kp:∀ q o,q ∉ [z,TI,TO,i1,i2]->s.heap.get? q=some o->h'.get? q=some o:=fun q o hq e=>by
     simp only [List.mem_cons,List.mem_nil_iff,or_false,not_or] at hq;exact hk q o hq.1 hq.2.2.1 hq.2.2.2.1 hq.2.2.2.2 e
   have Hn:∀ q u,H q=some u->q ∉ [z,TI,TO,i1,i2]:=fun q u e hq=>by rw [(fz q hq).1] at e;cases e
   refine I.step (g':=s.gens) (d':=s.drawn) (t':=s.toks) (ch:=[z,TI,TO,i1,i2]) (fun q hq=>⟨(fz q hq).2.2.2.1,(fz q hq).2.1,(fz q hq).2.2.2.2.1,(fz q hq).2.2.2.2.2⟩) (fun q o _ _ hq e _=>kp q o hq e) (fun q o _ _ hq e _=>⟨o.slots,kp q o hq e⟩) (fun _ _ _ _ n=>n)
     (fun q o hq e=>⟨o,kp q o hq e⟩) (fun _ _ e=>e) (fun _ _ _ e=>e) (fun q ps e=>⟨#[],by rw [e];simp⟩) (fun m hm=>?_) (fun q u e=>?_) I.bare
   . obtain ⟨o,es,ep,ho,r⟩:=hm;exact ⟨o,es,ep,kp _ o (fun hq=>(fz _ hq).2.1 rfl) ho,r⟩
   . refine (I.hok q u e).stay (fun q' v hq' e'=>kp q' v ?_ e') (fun _ e'=>e') fun _ _ e'=>e';rcases hq' with rfl|hq'
     . exact Hn _ u e
     . exact Hn _ _ hq'
 self:=fun A i s Q E t q=>wpAny_pyIter_zip t.1 q
end L2
set_option Elab.async false
set_option linter.all false
set_option maxRecDepth 100000
namespace L2
open PySem PySem.Spec PyProof.Rows
section
variable {X:Cx} {pins:List (Addr × Obj)} {σ:St} {H H2:Hp} {s s2:Shared} {a:Addr} {o:HO}
end
section
variable {P:Program} {w:World} {A:Around} {E:Value->Shared->Prop} {s:Shared}
end
end L2
set_option Elab.async false
set_option linter.all false
set_option maxRecDepth 100000
namespace L2
open PySem PySem.Spec PyProof.Rows
section
variable {P:Program} {w:World} {A:Around} {E:Value->Shared->Prop} {s:Shared} {R:Result->Shared->Prop}
end
section
variable {X:Cx} {e:Expr} {te:TE} {p1 p2 pos pos2:Pos}
end
end L2
set_option Elab.async false
set_option linter.all false
set_option maxRecDepth 100000
namespace L2
open PySem PySem.Spec PyProof.Rows
theorem fG {a b:Nat} (h:a<b\/b<a):a≠b:=by omega
theorem RD (n a b:Nat) (h1:a<n) (h2:b<n):ZAp (n+4) (n+2) (n+3) n (n+1) a b :=
 ⟨fG (by omega),fG (by omega),fG (by omega),fG (by omega),fG (by omega),fG (by omega),fG (by omega),fG (by omega),fG (by omega),fG (by omega),⟨fG (by omega),fG (by omega),fG (by omega),fG (by omega)⟩,⟨fG (by omega),fG (by omega),fG (by omega),fG (by omega)⟩⟩
section
variable {X:Cx}
def NN (K:PySem.W.Frag) (c d:Bool) (ta:TA):TI:=fun σ H R=>ta σ H fun vs H1=>∃ a b,vs=[.ref a,.ref b]/\(∃ xs,SqX K c H1 a xs)/\(∃ ys,SqX K d H1 b ys)/\R (Itz K c d a b) H1
theorem RF {elts:List Expr} {x1} {tpos:Pos} {ea eb:Expr} {ta:TA} {p pos:Pos} (c d:Bool) (hg:Gl X "zip") (hm:X.mg "zip"=none) (ha:PA X [ea,eb] ta)
   (hs:starEach [ea,eb] X.env=[(false,eval ea X.env),(false,eval eb X.env)]:=by rfl) (hs2:starEach [eb] X.env=[(false,eval eb X.env)]:=by rfl) :
   PI X (.Tuple elts x1 tpos) (.Call (.Name "zip" p) [ea,eb] [] pos) (NN X.K c d ta):=by
 intro pins s σ H R I h;refine Call_ (oZ I hg hm boot_zip (PyProof.Rows.callWith_type1 (rj (ha pos pins s σ H _ I h) fun us s1 vs H1 I1 r1 q1=>?_) (by rw [hs,hs2]) (by rw [hs2];rfl)));obtain ⟨a,b,e,⟨xs,sa⟩,⟨ys,sb⟩,q⟩:=q1;subst e;obtain ⟨u,v,rfl,ru,rv⟩:=PL r1;cases ru;cases rv;obtain ⟨us,r1,q1⟩:=I1.sqX sa;obtain ⟨vs,r2,q2⟩:=I1.sqX sb;obtain ⟨oa,hoa⟩:=oC a c _ _ q1;obtain ⟨ob,hob⟩:=oC b d _ _ q2;have la:=Heap.lt_size hoa;have lb:=Heap.lt_size hob;refine Nk (eZ a c) (eZ b d) (oC b d) q1 q2 (fun h' w1 w2 w3 w4 w5 w6=>?_) (wS a c) (wS b d);refine wpAny_pyIter_zip w1 ?_;have D:=RD s1.heap.objs.size a b la lb;refine ⟨_,[s1.heap.objs.size+4,s1.heap.objs.size+2,s1.heap.objs.size+3,s1.heap.objs.size,s1.heap.objs.size+1],_,_,H1,rfl,I1.kept (t':=s1.toks) w6,OM c d a b _ _ _ _ _ D,⟨w1,w2,⟨_,_,w3⟩,w4,w5⟩,fun q hq=>?_,q⟩;have hle:s1.heap.objs.size<=q:=by
   simp only [List.mem_cons,List.mem_nil_iff,or_false] at hq;rcases hq with rfl|rfl|rfl|rfl|rfl
   . exact Nat.le_add_right _ 4
   . exact Nat.le_add_right _ 2
   . exact Nat.le_add_right _ 3
   . exact Nat.le_refl _
   . exact Nat.le_add_right _ 1
 exact I1.fpOk hle (I1.hok.fresh hle)
end
end L2
set_option linter.all false
namespace Pb
structure Road where
 a:Int
 b:Int
 t:Int
 u:Int
 deriving DecidableEq
def Lx (m:Int) (rs:List Road):Prop:=∀ S:Int->Prop,S 0->(∀ r∈rs,(S r.a↔S r.b))->∀ v,0<=v->v<m->S v
structure RoadOk (m:Int) (r:Road):Prop where
 a0:0<=r.a
 a1:r.a<m
 b0:0<=r.b
 b1:r.b<m
 ne:r.a≠r.b
 t0:2<=r.t
 t1:r.t<=1000000
 u0:2<=r.u
 u1:r.u<=1000000
structure Good (m:Int) (rs:List Road):Prop where
 m1:1<=m
 m24:m<=24
 len:(rs.length:Int)=m - 1
 ok:∀ r∈rs,RoadOk m r
 jn:Lx m rs
theorem mJ {α:Type} [DecidableEq α]:∀ {l l':List α},l.Nodup->(∀ x∈l,x∈l')->l.length<=l'.length
 | [],_,_,_=>Nat.zero_le _
 | x::r,l',hn,hs=>by
   obtain ⟨h1,h2⟩:=List.nodup_cons.mp hn;have hx:x∈l':=hs x List.mem_cons_self;have:r.length<=(l'.erase x).length:=mJ h2 fun y hy=>(List.mem_erase_of_ne (fun (e:y=x)=>h1 (by rw [<- e];exact hy))).mpr (hs y (List.mem_cons_of_mem _ hy));rw [List.length_erase_of_mem hx] at this;have hp:0<l'.length:=List.length_pos_of_mem hx;rw [List.length_cons];omega
def below (n:Nat):List Int:=(List.range n).map fun (k:Nat)=>(k:Int)
theorem c9 {n:Nat} {v:Int}:v∈below n↔0<=v/\v<n:=by
 unfold below;rw [List.mem_map]
 constructor
 . rintro ⟨k,hk,rfl⟩;have:=List.mem_range.mp hk;omega
 . rintro ⟨h0,h1⟩;exact ⟨v.toNat,List.mem_range.mpr (by omega),by omega⟩
theorem bh (n:Nat):(below n).length=n:=by simp [below]
theorem fg (n:Nat):(below n).Nodup:=by
 unfold below;refine List.Pairwise.map _ (fun a b h=>?_) (List.nodup_range (n:=n));intro e;exact h (by omega)
theorem cM {m:Int} {l:List Int} (hm:0<=m) (hn:l.Nodup) (h:∀ x∈l,0<=x/\x<m):(l.length:Int)<=m:=by
 have:=mJ (l':=below m.toNat) hn fun x hx=>c9.mpr ⟨(h x hx).1,by have:=(h x hx).2;omega⟩;rw [bh] at this;omega
theorem Np {m:Int} {l:List Int} (hm:0<=m) (h:∀ v,0<=v->v<m->v∈l):m<=(l.length:Int):=by
 have:=mJ (l:=below m.toNat) (l':=l) (fg _) fun x hx=>by
   obtain ⟨h0,h1⟩:=c9.mp hx;exact h x h0 (by omega)
 rw [bh] at this;omega
def qK (p:Int) (r:Road):List Int:=(if r.a=p then [r.b] else [])++(if r.b=p then [r.a] else [])
def b6 (rs:List Road) (p:Int):List Int:=rs.flatMap (qK p)
theorem pM {rs:List Road} {p e:Int}:e∈b6 rs p↔∃ r∈rs,(r.a=p/\r.b=e)\/(r.b=p/\r.a=e):=by
 unfold b6 qK;rw [List.mem_flatMap]
 constructor
 . rintro ⟨r,hr,h⟩;refine ⟨r,hr,?_⟩;rcases List.mem_append.mp h with h|h
   . by_cases c:r.a=p
     . rw [if_pos c] at h;exact .inl ⟨c,(List.mem_singleton.mp h).symm⟩
     . rw [if_neg c] at h;cases h
   . by_cases c:r.b=p
     . rw [if_pos c] at h;exact .inr ⟨c,(List.mem_singleton.mp h).symm⟩
     . rw [if_neg c] at h;cases h
 . rintro ⟨r,hr,h⟩;refine ⟨r,hr,List.mem_append.mpr ?_⟩;rcases h with ⟨h1,h2⟩|⟨h1,h2⟩
   . exact .inl (by rw [if_pos h1,h2];exact List.mem_singleton.mpr rfl)
   . exact .inr (by rw [if_pos h1,h2];exact List.mem_singleton.mpr rfl)
theorem FE (rs:List Road) (p:Int):(b6 rs p).length<=2*rs.length:=by
 unfold b6
 induction rs with
 | nil=>simp
 | cons r rs ih =>
   rw [List.flatMap_cons,List.length_append,List.length_cons];have:(qK p r).length<=2:=by
     unfold qK;rw [List.length_append];by_cases c:r.a=p <;> by_cases d:r.b=p <;> simp [c,d]
   omega
theorem qI (rs:List Road) (r:Road) (p:Int):b6 (rs++[r]) p=b6 rs p++qK p r:=by
 unfold b6;rw [List.flatMap_append];simp
def zY (c:List Int × List Int) (e:Int):List Int × List Int:=if e∈c.1 then c else (c.1++[e],c.2++[e])
structure JInv (m:Int) (rs:List Road) (ks ws:List Int):Prop where
 nd:ks.Nodup
 zero:0∈ks
 rng:∀ k∈ks,0<=k/\k<m
 sub:∀ w∈ws,w∈ks
 cl:∀ k∈ks,k ∉ ws->∀ e∈b6 rs k,e∈ks
 wl:ws.length<=ks.length
theorem IH {l:List Int} {e:Int} (h:l.Nodup) (he:e ∉ l):(l++[e]).Nodup:=by
 rw [List.nodup_append];refine ⟨h,by simp,fun a ha b hb=>?_⟩;rw [List.mem_singleton.mp hb];exact fun z=>he (z ▸ ha)
structure JMid (m:Int) (rs:List Road) (p:Int) (es ks ws ks0:List Int) (n0:Nat):Prop where
 nd:ks.Nodup
 zero:0∈ks
 rng:∀ k∈ks,0<=k/\k<m
 sub:∀ w∈ws,w∈ks
 cl:∀ k∈ks,k ∉ ws->k=p\/∀ e∈b6 rs k,e∈ks
 seen:∀ e∈es,e∈ks
 pin:p∈ks
 mu:ks.length+n0=ks0.length+ws.length
 up:ks0.length<=ks.length
 wl:ws.length<=ks.length
theorem JMid.start {m:Int} {rs:List Road} {ks ws:List Int} {p:Int} (h:JInv m rs ks (ws++[p])):JMid m rs p [] ks ws ks ws.length where
 nd:=h.nd
 zero:=h.zero
 rng:=h.rng
 sub:=fun w hw=>h.sub w (List.mem_append_left _ hw)
 cl:=fun k hk hw=>by
   by_cases e:k=p
   . exact .inl e
   . exact .inr (h.cl k hk fun z=>by
       rcases List.mem_append.mp z with z|z
       . exact hw z
       . exact e (List.mem_singleton.mp z))
 seen:=fun e he=>by cases he
 pin:=h.sub p (List.mem_append_right _ (List.mem_singleton.mpr rfl))
 mu:=rfl
 up:=Nat.le_refl _
 wl:=by have:=h.wl;rw [List.length_append] at this;simp at this;omega
theorem JMid.step {m:Int} {rs:List Road} {p:Int} {es ks ws ks0:List Int} {n0:Nat} {e:Int} (h:JMid m rs p es ks ws ks0 n0) (h0:0<=e) (h1:e<m) :
   JMid m rs p (es++[e]) (zY (ks,ws) e).1 (zY (ks,ws) e).2 ks0 n0:=by
 unfold zY;by_cases c:e∈ks
 . rw [if_pos c];refine ⟨h.nd,h.zero,h.rng,h.sub,h.cl,fun x hx=>?_,h.pin,h.mu,h.up,h.wl⟩;rcases List.mem_append.mp hx with z|z
   . exact h.seen x z
   . rw [List.mem_singleton.mp z];exact c
 . rw [if_neg c];dsimp only;refine ⟨IH h.nd c,List.mem_append_left _ h.zero,fun k hk=>?_,fun w hw=>?_,fun k hk hw=>?_,fun x hx=>?_,List.mem_append_left _ h.pin,?_,by have:=h.up;simp;omega,by have:=h.wl;simp;exact this⟩
   . rcases List.mem_append.mp hk with z|z
     . exact h.rng k z
     . rw [List.mem_singleton.mp z];exact ⟨h0,h1⟩
   . rcases List.mem_append.mp hw with z|z
     . exact List.mem_append_left _ (h.sub w z)
     . exact List.mem_append_right _ z
   . rcases List.mem_append.mp hk with z|z
     . rcases h.cl k z fun y=>hw (List.mem_append_left _ y) with y|y
       . exact .inl y
       . exact .inr fun x hx=>List.mem_append_left _ (y x hx)
     . exact absurd (List.mem_append_right _ z) hw
   . rcases List.mem_append.mp hx with z|z
     . exact List.mem_append_left _ (h.seen x z)
     . exact List.mem_append_right _ z
   . have:=h.mu;simp only [List.length_append,List.length_cons,List.length_nil];omega
theorem JMid.done {m:Int} {rs:List Road} {p:Int} {ks ws ks0:List Int} {n0:Nat} (h:JMid m rs p (b6 rs p) ks ws ks0 n0):JInv m rs ks ws where
 nd:=h.nd
 zero:=h.zero
 rng:=h.rng
 sub:=h.sub
 cl:=fun k hk hw=>by
   rcases h.cl k hk hw with z|z
   . rw [z];exact h.seen
   . exact z
 wl:=h.wl
theorem JInv.start {m:Int} {rs:List Road} (hm:1<=m):JInv m rs [0] [0] where
 nd:=by simp
 zero:=by simp
 rng:=fun k hk=>by rw [List.mem_singleton.mp hk];omega
 sub:=fun w hw=>hw
 cl:=fun k hk hw=>absurd hk hw
 wl:=by simp
theorem JInv.all {m:Int} {rs:List Road} {ks:List Int} (h:JInv m rs ks []) (hm:1<=m) (j:Lx m rs):(ks.length:Int)=m:=by
 have up:=cM (by omega) h.nd h.rng;have:∀ v,0<=v->v<m->v∈ks:=j (fun v=>v∈ks) h.zero fun r hr=>by
   constructor
   . intro ha;exact h.cl r.a ha (by simp) r.b (pM.mpr ⟨r,hr,.inl ⟨rfl,rfl⟩⟩)
   . intro hb;exact h.cl r.b hb (by simp) r.a (pM.mpr ⟨r,hr,.inr ⟨rfl,rfl⟩⟩)
 have:=Np (by omega) this;omega
theorem MJ {m:Int} {rs:List Road} (h:∀ r∈rs,RoadOk m r) {p e:Int} (he:e∈b6 rs p):0<=e/\e<m:=by
 obtain ⟨r,hr,z⟩:=pM.mp he;have k:=h r hr;rcases z with ⟨_,rfl⟩|⟨_,rfl⟩
 . exact ⟨k.b0,k.b1⟩
 . exact ⟨k.a0,k.a1⟩
structure Row where
 k:Int
 un:Int
 t:Int
 u:Int
 sw:Int
 sp:Int
structure RowOk (r:Row):Prop where
 u0:0<=r.un
 u1:r.un<r.k
 t0:2<=r.t
 t1:r.t<=1000000
 v0:2<=r.u
 v1:r.u<=1000000
 s0:0<=r.sp
 s1:r.sp<r.k
structure Rows (n:Nat) (rows:List Row):Prop where
 len:rows.length=n
 ok:∀ (i:Nat) (r:Row),rows[i]?=some r->r.k=(i:Int)+1/\RowOk r
structure Labels (n:Nat) (ls:List Int):Prop where
 len:ls.length=n
 nd:ls.Nodup
 all:∀ v:Int,0<=v->v<n->v∈ls
 rng:∀ v∈ls,0<=v/\v<n
theorem zT {α:Type} {l:List α} {k:Nat} {x y:α}:y∈l.take k++x::l.drop k↔y=x\/y∈l:=by
 rw [List.mem_append,List.mem_cons]
 constructor
 . rintro (h|h|h)
   . exact .inr (List.mem_of_mem_take h)
   . exact .inl h
   . exact .inr (List.mem_of_mem_drop h)
 . rintro (h|h)
   . exact .inr (.inl h)
   . rw [<- List.take_append_drop k l] at h;rcases List.mem_append.mp h with z|z
     . exact .inl z
     . exact .inr (.inr z)
def gM (ls:List Int) (r:Row):Road:=if r.sw=1 then ⟨ls.getD r.un.toNat 0,ls.getD r.k.toNat 0,r.t,r.u⟩ else ⟨ls.getD r.k.toNat 0,ls.getD r.un.toNat 0,r.t,r.u⟩
structure Put (ls:List Int) (rows:List Row) (rs:List Road):Prop where
 len:rs.length=rows.length
 of:∀ r∈rs,∃ w∈rows,r=gM ls w
 to:∀ w∈rows,gM ls w∈rs
theorem Put.nil (ls:List Int):Put ls [] []:=⟨rfl,fun r h=>(by cases h),fun r h=>(by cases h)⟩
theorem Put.step {ls:List Int} {rows:List Row} {rs:List Road} (h:Put ls rows rs) (w:Row) (k:Nat):Put ls (rows++[w]) (rs.take k++gM ls w::rs.drop k) where
 len:=by
   rw [List.length_append,List.length_cons,List.length_take,List.length_drop,List.length_append,h.len];simp;omega
 of:=fun r hr=>by
   rcases zT.mp hr with z|z
   . exact ⟨w,by simp,z⟩
   . obtain ⟨w',hw,e⟩:=h.of r z;exact ⟨w',List.mem_append_left _ hw,e⟩
 to:=fun w' hw=>by
   rw [zT];rcases List.mem_append.mp hw with z|z
   . exact .inr (h.to w' z)
   . exact .inl (by rw [List.mem_singleton.mp z])
theorem xV {ls:List Int} {n:Nat} (h:Labels n ls) {i:Nat} (hi:i<n):ls[i]?=some (ls.getD i 0):=by
 have:i<ls.length:=by rw [h.len];exact hi
 simp [List.getD,List.getElem?_eq_getElem this]
theorem Fq {ls:List Int} {n:Nat} (h:Labels n ls) {i:Nat} (hi:i<n):ls.getD i 0∈ls:=List.mem_of_getElem? (xV h hi)
theorem Ot {ls:List Int} {n:Nat} (h:Labels n ls) {i j:Nat} (hi:i<n) (hj:j<n) (e:ls.getD i 0=ls.getD j 0):i=j:=by
 have h1:i<ls.length:=by rw [h.len];exact hi
 have h2:j<ls.length:=by rw [h.len];exact hj
 have e1:=xV h hi;have e2:=xV h hj;rw [e] at e1;have e3:ls[i]'h1=ls[j]'h2:=by
   rw [List.getElem?_eq_getElem h1] at e1;rw [List.getElem?_eq_getElem h2] at e2;exact Option.some.inj (e1.trans e2.symm)
 have nd:=List.pairwise_iff_getElem.mp h.nd;rcases Nat.lt_trichotomy i j with z|z|z
 . exact absurd e3 (nd i j h1 h2 z)
 . exact z
 . exact absurd e3.symm (nd j i h2 h1 z)
theorem P8 {n:Nat} {ls:List Int} {rows:List Row} {rs:List Road} (h1:1<=n) (h24:n<=24) (L:Labels n ls) (W:Rows (n - 1) rows) (P:Put ls rows rs):Good n rs where
 m1:=by omega
 m24:=by omega
 len:=by rw [P.len,W.len];omega
 ok:=fun r hr=>by
   obtain ⟨w,hw,rfl⟩:=P.of r hr;obtain ⟨i,hi⟩:=List.getElem?_of_mem hw;obtain ⟨ek,ok⟩:=W.ok i w hi;have hil:i<rows.length:=(List.getElem?_eq_some_iff.mp hi).1;rw [W.len] at hil;have hk:w.k.toNat<n:=by omega
   have hu:w.un.toNat<n:=by have:=ok.u0;have:=ok.u1;omega
   have r1:=L.rng _ (Fq L hk);have r2:=L.rng _ (Fq L hu);have ne:ls.getD w.k.toNat 0≠ls.getD w.un.toNat 0:=fun e=>by
     have:=Ot L hk hu e;have:=ok.u0;have:=ok.u1;omega
   unfold gM;by_cases c:w.sw=1
   . rw [if_pos c];exact ⟨r2.1,r2.2,r1.1,r1.2,ne.symm,ok.t0,ok.t1,ok.v0,ok.v1⟩
   . rw [if_neg c];exact ⟨r1.1,r1.2,r2.1,r2.2,ne,ok.t0,ok.t1,ok.v0,ok.v1⟩
 jn:=by
   intro S s0 hS;have key:∀ i:Nat,i<n->(S (ls.getD i 0)↔S (ls.getD 0 0)):=by
     intro i
     induction i using Nat.strongRecOn with
     | ind i ih =>
       intro hi;by_cases z:i=0
       . rw [z]
       . have hil:i - 1<rows.length:=(by rw [W.len];omega);obtain ⟨ek,ok⟩:=W.ok (i - 1) rows[i - 1] (List.getElem?_eq_getElem hil);have hm:=P.to rows[i - 1] (List.getElem_mem hil);have hr:=hS _ hm;have hk:(rows[i - 1]).k.toNat=i:=(by omega);have hu:(rows[i - 1]).un.toNat<i:=(by have:=ok.u0;have:=ok.u1;omega);have hh:=ih _ hu (by omega);unfold gM at hr;rw [hk] at hr;by_cases c:(rows[i - 1]).sw=1
         . rw [if_pos c] at hr;exact hr.symm.trans hh
         . rw [if_neg c] at hr;exact hr.trans hh
   have at_:∀ v,0<=v->v<(n:Int)->∃ i,i<n/\ls.getD i 0=v:=fun v h0 h1=>by
     obtain ⟨i,hi⟩:=List.getElem?_of_mem (L.all v h0 h1);have hil:i<n:=(by have:=(List.getElem?_eq_some_iff.mp hi).1;rw [L.len] at this;exact this);refine ⟨i,hil,?_⟩;have:=xV L hil;rw [hi] at this;exact (Option.some.inj this).symm
   intro v h0 hv;obtain ⟨i,hi,rfl⟩:=at_ v h0 hv;obtain ⟨j,hj,ej⟩:=at_ 0 (by omega) (by omega);refine (key i hi).mpr ((key j hj).mp ?_);rw [ej];exact s0
end Pb
set_option linter.all false
namespace Pb
def Adj (rs:List Road) (a b:Int):Prop:=∃ x∈rs,(x.a=a/\x.b=b)\/(x.b=a/\x.a=b)
theorem Adj.symm {rs:List Road} {a b:Int} (h:Adj rs a b):Adj rs b a:=by
 obtain ⟨x,hx,h⟩:=h;rcases h with ⟨h1,h2⟩|⟨h1,h2⟩
 . exact ⟨x,hx,.inr ⟨h2,h1⟩⟩
 . exact ⟨x,hx,.inl ⟨h2,h1⟩⟩
theorem zy {rs:List Road} {a b:Int}:b∈b6 rs a↔Adj rs a b:=pM
theorem Good.adj {m:Int} {rs:List Road} (g:Good m rs) {a b:Int} (h:Adj rs a b):(0<=a/\a<m)/\(0<=b/\b<m)/\a≠b:=by
 obtain ⟨x,hx,h⟩:=h;have k:=g.ok x hx;rcases h with ⟨h1,h2⟩|⟨h1,h2⟩
 . subst h1 h2;exact ⟨⟨k.a0,k.a1⟩,⟨k.b0,k.b1⟩,k.ne⟩
 . subst h1 h2;exact ⟨⟨k.b0,k.b1⟩,⟨k.a0,k.a1⟩,k.ne.symm⟩
theorem Good.from {m:Int} {rs:List Road} (g:Good m rs) {r:Int} (h0:0<=r) (h1:r<m) (S:Int->Prop) (sr:S r) (hS:∀ x∈rs,(S x.a↔S x.b)):∀ v,0<=v->v<m->S v:=by
 have key:∀ v,0<=v->v<m->(S v↔S 0):=g.jn (fun v=>S v↔S 0) Iff.rfl fun x hx=>by
   have:=hS x hx;exact ⟨fun h=>this.symm.trans h,fun h=>this.trans h⟩
 intro v a b;exact (key v a b).mpr ((key r h0 h1).mp sr)
inductive Dist (rs:List Road) (r:Int):Nat->Int->Prop
 | zero:Dist rs r 0 r
 | step {n:Nat} {u v:Int}:Dist rs r n u->Adj rs u v->Dist rs r (n+1) v
theorem Sh {P:Nat->Prop}:∀ n,P n->∃ k,P k/\∀ j,j<k->¬ P j:=by
 intro n
 induction n using Nat.strongRecOn with
 | ind n ih =>
   intro h;by_cases z:∃ j,j<n/\P j
   . obtain ⟨j,hj,hp⟩:=z;exact ih j hj hp
   . exact ⟨n,h,fun j hj hp=>z ⟨j,hj,hp⟩⟩
structure Rooted (m:Int) (rs:List Road) (r:Int) (par:Int->Int) (dep:Int->Nat):Prop where
 root:dep r=0
 up:∀ v,0<=v->v<m->v≠r->(0<=par v/\par v<m)/\Adj rs v (par v)/\dep (par v)+1=dep v
 road:∀ x∈rs,(x.a≠r/\par x.a=x.b)\/(x.b≠r/\par x.b=x.a)
 one:(rs.map fun x=>if x.a≠r/\par x.a=x.b then x.a else x.b).Nodup
theorem QG {n:Nat} {l:List Nat} (hn:l.Nodup) (hl:l.length=n) (hb:∀ x∈l,x<n):∀ i,i<n->i∈l:=by
 intro i hi;by_cases z:i∈l
 . exact z
 . have:=mJ (l:=i::l) (l':=List.range n) (List.nodup_cons.mpr ⟨z,hn⟩) fun x hx=>by
     rcases List.mem_cons.mp hx with rfl|hx
     . exact List.mem_range.mpr hi
     . exact List.mem_range.mpr (hb x hx)
   rw [List.length_cons,List.length_range] at this;omega
theorem AE {m:Int} {rs:List Road} (g:Good m rs) {r:Int} (h0:0<=r) (h1:r<m):∃ par dep,Rooted m rs r par dep:=by
 classical
 have reach:∀ v,0<=v->v<m->∃ n,Dist rs r n v:=g.from h0 h1 (fun v=>∃ n,Dist rs r n v) ⟨0,.zero⟩ fun x hx=>by
   constructor
   . rintro ⟨n,d⟩;exact ⟨n+1,d.step ⟨x,hx,.inl ⟨rfl,rfl⟩⟩⟩
   . rintro ⟨n,d⟩;exact ⟨n+1,d.step ⟨x,hx,.inr ⟨rfl,rfl⟩⟩⟩
 have hd:∀ v,∃ k,(0<=v/\v<m)->Dist rs r k v/\∀ j,j<k->¬ Dist rs r j v:=fun v=>by
   by_cases z:0<=v/\v<m
   . obtain ⟨n,d⟩:=reach v z.1 z.2;obtain ⟨k,h⟩:=Sh (P:=fun k=>Dist rs r k v) n d;exact ⟨k,fun _=>h⟩
   . exact ⟨0,fun h=>absurd h z⟩
 let dep:Int->Nat:=fun v=>(hd v).choose
 have dspec:∀ v,0<=v->v<m->Dist rs r (dep v) v/\∀ j,j<dep v->¬ Dist rs r j v:=fun v a b=>(hd v).choose_spec ⟨a,b⟩;have dr:dep r=0:=by
   have:=(dspec r h0 h1).2 0;by_cases z:dep r=0
   . exact z
   . exact absurd Dist.zero (this (by omega))
 have hp:∀ v,∃ u,(0<=v/\v<m/\v≠r)->Adj rs v u/\dep u+1=dep v:=fun v=>by
   by_cases z:0<=v/\v<m/\v≠r
   . obtain ⟨a,b,c⟩:=z;obtain ⟨d,dm⟩:=dspec v a b;generalize hk:dep v=k at d dm;cases d with
     | zero=>exact absurd rfl c
     | @step n u _ d e =>
       refine ⟨u,fun _=>⟨e.symm,?_⟩⟩;obtain ⟨⟨u0,u1⟩,_⟩:=g.adj e;have l1:dep u<=n:=by
         by_cases w:dep u<=n
         . exact w
         . exact absurd d ((dspec u u0 u1).2 n (by omega))
       have l2:¬ dep u<n:=fun w=>dm (dep u+1) (by omega) ((dspec u u0 u1).1.step e);omega
   . exact ⟨0,fun h=>absurd h z⟩
 let par:Int->Int:=fun v=>(hp v).choose
 have pspec:∀ v,0<=v->v<m->v≠r->Adj rs v (par v)/\dep (par v)+1=dep v:=fun v a b c=>(hp v).choose_spec ⟨a,b,c⟩;have hi:∀ v,∃ i:Nat,(0<=v/\v<m/\v≠r)->∃ x,rs[i]?=some x/\((x.a=v/\x.b=par v)\/(x.b=v/\x.a=par v)):=fun v=>by
   by_cases z:0<=v/\v<m/\v≠r
   . obtain ⟨x,hx,h⟩:=(pspec v z.1 z.2.1 z.2.2).1;obtain ⟨i,e⟩:=List.getElem?_of_mem hx;exact ⟨i,fun _=>⟨x,e,h⟩⟩
   . exact ⟨0,fun h=>absurd h z⟩
 let ix:Int->Nat:=fun v=>(hi v).choose
 have ispec:∀ v,0<=v->v<m->v≠r->∃ x,rs[ix v]?=some x/\((x.a=v/\x.b=par v)\/(x.b=v/\x.a=par v)):=fun v a b c=>(hi v).choose_spec ⟨a,b,c⟩;have inj:∀ v u,0<=v->v<m->v≠r->0<=u->u<m->u≠r->ix v=ix u->v=u:=by
   intro v u a b c a' b' c' e;obtain ⟨x,hx,h⟩:=ispec v a b c;obtain ⟨y,hy,h'⟩:=ispec u a' b' c';rw [e,hy] at hx;cases hx;have d1:=(pspec v a b c).2;have d2:=(pspec u a' b' c').2;rcases h with ⟨p,q⟩|⟨p,q⟩ <;> rcases h' with ⟨p',q'⟩|⟨p',q'⟩
   . exact p.symm.trans p'
   . exfalso
     have e1:v=par u:=p.symm.trans q';have e2:u=par v:=p'.symm.trans q;rw [<- e1] at d2;rw [<- e2] at d1;omega
   . exfalso
     have e1:v=par u:=p.symm.trans q';have e2:u=par v:=p'.symm.trans q;rw [<- e1] at d2;rw [<- e2] at d1;omega
   . exact p.symm.trans p'
 let vs:List Int:=(below m.toNat).filter fun v=>decide (v≠r)
 have mv:∀ v,v∈vs↔(0<=v/\v<m/\v≠r):=fun v=>by
   rw [List.mem_filter,c9,decide_eq_true_eq]
   constructor
   . rintro ⟨⟨a,b⟩,c⟩;exact ⟨a,by omega,c⟩
   . rintro ⟨a,b,c⟩;exact ⟨⟨a,by omega⟩,c⟩
 have nv:vs.Nodup:=(fg _).filter _;have lv:vs.length=rs.length:=by
   have e1:(r::vs).length<=(below m.toNat).length:=mJ (List.nodup_cons.mpr ⟨fun h=>((mv r).mp h).2.2 rfl,nv⟩) fun x hx=>by
     rcases List.mem_cons.mp hx with rfl|hx
     . exact c9.mpr ⟨h0,by omega⟩
     . have:=(mv x).mp hx;exact c9.mpr ⟨this.1,by omega⟩
   have e2:(below m.toNat).length<=(r::vs).length:=mJ (fg _) fun x hx=>by
     have:=c9.mp hx;by_cases z:x=r
     . rw [z];exact List.mem_cons_self
     . exact List.mem_cons_of_mem _ ((mv x).mpr ⟨this.1,by omega,z⟩)
   rw [bh,List.length_cons] at e1 e2;have:=g.len;have:=g.m1;omega
 have il:(vs.map ix).Nodup:=by
   have:∀ (l:List Int),l.Nodup->(∀ v∈l,0<=v/\v<m/\v≠r)->(l.map ix).Nodup:=by
     intro l
     induction l with
     | nil=>intro _ _;simp
     | cons v l ih =>
       intro hn hm;obtain ⟨n1,n2⟩:=List.nodup_cons.mp hn;rw [List.map_cons];refine List.nodup_cons.mpr ⟨fun z=>?_,ih n2 fun u hu=>hm u (List.mem_cons_of_mem _ hu)⟩;obtain ⟨u,hu,e⟩:=List.mem_map.mp z;obtain ⟨a,b,c⟩:=hm v List.mem_cons_self;obtain ⟨a',b',c'⟩:=hm u (List.mem_cons_of_mem _ hu);exact n1 (inj u v a' b' c' a b c e ▸ hu)
   exact this vs nv fun v hv=>(mv v).mp hv
 have ib:∀ i∈vs.map ix,i<rs.length:=fun i hi'=>by
   obtain ⟨v,hv,rfl⟩:=List.mem_map.mp hi';obtain ⟨a,b,c⟩:=(mv v).mp hv;obtain ⟨x,hx,_⟩:=ispec v a b c;exact (List.getElem?_eq_some_iff.mp hx).1
 have all:=QG il (by rw [List.length_map,lv]) ib;have back:∀ i x,rs[i]?=some x->∃ v,(0<=v/\v<m/\v≠r)/\ix v=i/\((x.a=v/\x.b=par v)\/(x.b=v/\x.a=par v)):=fun i x e=>by
   obtain ⟨v,hv,rfl⟩:=List.mem_map.mp (all i (List.getElem?_eq_some_iff.mp e).1);obtain ⟨a,b,c⟩:=(mv v).mp hv;obtain ⟨y,hy,h⟩:=ispec v a b c;rw [e] at hy;cases hy;exact ⟨v,⟨a,b,c⟩,rfl,h⟩
 have noback:∀ v,0<=v->v<m->v≠r->par v≠r->par (par v)≠v:=fun v a b c c' z=>by
   have d1:=pspec v a b c;obtain ⟨_,⟨a',b'⟩,_⟩:=g.adj d1.1;have d2:=pspec (par v) a' b' c';rw [z] at d2;omega
 have kid:∀ i x,rs[i]?=some x->∃ v,(0<=v/\v<m/\v≠r)/\ix v=i/\(if x.a≠r/\par x.a=x.b then x.a else x.b)=v:=fun i x e=>by
   obtain ⟨v,⟨a,b,c⟩,hv,h⟩:=back i x e;refine ⟨v,⟨a,b,c⟩,hv,?_⟩;rcases h with ⟨p,q⟩|⟨p,q⟩
   . rw [if_pos ⟨by rw [p];exact c,by rw [p];exact q.symm⟩];exact p
   . rw [if_neg]
     . exact p
     . rintro ⟨z1,z2⟩;rw [q] at z1 z2;exact noback v a b c z1 (z2.trans p)
 refine ⟨par,dep,dr,fun v a b c=>?_,fun x hx=>?_,?_⟩
 . obtain ⟨p,q⟩:=pspec v a b c;obtain ⟨_,w,_⟩:=g.adj p;exact ⟨w,p,q⟩
 . obtain ⟨i,e⟩:=List.getElem?_of_mem hx;obtain ⟨v,⟨a,b,c⟩,_,h⟩:=back i x e;rcases h with ⟨p,q⟩|⟨p,q⟩
   . exact .inl ⟨by rw [p];exact c,by rw [p];exact q.symm⟩
   . exact .inr ⟨by rw [p];exact c,by rw [p];exact q.symm⟩
 . refine List.pairwise_iff_getElem.mpr fun i j hi' hj' lt=>?_;rw [List.length_map] at hi' hj';rw [List.getElem_map,List.getElem_map];intro z;obtain ⟨v,_,e1,k1⟩:=kid i rs[i] (List.getElem?_eq_getElem hi');obtain ⟨u,_,e2,k2⟩:=kid j rs[j] (List.getElem?_eq_getElem hj');rw [k1,k2] at z;rw [z] at e1;omega
theorem Kj {m:Int} {rs:List Road} (g:Good m rs) {p:Int} (h0:0<=p) (h1:p<m):(b6 rs p).Nodup:=by
 obtain ⟨par,dep,R⟩:=AE g h0 h1;have one:=R.one;have ok:=g.ok;have road:=R.road;clear R g
 induction rs with
 | nil=>simp [b6]
 | cons x l ih =>
   have ox:=ok x List.mem_cons_self;have ol:∀ y∈l,RoadOk m y:=fun y hy=>ok y (List.mem_cons_of_mem _ hy);rw [List.map_cons] at one;obtain ⟨n1,n2⟩:=List.nodup_cons.mp one;have il:=ih n2 ol fun y hy=>road y (List.mem_cons_of_mem _ hy);have e:b6 (x::l) p=qK p x++b6 l p:=by unfold b6;rw [List.flatMap_cons]
   rw [e];have kid:∀ y,RoadOk m y->((y.a≠p/\par y.a=y.b)\/(y.b≠p/\par y.b=y.a))->(y.a=p->(if y.a≠p/\par y.a=y.b then y.a else y.b)=y.b)/\(y.b=p->(if y.a≠p/\par y.a=y.b then y.a else y.b)=y.a):=fun y oy hy=>by
     constructor
     . intro z;rw [if_neg (fun w=>w.1 z)]
     . intro z;rcases hy with hy|hy
       . rw [if_pos hy]
       . exact absurd z hy.1
   have kx:=kid x ox (road x List.mem_cons_self);have inl:∀ e∈b6 l p,e∈l.map fun y=>if y.a≠p/\par y.a=y.b then y.a else y.b:=fun e he=>by
     obtain ⟨y,hy,h⟩:=pM.mp he;have ky:=kid y (ol y hy) (road y (List.mem_cons_of_mem _ hy));refine List.mem_map.mpr ⟨y,hy,?_⟩;rcases h with ⟨p1,q1⟩|⟨p1,q1⟩
     . rw [ky.1 p1];exact q1
     . rw [ky.2 p1];exact q1
   unfold qK;by_cases c:x.a=p
   . have d:¬ x.b=p:=fun z=>ox.ne (c.trans z.symm);rw [if_pos c,if_neg d,List.append_nil];refine List.nodup_cons.mpr ⟨fun z=>n1 ?_,il⟩;rw [kx.1 c];exact inl _ z
   . rw [if_neg c,List.nil_append];by_cases d:x.b=p
     . rw [if_pos d];refine List.nodup_cons.mpr ⟨fun z=>n1 ?_,il⟩;rw [kx.2 d];exact inl _ z
     . rw [if_neg d];exact il
def dQ (m:Int) (rs:List Road) (p:Int):List Int:=(below m.toNat).filter fun q=>decide (q∈b6 rs p)
theorem C6:∀ {l l':List Int},l.Perm l'->l.Pairwise (·<=·)->l'.Pairwise (·<=·)->l=l'
 | [],l',p,_,_=>(List.Perm.nil_eq p)
 | a::l,l',p,h,h'=>by
   cases l' with
   | nil=>exact absurd p.symm.nil_eq (by simp)
   | cons b r =>
     obtain ⟨h1,h2⟩:=List.pairwise_cons.mp h;obtain ⟨h1',h2'⟩:=List.pairwise_cons.mp h';have e:a=b:=by
       have ma:a∈b::r:=p.subset List.mem_cons_self;have mb:b∈a::l:=p.symm.subset List.mem_cons_self;rcases List.mem_cons.mp ma with z|z
       . exact z
       . rcases List.mem_cons.mp mb with w|w
         . exact w.symm
         . have:=h1 b w;have:=h1' a z;omega
     subst e;rw [C6 (List.Perm.cons_inv p) h2 h2']
theorem Gi (n:Nat):(below n).Pairwise (·<=·):=by
 unfold below;refine List.Pairwise.map _ (fun a b (h:a<b)=>?_) List.pairwise_lt_range;omega
theorem Gx (m:Int) (rs:List Road) (p:Int):(dQ m rs p).Pairwise (·<=·):=(Gi _).filter _
theorem Be (m:Int) (rs:List Road) (p:Int):(dQ m rs p).Nodup:=(fg _).filter _
theorem gh {m:Int} {rs:List Road} (g:Good m rs) {p q:Int}:q∈dQ m rs p↔Adj rs p q:=by
 unfold dQ;rw [List.mem_filter,decide_eq_true_eq,zy,c9]
 constructor
 . exact fun h=>h.2
 . intro h;obtain ⟨_,⟨a,b⟩,_⟩:=g.adj h;exact ⟨⟨a,by omega⟩,h⟩
theorem iy:∀ {l l':List Int},l.Nodup->l'.Nodup->(∀ x,x∈l↔x∈l')->l.Perm l'
 | [],l',_,_,h=>by
   cases l' with
   | nil=>exact .nil
   | cons b r=>exact absurd ((h b).mpr List.mem_cons_self) (by simp)
 | a::l,l',n,n',h=>by
   obtain ⟨n1,n2⟩:=List.nodup_cons.mp n;have ma:a∈l':=(h a).mp List.mem_cons_self;refine List.Perm.trans (List.Perm.cons a ?_) (List.perm_cons_erase ma).symm;refine iy n2 (n'.erase a) fun x=>?_
   constructor
   . intro hx;have ne:x≠a:=fun z=>n1 (z ▸ hx);exact (List.mem_erase_of_ne ne).mpr ((h x).mp (List.mem_cons_of_mem _ hx))
   . intro hx;have:x≠a:=fun z=>by
       subst z;exact (List.Nodup.not_mem_erase n') hx
     rcases List.mem_cons.mp ((h x).mpr (List.mem_of_mem_erase hx)) with z|z
     . exact absurd z this
     . exact z
theorem QH {m:Int} {rs:List Road} (g:Good m rs) {p:Int} (h0:0<=p) (h1:p<m) {zs:List Int} (hp:zs.Perm (b6 rs p)) (hs:zs.Pairwise (·<=·)):zs=dQ m rs p:=by
 refine C6 (hp.trans (iy (Kj g h0 h1) (Be m rs p) fun x=>?_)) hs (Gx m rs p);rw [gh g,zy]
def dE (a b:Int) (x:Road):Option Int:=if x.a=a/\x.b=b then some x.t else if x.a=b/\x.b=a then some x.u else none
def aH (rs:List Road) (a b:Int):Option Int:=rs.findSome? (dE a b)
theorem uK {rs:List Road} {a b:Int}:(aH rs a b).isSome=true↔Adj rs a b:=by
 unfold aH;rw [List.findSome?_isSome_iff]
 constructor
 . rintro ⟨x,hx,h⟩;unfold dE at h;by_cases c:x.a=a/\x.b=b
   . exact ⟨x,hx,.inl c⟩
   . rw [if_neg c] at h;by_cases d:x.a=b/\x.b=a
     . exact ⟨x,hx,.inr ⟨d.2,d.1⟩⟩
     . rw [if_neg d] at h;cases h
 . rintro ⟨x,hx,h⟩;refine ⟨x,hx,?_⟩;unfold dE;rcases h with h|h
   . rw [if_pos h];rfl
   . by_cases c:x.a=a/\x.b=b
     . rw [if_pos c];rfl
     . rw [if_neg c,if_pos ⟨h.2,h.1⟩];rfl
def lI (x:Road) (a b:Int):Prop:=(x.a=a/\x.b=b)\/(x.b=a/\x.a=b)
theorem CU {m:Int} {rs:List Road} (g:Good m rs) {a b:Int} {i j:Nat} {x y:Road} (hi:rs[i]?=some x) (hj:rs[j]?=some y) (jx:lI x a b) (jy:lI y a b):i=j:=by
 obtain ⟨⟨a0,a1⟩,_,_⟩:=g.adj (show Adj rs a b from ⟨x,List.mem_of_getElem? hi,jx⟩);obtain ⟨par,dep,R⟩:=AE g a0 a1;have kid:∀ z∈rs,lI z a b->(if z.a≠a/\par z.a=z.b then z.a else z.b)=b:=fun z hz jz=>by
   rcases jz with ⟨p,q⟩|⟨p,q⟩
   . rw [if_neg (fun w=>w.1 p)];exact q
   . rcases R.road z hz with w|w
     . rw [if_pos w];exact q
     . exact absurd p w.1
 have li:=(List.getElem?_eq_some_iff.mp hi);have lj:=(List.getElem?_eq_some_iff.mp hj);obtain ⟨li,ei⟩:=li;obtain ⟨lj,ej⟩:=lj;have nd:=List.pairwise_iff_getElem.mp R.one;have vi:(rs.map fun z=>if z.a≠a/\par z.a=z.b then z.a else z.b)[i]'(by rw [List.length_map];exact li)=b:=by
   rw [List.getElem_map];exact kid _ (List.getElem_mem li) (ei ▸ jx)
 have vj:(rs.map fun z=>if z.a≠a/\par z.a=z.b then z.a else z.b)[j]'(by rw [List.length_map];exact lj)=b:=by
   rw [List.getElem_map];exact kid _ (List.getElem_mem lj) (ej ▸ jy)
 rcases Nat.lt_trichotomy i j with z|z|z
 . exact absurd (vi.trans vj.symm) (nd i j _ _ z)
 . exact z
 . exact absurd (vj.trans vi.symm) (nd j i _ _ z)
theorem JJ {a b:Int} {x:Road} (h:¬ lI x a b):dE a b x=none:=by
 unfold dE;rw [if_neg (fun z=>h (.inl z)),if_neg (fun z=>h (.inr ⟨z.2,z.1⟩))]
theorem qM {m:Int} {rs:List Road} (g:Good m rs) {a b:Int} {i:Nat} {x:Road} (hi:rs[i]?=some x) (j:lI x a b):aH rs a b=dE a b x:=by
 have lt:=(List.getElem?_eq_some_iff.mp hi);obtain ⟨lt,ex⟩:=lt;have e:rs=rs.take i++x::rs.drop (i+1):=by rw [<- ex,List.getElem_cons_drop,List.take_append_drop]
 have pre:aH (rs.take i) a b=none:=by
   unfold aH;rw [List.findSome?_eq_none_iff];intro y hy;refine JJ fun jy=>?_;obtain ⟨k,hk⟩:=List.getElem?_of_mem hy;have lk:=(List.getElem?_eq_some_iff.mp hk).1;rw [List.length_take] at lk;rw [List.getElem?_take_of_lt (by omega)] at hk;have:=CU g hk hi jy j;omega
 have hx:(dE a b x).isSome=true:=by
   unfold dE;rcases j with z|z
   . rw [if_pos z];rfl
   . by_cases c:x.a=a/\x.b=b
     . rw [if_pos c];rfl
     . rw [if_neg c,if_pos ⟨z.2,z.1⟩];rfl
 obtain ⟨v,hv⟩:=Option.isSome_iff_exists.mp hx;have:aH (rs.take i++x::rs.drop (i+1)) a b=dE a b x:=by
   unfold aH at pre ⊢;rw [List.findSome?_append,pre,List.findSome?_cons,hv]
   rfl
 rw [<- e] at this;exact this
theorem LV {rs:List Road} {a b:Int} (h:¬ Adj rs a b):aH rs a b=none:=by
 cases q:aH rs a b with
 | none=>rfl
 | some v=>exact absurd (uK.mp (by rw [q];rfl)) h
theorem Ov {x:Road} (h:x.a≠x.b):dE x.a x.b x=some x.t:=by unfold dE;rw [if_pos ⟨rfl,rfl⟩]
theorem MZ {x:Road} (h:x.a≠x.b):dE x.b x.a x=some x.u:=by unfold dE;rw [if_neg (fun z=>h z.1),if_pos ⟨rfl,rfl⟩]
theorem Ls {m:Int} {rs:List Road} (p:Int):dQ m rs p=(below m.toNat).filter fun q=>(aH rs p q).isSome:=by
 unfold dQ
 congr 1
 funext q
 rw [Bool.eq_iff_iff,decide_eq_true_eq,uK,zy]
section
variable {m:Int} {row:List Int} {rs rs':List Road}
end
end Pb
set_option Elab.async false
set_option linter.all false
set_option maxRecDepth 100000
namespace L2
open PySem PySem.Spec PyProof.Rows
def bd (CX:CXT):Prop:=∀ outer H s e s',¬ CX outer H s E0 e s'
theorem aN {CX:CXT} (q:bd CX) {X:Cx}:rZ CX X E0:=fun _ _ _ _ _ _ _ h=>(q _ _ _ _ _ h).elim
structure Df (K:PySem.W.Frag) (mg:Str->Option Value) (x:Str) (st:Stmt) (ps:List Str) (f:Addr) (fd:FuncData):Prop where
 F:Fun K x x st f fd
 m:mg x=some (.ref f)
 b:Binds K fd ps []
section
variable {P:Program} {w:World} {K:PySem.W.Frag} {mg:Str->Option Value} {base:Heap} {CX:CXT}
theorem Fun.okC {x qual:Str} {st:Stmt} {f:Addr} {fd:FuncData} {N ps:List Str} {k:Nat} {sp:Sp} (F:Fun K x qual st f fd) (S:FnScope N ps (aa st)) (len:∀ vs H Q E,sp vs H Q E->vs.length=ps.length)
   (hbody:∀ (cdv:Value) (A:Around) (outer:List Env) (s:Shared) (H:Hp) (vs:List V) (Q:VK) (E:XK),Room k (A.deeper (envOfC qual (aa st) s.heap.objs.size f cdv))->sp vs H Q E ->
     ∃ t,PSs (nM CX P w K mg base N qual (aa st) f cdv A outer s H E).nox (aD st) t/\t { nx:=fun _ H'=>Q .non H',rt:=Q } (start N vs) H):FnOk P w K mg base CX (k+1) f fd ps sp:=by
 obtain ⟨oc,od,kV,doc,pm,an,cdv,ct,osl,rfl,lk,hcd⟩:=F.ex;refine Py lk hcd S len fun A outer s H vs Q E hr hsp=>?_;obtain ⟨t,h,q⟩:=hbody cdv A outer s H vs Q E hr hsp;exact ⟨t,h.nox,q⟩
end
structure NmL (sc:Scope) (x:Str):Prop where
 l:sc.names.lookup x=some .local
 d:(x == ("__debug__":Str))=false
 c:(x == ("__classdict__":Str))=false
structure NmC (sc:Scope) (x:Str):Prop where
 l:sc.names.lookup x=some .cell
 d:(x == ("__debug__":Str))=false
 c:(x == ("__classdict__":Str))=false
structure NmG (sc:Scope) (x:Str):Prop where
 g:sc.names.lookup x=some .globalImplicit
 d:(x == ("__debug__":Str))=false
 n:x≠"__name__"
theorem us1 {us:List Value} (h:us.length=1):∃ a0,us=[a0]:=List.length_eq_one_iff.mp h
theorem us2 {us:List Value} (h:us.length=2):∃ a0 a1,us=[a0,a1]:=by
 cases us with
 | nil=>cases h
 | cons a0 t =>
   obtain ⟨a1,e⟩:=us1 (Nat.succ.inj h);subst e;exact ⟨a0,a1,rfl⟩
theorem us3 {us:List Value} (h:us.length=3):∃ a0 a1 a2,us=[a0,a1,a2]:=by
 cases us with
 | nil=>cases h
 | cons a0 t =>
   obtain ⟨a1,a2,e⟩:=us2 (Nat.succ.inj h);subst e;exact ⟨a0,a1,a2,rfl⟩
theorem us4 {us:List Value} (h:us.length=4):∃ a0 a1 a2 a3,us=[a0,a1,a2,a3]:=by
 cases us with
 | nil=>cases h
 | cons a0 t =>
   obtain ⟨a1,a2,a3,e⟩:=us3 (Nat.succ.inj h);subst e;exact ⟨a0,a1,a2,a3,rfl⟩
theorem us5 {us:List Value} (h:us.length=5):∃ a0 a1 a2 a3 a4,us=[a0,a1,a2,a3,a4]:=by
 cases us with
 | nil=>cases h
 | cons a0 t =>
   obtain ⟨a1,a2,a3,a4,e⟩:=us4 (Nat.succ.inj h);subst e;exact ⟨a0,a1,a2,a3,a4,rfl⟩
def nmL (sc:Scope) (x:Str):Bool:=decide (sc.names.lookup x=some .local) && !(x == ("__debug__":Str)) && !(x == ("__classdict__":Str))
def nmC (sc:Scope) (x:Str):Bool:=decide (sc.names.lookup x=some .cell) && !(x == ("__debug__":Str)) && !(x == ("__classdict__":Str))
def nmG (sc:Scope) (x:Str):Bool:=decide (sc.names.lookup x=some .globalImplicit) && !(x == ("__debug__":Str)) && !decide (x="__name__")
theorem NmL.of {sc:Scope} {x:Str} (h:nmL sc x=true):NmL sc x:=by
 unfold nmL at h;simp only [Bool.and_eq_true,decide_eq_true_eq,Bool.not_eq_true'] at h;exact ⟨h.1.1,h.1.2,h.2⟩
theorem NmC.of {sc:Scope} {x:Str} (h:nmC sc x=true):NmC sc x:=by
 unfold nmC at h;simp only [Bool.and_eq_true,decide_eq_true_eq,Bool.not_eq_true'] at h;exact ⟨h.1.1,h.1.2,h.2⟩
theorem NmG.of {sc:Scope} {x:Str} (h:nmG sc x=true):NmG sc x:=by
 unfold nmG at h;simp only [Bool.and_eq_true,decide_eq_true_eq,Bool.not_eq_true',decide_eq_false_iff_not] at h;exact ⟨h.1.1,h.1.2,h.2⟩
def Rl (N ps:List Str) (sc:Scope):Bool:=decide (sc.kind=.function) && !sc.isCoroutine && !sc.isGenerator && decide N.Nodup && decide (N.take ps.length=ps) && (ps.all fun x=>decide (sc.names.lookup x=some .local\/sc.names.lookup x=some .cell)) && (sc.names.all fun y=>decide (y.2≠.free))
theorem FnScope.of {N ps:List Str} {sc:Scope} (h:Rl N ps sc=true):FnScope N ps sc:=by
 unfold Rl at h;simp only [Bool.and_eq_true,decide_eq_true_eq,Bool.not_eq_true',List.all_eq_true] at h;obtain ⟨⟨⟨⟨⟨⟨h1,h2⟩,h3⟩,h4⟩,h5⟩,h6⟩,h7⟩:=h;exact ⟨h1,h2,h3,h4,h5,h6,h7⟩
theorem pvl {X:Cx} (i:Nat) {x:Str} {pos:Pos} (n:NmL X.env.scope x) (hN:X.N[i]?=some x:=by rfl):PE X (.Name x pos) (BJ i):=Fc hN (.inl n.l) n.d n.c
theorem pvc {X:Cx} (i:Nat) {x:Str} {pos:Pos} (n:NmC X.env.scope x) (hN:X.N[i]?=some x:=by rfl):PE X (.Name x pos) (BJ i):=Fc hN (.inr (.inl n.l)) n.d n.c
theorem KW {CX:CXT} {P:Program} {w:World} {K:PySem.W.Frag} {mg:Str->Option Value} {base:Heap} {N:List Str} {qual:Str} {scope:Scope} {f:Addr} {cd:Value} {A:Around} {outer:List Env} {s:Shared} {H:Hp} {E:XK} :
   (nM CX P w K mg base N qual scope f cd A outer s H E).K=K:=rfl
theorem CZ (D:Ends) (σ:St) (H:Hp):tNever D σ H=False:=rfl
theorem Qw (i j:Int):qc (.int i) (.int j)=true:=rfl
theorem Ql (i j:Bool):qc (.bl i) (.bl j)=true:=rfl
theorem PV (i:Int):qc (.int i) .non=true:=rfl
theorem QP (i:Int):qc .non (.int i)=true:=rfl
theorem Qf:qc .non .non=true:=rfl
theorem QI (i j:Str):qc (.str i) (.str j)=true:=rfl
theorem ixT {K:PySem.W.Frag} {H:Hp} {p:Addr} {xs:List V} {i:Int} {v:V} {Q:VK} (h:H p=some (.tup xs)) (e:atI xs i=some v) (q:Q v H):R0 K (.ref p) (.int i) H Q:=⟨p,xs,i,v,rfl,rfl,SqT.of h,e,q⟩
theorem ixL {K:PySem.W.Frag} {H:Hp} {p:Addr} {xs:List V} {i:Int} {v:V} {Q:VK} (h:H p=some (.lst xs)) (e:atI xs i=some v) (q:Q v H):Eb K (.ref p) (.int i) H Q:=⟨p,xs,i,v,rfl,rfl,SqL.of h,e,q⟩
theorem ixS {K:PySem.W.Frag} {H:Hp} {p:Addr} {xs:List V} {i:Int} {v:V} {Q:VK} (h:SqL K H p xs) (e:atI xs i=some v) (q:Q v H):Eb K (.ref p) (.int i) H Q:=⟨p,xs,i,v,rfl,rfl,h,e,q⟩
theorem tyL {K:PySem.W.Frag} {H:Hp} {l:Addr} {xs:List V} (h:H l=some (.lst xs)):tyV K "list" (.ref l) H:=.inl ⟨rfl,_,SqL.of h⟩
theorem sW {H:Hp} {l:Addr} {xs:List V} {y:V} {Q:VK} (h:H l=some (.lst xs)) (hz:xs.length<sizeLine) (q:Q .non (upd H l (.lst (xs++[y])))):rAppend (.ref l) [y] H Q:=⟨l,xs,y,rfl,rfl,h,hz,q⟩
theorem SL {H:Hp} {l:Addr} {xs:List V} {i:Int} {y:V} {Q:VK} (h:H l=some (.lst xs)) (h0:0<=i) (h1:i<=xs.length) (hz:xs.length<sizeLine) (q:Q .non (upd H l (.lst (xs.take i.toNat++y::xs.drop i.toNat)))):rInsert (.ref l) [.int i,y] H Q :=
 ⟨l,xs,i,y,rfl,rfl,h,h0,h1,hz,q⟩
theorem Nh {H:Hp} {l:Addr} {xs:List V} {y:V} {Q:VK} (h:H l=some (.lst (xs++[y]))) (q:Q y (upd H l (.lst xs))):rPop (.ref l) [] H Q :=
 ⟨l,xs++[y],y,rfl,rfl,h,by simp,by rw [List.dropLast_concat];exact q⟩
theorem dH {n:Nat} (h:n<=100000):n<sizeLine:=Nat.lt_of_le_of_lt h (by decide)
theorem bE {n:Nat} (h:n<=100000):n<=sizeLine:=Nat.le_of_lt (dH h)
theorem gD {α:Type} {xs:List α} {i:Int} {v:α} (h0:0<=i) (h:xs[i.toNat]?=some v):atI xs i=some v:=by
 obtain ⟨n,rfl⟩:∃ n:Nat,i=n:=⟨i.toNat,by omega⟩;exact HA (by simpa using h)
theorem yO {X:Cx} {x:Str} {i:Int} {pos:Pos} (hg:Gl X x) (hm:∃ t,X.mg x=some (.int i t)) (hd:(x == ("__debug__":Str))=false:=by decide):PE X (.Name x pos) (tC (.int i)):=by
 obtain ⟨t,e⟩:=hm;exact PY hg e ⟨t,rfl⟩ hd
def Itx (K:PySem.W.Frag):Bool->Addr->It
 | true,a=>Itl K a
 | false,a=>Itt K a
def Ph (K:PySem.W.Frag) (c:Bool) (tl:TE):TI:=fun σ H R=>tl σ H fun x H1=>∃ a,x=.ref a/\(∃ xs,SqX K c H1 a xs)/\R (Itx K c a) H1
theorem Ky {X:Cx} {tg l:Expr} {tl:TE} (c:Bool) (hl:PE X l tl):PI X tg l (Ph X.K c tl):=by
 cases c
 . exact wV hl
 . exact jI hl
def sN (J:It) (p:Addr) (Q:VK) (g:TG) (tc:TT) (te:TE) (σ0:St) (H0:Hp):Prop :=
 ∃ W:Nat->Nat->List V->St->Hp->Prop,(∃ m,W 0 m [] σ0 H0)/\∀ i m ys σc Hc,W i m ys σc Hc ->
   (J.stop i Hc/\Q (.ref p) Hc)\/(J.go i Hc/\∀ x H',J.yld i Hc x H'->g x σc H' fun σ2 H2=>tc σ2 H2 fun b H3 =>
     if b=true then te σ2 H3 fun y H4=>H4 p=some (.lst ys)/\ys.length<sizeLine/\∃ m',m'<m/\W (i+1) m' (ys++[y]) σ2 (upd H4 p (.lst (ys++[y])))
     else ∃ m',m'<m/\W (i+1) m' ys σ2 H3)
theorem CY {own:Nat} {js:List Nat} {wi:TI} {g:TG} {tc:TT} {te:TE} {σ:St} {H:Hp} {Q:VK}:J7 own js wi g tc te σ H Q=wi σ H fun J H1=>∀ p,H1 p=none->sN J p Q g tc te (hZ own js σ) (upd H1 p (.lst [])):=rfl
def qy (J:It) (D:Ends) (g:TG) (tb:TS) (σ:St) (H:Hp):Prop:=∃ W:Nat->Nat->St->Hp->Prop,(∃ m,W 0 m σ H)/\∀ i m σ H,W i m σ H ->
 (J.stop i H/\D.nx σ H)\/(J.go i H/\∃ N:St->Hp->Prop,(∀ σ' H',N σ' H'->∃ m',m'<m/\W (i+1) m' σ' H')/\∀ x H',J.yld i H x H'->g x σ H' fun σ2 H2=>tb { D with nx:=N,ct:=N,bk:=D.nx } σ2 H2)
theorem HV {wi:TI} {g:TG} {tb:TS} {D:Ends} {σ:St} {H:Hp}:Ry wi g tb D σ H=wi σ H fun J H1=>qy J D g tb σ H1:=rfl
theorem yT {K:PySem.W.Frag} {c:Bool} {a p:Addr} {xs:List V} {Q:VK} {g:TG} {tc:TT} {te:TE} {σ0:St} {H0:Hp} (Pv:Nat->List V->St->Hp->Prop) (h0:Pv 0 [] σ0 H0) (hl:∀ i ys σ H,i<=xs.length->Pv i ys σ H->SqX K c H a xs)
   (hs:∀ (i:Nat) (x:V) (ys:List V) (σ:St) (H:Hp) (N:List V->St->Hp->Prop),(∀ ys' σ' H',Pv (i+1) ys' σ' H'->N ys' σ' H')->xs[i]?=some x->Pv i ys σ H->g x σ H fun σ2 H2=>tc σ2 H2 fun b H3 =>
     if b=true then te σ2 H3 fun y H4=>H4 p=some (.lst ys)/\ys.length<sizeLine/\N (ys++[y]) σ2 (upd H4 p (.lst (ys++[y]))) else N ys σ2 H3)
   (hd:∀ ys σ H,Pv xs.length ys σ H->Q (.ref p) H):sN (Itx K c a) p Q g tc te σ0 H0:=by
 refine ⟨fun i m ys σ H=>m=xs.length - i/\i<=xs.length/\Pv i ys σ H,⟨xs.length,by simp,Nat.zero_le _,h0⟩,?_⟩;rintro i m ys σ H ⟨rfl,hi,pv⟩;have q:=hl i ys σ H hi pv;by_cases hlt:i<xs.length
 . refine .inr ⟨?_,fun x H' y=>?_⟩
   . cases c
     . exact ⟨xs,xs[i],q,by simp [hlt]⟩
     . exact ⟨xs,xs[i],q,by simp [hlt]⟩
   . have e:H'=H/\xs[i]?=some x:=by
       cases c
       . exact ⟨y.1,y.2 xs q⟩
       . exact ⟨y.1,y.2 xs q⟩
     obtain ⟨rfl,hx⟩:=e;exact hs i x ys σ _ (fun ys' σ' H'=>∃ m',m'<xs.length - i/\(m'=xs.length - (i+1)/\i+1<=xs.length/\Pv (i+1) ys' σ' H')) (fun ys' σ' H' pv'=>⟨xs.length - (i+1),by omega,rfl,hlt,pv'⟩) hx pv
 . have e:i=xs.length:=by omega
   subst e;refine .inl ⟨?_,hd ys σ H pv⟩;cases c
   . exact ⟨xs,q,Nat.le_refl _⟩
   . exact ⟨xs,q,Nat.le_refl _⟩
theorem zX {lo:Int} {n:Nat} {p:Addr} {Q:VK} {g:TG} {tc:TT} {te:TE} {σ0:St} {H0:Hp} (Pv:Nat->List V->St->Hp->Prop) (h0:Pv 0 [] σ0 H0)
   (hs:∀ (i:Nat) (ys:List V) (σ:St) (H:Hp) (N:List V->St->Hp->Prop),(∀ ys' σ' H',Pv (i+1) ys' σ' H'->N ys' σ' H')->i<n->Pv i ys σ H->g (.int (lo+i)) σ H fun σ2 H2=>tc σ2 H2 fun b H3 =>
     if b=true then te σ2 H3 fun y H4=>H4 p=some (.lst ys)/\ys.length<sizeLine/\N (ys++[y]) σ2 (upd H4 p (.lst (ys++[y]))) else N ys σ2 H3)
   (hd:∀ ys σ H,Pv n ys σ H->Q (.ref p) H):sN (Itr lo n) p Q g tc te σ0 H0:=by
 refine ⟨fun i m ys σ H=>m=n - i/\i<=n/\Pv i ys σ H,⟨n,by simp,Nat.zero_le _,h0⟩,?_⟩;rintro i m ys σ H ⟨rfl,hi,pv⟩;by_cases hlt:i<n
 . refine .inr ⟨hlt,fun x H' y=>?_⟩;obtain ⟨rfl,rfl⟩:=y;exact hs i ys σ _ (fun ys' σ' H'=>∃ m',m'<n - i/\(m'=n - (i+1)/\i+1<=n/\Pv (i+1) ys' σ' H')) (fun ys' σ' H' pv'=>⟨n - (i+1),by omega,rfl,hlt,pv'⟩) hlt pv
 . have e:i=n:=by omega
   subst e;exact .inl ⟨Nat.le_refl _,hd ys σ H pv⟩
theorem lD:bootBuiltins "len"=some (.builtin "len"):=by decide +kernel
theorem Rr:bootBuiltins "all"=some (.builtin "all"):=by decide +kernel
theorem LS:bootBuiltins "min"=some (.builtin "min"):=by decide +kernel
theorem C1:bootBuiltins "sorted"=some (.builtin "sorted"):=by decide +kernel
theorem Rj:bootBuiltins "int"=some (.type "int"):=by decide +kernel
theorem HK:bootBuiltins "list"=some (.type "list"):=by decide +kernel
theorem uQ:bootBuiltins "tuple"=some (.type "tuple"):=by decide +kernel
section
variable {X:Cx} {a b o e:Expr} {es:List Expr} {ta tb to:TE} {t:TA} {pos apos cpos:Pos} {f name:Str} {T id:String} {r:V->List V->Hp->VK->Prop}
theorem BS (K:PySem.W.Frag) (h:X.K=K):jM X (.type "tuple") (fun xs H Q=>∃ p ys,xs=[.ref p]/\((SqL K H p ys/\∀ l,H l=none->Q (.ref l) (upd H l (.tup ys)))\/(SqT K H p ys/\Q (.ref p) H))):=by subst h;exact kc
theorem Mw (K:PySem.W.Frag) (h:X.K=K):IxR X (Eb K):=by subst h;exact bg
end
theorem A3 {x:Str} {k:NameKind}:∀ {l:List (Str × NameKind)},l.lookup x=some k->∃ y,(y,k)∈l
 | [],h=>by simp at h
 | (n,j)::r,h=>by
   rw [List.lookup_cons] at h;cases q:x == n with
   | true =>
     rw [q] at h;cases h;exact ⟨n,List.mem_cons_self⟩
   | false =>
     rw [q] at h;obtain ⟨y,hy⟩:=A3 h;exact ⟨y,List.mem_cons_of_mem _ hy⟩
theorem zh {X:Cx} {Nc:List Str} {scope:Scope} (own:Nat) (hf:∀ y∈scope.names,y.2≠.free) (hc:∀ y∈scope.names,y.2≠.cell) (hk:scope.kind=.function) (hn:∀ y∈scope.names,y.2=.local->scope.names.lookup y.1=some .local)
   (hl:Nc.length=own):CompTxt X Nc own [] scope [] where
 clos:=closureFor_none hf
 kind:=hk
 nocell:=hc
 names:=hn
 cells:=fun x c h=>by cases h
 has:=fun x h=>by
   have key:∀ k,(relabel scope X.env).names.lookup x=some k->k≠.cell/\k≠.free:=fun k e=>by
     obtain ⟨y,hy⟩:=A3 e;obtain ⟨⟨n,k0⟩,hm,e2⟩:=List.mem_map.mp hy;have h1:=hf _ hm;have h2:=hc _ hm;have e3:(k0 == NameKind.free)=false:=(by simpa using h1);simp only [e3,Bool.false_and,Bool.false_eq_true,if_false] at e2;cases e2;exact ⟨h2,h1⟩
   rcases h with h|h
   . exact absurd rfl (key _ h).1
   . exact absurd rfl (key _ h).2
 len:=by simpa using hl
 outer:=fun i x h=>by
   rw [List.getElem?_eq_none (by omega)] at h;cases h
theorem xC {K:PySem.W.Frag} {a:Addr} {xs:List V} {g:TG} {tb:TS} {D:Ends} {σ:St} {H:Hp} (Pv:Nat->St->Hp->Prop) (h0:Pv 0 σ H) (hl:∀ i σ H,i<=xs.length->Pv i σ H->SqL K H a xs)
   (hs:∀ (i:Nat) (x:V) (σ:St) (H:Hp) (N:St->Hp->Prop),(∀ σ' H',Pv (i+1) σ' H'->N σ' H')->xs[i]?=some x->Pv i σ H->g x σ H fun σ2 H2=>tb { D with nx:=N,ct:=N,bk:=D.nx } σ2 H2) (hd:∀ σ H,Pv xs.length σ H->D.nx σ H) :
   qy (Itl K a) D g tb σ H:=L6 Pv h0 hl (fun i x σ H hx p=>hs i x σ H (Pv (i+1)) (fun _ _ z=>z) hx p) hd
theorem DK {K:PySem.W.Frag} {a:Addr} {xs:List V} {g:TG} {tb:TS} {D:Ends} {σ:St} {H:Hp} (Pv:Nat->St->Hp->Prop) (h0:Pv 0 σ H) (hl:∀ i σ H,i<=xs.length->Pv i σ H->SqT K H a xs)
   (hs:∀ (i:Nat) (x:V) (σ:St) (H:Hp) (N:St->Hp->Prop),(∀ σ' H',Pv (i+1) σ' H'->N σ' H')->xs[i]?=some x->Pv i σ H->g x σ H fun σ2 H2=>tb { D with nx:=N,ct:=N,bk:=D.nx } σ2 H2) (hd:∀ σ H,Pv xs.length σ H->D.nx σ H) :
   qy (Itt K a) D g tb σ H:=Ck Pv h0 hl (fun i x σ H hx p=>hs i x σ H (Pv (i+1)) (fun _ _ z=>z) hx p) hd
theorem oG {lo:Int} {n:Nat} {g:TG} {tb:TS} {D:Ends} {σ:St} {H:Hp} (Pv:Nat->St->Hp->Prop) (h0:Pv 0 σ H)
   (hs:∀ (i:Nat) (σ:St) (H:Hp) (N:St->Hp->Prop),(∀ σ' H',Pv (i+1) σ' H'->N σ' H')->i<n->Pv i σ H->g (.int (lo+i)) σ H fun σ2 H2=>tb { D with nx:=N,ct:=N,bk:=D.nx } σ2 H2) (hd:∀ σ H,Pv n σ H->D.nx σ H) :
   qy (Itr lo n) D g tb σ H:=KS Pv h0 (fun i σ H hi p=>hs i σ H (Pv (i+1)) (fun _ _ z=>z) hi p) hd
theorem Cn {c:TT} {tb:TS} {D:Ends} {σ:St} {H:Hp} (W:Nat->St->Hp->Prop) (n0:Nat) (h0:W n0 σ H)
   (hs:∀ (n:Nat) (σ:St) (H:Hp) (N:St->Hp->Prop),(∀ n' σ' H',n'<n->W n' σ' H'->N σ' H')->(∀ σ' H',N σ' H'->∃ m',m'<n/\W m' σ' H')->W n σ H ->
     c σ H fun b H1=>if b=true then ∃ N:St->Hp->Prop,(∀ σ' H',N σ' H'->∃ m',m'<n/\W m' σ' H')/\tb { D with nx:=N,ct:=N,bk:=D.nx } σ H1 else D.nx σ H1):Fm c tb D σ H :=
 ⟨W,⟨n0,h0⟩,fun n σ H w=>hs n σ H (fun σ' H'=>∃ m',m'<n/\W m' σ' H') (fun n' _ _ hn w'=>⟨n',hn,w'⟩) (fun _ _ z=>z) w⟩
theorem p60:(0:Int)<10^(60:Int).toNat:=Int.pow_pos (by decide)
theorem HY {a:Int} {n:Nat} (h:a.natAbs<2^n):Builtin.Int.intBits a<=n:=by
 unfold Builtin.Int.intBits;by_cases z:a=0
 . subst z;simp
 . have hz:(a == 0)=false:=by simpa using z
   rw [hz];simp only [Bool.false_eq_true,if_false];have:=(Nat.log2_lt (by omega)).mpr h;omega
theorem Sc {a b:Int} (ha:a.natAbs<2^4000) (hb:b.natAbs<2^4000):IntMulOk a b :=
 IntMulOk.of_bits (Nat.le_trans (HY ha) (by decide)) (Nat.le_trans (HY hb) (by decide))
open Pb
def jP (r:Road):List V:=[.int r.a,.int r.b,.int r.t,.int r.u]
abbrev RoadsAt (H:Hp):List Addr->List Road->Prop:=Paired fun p r=>H p=some (.tup (jP r))
theorem RoadsAt.same {H H':Hp} (e:Same H H') {ps:List Addr} {rs:List Road} (h:RoadsAt H ps rs):RoadsAt H' ps rs:=Paired.imp' (fun p r q=>e p _ q) h
theorem RoadsAt.get {H:Hp}:∀ {ps:List Addr} {rs:List Road} {i:Nat} {x:V},RoadsAt H ps rs->(ps.map V.ref)[i]?=some x->∃ p r,x=.ref p/\ps[i]?=some p/\rs[i]?=some r/\H p=some (.tup (jP r))
 | _,_,i,x,.nil,e=>by simp at e
 | _,_,0,x,.cons (a:=p) (b:=r) h hs,e=>⟨p,r,by simpa using e.symm,by simp,by simp,h⟩
 | a::l1,_,i+1,x,.cons h hs,e=>by
   have e':(List.map V.ref l1)[i]?=some x:=by simpa using e
   obtain ⟨p,r,h1,h2,h3,h4⟩:=RoadsAt.get hs e';exact ⟨p,r,h1,by simpa using h2,by simpa using h3,h4⟩
theorem Same.tup {K:PySem.W.Frag} {H H':Hp} {a:Addr} {xs:List V} (e:Same H H') (h:SqT K H a xs):SqT K H' a xs:=by
 rcases h with (h|⟨o,h⟩)|h
 . exact .inl (.inl (e _ _ h))
 . exact .inl (.inr ⟨o,e _ _ h⟩)
 . exact .inr h
theorem Same.sqX {K:PySem.W.Frag} {H H':Hp} {c:Bool} {a:Addr} {xs:List V} (e:Same H H') (h:SqX K c H a xs):SqX K c H' a xs:=by
 cases c
 . exact Same.tup e h
 . exact Same.seq e h
theorem Same.new {H:Hp} {p:Addr} (o:HO) (h:H p=none):Same H (upd H p o):=fun b u e=>by rw [aq (bf e h)];exact e
end L2
set_option Elab.async false
set_option linter.all false
set_option maxRecDepth 100000
namespace L2
open PySem PySem.Spec PyProof.Rows
abbrev bmV:List Value:=[.type "ValueError",.type "Exception",.type "BaseException",.type "object"]
structure XCls (K:PySem.W.Frag) (C:Addr):Prop where
 ty:PySem.W.typeIn K (.ref C)=some (.type "type")
 ga:PySem.W.findIn K (.ref C) "__getattribute__"=some (some (.builtin "BaseException.__getattribute__"))
 gt:PySem.W.findIn K (.ref C) "__getattr__"=some none
 cl:PySem.W.findIn K (.ref C) "__class__"=some (some (.builtin "object.__class__"))
 gs:PySem.W.specialIn K (.builtin "object.__class__") "__get__"=some (some (.builtin "getset_descriptor.__get__"))
 tk:PySem.W.takesIn K (.builtin "object.__class__")=some true
 mo:PySem.W.mroIn K C (.type "object")=some true
 mb:PySem.W.mroIn K C (.type "BaseException")=some true
 hd:PySem.W.hasDictIn K C=true
 sf:PySem.W.mroIn K C (.ref C)=some true
section
variable {prog:Program} {w:World} {A:Around} {E:Value->Shared->Prop} {s:Shared} {K:PySem.W.Frag} {x C:Addr} {ox:Obj} {od:Option Obj}
end
end L2
set_option Elab.async false
set_option linter.all false
set_option maxRecDepth 100000
namespace L2
open PySem PySem.Spec PyProof.Rows
def lU (h:Heap) (ea:Addr) (cls:Value) (od:Option Addr) (head:Value):Prop:=∃ oe vs,h.get? ea=some oe/\oe.cls=cls/\oe.dict=od/\oe.data=.fields vs/\vs[1]?=some head/\vs[2]?=some .none
def TbO (h:Heap) (T:Addr) (fl:Value):Prop:=∃ oT ts,h.get? T=some oT/\oT.data=.fields ts/\ts[3]?=some fl
structure Err (h:Heap) (ea T:Addr) (cls:Value) (od:Option Addr) (fl:Value):Prop where
 e:lU h ea cls od (.ref T)
 t:TbO h T fl
 ne:T≠ea
structure Kept (fs xs:List Addr) (h h':Heap):Prop where
 keep:∀ b o,h.get? b=some o->b ∉ fs->b ∉ xs->h'.get? b=some o
 slot:∀ b o,h.get? b=some o->b∈fs->b ∉ xs->∃ sl,h'.get? b=some { o with slots:=sl }
 there:∀ b o,h.get? b=some o->∃ o',h'.get? b=some o'
theorem Kept.mono {fs xs ys:List Addr} {h h':Heap} (k:Kept fs xs h h') (s:∀ b∈xs,b∈ys):Kept fs ys h h':=⟨fun b o e f x=>k.keep b o e f fun z=>x (s b z),fun b o e f x=>k.slot b o e f fun z=>x (s b z),k.there⟩
theorem Kept.trans {fs xs:List Addr} {h h1 h2:Heap} (a:Kept fs xs h h1) (b:Kept fs xs h1 h2):Kept fs xs h h2 where
 keep:=fun c o e f x=>b.keep c o (a.keep c o e f x) f x
 slot:=fun c o e f x=>by
   obtain ⟨s1,e1⟩:=a.slot c o e f x;obtain ⟨s2,e2⟩:=b.slot c _ e1 f x;exact ⟨s2,e2⟩
 there:=fun c o e=>by
   obtain ⟨o1,e1⟩:=a.there c o e;exact b.there c o1 e1
theorem Kept.of_all {fs xs:List Addr} {h h':Heap} (k:∀ b o,h.get? b=some o->h'.get? b=some o):Kept fs xs h h':=⟨fun b o e _ _=>k b o e,fun b o e _ _=>⟨o.slots,k b o e⟩,fun b o e=>⟨o,k b o e⟩⟩
theorem zJ {fs xs:List Addr} {h:Heap} {a:Addr} {oa:Obj} {vs:Array Value} {i:Nat} {v:Value} (ha:h.get? a=some oa) (hd:oa.data=.fields vs) (hx:a∈xs):Kept fs xs h (h.update a (Obj.mapFields (·.setIfInBounds i v))):=by
 have oth:∀ b o,h.get? b=some o->b ∉ xs->(h.update a (Obj.mapFields (·.setIfInBounds i v))).get? b=some o:=fun b o e x=>by
   rw [Heap.get?_update_other _ _ (fun (z:a=b)=>x (z ▸ hx))];exact e
 refine ⟨fun b o e _ x=>oth b o e x,fun b o e _ x=>⟨o.slots,oth b o e x⟩,fun b o e=>?_⟩;by_cases z:b=a
 . subst z;exact ⟨_,Heap.get?_update_self _ ha (Obj.isFreed_of_fields (Obj.data_mapFields hd _))⟩
 . rw [Heap.get?_update_other _ _ (Ne.symm z)];exact ⟨o,e⟩
theorem Pd {h:Heap} {ea:Addr} {cls hd v:Value} {od:Option Addr} (e:lU h ea cls od hd):lU (h.update ea (Obj.mapFields (·.setIfInBounds 1 v))) ea cls od v:=by
 obtain ⟨oe,vs,h1,h2,h3,h4,h5,h6⟩:=e;have sz:1<vs.size:=(Array.getElem?_eq_some_iff.mp h5).1;refine ⟨_,_,Heap.get?_update_self _ h1 (Obj.isFreed_of_fields (Obj.data_mapFields h4 _)),?_,?_,Obj.data_mapFields h4 _,by simp [sz],by rw [Array.getElem?_setIfInBounds_ne (by decide)];exact h6⟩
 . rw [<- h2];exact Obj.cls_mapFields _ _
 . rw [<- h3];obtain ⟨c,d,dt,sl⟩:=oe;cases dt <;> rfl
theorem AL {h:Heap} {ea a:Addr} {cls hd:Value} {od:Option Addr} {f:Obj->Obj} (e:lU h ea cls od hd) (ne:a≠ea):lU (h.update a f) ea cls od hd:=by
 obtain ⟨oe,vs,h1,h2⟩:=e;exact ⟨oe,vs,by rw [Heap.get?_update_other _ _ ne];exact h1,h2⟩
theorem Da {h h':Heap} {ea:Addr} {cls hd:Value} {od:Option Addr} (e:lU h ea cls od hd) (k:∀ o,h.get? ea=some o->h'.get? ea=some o):lU h' ea cls od hd:=by
 obtain ⟨oe,vs,h1,h2⟩:=e;exact ⟨oe,vs,k _ h1,h2⟩
theorem Ll {h base:Heap} {ea:Addr} {cls hd:Value} {od:Option Addr} {l:List Env} (e:lU h ea cls od hd) (f:h.FunFrames base l):ea ∉ frs l:=fun z=>by
 obtain ⟨oe,vs,h1,_,_,h4,_⟩:=e;obtain ⟨_,o,ho,hn⟩:=f.mem z;rw [h1] at ho;cases ho;exact hn vs h4
theorem Md {h base:Heap} {T:Addr} {fl:Value} {l:List Env} (e:TbO h T fl) (f:h.FunFrames base l):T ∉ frs l:=fun z=>by
 obtain ⟨oe,vs,h1,h4,_⟩:=e;obtain ⟨_,o,ho,hn⟩:=f.mem z;rw [h1] at ho;cases ho;exact hn vs h4
section
variable {M:Model} {A:Around} {E:Value->Shared->Prop} {s:Shared} {Q:Unit->Shared->Prop} {fs:List Addr} {ea T L:Addr} {cls fl hd:Value} {od:Option Addr} {base:Heap} {env:Env} {outer:List Env}
theorem Ho (r:Err s.heap ea T cls od fl) (h:∀ h',Err h' ea T cls od .none->Kept fs [T] s.heap h'->Q () { s with heap:=h' }):wpAny M A (setFlight (.ref ea) none) Q E s:=by
 obtain ⟨⟨oe,vs,h1,h2,h3,h4,h5,h6⟩,⟨oT,ts,t1,t2,t3⟩,ne⟩:=r;have sz:3<ts.size:=(Array.getElem?_eq_some_iff.mp t3).1;unfold setFlight;refine wpAny_bind (wpAny_field h1 h4 h5 ?_);rw [if_pos (by simp:(Value.ref T != Value.none)=true)];refine wpAny_setField t1 t2 sz (h _ ⟨AL ⟨oe,vs,h1,h2,h3,h4,h5,h6⟩ ne,⟨_,_,Heap.get?_update_self _ t1 (Obj.isFreed_of_fields (Obj.data_mapFields t2 _)),Obj.data_mapFields t2 _,by simp [sz]⟩,ne⟩ (zJ t1 t2 (by simp)))
theorem F4 {head:Value} {hadNext:Bool} (hfr:A.frames=some (env::outer)) (hl:s.heap.FunFrames base (env::outer)) (hf:env.frame=some L) (r:lU s.heap ea cls od hd)
   (h:∀ h' T',Err h' ea T' cls od (rawInt L)->Kept (frs (env::outer)) [ea] s.heap h'->s.heap.get? T'=none->Q () { s with heap:=h' }) :
   wpAny M A (do let a <- frameOf env;let pl <- entryPlaceOf L hadNext;let b <- EntryCells.newEntry head a .none (rawInt L) .none pl;setField (.ref ea) 1 b) Q E s:=by
 have nf:=Ll r hl;refine wpAny_bind (wpAny_frameOf_fun hfr hl hf fun g1 so=>wpAny_bind (wpAny_entryPlaceOf fun pl hpl=>?_));unfold EntryCells.newEntry newFields;refine wpAny_bind (wpAny_newObj_type ?_ (hpl.sizeOk5 _ _ _ _ _));have r1:lU g1 ea cls od hd:=Da r fun o e=>(so.2.1 ea nf).trans e;generalize ht:({ cls:=.type "traceback",dict:=none,data:=.fields ([head,.ref L,.none,rawInt L,.none]++(if pl.isEmpty then List.replicate 6 Value.none else pl)).toArray }:Obj)=tb;have r2:lU (g1.push tb) ea cls od hd:=Da r1 fun o e=>Heap.get?_push_of_some _ e;obtain ⟨oe,vs,e1,e2,e3,e4,e5,e6⟩:=id r2;have lt:ea<g1.objs.size:=by
   obtain ⟨_,_,e,_⟩:=r1;exact Heap.lt_size e
 have hT:(g1.push tb).get? g1.objs.size=some tb:=Heap.get?_push_size g1 (by rw [<- ht];rfl);refine wpAny_setField e1 e4 (Array.getElem?_eq_some_iff.mp e5).1 (h _ g1.objs.size ⟨Pd r2,⟨tb,([head,.ref L,.none,rawInt L,.none]++(if pl.isEmpty then List.replicate 6 Value.none else pl)).toArray,?_,by rw [<- ht],by simp⟩,Nat.ne_of_gt lt⟩ ?_ ?_)
 . rw [Heap.get?_update_other _ _ (Nat.ne_of_lt lt)];exact hT
 . have k1:Kept (frs (env::outer)) [ea] s.heap g1:=⟨fun b o e f _=>(so.2.1 b f).trans e,fun b o e _ _=>so.2.2 b o e,fun b o e=>by
     obtain ⟨sl,z⟩:=so.2.2 b o e;exact ⟨_,z⟩⟩
   exact k1.trans ((Kept.of_all fun b o e=>Heap.get?_push_of_some _ e).trans (zJ e1 e4 (by simp)))
 . exact Heap.get?_none_of_le (by rw [so.1];exact Nat.le_refl _)
theorem OS (hfr:A.frames=some (env::outer)) (hl:s.heap.FunFrames base (env::outer)) (hf:env.frame=some L) (r:lU s.heap ea cls od .none)
   (h:∀ h' T',Err h' ea T' cls od (rawInt L)->Kept (frs (env::outer)) [ea] s.heap h'->s.heap.get? T'=none->Q () { s with heap:=h' }):wpAny M A (noteFrame (.ref ea) env) Q E s:=by
 obtain ⟨oe,vs,e1,e2,e3,e4,e5,e6⟩:=id r;unfold noteFrame;simp only [hf];refine wpAny_bind (wpAny_field e1 e4 e5 ?_);rw [if_neg (by decide)];exact F4 hfr hl hf r h
theorem Qi (hfr:A.frames=some (env::outer)) (hl:s.heap.FunFrames base (env::outer)) (hf:env.frame=some L) (r:Err s.heap ea T cls od .none)
   (h:∀ h' T',Err h' ea T' cls od (rawInt L)->Kept (frs (env::outer)) [ea,T] s.heap h'->s.heap.get? T'=none->Q () { s with heap:=h' }):wpAny M A (noteFrame (.ref ea) env) Q E s:=by
 have nT:=Md r.t hl;obtain ⟨⟨oe,vs,e1,e2,e3,e4,e5,e6⟩,⟨oT,ts,t1,t2,t3⟩,ne⟩:=id r;unfold noteFrame;simp only [hf];refine wpAny_bind (wpAny_field e1 e4 e5 ?_);rw [if_pos (by simp:(Value.ref T != Value.none)=true)];refine wpAny_bind (wpAny_field t1 t2 t3 ?_);rw [if_neg (by simp [rawInt])];have k1:Kept (frs (env::outer)) [ea,T] s.heap (s.heap.update T (Obj.mapFields (·.setIfInBounds 3 Value.none))):=zJ t1 t2 (by simp);refine wpAny_bind (wpAny_setField t1 t2 (Array.getElem?_eq_some_iff.mp t3).1 ?_);refine F4 hfr (hl.of_keeps fun b o e nf=>⟨o,?_,rfl⟩) hf (AL r.e ne) fun h' T' r' k2 n=>h h' T' r' (k1.trans (k2.mono (by simp))) ?_
 . by_cases z:b=T
   . subst z;rw [t1] at e;cases e;exact absurd t2 (nf ts)
   . rw [Heap.get?_update_other _ _ (Ne.symm z)];exact e
 . cases q:s.heap.get? T' with
   | none=>rfl
   | some o =>
     obtain ⟨o',z⟩:=k1.there T' o q;rw [z] at n;cases n
theorem Kr (hfr:A.frames=some (env::outer)) (hl:s.heap.FunFrames base (env::outer)) (hf:env.frame=some L) (r:lU s.heap ea cls od .none)
   (h:∀ h' T',Err h' ea T' cls od .none->Kept (frs (env::outer)) [ea] s.heap h'->s.heap.get? T'=none->Q () { s with heap:=h' }):wpAny M A (leaving env (.ref ea)) Q E s:=by
 unfold leaving;refine wpAny_bind (OS hfr hl hf r fun h1 T1 r1 k1 n1=>Ho (fs:=frs (env::outer)) (s:={ s with heap:=h1 }) r1 fun h2 r2 k2=>h h2 T1 r2 ⟨fun b o e f x=>k2.keep b o (k1.keep b o e f x) f ?_,fun b o e f x=>?_,fun b o e=>?_⟩ n1)
 . simp only [List.mem_singleton];rintro rfl;rw [n1] at e;cases e
 . obtain ⟨s1,e1⟩:=k1.slot b o e f x;obtain ⟨s2,e2⟩:=k2.slot b _ e1 f (by
     simp only [List.mem_singleton];rintro rfl;rw [n1] at e;cases e)
   exact ⟨s2,e2⟩
 . obtain ⟨o1,e1⟩:=k1.there b o e;exact k2.there b o1 e1
theorem Mv (hfr:A.frames=some (env::outer)) (hl:s.heap.FunFrames base (env::outer)) (hf:env.frame=some L) (r:Err s.heap ea T cls od .none)
   (h:∀ h' T',Err h' ea T' cls od .none->Kept (frs (env::outer)) [ea,T] s.heap h'->s.heap.get? T'=none->Q () { s with heap:=h' }):wpAny M A (leaving env (.ref ea)) Q E s:=by
 unfold leaving;refine wpAny_bind (Qi hfr hl hf r fun h1 T1 r1 k1 n1=>Ho (fs:=frs (env::outer)) (s:={ s with heap:=h1 }) r1 fun h2 r2 k2=>h h2 T1 r2 ⟨fun b o e f x=>k2.keep b o (k1.keep b o e f x) f ?_,fun b o e f x=>?_,fun b o e=>?_⟩ n1)
 . simp only [List.mem_singleton];rintro rfl;rw [n1] at e;cases e
 . obtain ⟨s1,e1⟩:=k1.slot b o e f x;obtain ⟨s2,e2⟩:=k2.slot b _ e1 f (by
     simp only [List.mem_singleton];rintro rfl;rw [n1] at e;cases e)
   exact ⟨s2,e2⟩
 . obtain ⟨o1,e1⟩:=k1.there b o e;exact k2.there b o1 e1
end
def CXe (P:Program) (w:World):CXT:=fun outer H s E e s'=>∃ (ea T:Addr) (cls:Value) (od:Option Addr) (H':Hp),e=.ref ea/\s'.os=s.os/\AllBare s'.gens/\Un (frs outer) [] H H' s.heap s'.heap/\HOk P w H' s'.heap /\
 H' ea=none/\H' T=none/\s.heap.get? ea=none/\s.heap.get? T=none/\Err s'.heap ea T cls od .none/\E cls od H'
theorem aQ {P:Program} {w:World}:bd (CXe P w):=fun outer H s e s' h=>by
 obtain ⟨_,_,_,_,_,_,_,_,_,_,_,_,_,_,_,z⟩:=h;exact z
theorem Ew {P:Program} {w:World} {H:Hp} {h h':Heap} {fs xs:List Addr} (x:HOk P w H h) (k:Kept fs xs h h') (f:∀ b∈fs,H b=none) (u:∀ b∈xs,H b=none):HOk P w H h':=fun a o e=>by
 refine (x a o e).stay (fun b ob hb q=>k.keep b ob q ?_ ?_) (fun _ q=>q) fun _ _ q=>q
 . intro z;rcases hb with rfl|hb
   . rw [f _ z] at e;cases e
   . rw [f _ z] at hb;cases hb
 . intro z;rcases hb with rfl|hb
   . rw [u _ z] at e;cases e
   . rw [u _ z] at hb;cases hb
theorem Ik {P:Program} {w:World} {H:Hp} {h:Heap} {b:Addr} (x:HOk P w H h) (n:h.get? b=none):H b=none:=by
 cases q:H b with
 | none=>rfl
 | some o =>
   have lt:=x.lt q;cases z:h.get? b with
   | some o'=>rw [z] at n;cases n
   | none =>
     exfalso
     have:=(x b o q);cases o with
     | lst xs=>obtain ⟨_,_,_,_,e⟩:=this;rw [n] at e;cases e
     | tup xs=>obtain ⟨_,_,_,ob,e,_⟩:=this;rw [n] at e;cases e
     | dK kvs=>obtain ⟨_,_,_,_,ob,_,_,e,_⟩:=this;rw [n] at e;cases e
     | dT kvs=>obtain ⟨_,_,_,_,ob,_,_,e,_⟩:=this;rw [n] at e;cases e
     | set S m=>obtain ⟨ob,_,_,_,e,_⟩:=this;rw [n] at e;cases e
     | ins C dx fs=>obtain ⟨_,_,_,e,_⟩:=this;rw [n] at e;cases e
     | own y=>obtain ⟨_,e⟩:=this;rw [n] at e;cases e
     | xd fs=>obtain ⟨_,⟨_,_,_,e,_⟩,_⟩:=this;rw [n] at e;cases e
     | rng lo hi=>obtain ⟨_,_,_,e⟩:=this;rw [n] at e;cases e
     | frz ob u=>obtain ⟨e,_⟩:=this;rw [n] at e;cases e
     | tbl ps=>have e:h.get? b=some _:=this;rw [n] at e;cases e
     | met f y=>have e:h.get? b=some _:=this;rw [n] at e;cases e
     | ext φ=>obtain ⟨_,⟨_,e⟩,_⟩:=this;rw [n] at e;cases e
section
variable {P:Program} {w:World} {K:PySem.W.Frag} {mg:Str->Option Value} {base:Heap} {N:List Str} {qual:Str} {scope:Scope} {f:Addr} {cd:Value} {A:Around} {outer:List Env} {s:Shared} {H:Hp} {E:XK}
theorem Fw {CX:CXT} {pins:List (Addr × Obj)} {σ:St} {H':Hp} {s':Shared} {h':Heap} {xs:List Addr} (J:Inv (nM CX P w K mg base N qual scope f cd A outer s H E) pins σ H' s') (k:Kept (frs (envOfC qual scope s.heap.objs.size f cd::outer)) xs s'.heap h') (nx:∀ b∈xs,s.heap.get? b=none) :
   Un (frs outer) [] H H' s.heap h':=by
 have b0:Un (frs outer) [] H H' s.heap s'.heap:=J.base;have nl:∀ b o,s.heap.get? b=some o->b ∉ xs:=fun b o e z=>by rw [nx b z] at e;cases e
 have nf:∀ b o,s.heap.get? b=some o->b ∉ frs outer->b ∉ frs (envOfC qual scope s.heap.objs.size f cd::outer):=fun b o e z m=>by
   unfold frs at m z;rw [List.filterMap_cons] at m;have:(envOfC qual scope s.heap.objs.size f cd).frame=some s.heap.objs.size:=rfl;rw [this] at m;rcases List.mem_cons.mp m with m|m
   . exact absurd (Heap.lt_size e) (by rw [m];exact Nat.lt_irrefl _)
   . exact z m
 refine ⟨fun b o e n hf hx=>k.keep b o (b0.keep b o e n hf hx) (nf b o e hf) (nl b o e),fun b o e n hf hx=>?_,b0.free,fun b o e hx=>?_,b0.tups,b0.frzs,b0.tbls⟩
 . obtain ⟨sl,e1⟩:=b0.slot b o e n hf hx;by_cases m:b∈frs (envOfC qual scope s.heap.objs.size f cd::outer)
   . obtain ⟨s2,e2⟩:=k.slot b _ e1 m (nl b o e);exact ⟨s2,e2⟩
   . exact ⟨sl,k.keep b _ e1 m (nl b o e)⟩
 . obtain ⟨o1,e1⟩:=b0.there b o e hx;exact k.there b o1 e1
theorem mS {CX:CXT} {pins:List (Addr × Obj)} {σ:St} {H':Hp} {s':Shared} (J:Inv (nM CX P w K mg base N qual scope f cd A outer s H E) pins σ H' s') {b:Addr} (n:s'.heap.get? b=none):s.heap.get? b=none:=by
 cases q:s.heap.get? b with
 | none=>rfl
 | some o =>
   have b0:Un (frs outer) [] H H' s.heap s'.heap:=J.base;obtain ⟨o',e⟩:=b0.there b o q (by simp);rw [n] at e;cases e
theorem dI:rZ (CXe P w) (nM (CXe P w) P w K mg base N qual scope f cd A outer s H E) E:=by
 intro pins σ H1 s1 e s' I h;obtain ⟨ea,T,cls,od,H',rfl,os,bare,un,hok,n1,n2,f1,f2,er,q⟩:=h;have J:=I.call' (ch:=[]) os un hok bare (by simp);refine Mv (base:=base) J.ok.frames J.stack rfl er fun h' T' er' k nT=>?_;have fr:∀ b∈frs (envOfC qual scope s.heap.objs.size f cd::outer),H' b=none:=J.stkFree;refine ⟨ea,T',cls,od,H',rfl,J.os,J.bare,Fw J k ?_,Ew hok k fr ?_,n1,Ik hok nT,mS I f1,mS J nT,er',q⟩
 . intro b hb;simp only [List.mem_cons,List.not_mem_nil,or_false] at hb;rcases hb with rfl|rfl
   . exact mS I f1
   . exact mS I f2
 . intro b hb;simp only [List.mem_cons,List.not_mem_nil,or_false] at hb;rcases hb with rfl|rfl
   . exact n1
   . exact n2
end
def Lu (X:Cx) (E:XK):Prop:=∀ (pins:List (Addr × Obj)) (σ:St) (H:Hp) (s:Shared) (ea:Addr) (cls:Value) (od:Option Addr) (h':Heap) (tk:Nat),Inv X pins σ H s->(∀ b o,s.heap.get? b=some o->h'.get? b=some o)->s.heap.get? ea=none->lU h' ea cls od .none->E cls od H ->
 X.xe (.ref ea) { s with heap:=h',toks:=tk }
section
variable {P:Program} {w:World} {K:PySem.W.Frag} {mg:Str->Option Value} {base:Heap} {N:List Str} {qual:Str} {scope:Scope} {f:Addr} {cd:Value} {A:Around} {outer:List Env} {s:Shared} {H:Hp} {E:XK}
theorem xR:Lu (nM (CXe P w) P w K mg base N qual scope f cd A outer s H E) E:=by
 intro pins σ H1 s1 ea cls od h' tk I kp nw er q;have J:=I.kept (t':=tk) kp;refine Kr (base:=base) J.ok.frames J.stack rfl er fun h2 T' er' k nT=>?_;have fr:∀ b∈frs (envOfC qual scope s.heap.objs.size f cd::outer),H1 b=none:=J.stkFree;refine ⟨ea,T',cls,od,H1,rfl,J.os,J.bare,Fw J k ?_,Ew J.hok k fr ?_,Ik I.hok nw,Ik J.hok nT,mS I nw,mS J nT,er',q⟩
 . intro b hb;rw [List.mem_singleton.mp hb];exact mS I nw
 . intro b hb;rw [List.mem_singleton.mp hb];exact Ik I.hok nw
end
end L2
set_option Elab.async false
set_option linter.all false
set_option maxRecDepth 100000
namespace L2
open PySem PySem.Spec PyProof.Rows
def B4 (K:PySem.W.Frag) (C:Addr):Prop:=∃ (nm qn:Str) (N:Addr) (bs bm:List Value) (hdct:Bool) (sn:List Str) (sub:List Value) (ab:Bool) (col:Option Bool) (dd:Option Addr) (k0 k1 k2 k3 k5:Option Value),
   K.lookup C=some (excClassObj nm qn C N bs bm hdct sn sub ab col dd k0 k1 k2 k3 k5 "ValueError.__new__")/\PySem.W.nsOkIn K N=true/\PySem.W.nsIn K N "__init__"=some none/\PySem.W.tailIn K bmV bm=true
theorem xZ {K:PySem.W.Frag} {C:Addr} {o:Obj} (nm qn:Str) (N:Addr) (bs bm:List Value) (hdct:Bool) (sn:List Str) (sub:List Value) (ab:Bool) (col:Option Bool) (dd:Option Addr) (k0 k1 k2 k3 k5:Option Value) (l:K.lookup C=some o)
   (e:o=excClassObj nm qn C N bs bm hdct sn sub ab col dd k0 k1 k2 k3 k5 "ValueError.__new__") (a:PySem.W.nsOkIn K N=true) (b:PySem.W.nsIn K N "__init__"=some none) (c:PySem.W.tailIn K bmV bm=true):B4 K C:=by
 subst e;exact ⟨_,_,_,_,_,_,_,_,_,_,_,_,_,_,_,_,l,a,b,c⟩
def Lq (C:Addr) (E:XK) (t:TA):TS:=fun _ σ H=>t σ H fun vs H1=>vs.length<=sizeLine/\E (.ref C) none H1
section
variable {X:Cx} {x:Str} {np cpos pos:Pos} {e0:Expr} {es:List Expr} {t:TA} {C:Addr} {E:XK}
theorem uD (q:B4 X.K C) (hc:X.calm=true) (hR:Lu X E) (hg:Gl X x) (hm:X.mg x=some (.ref C)) (ha:PA X (e0::es) t) (hdb:(x == ("__debug__":Str))=false:=by decide)
   (he:starEach (e0::es) X.env=(false,eval e0 X.env)::starEach es X.env:=by rfl) (hpl:(backTo cpos (starEach es X.env)).any (·.1)=false:=by rfl):PS X (.Raise (some (.Call (.Name x np) (e0::es) [] cpos)) none pos) (Lq C E t):=by
 intro pins s σ H D I h;obtain ⟨nm,qn,N,bs,bm,hdct,sn,sub,ab,col,dd,k0,k1,k2,k3,k5,ho,z5,z6,z4⟩:=q;have B:=I.mod.kin;have T0:=PySem.W.tail_of_in B z4;have N0:X.base.Ns N (X.base.nsMap N):=.of_isNs (PySem.W.isNs_of_in B z5);have hp:(backTo cpos (starEach (e0::es) X.env)).any (·.1)=false:=by
   rw [he];show (false || (backTo cpos (starEach es X.env)).any (·.1))=false;rw [hpl]
   rfl
 refine wpAny_Raise_call_subT (C:=C) (nm:=nm) (q:=qn) (N:=N) (bs:=bs) (bm:=bm) (hdct:=hdct) (sn:=sn) (sub:=sub) (ab:=ab) (col:=col) (dd:=dd) (k0:=k0) (k1:=k1) (k2:=k2) (k3:=k3) (k5:=k5) PySem.F.excBase_ValueError
   (T0.hasType (by decide +kernel)) (I.ok.hd hc) hp (PySem.W.nsMap_none_of_in B z5 z6) (yd I hg hm ⟨rfl,?_⟩ hdb)
 have g:=ha cpos pins s σ H _ I h;rw [he] at g ⊢;refine Calls.evalArgs_plain (thn g fun us s1 ⟨vs,H1,I1,r1,q1⟩=>⟨rfl,by show us.length<=_;rw [<- r1.length];exact q1.1,I1.bk _ _ (B _ _ ho),N0.keeps I1.bk,T0.keeps I1.bk,fun h' ea m=>?_⟩);obtain ⟨tt,m1,_,_⟩:=m.there;exact hR pins σ H1 s1 ea (.ref C) none h' s1.toks I1 m.keeps m.new ⟨_,_,m1,rfl,rfl,rfl,rfl,rfl⟩ q1.2
end
section
variable {CX:CXT} {X:Cx} {k:Nat} {f C:Addr} {fd:FuncData} {ps:List Str} {sp:Sp} {dvs:List V} {ds:List Value} {x:Str} {p pos:Pos} {e:Expr} {es:List Expr} {te:TE} {t:TA} {st:Stmt} {sts:List Stmt} {ts:TS} {tx ux:(St->XK)->TS} {ex:XK->TE}
end
end L2
set_option Elab.async false
set_option linter.all false
set_option maxRecDepth 100000
namespace L2
open PySem PySem.Spec PyProof.Rows
section
variable {X:Cx} {pins:List (Addr × Obj)} {σ:St} {H:Hp} {s:Shared}
end
section
variable {K:PySem.W.Frag} {C C':Addr} {x:Addr} {ox:Obj} {od:Option Obj} {M:Model} {A:Around} {E:Value->Shared->Prop} {s:Shared} {b:Bool} {Q:Bool->Shared->Prop}
end
end L2
set_option Elab.async false
set_option linter.all false
set_option maxRecDepth 100000
namespace L2
open PySem PySem.Spec PyProof.Rows
def ExO (ea:Addr) (cls:Value) (od:Option Addr):HO:=.ext fun h=>∃ oe vs,h.get? ea=some oe/\oe.cls=cls/\oe.dict=od/\oe.data=.fields vs/\vs[2]?=some .none
section
variable {X:Cx} {pins:List (Addr × Obj)} {σ:St} {H:Hp} {s:Shared}
end
abbrev TH:=Ends->St->Value->Option Addr->Hp->Prop
def Ends.less (D:Ends) (i:Nat):Ends:={ nx:=fun σ H=>D.nx (σ.set i none) H,rt:=D.rt,bk:=fun σ H=>D.bk (σ.set i none) H,ct:=fun σ H=>D.ct (σ.set i none) H }
def Sg (K:PySem.W.Frag) (C':Addr) (i:Nat) (ts:TS) (tr:TH):TH:=fun D σ cls od H=>∃ C b,cls=.ref C/\PySem.W.mroIn K C (.ref C')=some b /\
 if b=true then ∀ ea,H ea=none->ts (D.less i) (σ.set i (some (.ref ea))) (upd H ea (ExO ea cls od)) else tr D σ cls od H
section
variable {X:Cx} {x n:Str} {np pos:Pos} {i:Nat} {C':Addr} {b0:Stmt} {suite:List Stmt} {rest:List ExceptHandler} {ts:TS} {tr:TH}
def SK (tb:(St->XK)->TS) (th:TH):TS:=fun D σ H=>tb (fun σ' cls od H'=>th D σ' cls od H') D σ H
end
end L2
set_option Elab.async false
set_option linter.all false
set_option maxRecDepth 100000
namespace L2
open PySem PySem.Spec PyProof.Rows
section
variable {P:Program} {w:World} {K:PySem.W.Frag} {mg:Str->Option Value} {base:Heap}
end
section
variable {X:Cx} {k:Nat} {f:Addr} {fd:FuncData} {ps:List Str} {sp:Sp} {x:Str} {p pos:Pos} {e:Expr} {es:List Expr} {t:TA}
end
section
variable {X:Cx}
end
def rA (cells:List (Str × Addr)):List (Str × NameKind)->List (Str × Addr)->List (Str × Addr)
 | [],acc=>acc
 | (n,k)::r,acc=>if k == .free then rA cells r ((n,(cells.lookup n).getD 0)::acc) else rA cells r acc
theorem IR {scope:Scope} {env:Env} (h:∀ y∈scope.names,y.2=.free->(env.cells.lookup y.1).isSome=true):closureFor scope env=pure (rA env.cells scope.names []):=by
 have key:∀ (l:List (Str × NameKind)) (acc:List (Str × Addr)),(∀ y∈l,y.2=.free->(env.cells.lookup y.1).isSome=true) ->
     (forIn l acc fun (y:Str × NameKind) (c:List (Str × Addr))=>(if y.2 == NameKind.free then do let a <- cellOf env y.1;pure (ForInStep.yield ((y.1,a)::c)) else pure (ForInStep.yield c):Sem (ForInStep (List (Str × Addr)))))=(pure (rA env.cells l acc):Sem (List (Str × Addr))):=by
   intro l
   induction l with
   | nil=>intro acc _;rfl
   | cons y l ih =>
     obtain ⟨n,k⟩:=y;intro acc hh;have h1:=hh (n,k) List.mem_cons_self;have h2:∀ y∈l,y.2=.free->(env.cells.lookup y.1).isSome=true:=fun y hy=>hh y (List.mem_cons_of_mem _ hy);rw [List.forIn_cons];unfold rA;cases q:k == NameKind.free with
     | false =>
       simp only [Bool.false_eq_true,if_false,pure_bind];exact ih acc h2
     | true =>
       obtain ⟨c,hc⟩:=Option.isSome_iff_exists.mp (h1 (by simpa using q));dsimp only at hc;simp only [if_true,cellOf,hc,pure_bind,Option.getD_some];exact ih _ h2
 have:=key scope.names [] h;unfold closureFor;simp only [bind_pure];exact this
theorem zw {cells:List (Str × Addr)} {x:Str} {c:Addr}:∀ {l:List (Str × NameKind)} {acc:List (Str × Addr)},(∀ y∈l,y.2=.free->(cells.lookup y.1).isSome=true)->(∀ x c,acc.lookup x=some c->cells.lookup x=some c)->(rA cells l acc).lookup x=some c->cells.lookup x=some c
 | [],acc,_,h2,h3=>h2 x c h3
 | (n,k)::r,acc,h1,h2,h3=>by
   have h1':∀ y∈r,y.2=.free->(cells.lookup y.1).isSome=true:=fun y hy=>h1 y (List.mem_cons_of_mem _ hy);unfold rA at h3;cases q:k == NameKind.free with
   | false =>
     rw [q] at h3;exact zw h1' h2 (by simpa using h3)
   | true =>
     rw [q] at h3;simp only [if_true] at h3;obtain ⟨a,ha⟩:=Option.isSome_iff_exists.mp (h1 (n,k) List.mem_cons_self (by simpa using q));dsimp only at ha;rw [ha] at h3;refine zw h1' (fun y d hy=>?_) h3;rw [List.lookup_cons] at hy;cases z:y == n with
     | true =>
       rw [z] at hy;cases hy;rw [eq_of_beq z];exact ha
     | false =>
       rw [z] at hy;exact h2 y d hy
theorem zt {cells:List (Str × Addr)} {x:Str}:∀ {l:List (Str × NameKind)} {acc:List (Str × Addr)},((∃ c,acc.lookup x=some c)\/(x,NameKind.free)∈l)->∃ c,(rA cells l acc).lookup x=some c
 | [],acc,h=>by
   rcases h with h|h
   . exact h
   . cases h
 | (n,k)::r,acc,h=>by
   unfold rA;cases q:k == NameKind.free with
   | false =>
     simp only [Bool.false_eq_true,if_false];refine zt ?_;rcases h with h|h
     . exact .inl h
     . rcases List.mem_cons.mp h with z|z
       . cases z;simp at q
       . exact .inr z
   | true =>
     simp only [if_true];refine zt ?_;by_cases z:x=n
     . subst z;exact .inl ⟨(cells.lookup x).getD 0,by rw [List.lookup_cons];simp⟩
     . rcases h with ⟨c,h⟩|h
       . refine .inl ⟨c,?_⟩;rw [List.lookup_cons];have:(x == n)=false:=(by simpa using z);rw [this];exact h
       . rcases List.mem_cons.mp h with y|y
         . cases y;exact absurd rfl z
         . exact .inr y
theorem mz {env:Env} {x:Str} {k:NameKind}:∀ {l:List (Str × NameKind)},l.lookup x=some k ->
   (l.map fun (n,k)=>if (k == NameKind.free && env.scope.kind == .function && env.kindOf n == some .cell) then (n,NameKind.cell) else (n,k)).lookup x=some (if (k == NameKind.free && env.scope.kind == .function && env.kindOf x == some .cell) then NameKind.cell else k)
 | [],h=>by simp at h
 | (n,j)::r,h=>by
   have ih:=@mz env x k r;rw [List.map_cons];rw [List.lookup_cons] at h;cases z:x == n with
   | true =>
     rw [z] at h;cases h;have e:=eq_of_beq z;subst e;by_cases q:(k == NameKind.free && env.scope.kind == .function && env.kindOf x == some .cell)=true
     . simp only [q,if_true,List.lookup_cons,z]
     . simp only [q,if_false,List.lookup_cons,z,Bool.false_eq_true]
   | false =>
     rw [z] at h;dsimp only;by_cases q:(j == NameKind.free && env.scope.kind == .function && env.kindOf n == some .cell)=true
     . rw [if_pos q,List.lookup_cons,z];exact ih h
     . rw [if_neg q,List.lookup_cons,z];exact ih h
theorem sq {X:Cx} {Nc:List Str} {scope:Scope} (own:Nat) (js:List Nat) (hc:∀ y∈scope.names,y.2≠.cell) (hk:scope.kind=.function) (hn:∀ y∈scope.names,y.2=.local->scope.names.lookup y.1=some .local) (hl:Nc.length=own+js.length)
   (hf:∀ y∈scope.names,y.2=.free->X.env.scope.names.lookup y.1=some .cell) (hX:X.env.scope.kind=.function) (hcell:∀ x,X.env.scope.names.lookup x=some .cell->∃ c,X.env.cells.lookup x=some c)
   (hU:∀ i,i<js.length->∃ x j,Nc[own+i]?=some x/\js[i]?=some j/\X.N[j]?=some x/\scope.names.lookup x=some .free):CompTxt X Nc own js scope (rA X.env.cells scope.names []):=by
 have hs:∀ y∈scope.names,y.2=.free->(X.env.cells.lookup y.1).isSome=true:=fun y hy e=>by
   obtain ⟨c,q⟩:=hcell _ (hf y hy e);rw [q]
   rfl
 have free_cell:∀ x,scope.names.lookup x=some .free->X.env.scope.names.lookup x=some .cell:=fun x h=>hf (x,.free) (PySem.mem_of_lookup h) rfl;refine ⟨IR hs,hk,hc,hn,fun x c h=>zw hs (fun x c z=>by simp at z) h,fun x h=>?_,hl,fun i x h=>?_⟩
 . cases q:scope.names.lookup x with
   | none =>
     exfalso
     have:(relabel scope X.env).names.lookup x=none:=by
       unfold relabel;dsimp only
       revert q
       generalize scope.names=l
       induction l with
       | nil=>intro _;rfl
       | cons y l ih =>
         obtain ⟨n,k⟩:=y;intro q;rw [List.lookup_cons] at q;cases z:x == n with
         | true=>rw [z] at q;cases q
         | false =>
           rw [z] at q;rw [List.map_cons];dsimp only;by_cases w:(k == NameKind.free && X.env.scope.kind == .function && X.env.kindOf n == some .cell)=true
           . rw [if_pos w,List.lookup_cons,z];exact ih q
           . rw [if_neg w,List.lookup_cons,z];exact ih q
     rw [this] at h;rcases h with h|h <;> cases h
   | some k =>
     have r:(relabel scope X.env).names.lookup x=some _:=mz (env:=X.env) q;cases k with
     | free=>exact zt (.inr (PySem.mem_of_lookup q))
     | cell=>exact absurd rfl (hc _ (PySem.mem_of_lookup q))
     | _ =>
       rw [r] at h;simp at h
 . have hi:i<js.length:=by
     have:=(List.getElem?_eq_some_iff.mp h).1;omega
   obtain ⟨y,j,e1,e2,e3,e4⟩:=hU i hi;rw [h] at e1;cases e1;have fc:=free_cell x e4;refine ⟨j,e2,e3,fc,?_⟩;have r:(relabel scope X.env).names.lookup x=some _:=mz (env:=X.env) e4;rw [r];have:X.env.kindOf x=some .cell:=fc;rw [this,hX]
   rfl
end L2
set_option Elab.async false
set_option linter.all false
set_option maxRecDepth 100000
namespace L2
open PySem PySem.Spec PyProof.Rows
theorem HB:∀ {ns:List Int} {us:List Value},Vals (ns.map V.int) us->IntsAre us ns
 | [],_,h=>by cases h;exact .nil
 | n::ns,_,h=>by
   cases h with
   | cons r t =>
     obtain ⟨k,rfl⟩:=(show ∃ t,_=Value.int n t from r);exact .cons n k (HB t)
theorem Hf:∀ {ns:List Int} {us:List Value},IntsAre us ns->Vals (ns.map V.int) us
 | _,_,.nil=>.nil
 | _,_,.cons n t r=>.cons ⟨t,rfl⟩ (Hf r)
section
variable {X:Cx}
theorem Gs:jM X (.builtin "sorted") (fun xs H Q=>∃ (p:Addr) (ns:List Int),xs=[.ref p]/\SqL X.K H p (ns.map V.int)/\ns.length<64/\∀ (l:Addr) (zs:List Int),H l=none->zs.Perm ns->zs.Pairwise (·<=·)->Q (.ref l) (upd H l (.lst (zs.map V.int)))):=by
 intro pins s σ H xs us Q I r h;obtain ⟨p,ns,rfl,hp,h64,q⟩:=h;obtain ⟨u,rfl,ru⟩:=mY r;cases ru;obtain ⟨its,rv,pl,hz⟩:=I.list hp;have hi:=HB rv;have e1:=IntsAre.length hi;refine sorted_ints pl.isList hi (by omega) fun out zs a1 a2 a3=>?_;obtain ⟨e,he⟩:=sortedAll_at s.heap its out;have hn:H (s.heap.objs.size+1)=none:=I.hok.fresh (Nat.le_succ _);have ln:zs.length=ns.length:=a2.length_eq;refine ⟨.ref (s.heap.objs.size+1),_,I.laid (a:=s.heap.objs.size+1) (o:=.lst (zs.map V.int)) (t':=s.toks) (fun b o e=>sortedAll_old e) (Nat.le_succ _) ⟨?_,out.toList,e,Hf a1,?_⟩,rfl,q _ zs hn a2 a3⟩
 . rw [List.length_map,ln];exact bE (by omega)
 . exact he
end
theorem Qa {K:PySem.W.Frag} {C T:Addr} {c0:Value} {dd:Option Addr} {cd:ClassData} {sl:Array (Option Value)} (h:K.lookup C=some ⟨c0,dd,.cls cd,sl⟩) (m:cd.mro=.ref C::.ref T::bmV) (C':Addr):PySem.W.mroIn K C (.ref C')=some (decide (C'=C) || decide (C'=T)):=by
 unfold PySem.W.mroIn PySem.W.clsIn;rw [h];simp only [Option.bind_some,m,List.isEmpty_cons,Bool.false_eq_true,if_false]
 congr 1
 by_cases h1:C'=C
 . subst h1;simp
 . by_cases h2:C'=T
   . subst h2;simp
   . have a:(Value.ref C' == Value.ref C)=false:=(by simpa using h1);have b:(Value.ref C' == Value.ref T)=false:=(by simpa using h2);simp [List.contains_cons,a,b,h1,h2]
structure XErr (K:PySem.W.Frag) (T C:Addr):Prop where
 x:XCls K C
 mr:∀ C',PySem.W.mroIn K C (.ref C')=some (decide (C'=C) || decide (C'=T))
 mv:PySem.W.mroIn K C (.type "ValueError")=some true
theorem A9 {K:PySem.W.Frag} {C:Addr} {c0:Value} {dd:Option Addr} {cd:ClassData} {sl:Array (Option Value)} {r:List Value} (h:K.lookup C=some ⟨c0,dd,.cls cd,sl⟩) (m:cd.mro=.ref C::r) {v:Value} (hv:(Value.ref C::r).contains v=true):PySem.W.mroIn K C v=some true:=by
 unfold PySem.W.mroIn PySem.W.clsIn;rw [h];simp only [Option.bind_some,m,List.isEmpty_cons,Bool.false_eq_true,if_false,hv]
section
variable {K:PySem.W.Frag} {T C:Addr} {c0:Value} {dd:Option Addr} {cd:ClassData} {sl:Array (Option Value)}
theorem Hs {r:List Value} (h1:PySem.W.typeIn K (.ref C)=some (.type "type")) (h2:PySem.W.findIn K (.ref C) "__getattribute__"=some (some (.builtin "BaseException.__getattribute__"))) (h3:PySem.W.findIn K (.ref C) "__getattr__"=some none)
   (h4:PySem.W.findIn K (.ref C) "__class__"=some (some (.builtin "object.__class__"))) (h5:PySem.W.specialIn K (.builtin "object.__class__") "__get__"=some (some (.builtin "getset_descriptor.__get__"))) (h6:PySem.W.takesIn K (.builtin "object.__class__")=some true)
   (h7:PySem.W.hasDictIn K C=true) (h:K.lookup C=some ⟨c0,dd,.cls cd,sl⟩) (m:cd.mro=.ref C::r) (a:r.contains (.type "object")=true) (b:r.contains (.type "BaseException")=true):XCls K C :=
 ⟨h1,h2,h3,h4,h5,h6,A9 h m (by rw [List.contains_cons,a,Bool.or_true]),A9 h m (by rw [List.contains_cons,b,Bool.or_true]),h7,A9 h m (by simp)⟩
structure XTop (K:PySem.W.Frag) (T:Addr):Prop where
 x:XCls K T
theorem QJ (h1:PySem.W.typeIn K (.ref C)=some (.type "type")) (h2:PySem.W.findIn K (.ref C) "__getattribute__"=some (some (.builtin "BaseException.__getattribute__"))) (h3:PySem.W.findIn K (.ref C) "__getattr__"=some none)
   (h4:PySem.W.findIn K (.ref C) "__class__"=some (some (.builtin "object.__class__"))) (h5:PySem.W.specialIn K (.builtin "object.__class__") "__get__"=some (some (.builtin "getset_descriptor.__get__"))) (h6:PySem.W.takesIn K (.builtin "object.__class__")=some true)
   (h7:PySem.W.hasDictIn K C=true) (h:K.lookup C=some ⟨c0,dd,.cls cd,sl⟩) (m:cd.mro=.ref C::bmV):XTop K C:=⟨Hs h1 h2 h3 h4 h5 h6 h7 h m (by decide +kernel) (by decide +kernel)⟩
theorem rP (h1:PySem.W.typeIn K (.ref C)=some (.type "type")) (h2:PySem.W.findIn K (.ref C) "__getattribute__"=some (some (.builtin "BaseException.__getattribute__"))) (h3:PySem.W.findIn K (.ref C) "__getattr__"=some none)
   (h4:PySem.W.findIn K (.ref C) "__class__"=some (some (.builtin "object.__class__"))) (h5:PySem.W.specialIn K (.builtin "object.__class__") "__get__"=some (some (.builtin "getset_descriptor.__get__"))) (h6:PySem.W.takesIn K (.builtin "object.__class__")=some true)
   (h7:PySem.W.hasDictIn K C=true) (h:K.lookup C=some ⟨c0,dd,.cls cd,sl⟩) (m:cd.mro=.ref C::.ref T::bmV):XErr K T C:=by
 have a:(Value.ref T::bmV).contains (.type "object")=true:=by rw [List.contains_cons];simp [bmV]
 have b:(Value.ref T::bmV).contains (.type "BaseException")=true:=by rw [List.contains_cons];simp [bmV]
 have c:(Value.ref T::bmV).contains (.type "ValueError")=true:=by rw [List.contains_cons];simp [bmV]
 exact ⟨Hs h1 h2 h3 h4 h5 h6 h7 h m a b,Qa h m,A9 h m (by rw [List.contains_cons,c,Bool.or_true])⟩
end
section
variable {P:Program} {w:World} {K:PySem.W.Frag} {mg:Str->Option Value} {base:Heap}
theorem Fun.okX {x qual:Str} {st:Stmt} {f:Addr} {fd:FuncData} {N ps:List Str} {k:Nat} {sp:Sp} (F:Fun K x qual st f fd) (S:FnScope N ps (aa st)) (len:∀ vs H Q E,sp vs H Q E->vs.length=ps.length)
   (hbody:∀ (cdv:Value) (A:Around) (outer:List Env) (s:Shared) (H:Hp) (vs:List V) (Q:VK) (E:XK),Room k (A.deeper (envOfC qual (aa st) s.heap.objs.size f cdv))->sp vs H Q E ->
     ∃ t,PSs (nM (CXe P w) P w K mg base N qual (aa st) f cdv A outer s H E) (aD st) t/\t { nx:=fun _ H'=>Q .non H',rt:=Q } (start N vs) H):FnOk P w K mg base (CXe P w) (k+1) f fd ps sp:=by
 obtain ⟨oc,od,kV,doc,pm,an,cdv,ct,osl,rfl,lk,hcd⟩:=F.ex;exact Py lk hcd S len fun A outer s H vs Q E hr hsp=>hbody cdv A outer s H vs Q E hr hsp
end
theorem CI {C:Addr} {E:XK} {t:TA} {D:Ends} {σ:St} {H:Hp}:Lq C E t D σ H=t σ H fun vs H1=>vs.length<=sizeLine/\E (.ref C) none H1:=rfl
theorem G7 {tb:(St->XK)->TS} {th:TH} {D:Ends} {σ:St} {H:Hp}:SK tb th D σ H=tb (fun σ' cls od H'=>th D σ' cls od H') D σ H:=rfl
theorem F9 {K:PySem.W.Frag} {C':Addr} {i:Nat} {ts:TS} {tr:TH} {D:Ends} {σ:St} {cls:Value} {od:Option Addr} {H:Hp}:Sg K C' i ts tr D σ cls od H=∃ C b,cls=.ref C/\PySem.W.mroIn K C (.ref C')=some b /\
 if b=true then ∀ ea,H ea=none->ts (D.less i) (σ.set i (some (.ref ea))) (upd H ea (ExO ea cls od)) else tr D σ cls od H:=rfl
theorem Same.put {H H':Hp} {l:Addr} (e:Same H H') (n:H l=none) (o:HO):Same H (upd H' l o):=fun b u h=>by rw [aq (bf h n)];exact e b u h
end L2
set_option Elab.async false
set_option linter.all false
set_option maxRecDepth 100000
namespace L2
open PySem PySem.Spec PyProof.Rows
theorem NP {M:Model} {A:Around} {E:Value->Shared->Prop} {s:Shared} {env:Env} {x:Str} {px:Pos} {v:Value} {Q:Unit->Shared->Prop} (h:wpAny M A (storeName env x v) Q E s):wpAny M A (assign (.Name x px) env v) Q E s:=by
 show wpAny M A (do standAt px;bindName env x v) Q E s;exact wpAny_bind (wpAny_standAt (wpAny_bindName h))
section
variable {X:Cx} {Nc:List Str} {own:Nat} {js:List Nat} {scope:Scope} {cl:List (Str × Addr)}
theorem Bi {i:Nat} {x:Str} {px pos:Pos} {elt target iter:Expr} {ifs:List Expr} {cpos:Pos} {wi:TI} {g:TG} {tc:TT} {te:TE} (hN:X.N.Nodup) (hxi:X.N[i]?=some x) (hxl:X.env.scope.names.lookup x=some .local) (hc:X.calm=true) (T:CompTxt X Nc own js scope cl)
   (hi:PI X target iter wi) (hg:∀ C s₂ H₁ fp,PG (X.comp Nc scope cl C s₂ H₁ fp) target g) (ht:∀ C s₂ H₁ fp,PTs (X.comp Nc scope cl C s₂ H₁ fp) ifs tc)
   (he:∀ C s₂ H₁ fp,PE (X.comp Nc scope cl C s₂ H₁ fp) elt te) (hs:∀ x,foldedSetIterable iter X.env x=pure x:=by intro _;rfl)
   (hsw:swapsWith (.ListComp elt [⟨target,iter,ifs,0⟩] scope cpos) (some (.Name x px)) pos.line X.env=pure true:=by rfl) :
   PS X (.Assign [.Name x px] (.ListComp elt [⟨target,iter,ifs,0⟩] scope cpos) pos) (F8 (J7 own js wi g tc te) (AB i)):=by
 intro pins s σ H D I h;rw [exec_Assign_Name_used _ _ _ _ hsw];refine wpAny_bind (wpAny_standAt (wpAny_bind ?_));rw [arm_evalThenUse_ListComp];refine wpAny_bind ?_;refine wpAny_comprehension_free (use:=some (assign (.Name x px) X.env)) rfl hs T.clos T.kind T.names (thn (hi pins s σ H _ I h) fun v s1 h1=>thn h1 fun itv s2 h2=>?_);obtain ⟨it,fp,tn,J,H1,rfl,I1,Tn,st,f1,R⟩:=h2;have hfp:∀ b∈fp,b<s2.heap.objs.size:=fun b hb=>let ⟨o,e,_⟩:=Tn.obj _ _ st b hb;Heap.lt_size e;refine wpAny_newObj_type (wpAny_newFunctionEnv T.nocell (by intro y hy;simp at hy) (fun h₁ hns₁ hsb₁=>?_) T.kind);dsimp only at hns₁ hsb₁ ⊢;generalize hH2:s2.heap.push { cls:=.type "list",dict:=none,data:=.seq ([]:List Value).toArray }=H2 at hns₁ hsb₁ ⊢;have hC:H2.objs.size=s2.heap.objs.size+1:=by rw [<- hH2,Heap.size_push]
 have hDC:s2.heap.objs.size≠H2.objs.size:=by rw [hC];exact Nat.ne_of_lt (Nat.lt_succ_self _)
 have hCle:s2.heap.objs.size<=H2.objs.size:=by rw [hC];exact Nat.le_succ _
 have below:∀ b,b<s2.heap.objs.size->b≠H2.objs.size:=fun b hb=>by rw [hC];exact Nat.ne_of_lt (Nat.lt_succ_of_lt hb)
 have old:∀ b o,s2.heap.get? b=some o->h₁.get? b=some o:=fun b o e=>hsb₁.extBut b o (below b (Heap.lt_size e)) (Heap.get?_push_of_some _ (hH2 ▸ Heap.get?_push_of_some _ e));have hacc:∃ n,h₁.get? s2.heap.objs.size=some { cls:=.type "list",data:=.seq ([]:List Value).toArray n }:=⟨_,hsb₁.extBut _ _ hDC (Heap.get?_push_of_some _ (hH2 ▸ Heap.get?_push_size _ rfl))⟩;have st₁:tn 0 h₁:=Tn.keep _ _ _ st fun b _ o e=>old b o e;obtain ⟨W,⟨m0,w0⟩,turn⟩:=R s2.heap.objs.size I1.fresh;have Ic:=Ed (t:=s2.toks+([]:List (Str × Value)).length) T I1 hCle (Nat.le_refl _) hDC f1 hfp old hns₁ hacc;generalize hXc:X.comp Nc scope cl H2.objs.size s2 H1 fp=Xc at Ic;have stat:∀ {H':Hp},(∀ b∈fp,H' b=none)->∀ b∈fp,kF Xc [] H' b:=fun {H'} hn b hb=>by
   subst hXc;exact ⟨hn b hb,below b (hfp b hb),(Ch T I1 hCle f1 hfp).exfs b hb,.inl hb,fun x c e=>(f1 b hb).2.2.2.2.1 x c (T.cells x c e),fun p hp=>by cases hp⟩
 have fr0:∀ b∈fp,upd H1 s2.heap.objs.size (.lst []) b=none:=fun b hb=>by
   rw [aq (Nat.ne_of_lt (hfp b hb))];exact (f1 b hb).1
 have calmc:Xc.calm=true:=by subst hXc;exact hc
 have loop:∀ s₃:Shared,s₃={ s2 with heap:=h₁,toks:=s2.toks+([]:List (Str × Value)).length } ->
     codeAny (model X.prog X.w) X.A (.compLoop (.ListComp elt [⟨target,iter,ifs,0⟩] scope cpos) 0 (.ref it) (.ref s2.heap.objs.size) (compEnvC scope cl H2.objs.size X.env))
       (compPost (model X.prog X.w) X.A X.xe (some (assign (.Name x px) X.env)) (fun _ s'=>wpAny (model X.prog X.w) X.A (pure ()) (fun _ s''=>wpAny (model X.prog X.w) X.A (pure Flow.next) (SP X pins D) X.xe s'') X.xe s') (.ref s2.heap.objs.size) H2.objs.size) s₃:=by
   rintro s₃ rfl;refine yD (fun n s'=>∃ i ys σ' H',Inv Xc [] σ' H' s'/\tn i s'.heap/\(∀ b∈fp,H' b=none)/\W i n ys σ' H') ?_ m0 ⟨0,[],_,_,Ic,st₁,fr0,w0⟩;rintro n s3 ⟨i,ys,σ3,H3,I3,st3,fr3,w3⟩;rcases turn i n ys σ3 H3 w3 with ⟨stop,q⟩|⟨go,step⟩
   . subst hXc;refine thn (Tn.done (X.comp Nc scope cl H2.objs.size s2 H1 fp) rfl rfl rfl hc i [] s3 σ3 H3 _ I3 (stat fr3) st3 stop) fun r s4 ⟨hr,I4⟩=>?_;subst hr;obtain ⟨m4,hn4,_⟩:=id I4.loc;have J:=C5 I1 hCle f1 I4 (h':=s4.heap) (Heap.SameBut.refl _ _);have cl0:H2.objs.size≠X.env.locals:=Nat.ne_of_gt (Nat.lt_of_lt_of_le I1.lt hCle);have cy:X.s₀.heap.objs.size<=H2.objs.size:=Nat.le_trans I1.sz hCle;have cc:∀ y c,X.env.cells.lookup y=some c->c≠H2.objs.size:=fun y c e=>by
       obtain ⟨v',o',ho',_⟩:=I1.cell y c e;exact Nat.ne_of_lt (Nat.lt_of_lt_of_le (Heap.lt_size ho') hCle)
     have cp:∀ p∈X.pn++pins,p.1≠H2.objs.size:=fun p hp=>by
       obtain ⟨ho',_⟩:=I1.pin p hp;exact Nat.ne_of_lt (Nat.lt_of_lt_of_le (Heap.lt_size ho') hCle)
     refine NP (C9 (v:=.ref s2.heap.objs.size) J hN hxi (.inl hxl) rfl (fun s5 I5 ⟨ad,sb,had⟩=>?_) (.inr hxl));have nad:H2.objs.size≠ad:=by
       rcases had with rfl|had
       . exact cl0
       . exact (cc _ _ had).symm
     obtain ⟨oo,es,ep,e1,e2⟩:=hn4;refine ⟨m4,⟨oo,es,ep,(sb.2 _ nad).trans e1,e2⟩,fun h' hs'=>wpAny_pure (wpAny_pure ⟨_,H3,?_,q⟩)⟩;exact I5.turned (it:=H2.objs.size) (t':=s5.toks) (fun b o n e=>hs'.extBut b o n e) I4.free cl0 (.inr cy) cc cp
   . subst hXc;refine thn (Tn.item (X.comp Nc scope cl H2.objs.size s2 H1 fp) rfl rfl rfl hc i [] s3 σ3 H3 _ I3 (stat fr3) st3 go) fun r s4 ⟨u,hr,h4⟩=>?_;subst hr;refine thn h4 fun _ s5 ⟨x,H5,I5,r5,y5,st5,fr5⟩=>?_;have I5':=I5.pinned (stat fr5) (Tn.obj _ _ st5);have back:∀ {σ7:St} {H7:Hp} {s7:Shared},Inv (X.comp Nc scope cl H2.objs.size s2 H1 fp) ([]++rT fp s5.heap) σ7 H7 s7->Inv (X.comp Nc scope cl H2.objs.size s2 H1 fp) [] σ7 H7 s7/\tn (i+1) s7.heap/\∀ b∈fp,H7 b=none:=fun {σ7 H7 s7} I7=>by
       refine ⟨I7.unpinned,Tn.keep _ _ _ st5 fun b hb o e=>(I7.pin (b,o) (List.mem_append_right _ (List.mem_append_right _ (jO hb e)))).1,fun b hb=>?_⟩;obtain ⟨o,e,d⟩:=Tn.obj _ _ st5 b hb;exact (I7.pin (b,o) (List.mem_append_right _ (List.mem_append_right _ (jO hb e)))).2.1
     refine thn (hg _ _ _ _ _ s5 σ3 H5 x u _ I5' r5 (step x H5 y5)) fun _ s6 ⟨σ6,H6,I6,q6⟩=>?_;refine BC (ht _ _ _ _ _ s6 σ6 H6 _ I6 q6) fun ok s7 H7 I7 q7=>?_;cases ok with
     | false =>
       rw [if_neg Bool.false_ne_true] at q7 ⊢;obtain ⟨m',hm,w7⟩:=q7;obtain ⟨J1,J2,J3⟩:=back I7;exact ⟨m',hm,i+1,ys,σ6,H7,J1,J2,J3,w7⟩
     | true =>
       rw [if_pos rfl] at q7 ⊢;refine bw (he _ _ _ _ _ s7 σ6 H7 _ I7 q7) fun y s8 yv H8 I8 r8 ⟨hp8,hl8,m',hm,w8⟩=>?_;refine thn (ff _ s8 σ6 H8 (.ref s2.heap.objs.size) [yv] _ [y] (fun v' H'=>W (i+1) m' (ys++[yv]) σ6 H') I8 rfl (.cons r8 .nil) ⟨_,ys,yv,rfl,rfl,hp8,hl8,w8⟩) fun v9 s9 ⟨_,H9,I9,_,w9⟩=>?_;obtain ⟨J1,J2,J3⟩:=back I9;exact ⟨m',hm,i+1,ys++[yv],σ6,H9,J1,J2,J3,w9⟩
 exact codeAny_compStart_list (loop _ rfl) (Tn.self _ 0 _ _ _ st₁ (loop _ rfl))
end
end L2
set_option Elab.async false
set_option linter.all false
set_option maxRecDepth 100000
namespace L2
open PySem PySem.Spec PyProof.Rows
theorem wM {K:PySem.W.Frag} {H:Hp}:∀ ns:List Int,DeepAll K H (ns.map V.int) (ns.map PyData.int)
 | []=>.nil
 | n::ns=>.cons (.int n) (wM ns)
theorem vb:∀ ns:List Int,PyData.depthAll (ns.map PyData.int)<=1
 | []=>by simp [PyData.depthAll]
 | n::ns=>by
   simp only [List.map_cons,PyData.depthAll];have:=vb ns;have:(PyData.int n).depth<=1:=by simp [PyData.depth]
   omega
end L2
set_option Elab.async false
set_option linter.all false
set_option maxRecDepth 100000
namespace Pb
open L2 PySem
def front (r:Int) (par:Int->Int) (p:Int):V:=if p=r then .non else .int (par p)
def aG (m:Int) (rs:List Road) (fv:V) (p:Int):List Int:=(dQ m rs p).filter fun v=>decide (V.int v≠fv)
variable {m:Int} {rs:List Road} {r:Int} {par:Int->Int} {dep:Int->Nat}
theorem Rooted.ne (R:Rooted m rs r par dep) {v:Int} (h0:0<=v) (h1:v<m) (hr:v≠r):par v≠v:=fun z=>by
 have:=(R.up v h0 h1 hr).2.2;rw [z] at this;omega
theorem aO (g:Good m rs) (R:Rooted m rs r par dep) {p v:Int} (p0:0<=p) (p1:p<m):v∈aG m rs (front r par p) p↔(0<=v/\v<m)/\v≠r/\par v=p:=by
 unfold aG;rw [List.mem_filter,gh g,decide_eq_true_eq]
 constructor
 . rintro ⟨ad,hf⟩;obtain ⟨_,hv,_⟩:=g.adj ad;refine ⟨hv,?_⟩;obtain ⟨x,hx,j⟩:=ad;have key:∀ u w:Int,(u≠r/\par u=w)\/(w≠r/\par w=u)->u=p->w=v->v≠r/\par v=p:=fun u w h e1 e2=>by
     subst e1 e2;rcases h with h|h
     . exfalso
       apply hf;unfold front;rw [if_neg h.1,h.2]
     . exact h
   rcases j with ⟨a,b⟩|⟨a,b⟩
   . exact key x.a x.b (R.road x hx) a b
   . exact key x.b x.a (R.road x hx).symm a b
 . rintro ⟨hv,hr,hp⟩;have u:=R.up v hv.1 hv.2 hr;rw [hp] at u;refine ⟨?_,fun z=>?_⟩
   . obtain ⟨x,hx,j⟩:=u.2.1;exact ⟨x,hx,j.elim (fun q=>.inr ⟨q.2,q.1⟩) (fun q=>.inl ⟨q.2,q.1⟩)⟩
   . unfold front at z;by_cases c:p=r
     . rw [if_pos c] at z;cases z
     . rw [if_neg c] at z;have e:v=par p:=(by injection z);have w:=(R.up p p0 p1 c).2.2;have w2:=u.2.2;rw [<- e] at w;omega
theorem hW {fv:V} {p:Int}:(aG m rs fv p).Nodup:=(Be m rs p).filter _
def nl (m:Int) (par:Int->Int) (ks:List Int):List V:=(below m.toNat).map fun v=>if v∈ks then .int (par v) else .non
def lV (m r:Int) (par:Int->Int):List V:=(below m.toNat).map (front r par)
theorem qH {ks:List Int}:(nl m par ks).length=m.toNat:=by unfold nl;rw [List.length_map,bh]
theorem fZ {n i:Nat} (h:i<n):(below n)[i]?=some (i:Int):=by unfold below;rw [List.getElem?_map,List.getElem?_range h];rfl
theorem LI {ks:List Int} {v:Int} (h0:0<=v) (h1:v<m):(nl m par ks)[v.toNat]?=some (if v∈ks then .int (par v) else .non):=by
 unfold nl;rw [List.getElem?_map,fZ (by omega)];show some (if ((v.toNat:Nat):Int)∈ks then V.int (par ((v.toNat:Nat):Int)) else V.non)=_;rw [Int.toNat_of_nonneg h0]
theorem RO {ks:List Int} {v:Int} (h0:0<=v) (h1:v<m):(nl m par ks).set v.toNat (.int (par v))=nl m par (ks++[v]):=by
 refine List.ext_getElem? fun i=>?_;rw [List.getElem?_set];by_cases c:i<m.toNat
 . have e:∀ l:List Int,(nl m par l)[i]?=some (if (i:Int)∈l then .int (par (i:Int)) else .non):=fun l=>by
     have:=LI (par:=par) (ks:=l) (v:=(i:Int)) (m:=m) (by omega) (by omega)
     rwa [Int.toNat_natCast] at this
   rw [e,qH];by_cases z:v.toNat=i
   . have z2:v=(i:Int):=(by omega);rw [if_pos z,if_pos (by omega),e,if_pos (by rw [z2];simp),<- z2]
   . rw [if_neg z,e];have z2:¬ ((i:Int)=v):=(by omega);simp [z2]
 . have e:∀ l:List Int,(nl m par l)[i]?=none:=fun l=>List.getElem?_eq_none (by rw [qH];omega);rw [e,e,qH];by_cases z:v.toNat=i
   . omega
   . rw [if_neg z]
structure AInv (m:Int) (rs:List Road) (r:Int) (par:Int->Int) (ks ws:List Int):Prop where
 nd:ks.Nodup
 rng:∀ k∈ks,0<=k/\k<m
 nr:r ∉ ks
 sub:∀ w∈ws,w=r\/w∈ks
 wnd:ws.Nodup
 ok:∀ v∈ks,par v ∉ ws/\(par v=r\/par v∈ks)
 dn:∀ v,0<=v->v<m->v≠r->(par v=r\/par v∈ks)->par v ∉ ws->v∈ks
theorem AInv.start:AInv m rs r par [] [r] where
 nd:=List.nodup_nil
 rng:=fun _ h=>by cases h
 nr:=fun h=>by cases h
 sub:=fun w h=>.inl (List.mem_singleton.mp h)
 wnd:=by simp
 ok:=fun _ h=>by cases h
 dn:=fun v _ _ _ h n=>by
   rcases h with h|h
   . exact absurd (by rw [h];simp) n
   . cases h
theorem AInv.at_ (J:AInv m rs r par ks ws) (r0:0<=r) (r1:r<m) {p:Int} (hp:p∈ws):0<=p/\p<m:=by
 rcases J.sub p hp with h|h
 . rw [h];exact ⟨r0,r1⟩
 . exact J.rng p h
theorem AInv.front (J:AInv m rs r par ks ws) {p:Int} (hp:p∈ws):(if p∈ks then V.int (par p) else V.non)=front r par p:=by
 unfold Pb.front;by_cases c:p=r
 . rw [if_pos c,if_neg (by rw [c];exact J.nr)]
 . rw [if_neg c,if_pos ((J.sub p hp).resolve_left c)]
theorem AInv.step (g:Good m rs) (R:Rooted m rs r par dep) (r0:0<=r) (r1:r<m) {ks ws ws':List Int} {p:Int} (J:AInv m rs r par ks ws) (e:ws.Perm (p::ws')):AInv m rs r par (ks++aG m rs (Pb.front r par p) p) (ws'++aG m rs (Pb.front r par p) p):=by
 have hp:p∈ws:=e.mem_iff.mpr List.mem_cons_self;have pr:=J.at_ r0 r1 hp;have mk:∀ v,v∈aG m rs (Pb.front r par p) p↔(0<=v/\v<m)/\v≠r/\par v=p:=fun v=>aO g R pr.1 pr.2;have nk:(aG m rs (Pb.front r par p) p).Nodup:=hW;generalize aG m rs (Pb.front r par p) p=kk at mk nk ⊢;have dis:∀ v∈kk,v ∉ ks:=fun v hv z=>(J.ok v z).1 (by rw [((mk v).mp hv).2.2];exact hp);obtain ⟨n1,n2⟩:=List.nodup_cons.mp (e.nodup_iff.mp J.wnd);have sw:∀ w∈ws',w∈ws:=fun w hw=>e.mem_iff.mpr (List.mem_cons_of_mem _ hw);refine ⟨?_,?_,?_,?_,?_,?_,?_⟩
 . rw [List.nodup_append];exact ⟨J.nd,nk,fun a ha b hb z=>dis b hb (z ▸ ha)⟩
 . intro k hk;rcases List.mem_append.mp hk with h|h
   . exact J.rng k h
   . exact ((mk k).mp h).1
 . intro z;rcases List.mem_append.mp z with h|h
   . exact J.nr h
   . exact ((mk r).mp h).2.1 rfl
 . intro w hw;rcases List.mem_append.mp hw with h|h
   . exact (J.sub w (sw w h)).imp id (List.mem_append_left _)
   . exact .inr (List.mem_append_right _ h)
 . rw [List.nodup_append];refine ⟨n2,nk,fun a ha b hb z=>?_⟩;subst z;rcases J.sub a (sw a ha) with h|h
   . exact ((mk a).mp hb).2.1 h
   . exact dis a hb h
 . intro v hv;rcases List.mem_append.mp hv with h|h
   . obtain ⟨o1,o2⟩:=J.ok v h;refine ⟨fun z=>?_,o2.imp id (List.mem_append_left _)⟩;rcases List.mem_append.mp z with z|z
     . exact o1 (sw _ z)
     . rcases o2 with o|o
       . exact ((mk _).mp z).2.1 o
       . exact dis _ z o
   . obtain ⟨q1,q2,q3⟩:=(mk v).mp h;rw [q3];refine ⟨fun z=>?_,(J.sub p hp).imp id (List.mem_append_left _)⟩;rcases List.mem_append.mp z with z|z
     . exact n1 z
     . obtain ⟨w1,w2,w3⟩:=(mk p).mp z;exact R.ne w1.1 w1.2 w2 w3
 . intro v v0 v1 vr h n;have nk2:par v ∉ kk:=fun z=>n (List.mem_append_right _ z);have h':par v=r\/par v∈ks:=h.imp id fun z=>(List.mem_append.mp z).resolve_right nk2;by_cases c:par v=p
   . exact List.mem_append_right _ ((mk v).mpr ⟨⟨v0,v1⟩,vr,c⟩)
   . refine List.mem_append_left _ (J.dn v v0 v1 vr h' fun z=>?_);rcases List.mem_cons.mp (e.mem_iff.mp z) with z|z
     . exact c z
     . exact n (List.mem_append_left _ z)
theorem AInv.perm {ks ws ws2:List Int} (J:AInv m rs r par ks ws) (e:ws.Perm ws2):AInv m rs r par ks ws2 where
 nd:=J.nd
 rng:=J.rng
 nr:=J.nr
 sub:=fun w h=>J.sub w (e.mem_iff.mpr h)
 wnd:=e.nodup_iff.mp J.wnd
 ok:=fun v h=>⟨fun z=>(J.ok v h).1 (e.mem_iff.mpr z),(J.ok v h).2⟩
 dn:=fun v h0 h1 hr h n=>J.dn v h0 h1 hr h fun z=>n (e.mem_iff.mp z)
theorem AInv.all (R:Rooted m rs r par dep) {ks:List Int} (J:AInv m rs r par ks []):∀ v,0<=v->v<m->v≠r->v∈ks:=by
 have key:∀ n v,dep v=n->0<=v->v<m->v≠r->v∈ks:=by
   intro n
   induction n with
   | zero =>
     intro v e v0 v1 vr;have:=(R.up v v0 v1 vr).2.2;omega
   | succ n ih =>
     intro v e v0 v1 vr;have u:=R.up v v0 v1 vr;refine J.dn v v0 v1 vr ?_ (by simp);by_cases c:par v=r
     . exact .inl c
     . exact .inr (ih (par v) (by omega) u.1.1 u.1.2 c)
 exact fun v=>key _ v rfl
theorem AInv.done (R:Rooted m rs r par dep) {ks:List Int} (J:AInv m rs r par ks []):nl m par ks=lV m r par:=by
 unfold nl lV;refine List.map_congr_left fun v hv=>?_;have hv':0<=v/\v<m:=by
   unfold below at hv;obtain ⟨k,hk,rfl⟩:=List.mem_map.mp hv;have:=List.mem_range.mp hk;omega
 unfold Pb.front;by_cases c:v=r
 . rw [if_pos c,if_neg (by rw [c];exact J.nr)]
 . rw [if_neg c,if_pos (J.all R v hv'.1 hv'.2 c)]
theorem uA (n:Nat) (v:V):(List.replicate n [v]).flatten=List.replicate n v:=by
 induction n with
 | zero=>rfl
 | succ n ih=>rw [List.replicate_succ,List.flatten_cons,ih,List.replicate_succ];rfl
theorem R9:nl m par []=List.replicate m.toNat V.non:=by
 unfold nl;refine List.ext_getElem? fun i=>?_;by_cases c:i<m.toNat
 . rw [List.getElem?_map,fZ c,List.getElem?_replicate,if_pos c];simp
 . rw [List.getElem?_eq_none (by rw [List.length_map,bh];omega),List.getElem?_eq_none (by rw [List.length_replicate];omega)]
def iE (par:Int->Int):Nat->Int->List Int
 | 0,v=>[v]
 | n+1,v=>v::iE par n (par v)
theorem Rooted.pos (R:Rooted m rs r par dep) {v:Int} (h0:0<=v) (h1:v<m) (hr:v≠r):dep v=dep (par v)+1:=(R.up v h0 h1 hr).2.2.symm
theorem AM (R:Rooted m rs r par dep):∀ (n:Nat) (v:Int),dep v=n->0<=v->v<m->(iE par n v).Nodup/\(∀ x∈iE par n v,(0<=x/\x<m)/\dep x<=n)/\(iE par n v).length=n+1
 | 0,v,e,h0,h1=>⟨by unfold iE;simp,fun x hx=>by
     unfold iE at hx;rw [List.mem_singleton.mp hx];exact ⟨⟨h0,h1⟩,by omega⟩,rfl⟩
 | n+1,v,e,h0,h1=>by
   have hr:v≠r:=fun z=>by rw [z,R.root] at e;omega
   have u:=R.up v h0 h1 hr;obtain ⟨i1,i2,i3⟩:=AM R n (par v) (by omega) u.1.1 u.1.2;unfold iE;refine ⟨List.nodup_cons.mpr ⟨fun z=>?_,i1⟩,fun x hx=>?_,by rw [List.length_cons,i3]⟩
   . have:=(i2 v z).2;omega
   . rcases List.mem_cons.mp hx with rfl|hx
     . exact ⟨⟨h0,h1⟩,by omega⟩
     . exact ⟨(i2 x hx).1,by have:=(i2 x hx).2;omega⟩
theorem dM (R:Rooted m rs r par dep) {v:Int} (h0:0<=v) (h1:v<m):dep v+1<=m.toNat:=by
 obtain ⟨i1,i2,i3⟩:=AM R _ v rfl h0 h1;have:=cM (m:=m) (by omega) i1 fun x hx=>(i2 x hx).1;omega
theorem zA {v:Int} (h0:0<=v) (h1:v<m):(lV m r par)[v.toNat]?=some (front r par v):=by
 unfold lV;rw [List.getElem?_map,fZ (by omega)];show some (front r par ((v.toNat:Nat):Int))=_;rw [Int.toNat_of_nonneg h0]
theorem sG (g:Good m rs) (R:Rooted m rs r par dep) {v:Int} (h0:0<=v) (h1:v<m) (hr:v≠r):∃ k,aH rs v (par v)=some k/\2<=k/\k<=1000000:=by
 obtain ⟨x,hx,j⟩:=(R.up v h0 h1 hr).2.1;obtain ⟨i,hi⟩:=List.getElem?_of_mem hx;have ok:=g.ok x hx;rw [qM g hi j];unfold dE;by_cases c:x.a=v/\x.b=par v
 . rw [if_pos c];exact ⟨_,rfl,ok.t0,ok.t1⟩
 . rw [if_neg c];have c2:x.a=par v/\x.b=v:=by
     rcases j with j|j
     . exact absurd j c
     . exact ⟨j.2,j.1⟩
   rw [if_pos c2];exact ⟨_,rfl,ok.u0,ok.u1⟩
def nL (m:Int) (rs:List Road) (r:Int) (par:Int->Int):Nat->Int->List Int
 | 0,v=>[v]
 | n+1,v=>v::(aG m rs (front r par v) v).flatMap (nL m rs r par n)
def bX (m:Int) (rs:List Road) (r:Int) (par:Int->Int) (dep:Int->Nat) (v:Int):List Int:=nL m rs r par (m.toNat - 1 - dep v) v
theorem rN {f h:Int->List Int}:∀ {l:List Int},(∀ x∈l,f x=h x)->l.flatMap f=l.flatMap h
 | [],_=>rfl
 | a::l,e=>by rw [List.flatMap_cons,List.flatMap_cons,e a List.mem_cons_self,rN fun x hx=>e x (List.mem_cons_of_mem _ hx)]
theorem g0 (g:Good m rs) (R:Rooted m rs r par dep) {v:Int} (h0:0<=v) (h1:v<m):bX m rs r par dep v=v::(aG m rs (front r par v) v).flatMap (bX m rs r par dep):=by
 have mk:∀ u,u∈aG m rs (front r par v) v->(0<=u/\u<m)/\u≠r/\par u=v:=fun u=>(aO g R h0 h1).mp;have du:∀ u∈aG m rs (front r par v) v,dep u=dep v+1/\dep u+1<=m.toNat:=fun u hu=>by
   obtain ⟨w1,w2,w3⟩:=mk u hu;have:=R.pos w1.1 w1.2 w2;rw [w3] at this;exact ⟨this,dM R w1.1 w1.2⟩
 unfold bX;cases e:m.toNat - 1 - dep v with
 | zero =>
   have:aG m rs (front r par v) v=[]:=List.eq_nil_iff_forall_not_mem.mpr fun u hu=>by
     have:=du u hu;omega
   rw [this]
   rfl
 | succ n =>
   show v::(aG m rs (front r par v) v).flatMap (nL m rs r par n)=_;rw [rN fun u hu=>show nL m rs r par n u=nL m rs r par (m.toNat - 1 - dep u) u by rw [show m.toNat - 1 - dep u=n by have:=du u hu;omega]]
def up (par:Int->Int):Nat->Int->Int
 | 0,x=>x
 | k+1,x=>par (up par k x)
theorem Bk {f:Int->List Int}:∀ {l:List Int},l.Nodup->(∀ u∈l,(f u).Nodup)->(∀ u∈l,∀ w∈l,∀ x,x∈f u->x∈f w->u=w)->(l.flatMap f).Nodup
 | [],_,_,_=>by simp
 | a::l,n,h1,h2=>by
   obtain ⟨n1,n2⟩:=List.nodup_cons.mp n;rw [List.flatMap_cons,List.nodup_append];refine ⟨h1 a List.mem_cons_self,Bk n2 (fun u hu=>h1 u (List.mem_cons_of_mem _ hu)) (fun u hu w hw=>h2 u (List.mem_cons_of_mem _ hu) w (List.mem_cons_of_mem _ hw)),fun x hx y hy z=>?_⟩;subst z;obtain ⟨w,hw,hxw⟩:=List.mem_flatMap.mp hy;have:=h2 a List.mem_cons_self w (List.mem_cons_of_mem _ hw) x hx hxw;exact n1 (this ▸ hw)
theorem su (g:Good m rs) (R:Rooted m rs r par dep):∀ (n:Nat) (v:Int),0<=v->v<m->(nL m rs r par n v).Nodup/\∀ x∈nL m rs r par n v,(0<=x/\x<m)/\∃ k,dep x=dep v+k/\up par k x=v
 | 0,v,h0,h1=>⟨by unfold nL;simp,fun x hx=>by
     unfold nL at hx;rw [List.mem_singleton.mp hx];exact ⟨⟨h0,h1⟩,0,rfl,rfl⟩⟩
 | n+1,v,h0,h1=>by
   have mk:∀ u,u∈aG m rs (front r par v) v->(0<=u/\u<m)/\u≠r/\par u=v:=fun u=>(aO g R h0 h1).mp;have nk:(aG m rs (front r par v) v).Nodup:=hW;have ih:=fun u hu=>su g R n u (mk u hu).1.1 (mk u hu).1.2;have du:∀ u∈aG m rs (front r par v) v,dep u=dep v+1:=fun u hu=>by
     obtain ⟨w1,w2,w3⟩:=mk u hu;have:=R.pos w1.1 w1.2 w2;rw [w3] at this;exact this
   unfold nL;refine ⟨List.nodup_cons.mpr ⟨fun z=>?_,Bk nk (fun u hu=>(ih u hu).1) fun u hu w hw x hx hy=>?_⟩,fun x hx=>?_⟩
   . obtain ⟨u,hu,hv⟩:=List.mem_flatMap.mp z;obtain ⟨_,k,e,_⟩:=(ih u hu).2 v hv;have:=du u hu;omega
   . obtain ⟨_,k1,e1,f1⟩:=(ih u hu).2 x hx;obtain ⟨_,k2,e2,f2⟩:=(ih w hw).2 x hy;have d1:=du u hu;have d2:=du w hw;have:k1=k2:=(by omega);rw [<- f1,<- f2,this]
   . rcases List.mem_cons.mp hx with rfl|hx
     . exact ⟨⟨h0,h1⟩,0,rfl,rfl⟩
     . obtain ⟨u,hu,hv⟩:=List.mem_flatMap.mp hx;obtain ⟨xr,k,e,f⟩:=(ih u hu).2 x hv;exact ⟨xr,k+1,by rw [e,du u hu];omega,by show par (up par k x)=v;rw [f];exact (mk u hu).2.2⟩
theorem Ol (g:Good m rs) (R:Rooted m rs r par dep) {v:Int} (h0:0<=v) (h1:v<m):(bX m rs r par dep v).length<=24:=by
 obtain ⟨n1,n2⟩:=su g R (m.toNat - 1 - dep v) v h0 h1;have:=cM (m:=m) (by omega) n1 fun x hx=>(n2 x hx).1;have:=g.m24;unfold bX;omega
end Pb
set_option Elab.async false
set_option linter.all false
set_option maxRecDepth 100000
namespace L2
open PySem PySem.Spec PyProof.Rows
def Itv (K:PySem.W.Frag) (a:Addr) (n:Nat):It :=
 ⟨fun i H=>i<n/\∃ xs x,SqL K H a xs/\xs[n - 1 - i]?=some x,fun i H x H'=>H'=H/\∀ xs,SqL K H a xs->xs[n - 1 - i]?=some x,fun i H=>n<=i⟩
theorem Mh {P:Program} {w:World} {K:PySem.W.Frag} {tg:Expr} (a it:Addr) (n:Nat):Turn P w K tg (Itv K a n) [it] it (fun i h=>i<=n/\h.IsRevIter it a ((n:Int) - 1 - (i:Int))) where
 mem:=by simp
 obj:=fun i h st b hb=>by
   have e:b=it:=by simpa using hb
   subst e;obtain ⟨_,o,e,c,d⟩:=st;exact ⟨o,e,fun v z=>by rw [d] at z;cases z⟩
 keep:=fun i h h' st k=>⟨st.1,st.2.at fun o e=>k it (by simp) o e⟩
 item:=by
   intro X hP hw hK hc i pins s σ H E I hf st hg;subst hP hw hK;obtain ⟨hi,xs,x,hq,hx⟩:=hg;obtain ⟨its,rv,p,hz⟩:=I.list hq;obtain ⟨u,hu,ru⟩:=rv.get hx;obtain ⟨f0,f1,f2,f3,f4,f5⟩:=hf it (by simp);have e0:(n:Int) - 1 - (i:Int)=((n - 1 - i:Nat):Int):=by omega
   have st2:=st.2;rw [e0] at st2;refine wpAny_pyNext_rev_item st2 p.isList (x:=u) (by simpa using hu) fun h' st' sb=>?_;have I1:Inv X pins σ H { s with heap:=h' }:=I.turned (t':=s.toks) (fun b o hb e=>(sb.2 b hb).trans e) f0 f1 f3 f4 f5;obtain ⟨o,e,c,d⟩:=id st';have e1:((n - 1 - i:Nat):Int) - 1=(n:Int) - 1 - ((i+1:Nat):Int):=by omega
   rw [e1] at st';exact ⟨u,rfl,DH (s:={ s with heap:=h' }) e c d (by decide) ⟨x,H,I1,ru,⟨rfl,fun ys hy=>by rw [I.list_inj hy hq];exact hx⟩,⟨hi,st'⟩,fun b hb=>(hf b hb).1⟩⟩
 done:=by
   intro X hP hw hK hc i pins s σ H E I hf st hg;subst hP hw hK;have hg':n<=i:=hg;obtain ⟨f0,f1,f2,f3,f4,f5⟩:=hf it (by simp);have st2:=st.2;have st1:=st.1;rw [show (n:Int) - 1 - (i:Int)=-1 by omega] at st2;exact wpAny_pyNext_rev_end (I.ok.hd hc) st2 fun h' eb=>⟨rfl,I.turned (t':=s.toks) (fun b o hb e=>eb b o hb e) f0 f1 f3 f4 f5⟩
 self:=fun _ _ _ _ _ st h=>wpAny_pyIter_revIter st.2 h
def Nj (K:PySem.W.Frag) (tl:TE):TI:=fun σ H R=>tl σ H fun x H1=>∃ a xs,x=.ref a/\SqL K H1 a xs/\R (Itv K a xs.length) H1
section
variable {X:Cx} {tg e:Expr} {te:TE} {p2 pos:Pos}
theorem Fh (hg:Gl X "reversed") (hm:X.mg "reversed"=none) (he:PE X e te) (h2:starEach [e] X.env=[(false,eval e X.env)]:=by rfl):PI X tg (.Call (.Name "reversed" p2) [e] [] pos) (Nj X.K te):=by
 intro pins s σ H R I h;refine Call_ (oZ I hg hm boot_reversed (PyProof.Rows.callWith_type1 ?_ h2 rfl));rw [h2];show wpAny _ _ (spliced ((false,eval e X.env)::backTo pos [])) _ _ s;refine Calls.spliced_cons (bw (he pins s σ H _ I h) fun u s1 x H1 I1 r1 q1=>Calls.spliced_nil ?_);obtain ⟨a,ys,ex,sa,q⟩:=q1;subst ex;cases r1;obtain ⟨its,rv,pl,hz⟩:=I1.list sa;refine call_reversed_list pl.isList ?_;have sz:its.toArray.size=ys.length:=by rw [List.size_toArray,rv.length]
 rw [sz];refine wpAny_pyIter_revIter (i:=(ys.length:Int) - 1) (l:=a) ⟨_,Heap.get?_push_size _ rfl,rfl,rfl⟩ ?_;refine ⟨s1.heap.objs.size,[s1.heap.objs.size],_,_,H1,rfl,I1.kept (t':=s1.toks) fun b o e=>Heap.get?_push_of_some _ e,Mh a _ ys.length,⟨Nat.zero_le _,?_⟩,fun b hb=>?_,q⟩
 . exact ⟨_,Heap.get?_push_size _ rfl,rfl,by simp [revObj]⟩
 . have e:b=s1.heap.objs.size:=by simpa using hb
   subst e;exact I1.fpOk (Nat.le_refl _) (I1.hok.fresh (Nat.le_refl _))
end
theorem Ev {K:PySem.W.Frag} {a:Addr} {xs:List V} {g:TG} {tb:TS} {D:Ends} {σ:St} {H:Hp} (Pv:Nat->St->Hp->Prop) (h0:Pv 0 σ H) (hl:∀ i σ H,i<=xs.length->Pv i σ H->SqL K H a xs)
   (hs:∀ (i:Nat) (x:V) (σ:St) (H:Hp) (N:St->Hp->Prop),(∀ σ' H',Pv (i+1) σ' H'->N σ' H')->xs.reverse[i]?=some x->Pv i σ H->g x σ H fun σ2 H2=>tb { D with nx:=N,ct:=N,bk:=D.nx } σ2 H2) (hd:∀ σ H,Pv xs.length σ H->D.nx σ H) :
   qy (Itv K a xs.length) D g tb σ H:=by
 refine ⟨fun i m σ H=>m=xs.length - i/\i<=xs.length/\Pv i σ H,⟨xs.length,by simp,Nat.zero_le _,h0⟩,?_⟩;rintro i m σ H ⟨rfl,hi,p⟩;have q:=hl i σ H hi p;by_cases hlt:i<xs.length
 . have hx:xs[xs.length - 1 - i]?=some xs[xs.length - 1 - i]:=List.getElem?_eq_getElem (by omega);refine .inr ⟨⟨hlt,xs,_,q,hx⟩,fun σ' H'=>∃ m',m'<xs.length - i/\(m'=xs.length - (i+1)/\i+1<=xs.length/\Pv (i+1) σ' H'),fun σ' H' z=>z,fun x H' y=>?_⟩;obtain ⟨e,y⟩:=y;subst e;exact hs i x σ _ _ (fun σ' H' p'=>⟨xs.length - (i+1),by omega,rfl,hlt,p'⟩) (by rw [List.getElem?_reverse hlt];exact y xs q) p
 . have e:i=xs.length:=by omega
   subst e;exact .inl ⟨Nat.le_refl _,hd σ H p⟩
end L2
set_option Elab.async false
set_option linter.all false
set_option maxRecDepth 100000
namespace L2
open PySem PySem.Spec PyProof.Rows
def KH (te:TE):TE:=fun σ H Q=>te σ H fun x H1=>∃ i,x=.int i/\0<=i/\i<=100000/\∀ l,H1 l=none->Q (.ref l) (upd H1 l (.lst ((Pb.below i.toNat).map V.int)))
section
variable {X:Cx} {e:Expr} {te:TE} {p1 p2 pos pos2:Pos}
end
end L2
set_option Elab.async false
set_option linter.all false
set_option maxRecDepth 100000
namespace L2
open PySem PySem.Spec PyProof.Rows PySem.W
section
variable {X:Cx}
end
end L2
set_option Elab.async false
set_option linter.all false
set_option maxRecDepth 100000
namespace L2
open PySem PySem.Spec PyProof.Rows
theorem La:bootBuiltins "sum"=some (.builtin "sum"):=by decide +kernel
theorem yy (ns:List Int):∀ n,n<=ns.length->preSum (fun i=>ns.getD i 0) n=(ns.take n).sum
 | 0,_=>by simp [preSum]
 | n+1,h=>by
   have ih:=yy ns n (by omega);have hn:n<ns.length:=by omega
   rw [List.take_succ,List.getElem?_eq_getElem hn,List.sum_append,<- ih];simp [preSum,List.getD,hn]
section
variable {X:Cx}
theorem D9 (hc:X.calm=true):jM X (.builtin "sum") (fun xs H Q=>∃ (p:Addr) (ns:List Int),xs=[.ref p]/\(SqL X.K H p (ns.map V.int)\/SqT X.K H p (ns.map V.int))/\Q (.int ns.sum) H):=by
 intro pins s σ H xs us Q I r h;obtain ⟨p,ns,rfl,hp,q⟩:=h;obtain ⟨u,rfl,ru⟩:=mY r;cases ru;have hh:X.A.in1.handled=none:=I.ok.hd hc;have vals:∀ {its:List Value},Vals (ns.map V.int) its->its.length=ns.length/\∀ (i:Nat) (v:Value),its.toArray[i]?=some v->∃ t,v=Value.int (ns.getD i 0) t:=by
   intro its rv;have hlen:its.length=ns.length:=by rw [<- rv.length,List.length_map]
   refine ⟨hlen,fun i v hP=>?_⟩;have hi:its[i]?=some v:=by simpa using hP
   have hib:i<ns.length:=by rw [<- hlen];exact (List.getElem?_eq_some_iff.mp hi).1
   obtain ⟨u,hu,ru⟩:=rv.get (i:=i) (x:=V.int ns[i]) (by rw [List.getElem?_map,List.getElem?_eq_getElem hib];rfl);rw [hi] at hu;cases hu;obtain ⟨t,e⟩:=(show ∃ t,v=Value.int ns[i] t from ru);exact ⟨t,by rw [e];simp [List.getD,hib]⟩
 have fin:∀ {n:Nat},n=ns.length->preSum (fun i=>ns.getD i 0) n=ns.sum:=fun {n} e=>by rw [yy ns n (by omega),List.take_of_length_le (by omega)]
 rcases hp with hp|hp
 . obtain ⟨its,rv,pl,hz⟩:=I.list hp;obtain ⟨hlen,hv⟩:=vals rv;have hl:=pl.isList;have hlt:=pl.lt;refine call_sum_walkG (wpAny_pyIter_list hl ?_);refine ⟨s.heap.objs.size,[s.heap.objs.size,p],[s.heap.objs.size],its.toArray.size,_,_,fun i=>ns.getD i 0,rfl,Walks.list (A:=X.A.in1) hh _ p (Nat.ne_of_lt hlt) its.toArray,
     ⟨⟨_,Heap.get?_push_size _ rfl,rfl,rfl⟩,hl.push _⟩,fun b hb=>?_,fun i v hP=>hv i v hP,fun h' tk t' hk=>?_⟩
   . simp only [Heap.push,Array.size_push];rcases List.mem_cons.mp hb with e|e
     . rw [e];exact Nat.lt_succ_self _
     . rw [List.mem_singleton.mp e];exact Nat.lt_succ_of_lt hlt
   . have kk:∀ b o,s.heap.get? b=some o->h'.get? b=some o:=fun b o eb=>hk b o (fun hm=>by rw [List.mem_singleton.mp hm] at eb;exact Nat.lt_irrefl _ (Heap.lt_size eb)) (Heap.get?_push_of_some _ eb);rw [fin (by rw [List.size_toArray,hlen])];exact ⟨.int _,H,I.kept (t':=tk) kk,⟨t',rfl⟩,q⟩
 . obtain ⟨its,rv,pl,hz⟩:=I.tuple hp;obtain ⟨hlen,hv⟩:=vals rv;have hl:s.heap.IsTuple p its.toArray:=pl;have hlt:p<s.heap.objs.size:=by
     obtain ⟨o,e,_⟩:=id hl;exact Heap.lt_size e
   refine call_sum_walkG (wpAny_pyIter_tuple hl ?_);refine ⟨s.heap.objs.size,[s.heap.objs.size,p],[s.heap.objs.size],its.toArray.size,_,_,fun i=>ns.getD i 0,rfl,Walks.tuple (A:=X.A.in1) hh _ p (Nat.ne_of_lt hlt) its.toArray,
     ⟨⟨_,Heap.get?_push_size _ rfl,rfl,rfl⟩,hl.push _⟩,fun b hb=>?_,fun i v hP=>hv i v hP,fun h' tk t' hk=>?_⟩
   . simp only [Heap.push,Array.size_push];rcases List.mem_cons.mp hb with e|e
     . rw [e];exact Nat.lt_succ_self _
     . rw [List.mem_singleton.mp e];exact Nat.lt_succ_of_lt hlt
   . have kk:∀ b o,s.heap.get? b=some o->h'.get? b=some o:=fun b o eb=>hk b o (fun hm=>by rw [List.mem_singleton.mp hm] at eb;exact Nat.lt_irrefl _ (Heap.lt_size eb)) (Heap.get?_push_of_some _ eb);rw [fin (by rw [List.size_toArray,hlen])];exact ⟨.int _,H,I.kept (t':=tk) kk,⟨t',rfl⟩,q⟩
end
def Si (_ j:Int):Prop:=0<j/\j<18446744073709551616
theorem Eg {X:Cx}:OpR X (binaryOp .FloorDiv) (rI Si fun i j=>.int (i / j)):=opI fun i j _ _ _ _ _ hc q=>by
 have h1:(0:Int)<j:=hc.1;have h2:j<18446744073709551616:=hc.2;refine floordiv_int (by omega) (by rw [Int.fdiv_eq_ediv_of_nonneg i (by omega)];exact q) (.inl ?_);have h3:j.natAbs.log2<64:=(Nat.log2_lt (by omega)).mpr (by omega);unfold Builtin.divisionGoesByPylong;have hz:(j == 0)=false:=by simp;omega
 simp only [hz,Bool.false_eq_true,if_false];have:¬ (j.natAbs.log2 / 30+1 > 300):=by omega
 simp [this]
theorem HG {X:Cx} (K:PySem.W.Frag) (hK:X.K=K) {es:List Expr} {k:Nat} {pos:Pos} {t:TGs} {n:Nat} (hc:X.calm=true) (h:PGs X es t)
   (hn:(assignEach es X.env).length=n:=by rfl) (hst:(assignEach es X.env).findIdx? (·.1)=none:=by rfl):PG X (.Tuple es k pos) (Jo K n t):=by
 subst hK;exact nu hc h hn hst
theorem MK {K:PySem.W.Frag} {c d:Bool} {a b p:Addr} {xs zs:List V} {Q:VK} {g:TG} {tc:TT} {te:TE} {σ0:St} {H0:Hp} (Pv:Nat->List V->St->Hp->Prop) (h0:Pv 0 [] σ0 H0) (hl:∀ i ys σ H,Pv i ys σ H->SqX K c H a xs/\SqX K d H b zs)
   (hs:∀ (i:Nat) (x z:V) (ys:List V) (σ:St) (H:Hp) (q:Addr) (N:List V->St->Hp->Prop),(∀ ys' σ' H',Pv (i+1) ys' σ' H'->N ys' σ' H')->xs[i]?=some x->zs[i]?=some z->Pv i ys σ H->H q=none->g (.ref q) σ (upd H q (.tup [x,z])) fun σ2 H2=>tc σ2 H2 fun b H3 =>
     if b=true then te σ2 H3 fun y H4=>H4 p=some (.lst ys)/\ys.length<sizeLine/\N (ys++[y]) σ2 (upd H4 p (.lst (ys++[y]))) else N ys σ2 H3)
   (hd:∀ ys σ H,Pv (min xs.length zs.length) ys σ H->Q (.ref p) H):sN (Itz K c d a b) p Q g tc te σ0 H0:=by
 refine ⟨fun i m ys σ H=>m=min xs.length zs.length - i/\i<=min xs.length zs.length/\Pv i ys σ H,⟨_,rfl,Nat.zero_le _,h0⟩,?_⟩;rintro i m ys σ H ⟨rfl,hi,pv⟩;obtain ⟨q1,q2⟩:=hl i ys σ H pv;by_cases hlt:i<min xs.length zs.length
 . refine .inr ⟨⟨xs,zs,xs[i]'(by omega),zs[i]'(by omega),q1,q2,List.getElem?_eq_getElem (by omega),List.getElem?_eq_getElem (by omega)⟩,fun x H' y=>?_⟩;obtain ⟨p',x',y',hp,rfl,rfl,e1,e2⟩:=y;exact hs i x' y' ys σ H p' (fun ys' σ' H'=>∃ m',m'<min xs.length zs.length - i/\(m'=min xs.length zs.length - (i+1)/\i+1<=min xs.length zs.length/\Pv (i+1) ys' σ' H')) (fun ys' σ' H' pv'=>⟨min xs.length zs.length - (i+1),by omega,rfl,hlt,pv'⟩) (e1 xs q1) (e2 zs q2) pv hp
 . have e:i=min xs.length zs.length:=by omega
   subst e;exact .inl ⟨⟨xs,zs,q1,q2,by omega⟩,hd ys σ H pv⟩
theorem xP {H:Hp} {l:Addr} {xs:List V} {i:Int} {v:V} {Q:Hp->Prop} (h:H l=some (.lst xs)) (i0:0<=i) (i1:i<xs.length) (q:Q (upd H l (.lst (xs.set i.toNat v)))):rSetL (.ref l) (.int i) v H Q :=
 ⟨l,xs,i,i.toNat,rfl,rfl,h,by unfold ixN;rw [if_pos i0,if_pos (by omega)],q⟩
theorem atG {xs:List Int} {i:Int} (i0:0<=i) (i1:i<xs.length):atI (xs.map V.int) i=some (.int (xs.getD i.toNat 0)):=gD i0 (by
 have h:i.toNat<xs.length:=by omega
 rw [List.getElem?_map,List.getElem?_eq_getElem h];simp [List.getD,h])
theorem Sm (n:Nat) (v:V):(List.replicate n [v]).flatten=List.replicate n v:=by
 induction n with
 | zero=>rfl
 | succ n ih=>rw [List.replicate_succ,List.flatten_cons,ih,List.replicate_succ];rfl
theorem K9 {xs:List Int} {n:Nat} {v:Int} (h:∀ x∈xs,0<=x) (hv:0<=v):∀ x∈xs.set n v,0<=x:=fun x hx=>by
 rcases List.mem_or_eq_of_mem_set hx with h1|h1
 . exact h x h1
 . rw [h1];exact hv
theorem Ib {xs:List Int} (h:∀ x∈xs,0<=x) (n:Nat):0<=xs.getD n 0:=by
 by_cases z:n<xs.length
 . rw [List.getD,List.getElem?_eq_getElem z];exact h _ (List.getElem_mem z)
 . rw [List.getD,List.getElem?_eq_none (by omega)];exact Int.le_refl _
theorem Ga {X:Cx}:Re X (Eb X.K):=by
 intro pins s σ H x y v u Q I rx ry h;obtain ⟨p,xs,i,z,rfl,rfl,hq,he,q⟩:=h;cases rx;obtain ⟨t,rfl⟩:=ry;obtain ⟨its,r,pl,hz⟩:=I.list hq;obtain ⟨j,h1,h2,h3,h4,h5⟩:=BD he;obtain ⟨w,ew,rw'⟩:=r.get h2;have hl:=r.length;have hn:=pQ;have fin:EP X pins σ Q w s:=⟨z,H,I,rw',q⟩;by_cases h0:0<=i
 . have hj:i.toNat=j:=by
     rw [seqIndex_of h0 h5] at h1;exact Option.some.inj h1
   exact wpAny_getItem_list pl.isList h0 (by omega) (by rw [hj];simpa using ew) fin
 . have hj:(i+(its.toArray.size:Int)).toNat=j:=by
     rw [seqIndex_neg (by omega) h4] at h1;rw [List.size_toArray,<- hl];exact Option.some.inj h1
   exact wpAny_getItem_list_neg pl.isList (by omega) (by rw [List.size_toArray] <;> omega) (by omega) (by rw [hj];simpa using ew) fin
theorem M7 {K:PySem.W.Frag} {a p:Addr} {xs:List V} {Q:VK} {g:TG} {tc:TT} {te:TE} {σ0:St} {H0:Hp} (Pv:Nat->List V->St->Hp->Prop) (h0:Pv 0 [] σ0 H0) (hl:∀ i ys σ H,i<=xs.length->Pv i ys σ H->SqL K H a xs)
   (hs:∀ (i:Nat) (x:V) (ys:List V) (σ:St) (H:Hp) (N:List V->St->Hp->Prop),(∀ ys' σ' H',Pv (i+1) ys' σ' H'->N ys' σ' H')->xs.reverse[i]?=some x->Pv i ys σ H->g x σ H fun σ2 H2=>tc σ2 H2 fun b H3 =>
     if b=true then te σ2 H3 fun y H4=>H4 p=some (.lst ys)/\ys.length<sizeLine/\N (ys++[y]) σ2 (upd H4 p (.lst (ys++[y]))) else N ys σ2 H3)
   (hd:∀ ys σ H,Pv xs.length ys σ H->Q (.ref p) H):sN (Itv K a xs.length) p Q g tc te σ0 H0:=by
 refine ⟨fun i m ys σ H=>m=xs.length - i/\i<=xs.length/\Pv i ys σ H,⟨xs.length,by simp,Nat.zero_le _,h0⟩,?_⟩;rintro i m ys σ H ⟨rfl,hi,pv⟩;have q:=hl i ys σ H hi pv;by_cases hlt:i<xs.length
 . have hx:xs[xs.length - 1 - i]?=some xs[xs.length - 1 - i]:=List.getElem?_eq_getElem (by omega);refine .inr ⟨⟨hlt,xs,_,q,hx⟩,fun x H' y=>?_⟩;obtain ⟨e,y⟩:=y;subst e;exact hs i x ys σ _ (fun ys' σ' H'=>∃ m',m'<xs.length - i/\(m'=xs.length - (i+1)/\i+1<=xs.length/\Pv (i+1) ys' σ' H')) (fun ys' σ' H' pv'=>⟨xs.length - (i+1),by omega,rfl,hlt,pv'⟩) (by rw [List.getElem?_reverse hlt];exact y xs q) pv
 . have e:i=xs.length:=by omega
   subst e;exact .inl ⟨Nat.le_refl _,hd ys σ H pv⟩
end L2
set_option Elab.async false
set_option linter.all false
set_option maxRecDepth 100000
namespace Pb
open L2
def After (par:Int->Int):List Int->List Int->Prop
 | _,[]=>True
 | S,c::t=>par c∈S/\After par (c::S) t
section
variable {m:Int} {rs:List Road} {r:Int} {par:Int->Int} {dep:Int->Nat}
theorem After.mono:∀ {l S S':List Int},(∀ x∈S,x∈S')->After par S l->After par S' l
 | [],_,_,_,_=>trivial
 | c::t,S,S',h,a=>⟨h _ a.1,After.mono (fun x hx=>by
     rcases List.mem_cons.mp hx with e|e
     . exact List.mem_cons.mpr (.inl e)
     . exact List.mem_cons_of_mem _ (h x e)) a.2⟩
theorem After.append:∀ {l1 l2 S:List Int},After par S l1->After par S l2->After par S (l1++l2)
 | [],_,_,_,b=>b
 | c::t,l2,S,a,b=>⟨a.1,After.append a.2 (b.mono fun x hx=>List.mem_cons_of_mem _ hx)⟩
theorem After.snoc {c:Int}:∀ {l S:List Int},After par S l->(par c∈S\/par c∈l)->After par S (l++[c])
 | [],S,_,h=>⟨h.resolve_right (by simp),trivial⟩
 | d::t,S,a,h=>⟨a.1,After.snoc a.2 (by
     rcases h with h|h
     . exact .inl (List.mem_cons_of_mem _ h)
     . rcases List.mem_cons.mp h with e|e
       . exact .inl (List.mem_cons.mpr (.inl e))
       . exact .inr e)⟩
theorem After.up:∀ {A B S:List Int},After par S (A++B)->∀ k∈A,par k∈S\/par k∈A
 | [],_,_,_,k,hk=>by cases hk
 | c::t,B,S,a,k,hk=>by
   rcases List.mem_cons.mp hk with e|e
   . rw [e];exact .inl a.1
   . rcases After.up (A:=t) (B:=B) a.2 k e with h|h
     . rcases List.mem_cons.mp h with h|h
       . exact .inr (by rw [h];exact List.mem_cons_self)
       . exact .inl h
     . exact .inr (List.mem_cons_of_mem _ h)
structure Order (m r:Int) (par:Int->Int) (t:List Int):Prop where
 nd:(r::t).Nodup
 rng:∀ v∈t,0<=v/\v<m
 all:∀ v,0<=v->v<m->v=r\/v∈t
 af:After par [r] t
theorem Order.ne {t:List Int} (O:Order m r par t) {v:Int} (h:v∈t):v≠r:=fun z=>(List.nodup_cons.mp O.nd).1 (z ▸ h)
theorem Bd (g:Good m rs) (R:Rooted m rs r par dep):∀ (n:Nat) (v:Int) (S:List Int),0<=v->v<m->par v∈S->After par S (nL m rs r par n v)
 | 0,v,S,_,_,h=>⟨h,trivial⟩
 | n+1,v,S,h0,h1,h=>by
   refine ⟨h,?_⟩;have:∀ (ks:List Int) (S:List Int),v∈S->(∀ u∈ks,u∈aG m rs (front r par v) v)->After par S (ks.flatMap (nL m rs r par n)):=by
     intro ks
     induction ks with
     | nil=>intro S _ _;exact trivial
     | cons u ks ih =>
       intro S hv hk;rw [List.flatMap_cons];obtain ⟨w1,w2,w3⟩:=(aO g R h0 h1).mp (hk u List.mem_cons_self);exact (Bd g R n u S w1.1 w1.2 (by rw [w3];exact hv)).append (ih S hv fun x hx=>hk x (List.mem_cons_of_mem _ hx))
   exact this _ _ List.mem_cons_self fun u hu=>hu
theorem AU (g:Good m rs) (R:Rooted m rs r par dep) (r0:0<=r) (r1:r<m) (nd:(bX m rs r par dep r).Nodup) (al:∀ v,v∈bX m rs r par dep r↔0<=v/\v<m):∃ t,bX m rs r par dep r=r::t/\Order m r par t:=by
 have e:=g0 g R r0 r1;refine ⟨_,e,?_⟩;rw [e] at nd al;refine ⟨nd,fun v hv=>(al v).mp (List.mem_cons_of_mem _ hv),fun v h0 h1=>List.mem_cons.mp ((al v).mpr ⟨h0,h1⟩),?_⟩;have:∀ ks:List Int,(∀ u∈ks,u∈aG m rs (front r par r) r)->After par [r] (ks.flatMap (bX m rs r par dep)):=by
   intro ks
   induction ks with
   | nil=>intro _;exact trivial
   | cons u ks ih =>
     intro hk;rw [List.flatMap_cons];obtain ⟨w1,w2,w3⟩:=(aO g R r0 r1).mp (hk u List.mem_cons_self);exact (Bd g R _ u [r] w1.1 w1.2 (by rw [w3];exact List.mem_cons_self)).append (ih fun x hx=>hk x (List.mem_cons_of_mem _ hx))
 exact this _ fun u hu=>hu
def xF (m:Int) (rs:List Road) (r:Int) (par:Int->Int) (held:Int->Int) (con:Int->Int->Int):Nat->Int->Int
 | 0,v=>held v
 | n+1,v=>held v+((aG m rs (front r par v) v).map fun c=>con c (xF m rs r par held con n c)).sum
def gat (m:Int) (rs:List Road) (r:Int) (par:Int->Int) (dep:Int->Nat) (held:Int->Int) (con:Int->Int->Int) (v:Int):Int:=xF m rs r par held con (m.toNat - 1 - dep v) v
variable {held:Int->Int} {con:Int->Int->Int}
theorem bG (g:Good m rs) (R:Rooted m rs r par dep) {v:Int} (h0:0<=v) (h1:v<m):gat m rs r par dep held con v=held v+((aG m rs (front r par v) v).map fun c=>con c (gat m rs r par dep held con c)).sum:=by
 have mk:∀ u,u∈aG m rs (front r par v) v->(0<=u/\u<m)/\u≠r/\par u=v:=fun u=>(aO g R h0 h1).mp;have du:∀ u∈aG m rs (front r par v) v,dep u=dep v+1/\dep u+1<=m.toNat:=fun u hu=>by
   obtain ⟨w1,w2,w3⟩:=mk u hu;have:=R.pos w1.1 w1.2 w2;rw [w3] at this;exact ⟨this,dM R w1.1 w1.2⟩
 unfold gat;cases e:m.toNat - 1 - dep v with
 | zero =>
   have:aG m rs (front r par v) v=[]:=List.eq_nil_iff_forall_not_mem.mpr fun u hu=>by
     have:=du u hu;omega
   rw [this];simp [xF]
 | succ n =>
   show held v+_=_;rw [List.map_congr_left fun u hu=>show con u (xF m rs r par held con n u)=con u (xF m rs r par held con (m.toNat - 1 - dep u) u) by rw [show m.toNat - 1 - dep u=n by have:=du u hu;omega]]
theorem Ek {l l':List Int} (h:l.Perm l'):l.sum=l'.sum:=by
 induction h with
 | nil=>rfl
 | cons x _ ih=>rw [List.sum_cons,List.sum_cons,ih]
 | swap x y l=>simp only [List.sum_cons];omega
 | trans _ _ h1 h2=>exact h1.trans h2
def uB (par:Int->Int) (con:Int->Int->Int) (cs:List Int) (v:Int):List Int:=cs.set (par v).toNat (cs.getD (par v).toNat 0+con v (cs.getD v.toNat 0))
structure Sofar (m:Int) (rs:List Road) (r:Int) (par:Int->Int) (dep:Int->Nat) (held:Int->Int) (con:Int->Int->Int) (t cs:List Int):Prop where
 len:(cs.length:Int)=m
 val:∀ v,0<=v->v<m->cs.getD v.toNat 0=held v+((t.filter fun c=>decide (par c=v)).map fun c=>con c (gat m rs r par dep held con c)).sum
theorem Sofar.nil {hs:List Int} (h:(hs.length:Int)=m):Sofar m rs r par dep (fun v=>hs.getD v.toNat 0) con [] hs:=⟨h,fun v _ _=>by simp⟩
theorem Go (g:Good m rs) (R:Rooted m rs r par dep) {t:List Int} (nd:t.Nodup) (tr:∀ x∈t,(0<=x/\x<m)/\x≠r) {v:Int} (h0:0<=v) (h1:v<m) (hk:∀ k,0<=k->k<m->k≠r->par k=v->k∈t):(t.filter fun c=>decide (par c=v)).Perm (aG m rs (front r par v) v):=by
 refine iy (nd.filter _) hW fun x=>?_;rw [List.mem_filter,aO g R h0 h1,decide_eq_true_eq];exact ⟨fun h=>⟨(tr x h.1).1,(tr x h.1).2,h.2⟩,fun h=>⟨hk x h.1.1 h.1.2 h.2.1 h.2.2,h.2.2⟩⟩
theorem Sofar.full (g:Good m rs) (R:Rooted m rs r par dep) {t cs:List Int} (s:Sofar m rs r par dep held con t cs) (nd:t.Nodup) (tr:∀ x∈t,(0<=x/\x<m)/\x≠r) {v:Int} (h0:0<=v) (h1:v<m) (hk:∀ k,0<=k->k<m->k≠r->par k=v->k∈t):cs.getD v.toNat 0=gat m rs r par dep held con v:=by
 rw [s.val v h0 h1,bG g R h0 h1,Ek ((Go g R nd tr h0 h1 hk).map _)]
theorem Sofar.step (g:Good m rs) (R:Rooted m rs r par dep) {t cs:List Int} (s:Sofar m rs r par dep held con t cs) {v:Int} (h0:0<=v) (h1:v<m) (hr:v≠r) (e:cs.getD v.toNat 0=gat m rs r par dep held con v):Sofar m rs r par dep held con (v::t) (uB par con cs v) where
 len:=by unfold uB;rw [List.length_set];exact s.len
 val:=fun u u0 u1=>by
   have pu:=(R.up v h0 h1 hr).1;have sl:=s.len;have vu:=s.val u u0 u1;unfold uB;rw [e];by_cases c:par v=u
   . have hl:u.toNat<cs.length:=(by omega);rw [List.filter_cons_of_pos (by simpa using c),List.map_cons,List.sum_cons,c];rw [show (cs.set u.toNat (cs.getD u.toNat 0+con v (gat m rs r par dep held con v))).getD u.toNat 0=cs.getD u.toNat 0+con v (gat m rs r par dep held con v) by simp [List.getD,hl],vu];omega
   . rw [List.filter_cons_of_neg (by simpa using c),<- vu];have:(par v).toNat≠u.toNat:=(by omega);simp [List.getD,List.getElem?_set_ne this]
theorem Order.places {t:List Int} (O:Order m r par t):∀ x∈t,(0<=x/\x<m)/\x≠r:=fun x hx=>⟨O.rng x hx,O.ne hx⟩
theorem Order.turn (g:Good m rs) (R:Rooted m rs r par dep) {t cs:List Int} (O:Order m r par t) {i:Nat} {v:Int} (s:Sofar m rs r par dep held con (t.drop (t.length - i)) cs) (hv:t.reverse[i]?=some v) :
   ((0<=v/\v<m)/\v≠r)/\cs.getD v.toNat 0=gat m rs r par dep held con v/\Sofar m rs r par dep held con (t.drop (t.length - (i+1))) (uB par con cs v):=by
 have hi:i<t.length:=by
   have:=(List.getElem?_eq_some_iff.mp hv).1
   rwa [List.length_reverse] at this
 rw [List.getElem?_reverse hi] at hv;generalize hj:t.length - 1 - i=j at hv;have ej:t.length - i=j+1:=by omega
 have ej':t.length - (i+1)=j:=by omega
 rw [ej] at s;rw [ej'];have hjl:j<t.length:=by omega
 have vm:v∈t:=List.mem_of_getElem? hv;have vp:=O.places v vm;have ed:t.drop j=v::t.drop (j+1):=by
   rw [List.drop_eq_getElem_cons hjl];rw [List.getElem?_eq_getElem hjl] at hv;cases hv
   rfl
 have es:t=t.take j++v::t.drop (j+1):=by rw [<- ed,List.take_append_drop]
 have ndt:=(List.nodup_cons.mp O.nd).2;have nd2:=ndt;rw [es] at nd2;have av:v ∉ t.take j:=fun z=>(List.nodup_append.mp nd2).2.2 v z v List.mem_cons_self rfl;have e:=s.full g R (ndt.sublist (List.drop_sublist _ _)) (fun x hx=>O.places x (List.mem_of_mem_drop hx)) vp.1.1 vp.1.2 fun k k0 k1 kr pk=>by
   rcases O.all k k0 k1 with z|z
   . exact absurd z kr
   . rw [es] at z;rcases List.mem_append.mp z with z|z
     . have af:=O.af;rw [es] at af;rcases af.up k z with w|w
       . rw [pk] at w;exact absurd (List.mem_singleton.mp w) vp.2
       . rw [pk] at w;exact absurd w av
     . rcases List.mem_cons.mp z with z|z
       . subst z;exact absurd pk (R.ne k0 k1 kr)
       . exact z
 exact ⟨vp,e,by rw [ed];exact s.step g R vp.1.1 vp.1.2 vp.2 e⟩
def ug (m:Int) (rs:List Road) (r:Int) (par:Int->Int) (dep:Int->Nat) (held:Int->Int) (con:Int->Int->Int):List Int:=(below m.toNat).map (gat m rs r par dep held con)
theorem DQ {v:Int} (h0:0<=v) (h1:v<m):(ug m rs r par dep held con).getD v.toNat 0=gat m rs r par dep held con v:=by
 unfold ug;rw [List.getD,List.getElem?_map,fZ (by omega),Int.toNat_of_nonneg h0]
 rfl
theorem Order.done (g:Good m rs) (R:Rooted m rs r par dep) {t cs:List Int} (O:Order m r par t) (s:Sofar m rs r par dep held con t cs):cs=ug m rs r par dep held con:=by
 have sl:=s.len;refine List.ext_getElem? fun i=>?_;by_cases h:i<m.toNat
 . have hc:i<cs.length:=by omega
   have e:=s.full g R (List.nodup_cons.mp O.nd).2 O.places (v:=(i:Int)) (by omega) (by omega) fun k k0 k1 kr pk=>(O.all k k0 k1).resolve_left kr;unfold ug;rw [List.getElem?_map,fZ h];rw [Int.toNat_natCast,List.getD,List.getElem?_eq_getElem hc] at e;rw [List.getElem?_eq_getElem hc];exact congrArg some e
 . unfold ug;rw [List.getElem?_eq_none (by omega),List.getElem?_eq_none (by rw [List.length_map,bh];omega)]
theorem Rooted.adj (R:Rooted m rs r par dep) {a b:Int} (h:Adj rs a b):(b≠r/\par b=a)\/(a≠r/\par a=b):=by
 obtain ⟨x,hx,j⟩:=h;have:=R.road x hx;rcases j with ⟨e1,e2⟩|⟨e1,e2⟩
 . subst e1;subst e2;exact this.symm
 . subst e1;subst e2;exact this
end
end Pb
set_option Elab.async false
set_option linter.all false
set_option maxRecDepth 100000
namespace Pb
open L2
section
variable {m:Int} {rs:List Road} {r:Int} {par:Int->Int} {dep:Int->Nat} {held:Int->Int}
theorem mE (l:List Int) (i j:Nat) (x:Int) (h:i<l.length):(l.set i x).getD j 0=if i=j then x else l.getD j 0:=by
 by_cases c:i=j
 . subst c;rw [if_pos rfl];simp [List.getD,h]
 . rw [if_neg c];simp [List.getD,List.getElem?_set_ne c]
end
section
open PySem
end
end Pb
set_option Elab.async false
set_option linter.all false
set_option maxRecDepth 100000
namespace L2
open PySem PySem.Spec PyProof.Rows
end L2
set_option Elab.async false
set_option linter.all false
set_option maxRecDepth 100000
namespace L2
open PySem PySem.Spec PyProof.Rows
def SH (lo st:Int) (n:Nat):It:=⟨fun i _=>i<n,fun i H x H'=>H'=H/\x=.int (lo+i*st),fun i _=>n<=i⟩
def PF (ta:TA):TI:=fun σ H R=>ta σ H fun vs H1=>∃ i j c:Int,vs=[.int i,.int j,.int c]/\(0<=i/\i<=1000000/\0<=j/\j<=1000000/\0<c/\c<=1000000)/\R (SH i c (Builtin.Range.rangeSize i j c).toNat) H1
section
variable {X:Cx} {tg:Expr}
end
end L2
set_option Elab.async false
set_option linter.all false
set_option maxRecDepth 100000
namespace L2
open PySem PySem.Spec PyProof.Rows
def Nm (K:PySem.W.Frag) (c:Bool):R2:=fun x y H Q=>∃ p xs i v,x=.ref p/\y=.int i/\SqX K c H p xs/\atI xs i=some v/\Q v H
theorem R5 {X:Cx} (c:Bool):IxR X (Nm X.K c):=by
 cases c
 . exact jE
 . exact bg
theorem Ci {X:Cx} (c:Bool) (K:PySem.W.Frag) (h:X.K=K):IxR X (Nm K c):=by subst h;exact R5 c
theorem ixX {K:PySem.W.Frag} {c:Bool} {H:Hp} {p:Addr} {xs:List V} {i:Int} {v:V} {Q:VK} (h:SqX K c H p xs) (e:atI xs i=some v) (q:Q v H):Nm K c (.ref p) (.int i) H Q:=⟨p,xs,i,v,rfl,rfl,h,e,q⟩
theorem Qe {c:Prop} [Decidable c] {A B:Prop} {P:Int->Prop} (m1 m2:Int) (hB:P m2->B) (hA:P m1->A) (h:∀ m,(m=m1\/m=m2)->P m):if c then A else B:=by
 by_cases z:c
 . rw [if_pos z];exact hA (h _ (.inl rfl))
 . rw [if_neg z];exact hB (h _ (.inr rfl))
end L2
namespace Pb
open L2 PySem
theorem HH {α β:Type} {R:α->β->Prop}:∀ (n:Nat) {l₁:List α} {l₂:List β},Paired R l₁ l₂->Paired R (l₁.take n) (l₂.take n)
 | 0,_,_,_=>by rw [List.take_zero,List.take_zero];exact .nil
 | _+1,_,_,.nil=>.nil
 | n+1,_,_,.cons x xs=>.cons x (HH n xs)
theorem HW {α β:Type} {R:α->β->Prop}:∀ (n:Nat) {l₁:List α} {l₂:List β},Paired R l₁ l₂->Paired R (l₁.drop n) (l₂.drop n)
 | 0,_,_,h=>h
 | _+1,_,_,.nil=>.nil
 | n+1,_,_,.cons x xs=>HW n xs
theorem KQ {α β:Type} {R:α->β->Prop} {k₁:List α} {k₂:List β} (h:Paired R k₁ k₂):∀ {l₁:List α} {l₂:List β},Paired R l₁ l₂->Paired R (l₁++k₁) (l₂++k₂)
 | _,_,.nil=>h
 | _,_,.cons x xs=>.cons x (KQ h xs)
theorem Q8 {α β:Type} {R:α->β->Prop} {ps:List α} {rs:List β} {q:α} {r:β} (n:Nat) (h:Paired R ps rs) (e:R q r):Paired R (ps.take n++q::ps.drop n) (rs.take n++r::rs.drop n):=KQ (.cons e (HW n h)) (HH n h)
theorem EC (n:Nat):Labels n (below n):=⟨bh n,fg n,fun v h0 h1=>c9.mpr ⟨h0,h1⟩,fun v h=>c9.mp h⟩
theorem A1 {n:Nat} {v:Int} (h0:0<=v) (h1:v<n):(below n).getD v.toNat 0=v:=by
 rw [List.getD,fZ (by omega),Int.toNat_of_nonneg h0]
 rfl
theorem K3 {n:Nat} {rows:List Row} {row:Row} (R:Rows n rows) (k:row.k=(n:Int)+1) (ok:RowOk row):Rows (n+1) (rows++[row]):=by
 have rl:=R.len;refine ⟨by rw [List.length_append,rl];rfl,fun j r hj=>?_⟩;by_cases hjl:j<rows.length
 . rw [List.getElem?_append_left hjl] at hj;exact R.ok j r hj
 . have hj2:j=rows.length:=by
     have:=(List.getElem?_eq_some_iff.mp hj).1;rw [List.length_append] at this;simp at this;omega
   rw [hj2,List.getElem?_append_right (Nat.le_refl _),Nat.sub_self] at hj;cases hj;exact ⟨by rw [hj2,rl];exact k,ok⟩
section
variable {m:Int} {rs:List Road} {r:Int} {par:Int->Int} {dep:Int->Nat}
def hnd (rs:List Road) (par:Int->Int) (v x:Int):Int:=if 0<=x then x / (aH rs v (par v)).getD 1 else x*(aH rs (par v) v).getD 1
theorem r6 (g:Good m rs) (R:Rooted m rs r par dep) {v:Int} (h0:0<=v) (h1:v<m) (hr:v≠r):∃ k,aH rs (par v) v=some k/\2<=k/\k<=1000000:=by
 obtain ⟨x,hx,j⟩:=(R.up v h0 h1 hr).2.1;obtain ⟨i,hi⟩:=List.getElem?_of_mem hx;have ok:=g.ok x hx;have jj:lI x (par v) v:=by
   rcases j with ⟨a,b⟩|⟨a,b⟩
   . exact .inr ⟨b,a⟩
   . exact .inl ⟨b,a⟩
 rw [qM g hi jj];unfold dE;by_cases c:x.a=par v/\x.b=v
 . rw [if_pos c];exact ⟨_,rfl,ok.t0,ok.t1⟩
 . rw [if_neg c];have c2:x.a=v/\x.b=par v:=by
     rcases jj with w|w
     . exact absurd w c
     . exact ⟨w.2,w.1⟩
   rw [if_pos c2];exact ⟨_,rfl,ok.u0,ok.u1⟩
def fX (rs:List Road) (fv:V) (p:Int) (i:Nat):List Int:=((below i).filter fun q=>(aH rs p q).isSome).filter fun v=>decide (V.int v≠fv)
theorem oE (i:Nat):below (i+1)=below i++[(i:Int)]:=by
 unfold below;rw [List.range_succ,List.map_append]
 rfl
theorem Bj (p:Int) (fv:V):fX rs fv p m.toNat=aG m rs fv p:=by
 unfold fX aG;rw [Ls]
theorem JT {fv:V} {p:Int} {i:Nat} (h1:(aH rs p (i:Int)).isSome=true) (h2:V.int (i:Int)≠fv):fX rs fv p (i+1)=fX rs fv p i++[(i:Int)]:=by
 unfold fX;rw [oE,List.filter_append,List.filter_append]
 congr 1
 simp [h1,h2]
theorem Ba {fv:V} {p:Int} {i:Nat} (h:(aH rs p (i:Int)).isSome=true->¬ V.int (i:Int)≠fv):fX rs fv p (i+1)=fX rs fv p i:=by
 unfold fX;rw [oE,List.filter_append,List.filter_append];have:([(i:Int)].filter fun q=>(aH rs p q).isSome).filter (fun v=>decide (V.int v≠fv))=[]:=by
   by_cases c:(aH rs p (i:Int)).isSome=true
   . have:=h c;simp [c]
     simpa using this
   . simp [c]
 rw [this,List.append_nil]
structure Bfs (m:Int) (rs:List Road) (r:Int) (par:Int->Int) (t:List Int) (k:Nat):Prop where
 J:AInv m rs r par t ((r::t).drop k)
 af:After par [r] t
theorem Bfs.start:Bfs m rs r par [] 0:=⟨AInv.start,trivial⟩
theorem Bfs.step (g:Good m rs) (R:Rooted m rs r par dep) (r0:0<=r) (r1:r<m) {t:List Int} {k:Nat} (b:Bfs m rs r par t k) {p:Int} (hp:(r::t)[k]?=some p):Bfs m rs r par (t++aG m rs (front r par p) p) (k+1):=by
 have hk:=(List.getElem?_eq_some_iff.mp hp).1;have ed:(r::t).drop k=p::(r::t).drop (k+1):=by
   rw [List.drop_eq_getElem_cons hk];rw [List.getElem?_eq_getElem hk] at hp;cases hp
   rfl
 have J:=b.J.step g R r0 r1 (p:=p) (ws':=(r::t).drop (k+1)) (by rw [ed]);have pr:=b.J.at_ r0 r1 (p:=p) (by rw [ed];exact List.mem_cons_self);have pm:p∈r::t:=List.mem_of_getElem? hp;refine ⟨?_,?_⟩
 . rw [<- List.cons_append,List.drop_append_of_le_length (by omega)];exact J
 . have:∀ (ks l:List Int),(∀ u∈ks,u∈aG m rs (front r par p) p)->After par [r] l->p∈r::l->After par [r] (l++ks):=by
     intro ks
     induction ks with
     | nil=>intro l _ h _;rw [List.append_nil];exact h
     | cons u ks ih =>
       intro l hu h hpl;obtain ⟨w1,w2,w3⟩:=(aO g R pr.1 pr.2).mp (hu u List.mem_cons_self);have h2:After par [r] (l++[u]):=h.snoc (by
         rw [w3];rcases List.mem_cons.mp hpl with e|e
         . exact .inl (by rw [e];exact List.mem_cons_self)
         . exact .inr e)
       have:=ih (l++[u]) (fun x hx=>hu x (List.mem_cons_of_mem _ hx)) h2 (by
         rcases List.mem_cons.mp hpl with e|e
         . rw [e];exact List.mem_cons_self
         . exact List.mem_cons_of_mem _ (List.mem_append_left _ e))
       rwa [List.append_assoc] at this
   exact this _ t (fun u hu=>hu) b.af pm
theorem Bfs.done (R:Rooted m rs r par dep) {t:List Int} {k:Nat} (hk:(r::t).length<=k) (b:Bfs m rs r par t k):Order m r par t:=by
 have J:=b.J;rw [List.drop_eq_nil_of_le hk] at J;refine ⟨List.nodup_cons.mpr ⟨J.nr,J.nd⟩,J.rng,fun v h0 h1=>?_,b.af⟩;by_cases z:v=r
 . exact .inl z
 . exact .inr (J.all R v h0 h1 z)
end
def bA (m:Int) (xs ys:List Int):List Int:=(List.range m.toNat).map fun i=>xs.getD i 0 - ys.getD i 0
theorem Kt {m:Int} (h:0<=m) (xs ys:List Int):((bA m xs ys).length:Int)=m:=by unfold bA;rw [List.length_map,List.length_range];omega
end Pb
set_option Elab.async false
set_option linter.all false
set_option maxRecDepth 100000
namespace L2
open PySem PySem.Spec PyProof.Rows
theorem Gj {P:Program} {w:World} {A:Around} {l:Addr} (c:Bool) {it:Addr} (hh:A.handled=none) (ne:l≠it) (its:Array Value):Draws P w A it [it,l] its.size (fun i v=>its[i]?=some v) (fun i h=>zAt l c it i h/\IQ l c h its) where
 live:=fun i h st=>let ⟨o,e,_⟩:=(eZ l c P w).obj _ _ _ st.1;⟨o,e⟩
 frame:=fun i h h' st k=>⟨(eZ l c P w).atK _ _ _ _ st.1 fun o e=>k it (by simp) o e,(eZ l c P w).srcK _ _ _ st.2 fun o e=>k l (by simp) o e⟩
 item:=fun i s Q E hi st hq=>(eZ l c P w).item A s it i its its[i] Q E st.1 st.2 (by simp [hi]) fun h' at' sb=>hq its[i] h' s.toks (by simp [hi]) ⟨at',(eZ l c P w).srcK _ _ _ st.2 fun o e=>sb.extBut _ _ ne e⟩ sb
 done:=fun s Q E st hq=>(eZ l c P w).fin A s it its.size its Q E hh st.1 st.2 (by simp) fun h' e eb he=>hq h' e eb he
section
variable {P:Program} {w:World} {A:Around} {E:Value->Shared->Prop} {s:Shared} {l:Addr} {ob:Obj} {src:Heap->Array Value->Prop} {at':Addr->Nat->Heap->Prop}
abbrev DG (n:Nat):Obj:={ cls:=.type "enumerate",data:=.fields #[.none,.bool false,.ref n,rawInt 0,.none,.none] }
theorem B3 (S:∀ P w,SubF P w l ob src at') (xs:Array Value) :
   Meets (Builtin.«enumerate.__new__» ⟨[.type "enumerate",.ref l],[]⟩) (fun _ R s=>src s.heap xs/\R (.ok (.ret (.ref (s.heap.push ob).objs.size))) { s with heap:=(s.heap.push ob).push (DG s.heap.objs.size) }) :=
 .of_wp fun prog w A R s hyp=>by
   obtain ⟨hp,g,d,tk,os⟩:=s;obtain ⟨q1,r⟩:=hyp;have zsub:=sub_enumerate;have B1:src (Shared.heap ⟨hp,g,d,tk,os⟩) xs:=q1
   wp_walk using ((S prog w).start _ _ _ _ _ B1)
   refine wpAny_stack_any fun st=>?_;dsimp only;refine wpAny_pure ?_;have go:∀ b:Bool,b=true\/b=false:=fun b=>by cases b <;> simp
   split
   . rename_i c _ _ _ _ _
     rcases go (c == Value.type "enumerate") with z|z
     . rw [z]
       wp_walk using ((S prog w).start _ _ _ _ _ B1)
       exact ⟨_,rfl,r⟩
     . rw [z]
       wp_walk using ((S prog w).start _ _ _ _ _ B1)
       exact ⟨_,rfl,r⟩
   . wp_walk using ((S prog w).start _ _ _ _ _ B1)
     exact ⟨_,rfl,r⟩
theorem KU (S:∀ P w,SubF P w l ob src at') {xs:Array Value} {Q:Value->Shared->Prop} (q1:src s.heap xs) (f1:ob.isFreed=false)
   (h:∀ h',IsEnum h' (s.heap.objs.size+1) s.heap.objs.size 0 .none->at' s.heap.objs.size 0 h'->(∀ c o,s.heap.get? c=some o->h'.get? c=some o)->Q (.ref (s.heap.objs.size+1)) { s with heap:=h' }) :
   wpAny (model P w) A (call (.type "enumerate") [.ref l]) Q E s:=by
 refine callType_new F.called_enumerate (by decide) (F.typeCall_enumerate_1 _) (F.newCall_enumerate_1 _) (fun obj=>F.args_object_init_2 obj _) F.entry_enumerate_new (B3 S xs) ⟨q1,?_⟩;have n0:(s.heap.push ob).objs.size=s.heap.objs.size+1:=Heap.size_push ..;have c2:((s.heap.push ob).push (DG s.heap.objs.size)).get? (s.heap.push ob).objs.size=some (DG s.heap.objs.size):=Heap.get?_push_size _ rfl;have c1:((s.heap.push ob).push (DG s.heap.objs.size)).get? s.heap.objs.size=some ob:=Heap.get?_push_of_some _ (Heap.get?_push_size _ f1);show _/\_;rw [n0] at c2;rw [n0];exact ⟨⟨_,c2,rfl⟩,h _ c2 ((S P w).first _ _ c1) fun c o e=>Heap.get?_push_of_some _ (Heap.get?_push_of_some _ e)⟩
end
def Ite (K:PySem.W.Frag) (c:Bool) (a:Addr):It :=
 ⟨fun i H=>∃ xs x,SqX K c H a xs/\xs[i]?=some x,
  fun i H v H'=>∃ p x,H p=none/\v=.ref p/\H'=upd H p (.tup [.int i,x])/\∀ xs,SqX K c H a xs->xs[i]?=some x,
  fun i H=>∃ xs,SqX K c H a xs/\xs.length=i⟩
theorem Lf {P:Program} {w:World} {K:PySem.W.Frag} {elts:List Expr} {x1} {tpos:Pos} (c:Bool) (a e it:Addr) (ne:e≠it) (ae:a≠e) (ai:a≠it) :
   Turn P w K (.Tuple elts x1 tpos) (Ite K c a) [e,it] e (fun i h=>(∃ old,IsEnum h e it (i:Nat) old)/\zAt a c it i h) where
 mem:=by simp
 obj:=fun i h t b hb=>by
   obtain ⟨⟨old,t1⟩,t2⟩:=t;simp only [List.mem_cons,List.mem_nil_iff,or_false] at hb;rcases hb with rfl|rfl
   . exact ⟨_,t1,fun v z=>by cases z⟩
   . exact (eZ a c P w).obj _ _ _ t2
 keep:=fun i h h' t k=>by
   obtain ⟨⟨old,t1⟩,t2⟩:=t;exact ⟨⟨old,k e (by simp) _ t1⟩,(eZ a c P w).atK _ _ _ _ t2 fun o e=>k it (by simp) o e⟩
 item:=fun X e1 e2 e3 hc i pins s σ H E I f t g=>by
   subst e1 e2 e3;obtain ⟨⟨old,t1⟩,t2⟩:=t;obtain ⟨xs,x,s1,hx⟩:=g;obtain ⟨us,r1,q1⟩:=I.sqX s1;obtain ⟨xu,hxu,rx⟩:=r1.get hx;have hh:X.A.in1.handled=none:=I.ok.hd hc;have fz:∀ q∈[e,it],kF X pins H q:=f;have W:=WalksT.enumerateD (A:=X.A) (Gj (P:=X.prog) (w:=X.w) (A:=X.A.in1) (l:=a) c (it:=it) hh ai us.toArray) e ne (by simp;exact ⟨ne,ae.symm⟩) (by simp);have hil:i<us.toArray.size:=by
     have:=(List.getElem?_eq_some_iff.mp hxu).1
     simpa using this
   refine W.item i s _ _ hil ⟨⟨old,t1⟩,t2,q1⟩ fun T vals h' tk pt le tup mid keep=>?_;refine ⟨_,rfl,W.go elts x1 tpos i T { s with heap:=h',toks:=tk } _ _ mid fun h2 st2 keep2=>?_⟩;obtain ⟨tt,xv,px,ev⟩:=pt;have exv:xv=xu:=by
     have h1:us[i]?=some xv:=(by simpa using px);rw [hxu] at h1;cases h1
     rfl
   subst exv;have Tw:T ∉ [e,it]:=W.apart i T h' mid;have kp:∀ q o,q ∉ [e,it]->s.heap.get? q=some o->h2.get? q=some o:=fun q o hq eo=>keep2 q o hq (keep q o hq eo);obtain ⟨ot,ht,hct,nt,hdt⟩:=tup;have new:h2.get? T=some ot:=keep2 T ot Tw ht;have Hn:∀ q u,H q=some u->q ∉ [e,it]:=fun q u e hq=>by rw [(fz q hq).1] at e;cases e
   have nH:H T=none:=I.hok.fresh le;have Tb:∀ q o,s.heap.get? q=some o->q≠T:=fun q o eo=>Nat.ne_of_lt (Nat.lt_of_lt_of_le (Heap.lt_size eo) le);have I2:Inv X pins σ H { s with heap:=h2,toks:=tk }:=by
     refine I.step (g':=s.gens) (d':=s.drawn) (t':=tk) (ch:=[e,it]) (fun q hq=>⟨(fz q hq).2.2.2.1,(fz q hq).2.1,(fz q hq).2.2.2.2.1,(fz q hq).2.2.2.2.2⟩) (fun q o _ _ hq e _=>kp q o hq e) (fun q o _ _ hq e _=>⟨o.slots,kp q o hq e⟩) (fun _ _ _ _ n=>n)
       (fun q o hq e=>⟨o,kp q o hq e⟩) (fun _ _ e=>e) (fun _ _ _ e=>e) (fun q ps e=>⟨#[],by rw [e];simp⟩) (fun m hm=>?_) (fun q u e=>?_) I.bare
     . obtain ⟨o,es,ep,ho,r⟩:=hm;exact ⟨o,es,ep,kp _ o (fun hq=>(fz _ hq).2.1 rfl) ho,r⟩
     . refine (I.hok q u e).stay (fun q' v hq' e'=>kp q' v ?_ e') (fun _ e'=>e') fun _ _ e'=>e';rcases hq' with rfl|hq'
       . exact Hn _ u e
       . exact Hn _ _ hq'
   have I3:Inv X pins σ (upd H T (.tup [.int i,x])) { s with heap:=h2,toks:=tk }:=by
     refine ⟨I2.ok,I2.os,I2.bare,?_,I2.loc,I2.cell,?_,fun n c e=>?_,fun p hp=>?_,fun q u e=>?_,I2.len⟩
     . refine ⟨I2.base.keep,I2.base.slot,fun q o e n hx=>?_,I2.base.there,fun q xs e=>?_,fun q o u e=>?_,fun q ps e=>?_⟩
       . have lt:q<X.s₀.heap.objs.size:=Heap.lt_size e;rw [aq (Nat.ne_of_lt (Nat.lt_of_lt_of_le lt (Nat.le_trans I.sz le)))];exact I2.base.free q o e n hx
       . have e':=I2.base.tups q xs e;rw [aq (fun z=>by rw [z,nH] at e';cases e')];exact e'
       . have e':=I2.base.frzs q o u e;rw [aq (fun z=>by rw [z,nH] at e';cases e')];exact e'
       . obtain ⟨more,e'⟩:=I2.base.tbls q ps e;exact ⟨more,by rw [aq (fun z=>by rw [z,nH] at e';cases e')];exact e'⟩
     . rw [aq (Nat.ne_of_lt (Nat.lt_of_lt_of_le I.lt le))];exact I2.free
     . obtain ⟨vv,o,ho,_⟩:=I.cell n c e;rw [aq (Tb _ _ ho)];exact I2.freeC n c e
     . obtain ⟨k1,k2,k3⟩:=I.pin p hp;rw [aq (Tb _ _ k1)];exact I2.pin p hp
     . by_cases hq:q=T
       . subst hq;rw [ah] at e;cases e;refine ⟨by show 2<=sizeLine;decide,[.int (i:Nat) tt,xv],.cons ⟨tt,rfl⟩ (.cons rx .nil),ot,new,hct,nt,?_⟩;rw [hdt,ev]
       . rw [aq hq] at e;refine (I2.hok q u e).stay (fun _ _ _ e'=>e') (fun q' e'=>?_) fun q' xs e'=>?_
         . rw [aq (fun z=>by rw [z,nH] at e';cases e')];exact e'
         . rw [aq (fun z=>by rw [z,nH] at e';cases e')];exact e'
   refine ⟨.ref T,_,I3,rfl,⟨T,x,nH,rfl,rfl,fun xs' q=>?_⟩,⟨st2.1,st2.2.1⟩,fun q hq=>?_⟩
   . rw [<- I.sqX_inj s1 q];exact hx
   . have hlt:q≠T:=by
       simp only [List.mem_cons,List.mem_nil_iff,or_false] at hq;rcases hq with rfl|rfl
       . exact Tb _ _ t1
       . exact let ⟨o,e,_⟩:=(eZ a c X.prog X.w).obj _ _ _ t2;Tb _ _ e
     rw [aq hlt];exact (fz q hq).1
 done:=fun X e1 e2 e3 hc i pins s σ H E I f t g=>by
   subst e1 e2 e3;obtain ⟨⟨old,t1⟩,t2⟩:=t;obtain ⟨xs,s1,hend⟩:=g;obtain ⟨us,r1,q1⟩:=I.sqX s1;have hh:X.A.in1.handled=none:=I.ok.hd hc;have fz:∀ q∈[e,it],kF X pins H q:=f;have W:=WalksT.enumerateD (A:=X.A) (Gj (P:=X.prog) (w:=X.w) (A:=X.A.in1) (l:=a) c (it:=it) hh ai us.toArray) e ne (by simp;exact ⟨ne,ae.symm⟩) (by simp);have ei:i=us.toArray.size:=by
     have:=r1.length;simp;omega
   subst ei;refine W.done s _ _ ⟨⟨old,t1⟩,t2,q1⟩ fun h' tk keep=>⟨rfl,?_⟩;have kp:∀ q o,q ∉ [e,it]->s.heap.get? q=some o->h'.get? q=some o:=fun q o hq e=>keep q o hq e;have Hn:∀ q u,H q=some u->q ∉ [e,it]:=fun q u e hq=>by rw [(fz q hq).1] at e;cases e
   refine I.step (g':=s.gens) (d':=s.drawn) (t':=tk) (ch:=[e,it]) (fun q hq=>⟨(fz q hq).2.2.2.1,(fz q hq).2.1,(fz q hq).2.2.2.2.1,(fz q hq).2.2.2.2.2⟩) (fun q o _ _ hq e _=>kp q o hq e) (fun q o _ _ hq e _=>⟨o.slots,kp q o hq e⟩) (fun _ _ _ _ n=>n)
     (fun q o hq e=>⟨o,kp q o hq e⟩) (fun _ _ e=>e) (fun _ _ _ e=>e) (fun q ps e=>⟨#[],by rw [e];simp⟩) (fun m hm=>?_) (fun q u e=>?_) I.bare
   . obtain ⟨o,es,ep,ho,r⟩:=hm;exact ⟨o,es,ep,kp _ o (fun hq=>(fz _ hq).2.1 rfl) ho,r⟩
   . refine (I.hok q u e).stay (fun q' v hq' e'=>kp q' v ?_ e') (fun _ e'=>e') fun _ _ e'=>e';rcases hq' with rfl|hq'
     . exact Hn _ u e
     . exact Hn _ _ hq'
 self:=fun A i s Q E t q=>by
   obtain ⟨⟨old,t1⟩,t2⟩:=t;exact wpAny_pyIter_enum t1 q
def J6 (K:PySem.W.Frag) (c:Bool) (tl:TE):TI:=fun σ H R=>tl σ H fun x H1=>∃ a,x=.ref a/\(∃ xs,SqX K c H1 a xs)/\R (Ite K c a) H1
section
variable {X:Cx} {e:Expr} {te:TE} {p2 pos:Pos}
theorem Qm {elts:List Expr} {x1} {tpos:Pos} (c:Bool) (hg:Gl X "enumerate") (hm:X.mg "enumerate"=none) (he:PE X e te) (h2:starEach [e] X.env=[(false,eval e X.env)]:=by rfl):PI X (.Tuple elts x1 tpos) (.Call (.Name "enumerate" p2) [e] [] pos) (J6 X.K c te):=by
 intro pins s σ H R I h;refine Call_ (oZ I hg hm boot_enumerate (PyProof.Rows.callWith_type1 ?_ h2 rfl));rw [h2];show wpAny _ _ (spliced ((false,eval e X.env)::backTo pos [])) _ _ s;refine Calls.spliced_cons (bw (he pins s σ H _ I h) fun u s1 x H1 I1 r1 q1=>Calls.spliced_nil ?_);obtain ⟨a,ex,⟨xs,sa⟩,q⟩:=q1;subst ex;cases r1;obtain ⟨us,r1,q1⟩:=I1.sqX sa;obtain ⟨oa,hoa⟩:=oC a c _ _ q1;have la:=Heap.lt_size hoa;refine KU (eZ a c) q1 (wS a c) fun h' w1 w2 w3=>?_;refine wpAny_pyIter_enum w1 ?_;refine ⟨_,[s1.heap.objs.size+1,s1.heap.objs.size],_,_,H1,rfl,I1.kept (t':=s1.toks) w3,Lf c a _ _ (Nat.succ_ne_self _) (Nat.ne_of_lt (Nat.lt_succ_of_lt la)) (Nat.ne_of_lt la),⟨⟨_,w1⟩,w2⟩,fun b hb=>?_,q⟩;have hle:s1.heap.objs.size<=b:=by
   simp only [List.mem_cons,List.mem_nil_iff,or_false] at hb;rcases hb with rfl|rfl
   . exact Nat.le_succ _
   . exact Nat.le_refl _
 exact I1.fpOk hle (I1.hok.fresh hle)
end
end L2
set_option Elab.async false
set_option linter.all false
set_option maxRecDepth 100000
namespace Pb
open L2 PySem
abbrev Stp:=Int × Int × Int
abbrev TupsAt (H:Hp):List Addr->List (List Int)->Prop:=Paired fun q xs=>H q=some (.tup (xs.map V.int))
theorem TupsAt.same {H H':Hp} {qs:List Addr} {ss:List (List Int)} (e:Same H H') (h:TupsAt H qs ss):TupsAt H' qs ss:=Paired.imp' (fun q v x=>e q _ x) h
def dG (rs:List Road) (a b:Int):Int:=(aH rs a b).getD 1
def b9 (rs:List Road) (xs:List Int) (s:Stp):List Int :=
 (xs.set s.1.toNat (xs.getD s.1.toNat 0 - s.2.2*dG rs s.1 s.2.1)).set s.2.1.toNat ((xs.set s.1.toNat (xs.getD s.1.toNat 0 - s.2.2*dG rs s.1 s.2.1)).getD s.2.1.toNat 0+s.2.2)
theorem CL (rs:List Road) (xs:List Int) (s:Stp):(b9 rs xs s).length=xs.length:=by unfold b9;rw [List.length_set,List.length_set]
def lx (m:Int) (rs:List Road) (s:Stp):Bool:=decide (0<=s.1) && decide (s.1<m) && decide (s.2.1∈dQ m rs s.1) && decide (1<=s.2.2)
def oB (m:Int) (rs:List Road) (xs:List Int) (s:Stp):Bool:=lx m rs s && decide (s.2.2*dG rs s.1 s.2.1<=xs.getD s.1.toNat 0)
theorem pP {m:Int} {rs:List Road} {s:Stp} (h:lx m rs s=true):(0<=s.1/\s.1<m)/\s.2.1∈dQ m rs s.1/\1<=s.2.2:=by
 unfold lx at h;rw [Bool.and_eq_true,Bool.and_eq_true,Bool.and_eq_true] at h;exact ⟨⟨of_decide_eq_true h.1.1.1,of_decide_eq_true h.1.1.2⟩,of_decide_eq_true h.1.2,of_decide_eq_true h.2⟩
theorem ko {m:Int} {rs:List Road} (g:Good m rs) {a b:Int} (h:Adj rs a b):∃ k,aH rs a b=some k/\2<=k/\k<=1000000:=by
 obtain ⟨x,hx,j⟩:=h;obtain ⟨i,hi⟩:=List.getElem?_of_mem hx;have ok:=g.ok x hx;have jj:lI x a b:=j;rw [qM g hi jj];unfold dE;by_cases c:x.a=a/\x.b=b
 . rw [if_pos c];exact ⟨_,rfl,ok.t0,ok.t1⟩
 . rw [if_neg c];have c2:x.a=b/\x.b=a:=by
     rcases jj with w|w
     . exact absurd w c
     . exact ⟨w.2,w.1⟩
   rw [if_pos c2];exact ⟨_,rfl,ok.u0,ok.u1⟩
theorem KP {m:Int} {rs:List Road} (g:Good m rs) {s:Stp} (h:lx m rs s=true):∃ k,aH rs s.1 s.2.1=some k/\dG rs s.1 s.2.1=k/\(2<=k/\k<=1000000)/\(0<=s.2.1/\s.2.1<m):=by
 obtain ⟨h1,h2,h3⟩:=pP h;have ad:=(gh g).mp h2;obtain ⟨k,e,r⟩:=ko g ad;exact ⟨k,e,by unfold dG;rw [e];rfl,r,(g.adj ad).2.1⟩
def Bo (xs:List Int):PyData:=.tuple (xs.map PyData.int)
theorem Nw {K:PySem.W.Frag} {H:Hp} {q:Addr} {xs:List Int} (h:H q=some (.tup (xs.map V.int))):Deep K H (.ref q) (Bo xs):=.tup (SqT.of h) (wM xs)
theorem CF {K:PySem.W.Frag} {H:Hp}:∀ {qs:List Addr} {xss:List (List Int)},TupsAt H qs xss->DeepAll K H (qs.map V.ref) (xss.map Bo)
 | _,_,.nil=>.nil
 | _,_,.cons x xs=>.cons (Nw x) (CF xs)
theorem KI (xs:List Int):(Bo xs).depth<=2:=by
 unfold Bo;have:=vb xs;simp only [PyData.depth];omega
theorem Am:∀ xss:List (List Int),PyData.depthAll (xss.map Bo)<=2
 | []=>by simp [PyData.depthAll]
 | r::rs=>by
   rw [List.map_cons];simp only [PyData.depthAll];have:=Am rs;have h:=KI r;omega
end Pb
namespace L2
open PySem PySem.Spec PyProof.Rows
def PN (i j k:Nat) (ta:TA):TS:=fun D σ H=>ta σ H fun vs H1=>∃ v w z,vs=[v,w,z]/\D.nx (((σ.set i (some v)).set j (some w)).set k (some z)) H1
end L2
set_option Elab.async false
set_option linter.all false
set_option maxRecDepth 100000
namespace Pb
open L2
section
variable {m:Int} {rs:List Road} {r:Int} {par:Int->Int} {dep:Int->Nat} {held held':Int->Int} {con:Int->Int->Int}
theorem Hr {f h:Int->Int}:∀ {l:List Int},(∀ c∈l,f c<=h c)->(l.map f).sum<=(l.map h).sum
 | [],_=>Int.le_refl _
 | c::l,hl=>by
   rw [List.map_cons,List.map_cons,List.sum_cons,List.sum_cons];have h1:=hl c List.mem_cons_self;have h2:=Hr (l:=l) fun x hx=>hl x (List.mem_cons_of_mem _ hx);omega
theorem sC {f h:Int->Int} {l:List Int} (hl:∀ c∈l,f c=h c):(l.map f).sum=(l.map h).sum:=by rw [List.map_congr_left hl]
theorem HN {f h:Int->Int} {c0:Int}:∀ {l:List Int},l.Nodup->c0∈l->(∀ c∈l,c≠c0->f c=h c)->(l.map f).sum=(l.map h).sum+(f c0 - h c0)
 | [],_,hm,_=>by cases hm
 | c::l,nd,hm,hl=>by
   obtain ⟨n1,n2⟩:=List.nodup_cons.mp nd;rw [List.map_cons,List.map_cons,List.sum_cons,List.sum_cons];by_cases z:c=c0
   . subst z;rw [sC (f:=f) (h:=h) (l:=l) fun x hx=>hl x (List.mem_cons_of_mem _ hx) fun w=>n1 (w ▸ hx)];omega
   . have hm':c0∈l:=by
       rcases List.mem_cons.mp hm with w|w
       . exact absurd w.symm z
       . exact w
     rw [hl c List.mem_cons_self z,HN n2 hm' fun x hx=>hl x (List.mem_cons_of_mem _ hx)];omega
structure Chg (m:Int) (r:Int) (par:Int->Int) (held held':Int->Int) (c0 dc dp:Int):Prop where
 rng:0<=c0/\c0<m
 nr:c0≠r
 own:held' c0=held c0+dc
 up:held' (par c0)=held (par c0)+dp
 oth:∀ v,0<=v->v<m->v≠c0->v≠par c0->held' v=held v
theorem Chg.deep (g:Good m rs) (R:Rooted m rs r par dep) {c0 dc dp:Int} (C:Chg m r par held held' c0 dc dp):∀ (n:Nat) (v:Int),m.toNat - dep v=n->0<=v->v<m->dep c0<dep v->gat m rs r par dep held' con v=gat m rs r par dep held con v:=by
 intro n
 induction n using Nat.strongRecOn with
 | _ n ih =>
   intro v hn v0 v1 hd;have dc0:=R.pos C.rng.1 C.rng.2 C.nr;rw [bG g R v0 v1,bG g R v0 v1,C.oth v v0 v1 (fun z=>by rw [z] at hd;omega) (fun z=>by rw [z] at hd;omega)]
   congr 1
   refine sC fun c hc=>?_;obtain ⟨w1,w2,w3⟩:=(aO g R v0 v1).mp hc;have dk:=R.pos w1.1 w1.2 w2;have dl:=dM R w1.1 w1.2;rw [w3] at dk;rw [ih (m.toNat - dep c) (by omega) c rfl w1.1 w1.2 (by omega)]
theorem Chg.at (g:Good m rs) (R:Rooted m rs r par dep) {c0 dc dp:Int} (C:Chg m r par held held' c0 dc dp):gat m rs r par dep held' con c0=gat m rs r par dep held con c0+dc:=by
 rw [bG g R C.rng.1 C.rng.2,bG g R C.rng.1 C.rng.2,C.own];have:((aG m rs (front r par c0) c0).map fun c=>con c (gat m rs r par dep held' con c)).sum=((aG m rs (front r par c0) c0).map fun c=>con c (gat m rs r par dep held con c)).sum:=by
   refine sC fun c hc=>?_;obtain ⟨w1,w2,w3⟩:=(aO g R C.rng.1 C.rng.2).mp hc;have dk:=R.pos w1.1 w1.2 w2;rw [w3] at dk;rw [C.deep g R _ c rfl w1.1 w1.2 (by omega)]
 rw [this];omega
theorem Chg.side (g:Good m rs) (R:Rooted m rs r par dep) {c0 dc dp:Int} (C:Chg m r par held held' c0 dc dp) {v:Int} (v0:0<=v) (v1:v<m) (hd:dep v=dep c0) (hv:v≠c0):gat m rs r par dep held' con v=gat m rs r par dep held con v:=by
 have dc0:=R.pos C.rng.1 C.rng.2 C.nr;rw [bG g R v0 v1,bG g R v0 v1,C.oth v v0 v1 hv (fun z=>by rw [z] at hd;omega)]
 congr 1
 refine sC fun c hc=>?_;obtain ⟨w1,w2,w3⟩:=(aO g R v0 v1).mp hc;have dk:=R.pos w1.1 w1.2 w2;rw [w3] at dk;rw [C.deep g R _ c rfl w1.1 w1.2 (by omega)]
theorem Chg.ahead (g:Good m rs) (R:Rooted m rs r par dep) {c0 dc dp:Int} (C:Chg m r par held held' c0 dc dp):gat m rs r par dep held' con (par c0)=gat m rs r par dep held con (par c0)+(dp+con c0 (gat m rs r par dep held con c0+dc) - con c0 (gat m rs r par dep held con c0)):=by
 have u:=R.up c0 C.rng.1 C.rng.2 C.nr;rw [bG g R u.1.1 u.1.2,bG (held:=held) g R u.1.1 u.1.2,C.up];have:=HN (c0:=c0) (f:=fun c=>con c (gat m rs r par dep held' con c)) (h:=fun c=>con c (gat m rs r par dep held con c)) (l:=aG m rs (front r par (par c0)) (par c0)) hW ((aO g R u.1.1 u.1.2).mpr ⟨C.rng,C.nr,rfl⟩) fun c hc hne=>by
   obtain ⟨w1,w2,w3⟩:=(aO g R u.1.1 u.1.2).mp hc;have dk:=R.pos w1.1 w1.2 w2;have dc0:=R.pos C.rng.1 C.rng.2 C.nr;rw [w3] at dk;show con c _=con c _;rw [C.side g R w1.1 w1.2 (by omega) hne]
 rw [this,C.at g R];omega
theorem Chg.le (g:Good m rs) (R:Rooted m rs r par dep) (hc:∀ v x y,x<=y->con v x<=con v y) {c0 dc dp:Int} (C:Chg m r par held held' c0 dc dp) (key:dp+con c0 (gat m rs r par dep held con c0+dc)<=con c0 (gat m rs r par dep held con c0)):∀ (n:Nat) (v:Int),dep c0 - dep v=n->0<=v->v<m->v≠c0->gat m rs r par dep held' con v<=gat m rs r par dep held con v:=by
 intro n
 induction n with
 | zero =>
   intro v hn v0 v1 hv;by_cases z:dep v=dep c0
   . exact Int.le_of_eq (C.side g R v0 v1 z hv)
   . exact Int.le_of_eq (C.deep g R _ v rfl v0 v1 (by omega))
 | succ n ih =>
   intro v hn v0 v1 hv;by_cases z:v=par c0
   . rw [z,C.ahead g R];omega
   . rw [bG g R v0 v1,bG (held:=held) g R v0 v1,C.oth v v0 v1 hv z];have:=Hr (f:=fun c=>con c (gat m rs r par dep held' con c)) (h:=fun c=>con c (gat m rs r par dep held con c)) (l:=aG m rs (front r par v) v) fun c hk=>by
       obtain ⟨w1,w2,w3⟩:=(aO g R v0 v1).mp hk;have dk:=R.pos w1.1 w1.2 w2;rw [w3] at dk;exact hc c _ _ (ih c (by omega) w1.1 w1.2 fun w=>z (by rw [<- w,w3]))
     omega
theorem Chg.eq (g:Good m rs) (R:Rooted m rs r par dep) {c0 dc dp:Int} (C:Chg m r par held held' c0 dc dp) (key:dp+con c0 (gat m rs r par dep held con c0+dc)=con c0 (gat m rs r par dep held con c0)):∀ (n:Nat) (v:Int),dep c0 - dep v=n->0<=v->v<m->v≠c0->gat m rs r par dep held' con v=gat m rs r par dep held con v:=by
 intro n
 induction n with
 | zero =>
   intro v hn v0 v1 hv;by_cases z:dep v=dep c0
   . exact C.side g R v0 v1 z hv
   . exact C.deep g R _ v rfl v0 v1 (by omega)
 | succ n ih =>
   intro v hn v0 v1 hv;by_cases z:v=par c0
   . rw [z,C.ahead g R];omega
   . rw [bG g R v0 v1,bG (held:=held) g R v0 v1,C.oth v v0 v1 hv z]
     congr 1
     refine sC fun c hk=>?_;obtain ⟨w1,w2,w3⟩:=(aO g R v0 v1).mp hk;have dk:=R.pos w1.1 w1.2 w2;rw [w3] at dk;rw [ih c (by omega) w1.1 w1.2 fun w=>z (by rw [<- w,w3])]
theorem y6 (g:Good m rs) (R:Rooted m rs r par dep) {xs:List Int} (xl:(xs.length:Int)=m) {s:Stp} (is:lx m rs s=true) :
   (s.1≠r/\par s.1=s.2.1/\Chg m r par (fun v=>xs.getD v.toNat 0) (fun v=>(b9 rs xs s).getD v.toNat 0) s.1 (-(s.2.2*dG rs s.1 s.2.1)) s.2.2) \/
   (s.2.1≠r/\par s.2.1=s.1/\Chg m r par (fun v=>xs.getD v.toNat 0) (fun v=>(b9 rs xs s).getD v.toNat 0) s.2.1 s.2.2 (-(s.2.2*dG rs s.1 s.2.1))):=by
 obtain ⟨ar,nb,n1⟩:=pP is;have ad:=(gh g).mp nb;have br:=(g.adj ad).2.1;have ab:=(g.adj ad).2.2;have ga:(b9 rs xs s).getD s.1.toNat 0=xs.getD s.1.toNat 0 + -(s.2.2*dG rs s.1 s.2.1):=by
   unfold b9;rw [mE _ _ _ _ (by rw [List.length_set];omega),if_neg (by omega),mE _ _ _ _ (by omega),if_pos rfl];omega
 have gb:(b9 rs xs s).getD s.2.1.toNat 0=xs.getD s.2.1.toNat 0+s.2.2:=by
   unfold b9;rw [mE _ _ _ _ (by rw [List.length_set];omega),if_pos rfl,mE _ _ _ _ (by omega),if_neg (by omega)]
 have go:∀ v:Int,0<=v->v≠s.1->v≠s.2.1->(b9 rs xs s).getD v.toNat 0=xs.getD v.toNat 0:=fun v v0 h1 h2=>by
   unfold b9;rw [mE _ _ _ _ (by rw [List.length_set];omega),if_neg (by omega),mE _ _ _ _ (by omega),if_neg (by omega)]
 rcases R.adj ad with ⟨h1,h2⟩|⟨h1,h2⟩
 . exact .inr ⟨h1,h2,br,h1,gb,by rw [h2];exact ga,fun v v0 _ w1 w2=>go v v0 (by rw [h2] at w2;exact w2) w1⟩
 . exact .inl ⟨h1,h2,ar,h1,ga,by rw [h2];exact gb,fun v v0 _ w1 w2=>go v v0 w1 (by rw [h2] at w2;exact w2)⟩
end
end Pb
set_option Elab.async false
set_option linter.all false
set_option maxRecDepth 100000
namespace L2
open PySem PySem.Spec PyProof.Rows
end L2
namespace Pb
open L2 PySem
theorem zv {m:Int} {rs:List Road} {xs:List Int} {s:Stp} (h:oB m rs xs s=true):lx m rs s=true/\s.2.2*dG rs s.1 s.2.1<=xs.getD s.1.toNat 0:=by
 unfold oB at h;rw [Bool.and_eq_true] at h;exact ⟨h.1,of_decide_eq_true h.2⟩
theorem Qq {m:Int} {rs:List Road} (g:Good m rs) {xs:List Int} (xl:(xs.length:Int)=m) (x0:∀ x∈xs,0<=x) {s:Stp} (h:oB m rs xs s=true):∀ x∈b9 rs xs s,0<=x:=by
 obtain ⟨is,le⟩:=zv h;obtain ⟨ar,nb,n1⟩:=pP is;have h1:∀ x∈xs.set s.1.toNat (xs.getD s.1.toNat 0 - s.2.2*dG rs s.1 s.2.1),0<=x:=K9 x0 (by omega);unfold b9;exact K9 h1 (by have:=Ib h1 s.2.1.toNat;omega)
end Pb
set_option Elab.async false
set_option linter.all false
set_option maxRecDepth 100000
namespace Pb
open L2 PySem
section
variable {m:Int} {rs:List Road}
theorem mG:∀ (l:List Int) (i:Nat) (v:Int),i<l.length->(l.set i v).sum=l.sum - l.getD i 0+v
 | [],i,v,h=>by simp at h
 | a::l,0,v,_=>by simp;omega
 | a::l,i+1,v,h=>by
   have ih:=mG l i v (by simpa using h);have e:(a::l).getD (i+1) 0=l.getD i 0:=by simp [List.getD]
   rw [List.set_cons_succ,List.sum_cons,List.sum_cons,ih,e];omega
end
end Pb
set_option Elab.async false
set_option linter.all false
set_option maxRecDepth 100000
namespace L2
open PySem PySem.Spec PyProof.Rows
section
variable {X:Cx} {i o:Expr} {ty td:TE}
def PM (ty td:TE):TE:=fun σ H Q=>ty σ H fun y H1=>td σ H1 fun x H2=>∃ a,x=.ref a/\((∃ o,DGet H2 a y o/\Q (.bl o.isSome) H2)\/(y=.non/\(∃ kvs,H2 a=some (.dK kvs))/\Q (.bl false) H2))
end
end L2
set_option Elab.async false
set_option linter.all false
set_option maxRecDepth 100000
namespace Pb
open L2 PySem
section
variable {m:Int} {rs:List Road} {r b:Int} {par:Int->Int} {dep:Int->Nat}
def BK (par:Int->Int) (b:Int):Nat->Int->Bool
 | 0,v=>decide (v=b)
 | n+1,v=>decide (v=b) || BK par b n (par v)
def ben (par:Int->Int) (dep:Int->Nat) (b v:Int):Bool:=BK par b (dep v) v
theorem Nf (R:Rooted m rs r par dep) {v:Int} (v0:0<=v) (v1:v<m) (hr:v≠r):ben par dep b v=(decide (v=b) || ben par dep b (par v)):=by
 unfold ben;rw [R.pos v0 v1 hr]
 rfl
def J4 (m:Int) (par:Int->Int) (dep:Int->Nat) (b:Int):List Int:=(below m.toNat).filter (ben par dep b)
theorem Jt:(J4 m par dep b).Nodup:=(fg _).filter _
theorem OU {v:Int}:v∈J4 m par dep b↔(0<=v/\v<m)/\ben par dep b v=true:=by
 unfold J4;rw [List.mem_filter,c9]
 constructor
 . rintro ⟨h1,h2⟩;exact ⟨⟨h1.1,by omega⟩,h2⟩
 . rintro ⟨h1,h2⟩;exact ⟨⟨h1.1,by omega⟩,h2⟩
end
end Pb
namespace L2
theorem fN {A B:TS} {D:Ends} {σ:St} {H:Hp} (h:∀ N:St->Hp->Prop,(∀ σ' H',B D σ' H'->N σ' H')->A { D with nx:=N } σ H):Jw A B D σ H:=h (B D) fun _ _ z=>z
end L2
set_option Elab.async false
set_option linter.all false
set_option maxRecDepth 100000
namespace L2
open PySem
theorem m9 {K:PySem.W.Frag} {a:Addr} {xs:List V} {g:TG} {tb:TS} {D:Ends} {σ:St} {H:Hp} (Pv:Nat->St->Hp->Prop) (h0:Pv 0 σ H) (hl:∀ i σ H,i<=xs.length->Pv i σ H->SqL K H a xs)
   (hs:∀ (i:Nat) (x:V) (σ:St) (H:Hp) (N B:St->Hp->Prop),(∀ σ H,(g x σ H fun σ2 H2=>tb { D with nx:=N,ct:=N,bk:=D.nx } σ2 H2)->B σ H)->(∀ σ' H',Pv (i+1) σ' H'->N σ' H')->xs[i]?=some x->Pv i σ H->B σ H)
   (hd:∀ (B:St->Hp->Prop) σ H,(∀ σ H,D.nx σ H->B σ H)->Pv xs.length σ H->B σ H):qy (Itl K a) D g tb σ H :=
 xC Pv h0 hl (fun i x σ H N hN hx p=>hs i x σ H N (fun σ H=>g x σ H fun σ2 H2=>tb { D with nx:=N,ct:=N,bk:=D.nx } σ2 H2) (fun _ _ z=>z) hN hx p) fun σ H p=>hd (fun σ H=>D.nx σ H) σ H (fun _ _ z=>z) p
theorem Ap {lo:Int} {n:Nat} {g:TG} {tb:TS} {D:Ends} {σ:St} {H:Hp} (Pv:Nat->St->Hp->Prop) (h0:Pv 0 σ H)
   (hs:∀ (i:Nat) (σ:St) (H:Hp) (N B:St->Hp->Prop),(∀ σ H,(g (.int (lo+i)) σ H fun σ2 H2=>tb { D with nx:=N,ct:=N,bk:=D.nx } σ2 H2)->B σ H)->(∀ σ' H',Pv (i+1) σ' H'->N σ' H')->i<n->Pv i σ H->B σ H)
   (hd:∀ (B:St->Hp->Prop) σ H,(∀ σ H,D.nx σ H->B σ H)->Pv n σ H->B σ H):qy (Itr lo n) D g tb σ H :=
 oG Pv h0 (fun i σ H N hN hi p=>hs i σ H N (fun σ H=>g (.int (lo+i)) σ H fun σ2 H2=>tb { D with nx:=N,ct:=N,bk:=D.nx } σ2 H2) (fun _ _ z=>z) hN hi p) fun σ H p=>hd (fun σ H=>D.nx σ H) σ H (fun _ _ z=>z) p
theorem Ht {c:TT} {tb:TS} {D:Ends} {σ:St} {H:Hp} (W:Nat->St->Hp->Prop) (n0:Nat) (h0:W n0 σ H)
   (hs:∀ (n:Nat) (σ:St) (H:Hp) (N:St->Hp->Prop) (B:Nat->St->Hp->Prop),(∀ n σ H,(c σ H fun b H1=>if b=true then ∃ N:St->Hp->Prop,(∀ σ' H',N σ' H'->∃ m',m'<n/\W m' σ' H')/\tb { D with nx:=N,ct:=N,bk:=D.nx } σ H1 else D.nx σ H1)->B n σ H)->(∀ n' σ' H',n'<n->W n' σ' H'->N σ' H')->(∀ σ' H',N σ' H'->∃ m',m'<n/\W m' σ' H')->W n σ H->B n σ H):Fm c tb D σ H :=
 Cn W n0 h0 fun n σ H N hN hN2 w=>hs n σ H N (fun n σ H=>c σ H fun b H1=>if b=true then ∃ N:St->Hp->Prop,(∀ σ' H',N σ' H'->∃ m',m'<n/\W m' σ' H')/\tb { D with nx:=N,ct:=N,bk:=D.nx } σ H1 else D.nx σ H1) (fun _ _ _ z=>z) hN hN2 w
theorem ex6 {α0:Sort _} {α1:Sort _} {α2:Sort _} {α3:Sort _} {α4:Sort _} {α5:Sort _} {P:α0->α1->α2->α3->α4->α5->Prop} (a0:α0) (a1:α1) (a2:α2) (a3:α3) (a4:α4) (a5:α5) (h:P a0 a1 a2 a3 a4 a5):∃ a0 a1 a2 a3 a4 a5,P a0 a1 a2 a3 a4 a5:=⟨a0,a1,a2,a3,a4,a5,h⟩
theorem ex8 {α0:Sort _} {α1:Sort _} {α2:Sort _} {α3:Sort _} {α4:Sort _} {α5:Sort _} {α6:Sort _} {α7:Sort _} {P:α0->α1->α2->α3->α4->α5->α6->α7->Prop} (a0:α0) (a1:α1) (a2:α2) (a3:α3) (a4:α4) (a5:α5) (a6:α6) (a7:α7) (h:P a0 a1 a2 a3 a4 a5 a6 a7):∃ a0 a1 a2 a3 a4 a5 a6 a7,P a0 a1 a2 a3 a4 a5 a6 a7:=⟨a0,a1,a2,a3,a4,a5,a6,a7,h⟩
theorem an4 {p0 p1 p2 p3:Prop} (h0:p0) (h1:p1) (h2:p2) (h3:p3):p0/\p1/\p2/\p3:=⟨h0,h1,h2,h3⟩
theorem an6 {p0 p1 p2 p3 p4 p5:Prop} (h0:p0) (h1:p1) (h2:p2) (h3:p3) (h4:p4) (h5:p5):p0/\p1/\p2/\p3/\p4/\p5:=⟨h0,h1,h2,h3,h4,h5⟩
end L2
set_option Elab.async false
set_option linter.all false
set_option maxRecDepth 100000
namespace Pb
open L2 PySem
section
variable {m:Int} {rs:List Road} {r:Int} {par:Int->Int} {dep:Int->Nat}
variable {para parb parc:Int->Int} {depa depb depc:Int->Nat} {a b c:Int}
end
section
variable {m:Int} {rs:List Road} {r b:Int} {par:Int->Int} {dep:Int->Nat}
theorem Hx:∀ (n:Nat) (v:Int),BK par b n v=decide (b∈iE par n v)
 | 0,v=>by
   show decide (v=b)=decide (b∈[v]);exact decide_eq_decide.mpr ⟨fun z=>by rw [z];exact List.mem_cons_self,fun z=>(List.mem_singleton.mp z).symm⟩
 | n+1,v=>by
   show (decide (v=b) || BK par b n (par v))=decide (b∈v::iE par n (par v));rw [Hx n (par v)];by_cases c:v=b
   . rw [decide_eq_true c,Bool.true_or,decide_eq_true (by rw [c];exact List.mem_cons_self)]
   . rw [decide_eq_false c,Bool.false_or];exact decide_eq_decide.mpr ⟨fun z=>List.mem_cons_of_mem _ z,fun z=>by
       rcases List.mem_cons.mp z with z|z
       . exact absurd z.symm c
       . exact z⟩
end
end Pb
set_option Elab.async false
set_option linter.all false
set_option maxRecDepth 100000
namespace Pb
open L2 PySem
section
variable {m:Int} {rs:List Road} {r b:Int} {par:Int->Int} {dep:Int->Nat}
theorem PK:∀ (k:Nat) (x:Int),up par (k+1) x=up par k (par x)
 | 0,_=>rfl
 | k+1,x=>by show par (up par (k+1) x)=par (up par k (par x));rw [PK k x]
theorem yM:∀ (n k:Nat) (x:Int),k<=n->up par k x∈iE par n x
 | 0,0,x,_=>List.mem_cons_self
 | n+1,0,x,_=>List.mem_cons_self
 | n+1,k+1,x,h=>by
   rw [PK];exact List.mem_cons_of_mem _ (yM n k (par x) (by omega))
theorem Hg {f:Int->List Int}:∀ {l:List Int} {k:Nat} {p:Int},(l.flatMap f)[k]?=some p->∃ u∈l,∃ k' rest,(f u)[k']?=some p/\(l.flatMap f).drop k=(f u).drop k'++rest
 | [],k,p,h=>by simp at h
 | u::l,k,p,h=>by
   rw [List.flatMap_cons] at h ⊢;by_cases c:k<(f u).length
   . rw [List.getElem?_append_left c] at h;exact ⟨u,List.mem_cons_self,k,l.flatMap f,h,List.drop_append_of_le_length (Nat.le_of_lt c)⟩
   . rw [List.getElem?_append_right (by omega)] at h;obtain ⟨w,hw,k',rest,h1,h2⟩:=Hg h;refine ⟨w,List.mem_cons_of_mem _ hw,k',rest,h1,?_⟩;rw [<- h2,List.drop_append,List.drop_eq_nil_of_le (by omega),List.nil_append]
theorem Mz (g:Good m rs) (R:Rooted m rs r par dep):∀ (n:Nat) (v:Int),m.toNat - 1 - dep v=n->0<=v->v<m->∀ (k:Nat) (p:Int),(bX m rs r par dep v)[k]?=some p->∃ rest,(bX m rs r par dep v).drop k=bX m rs r par dep p++rest:=by
 intro n
 induction n with
 | zero =>
   intro v hn v0 v1 k p h;have e:bX m rs r par dep v=[v]:=by unfold bX;rw [hn];rfl
   cases k with
   | zero =>
     have:p=v:=(by rw [e] at h;exact (Option.some.inj h).symm);rw [this];exact ⟨[],by rw [List.append_nil];rfl⟩
   | succ k=>rw [e] at h;simp at h
 | succ n ih =>
   intro v hn v0 v1 k p h;have e:=g0 g R v0 v1;cases k with
   | zero =>
     have:p=v:=(by rw [e] at h;exact (Option.some.inj h).symm);rw [this];exact ⟨[],by rw [List.append_nil];rfl⟩
   | succ k =>
     rw [e,List.getElem?_cons_succ] at h;obtain ⟨u,hu,k',rest,h1,h2⟩:=Hg h;obtain ⟨ur,un,up⟩:=(aO g R v0 v1).mp hu;have du:=R.pos ur.1 ur.2 un;rw [up] at du;have dl:=dM R ur.1 ur.2;obtain ⟨rest',h3⟩:=ih u (by omega) ur.1 ur.2 k' p h1;exact ⟨rest'++rest,by rw [e,List.drop_succ_cons,h2,h3,List.append_assoc]⟩
theorem tN (g:Good m rs) (R:Rooted m rs r par dep) {v:Int} (v0:0<=v) (v1:v<m):v∈bX m rs r par dep v:=by
 rw [g0 g R v0 v1];exact List.mem_cons_self
theorem xY (g:Good m rs) (R:Rooted m rs r par dep) {p:Int} (p0:0<=p) (p1:p<m) (x:Int):x∈bX m rs r par dep p↔(0<=x/\x<m)/\ben par dep p x=true:=by
 constructor
 . intro h;obtain ⟨xr,k,e1,e2⟩:=(su g R _ p p0 p1).2 x h;refine ⟨xr,?_⟩;unfold ben;rw [Hx];refine decide_eq_true ?_;rw [<- e2];exact yM _ _ _ (by omega)
 . rintro ⟨xr,h⟩;generalize hn:dep x=n
   induction n generalizing x with
   | zero =>
     by_cases z:x=r
     . subst z;have:p=x:=by
         unfold ben at h;rw [R.root] at h;exact (of_decide_eq_true h).symm
       rw [this];exact tN g R xr.1 xr.2
     . have:=R.pos xr.1 xr.2 z;omega
   | succ n ih =>
     have z:x≠r:=fun z=>by rw [z,R.root] at hn;omega
     have u:=R.up x xr.1 xr.2 z;rw [Nf R xr.1 xr.2 z] at h;by_cases y:x=p
     . rw [y];exact tN g R p0 p1
     . rw [decide_eq_false y,Bool.false_or] at h;have hp:=ih (par x) u.1 h (by omega);obtain ⟨k,hk⟩:=List.getElem?_of_mem hp;obtain ⟨rest,e⟩:=Mz g R _ p rfl p0 p1 k _ hk;refine List.mem_of_mem_drop (i:=k) ?_;rw [e,g0 g R u.1.1 u.1.2];refine List.mem_append_left _ (List.mem_cons_of_mem _ (List.mem_flatMap.mpr ⟨x,(aO g R u.1.1 u.1.2).mpr ⟨xr,z,rfl⟩,tN g R xr.1 xr.2⟩))
theorem Po (g:Good m rs) (R:Rooted m rs r par dep) {p:Int} (p0:0<=p) (p1:p<m):(bX m rs r par dep p).Perm (J4 m par dep p) :=
 iy (su g R _ p p0 p1).1 Jt fun x=>by rw [xY g R p0 p1,OU]
end
end Pb
set_option Elab.async false
set_option linter.all false
namespace L2
open PySem
def Sq (_ j:Int):Prop:=0<j/\j.natAbs.log2<9000
theorem MG {X:Cx}:OpR X (binaryOp .FloorDiv) (rI Sq fun i j=>.int (i / j)):=opI fun i j _ _ _ _ _ hc q=>by
 have h1:(0:Int)<j:=hc.1;exact PyProof.Rows.floordiv_int (by omega) (by rw [Int.fdiv_eq_ediv_of_nonneg i (by omega)];exact q) (.inl (PyProof.noPylong_of_log2 hc.2))
end L2
namespace Pb
open PySem L2
def ned (rs:List Road) (par:Int->Int) (v x:Int):Int:=x*(aH rs (par v) v).getD 1
def vPr (r:Int) (par:Int->Int) (v:Int):List V:=[.int v,front r par v]
abbrev PrsAt (H:Hp) (r:Int) (par:Int->Int):List Addr->List Int->Prop:=Paired fun q v=>H q=some (.tup (vPr r par v))
theorem PrsAt.same {H H':Hp} {r:Int} {par:Int->Int} {qs:List Addr} {vs:List Int} (e:Same H H') (h:PrsAt H r par qs vs):PrsAt H' r par qs vs:=Paired.imp' (fun q v x=>e q _ x) h
theorem PrsAt.get {H:Hp} {r:Int} {par:Int->Int}:∀ {ps:List Addr} {vs:List Int} {i:Nat} {x:V},PrsAt H r par ps vs->(ps.map V.ref)[i]?=some x->∃ p v,x=.ref p/\ps[i]?=some p/\vs[i]?=some v/\H p=some (.tup (vPr r par v))
 | _,_,i,x,.nil,e=>by simp at e
 | _,_,0,x,.cons (a:=p) (b:=r) h hs,e=>⟨p,r,by simpa using e.symm,by simp,by simp,h⟩
 | a::l1,_,i+1,x,.cons h hs,e=>by
   have e':(List.map V.ref l1)[i]?=some x:=by simpa using e
   obtain ⟨p,r,h1,h2,h3,h4⟩:=PrsAt.get hs e';exact ⟨p,r,h1,by simpa using h2,by simpa using h3,h4⟩
theorem PrsAt.snoc {H:Hp} {r:Int} {par:Int->Int} {q:Addr} {v:Int} (e:H q=some (.tup (vPr r par v))):∀ {qs:List Addr} {vs:List Int},PrsAt H r par qs vs->PrsAt H r par (qs++[q]) (vs++[v])
 | _,_,.nil=>.cons e .nil
 | _,_,.cons x xs=>.cons x (PrsAt.snoc e xs)
end Pb
set_option Elab.async false
set_option linter.all false
set_option maxRecDepth 100000
set_option exponentiation.threshold 5000
namespace Pb
open L2 PySem
section
variable {m:Int} {rs:List Road} {r:Int} {par:Int->Int} {dep:Int->Nat}
def foU (op:Int->Int->Int) (m:Int) (rs:List Road) (r:Int) (par:Int->Int) (held:Int->Int) (con:Int->Int->Int):Nat->Int->Int
 | 0,v=>held v
 | n+1,v=>((aG m rs (front r par v) v).map fun c=>con c (foU op m rs r par held con n c)).foldl op (held v)
def fo (op:Int->Int->Int) (m:Int) (rs:List Road) (r:Int) (par:Int->Int) (dep:Int->Nat) (held:Int->Int) (con:Int->Int->Int) (v:Int):Int:=foU op m rs r par held con (m.toNat - 1 - dep v) v
variable {op:Int->Int->Int} {held:Int->Int} {con:Int->Int->Int}
theorem Qg (g:Good m rs) (R:Rooted m rs r par dep) {v:Int} (h0:0<=v) (h1:v<m):fo op m rs r par dep held con v=((aG m rs (front r par v) v).map fun c=>con c (fo op m rs r par dep held con c)).foldl op (held v):=by
 have du:∀ u∈aG m rs (front r par v) v,dep u=dep v+1/\dep u+1<=m.toNat:=fun u hu=>by
   obtain ⟨w1,w2,w3⟩:=(aO g R h0 h1).mp hu;have:=R.pos w1.1 w1.2 w2;rw [w3] at this;exact ⟨this,dM R w1.1 w1.2⟩
 unfold fo;cases e:m.toNat - 1 - dep v with
 | zero =>
   have:aG m rs (front r par v) v=[]:=List.eq_nil_iff_forall_not_mem.mpr fun u hu=>by
     have:=du u hu;omega
   rw [this]
   rfl
 | succ n =>
   show List.foldl op (held v) _=_;rw [List.map_congr_left fun u hu=>show con u (foU op m rs r par held con n u)=con u (foU op m rs r par held con (m.toNat - 1 - dep u) u) by rw [show m.toNat - 1 - dep u=n by have:=du u hu;omega]]
theorem Order.cut (R:Rooted m rs r par dep) {t:List Int} (O:Order m r par t) {i:Nat} {v:Int} (hv:t.reverse[i]?=some v) :
   ((0<=v/\v<m)/\v≠r)/\t.drop (t.length - (i+1))=v::t.drop (t.length - i)/\(t.drop (t.length - i)).Nodup/\(∀ x∈t.drop (t.length - i),(0<=x/\x<m)/\x≠r)/\∀ k,0<=k->k<m->k≠r->par k=v->k∈t.drop (t.length - i):=by
 have hi:i<t.length:=by
   have:=(List.getElem?_eq_some_iff.mp hv).1
   rwa [List.length_reverse] at this
 rw [List.getElem?_reverse hi] at hv;generalize hj:t.length - 1 - i=j at hv;have ej:t.length - i=j+1:=by omega
 have ej':t.length - (i+1)=j:=by omega
 rw [ej,ej'];have hjl:j<t.length:=by omega
 have vm:v∈t:=List.mem_of_getElem? hv;have vp:=O.places v vm;have ed:t.drop j=v::t.drop (j+1):=by
   rw [List.drop_eq_getElem_cons hjl];rw [List.getElem?_eq_getElem hjl] at hv;cases hv
   rfl
 have es:t=t.take j++v::t.drop (j+1):=by rw [<- ed,List.take_append_drop]
 have ndt:=(List.nodup_cons.mp O.nd).2;have nd2:=ndt;rw [es] at nd2;have av:v ∉ t.take j:=fun z=>(List.nodup_append.mp nd2).2.2 v z v List.mem_cons_self rfl;refine ⟨vp,ed,ndt.sublist (List.drop_sublist _ _),fun x hx=>O.places x (List.mem_of_mem_drop hx),fun k k0 k1 kr pk=>?_⟩;rcases O.all k k0 k1 with z|z
 . exact absurd z kr
 . rw [es] at z;rcases List.mem_append.mp z with z|z
   . have af:=O.af;rw [es] at af;rcases af.up k z with w|w
     . rw [pk] at w;exact absurd (List.mem_singleton.mp w) vp.2
     . rw [pk] at w;exact absurd w av
   . rcases List.mem_cons.mp z with z|z
     . subst z;exact absurd pk (R.ne k0 k1 kr)
     . exact z
def mx (i j:Int):Int:=if j > i then j else i
def bor (rs:List Road) (par:Int->Int) (v x:Int):Int:=x*(aH rs v (par v)).getD 1
abbrev wgt (m:Int) (rs:List Road) (r:Int) (par:Int->Int) (dep:Int->Nat):Int->Int:=fo mx m rs r par dep (fun _=>1) (bor rs par)
theorem P7 {cs:List Int} {i:Nat} (h:i<cs.length):cs.getD i 0∈cs:=by
 rw [List.getD,List.getElem?_eq_getElem h];exact List.getElem_mem h
end
end Pb
set_option Elab.async false
set_option linter.all false
set_option maxRecDepth 100000
namespace L2
open PySem PySem.Spec PyProof.Rows
section
variable {X:Cx}
end
end L2
namespace Pb
end Pb
set_option Elab.async false
set_option linter.all false
set_option maxRecDepth 100000
namespace L2
open PySem PySem.Spec PyProof.Rows
section
variable {X:Cx}
end
end L2
set_option Elab.async false
set_option linter.all false
set_option maxRecDepth 100000
namespace L2
open PySem PySem.Spec PyProof.Rows
section
variable {P:Program} {w:World} {A:Around} {R:Result->Shared->Prop} {I S:Addr} {fp wr:List Addr} {n:Nat} {Pv:Nat->Value->Prop} {St:Nat->Heap->Prop} {bt:Nat->Nat->Bool} {kw:List (Str × Value)}
end
section
variable {X:Cx} {x:Str} {p pos kpos:Pos} {e de:Expr} {t tk:TA}
def Px (K:PySem.W.Frag) (t tk:TA):TE:=fun σ H Q=>t σ H fun vs H1=>tk σ H1 fun zs H2=>∃ (q:Addr) (ns:List Int) (d:V),vs=[.ref q]/\zs=[d]/\SqL K H2 q (ns.map V.int)/\ns≠[]/\∀ y,y∈ns->(∀ x∈ns,y<=x)->Q (.int y) H2
def PH (t:TE):TE:=fun σ H Q=>t σ H fun x H1=>∃ b,x=.bl b/\Q (.bl (b != true)) H1
end
end L2
set_option Elab.async false
set_option linter.all false
set_option maxRecDepth 100000
namespace Pb
open L2 PySem
section
variable {m:Int} {rs:List Road} {r:Int} {par:Int->Int} {dep:Int->Nat}
variable {ch:Int->Option Int} {w:Int} {cn:Int->Int}
end
end Pb
set_option Elab.async false
set_option linter.all false
set_option maxRecDepth 100000
namespace L2
open PySem PySem.Spec PyProof.Rows PySem.W
def KAll {α:Type} (I:Nat->Prop) (P:α->Prop):KasT α->Prop
 | .ret a=>P a
 | .ask i j k=>I i/\I j/\∀ b,KAll I P (k b)
theorem KAll.bind {α β:Type} {I:Nat->Prop} {P:α->Prop} {R:β->Prop} {f:α->KasT β} (hf:∀ a,P a->KAll I R (f a)):∀ {t:KasT α},KAll I P t->KAll I R (t.bind f)
 | .ret a,h=>hf a h
 | .ask i j k,h=>⟨h.1,h.2.1,fun b=>KAll.bind hf (h.2.2 b)⟩
theorem KAll.wp {α:Type} {I:Nat->Prop} {P:α->Prop} {cmp:Nat->Nat->(Bool->Shared->Prop)->Shared->Prop} {Q:α->Shared->Prop} {s:Shared} (hc:∀ i j C,I i->I j->(∀ b,C b s)->cmp i j C s) (hq:∀ a,P a->Q a s):∀ {t:KasT α},KAll I P t->t.kasWp cmp Q s
 | .ret a,h=>hq a h
 | .ask i j k,h=>hc i j _ h.1 h.2.1 fun b=>KAll.wp hc hq (h.2.2 b)
section
variable {n:Nat}
abbrev PmR (n:Nat) (p:Array Nat):Prop:=p.toList.Perm (List.range n)
theorem PmR.at (hn:0<n) {p:Array Nat} (h:PmR n p) (k:Nat):p.getD k 0<n:=by
 by_cases hk:k<p.size
 . have:p.getD k 0∈p.toList:=by
     have e:p.getD k 0=p[k]:=(by simp [Array.getD,hk]);rw [e];exact Array.getElem_mem_toList hk
   exact List.mem_range.mp (h.mem_iff.mp this)
 . have e:p.getD k 0=0:=by simp [Array.getD,hk]
   rw [e];exact hn
theorem PmR.rev {p:Array Nat} (h:PmR n p) (i j:Nat):PmR n (kas_rev p i j):=(Array.perm_iff_toList_perm.mp (mirror_perm p i j _)).trans h
theorem PmR.bub {p:Array Nat} (h:PmR n p) (i j:Nat):PmR n (bubble p i j):=(Array.perm_iff_toList_perm.mp (bubble_perm p i j)).trans h
variable (hn:0<n)
include hn
theorem BI {p:Array Nat} (h:PmR n p):∀ f m,KAll (·<n) (fun _:Nat=>True) (kas_asc p f m)
 | 0,m=>trivial
 | f+1,m=>⟨h.at hn _,h.at hn _,fun b=>by cases b with
   | true=>exact trivial
   | false=>exact BI h f (m+1)⟩
theorem uh:∀ f {p:Array Nat} (h:PmR n p) m q,KAll (·<n) (fun r:Array Nat × Nat × Nat=>PmR n r.1) (kas_desc f p m q)
 | 0,p,h,m,q=>h
 | f+1,p,h,m,q=>⟨h.at hn _,h.at hn _,fun b=>by
   cases b with
   | true =>
     show KAll _ _ (if q > 0 then _ else _);split
     . exact uh f (h.rev _ _) _ _
     . exact uh f h _ _
   | false =>
     refine ⟨h.at hn _,h.at hn _,fun d=>?_⟩;cases d with
     | true=>exact h
     | false=>exact uh f h _ _⟩
theorem EZ {p:Array Nat} (h:PmR n p) (m r:Nat):KAll (·<n) (fun r:Nat × Array Nat=>PmR n r.2) (kas_tail3 m r p) :=
 KAll.bind (R:=fun r:Nat × Array Nat=>PmR n r.2) (f:=fun k=>.ret (k,kas_rev p 0 m)) (fun a _=>h.rev _ _) (BI hn (h.rev _ _) _ _)
theorem wP {p:Array Nat} (h:PmR n p) (m r:Nat):KAll (·<n) (fun r:Nat × Array Nat=>PmR n r.2) (kas_descPart m r p):=by
 refine KAll.bind (fun a ha=>?_) (uh hn _ h _ _);split
 . exact EZ hn (PmR.rev ha _ _) _ _
 . exact EZ hn ha _ _
theorem Ku {p:Array Nat} (h:PmR n p) (r:Nat):KAll (·<n) (fun r:Nat × Array Nat=>PmR n r.2) (kas_count r p):=by
 refine KAll.bind (fun a _=>?_) (BI hn h _ _);split
 . exact h
 . split
   . refine ⟨h.at hn _,h.at hn _,fun b=>?_⟩;cases b with
     | true=>exact h
     | false=>exact wP hn (h.rev _ _) _ _
   . exact wP hn h _ _
theorem xc {p:Array Nat} (h:PmR n p) (k:Nat):∀ f l r,KAll (·<n) (fun _:Nat=>True) (kas_place p k f l r)
 | 0,l,r=>trivial
 | f+1,l,r=>by
   show KAll _ _ (if l ≥ r then _ else _);split
   . exact trivial
   . refine ⟨h.at hn _,h.at hn _,fun b=>?_⟩;cases b with
     | true=>exact xc h k f _ _
     | false=>exact xc h k f _ _
theorem HR:∀ f {p:Array Nat} (h:PmR n p) k,KAll (·<n) (fun p:Array Nat=>PmR n p) (kas_bin f p k)
 | 0,p,h,k=>h
 | f+1,p,h,k=>KAll.bind (fun l _=>HR f (h.bub _ _) _) (xc hn h k _ _ _)
theorem Nn:KAll (·<n) (fun p:Array Nat=>PmR n p) (kas_sort n):=by
 refine KAll.bind (fun r hr=>?_) (Ku hn (List.Perm.refl _) n);split
 . exact HR hn _ hr _
 . exact hr
end
theorem LB {α:Type} (vs:List α) (d:α):(List.range vs.length).map (fun i=>vs.getD i d)=vs:=by
 apply List.ext_getElem?;intro i;rw [List.getElem?_map];by_cases h:i<vs.length
 . rw [List.getElem?_range h];simp [h]
 . rw [List.getElem?_eq_none (by simpa using h),List.getElem?_eq_none (by omega)]
   rfl
section
variable {prog:Program} {w:World} {A:Around} {E:Value->Shared->Prop} {s:Shared}
theorem Bz {a:Addr} {vs:List Value} {n:Nat} {P:PySem.Fin->Shared->Prop} (ho:s.heap.get? a=some (seqObj "list" vs.toArray n)) (h64:vs.length<64)
   (hk:2<=vs.length->∀ h':Heap,(∀ b o,b≠a->s.heap.get? b=some o->h'.get? b=some o)->∃ κ,(∀ Q:SortKind->Shared->Prop,Q κ { s with heap:=h' }->wpAny (model prog w) A (keyKind' vs.toArray) Q (fun _ _=>False) { s with heap:=h' }) /\
     ∀ i j (C:Bool->Shared->Prop),i<vs.length->j<vs.length->(∀ b,C b { s with heap:=h' })->kas_ask prog w A κ vs i j C { s with heap:=h' })
   (h:∀ out:Array Value,out.toList.Perm vs->P (.done (.ret .none)) { s with heap:=sortedHeap s.heap a vs out }) :
   wpAny (model prog w) A (Builtin.«list.sort» ⟨[.ref a],[]⟩) P E s:=by
 rw [list_sort_plain];have ha:a<s.heap.objs.size:=Heap.lt_size ho;have z:vs.length<=sizeLine:=by rw [sizeLine_eq];omega
 refine wpAny_bind (listItems_at ho rfl ?_);refine wpAny_bind (listUpdate_at ho rfl ?_ (by rw [List.size_toArray];exact z) (Nat.zero_le _));obtain ⟨e1,ho1⟩:∃ e1,(s.heap.update a (Obj.mapSeq fun _=>(#[]:Array Value))).get? a=some (seqObj "list" #[] e1):=⟨_,get?_update_seq ho (fun _=>#[])⟩;refine wpAny_bind (seqEpoch_at ho1 rfl ?_);refine wpAny_bind (wpAny_newTuple ?_ (by exact z));refine wpAny_bind (wpAny_newList ?_ (Nat.zero_le _));refine wpAny_holding ?_;have keep:∀ b o,(s.heap.update a (Obj.mapSeq fun _=>(#[]:Array Value))).get? b=some o->(((s.heap.update a (Obj.mapSeq fun _=>#[])).push (seqObj "tuple" vs.toArray 0)).push (seqObj "list" #[] 0)).get? b=some o :=
   fun b o e=>Heap.get?_push_of_some _ (Heap.get?_push_of_some _ e)
 have ho6:=keep _ _ ho1;have ext:∀ b o,b≠a->s.heap.get? b=some o->(((s.heap.update a (Obj.mapSeq fun _=>#[])).push (seqObj "tuple" vs.toArray 0)).push (seqObj "list" #[] 0)).get? b=some o :=
   fun b o hb e=>keep b o (by rw [Heap.get?_update_ne _ _ _ _ hb];exact e)
 show wpAny (model prog w) A _ P E { s with heap:=((s.heap.update a (Obj.mapSeq fun _=>#[])).push (seqObj "tuple" vs.toArray 0)).push (seqObj "list" #[] 0) };dsimp only;by_cases h2:vs.toArray.size<2
 . rw [if_pos h2,if_pos h2];refine wpAny_bind (wpAny_pure ?_);rw [StateT.run_pure];refine wpAny_bind (wpAny_pure ?_);dsimp only;have ez:(arrOf (SortSt.mk' general' (vs.toArray.zip vs.toArray) #[] 7 none)).map (·.2)=vs.toArray:=by
     show (vs.toArray.zip vs.toArray).map (·.2)=vs.toArray;apply Array.toList_inj.mp;rw [Array.toList_map,Array.toList_zip];show (vs.zip vs).map Prod.snd=vs;exact List.map_snd_zip (Nat.le_refl _)
   refine wpAny_bind (seqEpoch_at ho6 rfl ?_);refine wpAny_bind (listUpdate_at ho6 rfl ?_ (Nat.zero_le _) (by rw [ez,List.size_toArray];exact Nat.le_succ_of_le z));simp only [bne_self_eq_false,Bool.false_eq_true,if_false];refine wpAny_pure (h _ ?_);rw [ez]
 . rw [if_neg h2,if_neg h2];have h2':2<=vs.length:=by rw [List.size_toArray] at h2;omega
   obtain ⟨κ,k1,k2⟩:=hk h2' _ ext;refine wpAny_bind (wpAny_mono (k1 (fun κ' s'=>κ'=κ/\s'={ s with heap:=((s.heap.update a (Obj.mapSeq fun _=>#[])).push (seqObj "tuple" vs.toArray 0)).push (seqObj "list" #[] 0) }) ⟨rfl,rfl⟩) (fun κ' s0 e0=>?_) fun _ _ x=>x.elim);obtain ⟨rfl,rfl⟩:=e0;refine wpAny_bind (wpAny_mono (kat_run (Q:=fun st' s'=>s'={ s with heap:=((s.heap.update a (Obj.mapSeq fun _=>#[])).push (seqObj "tuple" vs.toArray 0)).push (seqObj "list" #[] 0) }/\∃ p:Array Nat,PmR vs.length p/\arrOf st'=p.map (kas_item (vs.toArray.zip vs.toArray))/\failedOf st'=none)
     (G:=fun p s'=>s'={ s with heap:=((s.heap.update a (Obj.mapSeq fun _=>#[])).push (seqObj "tuple" vs.toArray 0)).push (seqObj "list" #[] 0) }/\PmR vs.length p)
     rfl h2' h64 (fun p' st' s' a1 a2 a3 a4=>⟨a4.1,p',a4.2,a2,a3⟩) ?_) ?_ fun _ _ e=>e)
   . exact KAll.wp (fun i j C hi hj hC=>k2 i j C hi hj hC) (fun p hp=>⟨rfl,hp⟩) (Nn (by omega))
   rintro ⟨⟨⟩,st'⟩ s' ⟨rfl,p,hp,har,hf⟩;dsimp only;have hout:=kat_snds rfl har;have ln:p.toList.length=vs.length:=by have:=hp.length_eq;rwa [List.length_range] at this
   rw [hout];refine wpAny_bind (seqEpoch_at ho6 rfl ?_);refine wpAny_bind (listUpdate_at ho6 rfl ?_ (Nat.zero_le _) (by rw [List.size_toArray,List.length_map,ln];exact Nat.le_succ_of_le z));rw [hf];simp only [bne_self_eq_false,Bool.false_eq_true,if_false];refine wpAny_pure (h _ ?_);refine (hp.map _).trans ?_;rw [LB]
end
end L2
set_option Elab.async false
set_option linter.all false
set_option maxRecDepth 100000
namespace L2
open PySem PySem.Spec PyProof.Rows PySem.W Pb
def RawD (h:Heap) (d:Addr) (es:Array DictEntry) (ep:Nat):Prop:=∃ o,h.get? d=some o/\o.ExactDict/\o.data=.dict es ep
theorem RawD.kept {h h':Heap} {d:Addr} {es:Array DictEntry} {ep:Nat} (x:RawD h d es ep) (k:∀ o,h.get? d=some o->h'.get? d=some o):RawD h' d es ep :=
 let ⟨o,e,r⟩:=x;⟨o,k o e,r⟩
theorem RawD.type {s:Shared} {d:Addr} {es:Array DictEntry} {ep:Nat} (x:RawD s.heap d es ep):s.TypeIs (.ref d) "dict":=let ⟨o,e,c,_⟩:=x;⟨o,e,c.1⟩
theorem RawD.lt {h:Heap} {d:Addr} {es:Array DictEntry} {ep:Nat} (x:RawD h d es ep):d<h.objs.size:=let ⟨o,e,_⟩:=x;Heap.lt_size e
section
variable {prog:Program} {w:World} {A:Around} {E:Value->Shared->Prop} {s:Shared} {it d:Addr} {i ep:Nat} {es:Array DictEntry}
theorem Nt {Q:Value->Shared->Prop} (lo:(d == sysModules)=false) (x:RawD s.heap d es ep)
   (hQ:Q (.ref s.heap.objs.size) { s with heap:=s.heap.push { cls:=.type "dict_keyiterator",data:=.fields #[.ref d,.int 0 0,.int es.size 0,.int ep 0] } }):wpAny (model prog w) A (pyIter (.ref d)) Q E s:=by
 obtain ⟨o,ho,hc,hdat⟩:=id x;refine wpAny_pyIter_slot x.type F.slot_dict_iter (wpAny_call_entry F.slot_dict_iter x.type F.entry_dict_iter ?_ (F.args_dict_iter_1 _));unfold Builtin.«dict.__iter__» Builtin.Dict.dictSlotNone;refine wpAny_bind (wpAny_bind (wpAny_notOrdered_dict x.type (show wpAny _ _ (pure (Value.ref d)) _ _ s from wpAny_pure ?_)));show wpAny _ _ (Builtin.Dict.showsAll d >>= _) _ _ s;unfold Builtin.Dict.showsAll;rw [lo,if_neg (by decide)];refine wpAny_bind (wpAny_pure (wpAny_bind (wpAny_dictEntries ho hdat (wpAny_bind (wpAny_dictEpoch ho hdat ?_)))));refine wpAny_bind (wpAny_newObj_type (wpAny_pure ⟨_,rfl,"dict_keyiterator",_,⟨_,Heap.get?_push_size _ rfl,rfl⟩,F.slot_dict_keyiterator_next.lookup,?_⟩))
 simpa [rawInt] using hQ
theorem Ny {Q:Option Value->Shared->Prop} (hit:s.heap.IsKeyIter it d i es.size ep) (x:RawD s.heap d es ep) (hlt:i<es.size)
   (hQ:∀ h',h'.IsKeyIter it d (i+1) es.size ep->Heap.SameBut it s.heap h'->Q (some es[i].key) { s with heap:=h' }):wpAny (model prog w) A (pyNext (.ref it)) Q E s:=by
 obtain ⟨o,ho,hc,hd⟩:=id hit;obtain ⟨od,hod,hcd,hdd⟩:=id x;unfold pyNext;refine wpAny_bind (wpAny_attempt (wpAny_callSpecial?_slot (name:=Str.ofString "__next__") hit.typeIs F.slot_dict_keyiterator_next (wpAny_call_entry F.slot_dict_keyiterator_next hit.typeIs F.entry_dict_keyiterator_next ?_ (F.args_dict_keyiterator_next_1 _))));refine wpAny_bind (wpAny_pure (wpAny_bind (wpAny_bind ?_)))
 first|refine wpAny_bind (wpAny_typeNameOfWhole_keyiter hit.typeIs (wpAny_pure ?_))|refine wpAny_bind (wpAny_typeNameOf_keyiter hit.typeIs (wpAny_pure ?_))
 refine wpAny_bind (wpAny_fieldsOf ho hd ?_);simp only [show Builtin.Dict_items.ownsTuple "dict_keyiterator"=false by decide,Bool.false_eq_true,if_false];show wpAny _ _ (if (Value.ref d == Value.none)=true then _ else _) _ _ s;rw [if_neg (show ¬ ((Value.ref d == Value.none)=true) from Bool.false_ne_true)];refine wpAny_bind (wpAny_pure (wpAny_bind (wpAny_dictEntries hod hdd ?_)));rw [if_neg (by simp)];refine wpAny_bind (wpAny_pure (wpAny_bind (wpAny_dictEpoch hod hdd ?_)));rw [if_neg (by simp)];refine wpAny_pure ?_;simp only [show ¬ ((i:Int)<0) from by omega,if_false,Int.toNat_natCast,Array.getElem?_eq_getElem hlt];refine wpAny_bind ?_
 first|refine wpAny_bind (wpAny_typeNameOfWhole_keyiter hit.typeIs (wpAny_pure ?_))|refine wpAny_bind (wpAny_typeNameOf_keyiter hit.typeIs (wpAny_pure ?_))
 refine wpAny_bind (wpAny_isOneOf_keyiter hit.typeIs ?_);show wpAny _ _ (setField (.ref it) 1 (rawInt ((i:Int)+1)) >>= _) _ _ s;refine wpAny_bind (wpAny_setField ho hd (by simp) ?_);have hit':(s.heap.update it (Obj.mapFields (·.setIfInBounds 1 (rawInt ((i:Int)+1))))).IsKeyIter it d (i+1) es.size ep :=
   ⟨_,Heap.get?_update_self _ ho (Obj.isFreed_of_fields (Obj.data_mapFields hd _)),(Obj.cls_mapFields ..).trans hc,by rw [Obj.data_mapFields hd];simp [rawInt]⟩
 refine wpAny_bind (wpAny_holding ?_);refine wpAny_bind (wpAny_isOneOf_keyiter (s:={ s with heap:=s.heap.update it (Obj.mapFields (·.setIfInBounds 1 (rawInt ((i:Int)+1)))) }) hit'.typeIs ?_);show wpAny _ _ (pure es[i].key) _ _ _;exact wpAny_pure (wpAny_pure ⟨_,rfl,wpAny_pure (hQ _ hit' (Heap.SameBut.update ..))⟩)
theorem QT {Q:Option Value->Shared->Prop} (hh:A.handled=none) (hit:s.heap.IsKeyIter it d es.size es.size ep) (x:RawD s.heap d es ep)
   (hQ:∀ h',Heap.ExtBut it s.heap h'->Q none { s with heap:=h' }):wpAny (model prog w) A (pyNext (.ref it)) Q E s:=by
 obtain ⟨o,ho,hc,hd⟩:=id hit;obtain ⟨od,hod,hcd,hdd⟩:=id x;unfold pyNext;refine wpAny_bind (wpAny_attempt (wpAny_callSpecial?_slot (name:=Str.ofString "__next__") hit.typeIs F.slot_dict_keyiterator_next (wpAny_call_entry F.slot_dict_keyiterator_next hit.typeIs F.entry_dict_keyiterator_next ?_ (F.args_dict_keyiterator_next_1 _))));refine wpAny_bind (wpAny_pure (wpAny_bind (wpAny_bind ?_)))
 first|refine wpAny_bind (wpAny_typeNameOfWhole_keyiter hit.typeIs (wpAny_pure ?_))|refine wpAny_bind (wpAny_typeNameOf_keyiter hit.typeIs (wpAny_pure ?_))
 refine wpAny_bind (wpAny_fieldsOf ho hd ?_);simp only [show Builtin.Dict_items.ownsTuple "dict_keyiterator"=false by decide,Bool.false_eq_true,if_false];show wpAny _ _ (if (Value.ref d == Value.none)=true then _ else _) _ _ s;rw [if_neg (show ¬ ((Value.ref d == Value.none)=true) from Bool.false_ne_true)];refine wpAny_bind (wpAny_pure (wpAny_bind (wpAny_dictEntries hod hdd ?_)));rw [if_neg (by simp)];refine wpAny_bind (wpAny_pure (wpAny_bind (wpAny_dictEpoch hod hdd ?_)));rw [if_neg (by simp)];refine wpAny_pure ?_;simp only [show ¬ ((es.size:Int)<0) from by omega,if_false,Int.toNat_natCast,Array.getElem?_eq_none (Nat.le_refl es.size)];refine wpAny_bind ?_
 first|refine wpAny_bind (wpAny_typeNameOfWhole_keyiter hit.typeIs (wpAny_pure ?_))|refine wpAny_bind (wpAny_typeNameOf_keyiter hit.typeIs (wpAny_pure ?_))
 show wpAny _ _ (setField (.ref it) 0 .none >>= _) _ _ s;refine wpAny_bind (wpAny_setField ho hd (by simp) ?_);show wpAny _ _ (newExc (.type "StopIteration") [] >>= _) _ _ _;refine wpAny_bind ?_;simp only [newExc,newTuple];refine wpAny_bind (wpAny_newObj_type ?_ (by size_fits));refine wpAny_bind (m:=firstArgMember _ _) (wpAny_of_eq (a:=Value.none) (by first|rfl|(simp only [firstArgMember];rfl)) ?_);refine wpAny_newObj_type ?_ (by size_fits);simp only [raiseNew];refine wpAny_bind (wpAny_handled ?_);rw [show A.in1.handled=none from hh];refine wpAny_bind (wpAny_pure (wpAny_throw ?_));refine wpAny_bind (wpAny_isInstance (T:="StopIteration") (b:=true) ⟨_,Heap.get?_push_size _ rfl,rfl⟩ isSubtype_stop ?_);exact wpAny_pure (hQ _ (((Heap.SameBut.update ..).extBut.push _).push _))
theorem Li (hh:A.handled=none) (I:Addr) (hne:d≠I) :
   Walks prog w A I [I,d] [I] es.size (fun i v=>∃ e,es[i]?=some e/\v=e.key) (fun i h=>h.IsKeyIter I d i es.size ep/\RawD h d es ep) where
 sub:=fun b hb=>by simp at hb;simp [hb]
 frame:=fun _ _ _ st hk=>⟨st.1.at fun o e=>hk I (by simp) o e,st.2.kept fun o e=>hk d (by simp) o e⟩
 item:=fun i s Q E hi st hQ=>Ny st.1 st.2 hi fun h' hit' hs'=>hQ _ h' s.toks ⟨_,Array.getElem?_eq_getElem hi,rfl⟩ ⟨hit',st.2.kept fun o e=>hs'.extBut d o hne e⟩ fun b o hb e=>hs'.extBut b o (fun h=>hb (by simp [h])) e
 done:=fun s Q E st hQ=>QT hh st.1 st.2 fun h' he'=>hQ h' s.toks fun b o hb e=>he' b o (fun h=>hb (by simp [h])) e
 self:=fun _ _ _ _ st hQ=>wpAny_pyIter_keyiter st.1 hQ
theorem QA (lo:(d == sysModules)=false):KdlSrc prog w "dict" d d es.size (fun i v=>∃ e,es[i]?=some e/\v=e.key) (fun h=>RawD h d es ep) where
 type:=fun _ hm=>hm.type
 there:=fun _ hm=>⟨hm.lt,hm.lt⟩
 keep:=fun _ _ hm hk=>hm.kept fun o e=>hk d (.inl rfl) o e
 notList:=by decide
 notTuple:=by decide
 hint:=fun _ _ _ _ hm hq=>kdl_hint_dict hm.type hq
 iter:=fun _ _ hh hm=>⟨_,_,(fun _ _ hq=>Nt lo hm hq),Li hh _ (Nat.ne_of_lt hm.lt),⟨⟨_,Heap.get?_push_size _ rfl,rfl,rfl⟩,hm.kept fun o e=>Heap.get?_push_of_some _ e⟩⟩
end
section
variable {prog:Program} {w:World} {A:Around} {E:Value->Shared->Prop} {s:Shared} {fin:Bool} {C:Bool->Shared->Prop}
theorem D4 (hC:∀ b,C b s):∀ (l:List (Value × Value)) (i:Nat),(∀ p∈l,∃ a t b u,p=(.int a t,.int b u))->KatLex prog w A true fin C l i s
 | [],i,_=>kat_nil (hC _)
 | p::r,i,h=>by
   obtain ⟨a,t,b,u,rfl⟩:=h p (.head _);refine kat_cons (wpAny_eqBool_int (kat_go (fun _=>kat_yes (D4 hC r (i+1) fun q hq=>h q (.tail _ hq))) fun _=>kat_no ?_));cases i with
   | zero=>exact oneLt_int (hC _)
   | succ i=>exact kat_one _ _ (PyProof.Rows.lt_int (hC _))
theorem Dx {α β:Type} {f:α->β}:∀ {l₁ m:List β},l₁.Perm m->∀ l:List α,m=l.map f->∃ l₂:List α,l₁=l₂.map f/\l₂.Perm l:=by
 intro l₁ m hp
 induction hp with
 | nil=>intro l e;exact ⟨[],rfl,by rw [List.map_eq_nil_iff.mp e.symm]⟩
 | cons x _ ih =>
   intro l e;cases l with
   | nil=>cases e
   | cons y l =>
     obtain ⟨e1,e2⟩:=List.cons.inj e;obtain ⟨l₂,h1,h2⟩:=ih l e2;exact ⟨y::l₂,by rw [h1,e1];rfl,h2.cons y⟩
 | swap x y k =>
   intro l e
   match l,e with
   | y'::x'::l,e =>
     obtain ⟨e1,e2⟩:=List.cons.inj e;obtain ⟨e3,e4⟩:=List.cons.inj e2;exact ⟨x'::y'::l,by rw [e1,e3,e4];rfl,List.Perm.swap y' x' l⟩
 | trans _ _ ih1 ih2 =>
   intro l e;obtain ⟨l₂,h1,h2⟩:=ih2 l e;obtain ⟨l₃,h3,h4⟩:=ih1 l₂ h1;exact ⟨l₃,h3,h4.trans h2⟩
end
theorem Gh:∀ {k:List Int} {its:List Value},Vals (k.map V.int) its->∀ v∈its,∃ n t,v=.int n t
 | [],_,.nil,v,hv=>nomatch hv
 | n::k,_,.cons h r,v,hv=>by
   rcases List.mem_cons.mp hv with rfl|hv
   . obtain ⟨t,e⟩:=h;exact ⟨n,t,e⟩
   . exact Gh r v hv
def Mq (h:Heap) (q:Addr):Prop:=∃ o its n,h.get? q=some o/\o.cls=.type "tuple"/\o.data=.seq (List.toArray its) n/\its≠[]/\∀ v∈its,∃ m t,v=Value.int m t
theorem Hh {h:Heap}:∀ {qs:List Addr},(∀ q∈qs,Mq h q)->∃ fs,fs.length=qs.length/\KatTups h (qs.map .ref) fs/\∀ v∈fs,∃ n t,v=.int n t
 | [],_=>⟨[],rfl,.nil,fun v hv=>nomatch hv⟩
 | q::qs,hq=>by
   obtain ⟨fs,h0,h1,h2⟩:=Hh fun q' h'=>hq q' (.tail _ h');obtain ⟨o,its,n,a1,a2,a3,a4,a5⟩:=hq q (.head _)
   match its,a4,a5,a3 with
   | v::its,_,a5,a3 =>
     refine ⟨v::fs,by simp [h0],KatTups.cons a1 a2 a3 (by simp) h1,fun u hu=>?_⟩;rcases List.mem_cons.mp hu with rfl|hu
     . exact a5 _ (.head _)
     . exact h2 u hu
section
variable {prog:Program} {w:World} {A:Around} {E:Value->Shared->Prop} {s:Shared}
theorem Qd {qs:List Addr} (hq:∀ q∈qs,Mq s.heap q) (h2:2<=qs.length):∃ κ,(∀ Q:SortKind->Shared->Prop,Q κ s->wpAny (model prog w) A (keyKind' (qs.map Value.ref).toArray) Q (fun _ _=>False) s) /\
     ∀ i j (C:Bool->Shared->Prop),i<(qs.map Value.ref).length->j<(qs.map Value.ref).length->(∀ b,C b s)->kas_ask prog w A κ (qs.map Value.ref) i j C s:=by
 obtain ⟨fs,f0,f1,f2⟩:=Hh hq;refine ⟨tuples' (Value.type "int" != Value.type "tuple"),fun Q hQ=>kat_kind f1 (by omega) (fun v hv=>?_) (by decide) hQ,fun i j C hi hj hC=>?_⟩
 . obtain ⟨n,t,rfl⟩:=f2 v hv;exact Looks.of_pure rfl
 . rw [List.length_map] at hi hj;have e:∀ i,i<qs.length->∃ q,(qs.map Value.ref).getD i Value.none=.ref q/\q∈qs:=fun i hi=>⟨qs[i],by simp [hi],List.getElem_mem hi⟩;obtain ⟨x,ex,hx⟩:=e i hi;obtain ⟨y,ey,hy⟩:=e j hj;unfold kas_ask;rw [ex,ey];obtain ⟨ox,xs,nx,x1,x2,x3,x4,x5⟩:=hq x hx;obtain ⟨oy,ys,ny,y1,y2,y3,y4,y5⟩:=hq y hy;rw [show (Value.type "int" != Value.type "tuple")=true by decide];refine kat_lt x1 x3 y1 y3 (D4 hC _ _ fun p hp=>?_);obtain ⟨p1,p2⟩:=p;have m:=List.of_mem_zip hp;obtain ⟨a,t,e1⟩:=x5 p1 m.1;obtain ⟨b,u,e2⟩:=y5 p2 m.2;exact ⟨a,t,b,u,by rw [e1,e2]⟩
end
theorem CK:∀ qs:List Addr,Vals (qs.map V.ref) (qs.map Value.ref)
 | []=>.nil
 | q::qs=>.cons rfl (CK qs)
theorem HQ {H:Hp}:∀ {kvs:List (List Key × V)} {xs:List (List Key × Addr × Value)},KT H kvs xs->∀ {kss:List (List Int)},kvs.map (·.1)=kss.map (·.map Sum.inl)->TupsAt H (xs.map (·.2.1)) kss
 | _,_,.nil,kss,e=>by
   cases kss with
   | nil=>exact .nil
   | cons _ _=>cases e
 | _,_,.cons (a:=p) (b:=q) h t,kss,e=>by
   cases kss with
   | nil=>cases e
   | cons k kss =>
     obtain ⟨e1,e2⟩:=List.cons.inj e;refine .cons ?_ (HQ t e2);have:=h.2.1;rw [show p.1=k.map Sum.inl from e1,List.map_map] at this;exact this
theorem Fs {H:Hp}:∀ {qs:List Addr} {kss:List (List Int)},TupsAt H qs kss->(∀ p∈qs.zip kss,H p.1=some (.tup (p.2.map V.int)))/\(qs.zip kss).map (·.1)=qs/\(qs.zip kss).map (·.2)=kss
 | _,_,.nil=>⟨fun p hp=>by simp at hp,rfl,rfl⟩
 | _,_,.cons (a:=q) (b:=k) h t=>by
   obtain ⟨a1,a2,a3⟩:=Fs t;refine ⟨fun p hp=>?_,by rw [List.zip_cons_cons,List.map_cons,a2],by rw [List.zip_cons_cons,List.map_cons,a3]⟩;rcases List.mem_cons.mp hp with rfl|hp
   . exact h
   . exact a1 p hp
theorem AF {H:Hp}:∀ {zs:List (Addr × List Int)},(∀ p∈zs,H p.1=some (.tup (p.2.map V.int)))->TupsAt H (zs.map (·.1)) (zs.map (·.2))
 | [],_=>.nil
 | z::zs,h=>.cons (h z (.head _)) (AF fun p hp=>h p (.tail _ hp))
section
variable {X:Cx}
theorem DV (hc:X.calm=true):jM X (.builtin "sorted") (fun xs H Q=>∃ (d:Addr) (kvs:List (List Key × V)) (kss:List (List Int)),xs=[.ref d]/\H d=some (.dT kvs)/\kvs.map (·.1)=kss.map (·.map Sum.inl)/\kss.length<64/\(∀ k∈kss,k≠[]) /\
   ∀ (l:Addr) (qs:List Addr) (zss:List (List Int)),H l=none->TupsAt H qs zss->zss.Perm kss->Q (.ref l) (upd H l (.lst (qs.map V.ref)))):=by
 intro pins s σ H xs us Q I r h;obtain ⟨d,kvs,kss,rfl,hd,hk,h64,hne,q⟩:=h;obtain ⟨u,rfl,ru⟩:=mY r;cases ru;obtain ⟨hz,lo,xs,kt,o,es,ep,d1,d2,d3,d4,d5⟩:=Pw I.hok hd;have T:=HQ kt hk;have lk:xs.length=kss.length:=by have:=Paired.length T;rwa [List.length_map] at this
 have le:es.size=xs.length:=by rw [<- Array.length_toList,d4,List.length_map]
 refine Calls.call_function_entry kind_sorted plain_sorted entry_sorted (args_sorted1 _) ?_;unfold Builtin.«sorted»;refine wpAny_bind (m:=checkCount "sorted" 1 1 _) (wpAny_pure ?_);refine wpAny_bind (kdu_collect (A:=X.A.in1) (QA (es:=es) (ep:=ep) lo) (I.ok.hd hc) ⟨o,d1,d2,d3⟩ ?_ fun h' tk acc hk' hacc=>?_)
 . rw [le,lk];exact bE (by omega)
 . have ea:acc.toList=(xs.map (·.2.1)).map Value.ref:=by
     apply List.ext_getElem?;intro j;by_cases hj:j<acc.size
     . obtain ⟨e,e1,e2⟩:=hacc.2 j acc[j] (Array.getElem?_eq_getElem hj);have e3:es.toList[j]?=some e:=(by rw [Array.getElem?_toList];exact e1);rw [d4,List.getElem?_map] at e3;obtain ⟨x,e4,e5⟩:=Option.map_eq_some_iff.mp e3;rw [Array.getElem?_toList,Array.getElem?_eq_getElem hj,e2,<- e5,List.getElem?_map,List.getElem?_map,e4]
       rfl
     . have hj':xs.length<=j:=(by rw [<- le,<- hacc.1];omega);rw [List.getElem?_eq_none (by simpa using hj),List.getElem?_eq_none (by simpa using hj')]
   have la:((xs.map (·.2.1)).map Value.ref).length=kss.length:=by rw [List.length_map,List.length_map,lk]
   rw [ea];refine wpAny_bind (wpAny_newList ?_ (by rw [la];exact bE (by omega)));have hoL:(h'.push (seqObj "list" ((xs.map (·.2.1)).map Value.ref).toArray 0)).get? h'.objs.size=some (seqObj "list" ((xs.map (·.2.1)).map Value.ref).toArray 0):=Heap.get?_push_size _ rfl;have I2:Inv X pins σ H { s with heap:=h',toks:=tk }:=I.kept hk';obtain ⟨tz,tz1,tz2⟩:=Fs T;have ti:∀ h2:Heap,(∀ b o,b≠h'.objs.size->(h'.push (seqObj "list" ((xs.map (·.2.1)).map Value.ref).toArray 0)).get? b=some o->h2.get? b=some o)->∀ a∈xs.map (·.2.1),Mq h2 a:=by
     intro h2 k2 a ha;rw [<- tz1] at ha;obtain ⟨p,hp,rfl⟩:=List.mem_map.mp ha;have hn:=hne p.2 (by rw [<- tz2];exact List.mem_map.mpr ⟨p,hp,rfl⟩);obtain ⟨_,its,r,o,h1,h2',n,h3⟩:=(show ObjOk X.prog X.w H h' p.1 (.tup (p.2.map V.int)) from I2.hok p.1 _ (tz p hp));refine ⟨o,its,n,k2 _ _ (Nat.ne_of_lt (Heap.lt_size h1)) (Heap.get?_push_of_some _ h1),h2',h3,fun e=>?_,Gh r⟩;subst e;have:=Paired.length r;rw [List.length_map] at this;exact hn (List.length_eq_zero_iff.mp this)
   refine wpAny_bind (wpAny_holding (wpAny_call_entry slot_list_sort ⟨_,hoL,rfl⟩ entry_list_sort (Bz hoL (by rw [la];exact h64) (fun g2 h2 k2=>Qd (ti h2 k2) (by rw [List.length_map] at g2;exact g2)) fun out po=>⟨_,rfl,?_⟩) (args_list_sort _)));refine wpAny_pure ⟨_,rfl,?_⟩;obtain ⟨zs,e1,e2⟩:=Dx (f:=fun p:Addr × List Int=>Value.ref p.1) po ((xs.map (·.2.1)).zip kss) (((congrArg (List.map Value.ref) tz1).symm).trans (List.map_map ..));obtain ⟨n,hn⟩:∃ n,(sortedHeap (h'.push (seqObj "list" ((xs.map (·.2.1)).map Value.ref).toArray 0)) h'.objs.size ((xs.map (·.2.1)).map Value.ref) out).get? h'.objs.size=some (seqObj "list" out n):=sortedHeap_at hoL;have e3:(zs.map (·.2)).Perm kss:=by have:=e2.map (·.2);rwa [tz2] at this
   refine ⟨.ref h'.objs.size,_,I2.laid (a:=h'.objs.size) (o:=.lst ((zs.map (·.1)).map V.ref)) (t':=tk) (fun b u e=>?_) (Nat.le_refl _) ⟨?_,out.toList,n,?_,?_⟩,rfl,q _ (zs.map (·.1)) (zs.map (·.2)) (I2.hok.fresh (Nat.le_refl _)) (AF fun p hp=>tz p (e2.mem_iff.mp hp)) e3⟩
   . rw [sortedHeap_old (Nat.ne_of_lt (Heap.lt_size e)) (Nat.lt_of_lt_of_le (Heap.lt_size e) (by rw [Heap.size_push];exact Nat.le_succ _))];exact Heap.get?_push_of_some _ e
   . rw [List.length_map,List.length_map];have:=e3.length_eq;rw [List.length_map] at this;rw [this];exact bE (by omega)
   . rw [e1,show zs.map (fun p:Addr × List Int=>Value.ref p.1)=(zs.map (·.1)).map Value.ref by rw [List.map_map];rfl];exact CK _
   . simpa [seqObj] using hn
end
end L2
set_option Elab.async false
set_option linter.all false
set_option maxRecDepth 100000
namespace L2
theorem DZ {κ:Type} [DecidableEq κ] {kvs:List (κ × V)} {k:κ} {v:V} {p:κ × V} (h:p∈dS kvs k v):p.1=k\/∃ q∈kvs,p.1=q.1:=by
 unfold dS at h;split at h
 . obtain ⟨q,hq,e⟩:=List.mem_map.mp h;refine .inr ⟨q,hq,?_⟩;rw [<- e];split <;> rfl
 . rcases List.mem_append.mp h with h|h
   . exact .inr ⟨p,h,rfl⟩
   . rw [List.mem_singleton.mp h];exact .inl rfl
theorem FA {κ:Type} [DecidableEq κ]:∀ {kvs:List (κ × V)} {p:κ × V},p∈kvs->(cR kvs p.1).isSome=true
 | q::r,p,h=>by
   unfold cR;rw [List.find?_cons];by_cases e:q.1=p.1
   . simp [e]
   . rcases List.mem_cons.mp h with z|z
     . rw [z] at e;exact absurd rfl e
     . simp only [e,decide_false];exact FA z
end L2
namespace Pb
open L2 PySem
section
variable {m:Int} {rs:List Road} {r:Int} {par:Int->Int} {dep:Int->Nat}
theorem zd (g:Good m rs) (v x y:Int) (h:x<=y):hnd rs par v x<=hnd rs par v y:=by
 have pos:∀ a b:Int,0<(aH rs a b).getD 1:=fun a b=>by
   cases e:aH rs a b with
   | none=>decide
   | some k =>
     obtain ⟨k',e',h2,_⟩:=ko g (uK.mp (show (aH rs a b).isSome=true by rw [e];rfl));rw [e] at e';cases e';show 0<k;omega
 have p1:=pos v (par v);have p2:=pos (par v) v;unfold hnd;by_cases c:0<=x
 . rw [if_pos c,if_pos (by omega)];exact Int.ediv_le_ediv p1 h
 . rw [if_neg c];by_cases c2:0<=y
   . rw [if_pos c2];have a1:0<=y / (aH rs v (par v)).getD 1:=Int.ediv_nonneg c2 (by omega);have a2:x*(aH rs (par v) v).getD 1<=0:=Int.mul_nonpos_of_nonpos_of_nonneg (by omega) (by omega);omega
   . rw [if_neg c2];exact Int.mul_le_mul_of_nonneg_right h (by omega)
theorem Fl {x n k k':Int} (n0:1<=n) (k2:2<=k) (k2':2<=k'):(n+(if 0<=x + -(n*k) then (x + -(n*k)) / k else (x + -(n*k))*k')<=if 0<=x then x / k else x*k') /\
   (-(n*k)+(if 0<=x+n then (x+n) / k' else (x+n)*k)<=if 0<=x then x / k' else x*k):=by
 have nk:n*2<=n*k:=Int.mul_le_mul_of_nonneg_left k2 (by omega);have nk':n*2<=n*k':=Int.mul_le_mul_of_nonneg_left k2' (by omega)
 constructor
 . by_cases c1:0<=x + -(n*k)
   . rw [if_pos c1,if_pos (by omega),<- Int.neg_mul,Int.add_mul_ediv_right _ _ (by omega)];omega
   . rw [if_neg c1];by_cases c2:0<=x
     . rw [if_pos c2];have q1:=Int.mul_ediv_add_emod x k;have q2:=Int.emod_lt_of_pos x (show 0<k by omega);have q3:=Int.emod_nonneg x (show k≠0 by omega);have q4:x / k<n:=by
         rw [Int.ediv_lt_iff_lt_mul (by omega)];omega
       have e1:k*(x / k - n)=k*(x / k) - n*k:=(by rw [Int.mul_sub,Int.mul_comm k n]);have e3:x + -(n*k)<=k*(x / k - n+1) - 1:=by
         have:k*(x / k - n+1)=k*(x / k - n)+k:=(by rw [Int.mul_add,Int.mul_one]);omega
       have e4:k*(x / k - n+1)<=2*(x / k - n+1):=by
         have:=Int.mul_le_mul_of_nonpos_right k2 (show x / k - n+1<=0 by omega);omega
       have e5:x + -(n*k)<=(x / k - n):=(by omega);have e6:(x + -(n*k))*k'<=(x / k - n)*k':=Int.mul_le_mul_of_nonneg_right e5 (by omega);have e7:(x / k - n)*k'<=(x / k - n)*1:=Int.mul_le_mul_of_nonpos_left (show x / k - n<=0 by omega) (show 1<=k' by omega);omega
     . rw [if_neg c2];have e1:(x + -(n*k))*k'=x*k' + -(n*k)*k':=Int.add_mul ..;have e2:-(n*k)*k'<=-(n*k)*1:=Int.mul_le_mul_of_nonpos_left (show -(n*k)<=0 by omega) (show 1<=k' by omega);omega
 . by_cases c1:0<=x
   . rw [if_pos c1,if_pos (by omega)];have a1:(x+n) / k'<=(x+n*k') / k':=Int.ediv_le_ediv (by omega) (by omega);rw [Int.add_mul_ediv_right _ _ (by omega)] at a1;omega
   . rw [if_neg c1];by_cases c2:0<=x+n
     . rw [if_pos c2];have a1:(x+n) / k'<=x+n:=Int.ediv_le_self _ c2;have a2:(-x)*2<=(-x)*k:=Int.mul_le_mul_of_nonneg_left k2 (by omega);have a3:(n+x)*2<=(n+x)*k:=Int.mul_le_mul_of_nonneg_left k2 (by omega);have a4:(n+x)*k=n*k+x*k:=Int.add_mul ..;omega
     . rw [if_neg c2,Int.add_mul];omega
theorem Kx (g:Good m rs) (R:Rooted m rs r par dep) (r0:0<=r) (r1:r<m) {xs ys:List Int} (xl:(xs.length:Int)=m) {s:Stp} (is:lx m rs s=true) :
   gat m rs r par dep (fun v=>(bA m (b9 rs xs s) ys).getD v.toNat 0) (hnd rs par) r<=gat m rs r par dep (fun v=>(bA m xs ys).getD v.toNat 0) (hnd rs par) r:=by
 obtain ⟨ar,nb,n1⟩:=pP is;have ad:=(gh g).mp nb;have br:=(g.adj ad).2.1;obtain ⟨k,ek,k0,k1⟩:=ko g ad;obtain ⟨k',ek',k0',k1'⟩:=ko g ad.symm;have td:dG rs s.1 s.2.1=k:=by unfold dG;rw [ek];rfl
 have ov:∀ (zs:List Int) (v:Int),0<=v->v<m->(bA m zs ys).getD v.toNat 0=zs.getD v.toNat 0 - ys.getD v.toNat 0:=fun zs v v0 v1=>by
   unfold bA;rw [List.getD,List.getElem?_map,List.getElem?_range (by omega)]
   rfl
 have cv:∀ {c dc dp:Int},0<=par c/\par c<m->Chg m r par (fun v=>xs.getD v.toNat 0) (fun v=>(b9 rs xs s).getD v.toNat 0) c dc dp->Chg m r par (fun v=>(bA m xs ys).getD v.toNat 0) (fun v=>(bA m (b9 rs xs s) ys).getD v.toNat 0) c dc dp:=fun {c dc dp} pr C=>by
   refine ⟨C.rng,C.nr,?_,?_,fun v v0 v1 w1 w2=>?_⟩
   . show (bA m (b9 rs xs s) ys).getD c.toNat 0=(bA m xs ys).getD c.toNat 0+dc;rw [ov _ c C.rng.1 C.rng.2,ov _ c C.rng.1 C.rng.2];have:=C.own;omega
   . show (bA m (b9 rs xs s) ys).getD (par c).toNat 0=(bA m xs ys).getD (par c).toNat 0+dp;rw [ov _ _ pr.1 pr.2,ov _ _ pr.1 pr.2];have:=C.up;omega
   . show (bA m (b9 rs xs s) ys).getD v.toNat 0=(bA m xs ys).getD v.toNat 0;rw [ov _ v v0 v1,ov _ v v0 v1];have:=C.oth v v0 v1 w1 w2;omega
 rcases y6 g R xl is with ⟨h1,h2,C⟩|⟨h1,h2,C⟩
 . refine (cv (by rw [h2];exact br) C).le g R (zd g) ?_ _ r rfl r0 r1 fun z=>h1 z.symm;unfold hnd;rw [h2,ek,ek',td];exact (Fl n1 k0 k0').1
 . refine (cv (by rw [h2];exact ar) C).le g R (zd g) ?_ _ r rfl r0 r1 fun z=>h1 z.symm;unfold hnd;rw [h2,ek,ek',td];exact (Fl n1 k0 k0').2
theorem sM {zs ys:List Int} (i:Nat):(bA m zs ys).getD i 0=if i<m.toNat then zs.getD i 0 - ys.getD i 0 else 0:=by
 unfold bA;by_cases c:i<m.toNat
 . rw [if_pos c,List.getD,List.getElem?_map,List.getElem?_range c]
   rfl
 . rw [if_neg c,List.getD,List.getElem?_map,List.getElem?_eq_none (by rw [List.length_range];omega)]
   rfl
end
section
end
end Pb
set_option Elab.async false
set_option linter.all false
set_option maxRecDepth 100000
namespace L2
open PySem PySem.Spec PyProof.Rows
def KG (tk tv:TE):TE:=fun σ H Q=>∀ p,H p=none->rV [(tk,tv)] σ (upd H p (.dT [])) fun ps H2=>H2 p=some (.dT [])/\∃ (k:List Key) (b:Addr) (y:V),ps=[(.ref b,y)]/\H2 b=some (.tup (k.map kV))/\Q (.ref p) (upd H2 p (.dT [(k,y)]))
end L2
set_option Elab.async false
set_option linter.all false
set_option maxRecDepth 100000
namespace Pb
open L2 PySem
inductive Come (m:Int) (rs:List Road) (xs:List Int):List Int->Prop
 | start:Come m rs xs xs
 | step {z:List Int} {a b:Int}:Come m rs xs z->oB m rs z (a,b,1)=true->Come m rs xs (b9 rs z (a,b,1))
theorem zN:∀ {z:List Int},(∀ x∈z,0<=x)->0<=z.sum
 | [],_=>Int.le_refl 0
 | x::z,h=>by
   have h1:=h x (.head _);have h2:=zN fun y hy=>h y (.tail _ hy);rw [List.sum_cons];omega
end Pb
namespace Pb
open L2 PySem
section
variable {m:Int} {rs:List Road} {xs:List Int}
theorem Come.len {z:List Int} (h:Come m rs xs z):z.length=xs.length:=by
 induction h with
 | start=>rfl
 | step _ _ ih=>rw [CL];exact ih
variable {r:Int} {par:Int->Int} {dep:Int->Nat}
end
end Pb
set_option Elab.async false
set_option linter.all false
set_option maxRecDepth 100000
namespace L2
open PySem PySem.Spec PyProof.Rows Pb
section
variable {X:Cx}
end
end L2
set_option Elab.async false
set_option linter.all false
set_option maxRecDepth 100000
namespace L2
open PySem PySem.Spec PyProof.Rows
end L2
namespace Pb
end Pb
namespace L2
open PySem Pb
end L2
namespace L2
open PySem
end L2
namespace L2
open PySem
end L2
namespace L2
open PySem PySem.Spec PyProof.Rows Pb
end L2
namespace L2
open PySem
end L2
set_option Elab.async false
set_option linter.all false
set_option maxRecDepth 100000
namespace Pb
open L2 PySem
theorem Gd {P:Int->Prop} (f:Int->Nat):∀ (n:Nat) (v:Int),f v=n->P v->∃ v,P v/\∀ u,P u->f v<=f u:=by
 intro n
 induction n using Nat.strongRecOn with
 | _ n ih =>
   intro v hn hp;by_cases c:∃ u,P u/\f u<f v
   . obtain ⟨u,h1,h2⟩:=c;exact ih (f u) (by omega) u rfl h1
   . exact ⟨v,hp,fun u hu=>Nat.le_of_not_lt fun h=>c ⟨u,hu,h⟩⟩
theorem DU:∀ {l:List Int},(∀ x∈l,x<=0)->l.sum<=0
 | [],_=>Int.le_refl 0
 | x::l,h=>by
   have h1:=h x (.head _);have h2:=DU fun y hy=>h y (.tail _ hy);rw [List.sum_cons];omega
theorem CJ:∀ {l:List Int} {y:Int},(∀ x∈l,x<=0)->y∈l->l.sum<=y
 | x::l,y,h,hy=>by
   have h1:=h x (.head _);have h2:=DU fun y hy=>h y (.tail _ hy);rw [List.sum_cons];rcases List.mem_cons.mp hy with e|e
   . omega
   . have:=CJ (fun y hy=>h y (.tail _ hy)) e;omega
theorem yG:∀ {l:List Int},(∀ x∈l,x=0)->l.sum=0
 | [],_=>rfl
 | x::l,h=>by rw [List.sum_cons,h x (.head _),yG fun y hy=>h y (.tail _ hy)];rfl
section
variable {m:Int} {rs:List Road} {r:Int} {par:Int->Int} {dep:Int->Nat}
abbrev stg (m:Int) (rs:List Road) (r:Int) (par:Int->Int) (dep:Int->Nat) (ys z:List Int) (v:Int):Int:=gat m rs r par dep (fun v=>(bA m z ys).getD v.toNat 0) (hnd rs par) v
theorem AH (g:Good m rs) (R:Rooted m rs r par dep) {ys z:List Int} {v:Int} (v0:0<=v) (v1:v<m):stg m rs r par dep ys z v=z.getD v.toNat 0 - ys.getD v.toNat 0+((aG m rs (front r par v) v).map fun c=>hnd rs par c (stg m rs r par dep ys z c)).sum:=by
 show gat m rs r par dep _ _ v=_;rw [bG g R v0 v1];show (bA m z ys).getD v.toNat 0+_=_;rw [sM,if_pos (by omega)]
theorem FH {xs ys:List Int} {s:Stp} {c dc dp:Int} (pr:0<=par c/\par c<m) (C:Chg m r par (fun v=>xs.getD v.toNat 0) (fun v=>(b9 rs xs s).getD v.toNat 0) c dc dp):Chg m r par (fun v=>(bA m xs ys).getD v.toNat 0) (fun v=>(bA m (b9 rs xs s) ys).getD v.toNat 0) c dc dp:=by
 have ov:∀ (zs:List Int) (v:Int),0<=v->v<m->(bA m zs ys).getD v.toNat 0=zs.getD v.toNat 0 - ys.getD v.toNat 0:=fun zs v v0 v1=>by
   rw [sM,if_pos (by omega)]
 refine ⟨C.rng,C.nr,?_,?_,fun v v0 v1 w1 w2=>?_⟩
 . show (bA m (b9 rs xs s) ys).getD c.toNat 0=(bA m xs ys).getD c.toNat 0+dc;rw [ov _ c C.rng.1 C.rng.2,ov _ c C.rng.1 C.rng.2];have:=C.own;omega
 . show (bA m (b9 rs xs s) ys).getD (par c).toNat 0=(bA m xs ys).getD (par c).toNat 0+dp;rw [ov _ _ pr.1 pr.2,ov _ _ pr.1 pr.2];have:=C.up;omega
 . show (bA m (b9 rs xs s) ys).getD v.toNat 0=(bA m xs ys).getD v.toNat 0;rw [ov _ v v0 v1,ov _ v v0 v1];have:=C.oth v v0 v1 w1 w2;omega
theorem LO (g:Good m rs) (R:Rooted m rs r par dep) (r0:0<=r) (r1:r<m) {z ys:List Int} (zl:(z.length:Int)=m) (y0:∀ y∈ys,0<=y) (s0:0<=stg m rs r par dep ys z r) :
   ((∀ v,0<=v->v<m->ys.getD v.toNat 0<=z.getD v.toNat 0)/\z.getD r.toNat 0 - ys.getD r.toNat 0=stg m rs r par dep ys z r)\/∃ a b,oB m rs z (a,b,1)=true/\stg m rs r par dep ys (b9 rs z (a,b,1)) r=stg m rs r par dep ys z r:=by
 have yn:∀ v:Int,0<=ys.getD v.toNat 0:=fun v=>Ib y0 _;have tl:∀ v,0<=v->v<m->v≠r->∃ k k',aH rs v (par v)=some k/\aH rs (par v) v=some k'/\2<=k/\2<=k'/\(0<=par v/\par v<m)/\Adj rs v (par v)/\dep (par v)+1=dep v:=fun v v0 v1 hv=>by
   obtain ⟨u1,u2,u3⟩:=R.up v v0 v1 hv;obtain ⟨k,ek,k0,_⟩:=ko g u2;obtain ⟨k',ek',k0',_⟩:=ko g u2.symm;exact ⟨k,k',ek,ek',k0,k0',u1,u2,u3⟩
 by_cases cA:∃ v,(0<=v/\v<m/\v≠r)/\(aH rs v (par v)).getD 1<=stg m rs r par dep ys z v
 . -- the deepest place that has something to hand on
   obtain ⟨v',hv'⟩:=cA;obtain ⟨v,⟨⟨v0,v1,vr⟩,hv⟩,mx⟩:=Gd (P:=fun v=>(0<=v/\v<m/\v≠r)/\(aH rs v (par v)).getD 1<=stg m rs r par dep ys z v) (fun v=>m.toNat - dep v) _ v' rfl hv';obtain ⟨k,k',ek,ek',k0,k0',pr,ad,dp⟩:=tl v v0 v1 vr;rw [ek] at hv;have hv:k<=stg m rs r par dep ys z v:=hv;have np:∀ x∈(aG m rs (front r par v) v).map fun c=>hnd rs par c (stg m rs r par dep ys z c),x<=0:=fun x hx=>by
     obtain ⟨c,hc,rfl⟩:=List.mem_map.mp hx;obtain ⟨w1,w2,w3⟩:=(aO g R v0 v1).mp hc;have dk:=R.pos w1.1 w1.2 w2;have dl:=dM R w1.1 w1.2;rw [w3] at dk;obtain ⟨q,q',eq,eq',q0,q0',_⟩:=tl c w1.1 w1.2 w2;have nc:¬ q<=stg m rs r par dep ys z c:=fun h=>by
       have:=mx c ⟨⟨w1.1,w1.2,w2⟩,by rw [eq];exact h⟩;omega
     unfold hnd;rw [eq,eq'];show (if 0<=stg m rs r par dep ys z c then stg m rs r par dep ys z c / q else stg m rs r par dep ys z c*q')<=0;generalize stg m rs r par dep ys z c=G at nc ⊢;by_cases c0:0<=G
     . rw [if_pos c0,Int.ediv_eq_zero_of_lt c0 (by omega)];exact Int.le_refl _
     . rw [if_neg c0];exact Int.mul_nonpos_of_nonpos_of_nonneg (by omega) (by omega)
   have e:=AH g R (ys:=ys) (z:=z) v0 v1;have sp:=DU np;have yv:=yn v;have td:dG rs v (par v)=k:=by unfold dG;rw [ek];rfl
   have is:lx m rs (v,par v,1)=true:=by
     unfold lx;have nb:=(gh g).mpr ad;simp only [Bool.and_eq_true,decide_eq_true_eq];exact ⟨⟨⟨v0,v1⟩,nb⟩,by decide⟩
   refine .inr ⟨v,par v,?_,?_⟩
   . unfold oB;rw [is,Bool.true_and,decide_eq_true_eq];show 1*dG rs v (par v)<=z.getD v.toNat 0;rw [td];omega
   . rcases y6 g R zl is with ⟨h1,h2,C⟩|⟨h1,h2,C⟩
     . refine (FH pr C).eq g R ?_ _ r rfl r0 r1 fun w=>vr w.symm;show 1+hnd rs par v (stg m rs r par dep ys z v + -(1*dG rs v (par v)))=hnd rs par v (stg m rs r par dep ys z v);rw [td];unfold hnd;rw [ek];generalize stg m rs r par dep ys z v=G at hv ⊢;rw [if_pos (by omega),if_pos (by omega)];show 1+(G + -(1*k)) / k=G / k;rw [<- Int.neg_mul,Int.add_mul_ediv_right _ _ (by omega)];omega
     . have d2:=R.pos pr.1 pr.2 h1;simp only at h2;rw [h2] at d2;omega
 . have up:∀ v,0<=v->v<m->v≠r->hnd rs par v (stg m rs r par dep ys z v)<=0/\(0<=stg m rs r par dep ys z v->hnd rs par v (stg m rs r par dep ys z v)=0):=fun v v0 v1 vr=>by
     obtain ⟨k,k',ek,ek',k0,k0',pr,ad,dp⟩:=tl v v0 v1 vr;have nc:¬ k<=stg m rs r par dep ys z v:=fun h=>cA ⟨v,⟨v0,v1,vr⟩,by rw [ek];exact h⟩;unfold hnd;rw [ek,ek'];show (if 0<=stg m rs r par dep ys z v then stg m rs r par dep ys z v / k else stg m rs r par dep ys z v*k')<=0/\(0<=stg m rs r par dep ys z v->(if 0<=stg m rs r par dep ys z v then stg m rs r par dep ys z v / k else stg m rs r par dep ys z v*k')=0);generalize stg m rs r par dep ys z v=G at nc ⊢;by_cases c0:0<=G
     . rw [if_pos c0,Int.ediv_eq_zero_of_lt c0 (by omega)];exact ⟨Int.le_refl _,fun _=>rfl⟩
     . rw [if_neg c0];exact ⟨Int.mul_nonpos_of_nonpos_of_nonneg (by omega) (by omega),fun h=>absurd h c0⟩
   by_cases cB:∃ v,(0<=v/\v<m/\v≠r)/\stg m rs r par dep ys z v<0
   . -- the nearest place that lacks something
     obtain ⟨v',hv'⟩:=cB;obtain ⟨v,⟨⟨v0,v1,vr⟩,hv⟩,mn⟩:=Gd (P:=fun v=>(0<=v/\v<m/\v≠r)/\stg m rs r par dep ys z v<0) dep _ v' rfl hv';obtain ⟨k,k',ek,ek',k0,k0',pr,ad,dp⟩:=tl v v0 v1 vr;have pg:0<=stg m rs r par dep ys z (par v):=by
       by_cases c:par v=r
       . rw [c];exact s0
       . refine Int.le_of_not_gt fun h=>?_;have:=mn (par v) ⟨⟨pr.1,pr.2,c⟩,h⟩;omega
     have e:=AH g R (ys:=ys) (z:=z) pr.1 pr.2;have sp:=CJ (l:=(aG m rs (front r par (par v)) (par v)).map fun c=>hnd rs par c (stg m rs r par dep ys z c)) (y:=hnd rs par v (stg m rs r par dep ys z v)) (fun x hx=>by
       obtain ⟨c,hc,rfl⟩:=List.mem_map.mp hx;obtain ⟨w1,w2,w3⟩:=(aO g R pr.1 pr.2).mp hc;exact (up c w1.1 w1.2 w2).1) (List.mem_map.mpr ⟨v,(aO g R pr.1 pr.2).mpr ⟨⟨v0,v1⟩,vr,rfl⟩,rfl⟩)
     have hh:hnd rs par v (stg m rs r par dep ys z v)=stg m rs r par dep ys z v*k':=by
       unfold hnd;rw [ek',if_neg (by omega)]
       rfl
     have hk:stg m rs r par dep ys z v*k'<=(-1)*k':=Int.mul_le_mul_of_nonneg_right (by omega) (by omega);have yv:=yn (par v);have td:dG rs (par v) v=k':=(by unfold dG;rw [ek'];rfl);have is:lx m rs (par v,v,1)=true:=by
       unfold lx;have nb:=(gh g).mpr ad.symm;simp only [Bool.and_eq_true,decide_eq_true_eq];exact ⟨⟨⟨pr.1,pr.2⟩,nb⟩,by decide⟩
     refine .inr ⟨par v,v,?_,?_⟩
     . unfold oB;rw [is,Bool.true_and,decide_eq_true_eq];show 1*dG rs (par v) v<=z.getD (par v).toNat 0;rw [td];omega
     . rcases y6 g R zl is with ⟨h1,h2,C⟩|⟨h1,h2,C⟩
       . have d2:=R.pos pr.1 pr.2 h1;simp only at h2;rw [h2] at d2;omega
       . refine (FH pr C).eq g R ?_ _ r rfl r0 r1 fun w=>vr w.symm;show -(1*dG rs (par v) v)+hnd rs par v (stg m rs r par dep ys z v+1)=hnd rs par v (stg m rs r par dep ys z v);rw [td,hh];unfold hnd;rw [ek,ek'];generalize stg m rs r par dep ys z v=G at hv ⊢;show -(1*k')+(if 0<=G+1 then (G+1) / k else (G+1)*k')=G*k';by_cases c:0<=G+1
         . have:G=-1:=(by omega);subst this;rw [if_pos c];show -(1*k')+0 / k=-1*k';rw [Int.zero_ediv];omega
         . rw [if_neg c,Int.add_mul];omega
   . have nn:∀ v,0<=v->v<m->0<=stg m rs r par dep ys z v:=fun v v0 v1=>by
       by_cases c:v=r
       . rw [c];exact s0
       . exact Int.le_of_not_gt fun h=>cB ⟨v,⟨v0,v1,c⟩,h⟩
     have ev:∀ v,0<=v->v<m->z.getD v.toNat 0 - ys.getD v.toNat 0=stg m rs r par dep ys z v:=fun v v0 v1=>by
       have e:=AH g R (ys:=ys) (z:=z) v0 v1;rw [yG fun x hx=>?_] at e
       . omega
       . obtain ⟨c,hc,rfl⟩:=List.mem_map.mp hx;obtain ⟨w1,w2,w3⟩:=(aO g R v0 v1).mp hc;exact (up c w1.1 w1.2 w2).2 (nn c w1.1 w1.2)
     refine .inl ⟨fun v v0 v1=>?_,ev r r0 r1⟩;have h1:=ev v v0 v1;have h2:=nn v v0 v1;omega
theorem Come.pre {xs z:List Int} {a b:Int} (c:oB m rs xs (a,b,1)=true) (h:Come m rs (b9 rs xs (a,b,1)) z):Come m rs xs z:=by
 induction h with
 | start=>exact .step .start c
 | step _ c2 ih=>exact .step ih c2
theorem KO (g:Good m rs) {z:List Int} (zl:(z.length:Int)=m) {a b:Int} (c:oB m rs z (a,b,1)=true):(b9 rs z (a,b,1)).sum<z.sum:=by
 obtain ⟨is,en⟩:=zv c;obtain ⟨ar,nb,_⟩:=pP is;obtain ⟨k,ek,tk,kk,br⟩:=KP g is;have ad:=g.adj ((gh g).mp nb);simp only at ar nb ek tk br en ad;unfold b9;show ((z.set a.toNat (z.getD a.toNat 0 - 1*dG rs a b)).set b.toNat ((z.set a.toNat (z.getD a.toNat 0 - 1*dG rs a b)).getD b.toNat 0+1)).sum<z.sum;rw [mG _ _ _ (by rw [List.length_set];omega),mG _ _ _ (by omega),tk];omega
theorem Qb (g:Good m rs) (R:Rooted m rs r par dep) (r0:0<=r) (r1:r<m) {ys:List Int} (y0:∀ y∈ys,0<=y):∀ (n:Nat) (z:List Int),z.sum.toNat=n->(z.length:Int)=m->(∀ x∈z,0<=x)->0<=stg m rs r par dep ys z r ->
   ∃ z',Come m rs z z'/\(∀ v,0<=v->v<m->ys.getD v.toNat 0<=z'.getD v.toNat 0)/\z'.getD r.toNat 0 - ys.getD r.toNat 0=stg m rs r par dep ys z r:=by
 intro n
 induction n using Nat.strongRecOn with
 | _ n ih =>
   intro z hn zl z0 s0;rcases LO g R r0 r1 zl y0 s0 with ⟨h1,h2⟩|⟨a,b,c,e⟩
   . exact ⟨z,.start,h1,h2⟩
   . have z0':=Qq g zl z0 c;have lt:=KO g zl c;have s0':=zN z0';obtain ⟨z',h1,h2,h3⟩:=ih _ (by omega) (b9 rs z (a,b,1)) rfl (by rw [CL];exact zl) z0' (by rw [e];exact s0);exact ⟨z',h1.pre c,h2,by rw [h3,e]⟩
theorem Come.stg_le (g:Good m rs) (R:Rooted m rs r par dep) (r0:0<=r) (r1:r<m) {xs ys:List Int} (xl:(xs.length:Int)=m) {z:List Int} (h:Come m rs xs z):stg m rs r par dep ys z r<=stg m rs r par dep ys xs r:=by
 induction h with
 | start=>exact Int.le_refl _
 | step hz c ih=>exact Int.le_trans (Kx g R r0 r1 (by rw [hz.len];exact xl) (zv c).1) ih
theorem Fr (g:Good m rs) (v x:Int) (h:0<=x):0<=hnd rs par v x:=by
 have:=zd (par:=par) g v 0 x h;have e:hnd rs par v 0=0:=by unfold hnd;rw [if_pos (Int.le_refl _)];exact Int.zero_ediv _
 omega
theorem Ec {held:Int->Int} {con:Int->Int->Int} (hz:∀ v,0<=held v) (hc:∀ v x,0<=x->0<=con v x):∀ (n:Nat) (v:Int),0<=xF m rs r par held con n v
 | 0,v=>hz v
 | n+1,v=>by
   show 0<=held v+((aG m rs (front r par v) v).map fun c=>con c (xF m rs r par held con n c)).sum;have h1:=hz v;have h2:0<=((aG m rs (front r par v) v).map fun c=>con c (xF m rs r par held con n c)).sum:=zN fun x hx=>by
     obtain ⟨c,hc',rfl⟩:=List.mem_map.mp hx;exact hc c _ (Ec hz hc n c)
   omega
theorem RV (g:Good m rs) (R:Rooted m rs r par dep) (r0:0<=r) (r1:r<m) {ys z:List Int} (h:∀ v,0<=v->v<m->ys.getD v.toNat 0<=z.getD v.toNat 0):z.getD r.toNat 0 - ys.getD r.toNat 0<=stg m rs r par dep ys z r:=by
 have hz:∀ v:Int,0<=(bA m z ys).getD v.toNat 0:=fun v=>by
   rw [sM];by_cases c:v.toNat<m.toNat
   . rw [if_pos c];have:=h (v.toNat:Int) (by omega) (by omega);rw [Int.toNat_natCast] at this;omega
   . rw [if_neg c];exact Int.le_refl _
 rw [AH g R r0 r1];have:0<=((aG m rs (front r par r) r).map fun c=>hnd rs par c (stg m rs r par dep ys z c)).sum:=zN fun x hx=>by
   obtain ⟨c,hc,rfl⟩:=List.mem_map.mp hx;exact Fr g c _ (Ec hz (Fr g) _ _)
 omega
end
section
variable {m:Int} {rs:List Road} {xs:List Int}
end
end Pb
set_option Elab.async false
set_option linter.all false
set_option maxRecDepth 100000
namespace L2
open PySem PySem.Spec PyProof.Rows PySem.W Pb
section
variable {X:Cx} {pins:List (Addr × Obj)} {σ:St} {H:Hp} {s:Shared}
end
def Itd (d:Addr) (o:Obj) (kvs:List (List Key × V)):It :=
 ⟨fun i H=>H d=some (.frz o (.dT kvs))/\i<kvs.length,fun i H x H'=>H'=H/\∃ (q:Addr) (k:List Key) (v:V),x=.ref q/\kvs[i]?=some (k,v)/\H q=some (.tup (k.map kV)),fun i H=>H d=some (.frz o (.dT kvs))/\i=kvs.length⟩
def Pu (tl:TE) (g:TG) (tb:TS):TS:=fun D σ H=>tl σ H fun x H1=>∃ (d:Addr) (kvs:List (List Key × V)),x=.ref d/\H1 d=some (.dT kvs) /\
 ∀ o,qy (Itd d o kvs) { D with nx:=fun σ' H'=>H' d=some (.frz o (.dT kvs))/\D.nx σ' (upd H' d (.dT kvs)) } g tb σ (upd H1 d (.frz o (.dT kvs)))
section
variable {X:Cx} {tg:Expr}
end
end L2
set_option Elab.async false
set_option linter.all false
set_option maxRecDepth 100000
namespace Pb
open L2 PySem
section
variable {α β:Type}
end
section
variable {m:Int} {rs:List Road} {r:Int} {par:Int->Int} {dep:Int->Nat}
end
end Pb
namespace Pb
open L2 PySem
section
variable {m:Int} {rs:List Road} {r:Int} {par:Int->Int} {dep:Int->Nat} {to:Bool}
end
end Pb
namespace Pb
open L2 PySem
end Pb
namespace Pb
open L2 PySem
end Pb
set_option Elab.async false
set_option linter.all false
set_option maxRecDepth 100000
namespace L2
open PySem PySem.Spec PyProof.Rows
section
variable {X:Cx} {cx:Str} {Nc:List Str} {own:Nat} {js:List Nat} {scope:Scope} {cl:List (Str × Addr)}
end
section
variable {X:Cx} {cx:Str} {Nc:List Str} {own:Nat} {js:List Nat} {scope:Scope} {cl:List (Str × Addr)}
end
end L2
set_option Elab.async false
set_option linter.all false
set_option maxRecDepth 100000
namespace L2
open PySem PySem.Spec PyProof.Rows PySem.W
section
variable {X:Cx}
end
def Its (z:Str):It:=⟨fun i _=>i<z.cps.size,fun i H x H'=>H'=H/\∃ c,z.cps[i]?=some c/\x=.str ⟨#[c]⟩,fun i _=>z.cps.size<=i⟩
section
variable {X:Cx} {tg:Expr}
def Q6 (tl:TE):TI:=fun σ H R=>tl σ H fun x H1=>∃ z,x=.str z/\z.cps.all (·<128)=true/\R (Its z) H1
end
section
variable {P:Program} {w:World} {A:Around} {E:Value->Shared->Prop} {s:Shared}
end
section
variable {X:Cx} {e:Expr} {te:TE} {p2 apos cpos pos2:Pos} {z:Str} {zp:Pos} {zk:Nat}
def KR (K:PySem.W.Frag) (z:Str) (te:TE):TE:=fun σ H Q=>te σ H fun x H1=>∃ (a:Addr) (ys:List Str),x=.ref a/\SqL K H1 a (ys.map V.str)/\(ys.map (·.length)).sum+ys.length*z.length<=16777216/\Q (.str (Str.join z ys.reverse)) H1
end
end L2
set_option Elab.async false
set_option linter.all false
set_option maxRecDepth 100000
namespace Pb
open L2 PySem PySem.W NumText
end Pb
set_option Elab.async false
set_option linter.all false
set_option maxRecDepth 100000
namespace L2
open PySem PySem.Spec PyProof.Rows PySem.W
end L2
namespace Pb
open L2 PySem PySem.W NumText
open PySem.StrLaws (At ChainG occ_tight partsBetween_eq partsFrom strSub_toList subAt_eq sub_whole)
section
variable {X:Str} {u c v:Nat}
end
end Pb
set_option Elab.async false
set_option linter.all false
set_option maxRecDepth 100000
namespace L2
open PySem PySem.Spec PyProof.Rows PySem.W
end L2
namespace Pb
open L2 PySem PySem.W NumText
end Pb
set_option Elab.async false
set_option linter.all false
set_option maxRecDepth 100000
namespace Pb
open L2 PySem
section
variable {m:Int} {rs:List Road} {r:Int} {par:Int->Int} {dep:Int->Nat} {held:Int->Int}
theorem JF:∀ (xs:List Int),(List.range xs.length).map (fun i=>xs.getD i 0)=xs:=fun xs=>by
 refine List.ext_getElem? fun i=>?_;rw [List.getElem?_map];by_cases h:i<xs.length
 . rw [List.getElem?_range h,List.getElem?_eq_getElem h];show some (xs.getD i 0)=_;rw [List.getD,List.getElem?_eq_getElem h]
   rfl
 . rw [List.getElem?_eq_none (by rw [List.length_range];omega),List.getElem?_eq_none (by omega)]
   rfl
theorem K6 {xs:List Int} {n:Nat} (h:xs.length=n):((below n).map fun v=>xs.getD v.toNat 0).sum=xs.sum:=by
 unfold below;rw [List.map_map,<- h];exact congrArg List.sum (JF xs)
theorem HE (R:Rooted m rs r par dep):∀ (n:Nat) (v:Int),dep v=n->0<=v->v<m->BK par r n v=true
 | 0,v,e,h0,h1=>by
   refine decide_eq_true (Classical.byContradiction fun h=>?_);have:=R.pos h0 h1 h;omega
 | n+1,v,e,h0,h1=>by
   show (decide (v=r) || BK par r n (par v))=true;by_cases h:v=r
   . rw [decide_eq_true h];rfl
   . have u:=R.up v h0 h1 h;rw [HE R n (par v) (by omega) u.1.1 u.1.2,Bool.or_true]
theorem Lz (g:Good m rs) (R:Rooted m rs r par dep) (r0:0<=r) (r1:r<m):∃ t,bX m rs r par dep r=r::t/\Order m r par t :=
 AU g R r0 r1 (su g R _ r r0 r1).1 fun v=>by
   rw [xY g R r0 r1];exact ⟨fun h=>h.1,fun h=>⟨h,HE R _ v rfl h.1 h.2⟩⟩
end
end Pb
set_option Elab.async false
set_option linter.all false
set_option maxRecDepth 100000
namespace L2
open PySem PySem.Spec PyProof.Rows
section
variable {prog:Program} {w:World} {A:Around} {E:Value->Shared->Prop} {R:Result->Shared->Prop} {s:Shared}
end
section
variable {M:Model} {A:Around} {E:Value->Shared->Prop} {s:Shared} {Q:Unit->Shared->Prop} {fs:List Addr} {ea T L:Addr} {cls fl hd:Value} {od:Option Addr} {base:Heap} {env:Env} {outer:List Env}
end
section
variable {P:Program} {w:World} {K:PySem.W.Frag} {mg:Str->Option Value} {base:Heap} {N:List Str} {qual:Str} {scope:Scope} {f:Addr} {cd:Value} {A:Around} {outer:List Env} {s:Shared} {H:Hp} {E:XK}
end
section
variable {X:Cx} {Nc:List Str} {own:Nat} {js:List Nat} {scope:Scope} {cl:List (Str × Addr)}
end
section
variable {X:Cx} {Nc:List Str} {own:Nat} {js:List Nat} {scope:Scope} {cl:List (Str × Addr)}
end
section
variable {X:Cx}
end
end L2
set_option Elab.async false
set_option linter.all false
set_option maxRecDepth 100000
namespace L2
open PySem PySem.Spec PyProof.Rows
section
variable {prog:Program} {w:World} {A:Around} {E:Value->Shared->Prop} {h:Heap} {g:Array GenState} {d:Drawn} {t:Nat} {os:OsState}
variable {nm q:Str} {C N:Addr} {bs bm bmB:List Value} {hdct:Bool} {sn:List Str} {sub:List Value} {ab:Bool} {col:Option Bool} {dd:Option Addr} {k0 k1 k2 k3 k5:Option Value} {B newId initId:String}
end
section
variable {M:Model} {A:Around} {E:Value->Shared->Prop} {env:Env}
variable {nm q:Str} {C N:Addr} {bs bm:List Value} {hdct:Bool} {sn:List Str} {sub:List Value} {ab:Bool} {col:Option Bool} {dd:Option Addr} {k0 k1 k2 k3 k5:Option Value} {newId:String}
end
section
variable {prog:Program} {w:World} {A:Around} {E:Value->Shared->Prop} {s:Shared} {env:Env}
variable {nm q:Str} {C N:Addr} {bs bm bmB:List Value} {hdct:Bool} {sn:List Str} {sub:List Value} {ab:Bool} {col:Option Bool} {dd:Option Addr} {k0 k1 k2 k3 k5:Option Value} {B newId initId:String}
end
section
variable {X:Cx} {pins:List (Addr × Obj)} {σ:St} {H:Hp} {s:Shared}
end
section
variable {P:Program} {w:World} {K:PySem.W.Frag} {mg:Str->Option Value} {base:Heap} {N:List Str} {qual:Str} {scope:Scope} {f:Addr} {cd:Value} {A:Around} {outer:List Env} {s:Shared} {H:Hp} {E:XK}
end
section
variable {X:Cx} {x:Str} {np cpos pos:Pos} {e0:Expr} {es:List Expr} {t:TA} {C fI:Addr} {E:XK} {CX:CXT} {k:Nat} {fd:FuncData} {ps:List Str} {sp:Sp}
end
section
variable {X:Cx} {x:Str} {np apos pos:Pos} {e0:Expr} {es:List Expr} {t:TA} {Tl:Addr} {pl:Sem Bool}
end
end L2
set_option Elab.async false
set_option linter.all false
set_option maxRecDepth 100000
namespace L2
open PySem PySem.Spec PyProof.Rows PySem.W PySem.Builtin PySem.Builtin.ObjectAttr
section
variable {K:PySem.W.Frag} {prog:Program} {w:World} {A:Around} {s:Shared} {x C Tl:Addr} {R:Result->Shared->Prop}
end
section
variable {X:Cx} {pins:List (Addr × Obj)} {σ:St} {H:Hp} {s:Shared}
end
section
variable {X:Cx} {pins:List (Addr × Obj)} {σ:St} {H:Hp} {s:Shared} {A:Around} {E:Value->Shared->Prop} {ea C Tl:Addr} {f:Str}
end
section
variable {X:Cx} {o value:Expr} {ta tv:TE} {f:Str} {pos pos':Pos}
end
section
variable {prog:Program} {w:World} {A:Around} {E:Value->Shared->Prop} {s:Shared} {K:PySem.W.Frag} {x C:Addr} {ox:Obj} {od:Obj}
end
section
variable {X:Cx} {o:Expr} {ta:TE} {f:Str} {pos:Pos}
end
end L2
set_option Elab.async false
set_option linter.all false
set_option maxRecDepth 100000
namespace L2
open PySem
def Lw (K:PySem.W.Frag) (C':Addr) (ts:TS) (tr:TH):TH:=fun D σ cls od H=>∃ C b,cls=.ref C/\PySem.W.mroIn K C (.ref C')=some b/\if b=true then ts D σ H else tr D σ cls od H
section
variable {X:Cx} {x:Str} {np pos:Pos} {C':Addr} {b0:Stmt} {suite:List Stmt} {rest:List ExceptHandler} {ts:TS} {tr:TH}
end
end L2
namespace Pb
open L2 PySem
end Pb
set_option Elab.async false
set_option linter.all false
set_option maxRecDepth 100000
namespace Pb
open L2 PySem
section
variable {m:Int} {rs:List Road}
end
section
variable {m:Int} {rs:List Road} {r:Int} {par:Int->Int} {dep:Int->Nat} {st:Int->Int} {xs ys:List Int}
theorem Qj (g:Good m rs) (R:Rooted m rs r par dep) (r0:0<=r) (r1:r<m) {r':Int} {par':Int->Int} {dep':Int->Nat} (R':Rooted m rs r' par' dep') (r0':0<=r') (r1':r'<m) (xl:(xs.length:Int)=m) (x0:∀ x∈xs,0<=x) (y0:∀ y∈ys,0<=y) (s0:0<=stg m rs r par dep ys xs r):0<=stg m rs r' par' dep' ys xs r':=by
 obtain ⟨z,cz,hz,_⟩:=Qb g R r0 r1 y0 _ xs rfl xl x0 s0;have h1:=RV g R' r0' r1' hz;have h2:=cz.stg_le (ys:=ys) g R' r0' r1' xl;have h3:=hz r' r0' r1';omega
end
end Pb
set_option Elab.async false
set_option linter.all false
set_option maxRecDepth 100000
namespace L2
open PySem PySem.Spec PyProof.Rows
section
variable {X:Cx}
def Rv (t:TE):TE:=fun σ H Q=>t σ H fun x H1=>∃ b,x=.bl b/\Q (.bl (b == true)) H1
end
end L2
namespace Pb
open L2 PySem
section
variable {m:Int} {rs:List Road} {r:Int} {par:Int->Int} {dep:Int->Nat} {P:Int->Int} {xs:List Int}
end
end Pb
set_option Elab.async false
set_option linter.all false
set_option maxRecDepth 100000
namespace Pb
open L2 PySem
end Pb
set_option Elab.async false
set_option linter.all false
set_option maxRecDepth 100000
namespace L2
open PySem PySem.Spec PyProof.Rows
section
variable {prog:Program} {w:World} {A:Around} {E:Value->Shared->Prop} {s:Shared}
end
section
variable {X:Cx} {tg:Expr} {Nc:List Str} {own:Nat} {js:List Nat} {scope:Scope} {cl:List (Str × Addr)}
end
section
variable {X:Cx} {x n:Str} {np pos:Pos} {i:Nat} {C':Addr} {b0:Stmt} {suite:List Stmt} {rest:List ExceptHandler} {ts:Addr->TS} {tr:TH}
end
end L2
namespace Pb
open L2 PySem
end Pb
set_option Elab.async false
set_option linter.all false
set_option maxRecDepth 100000
namespace Pb
open L2 PySem
end Pb
set_option Elab.async false
set_option linter.all false
set_option maxRecDepth 100000
namespace L2
open PySem
theorem LZ {K:PySem.W.Frag} {c:Bool} {a p:Addr} {xs:List V} {Q:VK} {g:TG} {tc:TT} {te:TE} {σ0:St} {H0:Hp} (Pv:Nat->List V->St->Hp->Prop) (h0:Pv 0 [] σ0 H0) (hl:∀ i ys σ H,Pv i ys σ H->SqX K c H a xs)
   (hs:∀ (i:Nat) (x:V) (ys:List V) (σ:St) (H:Hp) (q:Addr) (N:List V->St->Hp->Prop),(∀ ys' σ' H',Pv (i+1) ys' σ' H'->N ys' σ' H')->xs[i]?=some x->Pv i ys σ H->H q=none->g (.ref q) σ (upd H q (.tup [.int i,x])) fun σ2 H2=>tc σ2 H2 fun b H3 =>
     if b=true then te σ2 H3 fun y H4=>H4 p=some (.lst ys)/\ys.length<sizeLine/\N (ys++[y]) σ2 (upd H4 p (.lst (ys++[y]))) else N ys σ2 H3)
   (hd:∀ ys σ H,Pv xs.length ys σ H->Q (.ref p) H):sN (Ite K c a) p Q g tc te σ0 H0:=by
 refine ⟨fun i m ys σ H=>m=xs.length - i/\i<=xs.length/\Pv i ys σ H,⟨_,rfl,Nat.zero_le _,h0⟩,?_⟩;rintro i m ys σ H ⟨rfl,hi,pv⟩;have q1:=hl i ys σ H pv;by_cases hlt:i<xs.length
 . refine .inr ⟨⟨xs,xs[i],q1,List.getElem?_eq_getElem hlt⟩,fun x H' y=>?_⟩;obtain ⟨p',x',hp,rfl,rfl,e1⟩:=y;exact hs i x' ys σ H p' (fun ys' σ' H'=>∃ m',m'<xs.length - i/\(m'=xs.length - (i+1)/\i+1<=xs.length/\Pv (i+1) ys' σ' H')) (fun ys' σ' H' pv'=>⟨xs.length - (i+1),by omega,rfl,hlt,pv'⟩) (e1 xs q1) pv hp
 . have e:i=xs.length:=by omega
   subst e;exact .inl ⟨⟨xs,q1,rfl⟩,hd ys σ H pv⟩
def Kpt (o:Addr) (H H':Hp):Prop:=∀ b x,H b=some x->b≠o->H' b=some x
theorem Kpt.refl {o:Addr} {H:Hp}:Kpt o H H:=fun _ _ h _=>h
theorem Kpt.then {o:Addr} {H H1 H2:Hp} (a:Kpt o H H1) (b:Same H1 H2):Kpt o H H2:=fun c x h n=>b c x (a c x h n)
theorem Kpt.put {o:Addr} {H H1:Hp} (a:Kpt o H H1) (x:HO):Kpt o H (upd H1 o x):=fun c y h n=>by rw [aq n];exact a c y h n
theorem Kpt.sqX {K:PySem.W.Frag} {H H':Hp} {o C dx:Addr} {fs:List (Str × V)} {c:Bool} {a:Addr} {xs:List V} (e:Kpt o H H') (ho:H o=some (.ins C dx fs)) (h:SqX K c H a xs):SqX K c H' a xs:=by
 have n:∀ {y:HO},H a=some y->y≠.ins C dx fs->a≠o:=fun hy ny z=>by rw [z,ho] at hy;cases hy;exact ny rfl
 cases c
 . rcases h with (h|⟨o',h⟩)|h
   . exact .inl (.inl (e _ _ h (n h (by intro z;cases z))))
   . exact .inl (.inr ⟨o',e _ _ h (n h (by intro z;cases z))⟩)
   . exact .inr h
 . rcases h with (h|⟨o',h⟩)|h
   . exact .inl (.inl (e _ _ h (n h (by intro z;cases z))))
   . exact .inl (.inr ⟨o',e _ _ h (n h (by intro z;cases z))⟩)
   . exact .inr h
end L2
namespace Pb
open PySem L2
def iL (xs ys:List Int):List Int:=List.zipWith (·+·) xs ys
def zrs (m:Int):List Int:=List.replicate m.toNat 0
def ow (m:Int) (ls:List (List Int)):List Int:=ls.foldl iL (zrs m)
def iR (b l:List Int):List Int:=if b.sum<l.sum then l else b
theorem FV {b l:List Int} (h:b.sum<l.sum):iR b l=l:=if_pos h
theorem Fe {b l:List Int} (h:¬ b.sum<l.sum):iR b l=b:=if_neg h
def upT (rs:List Road) (par:Int->Int) (v:Int):Int:=(aH rs v (par v)).getD 1
def dnT (rs:List Road) (par:Int->Int) (v:Int):Int:=(aH rs (par v) v).getD 1
abbrev kd (m:Int) (rs:List Road) (r:Int) (par:Int->Int) (v:Int):List Int:=aG m rs (front r par v) v
def idK (m:Int) (rs:List Road) (r:Int) (par:Int->Int) (ix:Int->List Int) (v:Int) (x:V):List Int:=ow m (((kd m rs r par v).filter fun k=>decide (V.int k≠x)).map ix)
def jW (b:List Int) (v d:Int):List Int:=b.set v.toNat (b.getD v.toNat 0+d)
def byK (m:Int) (rs:List Road) (r:Int) (par:Int->Int) (nd:Int->Int) (ix:Int->List Int) (gk:Int->Int->List Int) (v room k:Int):List Int :=
 iL (gk k (upT rs par k*(room - nd k*dnT rs par k+1) - 1)) (idK m rs r par ix v (.int k))
def kb (m:Int) (rs:List Road) (r:Int) (par:Int->Int) (nd:Int->Int) (ix:Int->List Int) (gk:Int->Int->List Int) (v y:Int):List Int :=
 ((kd m rs r par v).map (byK m rs r par nd ix gk v (nd v+y))).foldl iR (jW (idK m rs r par ix v .non) v (nd v+y))
def ld (m:Int) (rs:List Road) (r:Int) (par:Int->Int) (nd:Int->Int):Nat->Bool->Int->Int->List Int
 | 0,_,_,_=>[]
 | n+1,true,v,y=>kb m rs r par nd (fun k=>ld m rs r par nd n false k 0) (fun k z=>ld m rs r par nd n true k z) v y
 | n+1,false,v,_=>if 0<nd v then idK m rs r par (fun k=>ld m rs r par nd n false k 0) v .non else kb m rs r par nd (fun k=>ld m rs r par nd n false k 0) (fun k z=>ld m rs r par nd n true k z) v (upT rs par v - 1)
def gld (m:Int) (rs:List Road) (r:Int) (par:Int->Int) (dep:Int->Nat) (nd:Int->Int) (v y:Int):List Int:=ld m rs r par nd (m.toNat - dep v) true v y
def idl (m:Int) (rs:List Road) (r:Int) (par:Int->Int) (dep:Int->Nat) (nd:Int->Int) (v:Int):List Int:=ld m rs r par nd (m.toNat - dep v) false v 0
def iK (m:Int) (xs:List Int):Int:=((below m.toNat).filter fun v=>decide (0<xs.getD v.toNat 0)).headD 0
theorem Hk {m:Int} {xs:List Int} (xl:(xs.length:Int)=m) (nn:∀ x∈xs,0<=x) (h:xs.sum≠0):∃ tl,((below m.toNat).filter fun v=>decide (0<xs.getD v.toNat 0))=iK m xs::tl/\(0<=iK m xs/\iK m xs<m)/\0<xs.getD (iK m xs).toNat 0:=by
 have ex:∃ x∈xs,0<x:=by
   refine Classical.byContradiction fun n=>h ?_;have:∀ l:List Int,(∀ x∈l,x=0)->l.sum=0:=by
     intro l
     induction l with
     | nil=>intro _;rfl
     | cons a l ih=>intro q;rw [List.sum_cons,q a List.mem_cons_self,ih fun x hx=>q x (List.mem_cons_of_mem _ hx)];rfl
   refine this xs fun x hx=>?_;have h1:=nn x hx;have h2:¬ 0<x:=fun z=>n ⟨x,hx,z⟩;omega
 obtain ⟨x,hx,x0⟩:=ex;obtain ⟨i,hi,rfl⟩:=List.mem_iff_getElem.mp hx;have im:(i:Int)∈(below m.toNat).filter fun v=>decide (0<xs.getD v.toNat 0):=by
   refine List.mem_filter.mpr ⟨List.mem_of_getElem? (fZ (show i<m.toNat by omega)),decide_eq_true ?_⟩;rw [show ((i:Int)).toNat=i from rfl,List.getD_eq_getElem?_getD,List.getElem?_eq_getElem hi];exact x0
 unfold iK;cases e:(below m.toNat).filter fun v=>decide (0<xs.getD v.toNat 0) with
 | nil=>rw [e] at im;cases im
 | cons a tl =>
   have am:a∈(below m.toNat).filter fun v=>decide (0<xs.getD v.toNat 0):=by rw [e];exact List.mem_cons_self
   have w:=List.mem_filter.mp am;have r:=c9.mp w.1;exact ⟨tl,rfl,⟨r.1,by have:=r.2;show a<m;omega⟩,of_decide_eq_true w.2⟩
theorem HJ (m:Int):(zrs m).sum=0:=by
 unfold zrs
 induction m.toNat with
 | zero=>rfl
 | succ n ih=>rw [List.replicate_succ,List.sum_cons,ih];rfl
theorem wg:∀ {l:List Int},(∀ x∈l,0<=x)->0<=l.sum
 | [],_=>by decide
 | a::l,h=>by
   have h1:=h a List.mem_cons_self;have h2:=wg fun x hx=>h x (List.mem_cons_of_mem _ hx);rw [List.sum_cons];omega
theorem EM:∀ {l:List Int},(∀ x∈l,0<=x)->∀ {x:Int},x∈l->x<=l.sum
 | a::l,h,x,hx=>by
   have h1:=h a List.mem_cons_self;have h2:=wg fun x hx=>h x (List.mem_cons_of_mem _ hx);rw [List.sum_cons];rcases List.mem_cons.mp hx with rfl|hx
   . omega
   . have:=EM (fun x hx=>h x (List.mem_cons_of_mem _ hx)) hx;omega
theorem EO {α β:Type} {R:α->β->Prop}:∀ {l:List α} {l':List β},Paired R l l'->∀ {i:Nat} {b:β},l'[i]?=some b->∃ a,l[i]?=some a/\R a b
 | _,_,.nil,i,b,e=>by simp at e
 | _,_,.cons (a:=a) (b:=b') h _,0,b,e=>by
   rw [List.getElem?_cons_zero] at e;cases e;exact ⟨a,rfl,h⟩
 | _,_,.cons h hs,i+1,b,e=>by
   rw [List.getElem?_cons_succ] at e;obtain ⟨a,h1,h2⟩:=EO hs e;exact ⟨a,by rw [List.getElem?_cons_succ];exact h1,h2⟩
theorem Cl {α β:Type} {R S:α->β->Prop}:∀ {l:List α} {l':List β},(∀ a b,a∈l->R a b->S a b)->Paired R l l'->Paired S l l'
 | _,_,_,.nil=>.nil
 | _,_,f,.cons h hs=>.cons (f _ _ List.mem_cons_self h) (Cl (fun a b ha=>f a b (List.mem_cons_of_mem _ ha)) hs)
theorem G6 {α β:Type} {R:α->β->Prop}:∀ {l:List α} {l':List β},Paired R l l'->∀ {a:α},a∈l->∃ b,R a b
 | _,_,.nil,a,h=>by cases h
 | _,_,.cons (b:=b) h hs,a,ha=>by
   rcases List.mem_cons.mp ha with rfl|ha
   . exact ⟨b,h⟩
   . exact G6 hs ha
theorem FN {α β:Type} {R:α->β->Prop} {a:α} {b:β} (e:R a b):∀ {l:List α} {l':List β},Paired R l l'->Paired R (l++[a]) (l'++[b])
 | _,_,.nil=>.cons e .nil
 | _,_,.cons x xs=>.cons x (FN e xs)
theorem zW {α:Type} {xs:List α} {i:Int} (h:0<=i):atI xs i=xs[i.toNat]?:=by
 cases e:xs[i.toNat]? with
 | some v=>exact gD h e
 | none =>
   have:=List.getElem?_eq_none_iff.mp e;unfold atI ixN;rw [if_pos h,if_neg (by omega)]
   rfl
theorem CA {m v:Int} (v0:0<=v) (v1:v<m):(below m.toNat)[v.toNat]?=some v:=by
 rw [fZ (by omega)];exact congrArg some (Int.toNat_of_nonneg v0)
theorem Cq {m v:Int} (nd:Int->Int) (v0:0<=v) (v1:v<m):atI (((below m.toNat).map nd).map V.int) v=some (.int (nd v)):=gD v0 (by
 rw [List.getElem?_map,List.getElem?_map,CA v0 v1]
 rfl)
theorem Hj (m:Int):(zrs m).map V.int=List.replicate m.toNat (V.int 0):=by unfold zrs;rw [List.map_replicate]
theorem Jm {m:Int} {ls:List (List Int)} {l:List Int}:ow m (ls++[l])=iL (ow m ls) l:=by unfold ow;rw [List.foldl_append];rfl
section
variable {m:Int} {rs:List Road} {r:Int} {par:Int->Int} {dep:Int->Nat} {nd:Int->Int}
theorem xg {ix ix':Int->List Int} {v:Int} {x:V} (h:∀ k∈kd m rs r par v,ix k=ix' k):idK m rs r par ix v x=idK m rs r par ix' v x:=by
 unfold idK;rw [List.map_congr_left fun k hk=>h k (List.mem_filter.mp hk).1]
theorem yt {ix ix':Int->List Int} {gk gk':Int->Int->List Int} {v y:Int} (h:∀ k∈kd m rs r par v,ix k=ix' k) (h':∀ k∈kd m rs r par v,∀ z,gk k z=gk' k z):kb m rs r par nd ix gk v y=kb m rs r par nd ix' gk' v y:=by
 unfold kb byK;rw [xg (x:=.non) h,List.map_congr_left fun k hk=>by rw [h' k hk,xg (x:=.int k) h]]
theorem cH (g:Good m rs) (R:Rooted m rs r par dep) {v:Int} (h0:0<=v) (h1:v<m) {k:Int} (hk:k∈kd m rs r par v):((0<=k/\k<m)/\k≠r/\par k=v)/\m.toNat - dep v=m.toNat - dep k+1/\1<=m.toNat - dep k:=by
 have w:=(aO g R h0 h1).mp hk;have:=R.pos w.1.1 w.1.2 w.2.1;have d:=dM R w.1.1 w.1.2;rw [w.2.2] at this;exact ⟨w,by omega,by omega⟩
theorem FS (R:Rooted m rs r par dep) {v:Int} (h0:0<=v) (h1:v<m):∃ n,m.toNat - dep v=n+1:=⟨m.toNat - dep v - 1,by have:=dM R h0 h1;omega⟩
theorem pH (g:Good m rs) (R:Rooted m rs r par dep) {v y:Int} (h0:0<=v) (h1:v<m):gld m rs r par dep nd v y=kb m rs r par nd (idl m rs r par dep nd) (gld m rs r par dep nd) v y:=by
 obtain ⟨n,e⟩:=FS R h0 h1;have hn:∀ k∈kd m rs r par v,m.toNat - dep k=n:=fun k hk=>by have:=(cH g R h0 h1 hk).2.1;omega
 unfold gld;rw [e];show kb m rs r par nd _ _ v y=_;exact yt (fun k hk=>by show _=ld m rs r par nd (m.toNat - dep k) false k 0;rw [hn k hk]) (fun k hk z=>by show _=ld m rs r par nd (m.toNat - dep k) true k z;rw [hn k hk])
theorem qk (g:Good m rs) (R:Rooted m rs r par dep) {v:Int} (h0:0<=v) (h1:v<m):idl m rs r par dep nd v=if 0<nd v then idK m rs r par (idl m rs r par dep nd) v .non else gld m rs r par dep nd v (upT rs par v - 1):=by
 obtain ⟨n,e⟩:=FS R h0 h1;have hn:∀ k∈kd m rs r par v,m.toNat - dep k=n:=fun k hk=>by have:=(cH g R h0 h1 hk).2.1;omega
 rw [pH g R h0 h1];unfold idl;rw [e];show (if 0<nd v then idK m rs r par _ v .non else kb m rs r par nd _ _ v _)=_;by_cases c:0<nd v
 . rw [if_pos c,if_pos c];exact xg fun k hk=>by rw [hn k hk]
 . rw [if_neg c,if_neg c];exact yt (fun k hk=>by show _=ld m rs r par nd (m.toNat - dep k) false k 0;rw [hn k hk]) (fun k hk z=>by show _=ld m rs r par nd (m.toNat - dep k) true k z;rw [hn k hk])
theorem pI {xs ys:List Int} {n:Nat} (h1:xs.length=n) (h2:ys.length=n):(iL xs ys).length=n:=by unfold iL;rw [List.length_zipWith];omega
theorem wy {m:Int}:∀ (ls:List (List Int)) (a:List Int),a.length=m.toNat->(∀ l∈ls,l.length=m.toNat)->(ls.foldl iL a).length=m.toNat
 | [],a,h,_=>h
 | l::ls,a,h,hl=>wy ls (iL a l) (pI h (hl l List.mem_cons_self)) fun x hx=>hl x (List.mem_cons_of_mem _ hx)
theorem rY (m:Int):(zrs m).length=m.toNat:=List.length_replicate
theorem rQ {ix:Int->List Int} {v:Int} {x:V} (h:∀ k∈kd m rs r par v,(ix k).length=m.toNat):(idK m rs r par ix v x).length=m.toNat:=by
 unfold idK ow;refine wy _ _ (rY m) fun l hl=>?_;obtain ⟨k,hk,rfl⟩:=List.mem_map.mp hl;exact h k (List.mem_filter.mp hk).1
theorem CB {P:List Int->Prop}:∀ (ls:List (List Int)) (b:List Int),P b->(∀ l∈ls,P l)->P (ls.foldl iR b)
 | [],b,h,_=>h
 | l::ls,b,h,hl=>CB ls (iR b l) (by
   unfold iR;split
   . exact hl l List.mem_cons_self
   . exact h) fun x hx=>hl x (List.mem_cons_of_mem _ hx)
theorem D3 {b:List Int} {v d:Int}:(jW b v d).length=b.length:=by unfold jW;rw [List.length_set]
theorem K4 {ix:Int->List Int} {gk:Int->Int->List Int} {v y:Int} (h:∀ k∈kd m rs r par v,(ix k).length=m.toNat) (h':∀ k∈kd m rs r par v,∀ z,(gk k z).length=m.toNat):(kb m rs r par nd ix gk v y).length=m.toNat:=by
 unfold kb;refine CB (P:=fun l=>l.length=m.toNat) _ _ (by rw [D3];exact rQ h) fun l hl=>?_;obtain ⟨k,hk,rfl⟩:=List.mem_map.mp hl;exact pI (h' k hk _) (rQ h)
theorem F2 (g:Good m rs) (R:Rooted m rs r par dep):∀ (n:Nat) (v:Int),0<=v->v<m->m.toNat - dep v=n->(idl m rs r par dep nd v).length=m.toNat/\∀ y,(gld m rs r par dep nd v y).length=m.toNat
 | 0,v,h0,h1,e=>by have:=dM R h0 h1;omega
 | n+1,v,h0,h1,e=>by
   have kk:∀ k∈kd m rs r par v,_:=fun k hk=>by
     have w:=cH g R h0 h1 hk;exact F2 g R n k w.1.1.1 w.1.1.2 (by omega)
   have a:∀ y,(gld m rs r par dep nd v y).length=m.toNat:=fun y=>by
     rw [pH g R h0 h1];exact K4 (fun k hk=>(kk k hk).1) fun k hk=>(kk k hk).2
   refine ⟨?_,a⟩;rw [qk g R h0 h1];split
   . exact rQ fun k hk=>(kk k hk).1
   . exact a _
theorem sL (g:Good m rs) (R:Rooted m rs r par dep) {v:Int} (h0:0<=v) (h1:v<m):(idl m rs r par dep nd v).length=m.toNat:=(F2 g R _ v h0 h1 rfl).1
theorem HF (g:Good m rs) (R:Rooted m rs r par dep) {v y:Int} (h0:0<=v) (h1:v<m):(gld m rs r par dep nd v y).length=m.toNat:=(F2 g R _ v h0 h1 rfl).2 y
end
end Pb
set_option Elab.async false
set_option linter.all false
set_option maxRecDepth 100000
namespace Pb
open PySem L2
theorem zu:∀ {xs ys:List Int},xs.length=ys.length->(iL xs ys).sum=xs.sum+ys.sum
 | [],[],_=>rfl
 | a::xs,b::ys,h=>by
   have ih:=zu (xs:=xs) (ys:=ys) (by simpa using h);unfold iL at ih ⊢;rw [List.zipWith_cons_cons,List.sum_cons,List.sum_cons,List.sum_cons,ih];omega
theorem C7 {n:Nat}:∀ (ls:List (List Int)) (a:List Int),a.length=n->(∀ l∈ls,l.length=n)->(ls.foldl iL a).sum=a.sum+(ls.map List.sum).sum
 | [],a,_,_=>by simp
 | l::ls,a,ha,hl=>by
   have h1:=hl l List.mem_cons_self;rw [List.foldl_cons,C7 ls _ (pI ha h1) fun x hx=>hl x (List.mem_cons_of_mem _ hx),zu (ha.trans h1.symm),List.map_cons,List.sum_cons];omega
theorem zr (l:List Int):(l.filter fun k=>decide (V.int k≠V.non))=l:=List.filter_eq_self.mpr fun k _=>by simp
theorem Ep {f:Int->Int}:∀ {l:List Int},l.Nodup->∀ {k:Int},k∈l->((l.filter fun j=>decide (V.int j≠V.int k)).map f).sum=(l.map f).sum - f k
 | a::l,nd,k,hk=>by
   obtain ⟨h1,h2⟩:=List.nodup_cons.mp nd;by_cases e:a=k
   . subst e;rw [List.filter_cons_of_neg (by simp),List.map_cons,List.sum_cons];rw [List.filter_eq_self.mpr fun j hj=>by
       have:j≠a:=fun z=>h1 (z ▸ hj)
       simpa using this]
     omega
   . rw [List.filter_cons_of_pos (by simpa using e),List.map_cons,List.sum_cons,List.map_cons,List.sum_cons,Ep h2 ((List.mem_cons.mp hk).resolve_left (Ne.symm e))];omega
theorem O4 {b:List Int} {v d:Int} (h:v.toNat<b.length):(jW b v d).sum=b.sum+d:=by
 unfold jW;rw [mG _ _ _ h];omega
theorem Qv {b l:List Int}:b.sum<=(iR b l).sum/\l.sum<=(iR b l).sum:=by
 by_cases h:b.sum<l.sum
 . rw [FV h];omega
 . rw [Fe h];omega
theorem FO:∀ (ls:List (List Int)) (b:List Int),b.sum<=(ls.foldl iR b).sum/\∀ l∈ls,l.sum<=(ls.foldl iR b).sum
 | [],b=>⟨Int.le_refl _,fun l h=>by cases h⟩
 | a::ls,b=>by
   obtain ⟨h1,h2⟩:=FO ls (iR b a);have g:=Qv (b:=b) (l:=a);refine ⟨Int.le_trans g.1 h1,fun l hl=>?_⟩;rcases List.mem_cons.mp hl with rfl|hl
   . exact Int.le_trans g.2 h1
   . exact h2 l hl
theorem yP:∀ (ls:List (List Int)) (b:List Int),ls.foldl iR b=b\/ls.foldl iR b∈ls
 | [],b=>.inl rfl
 | a::ls,b=>by
   rw [List.foldl_cons];rcases yP ls (iR b a) with h|h
   . rw [h];by_cases z:b.sum<a.sum
     . rw [FV z];exact .inr List.mem_cons_self
     . rw [Fe z];exact .inl rfl
   . exact .inr (List.mem_cons_of_mem _ h)
theorem AV {f e:Int->Int} {D F:Int}:∀ {l:List Int},(∀ c∈l,f c*D<=e c*F)->(l.map f).sum*D<=(l.map e).sum*F
 | [],_=>by simp
 | a::l,h=>by
   have h1:=h a List.mem_cons_self;have h2:=AV (l:=l) fun c hc=>h c (List.mem_cons_of_mem _ hc);rw [List.map_cons,List.map_cons,List.sum_cons,List.sum_cons,Int.add_mul,Int.add_mul];omega
theorem mL {f:Int->Int} {l:List Int} (h:∀ c∈l,0<=f c):0<=(l.map f).sum:=wg fun x hx=>by
 obtain ⟨c,hc,rfl⟩:=List.mem_map.mp hx;exact h c hc
theorem t9 {f:Int->Int} {l:List Int} (h:∀ c∈l,0<=f c) {c:Int} (hc:c∈l):f c<=(l.map f).sum:=EM (fun x hx=>by
 obtain ⟨c,hc,rfl⟩:=List.mem_map.mp hx;exact h c hc) (List.mem_map.mpr ⟨c,hc,rfl⟩)
theorem yX {f h:Int->Int}:∀ {l:List Int},(l.map fun c=>f c+h c).sum=(l.map f).sum+(l.map h).sum
 | []=>by simp
 | a::l=>by rw [List.map_cons,List.map_cons,List.map_cons,List.sum_cons,List.sum_cons,List.sum_cons,yX];omega
theorem o7 {f h:Int->Int}:∀ {l:List Int},(l.map fun c=>f c - h c).sum=(l.map f).sum - (l.map h).sum
 | []=>by simp
 | a::l=>by rw [List.map_cons,List.map_cons,List.map_cons,List.sum_cons,List.sum_cons,List.sum_cons,o7];omega
section
variable {m:Int} {rs:List Road} {r:Int} {par:Int->Int} {dep:Int->Nat} {nd:Int->Int}
theorem jt (g:Good m rs) (R:Rooted m rs r par dep) {v:Int} (h0:0<=v) (h1:v<m) (hr:v≠r):2<=upT rs par v/\2<=dnT rs par v:=by
 obtain ⟨k1,e1,a,_⟩:=sG g R h0 h1 hr;obtain ⟨k2,e2,b,_⟩:=r6 g R h0 h1 hr;unfold upT dnT;rw [e1,e2];exact ⟨a,b⟩
def idS (m:Int) (rs:List Road) (r:Int) (par:Int->Int) (dep:Int->Nat) (nd:Int->Int) (v:Int):Int:=((kd m rs r par v).map fun c=>(idl m rs r par dep nd c).sum).sum
def gS (m:Int) (rs:List Road) (r:Int) (par:Int->Int) (dep:Int->Nat) (nd:Int->Int) (v D:Int):Int:=(gld m rs r par dep nd v (D - nd v)).sum - idS m rs r par dep nd v
def gK (m:Int) (rs:List Road) (r:Int) (par:Int->Int) (dep:Int->Nat) (nd:Int->Int) (k D:Int):Int:=(gld m rs r par dep nd k (upT rs par k*(D - nd k*dnT rs par k+1) - 1)).sum - (idl m rs r par dep nd k).sum
theorem xX (g:Good m rs) (R:Rooted m rs r par dep) {v:Int} (h0:0<=v) (h1:v<m) (x:V):(idK m rs r par (idl m rs r par dep nd) v x).sum=(((kd m rs r par v).filter fun k=>decide (V.int k≠x)).map fun c=>(idl m rs r par dep nd c).sum).sum:=by
 unfold idK ow;rw [C7 _ _ (rY m) fun l hl=>?_,HJ,Int.zero_add,List.map_map]
 . rfl
 . obtain ⟨k,hk,rfl⟩:=List.mem_map.mp hl;have w:=cH g R h0 h1 (List.mem_filter.mp hk).1;exact sL g R w.1.1.1 w.1.1.2
theorem DP (g:Good m rs) (R:Rooted m rs r par dep) {v:Int} (h0:0<=v) (h1:v<m) (x:V):(idK m rs r par (idl m rs r par dep nd) v x).length=m.toNat:=rQ fun k hk=>by
 have w:=cH g R h0 h1 hk;exact sL g R w.1.1.1 w.1.1.2
theorem HU (g:Good m rs) (R:Rooted m rs r par dep) {v:Int} (h0:0<=v) (h1:v<m) {k:Int} (hk:k∈kd m rs r par v) (D:Int):(byK m rs r par nd (idl m rs r par dep nd) (gld m rs r par dep nd) v D k).sum=idS m rs r par dep nd v+gK m rs r par dep nd k D:=by
 have w:=cH g R h0 h1 hk;unfold byK gK;rw [zu ((HF g R w.1.1.1 w.1.1.2).trans (DP g R h0 h1 _).symm),xX g R h0 h1,Ep (show (kd m rs r par v).Nodup from hW) hk];unfold idS;omega
theorem sF (g:Good m rs) (R:Rooted m rs r par dep) {v:Int} (h0:0<=v) (h1:v<m) (D:Int):D<=gS m rs r par dep nd v D/\(∀ k∈kd m rs r par v,gK m rs r par dep nd k D<=gS m rs r par dep nd v D)/\(gS m rs r par dep nd v D=D\/∃ k∈kd m rs r par v,gS m rs r par dep nd v D=gK m rs r par dep nd k D):=by
 have e:nd v+(D - nd v)=D:=by omega
 have b0:(jW (idK m rs r par (idl m rs r par dep nd) v .non) v D).sum=idS m rs r par dep nd v+D:=by
   rw [O4 (by rw [DP g R h0 h1];omega),xX g R h0 h1,zr]
   rfl
 unfold gS;rw [pH g R h0 h1];unfold kb;rw [e];obtain ⟨p1,p2⟩:=FO ((kd m rs r par v).map (byK m rs r par nd (idl m rs r par dep nd) (gld m rs r par dep nd) v D)) (jW (idK m rs r par (idl m rs r par dep nd) v .non) v D);refine ⟨by omega,fun k hk=>?_,?_⟩
 . have:=p2 _ (List.mem_map.mpr ⟨k,hk,rfl⟩);rw [HU g R h0 h1 hk] at this;omega
 . rcases yP ((kd m rs r par v).map (byK m rs r par nd (idl m rs r par dep nd) (gld m rs r par dep nd) v D)) (jW (idK m rs r par (idl m rs r par dep nd) v .non) v D) with h|h
   . rw [h,b0];exact .inl (by omega)
   . obtain ⟨k,hk,e⟩:=List.mem_map.mp h;rw [<- e,HU g R h0 h1 hk];exact .inr ⟨k,hk,by omega⟩
theorem pZ {k y:Int}:(gld m rs r par dep nd k y).sum=idS m rs r par dep nd k+gS m rs r par dep nd k (y+nd k):=by
 unfold gS;rw [show y+nd k - nd k=y by omega];omega
theorem sg (g:Good m rs) (R:Rooted m rs r par dep) {k:Int} (h0:0<=k) (h1:k<m):(idl m rs r par dep nd k).sum=idS m rs r par dep nd k+if 0<nd k then 0 else gS m rs r par dep nd k (upT rs par k - 1+nd k):=by
 rw [qk g R h0 h1];split
 . rw [xX g R h0 h1,zr];unfold idS;omega
 . exact pZ
structure Nds (m:Int) (rs:List Road) (r:Int) (par:Int->Int) (w nd:Int->Int):Prop where
 st:∀ v,0<=v->v<m->nd v=w v+((kd m rs r par v).map fun c=>nd c*dnT rs par c).sum
 nn:∀ v,0<=v->v<m->0<=nd v
 w0:∀ v,0<=v->v<m->0<=w v
variable {w:Int->Int}
theorem dn0 (g:Good m rs) (R:Rooted m rs r par dep) (N:Nds m rs r par w nd) {v:Int} (h0:0<=v) (h1:v<m):∀ c∈kd m rs r par v,0<=nd c*dnT rs par c:=fun c hc=>by
 have q:=(cH g R h0 h1 hc).1;have t:=jt g R q.1.1 q.1.2 q.2.1;exact Int.mul_nonneg (N.nn c q.1.1 q.1.2) (by omega)
theorem sI (g:Good m rs) (R:Rooted m rs r par dep) (N:Nds m rs r par w nd) {v:Int} (h0:0<=v) (h1:v<m) {c:Int} (hc:c∈kd m rs r par v):w v+nd c*dnT rs par c<=nd v:=by
 rw [N.st v h0 h1];have:=t9 (dn0 g R N h0 h1) hc;omega
theorem BU (g:Good m rs) (R:Rooted m rs r par dep) (N:Nds m rs r par w nd) {v:Int} (h0:0<=v) (h1:v<m) (z:nd v<=0) {c:Int} (hc:c∈kd m rs r par v):nd c=0:=by
 have h:=sI g R N h0 h1 hc;have q:=(cH g R h0 h1 hc).1;have t:=jt g R q.1.1 q.1.2 q.2.1;have n:=N.nn c q.1.1 q.1.2;have w0:=N.w0 v h0 h1;have:=Int.mul_le_mul_of_nonneg_left t.2 n;omega
theorem Ia (g:Good m rs) (R:Rooted m rs r par dep) {v:Int} (h0:0<=v) (h1:v<m):1<=wgt m rs r par dep v/\(∀ c∈kd m rs r par v,wgt m rs r par dep c*upT rs par c<=wgt m rs r par dep v)/\(wgt m rs r par dep v=1\/∃ c∈kd m rs r par v,wgt m rs r par dep v=wgt m rs r par dep c*upT rs par c):=by
 have e:wgt m rs r par dep v=((kd m rs r par v).map fun c=>wgt m rs r par dep c*upT rs par c).foldl mx 1:=Qg g R h0 h1;have fm:∀ (l:List Int) (a:Int),a<=l.foldl mx a/\(∀ x∈l,x<=l.foldl mx a)/\(l.foldl mx a=a\/l.foldl mx a∈l):=by
   intro l
   induction l with
   | nil=>intro a;exact ⟨Int.le_refl _,fun x h=>(by cases h),.inl rfl⟩
   | cons b l ih =>
     intro a;obtain ⟨i1,i2,i3⟩:=ih (mx a b);have hm:a<=mx a b/\b<=mx a b/\(mx a b=a\/mx a b=b):=(by unfold mx;split <;> omega);rw [List.foldl_cons];refine ⟨by omega,fun x hx=>?_,?_⟩
     . rcases List.mem_cons.mp hx with rfl|hx
       . omega
       . exact i2 x hx
     . rcases i3 with i3|i3
       . rw [i3];rcases hm.2.2 with h|h
         . exact .inl h
         . rw [h];exact .inr List.mem_cons_self
       . exact .inr (List.mem_cons_of_mem _ i3)
 obtain ⟨f1,f2,f3⟩:=fm ((kd m rs r par v).map fun c=>wgt m rs r par dep c*upT rs par c) 1;rw [<- e] at f1 f2 f3;refine ⟨f1,fun c hc=>f2 _ (List.mem_map.mpr ⟨c,hc,rfl⟩),f3.imp id fun h=>?_⟩;obtain ⟨c,hc,e⟩:=List.mem_map.mp h;exact ⟨c,hc,e.symm⟩
theorem Cp (g:Good m rs) (R:Rooted m rs r par dep) (N:Nds m rs r par w nd):∀ (n:Nat) (v:Int),0<=v->v<m->m.toNat - dep v=n->(∀ k∈kd m rs r par v,nd k=0)->∀ D,0<=D->gS m rs r par dep nd v D=wgt m rs r par dep v*D
 | 0,v,h0,h1,e,_,_,_=>by have:=dM R h0 h1;omega
 | n+1,v,h0,h1,e,z,D,D0=>by
   have kk:∀ k∈kd m rs r par v,gK m rs r par dep nd k D=wgt m rs r par dep k*upT rs par k*D:=fun k hk=>by
     obtain ⟨q,q2,_⟩:=cH g R h0 h1 hk;have kz:=z k hk;have t:=jt g R q.1.1 q.1.2 q.2.1;have ih:=Cp g R N n k q.1.1 q.1.2 (by omega) (fun c hc=>BU g R N q.1.1 q.1.2 (by omega) hc);have u1:0<=upT rs par k*(D+1) - 1:=by
       have:=Int.mul_le_mul_of_nonneg_left (show 1<=D+1 by omega) (show 0<=upT rs par k by omega);omega
     unfold gK;rw [pZ,sg g R q.1.1 q.1.2,kz,if_neg (by decide),Int.zero_mul,Int.sub_zero,Int.add_zero,Int.add_zero,ih _ u1,ih _ (by omega)];rw [Int.mul_sub,Int.mul_sub,Int.mul_add,Int.mul_add,Int.mul_one,Int.mul_assoc];omega
   obtain ⟨a1,a2,a3⟩:=sF (nd:=nd) g R h0 h1 D;obtain ⟨b1,b2,b3⟩:=Ia g R h0 h1;have le:gS m rs r par dep nd v D<=wgt m rs r par dep v*D:=by
     rcases a3 with h|⟨k,hk,h⟩
     . rw [h];have:=Int.mul_le_mul_of_nonneg_right b1 D0;omega
     . rw [h,kk k hk];exact Int.mul_le_mul_of_nonneg_right (b2 k hk) D0
   have ge:wgt m rs r par dep v*D<=gS m rs r par dep nd v D:=by
     rcases b3 with h|⟨k,hk,h⟩
     . rw [h];omega
     . rw [h,<- kk k hk];exact a2 k hk
   omega
theorem ar1 {st n u d D e:Int} (u2:2<=u) (d2:2<=d) (n1:1<=n) (he:e=(if 0<=st then st / u else st*d)+n*d) (k0:0<=st+n) (eD:e<=D) (hD:n*d<=D):st+n<=u*(D - n*d+1) - 1+n/\n<=u*(D - n*d+1) - 1+n/\(st+n)*D<=e*(u*(D - n*d+1) - 1+n):=by
 have N2:=Int.mul_le_mul_of_nonneg_left d2 (show 0<=n by omega);obtain ⟨C,hC⟩:∃ C,D - n*d=C:=⟨_,rfl⟩;have C0:0<=C:=by omega
 have eDC:D=C+n*d:=by omega
 rw [hC];have uC:=Int.mul_le_mul_of_nonneg_right u2 C0;have uC1:u*(C+1)=u*C+u:=by rw [Int.mul_add,Int.mul_one]
 rw [uC1];by_cases s:0<=st
 . rw [if_pos s] at he;have c0:=Int.ediv_nonneg s (show 0<=u by omega);have c1:=Int.mul_ediv_add_emod st u;have c2:=Int.emod_lt_of_pos st (show 0<u by omega);generalize st / u=c at he c0 c1;have cC:c<=C:=by omega
   have ucC:=Int.mul_le_mul_of_nonneg_left cC (show 0<=u by omega);refine ⟨by omega,by omega,?_⟩;have h1:(st+n)*D<=(u*c+(u - 1+n))*D:=Int.mul_le_mul_of_nonneg_right (by omega) (by omega);have h2:0<=(C - c)*(u*(n*d) - (u - 1+n)):=by
     refine Int.mul_nonneg (by omega) ?_;have q1:=Int.mul_le_mul_of_nonneg_left N2 (show 0<=u by omega);have q2:0<=(u - 1)*(n - 1):=Int.mul_nonneg (by omega) (by omega);have q3:(u - 1)*(n - 1)=u*n - u - n+1:=(by grind);have q4:u*(n*2)=2*(u*n):=(by grind);have q5:0<=u*n:=Int.mul_nonneg (by omega) (by omega);omega
   have h3:(u*c+(u - 1+n))*(C+n*d)+(C - c)*(u*(n*d) - (u - 1+n))=(c+n*d)*(u*C+(u - 1+n)):=by grind
   rw [he,show u*C+u - 1+n=u*C+(u - 1+n) by omega];rw [eDC] at h1 ⊢;omega
 . rw [if_neg s] at he;refine ⟨by omega,by omega,?_⟩;have e1:e=(st+n)*d:=by rw [he,Int.add_mul]
   have q1:C+n*d<=d*(u*C+u - 1+n):=by
     have a1:d*(u*C+u - 1+n)=d*(u*C+u - 1)+n*d:=(by grind);have a2:=Int.mul_le_mul_of_nonneg_right d2 (show 0<=u*C+u - 1 by omega);omega
   rw [e1,eDC,Int.mul_assoc];exact Int.mul_le_mul_of_nonneg_left q1 k0
theorem ar2 {f D D' k e F:Int} (hD':0<D') (D0:0<=D) (F0:0<=F) (h1:f*D'<=k*F) (h2:k*D<=e*D'):f*D<=e*F:=by
 have a1:=Int.mul_le_mul_of_nonneg_right h1 D0;have a2:=Int.mul_le_mul_of_nonneg_right h2 F0;have a3:f*D'*D=f*D*D':=by grind
 have a4:k*F*D=k*D*F:=by grind
 have a5:e*D'*F=e*F*D':=by grind
 exact Int.le_of_mul_le_mul_right (show f*D*D'<=e*F*D' by omega) hD'
structure Lay (m:Int) (rs:List Road) (r:Int) (par:Int->Int) (w x st bl:Int->Int):Prop where
 x0:∀ v,0<=v->v<m->0<=x v
 st:∀ v,0<=v->v<m->st v=x v - w v+((kd m rs r par v).map fun c=>hnd rs par c (st c)).sum
 bl:∀ v,0<=v->v<m->bl v=x v+((kd m rs r par v).map bl).sum
variable {x st bl:Int->Int}
theorem rM (v z:Int):hnd rs par v z=if 0<=z then z / upT rs par v else z*dnT rs par v:=rfl
theorem Bb (g:Good m rs) (R:Rooted m rs r par dep) (N:Nds m rs r par w nd) (L:Lay m rs r par w x st bl):∀ (n:Nat) (v:Int),0<=v->v<m->m.toNat - dep v=n->st v+nd v=x v+((kd m rs r par v).map fun c=>hnd rs par c (st c)+nd c*dnT rs par c).sum/\0<=st v+nd v/\∀ c∈kd m rs r par v,0<=hnd rs par c (st c)+nd c*dnT rs par c
 | 0,v,h0,h1,e=>by have:=dM R h0 h1;omega
 | n+1,v,h0,h1,e=>by
   have e1:st v+nd v=x v+((kd m rs r par v).map fun c=>hnd rs par c (st c)+nd c*dnT rs par c).sum:=by
     rw [yX,L.st v h0 h1,N.st v h0 h1];omega
   have kk:∀ c∈kd m rs r par v,0<=hnd rs par c (st c)+nd c*dnT rs par c:=fun c hc=>by
     obtain ⟨q,q2,_⟩:=cH g R h0 h1 hc;have t:=jt g R q.1.1 q.1.2 q.2.1;have ih:=(Bb g R N L n c q.1.1 q.1.2 (by omega)).2.1;have d:=dn0 g R N h0 h1 c hc;rw [rM];split
     . rename_i z
       have:=Int.ediv_nonneg z (show 0<=upT rs par c by omega);omega
     . rw [<- Int.add_mul];exact Int.mul_nonneg ih (by omega)
   refine ⟨e1,?_,kk⟩;rw [e1];have:=mL kk;have:=L.x0 v h0 h1;omega
theorem EH (g:Good m rs) (R:Rooted m rs r par dep) (N:Nds m rs r par w nd) (L:Lay m rs r par w x st bl) {k:Int} (h0:0<=k) (h1:k<m) (hr:k≠r) (z:nd k=0) (ih:∀ D,st k+nd k<=D->(∀ c∈kd m rs r par k,nd c*dnT rs par c<=D)->1<=D->(bl k - idS m rs r par dep nd k)*D<=(st k+nd k)*gS m rs r par dep nd k D) :
   bl k - (idl m rs r par dep nd k).sum<=wgt m rs r par dep k*upT rs par k*hnd rs par k (st k)/\0<=hnd rs par k (st k):=by
 have t:=jt g R h0 h1 hr;have s0:=(Bb g R N L _ k h0 h1 rfl).2.1;rw [z,Int.add_zero] at s0;have G:=Cp g R N _ k h0 h1 rfl (fun c hc=>BU g R N h0 h1 (by omega) hc);have W1:=(Ia g R h0 h1).1;have q:=ih (st k+1) (by omega) (fun c hc=>by
   have:=sI g R N h0 h1 hc;have:=N.w0 k h0 h1;omega) (by omega)
 rw [G _ (by omega),z,Int.add_zero,<- Int.mul_assoc] at q;have q2:=Int.le_of_mul_le_mul_right q (by omega);rw [sg g R h0 h1,if_neg (by omega),z,Int.add_zero,G _ (by omega),rM,if_pos s0];have c0:=Int.ediv_nonneg s0 (show 0<=upT rs par k by omega);have c1:=Int.mul_ediv_add_emod (st k) (upT rs par k);have c2:=Int.emod_lt_of_pos (st k) (show 0<upT rs par k by omega);refine ⟨?_,c0⟩;generalize st k / upT rs par k=c at c0 c1 ⊢;have a1:st k<=upT rs par k*c+(upT rs par k - 1):=by omega
 have a2:=Int.mul_le_mul_of_nonneg_left a1 (show 0<=wgt m rs r par dep k by omega);rw [Int.mul_add,<- Int.mul_assoc] at a2;rw [Int.mul_comm (st k)] at q2;omega
theorem BQ (g:Good m rs) (R:Rooted m rs r par dep) (N:Nds m rs r par w nd) (L:Lay m rs r par w x st bl):∀ (n:Nat) (v:Int),0<=v->v<m->m.toNat - dep v=n->∀ D,st v+nd v<=D->(∀ c∈kd m rs r par v,nd c*dnT rs par c<=D)->1<=D->(bl v - idS m rs r par dep nd v)*D<=(st v+nd v)*gS m rs r par dep nd v D
 | 0,v,h0,h1,e,_,_,_,_=>by have:=dM R h0 h1;omega
 | n+1,v,h0,h1,e,D,hD,hk,D1=>by
   obtain ⟨e1,e2,e3⟩:=Bb g R N L _ v h0 h1 rfl;obtain ⟨a1,a2,_⟩:=sF (nd:=nd) g R h0 h1 D;have x0:=L.x0 v h0 h1;have kk:∀ k∈kd m rs r par v,(bl k - (idl m rs r par dep nd k).sum)*D<=(hnd rs par k (st k)+nd k*dnT rs par k)*gS m rs r par dep nd v D:=fun k hkm=>by
     obtain ⟨q,q2,_⟩:=cH g R h0 h1 hkm;have ih:=BQ g R N L n k q.1.1 q.1.2 (by omega);have t:=jt g R q.1.1 q.1.2 q.2.1;have ke:=e3 k hkm;have keD:hnd rs par k (st k)+nd k*dnT rs par k<=D:=by
       have:=t9 e3 hkm;omega
     have up:=a2 k hkm;have key:(bl k - (idl m rs r par dep nd k).sum)*D<=(hnd rs par k (st k)+nd k*dnT rs par k)*gK m rs r par dep nd k D:=by
       by_cases z:nd k=0
       . obtain ⟨z1,z2⟩:=EH g R N L q.1.1 q.1.2 q.2.1 z ih;have u1:0<=upT rs par k*(D+1) - 1:=by
           have:=Int.mul_le_mul_of_nonneg_left (show 1<=D+1 by omega) (show 0<=upT rs par k by omega);omega
         have G:=Cp g R N _ k q.1.1 q.1.2 rfl (fun c hc=>BU g R N q.1.1 q.1.2 (by omega) hc);have eg:gK m rs r par dep nd k D=wgt m rs r par dep k*upT rs par k*D:=by
           unfold gK;rw [pZ,sg g R q.1.1 q.1.2,z,if_neg (by decide),Int.zero_mul,Int.sub_zero,Int.add_zero,Int.add_zero,G _ u1,G _ (by omega)];rw [Int.mul_sub,Int.mul_sub,Int.mul_add,Int.mul_add,Int.mul_one,Int.mul_assoc];omega
         rw [eg,z,Int.zero_mul,Int.add_zero];have:=Int.mul_le_mul_of_nonneg_right z1 (show 0<=D by omega);have r:hnd rs par k (st k)*(wgt m rs r par dep k*upT rs par k*D)=wgt m rs r par dep k*upT rs par k*hnd rs par k (st k)*D:=(by grind);rw [r];exact this
       . have n1:=N.nn k q.1.1 q.1.2;have s0:=(Bb g R N L _ k q.1.1 q.1.2 rfl).2.1;obtain ⟨b1,b2,b3⟩:=ar1 (st:=st k) (n:=nd k) (D:=D) t.1 t.2 (by omega) rfl s0 (by rw [<- rM];exact keD) (hk k hkm);rw [<- rM] at b3;have eg:gK m rs r par dep nd k D=gS m rs r par dep nd k (upT rs par k*(D - nd k*dnT rs par k+1) - 1+nd k):=by
           unfold gK;rw [pZ,sg g R q.1.1 q.1.2,if_pos (by omega)];omega
         have ei:(idl m rs r par dep nd k).sum=idS m rs r par dep nd k:=by
           rw [sg g R q.1.1 q.1.2,if_pos (by omega)];omega
         rw [eg,ei];generalize upT rs par k*(D - nd k*dnT rs par k+1) - 1+nd k=D' at b1 b2 b3 ⊢;refine ar2 (D':=D') (k:=st k+nd k) (by omega) (by omega) ?_ (ih D' b1 (fun c hc=>?_) (by omega)) b3
         . have:=(sF (nd:=nd) g R q.1.1 q.1.2 D').1;omega
         . have:=sI g R N q.1.1 q.1.2 hc;have:=N.w0 k q.1.1 q.1.2;omega
     exact Int.le_trans key (Int.mul_le_mul_of_nonneg_left up ke)
   have eb:bl v - idS m rs r par dep nd v=x v+((kd m rs r par v).map fun k=>bl k - (idl m rs r par dep nd k).sum).sum:=by
     rw [o7,L.bl v h0 h1];unfold idS;omega
   have h1:=AV kk;have h2:=Int.mul_le_mul_of_nonneg_left a1 x0;rw [eb,e1,Int.add_mul,Int.add_mul];omega
theorem KL (g:Good m rs) (R:Rooted m rs r par dep) (N:Nds m rs r par w nd) (L:Lay m rs r par w x st bl) (r0:0<=r) (r1:r<m) (wr:1<=w r) (hs:st r<=-1):bl r<=(gld m rs r par dep nd r (-1)).sum:=by
 obtain ⟨e1,e2,e3⟩:=Bb g R N L _ r r0 r1 rfl;have eg:(gld m rs r par dep nd r (-1)).sum=idS m rs r par dep nd r+gS m rs r par dep nd r (nd r - 1):=by
   rw [pZ,show (-1:Int)+nd r=nd r - 1 by omega]
 have hk:∀ c∈kd m rs r par r,nd c*dnT rs par c<=nd r - 1:=fun c hc=>by
   have:=sI g R N r0 r1 hc;omega
 have x0:=L.x0 r r0 r1;have a1:=(sF (nd:=nd) g R r0 r1 (nd r - 1)).1;rw [eg];by_cases D1:1<=nd r - 1
 . have q:=BQ g R N L _ r r0 r1 rfl (nd r - 1) (by omega) hk D1;have q2:(st r+nd r)*gS m rs r par dep nd r (nd r - 1)<=gS m rs r par dep nd r (nd r - 1)*(nd r - 1):=by
     rw [Int.mul_comm];exact Int.mul_le_mul_of_nonneg_left (by omega) (by omega)
   have:=Int.le_of_mul_le_mul_right (Int.le_trans q q2) (by omega);omega
 . have s0:=mL e3;have ek:∀ c∈kd m rs r par r,bl c - (idl m rs r par dep nd c).sum<=0:=fun c hc=>by
     obtain ⟨q,q2,_⟩:=cH g R r0 r1 hc;have t:=jt g R q.1.1 q.1.2 q.2.1;have h1:=hk c hc;have n:=N.nn c q.1.1 q.1.2;have z:nd c=0:=by
       have:=Int.mul_le_mul_of_nonneg_left t.2 n;omega
     obtain ⟨z1,z2⟩:=EH g R N L q.1.1 q.1.2 q.2.1 z (BQ g R N L _ c q.1.1 q.1.2 rfl);have:=t9 e3 hc;simp only [z,Int.zero_mul,Int.add_zero] at this;have hz:hnd rs par c (st c)=0:=(by omega);rw [hz,Int.mul_zero] at z1;exact z1
   have eb:bl r - idS m rs r par dep nd r=x r+((kd m rs r par r).map fun k=>bl k - (idl m rs r par dep nd k).sum).sum:=by
     rw [o7,L.bl r r0 r1];unfold idS;omega
   have:=mL (l:=kd m rs r par r) (f:=fun c=>(idl m rs r par dep nd c).sum - bl c) fun c hc=>by have:=ek c hc;omega
   rw [o7] at this;rw [o7] at eb;omega
theorem HL (g:Good m rs) (R:Rooted m rs r par dep) (x:Int->Int):∀ (n:Nat) (v:Int),0<=v->v<m->m.toNat - dep v=n->gat m rs r par dep x (fun _ z=>z) v=((bX m rs r par dep v).map x).sum
 | 0,v,h0,h1,e=>by have:=dM R h0 h1;omega
 | n+1,v,h0,h1,e=>by
   rw [bG g R h0 h1,g0 g R h0 h1,List.map_cons,List.sum_cons];have:∀ l:List Int,(∀ c∈l,c∈kd m rs r par v)->(l.map fun c=>gat m rs r par dep x (fun _ z=>z) c).sum=((l.flatMap (bX m rs r par dep)).map x).sum:=by
     intro l
     induction l with
     | nil=>intro _;rfl
     | cons a l ih =>
       intro h;obtain ⟨q,q2,_⟩:=cH g R h0 h1 (h a List.mem_cons_self);rw [List.map_cons,List.sum_cons,List.flatMap_cons,List.map_append,List.sum_append,ih fun c hc=>h c (List.mem_cons_of_mem _ hc),HL g R x n a q.1.1 q.1.2 (by omega)]
   rw [this _ fun c hc=>hc]
theorem PZ (g:Good m rs) (R:Rooted m rs r par dep) (r0:0<=r) (r1:r<m) (x:Int->Int):gat m rs r par dep x (fun _ z=>z) r=((below m.toNat).map x).sum:=by
 rw [HL g R x _ r r0 r1 rfl];obtain ⟨t,e,O⟩:=Lz g R r0 r1;rw [e];refine Ek ((iy O.nd (fg _) fun v=>?_).map x);rw [List.mem_cons,c9];refine ⟨fun h=>?_,fun h=>O.all v h.1 (by have:=h.2;omega)⟩;rcases h with h|h
 . rw [h];exact ⟨r0,by omega⟩
 . have:=O.rng v h;omega
theorem Cg (g:Good m rs) (R:Rooted m rs r par dep) {x:Int->Int} {con:Int->Int->Int} (x0:∀ v,0<=v->v<m->0<=x v) (c0:∀ v z,0<=v->v<m->v≠r->0<=z->0<=con v z):∀ (n:Nat) (v:Int),0<=v->v<m->m.toNat - dep v=n->0<=gat m rs r par dep x con v
 | 0,v,h0,h1,e=>by have:=dM R h0 h1;omega
 | n+1,v,h0,h1,e=>by
   rw [bG g R h0 h1];have a:=x0 v h0 h1;have b:=mL (l:=kd m rs r par v) (f:=fun c=>con c (gat m rs r par dep x con c)) fun c hc=>by
     obtain ⟨q,q2,_⟩:=cH g R h0 h1 hc;exact c0 c _ q.1.1 q.1.2 q.2.1 (Cg g R x0 c0 n c q.1.1 q.1.2 (by omega))
   exact Int.add_nonneg a b
abbrev oz (m:Int) (rs:List Road) (r:Int) (par:Int->Int) (dep:Int->Nat) (xs:List Int):Int->Int:=gat m rs r par dep (fun v=>xs.getD v.toNat 0) (ned rs par)
theorem jg {xs:List Int} (x0:∀ x∈xs,0<=x) (i:Nat):0<=xs.getD i 0:=by
 rw [List.getD_eq_getElem?_getD];cases e:xs[i]? with
 | none=>exact Int.le_refl _
 | some y=>exact x0 y (List.mem_of_getElem? e)
theorem Gf (g:Good m rs) (R:Rooted m rs r par dep) {ys:List Int} (y0:∀ y∈ys,0<=y):Nds m rs r par (fun v=>ys.getD v.toNat 0) (oz m rs r par dep ys) where
 st:=fun v h0 h1=>bG g R h0 h1
 nn:=fun v h0 h1=>Cg g R (fun v _ _=>jg y0 _) (fun v z a b c d=>by
   have t:=jt g R a b c;unfold ned;exact Int.mul_nonneg d (show 0<=dnT rs par v by omega)) _ v h0 h1 rfl
 w0:=fun v _ _=>jg y0 _
theorem RX (g:Good m rs) (R:Rooted m rs r par dep) {xs ys:List Int} (x0:∀ x∈xs,0<=x):Lay m rs r par (fun v=>ys.getD v.toNat 0) (fun v=>xs.getD v.toNat 0) (gat m rs r par dep (fun v=>(bA m xs ys).getD v.toNat 0) (hnd rs par)) (gat m rs r par dep (fun v=>xs.getD v.toNat 0) (fun _ z=>z)) where
 x0:=fun v _ _=>jg x0 _
 st:=fun v h0 h1=>by
   have:=sM (m:=m) (zs:=xs) (ys:=ys) v.toNat;rw [if_pos (by omega)] at this;rw [bG g R h0 h1,this]
 bl:=fun v h0 h1=>bG g R h0 h1
theorem KF (g:Good m rs) (R:Rooted m rs r par dep) (r0:0<=r) (r1:r<m) {xs ys:List Int} (xl:(xs.length:Int)=m) (x0:∀ x∈xs,0<=x) (y0:∀ y∈ys,0<=y) (yr:0<ys.getD r.toNat 0) (h:(gld m rs r par dep (oz m rs r par dep ys) r (-1)).sum+1<=xs.sum):0<=gat m rs r par dep (fun v=>(bA m xs ys).getD v.toNat 0) (hnd rs par) r:=by
 refine Classical.byContradiction fun n=>?_;have q:=KL g R (Gf g R y0) (RX g R (ys:=ys) x0) r0 r1 yr (by omega);rw [PZ g R r0 r1,K6 (by omega)] at q;omega
end
end Pb
set_option Elab.async false
set_option linter.all false
set_option maxRecDepth 100000
namespace Pb
open PySem L2
theorem Cz {f:Int->List Int}:∀ {l:List Int},(l.flatMap f).Nodup->∀ {a b u:Int},a∈l->b∈l->u∈f a->u∈f b->a=b
 | c::l,nd,a,b,u,ha,hb,ua,ub=>by
   rw [List.flatMap_cons] at nd;obtain ⟨n1,n2,n3⟩:=List.nodup_append.mp nd;rcases List.mem_cons.mp ha with ha|ha <;> rcases List.mem_cons.mp hb with hb|hb
   . rw [ha,hb]
   . rw [ha] at ua;exact absurd rfl (n3 u ua u (List.mem_flatMap.mpr ⟨b,hb,ub⟩))
   . rw [hb] at ub;exact absurd rfl (n3 u ub u (List.mem_flatMap.mpr ⟨a,ha,ua⟩))
   . exact Cz n2 ha hb ua ub
theorem jr:∀ {xs ys:List Int},xs.length=ys.length->∀ (i:Nat),(iL xs ys).getD i 0=xs.getD i 0+ys.getD i 0
 | [],[],_,i=>by simp [iL]
 | a::xs,b::ys,h,0=>by simp [iL]
 | a::xs,b::ys,h,i+1=>by
   have ih:=jr (xs:=xs) (ys:=ys) (by simpa using h) i;unfold iL at ih ⊢;rw [List.zipWith_cons_cons,List.getD_cons_succ,List.getD_cons_succ,List.getD_cons_succ,ih]
theorem C2 {n:Nat} (i:Nat):∀ (ls:List (List Int)) (a:List Int),a.length=n->(∀ l∈ls,l.length=n)->(ls.foldl iL a).getD i 0=a.getD i 0+(ls.map fun l=>l.getD i 0).sum
 | [],a,_,_=>by simp
 | l::ls,a,ha,hl=>by
   have h1:=hl l List.mem_cons_self;rw [List.foldl_cons,C2 i ls _ (pI ha h1) fun x hx=>hl x (List.mem_cons_of_mem _ hx),jr (ha.trans h1.symm),List.map_cons,List.sum_cons];omega
theorem OF (m:Int) (i:Nat):(zrs m).getD i 0=0:=by
 rw [List.getD_eq_getElem?_getD];cases e:(zrs m)[i]? with
 | none=>rfl
 | some y=>exact (List.mem_replicate.mp (List.mem_of_getElem? e)).2
theorem uL {f:Int->Int}:∀ {l:List Int},(∀ c∈l,f c=0)->(l.map f).sum=0
 | [],_=>rfl
 | a::l,h=>by rw [List.map_cons,List.sum_cons,h a List.mem_cons_self,uL fun c hc=>h c (List.mem_cons_of_mem _ hc)];rfl
theorem uO {f:Int->Int}:∀ {l:List Int},l.Nodup->∀ {c:Int},c∈l->(∀ j∈l,j≠c->f j=0)->(l.map f).sum=f c
 | a::l,nd,c,hc,h=>by
   obtain ⟨n1,n2⟩:=List.nodup_cons.mp nd;rw [List.map_cons,List.sum_cons];by_cases e:a=c
   . subst e;rw [uL fun j hj=>h j (List.mem_cons_of_mem _ hj) fun z=>n1 (z ▸ hj)];omega
   . rw [h a List.mem_cons_self e,uO n2 ((List.mem_cons.mp hc).resolve_left (Ne.symm e)) fun j hj=>h j (List.mem_cons_of_mem _ hj)];omega
theorem qL {b:List Int} {v d:Int} (h:v.toNat<b.length) (i:Nat):(jW b v d).getD i 0=b.getD i 0+if i=v.toNat then d else 0:=by
 unfold jW;by_cases e:i=v.toNat
 . subst e;rw [if_pos rfl,List.getD_eq_getElem?_getD,List.getElem?_set_self h]
   rfl
 . rw [if_neg e,List.getD_eq_getElem?_getD,List.getElem?_set_ne (Ne.symm e),<- List.getD_eq_getElem?_getD];omega
section
variable {m:Int} {rs:List Road} {r:Int} {par:Int->Int} {dep:Int->Nat} {nd w:Int->Int}
theorem Lo (g:Good m rs) (R:Rooted m rs r par dep) {v:Int} (h0:0<=v) (h1:v<m):(bX m rs r par dep v).Nodup :=
 (Po g R h0 h1).nodup_iff.mpr ((fg _).filter _)
theorem xS (g:Good m rs) (R:Rooted m rs r par dep) {v:Int} (h0:0<=v) (h1:v<m) {u:Int}:u∈bX m rs r par dep v↔u=v\/∃ c∈kd m rs r par v,u∈bX m rs r par dep c:=by
 rw [g0 g R h0 h1,List.mem_cons,List.mem_flatMap]
theorem HC (g:Good m rs) (R:Rooted m rs r par dep) {v:Int} (h0:0<=v) (h1:v<m):(∀ c∈kd m rs r par v,v ∉ bX m rs r par dep c)/\∀ {a b u:Int},a∈kd m rs r par v->b∈kd m rs r par v->u∈bX m rs r par dep a->u∈bX m rs r par dep b->a=b:=by
 have n:=Lo g R h0 h1;rw [g0 g R h0 h1] at n;obtain ⟨n1,n2⟩:=List.nodup_cons.mp n;exact ⟨fun c hc z=>n1 (List.mem_flatMap.mpr ⟨c,hc,z⟩),fun ha hb ua ub=>Cz n2 ha hb ua ub⟩
theorem Cf (g:Good m rs) (R:Rooted m rs r par dep) {held held':Int->Int} {con:Int->Int->Int}:∀ (n:Nat) (v:Int),0<=v->v<m->m.toNat - dep v=n->(∀ u∈bX m rs r par dep v,held u=held' u)->gat m rs r par dep held con v=gat m rs r par dep held' con v
 | 0,v,h0,h1,e,_=>by have:=dM R h0 h1;omega
 | n+1,v,h0,h1,e,h=>by
   rw [bG g R h0 h1,bG g R h0 h1,h v (tN g R h0 h1)];rw [List.map_congr_left fun c hc=>?_];obtain ⟨q,q2,_⟩:=cH g R h0 h1 hc;rw [Cf g R n c q.1.1 q.1.2 (by omega) fun u hu=>h u ((xS g R h0 h1).mpr (.inr ⟨c,hc,hu⟩))]
structure Ld (m:Int) (rs:List Road) (r:Int) (par:Int->Int) (dep:Int->Nat) (w:Int->Int) (X:List Int) (v y:Int):Prop where
 len:X.length=m.toNat
 nn:∀ i,0<=X.getD i 0
 off:∀ u,0<=u->u ∉ bX m rs r par dep v->X.getD u.toNat 0=0
 st:gat m rs r par dep (fun u=>X.getD u.toNat 0 - w u) (hnd rs par) v=y
theorem zL (g:Good m rs) (R:Rooted m rs r par dep) {v:Int} (h0:0<=v) (h1:v<m) (x:V) (i:Nat):(idK m rs r par (idl m rs r par dep nd) v x).getD i 0=(((kd m rs r par v).filter fun k=>decide (V.int k≠x)).map fun c=>(idl m rs r par dep nd c).getD i 0).sum:=by
 unfold idK ow;rw [C2 i _ _ (rY m) fun l hl=>?_,OF,Int.zero_add,List.map_map]
 . rfl
 . obtain ⟨k,hk,rfl⟩:=List.mem_map.mp hl;have w:=cH g R h0 h1 (List.mem_filter.mp hk).1;exact sL g R w.1.1.1 w.1.1.2
theorem A0 (g:Good m rs) (R:Rooted m rs r par dep) {v:Int} (h0:0<=v) (h1:v<m) (x:V) (ih:∀ c∈kd m rs r par v,∃ y,Ld m rs r par dep w (idl m rs r par dep nd c) c y) :
   (∀ i,0<=(idK m rs r par (idl m rs r par dep nd) v x).getD i 0)/\(∀ u,0<=u->(∀ c∈kd m rs r par v,u ∉ bX m rs r par dep c)->(idK m rs r par (idl m rs r par dep nd) v x).getD u.toNat 0=0) /\
   ∀ c∈kd m rs r par v,∀ u,0<=u->u∈bX m rs r par dep c->(idK m rs r par (idl m rs r par dep nd) v x).getD u.toNat 0=if V.int c≠x then (idl m rs r par dep nd c).getD u.toNat 0 else 0:=by
 refine ⟨fun i=>?_,fun u u0 hu=>?_,fun c hc u u0 hu=>?_⟩
 . rw [zL g R h0 h1];refine mL fun c hc=>?_;obtain ⟨y,L⟩:=ih c (List.mem_filter.mp hc).1;exact L.nn i
 . rw [zL g R h0 h1];refine uL fun c hc=>?_;have hc:=(List.mem_filter.mp hc).1;obtain ⟨y,L⟩:=ih c hc;exact L.off u u0 (hu c hc)
 . rw [zL g R h0 h1];have oth:∀ j∈(kd m rs r par v).filter (fun k=>decide (V.int k≠x)),j≠c->(idl m rs r par dep nd j).getD u.toNat 0=0:=fun j hj nj=>by
     have hj:=(List.mem_filter.mp hj).1;obtain ⟨y,L⟩:=ih j hj;exact L.off u u0 fun z=>nj ((HC g R h0 h1).2 hj hc z hu)
   by_cases e:V.int c≠x
   . rw [if_pos e];exact uO (hW.filter _) (List.mem_filter.mpr ⟨hc,decide_eq_true e⟩) oth
   . rw [if_neg e];exact uL fun j hj=>oth j hj fun z=>e (by
       rw [<- z];exact of_decide_eq_true (List.mem_filter.mp hj).2)
theorem zx (g:Good m rs) (R:Rooted m rs r par dep) (N:Nds m rs r par w nd) {c:Int} (h0:0<=c) (h1:c<m) (hr:c≠r):hnd rs par c (if 0<nd c then -nd c else upT rs par c - 1)=-(nd c*dnT rs par c):=by
 have t:=jt g R h0 h1 hr;have n:=N.nn c h0 h1;rw [rM];by_cases z:0<nd c
 . rw [if_pos z,if_neg (by omega),Int.neg_mul]
 . rw [if_neg z,if_pos (by omega),show nd c=0 by omega,Int.zero_mul];exact Int.ediv_eq_zero_of_lt (by omega) (by omega)
theorem Hi {f:Int->Int}:∀ {l:List Int},(l.map fun c=>-f c).sum=-(l.map f).sum
 | []=>rfl
 | a::l=>by rw [List.map_cons,List.map_cons,List.sum_cons,List.sum_cons,Hi];omega
theorem Gc (g:Good m rs) (R:Rooted m rs r par dep) (N:Nds m rs r par w nd):∀ (n:Nat) (v:Int),0<=v->v<m->m.toNat - dep v=n->(v≠r->Ld m rs r par dep w (idl m rs r par dep nd v) v (if 0<nd v then -nd v else upT rs par v - 1))/\∀ y,-1<=y->(y=-1->1<=w v)->Ld m rs r par dep w (gld m rs r par dep nd v y) v y
 | 0,v,h0,h1,e=>by have:=dM R h0 h1;omega
 | n+1,v,h0,h1,e=>by
   have K1:∀ c∈kd m rs r par v,(c≠r/\(0<=c/\c<m))/\Ld m rs r par dep w (idl m rs r par dep nd c) c (if 0<nd c then -nd c else upT rs par c - 1)/\∀ y,0<=y->Ld m rs r par dep w (gld m rs r par dep nd c y) c y:=fun c hc=>by
     obtain ⟨q,q2,_⟩:=cH g R h0 h1 hc;have ih:=Gc g R N n c q.1.1 q.1.2 (by omega);exact ⟨⟨q.2.1,q.1⟩,ih.1 q.2.1,fun y y0=>ih.2 y (by omega) fun z=>by omega⟩
   have K2:∀ c∈kd m rs r par v,∃ y,Ld m rs r par dep w (idl m rs r par dep nd c) c y:=fun c hc=>⟨_,(K1 c hc).2.1⟩;have ben:∀ c∈kd m rs r par v,∀ u∈bX m rs r par dep c,0<=u:=fun c hc u hu=>((xY g R (K1 c hc).1.2.1 (K1 c hc).1.2.2 u).mp hu).1.1;have p1:=HC g R h0 h1;have fin:∀ (X:List Int) (z y:Int) (hc:Int->Int),X.length=m.toNat->(∀ i,0<=X.getD i 0)->(∀ u,0<=u->u ∉ bX m rs r par dep v->X.getD u.toNat 0=0)->X.getD v.toNat 0=z->(∀ c∈kd m rs r par v,∃ Y s,Ld m rs r par dep w Y c s/\hnd rs par c s=hc c/\∀ u∈bX m rs r par dep c,X.getD u.toNat 0=Y.getD u.toNat 0)->z - w v+((kd m rs r par v).map hc).sum=y->Ld m rs r par dep w X v y:=fun X z y hc xl xn xo xz xk hy=>by
     refine ⟨xl,xn,xo,?_⟩;rw [bG g R h0 h1,xz,<- hy,List.map_congr_left fun c hcm=>?_];obtain ⟨Y,s,L,e1,e2⟩:=xk c hcm;rw [<- e1,<- L.st,Cf g R _ c (K1 c hcm).1.2.1 (K1 c hcm).1.2.2 rfl fun u hu=>by rw [e2 u hu]]
   have offv:∀ {x:V} {u:Int},0<=u->u ∉ bX m rs r par dep v->(idK m rs r par (idl m rs r par dep nd) v x).getD u.toNat 0=0:=fun u0 hu=>(A0 g R h0 h1 _ K2).2.1 _ u0 fun c hc z=>hu ((xS g R h0 h1).mpr (.inr ⟨c,hc,z⟩));have negs:((kd m rs r par v).map fun c=>-(nd c*dnT rs par c)).sum=w v - nd v:=by
     rw [Hi,N.st v h0 h1];omega
   have A:∀ y,-1<=y->(y=-1->1<=w v)->Ld m rs r par dep w (gld m rs r par dep nd v y) v y:=fun y y0 y1=>by
     have w0:=N.w0 v h0 h1;have n0:=N.nn v h0 h1;have room:0<=nd v+y:=by
       have:=mL (dn0 g R N h0 h1);have:=N.st v h0 h1;omega
     rw [pH g R h0 h1];unfold kb;rcases yP ((kd m rs r par v).map (byK m rs r par nd (idl m rs r par dep nd) (gld m rs r par dep nd) v (nd v+y))) (jW (idK m rs r par (idl m rs r par dep nd) v .non) v (nd v+y)) with h|h
     . rw [h];have kl:=DP (nd:=nd) g R h0 h1 .non;have ia:=A0 g R h0 h1 .non K2;have vl:v.toNat<(idK m rs r par (idl m rs r par dep nd) v .non).length:=(by omega);refine fin _ (nd v+y) y (fun c=>-(nd c*dnT rs par c)) (by rw [D3];exact kl) (fun i=>?_) (fun u u0 hu=>?_) ?_ (fun c hc=>⟨_,_,(K1 c hc).2.1,zx g R N (K1 c hc).1.2.1 (K1 c hc).1.2.2 (K1 c hc).1.1,fun u hu=>?_⟩) (by rw [negs];omega)
       . rw [qL vl];have:=ia.1 i;split <;> omega
       . have nv:u≠v:=fun z=>hu ((xS g R h0 h1).mpr (.inl z));rw [qL vl,offv u0 hu,if_neg (by omega)]
         rfl
       . rw [qL vl,if_pos rfl,ia.2.1 v h0 p1.1];omega
       . have u0:=ben c hc u hu;have nv:u≠v:=fun z=>p1.1 c hc (z ▸ hu);rw [qL vl,if_neg (by omega),ia.2.2 c hc u u0 hu,if_pos (by intro z;cases z)];omega
     . obtain ⟨k,hk,e⟩:=List.mem_map.mp h;rw [<- e];obtain ⟨⟨kr,k0,k1⟩,_,kg⟩:=K1 k hk;have t:=jt g R k0 k1 kr;have kn:=sI g R N h0 h1 hk;have kd0:=dn0 g R N h0 h1 k hk;obtain ⟨gv,hgv⟩:∃ gv,nd v+y - nd k*dnT rs par k=gv:=⟨_,rfl⟩;have gv0:0<=gv:=(by omega);have u1:0<=upT rs par k*(gv+1) - 1:=by
         have:=Int.mul_le_mul_of_nonneg_left (show 1<=gv+1 by omega) (show 0<=upT rs par k by omega);omega
       have LG:=kg _ u1;have kl:=DP (nd:=nd) g R h0 h1 (.int k);have ia:=A0 g R h0 h1 (.int k) K2;unfold byK;rw [hgv];have ll:=LG.len.trans kl.symm;refine fin _ 0 y (fun c=>if c=k then gv else -(nd c*dnT rs par c)) (pI LG.len kl) (fun i=>?_) (fun u u0 hu=>?_) ?_ (fun c hc=>?_) ?_
       . rw [jr ll];have:=ia.1 i;have:=LG.nn i;omega
       . rw [jr ll,offv u0 hu,LG.off u u0 fun z=>hu ((xS g R h0 h1).mpr (.inr ⟨k,hk,z⟩))]
         rfl
       . rw [jr ll,ia.2.1 v h0 p1.1,LG.off v h0 (p1.1 k hk)]
         rfl
       . by_cases ck:c=k
         . subst ck;refine ⟨_,_,LG,?_,fun u hu=>?_⟩
           . rw [if_pos rfl,rM,if_pos u1];have:upT rs par c*(gv+1) - 1=(upT rs par c - 1)+upT rs par c*gv:=(by rw [Int.mul_add,Int.mul_one];omega);rw [this,Int.add_mul_ediv_left _ _ (by omega),Int.ediv_eq_zero_of_lt (by omega) (by omega)];omega
           . rw [jr ll,ia.2.2 c hc u (ben c hc u hu) hu,if_neg (fun z=>z rfl)];omega
         . refine ⟨_,_,(K1 c hc).2.1,?_,fun u hu=>?_⟩
           . rw [if_neg ck];exact zx g R N (K1 c hc).1.2.1 (K1 c hc).1.2.2 (K1 c hc).1.1
           . have u0:=ben c hc u hu;rw [jr ll,ia.2.2 c hc u u0 hu,if_pos (by intro z;cases z;exact ck rfl),LG.off u u0 fun z=>ck (p1.2 hc hk hu z)];omega
       . have e1:((kd m rs r par v).map fun c=>if c=k then gv else -(nd c*dnT rs par c)).sum=((kd m rs r par v).map fun c=>-(nd c*dnT rs par c)).sum+((kd m rs r par v).map fun c=>if c=k then gv+nd k*dnT rs par k else 0).sum:=by
           rw [<- yX];rw [List.map_congr_left fun c hc=>?_];by_cases ck:c=k
           . rw [if_pos ck,if_pos ck,ck];omega
           . rw [if_neg ck,if_neg ck];omega
         rw [e1,negs,uO (show (kd m rs r par v).Nodup from hW) hk fun j _ nj=>if_neg nj,if_pos rfl];omega
   refine ⟨fun vr=>?_,A⟩;have t:=jt g R h0 h1 vr;rw [qk g R h0 h1];by_cases z:0<nd v
   . rw [if_pos z,if_pos z];have ia:=A0 g R h0 h1 .non K2;refine fin _ 0 _ (fun c=>-(nd c*dnT rs par c)) (DP g R h0 h1 _) ia.1 (fun u u0 hu=>offv u0 hu) (ia.2.1 v h0 p1.1) (fun c hc=>⟨_,_,(K1 c hc).2.1,zx g R N (K1 c hc).1.2.1 (K1 c hc).1.2.2 (K1 c hc).1.1,fun u hu=>?_⟩) (by rw [negs];omega);rw [ia.2.2 c hc u (ben c hc u hu) hu,if_pos (by intro z;cases z)]
   . rw [if_neg z,if_neg z];exact A _ (by omega) fun q=>by omega
theorem DN (g:Good m rs) (R:Rooted m rs r par dep) {xs ys:List Int} {con:Int->Int->Int} {v:Int} (h0:0<=v) (h1:v<m):gat m rs r par dep (fun v=>(bA m xs ys).getD v.toNat 0) con v=gat m rs r par dep (fun u=>xs.getD u.toNat 0 - ys.getD u.toNat 0) con v :=
 Cf g R _ v h0 h1 rfl fun u hu=>by
   have ur:=((xY g R h0 h1 u).mp hu).1;have:=sM (m:=m) (zs:=xs) (ys:=ys) u.toNat;rw [if_pos (by omega)] at this;exact this
theorem MD (g:Good m rs) (R:Rooted m rs r par dep) (r0:0<=r) (r1:r<m) {ys:List Int} (y0:∀ y∈ys,0<=y) (yr:0<ys.getD r.toNat 0) {X:List Int} (eX:X=gld m rs r par dep (oz m rs r par dep ys) r (-1)):(X.length:Int)=m/\(∀ x∈X,0<=x)/\stg m rs r par dep ys X r=-1:=by
 have L:=(Gc g R (Gf g R y0) _ r r0 r1 rfl).2 (-1) (by omega) fun _=>yr;rw [<- eX] at L;have l:=L.len;refine ⟨by omega,fun x hx=>?_,?_⟩
 . obtain ⟨i,hi,rfl⟩:=List.mem_iff_getElem.mp hx;have:=L.nn i
   rwa [List.getD_eq_getElem?_getD,List.getElem?_eq_getElem hi] at this
 . show gat m rs r par dep (fun v=>(bA m X ys).getD v.toNat 0) (hnd rs par) r=-1;rw [DN g R r0 r1];exact L.st
end
end Pb
set_option Elab.async false
set_option linter.all false
set_option maxRecDepth 100000
namespace L2
open PySem PySem.Spec PyProof.Rows
section
variable {X:Cx}
def Pt (t:TE):TE:=fun σ H Q=>t σ H fun x H1=>∃ b,x=.bl b/\Q (.bl (b != false)) H1
end
end L2
namespace L2
open PySem Pb
end L2
set_option Elab.async false
set_option linter.all false
set_option maxRecDepth 100000
namespace Pb
open PySem L2
section
variable {m:Int} {rs:List Road} {r:Int} {par:Int->Int} {dep:Int->Nat} {nd w:Int->Int}
theorem Ob (g:Good m rs) {v:Int}:(kd m rs r par v).length<=24:=by
 have h1:=List.length_filter_le (fun u=>decide (V.int u≠front r par v)) (dQ m rs v);have h2:=List.length_filter_le (fun q=>decide (q∈b6 rs v)) (below m.toNat);rw [bh] at h2;have:=g.m24;show ((dQ m rs v).filter fun u=>decide (V.int u≠front r par v)).length<=24;unfold dQ at h1 ⊢;omega
end
end Pb
set_option Elab.async false
set_option linter.all false
set_option maxRecDepth 100000
namespace Pb
open PySem L2
section
variable {m:Int} {rs:List Road} {r:Int} {par:Int->Int} {dep:Int->Nat} {near t u:Int}
end
end Pb
set_option Elab.async false
set_option linter.all false
set_option maxRecDepth 100000
namespace Pb
open PySem L2
theorem G8 {f:Int->Int} {M:Int}:∀ {l:List Int},(∀ c∈l,f c<=M)->(l.map f).sum<=l.length*M
 | [],_=>by simp
 | a::l,h=>by
   have h1:=h a List.mem_cons_self;have h2:=G8 (l:=l) fun c hc=>h c (List.mem_cons_of_mem _ hc);rw [List.map_cons,List.sum_cons,List.length_cons];have:((l.length+1:Nat):Int)*M=l.length*M+M:=by
     rw [Int.natCast_add,Int.add_mul];simp
   omega
theorem HD {a b:Nat} (h:a<=b):(2:Int)^a<=2^b:=by
 obtain ⟨c,rfl⟩:=Nat.exists_eq_add_of_le h;rw [Int.pow_add];have:=Int.mul_le_mul_of_nonneg_left (show (1:Int)<=2^c from Int.pow_pos (by decide)) (Int.le_of_lt (show (0:Int)<2^a from Int.pow_pos (by decide)));omega
section
variable {m:Int} {rs:List Road} {r:Int} {par:Int->Int} {dep:Int->Nat} {nd w:Int->Int}
theorem EJ (g:Good m rs) {f:Int->Int} {v M:Int} (M0:0<=M) (h:∀ c∈kd m rs r par v,f c<=M):((kd m rs r par v).map f).sum<=24*M:=by
 have h1:=G8 h;have h2:=Ob (r:=r) (par:=par) g (v:=v);have:=Int.mul_le_mul_of_nonneg_right (show (((kd m rs r par v).length:Nat):Int)<=24 by omega) M0;omega
theorem FI (g:Good m rs) (R:Rooted m rs r par dep) {v:Int} (h0:0<=v) (h1:v<m) (hr:v≠r):(2<=upT rs par v/\upT rs par v<=1000000)/\2<=dnT rs par v/\dnT rs par v<=1000000:=by
 obtain ⟨k1,e1,a,a'⟩:=sG g R h0 h1 hr;obtain ⟨k2,e2,b,b'⟩:=r6 g R h0 h1 hr;unfold upT dnT;rw [e1,e2];exact ⟨⟨a,a'⟩,b,b'⟩
theorem PB (g:Good m rs) (R:Rooted m rs r par dep) (N:Nds m rs r par w nd) {Y:Int} (Y0:0<=Y) (hw:∀ v,0<=v->v<m->w v<=Y):∀ (n:Nat) (v:Int),0<=v->v<m->m.toNat - dep v=n->nd v<=Y*2^(25*n)
 | 0,v,h0,h1,e=>by have:=dM R h0 h1;omega
 | n+1,v,h0,h1,e=>by
   have P0:(0:Int)<=Y*2^(25*n):=Int.mul_nonneg Y0 (Int.le_of_lt (Int.pow_pos (by decide)));have P1:Y<=Y*2^(25*n):=by
     have:=Int.mul_le_mul_of_nonneg_left (show (1:Int)<=2^(25*n) from Int.pow_pos (by decide)) Y0;omega
   rw [N.st v h0 h1];have h2:=EJ (r:=r) (par:=par) g (v:=v) (f:=fun c=>nd c*dnT rs par c) (M:=Y*2^(25*n)*1000000) (by omega) fun c hc=>by
     obtain ⟨q,q2,_⟩:=cH g R h0 h1 hc;have t:=(FI g R q.1.1 q.1.2 q.2.1).2;have ih:=PB g R N Y0 hw n c q.1.1 q.1.2 (by omega);have n0:=N.nn c q.1.1 q.1.2;exact Int.le_trans (Int.mul_le_mul_of_nonneg_left t.2 n0) (Int.mul_le_mul_of_nonneg_right ih (by decide))
   have h3:=hw v h0 h1;have h4:Y*2^(25*(n+1))=Y*2^(25*n)*33554432:=by
     rw [show 25*(n+1)=25*n+25 by omega,Int.pow_add,<- Int.mul_assoc]
     rfl
   rw [h4];omega
theorem Lr (g:Good m rs) (R:Rooted m rs r par dep) (N:Nds m rs r par w nd) {B:Int} (hB:∀ v,0<=v->v<m->nd v+1<=B) (B6:1000000<=B):∀ (n:Nat) (v:Int),0<=v->v<m->m.toNat - dep v=n->(v≠r->0<=(idl m rs r par dep nd v).sum/\(idl m rs r par dep nd v).sum<=2*(B*2^(22*n)))/\∀ y,-1<=y->(gld m rs r par dep nd v y).sum<=(y+B)*2^(22*n)
 | 0,v,h0,h1,e=>by have:=dM R h0 h1;omega
 | n+1,v,h0,h1,e=>by
   have P1:(1:Int)<=2^(22*n):=Int.pow_pos (by decide);have PS:(2:Int)^(22*(n+1))=2^(22*n)*4194304:=by
     rw [show 22*(n+1)=22*n+22 by omega,Int.pow_add]
     rfl
   have BP:0<=B*2^(22*n):=Int.mul_nonneg (by omega) (by omega);have K1:∀ c∈kd m rs r par v,((0<=c/\c<m)/\c≠r)/\(0<=(idl m rs r par dep nd c).sum/\(idl m rs r par dep nd c).sum<=2*(B*2^(22*n)))/\∀ y,-1<=y->(gld m rs r par dep nd c y).sum<=(y+B)*2^(22*n):=fun c hc=>by
     obtain ⟨q,q2,_⟩:=cH g R h0 h1 hc;have ih:=Lr g R N hB B6 n c q.1.1 q.1.2 (by omega);exact ⟨⟨q.1,q.2.1⟩,ih.1 q.2.1,ih.2⟩
   have s0:0<=idS m rs r par dep nd v:=mL fun c hc=>(K1 c hc).2.1.1;have s1:idS m rs r par dep nd v<=24*(2*(B*2^(22*n))):=EJ g (by omega) fun c hc=>(K1 c hc).2.1.2;have G:∀ y,-1<=y->(gld m rs r par dep nd v y).sum<=(y+B)*2^(22*(n+1)):=fun y y0=>by
     have nb:=hB v h0 h1;rw [pZ,PS];obtain ⟨_,_,a3⟩:=sF (nd:=nd) g R h0 h1 (y+nd v);have yB:0<=(y+B)*2^(22*n):=Int.mul_nonneg (by omega) (by omega);have yB1:y+B<=(y+B)*2^(22*n):=by
       have:=Int.mul_le_mul_of_nonneg_left P1 (show 0<=y+B by omega);omega
     have BB:B*2^(22*n)<=2*((y+B)*2^(22*n)):=by
       have:=Int.mul_le_mul_of_nonneg_right (show B<=2*(y+B) by omega) (show (0:Int)<=2^(22*n) by omega);rw [Int.mul_assoc] at this;exact this
     have key:gS m rs r par dep nd v (y+nd v)<=1000002*((y+B)*2^(22*n)):=by
       rcases a3 with z|⟨k,hk,z⟩
       . rw [z];omega
       . rw [z];obtain ⟨⟨kr,kn⟩,ki,kg⟩:=K1 k hk;have t:=(FI g R kr.1 kr.2 kn).1;have nk:=sI g R N h0 h1 hk;have w0:=N.w0 v h0 h1;have d0:=dn0 g R N h0 h1 k hk;unfold gK;obtain ⟨zz,hzz⟩:∃ zz,y+nd v - nd k*dnT rs par k+1=zz:=⟨_,rfl⟩;rw [hzz];have z0:0<=zz:=(by omega);have z1:zz<=y+B:=(by omega);have u0:0<=upT rs par k*zz:=Int.mul_nonneg (by omega) z0;have u1:upT rs par k*zz<=1000000*(y+B):=Int.le_trans (Int.mul_le_mul_of_nonneg_right t.2 z0) (Int.mul_le_mul_of_nonneg_left z1 (by decide));have gk:=kg (upT rs par k*zz - 1) (by omega);have h5:(upT rs par k*zz - 1+B)*2^(22*n)<=(1000000*(y+B)+B)*2^(22*n):=Int.mul_le_mul_of_nonneg_right (by omega) (by omega);have h6:(1000000*(y+B)+B)*2^(22*n)=1000000*((y+B)*2^(22*n))+B*2^(22*n):=(by rw [Int.add_mul,Int.mul_assoc]);omega
     have h7:(y+B)*(2^(22*n)*4194304)=4194304*((y+B)*2^(22*n)):=(by rw [<- Int.mul_assoc,Int.mul_comm]);rw [h7];omega
   refine ⟨fun vr=>?_,G⟩;have t:=(FI g R h0 h1 vr).1;have n0:=N.nn v h0 h1;have h8:B*2^(22*(n+1))=4194304*(B*2^(22*n)):=by rw [PS,<- Int.mul_assoc,Int.mul_comm]
   have h9:=G (upT rs par v - 1) (by omega);have h10:(upT rs par v - 1+B)*2^(22*(n+1))<=(2*B)*2^(22*(n+1)):=Int.mul_le_mul_of_nonneg_right (by omega) (Int.le_of_lt (Int.pow_pos (by decide)));rw [Int.mul_assoc] at h10;rw [qk g R h0 h1];by_cases z:0<nd v
   . rw [if_pos z,xX g R h0 h1,zr];have:((kd m rs r par v).map fun c=>(idl m rs r par dep nd c).sum).sum=idS m rs r par dep nd v:=rfl;rw [this];omega
   . rw [if_neg z];have a1:=(sF (nd:=nd) g R h0 h1 (upT rs par v - 1+nd v)).1;refine ⟨?_,by omega⟩;rw [pZ];omega
theorem GW (g:Good m rs) (R:Rooted m rs r par dep) (r0:0<=r) (r1:r<m) {ys:List Int} (y0:∀ y∈ys,0<=y) (yb:∀ y∈ys,y<=10^60):(gld m rs r par dep (oz m rs r par dep ys) r (-1)).sum+1<=2^1400:=by
 have N:=Gf g R y0;have m24:=g.m24;have m1:=g.m1;have hw:∀ v,0<=v->v<m->ys.getD v.toNat 0<=(10:Int)^60:=fun v _ _=>by
   rw [List.getD_eq_getElem?_getD];cases e:ys[v.toNat]? with
   | none=>exact (by decide:(0:Int)<=10^60)
   | some y=>exact yb y (List.mem_of_getElem? e)
 have e10:(10:Int)^60<=2^200:=by decide +kernel
 have hB:∀ v,0<=v->v<m->oz m rs r par dep ys v+1<=(2:Int)^801:=fun v h0 h1=>by
   have h:=PB g R N (Y:=10^60) (by decide) hw _ v h0 h1 rfl;have hn:m.toNat - dep v<=24:=by omega
   have h2:(2:Int)^(25*(m.toNat - dep v))<=2^600:=HD (by omega);have h3:(10:Int)^60*2^(25*(m.toNat - dep v))<=2^200*2^600:=Int.le_trans (Int.mul_le_mul_of_nonneg_left h2 (by decide)) (Int.mul_le_mul_of_nonneg_right e10 (Int.le_of_lt (Int.pow_pos (by decide))));have h4:(2:Int)^200*2^600+1<=2^801:=by decide +kernel
   omega
 have h:=(Lr g R N hB (by decide +kernel) _ r r0 r1 rfl).2 (-1) (by decide);have hn:m.toNat - dep r<=24:=by omega
 have h2:(2:Int)^(22*(m.toNat - dep r))<=2^528:=HD (by omega);have h3:(-1+(2:Int)^801)*2^(22*(m.toNat - dep r))<=(-1+2^801)*2^528:=Int.mul_le_mul_of_nonneg_left h2 (by decide +kernel);have h4:(-1+(2:Int)^801)*2^528+1<=2^1400:=by decide +kernel
 exact Int.le_trans (Int.add_le_add_right (Int.le_trans h h3) 1) h4
end
end Pb
set_option Elab.async false
set_option linter.all false
set_option maxRecDepth 100000
set_option maxHeartbeats 4000000
namespace Pk
open PySem L2 Pb
seal L2.PSs L2.PS L2.PE L2.PT L2.PW L2.PA L2.PG L2.PGs L2.PI L2.PTs L2.PC L2.PPs L2.PO
abbrev top (i:Nat):Stmt:=Hd.top i
local macro_rules|`(tactic| walk_at "rd") => `(tactic| ((try dsimp only [tYes, Q7, Jb, Pt, Ends.less, CI, G7, F9, Lw, HV, Pu, Q6, KR, CY, Pm, Kf, Ph, Jx, IU, PF, J6, Nj, NN, KW, CZ, KH, Mx, PQ, Jw, tNext, F8, AB, Jo, Kc, gNil, Pc, PN, J8, Q5, Px, PH, Rv, ipI, ML, JX, DJ, tB, AD, tC, BJ, tOp, tUn, rI0, rI, rU, rEq, rNe, IL, IM, Je, tNil, Nx, OX, tCB, tBM, NX, OV, Pf, Pp, PM, Bm, IK, J5, JQ, KG, rV, Lc, tDNewT, L8, tOr, Mb, Ju, RL, Ps, tIf, List.nil_append, List.append_nil, List.set_cons_zero, List.set_cons_succ, List.getElem?_cons_zero, List.getElem?_cons_succ]);(try simp only [tYes, Q7, Jb, Pt, Ends.less, CI, G7, F9, Lw, HV, Pu, Q6, KR, CY, Pm, Kf, Ph, Jx, IU, PF, J6, Nj, NN, KW, CZ, KH, Mx, PQ, Jw, tNext, F8, AB, Jo, Kc, gNil, Pc, PN, J8, Q5, Px, PH, Rv, ipI, ML, JX, DJ, tB, AD, tC, BJ, tOp, tUn, rI0, rI, rU, rEq, rNe, Qw, Ql, PV, QP, Qf, QI, IL, IM, Je, tNil, Nx, OX, tCB, tBM, NX, OV, Pf, Pp, PM, Bm, IK, J5, JQ, KG, rV, Lc, tDNewT, L8, tOr, Mb, Ju, RL, Ps, tIf, List.nil_append, List.append_nil, List.set_cons_zero, List.set_cons_succ, List.getElem?_cons_zero, List.getElem?_cons_succ, Option.some.injEq, V.int.injEq, V.bl.injEq, V.ref.injEq, List.cons.injEq, exists_eq_left, exists_eq_left', exists_and_left, exists_const, and_true, true_and, decide_eq_true_eq, Bool.not_eq_true', decide_eq_false_iff_not, Bool.true_eq_false, Bool.false_eq_true, if_true, if_false])))
set_option genSizeOf false in
set_option genInjectivity false in
structure Txt (K:PySem.W.Frag) (mg:Str->Option Value) where
 TollError:Addr
 Sf:mg "TollError"=some (.ref TollError)
 BadWeb:Addr
 SI:mg "BadWeb"=some (.ref BadWeb)
 NoPlace:Addr
 Ks:mg "NoPlace"=some (.ref NoPlace)
 NoRoad:Addr
 Mn:mg "NoRoad"=some (.ref NoRoad)
 BadWish:Addr
 LU:mg "BadWish"=some (.ref BadWish)
 NoWorst:Addr
 KC:mg "NoWorst"=some (.ref NoWorst)
 Web:Addr
 Sl:mg "Web"=some (.ref Web)
 Outlook:Addr
 LL:mg "Outlook"=some (.ref Outlook)
 Se:XTop K TollError
 SD:XErr K TollError BadWeb
 Sv:XErr K TollError NoPlace
 Kq:B4 K NoPlace
 SJ:XErr K TollError NoRoad
 L9:B4 K NoRoad
 Ss:XErr K TollError BadWish
 Kn:B4 K BadWish
 Su:XErr K TollError NoWorst
 Kv:B4 K NoWorst
 ndx:[TollError,BadWeb,NoPlace,NoRoad,BadWish,NoWorst].Nodup
 range:mg "range"=none
 zip:mg "zip"=none
 len:mg "len"=none
 all:mg "all"=none
 int:mg "int"=none
 tuple:mg "tuple"=none
 list:mg "list"=none
 reversed:mg "reversed"=none
 sorted:mg "sorted"=none
 min:mg "min"=none
 enumerate:mg "enumerate"=none
 sum:mg "sum"=none
 c_MOST_PLACES:∃ t,mg "MOST_PLACES"=some (.int 24 t)
 c_LEAST_TOLL:∃ t,mg "LEAST_TOLL"=some (.int 2 t)
 c_MOST_TOLL:∃ t,mg "MOST_TOLL"=some (.int 1000000 t)
 j2:Cls K Web
 n_many:NoAttr K Web "many"
 n_roads:NoAttr K Web "roads"
 b4:Cls K Outlook
 n_web:NoAttr K Outlook "web"
 xU:NoAttr K Outlook "needs"
 ET:NoAttr K Outlook "kids"
 n_idle:NoAttr K Outlook "idle"
section
variable {P:Program} {w:World} {K:PySem.W.Frag} {mg:Str->Option Value} {base:Heap} {CX:CXT}
def qt (T:Txt K mg):Sp:=fun vs H Q _=>∃ (m:Int) (t:Addr) (xs:List V),vs=[.int m,.ref t]/\SqT K H t xs/\1<=m/\m<=24/\(xs.length:Int)=m - 1/\Q .non H
abbrev bu:Stmt:=top 16
theorem Bc:FnScope ["many","roads"] ["many","roads"] (aa bu):=FnScope.of (by kernel_rfl)
theorem lY:NmL (aa bu) "many":=.of (by kernel_rfl)
theorem rS:NmL (aa bu) "roads":=.of (by kernel_rfl)
theorem gZ:NmG (aa bu) "MOST_PLACES":=.of (by kernel_rfl)
theorem Gn:NmG (aa bu) "BadWeb":=.of (by kernel_rfl)
theorem iJ:NmG (aa bu) "len":=.of (by kernel_rfl)
theorem Aa (T:Txt K mg) (hq:bd (CXe P w)) {f:Addr} {fd:FuncData} (D:Df K mg "check_counts" bu ["many","roads"] f fd):FnOk P w K mg base (CXe P w) 1 f fd ["many","roads"] (qt T):=by
 refine D.F.okC Bc (fun vs H Q E h=>?_) (fun cdv A outer s H vs Q E hr h=>?_)
 . obtain ⟨m,t,xs,rfl,_⟩:=h
   rfl
 . obtain ⟨m,t,xs,rfl,ht,h1,h2,hl,k⟩:=h;refine ⟨_,(aj (bU (sJ (F5 A5 A5 ap (pvl 0 lY) (yO gZ.g T.c_MOST_PLACES (hd:=gZ.d)))) (au mX) bj) (au (bU (aR sV (cJ eB iJ.g T.len lD (ag (pvl 1 rS) ao) (hn:=iJ.n) (hdb:=iJ.d)) (aw lJ (pvl 0 lY) ap) (aX _)) (au mX) bj))),?_⟩;rw [show L2.start ["many","roads"] [V.int m,V.ref t]=[some (V.int m),some (V.ref t)] from rfl];walk_at "rd";rw [if_pos h1,if_neg (by omega)];exact ⟨xs,.inr ht,by rw [if_neg (by omega)];exact k⟩
def qT (T:Txt K mg):Sp:=fun vs H Q _=>∃ m n:Int,vs=[.int m,.int n]/\Q (.bl (decide (0<=n) && decide (n<m))) H
abbrev db:Stmt:=top 15
theorem GJ:FnScope ["many","number"] ["many","number"] (aa db):=FnScope.of (by kernel_rfl)
theorem zc:NmL (aa db) "many":=.of (by kernel_rfl)
theorem wc:NmL (aa db) "number":=.of (by kernel_rfl)
theorem GL (T:Txt K mg) (hq:bd (CXe P w)) {f:Addr} {fd:FuncData} (D:Df K mg "is_place" db ["many","number"] f fd):FnOk P w K mg base (CXe P w) 1 f fd ["many","number"] (qT T):=by
 refine D.F.okC GJ (fun vs H Q E h=>?_) (fun cdv A outer s H vs Q E hr h=>?_)
 . obtain ⟨m,n,rfl,_⟩:=h
   rfl
 . obtain ⟨m,n,rfl,k⟩:=h;refine ⟨_,(au (aU (Mm A5 AJ ap (pvl 1 wc) (pvl 0 zc)))),?_⟩;rw [show L2.start ["many","number"] [V.int m,V.int n]=[some (V.int m),some (V.int n)] from rfl];walk_at "rd";by_cases c:0<=n
   . simpa [c] using k
   . simpa [c] using k
def va (T:Txt K mg):Sp:=fun vs H Q _=>∃ (m:Int) (p:Addr) (r:Road),vs=[.int m,.ref p]/\H p=some (.tup (jP r))/\0<=r.a/\r.a<m/\0<=r.b/\r.b<m/\r.a≠r.b/\Q .non H
abbrev b5:Stmt:=top 17
theorem Dc:FnScope ["many","road"] ["many","road"] (aa b5):=FnScope.of (by kernel_rfl)
theorem nA:NmL (aa b5) "many":=.of (by kernel_rfl)
theorem f6:NmL (aa b5) "road":=.of (by kernel_rfl)
theorem d7:NmG (aa b5) "is_place":=.of (by kernel_rfl)
theorem Ka:NmG (aa b5) "BadWeb":=.of (by kernel_rfl)
theorem Dy (T:Txt K mg) (hq:bd (CXe P w)) {f:Addr} {fd:FuncData} (D:Df K mg "check_ends" b5 ["many","road"] f fd) {d6:Addr} {j4:FuncData} (cf:Df K mg "is_place" db ["many","number"] d6 j4) (G_is_place:FnOk P w K mg base (CXe P w) 1 d6 j4 ["many","number"] (qT T)):FnOk P w K mg base (CXe P w) 2 f fd ["many","road"] (va T):=by
 refine D.F.okC Dc (fun vs H Q E h=>?_) (fun cdv A outer s H vs Q E hr h=>?_)
 . obtain ⟨m,p,r,rfl,_⟩:=h
   rfl
 . obtain ⟨m,p,r,rfl,hp,a0,a1,b0,b1,ne,k⟩:=h;refine ⟨_,(aj (bU (PW.pt (PD (sJ (sP (ax G_is_place (hr.mono (by decide)) d7.g cf.m cf.F.kp cf.b .nil (aN hq) (ag (pvl 0 nA) (ag (bi jE (pvl 1 f6) ap (fun _ _=>rfl)) ao)) (hdb:=d7.d)))) (Kz (sJ (sP (ax G_is_place (hr.mono (by decide)) d7.g cf.m cf.F.kp cf.b .nil (aN hq) (ag (pvl 0 nA) (ag (bi jE (pvl 1 f6) ap (fun _ _=>rfl)) ao)) (hdb:=d7.d))))))) (au mX) bj) (au (bU (aR fL (bi jE (pvl 1 f6) ap (fun _ _=>rfl)) (bi jE (pvl 1 f6) ap (fun _ _=>rfl)) (aX _)) (au mX) bj))),?_⟩;rw [show L2.start ["many","road"] [V.int m,V.ref p]=[some (V.int m),some (V.ref p)] from rfl];walk_at "rd";refine ixT hp rfl ⟨m,r.a,rfl,_,rfl,?_⟩;rw [if_neg (by simp [a0,a1])];refine ixT hp rfl ⟨m,r.b,rfl,_,rfl,?_⟩;rw [if_neg (by simp [b0,b1])];refine ixT hp rfl (ixT hp rfl ⟨rfl,?_⟩);rw [if_neg (by simpa using ne)];exact k
def nN (T:Txt K mg):Sp:=fun vs H Q _=>∃ (t:Addr) (ps:List Addr) (rs:List Road) (n:Int),vs=[.ref t,.int n]/\SqT K H t (ps.map V.ref)/\RoadsAt H ps rs/\rs.length<=1000 /\
 ∀ l H',H l=none->Same H H'->H' l=some (.lst ((b6 rs n).map V.int))->Q (.ref l) H'
abbrev bR:Stmt:=top 20
theorem nK:FnScope ["roads","place","ends","road"] ["roads","place"] (aa bR):=FnScope.of (by kernel_rfl)
theorem vG:NmL (aa bR) "roads":=.of (by kernel_rfl)
theorem mf:NmL (aa bR) "place":=.of (by kernel_rfl)
theorem fW:NmL (aa bR) "ends":=.of (by kernel_rfl)
theorem eA:NmL (aa bR) "road":=.of (by kernel_rfl)
theorem De (T:Txt K mg) (hq:bd (CXe P w)) {f:Addr} {fd:FuncData} (D:Df K mg "other_ends" bR ["roads","place"] f fd):FnOk P w K mg base (CXe P w) 1 f fd ["roads","place"] (nN T):=by
 refine D.F.okC nK (fun vs H Q E h=>?_) (fun cdv A outer s H vs Q E hr h=>?_)
 . obtain ⟨t,ps,rs,n,rfl,_⟩:=h
   rfl
 . obtain ⟨t,ps,rs,n,rfl,ht,hp,hl,k⟩:=h;refine ⟨_,(aj (az (i:=2) nK.nd rfl (Or.inl fW.l) (eE ao)) (aj (dN PassesOwn.never rfl (wV (pvl 0 vG)) (aI (i:=3) nK.nd rfl (Or.inl eA.l)) (aj (bU (aR fL (bi jE (pvl 3 eA) ap (fun _ _=>rfl)) (pvl 1 mf) (aX _)) (au (c8 (oF PySem.F.plainAttrs_list PySem.F.slot_list_append PySem.F.type_list_append ff (pvl 2 fW) (ag (bi jE (pvl 3 eA) ap (fun _ _=>rfl)) ao)))) bj) (au (bU (aR fL (bi jE (pvl 3 eA) ap (fun _ _=>rfl)) (pvl 1 mf) (aX _)) (au (c8 (oF PySem.F.plainAttrs_list PySem.F.slot_list_append PySem.F.type_list_append ff (pvl 2 fW) (ag (bi jE (pvl 3 eA) ap (fun _ _=>rfl)) ao)))) bj)))) (au (aU (pvl 2 fW))))),?_⟩;rw [show L2.start ["roads","place","ends","road"] [V.ref t,V.int n]=[some (V.ref t),some (V.int n),none,none] from rfl];walk_at "rd";refine ⟨by decide,fun l hn=>?_⟩;have hlen:ps.length=rs.length:=Paired.length hp;refine ⟨⟨_,Same.tup (Same.new _ hn) ht⟩,Ck (xs:=ps.map V.ref) (fun i σ H2=>H2=upd H l (.lst ((b6 (rs.take i) n).map V.int))/\∃ v,σ=[some (.ref t),some (.int n),some (.ref l),v]) ⟨rfl,_,rfl⟩ (fun i σ H2 _ z=>by rw [z.1];exact Same.tup (Same.new _ hn) ht) ?_ ?_⟩
   . rintro i x σ H2 hi ⟨rfl,v,rfl⟩;obtain ⟨p,r,rfl,h1,h2,h3⟩:=hp.get hi;have np:p≠l:=bf h3 hn;have hil:i<rs.length:=(List.getElem?_eq_some_iff.mp h2).1;have et:rs.take (i+1)=rs.take i++[r]:=(by rw [List.take_succ,h2];rfl);have hb:(b6 (rs.take i) n).length<=2000:=Nat.le_trans (FE _ _) (by rw [List.length_take];omega);have hx:∀ o,upd H l o p=some (.tup (jP r)):=fun o=>by rw [aq np];exact h3
     walk_at "rd";refine ixT (hx _) rfl ?_;walk_at "rd";have fin:∀ (ys:List Int),(b6 (rs.take i) n++ys)=b6 (rs.take (i+1)) n->upd H l (.lst ((b6 (rs.take i) n).map V.int++ys.map V.int))=upd H l (.lst ((b6 (rs.take (i+1)) n).map V.int)):=fun ys e=>by
       rw [<- List.map_append,e]
     have e1:qK n r=(if r.a=n then [r.b] else [])++(if r.b=n then [r.a] else []):=rfl;by_cases ca:r.a=n
     . rw [if_pos ca];refine ⟨tyL ah,ixT (hx _) rfl (sW ah (dH (by rw [List.length_map];omega)) ?_)⟩;rw [oS];refine ixT (hx _) rfl ?_;walk_at "rd";by_cases cb:r.b=n
       . rw [if_pos cb];refine ⟨tyL ah,ixT (hx _) rfl (sW ah (dH (by rw [List.length_append,List.length_map];simp;omega)) ?_)⟩;rw [oS,List.append_assoc];exact ⟨fin [r.b,r.a] (by rw [et,qI,e1,if_pos ca,if_pos cb];rfl),_,rfl⟩
       . rw [if_neg cb];exact ⟨fin [r.b] (by rw [et,qI,e1,if_pos ca,if_neg cb];rfl),_,rfl⟩
     . rw [if_neg ca];refine ixT (hx _) rfl ?_;walk_at "rd";by_cases cb:r.b=n
       . rw [if_pos cb];refine ⟨tyL ah,ixT (hx _) rfl (sW ah (dH (by rw [List.length_map];omega)) ?_)⟩;rw [oS];exact ⟨fin [r.a] (by rw [et,qI,e1,if_neg ca,if_pos cb];rfl),_,rfl⟩
       . rw [if_neg cb];have:=fin [] (by rw [et,qI,e1,if_neg ca,if_neg cb];rfl);rw [List.map_nil,List.append_nil] at this;exact ⟨this,_,rfl⟩
   . rintro σ H2 ⟨rfl,v,rfl⟩;rw [List.length_map,hlen,List.take_length];exact ⟨_,rfl,k l _ hn (Same.new _ hn) ah⟩
def jS (ks:List Int):List (Key × V):=ks.map fun k=>((Sum.inl k:Key),V.bl true)
theorem CN (ks:List Int):(jS ks).length=ks.length:=by unfold jS;rw [List.length_map]
theorem Fy (ks:List Int) (e:Int):cR (jS ks) (Sum.inl e:Key)=if e∈ks then some (V.bl true) else none:=by
 unfold jS
 induction ks with
 | nil=>rfl
 | cons k ks ih =>
   rw [List.map_cons];by_cases c:k=e
   . rw [eM (by rw [c]),if_pos (by rw [c];exact List.mem_cons_self)]
   . rw [eP (fun z=>c (Sum.inl.inj z)),ih];by_cases d:e∈ks
     . rw [if_pos d,if_pos (List.mem_cons_of_mem _ d)]
     . rw [if_neg d,if_neg (fun z=>by rcases List.mem_cons.mp z with z|z;exact c z.symm;exact d z)]
theorem OY {ks:List Int} {e:Int} (h:e ∉ ks):dS (jS ks) (Sum.inl e:Key) (V.bl true)=jS (ks++[e]):=by
 rw [NS _ (by rw [Fy,if_neg h])];unfold jS;rw [List.map_append]
 rfl
def qr (T:Txt K mg):Sp:=fun vs H Q _=>∃ (m:Int) (t:Addr) (ps:List Addr) (rs:List Road),vs=[.int m,.ref t]/\SqT K H t (ps.map V.ref)/\RoadsAt H ps rs/\Good m rs/\∀ H',Same H H'->Q .non H'
abbrev aM:Stmt:=top 19
theorem fY:FnScope ["many","roads","reached","waiting","place","end"] ["many","roads"] (aa aM):=FnScope.of (by kernel_rfl)
theorem uk:NmL (aa aM) "many":=.of (by kernel_rfl)
theorem sy:NmL (aa aM) "roads":=.of (by kernel_rfl)
theorem dJ:NmL (aa aM) "reached":=.of (by kernel_rfl)
theorem dF:NmL (aa aM) "waiting":=.of (by kernel_rfl)
theorem kP:NmL (aa aM) "place":=.of (by kernel_rfl)
theorem fK:NmL (aa aM) "end":=.of (by kernel_rfl)
theorem iw:NmG (aa aM) "other_ends":=.of (by kernel_rfl)
theorem iQ:NmG (aa aM) "len":=.of (by kernel_rfl)
theorem GH:NmG (aa aM) "BadWeb":=.of (by kernel_rfl)
theorem Aw (T:Txt K mg) (hq:bd (CXe P w)) {f:Addr} {fd:FuncData} (D:Df K mg "check_joined" aM ["many","roads"] f fd) {cT:Addr} {iA:FuncData} (cq:Df K mg "other_ends" bR ["roads","place"] cT iA) (G_other_ends:FnOk P w K mg base (CXe P w) 1 cT iA ["roads","place"] (nN T)):FnOk P w K mg base (CXe P w) 2 f fd ["many","roads"] (qr T):=by
 refine D.F.okC fY (fun vs H Q E h=>?_) (fun cdv A outer s H vs Q E hr h=>?_)
 . obtain ⟨m,t,ps,rs,rfl,_⟩:=h
   rfl
 . obtain ⟨m,t,ps,rs,rfl,ht,hp,g,k⟩:=h;have hu:=Ai hr;refine ⟨_,(aj (az (i:=2) fY.nd rfl (Or.inl dJ.l) (Qk (Ow ap Bf Qh) rfl rfl (List.cons_ne_nil _ _) (by decide))) (aj (az (i:=3) fY.nd rfl (Or.inl dF.l) (eE (ag ap ao))) (aj (tM PassesOwn.never (zg (pvl 3 dF) (fun _=>rfl)) (aj (az (i:=4) fY.nd rfl (Or.inl kP.l) (F3 PySem.F.plainAttrs_list PySem.F.slot_list_pop PySem.F.type_list_pop FM (pvl 3 dF))) (au (dN PassesOwn.never rfl (jI (ax G_other_ends (hr.mono (by decide)) iw.g cq.m cq.F.kp cq.b .nil (aN hq) (ag (pvl 1 sy) (ag (pvl 4 kP) ao)) (hdb:=iw.d))) (aI (i:=5) fY.nd rfl (Or.inl fK.l)) (au (bU (AW (L1 hu (pvl 5 fK) (pvl 2 dJ))) (aj (Cc hu (pvl 2 dJ) (pvl 5 fK) Bf rfl) (au (c8 (oF PySem.F.plainAttrs_list PySem.F.slot_list_append PySem.F.type_list_append ff (pvl 3 dF) (ag (pvl 5 fK) ao))))) bj)))))) (au (bU (aR sV (cJ LX iQ.g T.len lD (ag (pvl 2 dJ) ao) (hn:=iQ.n) (hdb:=iQ.d)) (pvl 0 uk) (aX _)) (au mX) bj))))),?_⟩;rw [show L2.start ["many","roads","reached","waiting","place","end"] [V.int m,V.ref t]=[some (V.int m),some (V.ref t),none,none,none,none] from rfl];have m1:=g.m1;have m24:=g.m24;have glen:=g.len;walk_at "rd";intro d hd;refine ⟨ah,[(Sum.inl 0,.bl true)],rfl,by decide,?_⟩;rw [oS];refine ⟨by decide,fun w0 hw=>?_⟩;have ed:rX [] [((Sum.inl 0:Key),V.bl true)]=jS [0]:=rfl;rw [ed];have ndw:w0≠d:=fun z=>by rw [z,ah] at hw;cases hw
   have hw0:H w0=none:=by rw [aq ndw] at hw;exact hw
   refine Cn (fun n σ H2=>∃ (ks ws:List Int) (v4 v5:Option V),n=2*(m.toNat - ks.length)+ws.length/\σ=[some (.int m),some (.ref t),some (.ref d),some (.ref w0),v4,v5]/\Same H H2/\H2 d=some (.dK (jS ks))/\H2 w0=some (.lst (ws.map V.int))/\JInv m rs ks ws) _ ⟨[0],[0],none,none,rfl,rfl,?_,?_,ah,JInv.start m1⟩ ?_
   . exact Same.trans (Same.new _ hd) (Same.new _ hw)
   . rw [aq ndw.symm,ah]
   rintro n σ H2 NW hN hN2 ⟨ks,ws,v4,v5,rfl,rfl,sm,h1,h2,J⟩;have kl:=cM (by omega) J.nd J.rng;refine ⟨_,rfl,!(ws.map V.int).isEmpty,.inl ⟨_,SqL.of h2,rfl⟩,?_⟩;rcases List.eq_nil_or_concat ws with rfl|⟨ws',p,rfl⟩
   . -- nothing waits: all places have been reached
     have full:=J.all m1 g.jn;refine SM ?_;walk_at "rd";refine ⟨jS ks,h1,?_⟩;rw [CN,if_neg (by omega)];exact k _ sm
   . rw [List.concat_eq_append] at J h2 hN hN2 ⊢;have e1:(!(List.map V.int (ws'++[p])).isEmpty)=true:=(by simp);rw [e1];refine SC ⟨NW,hN2,?_⟩;walk_at "rd";rw [List.map_append,List.map_cons,List.map_nil] at h2;refine ⟨tyL h2,Nh h2 ?_⟩;have ndw':d≠w0:=ndw.symm;have sm2:Same H (upd H2 w0 (.lst (ws'.map V.int))):=fun b o e=>by rw [aq (bf e hw0)];exact sm b o e
     refine ⟨t,ps,rs,p,rfl,Same.tup sm2 ht,RoadsAt.same sm2 hp,by omega,fun l H3 hn s3 hl=>?_⟩;have nlw:w0≠l:=bf (o:=.lst (ws'.map V.int)) ah hn;have nld:d≠l:=bf (o:=.dK (jS ks)) (by rw [aq ndw'];exact h1) hn;have hl0:H l=none:=sm2.free hn;refine ⟨l,rfl,⟨_,SqL.of hl⟩,xC (K:=K) (xs:=(b6 rs p).map V.int) (fun i σ H4=>∃ (v5:Option V),σ=[some (.int m),some (.ref t),some (.ref d),some (.ref w0),some (.int p),v5]/\Same H H4/\H4 l=some (.lst ((b6 rs p).map V.int)) /\
       ∃ ks4 ws4:List Int,H4 d=some (.dK (jS ks4))/\H4 w0=some (.lst (ws4.map V.int))/\JMid m rs p ((b6 rs p).take i) ks4 ws4 ks ws'.length) ?_ (fun i σ H4 _ z=>by obtain ⟨_,_,_,z,_⟩:=z;exact SqL.of z) ?_ ?_⟩
     . refine ⟨_,rfl,sm2.trans s3,hl,ks,ws',?_,?_,?_⟩
       . exact s3 _ _ (by rw [aq ndw'];exact h1)
       . exact s3 _ _ ah
       . rw [List.take_zero];exact JMid.start J
     . rintro i x σ H4 NI hI hi ⟨v5,rfl,s4,hl4,ks4,ws4,hd4,hw4,M⟩;rw [List.getElem?_map] at hi;obtain ⟨e,he,rfl⟩:∃ e,(b6 rs p)[i]?=some e/\V.int e=x:=by
         cases q:(b6 rs p)[i]? with
         | none=>rw [q] at hi;cases hi
         | some e=>rw [q] at hi;exact ⟨e,rfl,Option.some.inj hi⟩
       have er:=MJ g.ok (List.mem_of_getElem? he);have et:(b6 rs p).take (i+1)=(b6 rs p).take i++[e]:=(by rw [List.take_succ,he];rfl);have st:=M.step er.1 er.2;have k4:=cM (by omega) M.nd M.rng;have mu4:=M.mu;walk_at "rd";refine ⟨_,DGet.k (k:=Sum.inl e) hd4,?_⟩;rw [Fy];by_cases c:e∈ks4
       . rw [if_pos c];rw [if_neg (by simp)];refine hI _ _ ⟨_,rfl,s4,hl4,ks4,ws4,hd4,hw4,?_⟩;rw [et];unfold zY at st;rw [if_pos c] at st;exact st
       . rw [if_neg c];rw [if_pos (by simp)];refine ⟨_,DPut.k (k:=Sum.inl e) hd4 (dH (by rw [CN];omega)),?_⟩;rw [OY c];have hw5:upd H4 d (.dK (jS (ks4++[e]))) w0=some (.lst (ws4.map V.int)):=(by rw [aq ndw];exact hw4);refine ⟨tyL hw5,sW hw5 (dH (by rw [List.length_map];have:=M.wl;omega)) ?_⟩;have hmid:=M.mu;refine hI _ _ ⟨_,rfl,fun b o z=>?_,?_,ks4++[e],ws4++[e],?_,?_,?_⟩
         . rw [aq (bf z hw0),aq (bf z hd)];exact s4 b o z
         . rw [aq nlw.symm,aq nld.symm];exact hl4
         . rw [aq ndw',ah]
         . rw [ah,List.map_append];rfl
         . rw [et];unfold zY at st;rw [if_neg c] at st;exact st
     . rintro σ H4 ⟨v5,rfl,s4,hl4,ks4,ws4,hd4,hw4,M⟩;rw [List.length_map,List.take_length] at M;have k4:=cM (by omega) M.nd M.rng;have mu4:=M.mu;have up4:=M.up;refine hN _ _ _ ?_ ⟨ks4,ws4,some (.int p),v5,rfl,rfl,s4,hd4,hw4,M.done⟩;rw [List.length_append];simp only [List.length_cons,List.length_nil];omega
def sj (T:Txt K mg):Sp:=fun vs H Q _=>∃ (p:Addr) (r:Road),vs=[.ref p]/\H p=some (.tup (jP r))/\2<=r.t/\r.t<=1000000/\2<=r.u/\r.u<=1000000/\∀ H',Same H H'->Q .non H'
abbrev bH:Stmt:=top 18
theorem sd:FnScope ["road","number"] ["road"] (aa bH):=FnScope.of (by kernel_rfl)
theorem l9:NmL (aa bH) "road":=.of (by kernel_rfl)
theorem kN:NmL (aa bH) "number":=.of (by kernel_rfl)
theorem iU:NmG (aa bH) "LEAST_TOLL":=.of (by kernel_rfl)
theorem jo:NmG (aa bH) "MOST_TOLL":=.of (by kernel_rfl)
theorem Hu:NmG (aa bH) "BadWeb":=.of (by kernel_rfl)
theorem BZ (T:Txt K mg) (hq:bd (CXe P w)) {f:Addr} {fd:FuncData} (D:Df K mg "check_tolls" bH ["road"] f fd):FnOk P w K mg base (CXe P w) 1 f fd ["road"] (sj T):=by
 refine D.F.okC sd (fun vs H Q E h=>?_) (fun cdv A outer s H vs Q E hr h=>?_)
 . obtain ⟨p,r,rfl,_⟩:=h
   rfl
 . obtain ⟨p,r,rfl,hp,t0,t1,u0,u1,k⟩:=h;refine ⟨_,(au (dN PassesOwn.never rfl (wV (iz (ag (bi jE (pvl 0 l9) ap (fun _ _=>rfl)) (ag (bi jE (pvl 0 l9) ap (fun _ _=>rfl)) ao)))) (aI (i:=1) sd.nd rfl (Or.inl kN.l)) (au (bU (sJ (F5 A5 A5 (yO iU.g T.c_LEAST_TOLL (hd:=iU.d)) (pvl 1 kN) (yO jo.g T.c_MOST_TOLL (hd:=jo.d)))) (au mX) bj)))),?_⟩;rw [show L2.start ["road","number"] [V.ref p]=[some (V.ref p),none] from rfl];walk_at "rd";refine ixT hp rfl (ixT hp rfl ⟨bE (by simp),fun q hn=>?_⟩);have e1:upd H q (.tup [.int r.t,.int r.u]) q=some (.tup [.int r.t,.int r.u]):=ah;refine ⟨⟨_,SqT.of e1⟩,Ck (K:=K) (xs:=[.int r.t,.int r.u]) (fun i σ H2=>H2=upd H q (.tup [.int r.t,.int r.u])/\∃ v,σ=[some (.ref p),v]) ⟨rfl,_,rfl⟩ (fun i σ H2 _ z=>by rw [z.1];exact SqT.of e1) ?_ ?_⟩
   . rintro i x σ H2 hi ⟨rfl,v,rfl⟩;have hx:∃ n:Int,x=.int n/\2<=n/\n<=1000000:=by
       match i,hi with
       | 0,hi=>exact ⟨r.t,by simpa using hi.symm,t0,t1⟩
       | 1,hi=>exact ⟨r.u,by simpa using hi.symm,u0,u1⟩
     obtain ⟨n,rfl,n0,n1⟩:=hx;walk_at "rd";rw [if_pos n0,if_neg (by omega)];exact ⟨_,rfl⟩
   . rintro σ H2 ⟨rfl,v,rfl⟩;exact k _ (Same.new _ hn)
/-- the attributes of a web -/
def AN (m:Int) (t:Addr):List (Str × V):=aV "roads" (.ref t) (aV "many" (.int m) [])
theorem Sj:¬ (("many":Str)="roads"):=by decide +kernel
theorem lO (m:Int) (t:Addr):(AN m t).lookup ("many":Str)=some (.int m):=by
 unfold AN;rw [bO,if_neg Sj,bO,if_pos rfl]
theorem yC (m:Int) (t:Addr):(AN m t).lookup ("roads":Str)=some (.ref t):=by
 unfold AN;rw [bO,if_pos rfl]
/-- a web of m places and the roads rs stands at p,its tuple at t,the roads' tuples at ps -/
structure WebAt (C:Addr) (H:Hp) (p:Addr) (m:Int) (t:Addr) (ps:List Addr) (rs:List Road):Prop where
 ob:∃ dx,H p=some (.ins C dx (AN m t))
 tu:H t=some (.tup (ps.map V.ref))
 ro:RoadsAt H ps rs
 go:Good m rs
theorem WebAt.same {C:Addr} {H H':Hp} {p:Addr} {m:Int} {t:Addr} {ps:List Addr} {rs:List Road} (e:Same H H') (h:WebAt C H p m t ps rs):WebAt C H' p m t ps rs :=
 ⟨let ⟨dx,q⟩:=h.ob;⟨dx,e _ _ q⟩,e _ _ h.tu,RoadsAt.same e h.ro,h.go⟩
def lK (T:Txt K mg):Sp:=fun vs H Q _=>∃ (p dx:Addr) (m:Int) (c:Bool) (a:Addr) (ps:List Addr) (rs:List Road),vs=[.ref p,.int m,.ref a]/\H p=some (.ins T.Web dx [])/\SqX K c H a (ps.map V.ref)/\RoadsAt H ps rs/\Good m rs /\
 ∀ t H',H t=none->WebAt T.Web H' p m t ps rs->(∀ b o,H b=some o->b≠p->H' b=some o)->Q .non H'
abbrev aL:Stmt:=Hm (top 11) 0
theorem kY:FnScope ["self","many","roads","kept","road"] ["self","many","roads"] (aa aL):=FnScope.of (by kernel_rfl)
theorem lL:NmL (aa aL) "self":=.of (by kernel_rfl)
theorem eV:NmL (aa aL) "many":=.of (by kernel_rfl)
theorem sB:NmL (aa aL) "roads":=.of (by kernel_rfl)
theorem df:NmL (aa aL) "kept":=.of (by kernel_rfl)
theorem g6:NmL (aa aL) "road":=.of (by kernel_rfl)
theorem gU:NmG (aa aL) "tuple":=.of (by kernel_rfl)
theorem gP:NmG (aa aL) "check_counts":=.of (by kernel_rfl)
theorem ir:NmG (aa aL) "check_ends":=.of (by kernel_rfl)
theorem gX:NmG (aa aL) "check_tolls":=.of (by kernel_rfl)
theorem gR:NmG (aa aL) "check_joined":=.of (by kernel_rfl)
theorem Ay (T:Txt K mg) (hq:bd (CXe P w)) {f:Addr} {fd:FuncData} (F:Fun K "__init__" "Web.__init__" aL f fd) {dU:Addr} {qv:FuncData} (fq:Df K mg "check_counts" bu ["many","roads"] dU qv) (G_check_counts:FnOk P w K mg base (CXe P w) 1 dU qv ["many","roads"] (qt T)) {fF:Addr} {vk:FuncData} (gH:Df K mg "check_ends" b5 ["many","road"] fF vk) (G_check_ends:FnOk P w K mg base (CXe P w) 2 fF vk ["many","road"] (va T)) {dY:Addr} {qG:FuncData} (ft:Df K mg "check_joined" aM ["many","roads"] dY qG) (G_check_joined:FnOk P w K mg base (CXe P w) 2 dY qG ["many","roads"] (qr T)) {eN:Addr} {sv:FuncData} (fQ:Df K mg "check_tolls" bH ["road"] eN sv) (G_check_tolls:FnOk P w K mg base (CXe P w) 1 eN sv ["road"] (sj T)):FnOk P w K mg base (CXe P w) 3 f fd ["self","many","roads"] (lK T):=by
 refine F.okC kY (fun vs H Q E h=>?_) (fun cdv A outer s H vs Q E hr h=>?_)
 . obtain ⟨p,dx,m,c,a,ps,rs,rfl,_⟩:=h
   rfl
 . obtain ⟨p,dx,m,c,a,ps,rs,rfl,hp,ha,hro,g,k⟩:=h;refine ⟨_,(aj (az (i:=3) kY.nd rfl (Or.inl df.l) (jl kc gU.g T.tuple uQ (ag (oJ rfl (zh (Nc:=["road"]) 1 (by decide +kernel) (by decide +kernel) rfl (by decide +kernel) rfl) (Ky c (pvl 2 sB)) (fun _ _ _ _=>(aI (i:=0) (show (["road"]:List Str).Nodup from by decide +kernel) rfl (Or.inl rfl))) (fun _ _ _ _=>sD) (fun _ _ _ _=>(jl (BS K rfl) (by rfl) T.tuple uQ (ag (pv 0) ao)))) ao) (hn:=gU.n) (hdb:=gU.d))) (aj (c8 (ax G_check_counts (hr.mono (by decide)) gP.g fq.m fq.F.kp fq.b .nil (aN hq) (ag (pvl 1 eV) (ag (pvl 3 df) ao)) (hdb:=gP.d))) (aj (dN PassesOwn.never rfl (wV (pvl 3 df)) (aI (i:=4) kY.nd rfl (Or.inl g6.l)) (aj (c8 (ax G_check_ends (hr.mono (by decide)) ir.g gH.m gH.F.kp gH.b .nil (aN hq) (ag (pvl 1 eV) (ag (pvl 4 g6) ao)) (hdb:=ir.d))) (au (c8 (ax G_check_tolls (hr.mono (by decide)) gX.g fQ.m fQ.F.kp fQ.b .nil (aN hq) (ag (pvl 4 g6) ao) (hdb:=gX.d)))))) (aj (c8 (ax G_check_joined (hr.mono (by decide)) gR.g ft.m ft.F.kp ft.b .nil (aN hq) (ag (pvl 1 eV) (ag (pvl 3 df) ao)) (hdb:=gR.d))) (aj (sA (pvl 0 lL) (pvl 1 eV) rfl) (au (sA (pvl 0 lL) (pvl 3 df) rfl))))))),?_⟩;rw [show L2.start ["self","many","roads","kept","road"] [V.ref p,V.int m,V.ref a]=[some (V.ref p),some (V.int m),some (V.ref a),none,none] from rfl];walk_at "rd";refine ⟨⟨_,ha⟩,fun l hl=>?_⟩;have hlen:ps.length=rs.length:=Paired.length hro;have glen:=g.len;have m24:=g.m24;have hl1:Same H (upd H l (.lst [])):=Same.new _ hl;refine yT (K:=K) (xs:=ps.map V.ref) (fun i ys σ H2=>H2=upd H l (.lst ((ps.take i).map V.ref))/\ys=(ps.take i).map V.ref/\∃ v,σ=[v]) ⟨rfl,rfl,_,rfl⟩ (fun i ys σ H2 _ ⟨z,_⟩=>by rw [z];exact Same.sqX (Same.new _ hl) ha) ?_ ?_
   . rintro i x ys σ H2 N hN hi ⟨rfl,rfl,v,rfl⟩;obtain ⟨q,r,rfl,h1,h2,h3⟩:=hro.get hi;have nq:q≠l:=bf h3 hl;have hil:i<ps.length:=(List.getElem?_eq_some_iff.mp h1).1;have et:ps.take (i+1)=ps.take i++[q]:=(by rw [List.take_succ,h1];rfl);walk_at "rd";refine ⟨jP r,.inr ⟨SqT.of (by rw [aq nq];exact h3),ah,dH (by rw [List.length_map,List.length_take];omega),hN _ _ _ ⟨?_,?_,_,rfl⟩⟩⟩
     . rw [oS,et,List.map_append];rfl
     . rw [et,List.map_append];rfl
   . rintro ys σ H2 ⟨rfl,rfl,v,rfl⟩;rw [List.length_map,List.take_length];refine ⟨l,rfl,ps.map V.ref,.inl ⟨SqL.of ah,fun t ht=>?_⟩⟩;have s1:Same H (upd H l (.lst (ps.map V.ref))):=Same.new _ hl;have s2:Same (upd H l (.lst (ps.map V.ref))) (upd (upd H l (.lst (ps.map V.ref))) t (.tup (ps.map V.ref))):=Same.new _ ht;have ht0:H t=none:=s1.free ht;have ht1:∀ {H':Hp},Same (upd (upd H l (.lst (ps.map V.ref))) t (.tup (ps.map V.ref))) H'->H' t=some (.tup (ps.map V.ref)):=fun e=>e _ _ ah;refine ⟨m,t,ps.map V.ref,rfl,SqT.of ah,g.m1,g.m24,by rw [List.length_map];omega,⟨_,SqT.of ah⟩,?_⟩;refine DK (K:=K) (xs:=ps.map V.ref) (fun i σ H3=>Same (upd (upd H l (.lst (ps.map V.ref))) t (.tup (ps.map V.ref))) H3/\∃ v,σ=[some (.ref p),some (.int m),some (.ref a),some (.ref t),v]) ⟨Same.refl _,_,rfl⟩ (fun i σ H3 _ ⟨z,_⟩=>SqT.of (ht1 z)) ?_ ?_
     . rintro i x σ H3 N hN hi ⟨s3,v,rfl⟩;have s03:=s1.trans (s2.trans s3);obtain ⟨q,r,rfl,h1,h2,h3⟩:=hro.get hi;have ok:=g.ok r (List.mem_of_getElem? h2);walk_at "rd";refine ⟨m,q,r,rfl,s03 _ _ h3,ok.a0,ok.a1,ok.b0,ok.b1,ok.ne,?_⟩;exact ⟨q,r,rfl,s03 _ _ h3,ok.t0,ok.t1,ok.u0,ok.u1,fun H4 s4=>hN _ _ ⟨s3.trans s4,_,rfl⟩⟩
     . rintro σ H3 ⟨s3,v,rfl⟩;have s03:=s1.trans (s2.trans s3);walk_at "rd";refine ⟨m,t,ps,rs,rfl,SqT.of (ht1 s3),RoadsAt.same s03 hro,g,fun H4 s4=>?_⟩;have s04:=s03.trans s4;have ntp:t≠p:=fun z=>by rw [z,hp] at ht0;cases ht0
       refine ⟨T.Web,dx,[],s04 _ _ hp,T.j2,T.n_many,by decide,?_⟩;refine ⟨T.Web,dx,_,ah,T.j2,T.n_roads,by show 1<1000;decide,?_⟩;rw [oS];refine k t _ ht0 ⟨⟨dx,ah⟩,?_,?_,g⟩ fun b o hb nb=>?_
       . rw [aq ntp];exact ht1 (s3.trans s4)
       . refine Paired.imp' (fun q r hq=>?_) hro;rw [aq (fM hq hp (by intro z;cases z))];exact s04 _ _ hq
       . rw [aq nb];exact s04 _ _ hb
/-- Web(m,roads),at a call: nothing is changed,a new web stands -/
theorem QY (T:Txt K mg) {H:Hp} {m:Int} {c:Bool} {a:Addr} {ps:List Addr} {rs:List Road} {Q:Addr->Hp->Prop} (ha:SqX K c H a (ps.map V.ref)) (ro:RoadsAt H ps rs) (g:Good m rs)
   (k:∀ x t H',H x=none->H t=none->Same H H'->WebAt T.Web H' x m t ps rs->Q x H') :
   ∀ x dx,H x=none->H dx=none->dx≠x->lK T [.ref x,.int m,.ref a] (upd (upd H dx (.own x)) x (.ins T.Web dx [])) (fun v H2=>v=.non/\Q x H2) E0:=by
 intro x dx hx hdx ne;have hx1:upd H dx (.own x) x=none:=by rw [aq ne.symm];exact hx
 have s0:Same H (upd (upd H dx (.own x)) x (.ins T.Web dx [])):=(Same.new _ hdx).trans (Same.new _ hx1);exact ⟨x,dx,m,c,a,ps,rs,rfl,ah,Same.sqX s0 ha,RoadsAt.same s0 ro,g,fun t H' ht W kp=>⟨rfl,k x t H' hx (s0.free ht) (fun b o e=>kp b o (s0 b o e) (bf e hx)) W⟩⟩
/-- the dict of the tolls of the first roads -/
def QQ (H:Hp) (d:Addr) (rs:List Road) (n:Nat):Prop:=∃ kvs,H d=some (.dT kvs)/\(kvs.length<=2*n/\∀ p∈kvs,∃ a b:Int,p.1=[.inl a,.inl b])/\∀ a b:Int,(∀ i x,i<n->rs[i]?=some x->lI x a b->cR kvs [.inl a,.inl b]=(dE a b x).map V.int)/\((∀ i x,i<n->rs[i]?=some x->¬ lI x a b)->cR kvs [.inl a,.inl b]=none)
/-- the dict of the tolls of a web -/
structure TollsAt (H:Hp) (d:Addr) (rs:List Road):Prop where
 ex:∃ kvs,H d=some (.dT kvs)/\∀ a b:Int,cR kvs [.inl a,.inl b]=(aH rs a b).map V.int
 ks:∃ kvs,H d=some (.dT kvs)/\kvs.length<=2*rs.length/\∀ p∈kvs,∃ a b:Int,p.1=[.inl a,.inl b]
theorem TollsAt.same {H H':Hp} {d:Addr} {rs:List Road} (e:Same H H') (h:TollsAt H d rs):TollsAt H' d rs:=by
 obtain ⟨kvs,h1,h2⟩:=h.ex;obtain ⟨kws,h3,h4⟩:=h.ks;exact ⟨⟨kvs,e _ _ h1,h2⟩,⟨kws,e _ _ h3,h4⟩⟩
def xH (T:Txt K mg):Sp:=fun vs H Q _=>∃ (l:Addr) (ps:List Addr) (m:Int) (rs:List Road),vs=[.ref l]/\H l=some (.lst (ps.map V.ref))/\RoadsAt H ps rs/\Good m rs/\∀ d H',H d=none->Same H H'->TollsAt H' d rs->Q (.ref d) H'
abbrev bT:Stmt:=top 48
theorem gC:FnScope ["roads","tolls","one","other","there","back"] ["roads"] (aa bT):=FnScope.of (by kernel_rfl)
theorem xA:NmL (aa bT) "roads":=.of (by kernel_rfl)
theorem f7:NmL (aa bT) "tolls":=.of (by kernel_rfl)
theorem kq:NmL (aa bT) "one":=.of (by kernel_rfl)
theorem ji:NmL (aa bT) "other":=.of (by kernel_rfl)
theorem nD:NmL (aa bT) "there":=.of (by kernel_rfl)
theorem nY:NmL (aa bT) "back":=.of (by kernel_rfl)
theorem Ef (T:Txt K mg) (hq:bd (CXe P w)) {f:Addr} {fd:FuncData} (D:Df K mg "_law_tolls" bT ["roads"] f fd):FnOk P w K mg base (CXe P w) 1 f fd ["roads"] (xH T):=by
 refine D.F.okC gC (fun vs H Q E h=>?_) (fun cdv A outer s H vs Q E hr h=>?_)
 . obtain ⟨l,ps,m,rs,rfl,_⟩:=h
   rfl
 . obtain ⟨l,ps,m,rs,rfl,hl,ro,g,k⟩:=h;have hu:=Ai hr;refine ⟨_,(aj (az (i:=1) gC.nd rfl (Or.inl f7.l) N8) (aj (dN PassesOwn.never rfl (jI (pvl 0 xA)) (nu (n:=4) rfl (bF (aI (i:=2) gC.nd rfl (Or.inl kq.l)) (bF (aI (i:=3) gC.nd rfl (Or.inl ji.l)) (bF (aI (i:=4) gC.nd rfl (Or.inl nD.l)) (bF (aI (i:=5) gC.nd rfl (Or.inl nY.l)) jR))))) (aj (Cc hu (pvl 1 f7) (iz (ag (pvl 2 kq) (ag (pvl 3 ji) ao))) (pvl 4 nD) rfl) (au (Cc hu (pvl 1 f7) (iz (ag (pvl 3 ji) (ag (pvl 2 kq) ao))) (pvl 5 nY) rfl)))) (au (aU (pvl 1 f7))))),?_⟩;rw [show L2.start ["roads","tolls","one","other","there","back"] [V.ref l]=[some (V.ref l),none,none,none,none,none] from rfl];walk_at "rd";intro d hd;have s0:=Same.new (.dT []) hd;have hlen:ps.length=rs.length:=Paired.length ro;have glen:=g.len;have m24:=g.m24;refine ⟨⟨_,SqL.of (s0 _ _ hl)⟩,?_⟩;refine xC (K:=K) (xs:=ps.map V.ref) (fun i σ H2=>Same H H2/\QQ H2 d rs i/\∃ v1 v2 v3 v4,σ=[some (V.ref l),some (V.ref d),v1,v2,v3,v4]) ⟨s0,⟨[],ah,⟨by simp,fun p hp=>nomatch hp⟩,fun a b=>⟨fun i x hi=>absurd hi (Nat.not_lt_zero _),fun _=>rfl⟩⟩,_,_,_,_,rfl⟩ (fun i σ H2 _ z=>SqL.of (z.1 _ _ hl)) ?_ ?_
   . rintro i x σ H2 N hN hx ⟨s2,⟨kvs,hk,⟨hkl,hks⟩,hkv⟩,v1,v2,v3,v4,rfl⟩;obtain ⟨q,r,rfl,h1,h2,h3⟩:=ro.get hx;have hil:i<rs.length:=(List.getElem?_eq_some_iff.mp h2).1;have ok:=g.ok r (List.mem_of_getElem? h2);walk_at "rd";refine ⟨_,SqT.of (s2 _ _ h3),rfl,_,_,rfl,_,_,rfl,_,_,rfl,_,_,rfl,rfl,?_⟩;refine ⟨bE (by simp),fun p1 n1=>⟨_,DPut.t (k:=[.inl r.a,.inl r.b]) (Same.new (.tup [V.int r.a,V.int r.b]) n1 _ _ hk) ah (dH (by omega)),bE (by simp),fun p2 n2=>?_⟩⟩;have l1:=j5 kvs [Sum.inl r.a,Sum.inl r.b] (V.int r.t);have np2:d≠p2:=fun z=>by rw [<- z,ah] at n2;cases n2
     refine ⟨_,DPut.t (k:=[.inl r.b,.inl r.a]) (by rw [aq np2];exact ah) ah (dH (by omega)),hN _ _ ⟨?_,⟨_,ah,?_,?_⟩,_,_,_,_,rfl⟩⟩
     . intro b o hb;have nd:b≠d:=bf hb hd;have b2:=s2 _ _ hb;have nb1:b≠p1:=bf b2 n1;have b3:upd (upd H2 p1 (.tup [V.int r.a,V.int r.b])) d (.dT (dS kvs [Sum.inl r.a,Sum.inl r.b] (V.int r.t))) b=some o:=(by rw [aq nd,aq nb1];exact b2);rw [aq nd,aq (bf b3 n2)];exact b3
     . have l2:=j5 (dS kvs [Sum.inl r.a,Sum.inl r.b] (V.int r.t)) [Sum.inl r.b,Sum.inl r.a] (V.int r.u);refine ⟨by omega,fun p hp=>?_⟩;rcases DZ hp with e|⟨q,hq,e⟩
       . exact ⟨_,_,e⟩
       rcases DZ hq with e'|⟨q',hq',e'⟩
       . exact ⟨_,_,e.trans e'⟩
       . obtain ⟨a',b',e2⟩:=hks q' hq';exact ⟨a',b',e.trans (e'.trans e2)⟩
     . intro a' b';have v2:cR (dS (dS kvs [Sum.inl r.a,Sum.inl r.b] (V.int r.t)) [Sum.inl r.b,Sum.inl r.a] (V.int r.u)) [Sum.inl a',Sum.inl b']=if a'=r.b/\b'=r.a then some (V.int r.u) else if a'=r.a/\b'=r.b then some (V.int r.t) else cR kvs [Sum.inl a',Sum.inl b']:=by
         rw [Ej,Ej];simp
       rw [v2];have away:¬ lI r a' b'->(if a'=r.b/\b'=r.a then some (V.int r.u) else if a'=r.a/\b'=r.b then some (V.int r.t) else cR kvs [Sum.inl a',Sum.inl b'])=cR kvs [Sum.inl a',Sum.inl b']:=fun z=>by
         rw [if_neg (fun w=>z (.inr ⟨w.1.symm,w.2.symm⟩)),if_neg (fun w=>z (.inl ⟨w.1.symm,w.2.symm⟩))]
       constructor
       . intro j x hj hy jx;by_cases e:j=i
         . subst e;rw [h2] at hy;cases hy;rcases jx with ⟨w1,w2⟩|⟨w1,w2⟩
           . subst w1 w2;rw [if_neg (fun z=>ok.ne z.1),if_pos ⟨rfl,rfl⟩,Ov ok.ne]
             rfl
           . subst w1 w2;rw [if_pos ⟨rfl,rfl⟩,MZ ok.ne]
             rfl
         . rw [away fun w=>e (CU g hy h2 jx w)];exact (hkv a' b').1 j x (by omega) hy jx
       . intro z;rw [away (z i r (by omega) h2)];exact (hkv a' b').2 fun j x hj hx=>z j x (by omega) hx
   . rintro σ H2 ⟨s2,⟨kvs,hk,⟨hkl,hks⟩,hkv⟩,v1,v2,v3,v4,rfl⟩;rw [List.length_map,hlen] at hkv;walk_at "rd";refine k d H2 hd s2 ⟨⟨kvs,hk,fun a b=>?_⟩,⟨kvs,hk,by rw [List.length_map,hlen] at hkl;exact hkl,hks⟩⟩;by_cases z:∃ (i:Nat) (x:Road),rs[i]?=some x/\lI x a b
     . obtain ⟨i,x,hi,j⟩:=z;rw [(hkv a b).1 i x (List.getElem?_eq_some_iff.mp hi).1 hi j,qM g hi j]
     . rw [(hkv a b).2 fun i x _ hi j=>z ⟨i,x,hi,j⟩,LV]
       . rfl
       . rintro ⟨x,hx,j⟩;obtain ⟨i,hi⟩:=List.getElem?_of_mem hx;exact z ⟨i,x,hi,j⟩
theorem FZ (c i:Int) (i0:0<=i) (i1:i<=1000):CMul 7919 i/\CMul (c % 998244353+7919*i+11) 48271/\CMul ((c % 998244353+7919*i+11)*48271 % 2147483647) ((c % 998244353+7919*i+11)*48271 % 2147483647)/\CMul (((c % 998244353+7919*i+11)*48271 % 2147483647)*((c % 998244353+7919*i+11)*48271 % 2147483647) % 2147483629) (((c % 998244353+7919*i+11)*48271 % 2147483647)*((c % 998244353+7919*i+11)*48271 % 2147483647) % 2147483629)/\CMul ((((c % 998244353+7919*i+11)*48271 % 2147483647)*((c % 998244353+7919*i+11)*48271 % 2147483647) % 2147483629)*(((c % 998244353+7919*i+11)*48271 % 2147483647)*((c % 998244353+7919*i+11)*48271 % 2147483647) % 2147483629)) (((c % 998244353+7919*i+11)*48271 % 2147483647)+12345678901)/\Ru ((((c % 998244353+7919*i+11)*48271 % 2147483647)*((c % 998244353+7919*i+11)*48271 % 2147483647) % 2147483629)*(((c % 998244353+7919*i+11)*48271 % 2147483647)*((c % 998244353+7919*i+11)*48271 % 2147483647) % 2147483629)*(((c % 998244353+7919*i+11)*48271 % 2147483647)+12345678901)) 7/\0<=(((c % 998244353+7919*i+11)*48271 % 2147483647)*((c % 998244353+7919*i+11)*48271 % 2147483647) % 2147483629)*(((c % 998244353+7919*i+11)*48271 % 2147483647)*((c % 998244353+7919*i+11)*48271 % 2147483647) % 2147483629)*(((c % 998244353+7919*i+11)*48271 % 2147483647)+12345678901) / 7:=by
 have h3:=Int.emod_nonneg ((c % 998244353+7919*i+11)*48271) (show (2147483647:Int)≠0 by decide);have h4:=Int.emod_lt_of_pos ((c % 998244353+7919*i+11)*48271) (show (0:Int)<2147483647 by decide);generalize (c % 998244353+7919*i+11)*48271 % 2147483647=n at h3 h4 ⊢;have h5:=Int.emod_nonneg (n*n) (show (2147483629:Int)≠0 by decide);have h6:=Int.emod_lt_of_pos (n*n) (show (0:Int)<2147483629 by decide);generalize n*n % 2147483629=f at h5 h6 ⊢;refine ⟨.inl ⟨by decide,by decide⟩,.inr ⟨by decide,by decide⟩,.inl ⟨by omega,by omega⟩,.inl ⟨by omega,by omega⟩,.inr ⟨by omega,by omega⟩,⟨by decide,by decide⟩,?_⟩;exact Int.ediv_nonneg (Int.mul_nonneg (Int.mul_nonneg h5 h5) (by omega)) (by decide)
theorem DY (c i:Int):(((c % 998244353+7919*i+11)*48271 % 2147483647)*((c % 998244353+7919*i+11)*48271 % 2147483647) % 2147483629)*(((c % 998244353+7919*i+11)*48271 % 2147483647)*((c % 998244353+7919*i+11)*48271 % 2147483647) % 2147483629)*(((c % 998244353+7919*i+11)*48271 % 2147483647)+12345678901) / 7<10^60:=by
 have h3:=Int.emod_nonneg ((c % 998244353+7919*i+11)*48271) (show (2147483647:Int)≠0 by decide);have h4:=Int.emod_lt_of_pos ((c % 998244353+7919*i+11)*48271) (show (0:Int)<2147483647 by decide);generalize (c % 998244353+7919*i+11)*48271 % 2147483647=n at h3 h4 ⊢;have h5:=Int.emod_nonneg (n*n) (show (2147483629:Int)≠0 by decide);have h6:=Int.emod_lt_of_pos (n*n) (show (0:Int)<2147483629 by decide);generalize n*n % 2147483629=f at h5 h6 ⊢;have a1:f*f<=2147483629*2147483629:=Int.le_trans (Int.mul_le_mul_of_nonneg_left (Int.le_of_lt h6) h5) (Int.mul_le_mul_of_nonneg_right (Int.le_of_lt h6) (by decide));have a0:0<=f*f:=Int.mul_nonneg h5 h5;have a2:f*f*(n+12345678901)<=2147483629*2147483629*14493162548:=Int.le_trans (Int.mul_le_mul_of_nonneg_left (show n+12345678901<=14493162548 by omega) a0) (Int.mul_le_mul_of_nonneg_right a1 (by decide));have a3:f*f*(n+12345678901) / 7<=f*f*(n+12345678901):=Int.ediv_le_self _ (Int.mul_nonneg a0 (by omega));have a4:(2147483629*2147483629*14493162548:Int)<10^60:=by decide
 omega
def gG (T:Txt K mg):Sp:=fun vs H Q _=>∃ (a:Addr) (ns:List Int) (k:Int),vs=[.ref a,.int k]/\SqL K H a (ns.map V.int)/\0<=k/\k<=1000/\∀ v,(0<=v/\v<10^60)->Q (.int v) H
abbrev bp:Stmt:=top 44
theorem gQ:FnScope ["script","k","cell","near","far"] ["script","k"] (aa bp):=FnScope.of (by kernel_rfl)
theorem fH:NmL (aa bp) "script":=.of (by kernel_rfl)
theorem mm:NmL (aa bp) "k":=.of (by kernel_rfl)
theorem eS:NmL (aa bp) "cell":=.of (by kernel_rfl)
theorem gr:NmL (aa bp) "near":=.of (by kernel_rfl)
theorem kE:NmL (aa bp) "far":=.of (by kernel_rfl)
theorem dW:NmG (aa bp) "len":=.of (by kernel_rfl)
theorem DR (T:Txt K mg) (hq:bd (CXe P w)) {f:Addr} {fd:FuncData} (D:Df K mg "_law_drawn" bp ["script","k"] f fd):FnOk P w K mg base (CXe P w) 1 f fd ["script","k"] (gG T):=by
 refine D.F.okC gQ (fun vs H Q E h=>?_) (fun cdv A outer s H vs Q E hr h=>?_)
 . obtain ⟨a,ns,i,rfl,_⟩:=h
   rfl
 . obtain ⟨a,ns,i,rfl,ha,i0,i1,k⟩:=h;refine ⟨_,(aj (az (i:=2) gQ.nd rfl (Or.inl eS.l) ap) (aj (bU (aR AJ (pvl 1 mm) (cJ eB dW.g T.len lD (ag (pvl 0 fH) ao) (hn:=dW.n) (hdb:=dW.d)) (aX _)) (au (az (i:=2) gQ.nd rfl (Or.inl eS.l) (aw aZ (bi bg (pvl 0 fH) (pvl 1 mm) (fun _ _=>rfl)) (aw nB ap ap)))) bj) (aj (bU (PW.pt (oY (aR zV (cJ eB dW.g T.len lD (ag (pvl 0 fH) ao) (hn:=dW.n) (hdb:=dW.d)) ap (aX _)) (oN (aR fL (aw aZ (bi bg (pvl 0 fH) ap (fun _ _=>rfl)) ap) ap (aX _))))) (aj (az (i:=3) gQ.nd rfl (Or.inl gr.l) (aw aZ (aw jq (aw cu (aw cu (aw aZ (pvl 2 eS) ap) (aw jq ap (pvl 1 mm))) ap) ap) ap)) (aj (az (i:=4) gQ.nd rfl (Or.inl kE.l) (aw aZ (aw jq (pvl 3 gr) (pvl 3 gr)) ap)) (au (az (i:=2) gQ.nd rfl (Or.inl eS.l) (aw cG (aw jq (aw jq (pvl 4 kE) (pvl 4 kE)) (aw cu (pvl 3 gr) ap)) ap))))) bj) (au (aU (pvl 2 eS)))))),?_⟩;rw [show L2.start ["script","k","cell","near","far"] [V.ref a,V.int i]=[some (V.ref a),some (V.int i),none,none,none] from rfl];walk_at "rd";refine ⟨_,.inl ha,?_⟩;rw [List.length_map];by_cases z:i<(ns.length:Int)
   . rw [if_pos z];refine ixS ha (atG i0 z) ⟨⟨by decide,by decide,by decide⟩,_,rfl,p60,?_⟩;have c0:=Int.emod_nonneg (ns.getD i.toNat 0) (Int.ne_of_gt p60);have c1:=Int.emod_lt_of_pos (ns.getD i.toNat 0) p60;generalize ns.getD i.toNat 0 % 10^Int.toNat 60=c at c0 c1 ⊢;obtain ⟨h1,h2,h3,h4,h5,h6,h7⟩:=FZ c i i0 i1;refine ⟨_,.inl ha,?_⟩;rw [List.length_map,if_pos (by omega)];refine ixS ha (atG (by decide) (by omega)) ⟨_,rfl,by decide,?_⟩;by_cases y:ns.getD (0:Int).toNat 0 % 2=1
     . rw [if_pos y];exact ⟨by decide,h1,h2,by decide,h3,by decide,h4,h5,h6,k _ ⟨h7,DY _ i⟩⟩
     . rw [if_neg y];exact k _ ⟨c0,c1⟩
   . rw [if_neg z];obtain ⟨h1,h2,h3,h4,h5,h6,h7⟩:=FZ 0 i i0 i1;refine ⟨_,.inl ha,?_⟩;rw [List.length_map];by_cases x:0<(ns.length:Int)
     . rw [if_pos x];refine ixS ha (atG (by decide) x) ⟨_,rfl,by decide,?_⟩;by_cases y:ns.getD (0:Int).toNat 0 % 2=1
       . rw [if_pos y];exact ⟨by decide,h1,h2,by decide,h3,by decide,h4,h5,h6,k _ ⟨h7,DY _ i⟩⟩
       . rw [if_neg y];exact k 0 (by decide)
     . rw [if_neg x];exact k 0 (by decide)
def vV (T:Txt K mg):Sp:=fun vs H Q _=>∃ (a:Addr) (ns:List Int),vs=[.ref a]/\SqL K H a (ns.map V.int)/\∀ b H',1<=b->b<=10^60->Same H H'->Q (.int b) H'
abbrev cV:Stmt:=top 51
theorem xN:FnScope ["script","head"] ["script"] (aa cV):=FnScope.of (by kernel_rfl)
theorem vH:NmL (aa cV) "script":=.of (by kernel_rfl)
theorem nZ:NmL (aa cV) "head":=.of (by kernel_rfl)
theorem jY:NmG (aa cV) "_law_drawn":=.of (by kernel_rfl)
theorem DS (T:Txt K mg) (hq:bd (CXe P w)) {f:Addr} {fd:FuncData} (D:Df K mg "_law_bound" cV ["script"] f fd) {bc:Addr} {bM:FuncData} (ay:Df K mg "_law_drawn" bp ["script","k"] bc bM) (G_law_drawn:FnOk P w K mg base (CXe P w) 1 bc bM ["script","k"] (gG T)):FnOk P w K mg base (CXe P w) 2 f fd ["script"] (vV T):=by
 refine D.F.okC xN (fun vs H Q E h=>?_) (fun cdv A outer s H vs Q E hr h=>?_)
 . obtain ⟨a,ns,rfl,_⟩:=h
   rfl
 . obtain ⟨a,ns,rfl,ha,k⟩:=h;refine ⟨_,(aj (az (i:=1) xN.nd rfl (Or.inl nZ.l) (aw cG (ax G_law_drawn (hr.mono (by decide)) jY.g ay.m ay.F.kp ay.b .nil (aN hq) (ag (pvl 0 vH) (ag ap ao)) (hdb:=jY.d)) ap)) (au (aU (bi bg (eE (ag ap (ag ap (ag ap (ag (aw nB ap ap) ao))))) (aw aZ (pvl 1 nZ) ap) (fun _ _=>rfl))))),?_⟩;rw [show L2.start ["script","head"] [V.ref a]=[some (V.ref a),none] from rfl];walk_at "rd";refine ⟨a,ns,0,rfl,ha,by decide,by decide,fun c c0=>⟨c,rfl,⟨by decide,by decide⟩,⟨by decide,by decide,by decide⟩,bE (by simp),fun q nq=>⟨by decide,?_⟩⟩⟩;have h1:=Int.emod_nonneg (c / 1200) (show (4:Int)≠0 by decide);have h2:=Int.emod_lt_of_pos (c / 1200) (show (0:Int)<4 by decide);generalize c / 1200 % 4=j at h1 h2 ⊢;rcases (show j=0\/j=1\/j=2\/j=3 by omega) with z|z|z|z
   . rw [z];exact ixL ah rfl (k _ _ (by decide) (by decide) (Same.new _ nq))
   . rw [z];exact ixL ah rfl (k _ _ (by decide) (by decide) (Same.new _ nq))
   . rw [z];exact ixL ah rfl (k _ _ (by decide) (by decide) (Same.new _ nq))
   . rw [z];exact ixL ah rfl (k _ _ p60 (by decide) (Same.new _ nq))
def unl:Key->Int
 | .inl i=>i
 | .inr _=>0
theorem Jk {H:Hp} {d:Addr} {m:Int} {rs:List Road} (g:Good m rs) (ta:TollsAt H d rs):∃ (kvs:List (List Key × V)) (kss:List (List Int)),H d=some (.dT kvs)/\kvs.map (·.1)=kss.map (·.map Sum.inl)/\kss.length<64/\∀ k∈kss,∃ a b,k=[a,b]/\b∈dQ m rs a:=by
 obtain ⟨kvs,h1,h2⟩:=ta.ex;obtain ⟨kws,h3,h4,h5⟩:=ta.ks;rw [h1] at h3;cases h3;have gl:=g.len;have m24:=g.m24;refine ⟨kvs,kvs.map fun p=>p.1.map unl,h1,?_,by rw [List.length_map];omega,fun k hk=>?_⟩
 . rw [List.map_map];refine List.map_congr_left fun p hp=>?_;obtain ⟨a,b,e⟩:=h5 p hp;show p.1=(p.1.map unl).map Sum.inl;rw [e]
   rfl
 . obtain ⟨p,hp,rfl⟩:=List.mem_map.mp hk;obtain ⟨a,b,e⟩:=h5 p hp;refine ⟨a,b,by rw [e];rfl,(gh g).mpr (uK.mp ?_)⟩;have:=FA hp;rw [e,h2] at this;cases z:aH rs a b with
   | none=>rw [z] at this;cases this
   | some k=>rfl
theorem R7 {K:PySem.W.Frag} {H:Hp} {l l':Addr} {qs:List Addr} {zss:List (List Int)} {Q:VK} (h1:H l=some (.lst (qs.map V.ref))) (tu:TupsAt H qs zss) (h2:H l'=some (.lst [])) (q:Q (.bl (decide (zss≠[]))) H):RR K (.ref l) (.ref l') H Q:=by
 refine ⟨.list (zss.map Bo),.list [],.lst (SqL.of h1) (CF tu),.lst (SqL.of h2) .nil,?_,?_⟩
 . have:=Am zss;simp only [PyData.depth];omega
 . cases zss with
   | nil=>simpa [PyData.eqv,PyData.eqvAll] using q
   | cons a b=>simpa [PyData.eqv,PyData.eqvAll] using q
def zP (T:Txt K mg):Sp:=fun vs H Q _=>∃ (dt:Addr) (rs:List Road) (m pb pt:Int),vs=[.ref dt,.int m,.int pb,.int pt]/\TollsAt H dt rs/\Good m rs/\0<=pb/\pb<=2^1400/\0<=pt/\pt<=10^61 /\
 ∀ l (zs:List Int) H',H l=none->Same H H'->H' l=some (.lst (zs.map V.int))->(zs.length:Int)=m->(∀ z∈zs,0<=z)->zs.sum=pb->Q (.ref l) H'
abbrev aY:Stmt:=top 54
theorem bZ:FnScope ["tolls","many","pebbles","part","laying","left","roads","free","k","place","some","toll_of"] ["tolls","many","pebbles","part"] (aa aY):=FnScope.of (by kernel_rfl)
theorem pU:NmL (aa aY) "tolls":=.of (by kernel_rfl)
theorem eG:NmL (aa aY) "many":=.of (by kernel_rfl)
theorem wX:NmL (aa aY) "pebbles":=.of (by kernel_rfl)
theorem aJ:NmL (aa aY) "part":=.of (by kernel_rfl)
theorem dz:NmL (aa aY) "laying":=.of (by kernel_rfl)
theorem dq:NmL (aa aY) "left":=.of (by kernel_rfl)
theorem hJ:NmL (aa aY) "roads":=.of (by kernel_rfl)
theorem lS:NmL (aa aY) "free":=.of (by kernel_rfl)
theorem ED:NmL (aa aY) "k":=.of (by kernel_rfl)
theorem kH:NmL (aa aY) "place":=.of (by kernel_rfl)
theorem jc:NmL (aa aY) "some":=.of (by kernel_rfl)
theorem m7:NmL (aa aY) "toll_of":=.of (by kernel_rfl)
theorem jU:NmG (aa aY) "sorted":=.of (by kernel_rfl)
theorem zn:NmG (aa aY) "range":=.of (by kernel_rfl)
theorem mI:NmG (aa aY) "len":=.of (by kernel_rfl)
theorem mU:NmG (aa aY) "min":=.of (by kernel_rfl)
theorem Jl (T:Txt K mg) (hq:bd (CXe P w)) {f:Addr} {fd:FuncData} (D:Df K mg "_law_put" aY ["tolls","many","pebbles","part"] f fd):FnOk P w K mg base (CXe P w) 1 f fd ["tolls","many","pebbles","part"] (zP T):=by
 refine D.F.okC bZ (fun vs H Q E h=>?_) (fun cdv A outer s H vs Q E hr h=>?_)
 . obtain ⟨dt,rs,m,pb,pt,rfl,_⟩:=h
   rfl
 . obtain ⟨dt,rs,m,pb,pt,rfl,ta,g,pb0,pb1,pt0,pt1,k⟩:=h;have hu:=Ai hr;have hv:=hr.units;have m1:=g.m1;have m24:=g.m24;have mp:0<m:=by omega
   refine ⟨_,(aj (az (i:=4) bZ.nd rfl (Or.inl dz.l) (aw vX (eE (ag ap ao)) (pvl 1 eG))) (aj (az (i:=5) bZ.nd rfl (Or.inl dq.l) (pvl 2 wX)) (aj (az (i:=6) bZ.nd rfl (Or.inl hJ.l) (cJ (DV rfl) jU.g T.sorted C1 (ag (pvl 0 pU) ao) (hn:=jU.n) (hdb:=jU.d))) (aj (az (i:=7) bZ.nd rfl (Or.inl lS.l) (aw aZ (pvl 3 aJ) ap)) (aj (az (i:=3) bZ.nd rfl (Or.inl aJ.l) (aw cG (pvl 3 aJ) ap)) (aj (dN PassesOwn.never rfl (m8 zn.g T.range (ag (pvl 1 eG) ao)) (aI (i:=8) bZ.nd rfl (Or.inl ED.l)) (aj (az (i:=9) bZ.nd rfl (Or.inl kH.l) (aw aZ (pvl 3 aJ) (pvl 1 eG))) (aj (az (i:=3) bZ.nd rfl (Or.inl aJ.l) (aw cG (pvl 3 aJ) (pvl 1 eG))) (aj (az (i:=10) bZ.nd rfl (Or.inl jc.l) (aw aZ (pvl 3 aJ) (aw cu (pvl 5 dq) ap))) (aj (bU (PW.pt (oY (aR fL (pvl 7 lS) ap (aX _)) (oY (aR fL (aw aZ (pvl 3 aJ) ap) ap (aX _)) (oN (aR (R6 hv) (pvl 6 hJ) (eE ao) (aX _)))))) (aj (az (i:=11) bZ.nd rfl (Or.inl m7.l) (BT hu (pvl 0 pU) (bi bg (pvl 6 hJ) (aw aZ (aw cG (pvl 3 aJ) ap) (cJ eB mI.g T.len lD (ag (pvl 6 hJ) ao) (hn:=mI.n) (hdb:=mI.d))) (fun _ _=>rfl)) (fun _ _=>rfl))) (au (az (i:=10) bZ.nd rfl (Or.inl jc.l) (cJ (C4 rfl) mU.g T.min LS (ag (pvl 5 dq) (ag (aw lJ (aw jq (pvl 11 m7) (aw cu (aw aZ (aw cG (pvl 3 aJ) ap) ap) ap)) ap) ao)) (hn:=mU.n) (hdb:=mU.d))))) bj) (aj (bU (aR fL (pvl 7 lS) ap (aX _)) (au (az (i:=3) bZ.nd rfl (Or.inl aJ.l) (aw cu (aw cG (pvl 3 aJ) ap) (aw aZ (aw QK (pvl 3 aJ) (pvl 3 aJ)) ap)))) (au (az (i:=3) bZ.nd rfl (Or.inl aJ.l) (aw MG (pvl 3 aJ) (aw cu (pvl 5 dq) ap))))) (aj (j7 (aw cu (bi bg (pvl 4 dz) (pvl 9 kH) (fun _ _=>rfl)) (pvl 10 jc)) (nh (pvl 4 dz) (pvl 9 kH) gd)) (au (az (i:=5) bZ.nd rfl (Or.inl dq.l) (aw lJ (pvl 5 dq) (pvl 10 jc))))))))))) (aj (j7 (aw cu (bi bg (pvl 4 dz) (aw aZ (pvl 3 aJ) (pvl 1 eG)) (fun _ _=>rfl)) (pvl 5 dq)) (nh (pvl 4 dz) (aw aZ (pvl 3 aJ) (pvl 1 eG)) gd)) (au (aU (pvl 4 dz)))))))))),?_⟩;rw [show L2.start ["tolls","many","pebbles","part","laying","left","roads","free","k","place","some","toll_of"] [V.ref dt,V.int m,V.int pb,V.int pt]=[some (V.ref dt),some (V.int m),some (V.int pb),some (V.int pt),none,none,none,none,none,none,none,none] from rfl];refine fN fun N1 h1=>?_;walk_at "rd";refine ⟨by decide,fun r1' nr1=>?_⟩;have u1:=Same.new (.lst [V.int 0]) nr1;refine ⟨r1',m,[V.int 0],rfl,rfl,ah,by omega,by omega,bE (by simp;omega),fun l nl=>h1 _ _ (fN fun N2 h2=>?_)⟩;rw [uA,<- Hj];have u2:=u1.trans (Same.new (.lst ((zrs m).map V.int)) nl);have f2:upd (upd H r1' (.lst [V.int 0])) l (.lst ((zrs m).map V.int)) l=some (.lst ((zrs m).map V.int)):=ah;have nl0:=u1.free nl;generalize upd (upd H r1' (.lst [V.int 0])) l (.lst ((zrs m).map V.int))=H1 at u2 f2 ⊢;walk_at "rd";refine h2 _ _ (fN fun N3 h3=>?_);obtain ⟨kvs,kss,hd,hks,hk64,hkk⟩:=Jk g (ta.same u2);walk_at "rd";refine ⟨kvs,hd,kss,hks,hk64,fun k hk=>(by obtain ⟨a',b',e,_⟩:=hkk k hk;rw [e];intro z;cases z),fun lw qs zss nw tu pz=>h3 _ _ (fN fun N4 h4=>?_)⟩;have zk:∀ k∈zss,∃ a b,k=[a,b]/\b∈dQ m rs a:=fun k hk=>hkk k (pz.mem_iff.mp hk);have ql:qs.length=zss.length:=Paired.length tu;have zl:zss.length<64:=by rw [pz.length_eq];exact hk64
   have u3:=Same.new (.lst (qs.map V.ref)) nw;have ew:upd H1 lw (.lst (qs.map V.ref)) lw=some (.lst (qs.map V.ref)):=ah;have tu3:=TupsAt.same u3 tu;have f3:=u3 _ _ f2;have u03:=u2.trans u3;have nlw:lw≠l:=fun z=>by rw [z,f2] at nw;cases nw
   generalize upd H1 lw (.lst (qs.map V.ref))=H2 at u3 ew tu3 f3 u03 ⊢;clear hks hk64 hkk pz tu hd kvs kss;walk_at "rd";refine ⟨by decide,h4 _ _ (fN fun N5 h5=>?_)⟩;walk_at "rd";refine ⟨⟨by decide,by decide⟩,h5 _ _ (fN fun N6 h6=>?_)⟩;generalize pt % 2=fr;have q0:0<=pt / 2/\pt / 2<=10^61:=by omega
   generalize pt / 2=pa at q0 ⊢;walk_at "rd";refine ⟨by omega,by omega,?_⟩;refine Ap (fun i σ H3=>Same H H3/\H3 lw=some (.lst (qs.map V.ref))/\TupsAt H3 qs zss/\∃ (p lf:Int) (cs:List Int) (v8 v9 v10 v11:Option V),(0<=p/\p<=10^61)/\0<=lf/\H3 l=some (.lst (cs.map V.int))/\(cs.length:Int)=m/\(∀ c∈cs,0<=c)/\cs.sum+lf=pb/\σ=[some (V.ref dt),some (V.int m),some (V.int pb),some (V.int p),some (V.ref l),some (V.int lf),some (V.ref lw),some (V.int fr),v8,v9,v10,v11]) ⟨u03,ew,tu3,pa,pb,zrs m,_,_,_,_,q0,pb0,f3,by rw [rY];omega,(fun c hc=>by rw [(List.mem_replicate.mp hc).2];decide),by rw [HJ];omega,rfl⟩ ?_ ?_
   . rintro i σ H3 N BB hBB hN hi ⟨s3,ew3,tu3,p,lf,cs,v8,v9,v10,v11,pr,lf0,ec,cl,c0,cs0,rfl⟩;refine hBB _ _ (fN fun M1 k1=>?_);walk_at "rd";refine ⟨mp,k1 _ _ (fN fun M2 k2=>?_)⟩;have a0:=Int.emod_nonneg p (Int.ne_of_gt mp);have a1:=Int.emod_lt_of_pos p mp;generalize p % m=pl at a0 a1 ⊢;walk_at "rd";refine ⟨⟨by omega,by omega⟩,k2 _ _ (fN fun M3 k3=>?_)⟩;have p1:0<=p / m/\p / m<=10^61:=⟨Int.ediv_nonneg pr.1 (by omega),Int.le_trans (Int.ediv_le_self _ pr.1) pr.2⟩;generalize p / m=p' at p1 ⊢;have lp:0<lf+1:=(by omega);walk_at "rd";refine ⟨lp,k3 _ _ ?_⟩;have b0:=Int.emod_nonneg p' (Int.ne_of_gt lp);have b1:=Int.emod_lt_of_pos p' lp;generalize p' % (lf+1)=so at b0 b1 ⊢;refine fN fun M4 k4=>?_;have nxt:∀ (so:Int) (v11:Option V) (H4:Hp),0<=so->so<=lf->Same H3 H4->M4 [some (V.ref dt),some (V.int m),some (V.int pb),some (V.int p'),some (V.ref l),some (V.int lf),some (V.ref lw),some (V.int fr),some (V.int (0+(i:Int))),some (V.int pl),some (V.int so),v11] H4:=fun so v11 H4 o0 o1 s4=>by
       refine k4 _ _ (fN fun M5 k5=>?_);have nx2:∀ q:Int,0<=q->q<=10^61->M5 [some (V.ref dt),some (V.int m),some (V.int pb),some (V.int q),some (V.ref l),some (V.int lf),some (V.ref lw),some (V.int fr),some (V.int (0+(i:Int))),some (V.int pl),some (V.int so),v11] H4:=fun q q0 q1=>by
         refine k5 _ _ ?_;walk_at "rd";refine ixL (s4 _ _ ec) (atG a0 (by omega)) ⟨_,rfl,xP (s4 _ _ ec) a0 (by rw [List.length_map];omega) (hN _ _ ⟨(s3.trans s4).put nl0 _,?_,?_,q,lf - so,cs.set pl.toNat (cs.getD pl.toNat 0+so),_,_,_,_,⟨q0,q1⟩,by omega,?_,?_,?_,?_,rfl⟩)⟩
         . rw [aq nlw];exact s4 _ _ ew3
         . exact Paired.imp' (fun a b h=>by rw [aq (fM (s4 _ _ h) (s4 _ _ ec) (by intro z;cases z))];exact s4 _ _ h) tu3
         . rw [ah,<- List.map_set]
         . rw [List.length_set];exact cl
         . intro c hc;rcases List.mem_or_eq_of_mem_set hc with z|z
           . exact c0 c z
           . have:=jg c0 pl.toNat;omega
         . rw [mG _ _ _ (by omega)];omega
       walk_at "rd";by_cases z:fr=0
       . rw [if_pos z];have pb61:p'.natAbs<2^4000:=by
           have h1:p'.natAbs<=10^61:=by
             have:(10:Int)^61=((10^61:Nat):Int):=(by decide);omega
           exact Nat.lt_of_le_of_lt h1 (by decide +kernel)
         refine ⟨⟨by decide,by decide⟩,Sc pb61 pb61,by decide,nx2 _ ?_ ?_⟩
         . have:=Int.emod_nonneg (p'*p') (show (1000000007:Int)≠0 by decide);omega
         . have:=Int.emod_lt_of_pos (p'*p') (show (0:Int)<1000000007 by decide);omega
       . rw [if_neg z];have l14:(lf+1).natAbs<2^1401:=by
           have h0:=wg c0;have h1:lf<=2^1400:=(by omega);have h2:(2:Int)^1400=((2^1400:Nat):Int):=(by decide +kernel);have h3:(lf+1).natAbs<=2^1400+1:=(by omega);exact Nat.lt_of_le_of_lt h3 (by decide +kernel)
         have l15:(lf+1).natAbs.log2<1401:=(Nat.log2_lt (by omega)).mpr l14;exact ⟨⟨lp,by omega⟩,nx2 _ (Int.ediv_nonneg p1.1 (by omega)) (Int.le_trans (Int.ediv_le_self _ p1.1) p1.2)⟩
     walk_at "rd";have skip:=nxt so v11 H3 b0 (by omega) (Same.refl _);by_cases z:fr=0
     . rw [if_pos z];refine ⟨by decide,?_⟩;by_cases z3:p' % 3=0
       . rw [if_pos z3];refine ⟨bE (by simp),fun l0 n0=>?_⟩;have v0:=Same.new (.lst []) n0;refine R7 (v0 _ _ ew3) (TupsAt.same v0 tu3) ah ⟨_,rfl,?_⟩;by_cases zz:zss=[]
         . rw [decide_eq_false (fun q=>q zz),if_neg (by decide)];exact nxt so v11 _ b0 (by omega) v0
         . rw [decide_eq_true zz,if_pos rfl];have z0:0<zss.length:=List.length_pos_iff.mpr zz;refine ⟨⟨by decide,by decide⟩,_,.inl (SqL.of (v0 _ _ ew3)),?_⟩;rw [List.length_map,ql];have zp:(0:Int)<zss.length:=(by omega);have j0:=Int.emod_nonneg (p' / 3) (Int.ne_of_gt zp);have j1:=Int.emod_lt_of_pos (p' / 3) zp;refine ⟨zp,?_⟩;generalize p' / 3 % (zss.length:Int)=j at j0 j1 ⊢;obtain ⟨zs,hzs⟩:∃ zs,zss[j.toNat]?=some zs:=⟨_,List.getElem?_eq_getElem (by omega)⟩;obtain ⟨q,hq',tq⟩:=EO (TupsAt.same v0 tu3) hzs;obtain ⟨a',b',rfl,nb⟩:=zk zs (List.mem_of_getElem? hzs);obtain ⟨kk,ek,kr⟩:=ko g ((gh g).mp nb);refine ixL (v:=V.ref q) (v0 _ _ ew3) (gD j0 (by rw [List.getElem?_map,hq'];rfl)) ?_;have get:DGet (upd H3 l0 (.lst [])) dt (V.ref q) (some (V.int kk)):=by
             obtain ⟨kvs,hkv,hv2⟩:=(ta.same (s3.trans v0)).ex;have hg:=DGet.t (k:=[.inl a',.inl b']) hkv tq;rw [hv2,ek] at hg;exact hg
           have y0:=Int.emod_nonneg (p' / 30) (show (5:Int)≠0 by decide);refine ⟨_,get,⟨by decide,by decide⟩,by decide,_,rfl,.inl ⟨by omega,by omega⟩,_,_,⟨rfl,rfl⟩,nxt _ _ _ ?_ ?_ v0⟩
           . have:0<=(kk - 1)*(p' / 30 % 5):=Int.mul_nonneg (by omega) y0;have e:kk*(p' / 30 % 5+1)=(kk - 1)*(p' / 30 % 5)+p' / 30 % 5+kk:=(by rw [Int.mul_add,Int.sub_mul,Int.mul_one,Int.one_mul];omega);split <;> omega
           . split <;> omega
       . rw [if_neg z3];exact skip
     . rw [if_neg z];exact skip
   . rintro BB σ H3 hBB ⟨s3,ew3,tu3,p,lf,cs,v8,v9,v10,v11,pr,lf0,ec,cl,c0,cs0,rfl⟩;refine hBB _ _ (h6 _ _ (fN fun M1 k1=>?_));walk_at "rd";have r0:=Int.emod_nonneg p (Int.ne_of_gt mp);have r1:=Int.emod_lt_of_pos p mp;refine ⟨mp,?_⟩;generalize p % m=pl at r0 r1 ⊢;refine ixL ec (atG r0 (by omega)) ⟨_,rfl,mp,xP ec r0 (by rw [List.length_map];omega) (k1 _ _ ?_)⟩;rw [<- List.map_set];have s4:=s3.put nl0 (.lst ((cs.set pl.toNat (cs.getD pl.toNat 0+lf)).map V.int));walk_at "rd";refine k l _ _ nl0 s4 ah (by rw [List.length_set];exact cl) (fun c hc=>?_) (by rw [mG _ _ _ (by omega)];omega);rcases List.mem_or_eq_of_mem_set hc with z|z
     . exact c0 c z
     . have:=jg c0 pl.toNat;omega
def yH (T:Txt K mg):Sp:=fun vs H Q _=>∃ (d:Addr) (rs:List Road) (m r:Int),vs=[.ref d,.int m,.int r]/\TollsAt H d rs/\Good m rs/\(0<=r/\r<m) /\
 ∃ par dep,Rooted m rs r par dep/\∀ lo qs t H',H lo=none->Same H H'->H' lo=some (.lst (qs.map V.ref))->PrsAt H' r par qs (r::t)->Order m r par t->Q (.ref lo) H'
abbrev bB:Stmt:=top 49
theorem gm:FnScope ["tolls","many","r","order","at","place","above","kid"] ["tolls","many","r"] (aa bB):=FnScope.of (by kernel_rfl)
theorem yh:NmL (aa bB) "tolls":=.of (by kernel_rfl)
theorem zm:NmL (aa bB) "many":=.of (by kernel_rfl)
theorem Dk:NmL (aa bB) "r":=.of (by kernel_rfl)
theorem eR:NmL (aa bB) "order":=.of (by kernel_rfl)
theorem gL:NmL (aa bB) "at":=.of (by kernel_rfl)
theorem jV:NmL (aa bB) "place":=.of (by kernel_rfl)
theorem n5:NmL (aa bB) "above":=.of (by kernel_rfl)
theorem iY:NmL (aa bB) "kid":=.of (by kernel_rfl)
theorem lM:NmG (aa bB) "len":=.of (by kernel_rfl)
theorem yj:NmG (aa bB) "range":=.of (by kernel_rfl)
theorem GK (T:Txt K mg) (hq:bd (CXe P w)) {f:Addr} {fd:FuncData} (D:Df K mg "_law_down" bB ["tolls","many","r"] f fd):FnOk P w K mg base (CXe P w) 1 f fd ["tolls","many","r"] (yH T):=by
 refine D.F.okC gm (fun vs H Q E h=>?_) (fun cdv A outer s H vs Q E hr h=>?_)
 . obtain ⟨d,rs,m,r,rfl,_⟩:=h
   rfl
 . obtain ⟨d,rs,m,r,rfl,ta,g,rr,par,dep,R,k⟩:=h;have hu:=Ai hr;have m24:=g.m24;refine ⟨_,(aj (az (i:=3) gm.nd rfl (Or.inl eR.l) (eE (ag (iz (ag (pvl 2 Dk) (ag vT ao))) ao))) (aj (az (i:=4) gm.nd rfl (Or.inl gL.l) ap) (aj (tM PassesOwn.never (aR AJ (pvl 4 gL) (cJ eB lM.g T.len lD (ag (pvl 3 eR) ao) (hn:=lM.n) (hdb:=lM.d)) (aX _)) (aj (j7 (bi bg (pvl 3 eR) (pvl 4 gL) (fun _ _=>rfl)) (nu (n:=2) rfl (bF (aI (i:=5) gm.nd rfl (Or.inl jV.l)) (bF (aI (i:=6) gm.nd rfl (Or.inl n5.l)) jR)))) (aj (dN PassesOwn.never rfl (m8 yj.g T.range (ag (pvl 1 zm) ao)) (aI (i:=7) gm.nd rfl (Or.inl iY.l)) (au (bU (PW.pt (oY (aR sV (pvl 7 iY) (pvl 6 n5) (aX _)) (oN (AW (RE hu (iz (ag (pvl 5 jV) (ag (pvl 7 iY) ao))) (pvl 0 yh)))))) (au (c8 (oF PySem.F.plainAttrs_list PySem.F.slot_list_append PySem.F.type_list_append ff (pvl 3 eR) (ag (iz (ag (pvl 7 iY) (ag (pvl 5 jV) ao))) ao)))) bj))) (au (az (i:=4) gm.nd rfl (Or.inl gL.l) (aw cu (pvl 4 gL) ap)))))) (au (aU (pvl 3 eR)))))),?_⟩;rw [show L2.start ["tolls","many","r","order","at","place","above","kid"] [V.ref d,V.int m,V.int r]=[some (V.ref d),some (V.int m),some (V.int r),none,none,none,none,none] from rfl];walk_at "rd";refine ⟨bE (by simp),fun q0 n0=>⟨bE (by simp),fun lo nlo=>?_⟩⟩;have s1:=Same.new (.tup [V.int r,V.non]) n0;have nl0:=s1.free nlo;have s2:=s1.trans (Same.new (.lst [V.ref q0]) nlo);have nql:q0≠lo:=fun z=>by rw [<- z,ah] at nlo;cases nlo
   have e2:upd (upd H q0 (.tup [V.int r,V.non])) lo (.lst [V.ref q0]) lo=some (.lst [V.ref q0]):=ah;have f2:upd (upd H q0 (.tup [V.int r,V.non])) lo (.lst [V.ref q0]) q0=some (.tup (vPr r par r)):=by
     rw [aq nql,ah];unfold vPr Pb.front;rw [if_pos rfl]
   generalize upd (upd H q0 (.tup [V.int r,V.non])) lo (.lst [V.ref q0])=H2 at s2 e2 f2 ⊢;have lim:∀ {t:List Int} {ws:List Int},AInv m rs r par t ws->(r::t).length<=m.toNat:=fun {t ws} J=>by
     have:=cM (m:=m) (by omega) (List.nodup_cons.mpr ⟨J.nr,J.nd⟩) fun v hv=>by
       rcases List.mem_cons.mp hv with e|e
       . rw [e];exact rr
       . exact J.rng v e
     omega
   refine Cn (fun n σ H4=>∃ (t:List Int) (qs:List Addr) (k:Nat) (v5 v6 v7:Option V),n=m.toNat - k/\k<=(r::t).length/\σ=[some (.ref d),some (.int m),some (.int r),some (.ref lo),some (.int (k:Nat)),v5,v6,v7]/\Same H H4/\H4 lo=some (.lst (qs.map V.ref))/\PrsAt H4 r par qs (r::t)/\Bfs m rs r par t k) m.toNat ⟨[],[q0],0,_,_,_,rfl,Nat.zero_le _,rfl,s2,e2,.cons f2 .nil,Bfs.start⟩ ?_;rintro n σ H4 NW hN hN2 ⟨t,qs,kk,v5,v6,v7,rfl,kle,rfl,s4,ho,pa,S⟩;have tl:=lim S.J;have ql:qs.length=(r::t).length:=Paired.length pa;walk_at "rd";refine ⟨_,.inl (SqL.of ho),?_⟩;rw [List.length_map,ql];by_cases c:kk=(r::t).length
   . rw [if_neg (by omega)];exact k lo qs t H4 nl0 s4 ho pa (S.done R (by omega))
   . rw [if_pos (by omega)];have klt:kk<(r::t).length:=(by omega);obtain ⟨p,hp⟩:∃ p,(r::t)[kk]?=some p:=⟨_,List.getElem?_eq_getElem klt⟩;have S':=S.step g R rr.1 rr.2 hp;have tl':=lim S'.J;have pr:0<=p/\p<m:=by
       rcases List.mem_cons.mp (List.mem_of_getElem? hp) with e|e
       . rw [e];exact rr
       . exact S.J.rng p e
     refine ⟨NW,fun σ' H' z=>?_,?_⟩
     . obtain ⟨m',lt,t',qs',k',a5,a6,a7,e1,e2,e3⟩:=hN2 _ _ z;exact ⟨m',lt,t',qs',k',e1,e2,a5,a6,a7,e3⟩
     obtain ⟨qx,hqx⟩:∃ qx,qs[kk]?=some qx:=⟨_,List.getElem?_eq_getElem (by omega)⟩;obtain ⟨qp,pv,e1,e2,e3,e4⟩:=pa.get (i:=kk) (x:=.ref qx) (by rw [List.getElem?_map,hqx];rfl);injection e1 with e1
     subst e1;rw [hp] at e3;cases e3;refine ixL ho (HA (by rw [List.getElem?_map,hqx];rfl)) ⟨qx,rfl,_,SqT.of e4,rfl,_,_,rfl,_,_,rfl,rfl,by omega,by omega,?_⟩;have mk:∀ v,v∈aG m rs (Pb.front r par p) p->(0<=v/\v<m)/\v≠r/\par v=p:=fun v=>(aO g R pr.1 pr.2).mp;have inK:∀ i:Nat,i<m.toNat->(aH rs p (i:Int)).isSome=true->V.int (i:Int)≠Pb.front r par p->(i:Int)∈aG m rs (Pb.front r par p) p:=fun i hi h1 h2=>by
       rw [<- Bj];unfold fX;exact List.mem_filter.mpr ⟨List.mem_filter.mpr ⟨c9.mpr ⟨by omega,by omega⟩,h1⟩,decide_eq_true h2⟩
     have ktl:∀ i:Nat,i<=m.toNat->(fX rs (Pb.front r par p) p i).length<=24:=fun i hi=>by
       unfold fX;refine Nat.le_trans (List.length_filter_le _ _) (Nat.le_trans (List.length_filter_le _ _) ?_);rw [bh];omega
     have fvs:∀ i:Int,qc (.int i) (Pb.front r par p)=true:=fun i=>by
       unfold Pb.front;by_cases z:p=r
       . rw [if_pos z];rfl
       . rw [if_neg z];rfl
     rw [<- Bj] at S' tl';refine oG (fun i σ H5=>Same H H5/\∃ (qs:List Addr) (v7:Option V),H5 lo=some (.lst (qs.map V.ref))/\PrsAt H5 r par qs (r::(t++fX rs (Pb.front r par p) p i))/\σ=[some (.ref d),some (.int m),some (.int r),some (.ref lo),some (.int (kk:Nat)),some (.int p),some (Pb.front r par p),v7]) ⟨s4,qs,_,ho,by rw [show fX rs (Pb.front r par p) p 0=[] from rfl,List.append_nil];exact pa,rfl⟩ ?_ ?_
     . rintro i σ H5 N hN hi ⟨s5,qs,v7,ho,pa,rfl⟩;rw [Int.zero_add];have kl:=ktl i (by omega);have ql:qs.length=(r::(t++fX rs (Pb.front r par p) p i)).length:=Paired.length pa;rw [List.length_cons,List.length_append] at ql;rw [List.length_cons] at tl;walk_at "rd";refine ⟨fvs _,?_⟩;by_cases c1:V.int (i:Int)=Pb.front r par p
       . rw [if_neg (fun z=>z c1)];exact hN _ _ ⟨s5,qs,_,ho,by rw [Ba (fun _ z=>z c1)];exact pa,rfl⟩
       . rw [if_pos c1];refine ⟨bE (by simp),fun q nq=>?_⟩;have s6:=Same.new (.tup [V.int p,V.int (i:Int)]) nq;obtain ⟨kvs,hkv,hv⟩:=(ta.same s5).ex;have hg:=DGet.t (k:=[.inl p,.inl (i:Int)]) (s6 _ _ hkv) ah;rw [hv] at hg;refine ⟨_,hg,?_⟩;by_cases c2:(aH rs p (i:Int)).isSome=true
         . rw [if_pos (by rw [Option.isSome_map];exact c2)];obtain ⟨_,kr,kp⟩:=mk _ (inK i hi c2 c1);refine ⟨tyL (s6 _ _ ho),bE (by simp),fun q' nq'=>?_⟩;have s7:=s6.trans (Same.new (.tup [V.int (i:Int),V.int p]) nq');have ho7:=s7 _ _ ho;have nqo:q'≠lo:=fun z=>by rw [z,s6 _ _ ho] at nq';cases nq'
           refine sW ho7 (dH (by rw [List.length_map];omega)) (hN _ _ ⟨(s5.trans s7).put nl0 _,qs++[q'],_,by rw [ah,List.map_append];rfl,?_,rfl⟩);rw [JT c2 c1,<- List.append_assoc,<- List.cons_append];refine PrsAt.snoc ?_ (Paired.imp' (fun a b h=>by rw [aq (fM (s7 _ _ h) ho7 (by intro z;cases z))];exact s7 _ _ h) pa);rw [aq nqo,ah];unfold vPr Pb.front;rw [if_neg kr,kp]
         . rw [if_neg (by rw [Option.isSome_map];exact c2)];exact hN _ _ ⟨s5.trans s6,qs,_,s6 _ _ ho,by rw [Ba (fun z=>absurd z c2)];exact PrsAt.same s6 pa,rfl⟩
     . rintro σ H5 ⟨s5,qs,v7,ho,pa,rfl⟩;walk_at "rd";exact hN (m.toNat - (kk+1)) _ _ (by omega) ⟨_,qs,kk+1,_,_,_,rfl,by rw [List.length_cons,List.length_append];rw [List.length_cons] at klt;omega,rfl,s5,ho,pa,S'⟩
def qj (T:Txt K mg):Sp:=fun vs H Q _=>∃ (dt a b:Addr) (c d:Bool) (rs:List Road) (xs ys:List Int) (m r:Int),vs=[.ref dt,.int m,.ref a,.ref b,.int r]/\TollsAt H dt rs/\Good m rs/\SqX K c H a (xs.map V.int)/\(xs.length:Int)=m/\SqX K d H b (ys.map V.int)/\(ys.length:Int)=m/\(0<=r/\r<m) /\
 ∃ par dep,Rooted m rs r par dep/\∀ l H',H l=none->Same H H'->H' l=some (.lst ((ug m rs r par dep (fun v=>(bA m xs ys).getD v.toNat 0) (hnd rs par)).map V.int))->Q (.ref l) H'
abbrev aE:Stmt:=top 50
theorem ic:FnScope ["tolls","many","laying","wish","r","found","place","above"] ["tolls","many","laying","wish","r"] (aa aE):=FnScope.of (by kernel_rfl)
theorem gf:NmL (aa aE) "tolls":=.of (by kernel_rfl)
theorem kR:NmL (aa aE) "many":=.of (by kernel_rfl)
theorem Gk:NmC (aa aE) "laying":=.of (by kernel_rfl)
theorem Hq:NmC (aa aE) "wish":=.of (by kernel_rfl)
theorem wj:NmL (aa aE) "r":=.of (by kernel_rfl)
theorem ba:NmL (aa aE) "found":=.of (by kernel_rfl)
theorem b7:NmL (aa aE) "place":=.of (by kernel_rfl)
theorem be:NmL (aa aE) "above":=.of (by kernel_rfl)
theorem rd:NmG (aa aE) "range":=.of (by kernel_rfl)
theorem oH:NmG (aa aE) "reversed":=.of (by kernel_rfl)
theorem iW:NmG (aa aE) "_law_down":=.of (by kernel_rfl)
theorem yW (T:Txt K mg) (hq:bd (CXe P w)) {f:Addr} {fd:FuncData} (D:Df K mg "_law_standings" aE ["tolls","many","laying","wish","r"] f fd) {g9:Addr} {yL:FuncData} (jJ:Df K mg "_law_down" bB ["tolls","many","r"] g9 yL) (G_law_down:FnOk P w K mg base (CXe P w) 1 g9 yL ["tolls","many","r"] (yH T)):FnOk P w K mg base (CXe P w) 2 f fd ["tolls","many","laying","wish","r"] (qj T):=by
 refine D.F.okC ic (fun vs H Q E h=>?_) (fun cdv A outer s H vs Q E hr h=>?_)
 . obtain ⟨dt,a,b,c,d,rs,xs,ys,m,r,rfl,_⟩:=h
   rfl
 . obtain ⟨dt,a,b,c,d,rs,xs,ys,m,r,rfl,ta,g,ha,xl,hb,yl,rr,par,dep,R,k⟩:=h;have hu:=Ai hr;have m1:=g.m1;have m24:=g.m24;refine ⟨_,(aj (Bi (i:=5) ic.nd rfl ba.l rfl (sq (Nc:=["place","laying","wish"]) 1 [2,3] (by decide +kernel) rfl (by decide +kernel) rfl (by show ∀ (y:Str × NameKind),y∈_->y.2=NameKind.free->(aa aE).names.lookup y.1=some NameKind.cell;decide +kernel) rfl (fun _ h=>kf h) (fun i hi=>match i,hi with|0,_=>⟨"laying",2,rfl,rfl,rfl,by decide +kernel⟩|1,_=>⟨"wish",3,rfl,rfl,rfl,by decide +kernel⟩|i+2,hi=>absurd hi (by show ¬ i+2<2;omega))) (m8 rd.g T.range (ag (pvl 1 kR) ao)) (fun _ _ _ _=>(aI (i:=0) (show (["place","laying","wish"]:List Str).Nodup from by decide +kernel) rfl (Or.inl rfl))) (fun _ _ _ _=>sD) (fun _ _ _ _=>(aw lJ (bi (Ci c K rfl) (pv 1) (pv 0) (fun _ _=>rfl)) (bi (Ci d K rfl) (pv 2) (pv 0) (fun _ _=>rfl))))) (aj (dN PassesOwn.never rfl (Fh oH.g T.reversed (ax G_law_down (hr.mono (by decide)) iW.g jJ.m jJ.F.kp jJ.b .nil (aN hq) (ag (pvl 0 gf) (ag (pvl 1 kR) (ag (pvl 4 wj) ao))) (hdb:=iW.d))) (nu (n:=2) rfl (bF (aI (i:=6) ic.nd rfl (Or.inl b7.l)) (bF (aI (i:=7) ic.nd rfl (Or.inl be.l)) jR))) (au (bU (PW.pt (oY (AW (HS (pvl 7 be))) (oN (aR Pz (bi bg (pvl 5 ba) (pvl 6 b7) (fun _ _=>rfl)) ap (aX _))))) (au (j7 (aw cu (bi bg (pvl 5 ba) (pvl 7 be) (fun _ _=>rfl)) (aw cG (bi bg (pvl 5 ba) (pvl 6 b7) (fun _ _=>rfl)) (BT hu (pvl 0 gf) (iz (ag (pvl 6 b7) (ag (pvl 7 be) ao))) (fun _ _=>rfl)))) (nh (pvl 5 ba) (pvl 7 be) gd))) (au (bU (AW (HS (pvl 7 be))) (au (j7 (aw cu (bi bg (pvl 5 ba) (pvl 7 be) (fun _ _=>rfl)) (aw jq (bi bg (pvl 5 ba) (pvl 6 b7) (fun _ _=>rfl)) (BT hu (pvl 0 gf) (iz (ag (pvl 7 be) (ag (pvl 6 b7) ao))) (fun _ _=>rfl)))) (nh (pvl 5 ba) (pvl 7 be) gd))) bj))))) (au (aU (pvl 5 ba))))),?_⟩;rw [show L2.start ["tolls","many","laying","wish","r","found","place","above"] [V.ref dt,V.int m,V.ref a,V.ref b,V.int r]=[some (V.ref dt),some (V.int m),some (V.ref a),some (V.ref b),some (V.int r),none,none,none] from rfl];walk_at "rd";refine ⟨by omega,by omega,fun lo no=>?_⟩;refine zX (fun i zs σ H3=>Same H H3/\H3 lo=some (.lst zs)/\zs=((List.range i).map fun i=>xs.getD i 0 - ys.getD i 0).map V.int/\∃ v,σ=[v,some (V.ref a),some (V.ref b)]) ⟨Same.new _ no,ah,rfl,_,rfl⟩ ?_ ?_
   . rintro i zs σ H3 N hN hi ⟨s3,e3',rfl,v,rfl⟩;rw [Int.zero_add];have i0:(0:Int)<=(i:Int):=(by omega);have ga:=atG (xs:=xs) i0 (by omega);have gb:=atG (xs:=ys) i0 (by omega);rw [Int.toNat_natCast] at ga gb;walk_at "rd";refine ixX (Same.sqX s3 ha) ga (ixX (Same.sqX s3 hb) gb ⟨_,rfl,_,rfl,e3',dH (by simp;omega),hN _ _ _ ⟨s3.put no _,ah,?_,_,rfl⟩⟩);rw [List.range_succ,List.map_append,List.map_append]
     rfl
   . rintro zs σ H3 ⟨s3,e3',rfl,v,rfl⟩;have ol:=Kt (m:=m) (by omega) xs ys;change H3 lo=some (.lst ((bA m xs ys).map V.int)) at e3';refine ⟨dt,rs,m,r,rfl,ta.same s3,g,rr,par,dep,R,fun lq qs t H4 nq s4 eq pa O=>?_⟩;have nqo:lq≠lo:=fun z=>by rw [z,e3'] at nq;cases nq
     have s34:=s3.trans s4;have ql:qs.length=(r::t).length:=Paired.length pa;refine ⟨lq,rfl,_,SqL.of eq,?_⟩;refine Ev (K:=K) (xs:=qs.map V.ref) (fun i σ H5=>Same H H5/\H5 lq=some (.lst (qs.map V.ref))/\PrsAt H5 r par qs (r::t)/\∃ (cs:List Int) (v6 v7:Option V),H5 lo=some (.lst (cs.map V.int))/\Sofar m rs r par dep (fun v=>(bA m xs ys).getD v.toNat 0) (hnd rs par) (t.drop (t.length - i)) cs/\σ=[some (V.ref dt),some (V.int m),some (V.ref a),some (V.ref b),some (V.int r),some (V.ref lo),v6,v7]) ⟨s34,eq,pa,bA m xs ys,_,_,s4 _ _ e3',by rw [Nat.sub_zero,List.drop_length];exact Sofar.nil ol,rfl⟩ (fun i σ H5 _ z=>SqL.of z.2.1) ?_ ?_
     . rintro i x σ H5 N hN hx ⟨s5,q5,pa5,cs,v6,v7,c5,so,rfl⟩;have il:=(List.getElem?_eq_some_iff.mp hx).1;rw [List.length_reverse,List.length_map,ql,List.length_cons] at il;rw [List.getElem?_reverse (by rw [List.length_map,ql,List.length_cons];omega),List.length_map,ql] at hx;obtain ⟨q,v,rfl,hq,hv,e5⟩:=pa5.get hx;have hv':(r::t).reverse[i]?=some v:=(by rw [List.getElem?_reverse (by rw [List.length_cons];omega)];exact hv);rw [List.reverse_cons] at hv';have cl:=so.len;walk_at "rd";refine ⟨_,SqT.of e5,rfl,_,_,rfl,_,_,rfl,rfl,?_⟩;walk_at "rd";by_cases ci:i<t.length
       . rw [List.getElem?_append_left (by rw [List.length_reverse];exact ci)] at hv';obtain ⟨⟨vr,vn⟩,ev,so'⟩:=O.turn g R so hv';have u:=R.up v vr.1 vr.2 vn;obtain ⟨kk,hk,k0,k1⟩:=sG g R vr.1 vr.2 vn;obtain ⟨kd,hd,d0,d1⟩:=r6 g R vr.1 vr.2 vn;have fv:Pb.front r par v=V.int (par v):=(by unfold Pb.front;rw [if_neg vn]);rw [fv];have nn:¬ V.int (par v)=V.non:=(by intro z;cases z);have gv:=atG (xs:=cs) vr.1 (by omega);have gu:=atG (xs:=cs) u.1.1 (by omega);have get:∀ (x y kx:Int) (q':Addr),aH rs x y=some kx->H5 q'=none->DGet (upd H5 q' (.tup [V.int x,V.int y])) dt (V.ref q') (some (V.int kx)):=fun x y kx q' hx nq'=>by
           obtain ⟨kvs,hkv,hv2⟩:=(ta.same s5).ex;have hg:=DGet.t (k:=[.inl x,.inl y]) (Same.new (.tup [V.int x,V.int y]) nq' _ _ hkv) ah;rw [hv2,hx] at hg;exact hg
         have fin:∀ (w:Int) (q':Addr) (o:List V),H5 q'=none->w=cs.getD (par v).toNat 0+hnd rs par v (cs.getD v.toNat 0)->rSetL (V.ref lo) (V.int (par v)) (V.int w) (upd H5 q' (.tup o)) fun H3=>N [some (V.ref dt),some (V.int m),some (V.ref a),some (V.ref b),some (V.int r),some (V.ref lo),some (V.int v),some (V.int (par v))] H3:=fun w q' o nq' hw=>by
           have s6:=Same.new (.tup o) nq';refine xP (s6 _ _ c5) u.1.1 (by rw [List.length_map];omega) (hN _ _ ⟨(s5.trans s6).put no _,?_,?_,uB par (hnd rs par) cs v,_,_,?_,so',rfl⟩)
           . rw [aq nqo];exact s6 _ _ q5
           . exact Paired.imp' (fun a b h=>by rw [aq (fM (s6 _ _ h) (s6 _ _ c5) (by intro z;cases z))];exact s6 _ _ h) pa5
           . rw [ah,<- List.map_set,hw]
             rfl
         rw [if_pos nn];refine ixL c5 gv ⟨_,rfl,?_⟩;by_cases cp:0<=cs.getD v.toNat 0
         . rw [if_pos cp];refine ixL c5 gu (ixL c5 gv ⟨bE (by simp),fun q' nq'=>⟨_,get v (par v) kk q' hk nq',_,rfl,_,rfl,⟨by omega,by omega⟩,_,rfl,fin _ q' _ nq' ?_⟩⟩);unfold hnd;rw [if_pos cp,hk]
           rfl
         . rw [if_neg cp,if_pos nn];refine ixL c5 gu (ixL c5 gv ⟨bE (by simp),fun q' nq'=>⟨_,get (par v) v kd q' hd nq',_,rfl,_,rfl,.inr ⟨by omega,by omega⟩,_,rfl,fin _ q' _ nq' ?_⟩⟩);unfold hnd;rw [if_neg cp,hd]
           rfl
       . have ei:i=t.reverse.length:=(by rw [List.length_reverse];omega);rw [ei,List.getElem?_append_right (Nat.le_refl _),Nat.sub_self] at hv';cases hv';have fv:Pb.front r par r=V.non:=(by unfold Pb.front;rw [if_pos rfl]);rw [fv];rw [if_neg (fun z=>z rfl),if_neg (fun z=>z rfl)];refine hN _ _ ⟨s5,q5,pa5,cs,_,_,c5,?_,rfl⟩;rw [List.length_reverse] at ei;rw [show t.length - (i+1)=t.length - i by omega];exact so
     . rintro σ H5 ⟨s5,q5,pa5,cs,v6,v7,c5,so,rfl⟩;rw [List.length_map,ql,List.length_cons,show t.length - (t.length+1)=0 by omega,List.drop_zero] at so;rw [O.done g R so] at c5;walk_at "rd";exact k lo H5 no s5 c5
def yp (T:Txt K mg):Sp:=fun vs H Q _=>∃ (c:Int),vs=[.int c]/\∀ t,2<=t->t<=1000000->Q (.int t) H
abbrev fb:Stmt:=top 45
theorem G3:FnScope ["part"] ["part"] (aa fb):=FnScope.of (by kernel_rfl)
theorem km:NmL (aa fb) "part":=.of (by kernel_rfl)
theorem GD (T:Txt K mg) (hq:bd (CXe P w)) {f:Addr} {fd:FuncData} (D:Df K mg "_law_toll" fb ["part"] f fd):FnOk P w K mg base (CXe P w) 1 f fd ["part"] (yp T):=by
 refine D.F.okC G3 (fun vs H Q E h=>?_) (fun cdv A outer s H vs Q E hr h=>?_)
 . obtain ⟨c,rfl,_⟩:=h
   rfl
 . obtain ⟨c,rfl,k⟩:=h;refine ⟨_,(aj (bU (aR fL (aw aZ (pvl 0 km) ap) ap (aX _)) (au (aU (aw cu ap (aw aZ (aw cG (pvl 0 km) ap) (aw lJ (aw nB ap ap) ap))))) bj) (au (aU (aw cu ap (aw aZ (aw cG (pvl 0 km) ap) ap))))),?_⟩;rw [show L2.start ["part"] [V.int c]=[some (V.int c)] from rfl];walk_at "rd";have e6:(10:Int)^Int.toNat 6 - 1=999999:=by decide
   have a1:=Int.emod_nonneg (c / 8) (show (999999:Int)≠0 by decide);have a2:=Int.emod_lt_of_pos (c / 8) (show (0:Int)<999999 by decide);have a3:=Int.emod_nonneg (c / 8) (show (4:Int)≠0 by decide);have a4:=Int.emod_lt_of_pos (c / 8) (show (0:Int)<4 by decide);refine ⟨by decide,?_⟩;by_cases z:c % 8=7
   . rw [if_pos z];refine ⟨⟨by decide,by decide⟩,⟨by decide,by decide,by decide⟩,by decide,?_⟩;rw [e6];exact k _ (by omega) (by omega)
   . rw [if_neg z];exact ⟨⟨by decide,by decide⟩,by decide,k _ (by omega) (by omega)⟩
def wQ (T:Txt K mg):Sp:=fun vs H Q _=>∃ (a:Addr) (ns:List Int) (m s:Int),vs=[.ref a,.int m,.int s]/\SqL K H a (ns.map V.int)/\1<=m/\m<=24/\0<=s/\s<4 /\
 ∀ (l:Addr) (ps:List Addr) (rs:List Road) (H':Hp),H l=none->Same H H'->H' l=some (.lst (ps.map V.ref))->RoadsAt H' ps rs->Good m rs->Q (.ref l) H'
abbrev aW:Stmt:=top 46
theorem dh:FnScope ["script","many","shape","roads","k","part","to","there","back"] ["script","many","shape"] (aa aW):=FnScope.of (by kernel_rfl)
theorem vD:NmL (aa aW) "script":=.of (by kernel_rfl)
theorem yi:NmL (aa aW) "many":=.of (by kernel_rfl)
theorem wI:NmL (aa aW) "shape":=.of (by kernel_rfl)
theorem fS:NmL (aa aW) "roads":=.of (by kernel_rfl)
theorem c7:NmL (aa aW) "k":=.of (by kernel_rfl)
theorem bP:NmL (aa aW) "part":=.of (by kernel_rfl)
theorem kX:NmL (aa aW) "to":=.of (by kernel_rfl)
theorem fT:NmL (aa aW) "there":=.of (by kernel_rfl)
theorem gw:NmL (aa aW) "back":=.of (by kernel_rfl)
theorem vO:NmG (aa aW) "range":=.of (by kernel_rfl)
theorem jZ:NmG (aa aW) "_law_drawn":=.of (by kernel_rfl)
theorem eL:NmG (aa aW) "_law_toll":=.of (by kernel_rfl)
theorem FT (T:Txt K mg) (hq:bd (CXe P w)) {f:Addr} {fd:FuncData} (D:Df K mg "_law_roads" aW ["script","many","shape"] f fd) {bc:Addr} {bM:FuncData} (ay:Df K mg "_law_drawn" bp ["script","k"] bc bM) (G_law_drawn:FnOk P w K mg base (CXe P w) 1 bc bM ["script","k"] (gG T)) {ie:Addr} {yI:FuncData} (fe:Df K mg "_law_toll" fb ["part"] ie yI) (G_law_toll:FnOk P w K mg base (CXe P w) 1 ie yI ["part"] (yp T)):FnOk P w K mg base (CXe P w) 2 f fd ["script","many","shape"] (wQ T):=by
 refine D.F.okC dh (fun vs H Q E h=>?_) (fun cdv A outer s H vs Q E hr h=>?_)
 . obtain ⟨a,ns,m,s,rfl,_⟩:=h
   rfl
 . obtain ⟨a,ns,m,sh,rfl,ha,m1,m24,sh0,sh4,k⟩:=h;refine ⟨_,(aj (az (i:=3) dh.nd rfl (Or.inl fS.l) (eE ao)) (aj (dN PassesOwn.never rfl (CW vO.g T.range (ag ap (ag (pvl 1 yi) ao))) (aI (i:=4) dh.nd rfl (Or.inl c7.l)) (aj (az (i:=5) dh.nd rfl (Or.inl bP.l) (ax G_law_drawn (hr.mono (by decide)) jZ.g ay.m ay.F.kp ay.b .nil (aN hq) (ag (pvl 0 vD) (ag (pvl 4 c7) ao)) (hdb:=jZ.d))) (aj (az (i:=6) dh.nd rfl (Or.inl kX.l) (bi bg (eE (ag (aw aZ (pvl 5 bP) (pvl 4 c7)) (ag (aw lJ (pvl 4 c7) ap) (ag ap (ag (aw aZ (pvl 5 bP) (pvl 4 c7)) ao))))) (pvl 2 wI) (fun _ _=>rfl))) (aj (az (i:=5) dh.nd rfl (Or.inl bP.l) (aw cG (pvl 5 bP) (pvl 4 c7))) (aj (az (i:=7) dh.nd rfl (Or.inl fT.l) (ax G_law_toll (hr.mono (by decide)) eL.g fe.m fe.F.kp fe.b .nil (aN hq) (ag (aw aZ (pvl 5 bP) (aw nB ap ap)) ao) (hdb:=eL.d))) (aj (az (i:=8) dh.nd rfl (Or.inl gw.l) (ax G_law_toll (hr.mono (by decide)) eL.g fe.m fe.F.kp fe.b .nil (aN hq) (ag (aw aZ (aw cG (pvl 5 bP) (aw nB ap ap)) (aw nB ap ap)) ao) (hdb:=eL.d))) (aj (bU (aR fL (aw aZ (aw Eg (pvl 5 bP) (aw nB ap ap)) ap) ap (aX _)) (au (az (i:=8) dh.nd rfl (Or.inl gw.l) (pvl 7 fT))) bj) (au (bU (aR fL (aw aZ (aw Eg (pvl 5 bP) (aw nB ap ap)) ap) ap (aX _)) (au (c8 (oF PySem.F.plainAttrs_list PySem.F.slot_list_append PySem.F.type_list_append ff (pvl 3 fS) (ag (iz (ag (pvl 6 kX) (ag (pvl 4 c7) (ag (pvl 7 fT) (ag (pvl 8 gw) ao))))) ao)))) (au (c8 (oF PySem.F.plainAttrs_list PySem.F.slot_list_insert PySem.F.type_list_insert LN (pvl 3 fS) (ag ap (ag (iz (ag (pvl 4 c7) (ag (pvl 6 kX) (ag (pvl 8 gw) (ag (pvl 7 fT) ao))))) ao)))))))))))))) (au (aU (pvl 3 fS))))),?_⟩;rw [show L2.start ["script","many","shape","roads","k","part","to","there","back"] [V.ref a,V.int m,V.int sh]=[some (V.ref a),some (V.int m),some (V.int sh),none,none,none,none,none,none] from rfl];walk_at "rd";refine ⟨by decide,fun lo nlo=>⟨1,m,⟨rfl,rfl⟩,⟨by decide,by decide,by omega,by omega⟩,?_⟩⟩;refine oG (fun i σ H3=>∃ (ps:List Addr) (rs:List Road) (rows:List Row) (v4 v5 v6 v7 v8:Option V),σ=[some (V.ref a),some (V.int m),some (V.int sh),some (V.ref lo),v4,v5,v6,v7,v8]/\Same H H3/\H3 lo=some (.lst (ps.map V.ref))/\RoadsAt H3 ps rs/\Rows i rows/\Put (below m.toNat) rows rs) ⟨[],[],[],_,_,_,_,_,rfl,Same.new _ nlo,ah,.nil,⟨rfl,fun i r h=>by cases h⟩,Put.nil _⟩ ?_ ?_
   . rintro i σ H3 N hN hi ⟨ps,rs,rows,v4,v5,v6,v7,v8,rfl,s3,hl3,ro3,R,P⟩;have k0:(1:Int)<=1+(i:Int):=(by omega);have k1:1+(i:Int)<m:=(by omega);generalize hk:(1:Int)+(i:Int)=kk at k0 k1 ⊢;have psl:ps.length=rs.length:=Paired.length ro3;have rl:=R.len;have pl:=P.len;walk_at "rd";refine ⟨a,ns,kk,rfl,Same.seq s3 ha,by omega,by omega,fun c c0=>?_⟩;have em:∀ (x n:Int),0<n->0<=x % n/\x % n<n:=fun x n h=>⟨Int.emod_nonneg x (Int.ne_of_gt h),Int.emod_lt_of_pos x h⟩;have hg:=em c kk (by omega);have cp9:Ro 10 9:=⟨by decide,by decide,by decide⟩;have e9:(10:Int)^Int.toNat 9=1000000000:=(by decide);have e18:(10:Int)^Int.toNat 18=1000000000000000000:=(by decide);have e19:(10:Int)^Int.toNat 19=10000000000000000000:=(by decide);refine ⟨c,rfl,by omega,c,rfl,by omega,bE (by simp),fun q1 hq1=>?_⟩;have s4:=Same.new (.lst [.int (c % kk),.int (kk - 1),.int 0,.int (c % kk)]) hq1;obtain ⟨un,hun,u0,u1⟩:∃ un:Int,atI [V.int (c % kk),V.int (kk - 1),V.int 0,V.int (c % kk)] sh=some (.int un)/\0<=un/\un<kk:=by
       rcases (show sh=0\/sh=1\/sh=2\/sh=3 by omega) with z|z|z|z
       . exact ⟨_,by rw [z];rfl,hg.1,hg.2⟩
       . exact ⟨_,by rw [z];rfl,by omega,by omega⟩
       . exact ⟨_,by rw [z];rfl,by omega,by omega⟩
       . exact ⟨_,by rw [z];rfl,hg.1,hg.2⟩
     refine ixL ah hun ?_;generalize upd H3 q1 (.lst [.int (c % kk),.int (kk - 1),.int 0,.int (c % kk)])=H4 at s4 ⊢;rw [e9,e18,e19];refine ⟨c,rfl,⟨by omega,by omega⟩,cp9,by decide,_,rfl,fun th t0 t1=>⟨cp9,⟨by decide,by decide⟩,cp9,by decide,_,rfl,fun bk b0 b1=>⟨⟨by decide,by decide,by decide⟩,⟨by decide,by decide⟩,by decide,?_⟩⟩⟩;have hl4:=s4 _ _ hl3;have ro4:=RoadsAt.same s4 ro3;have lu:=A1 (n:=m.toNat) u0 (by omega);have lk:=A1 (n:=m.toNat) (show 0<=kk by omega) (by omega);have keep:∀ {H7:Hp} {zs:List V} {q:Addr} {r':Road},Same H3 H7->H7 q=some (.tup (jP r'))->upd H7 lo (.lst zs) q=some (.tup (jP r')):=fun {H7 zs q r'} s7 h=>by rw [aq (fM h (s7 _ _ hl3) (by intro z;cases z))];exact h
     have fin:∀ (H7:Hp) (q:Addr) (row:Row) (n:Nat) (v5 v6 v7 v8:Option V),Same H3 H7->row.k=kk->RowOk row->H7 q=some (.tup (jP (gM (below m.toNat) row)))->N [some (V.ref a),some (V.int m),some (V.int sh),some (V.ref lo),some (V.int kk),v5,v6,v7,v8] (upd H7 lo (.lst ((ps.take n++q::ps.drop n).map V.ref))):=by
       intro H7 q row n v5 v6 v7 v8 s7 rk rok hq;refine hN _ _ ⟨_,rs.take n++gM (below m.toNat) row::rs.drop n,rows++[row],_,_,_,_,_,rfl,(s3.trans s7).put nlo _,ah,?_,K3 R (by omega) rok,P.step row n⟩;exact Q8 n (Paired.imp' (fun p r h=>keep s7 h) (RoadsAt.same s7 ro3)) (keep s7 hq)
     have app:∀ (H7:Hp) (q:Addr) (row:Row) (v5 v6 v7 v8:Option V),Same H3 H7->row.k=kk->RowOk row->H7 q=some (.tup (jP (gM (below m.toNat) row)))->rAppend (V.ref lo) [V.ref q] H7 fun _ H1=>N [some (V.ref a),some (V.int m),some (V.int sh),some (V.ref lo),some (V.int kk),v5,v6,v7,v8] H1:=fun H7 q row v5 v6 v7 v8 s7 rk rok hq=>by
       refine sW (s7 _ _ hl3) (dH (by rw [List.length_map];omega)) ?_;have:=fin H7 q row ps.length v5 v6 v7 v8 s7 rk rok hq;rw [List.take_length,List.drop_length,List.map_append] at this;exact this
     have ins:∀ (H7:Hp) (q:Addr) (row:Row) (v5 v6 v7 v8:Option V),Same H3 H7->row.k=kk->RowOk row->H7 q=some (.tup (jP (gM (below m.toNat) row)))->rInsert (V.ref lo) [V.int 0,V.ref q] H7 fun _ H1=>N [some (V.ref a),some (V.int m),some (V.int sh),some (V.ref lo),some (V.int kk),v5,v6,v7,v8] H1:=fun H7 q row v5 v6 v7 v8 s7 rk rok hq=>by
       refine SL (s7 _ _ hl3) (Int.le_refl _) (by omega) (dH (by rw [List.length_map];omega)) ?_;have:=fin H7 q row 0 v5 v6 v7 v8 s7 rk rok hq;rw [List.take_zero,List.drop_zero,List.nil_append] at this;exact this
     have e1:∀ x y:Int,jP (gM (below m.toNat) ⟨kk,un,x,y,1,0⟩)=[V.int un,V.int kk,V.int x,V.int y]:=fun x y=>by
       unfold gM;rw [if_pos rfl];show [V.int ((below m.toNat).getD un.toNat 0),V.int ((below m.toNat).getD kk.toNat 0),V.int x,V.int y]=_;rw [lu,lk]
     have e2:∀ x y:Int,jP (gM (below m.toNat) ⟨kk,un,x,y,0,0⟩)=[V.int kk,V.int un,V.int x,V.int y]:=fun x y=>by
       unfold gM;rw [if_neg (show ¬ (0:Int)=1 by decide)];show [V.int ((below m.toNat).getD kk.toNat 0),V.int ((below m.toNat).getD un.toNat 0),V.int x,V.int y]=_;rw [lu,lk]
     have okR:∀ (x y w:Int),2<=x->x<=1000000->2<=y->y<=1000000->RowOk ⟨kk,un,x,y,w,0⟩:=fun x y w a b c d=>⟨u0,u1,a,b,c,d,Int.le_refl _,by show (0:Int)<kk;omega⟩;have both:∀ (th bk:Int) (v5 v7 v8:Option V),2<=th->th<=1000000->2<=bk->bk<=1000000->(tyV K "list" (V.ref lo) H4/\[V.int un,V.int kk,V.int th,V.int bk].length<=sizeLine/\∀ p,H4 p=none->rAppend (V.ref lo) [V.ref p] (upd H4 p (.tup [V.int un,V.int kk,V.int th,V.int bk])) fun _ H1=>N [some (V.ref a),some (V.int m),some (V.int sh),some (V.ref lo),some (V.int kk),v5,some (V.int un),v7,v8] H1)/\(tyV K "list" (V.ref lo) H4/\[V.int kk,V.int un,V.int bk,V.int th].length<=sizeLine/\∀ p,H4 p=none->rInsert (V.ref lo) [V.int 0,V.ref p] (upd H4 p (.tup [V.int kk,V.int un,V.int bk,V.int th])) fun _ H1=>N [some (V.ref a),some (V.int m),some (V.int sh),some (V.ref lo),some (V.int kk),v5,some (V.int un),v7,v8] H1):=fun th bk v5 v7 v8 t0 t1 b0 b1 =>
       ⟨⟨tyL hl4,bE (by simp),fun p hp=>app _ p ⟨kk,un,th,bk,1,0⟩ _ _ _ _ (s4.trans (Same.new _ hp)) rfl (okR _ _ _ t0 t1 b0 b1) (by rw [ah,e1])⟩,⟨tyL hl4,bE (by simp),fun p hp=>ins _ p ⟨kk,un,bk,th,0,0⟩ _ _ _ _ (s4.trans (Same.new _ hp)) rfl (okR _ _ _ b0 b1 t0 t1) (by rw [ah,e2])⟩⟩
     by_cases y1:c / kk / 1000000000000000000 % 3=0
     . rw [if_pos y1];refine ⟨⟨by decide,by decide,by decide⟩,⟨by decide,by decide⟩,by decide,?_⟩;by_cases y2:c / kk / 10000000000000000000 % 2=0
       . rw [if_pos y2];exact (both th th _ _ _ t0 t1 t0 t1).1
       . rw [if_neg y2];exact (both th th _ _ _ t0 t1 t0 t1).2
     . rw [if_neg y1];refine ⟨⟨by decide,by decide,by decide⟩,⟨by decide,by decide⟩,by decide,?_⟩;by_cases y2:c / kk / 10000000000000000000 % 2=0
       . rw [if_pos y2];exact (both th bk _ _ _ t0 t1 b0 b1).1
       . rw [if_neg y2];exact (both th bk _ _ _ t0 t1 b0 b1).2
   . rintro σ H3 ⟨ps,rs,rows,v4,v5,v6,v7,v8,rfl,s3,hl3,ro3,R,P⟩;have g:=P8 (n:=m.toNat) (by omega) (by omega) (EC _) (by rw [show m.toNat - 1=(m - 1).toNat by omega];exact R) P;rw [Int.toNat_of_nonneg (by omega)] at g;walk_at "rd";exact k lo ps rs H3 nlo s3 hl3 ro3 g
def Bh (T:Txt K mg):Sp:=fun vs H Q _=>∃ (a:Addr) (ns:List Int) (z:Int),vs=[.ref a,.int z]/\SqL K H a (ns.map V.int)/\1<=z/\z<=24 /\
 ∀ (t l:Addr) (m:Int) (ps:List Addr) (rs:List Road) (H':Hp),H t=none->H l=none->Same H H'->H' t=some (.tup [.int m,.ref l])->H' l=some (.lst (ps.map V.ref))->RoadsAt H' ps rs->Good m rs->Q (.ref t) H'
abbrev cL:Stmt:=top 47
theorem oA:FnScope ["script","reach","head","many"] ["script","reach"] (aa cL):=FnScope.of (by kernel_rfl)
theorem og:NmL (aa cL) "script":=.of (by kernel_rfl)
theorem kD:NmL (aa cL) "reach":=.of (by kernel_rfl)
theorem fV:NmL (aa cL) "head":=.of (by kernel_rfl)
theorem iZ:NmL (aa cL) "many":=.of (by kernel_rfl)
theorem lA:NmG (aa cL) "_law_drawn":=.of (by kernel_rfl)
theorem lH:NmG (aa cL) "_law_roads":=.of (by kernel_rfl)
theorem Jr (T:Txt K mg) (hq:bd (CXe P w)) {f:Addr} {fd:FuncData} (D:Df K mg "_law_web" cL ["script","reach"] f fd) {bc:Addr} {bM:FuncData} (ay:Df K mg "_law_drawn" bp ["script","k"] bc bM) (G_law_drawn:FnOk P w K mg base (CXe P w) 1 bc bM ["script","k"] (gG T)) {gn:Addr} {xh:FuncData} (iG:Df K mg "_law_roads" aW ["script","many","shape"] gn xh) (G_law_roads:FnOk P w K mg base (CXe P w) 2 gn xh ["script","many","shape"] (wQ T)):FnOk P w K mg base (CXe P w) 3 f fd ["script","reach"] (Bh T):=by
 refine D.F.okC oA (fun vs H Q E h=>?_) (fun cdv A outer s H vs Q E hr h=>?_)
 . obtain ⟨a,ns,z,rfl,_⟩:=h
   rfl
 . obtain ⟨a,ns,z,rfl,ha,z1,z24,k⟩:=h;refine ⟨_,(aj (az (i:=2) oA.nd rfl (Or.inl fV.l) (aw cG (ax G_law_drawn (hr.mono (by decide)) lA.g ay.m ay.F.kp ay.b .nil (aN hq) (ag (pvl 0 og) (ag ap ao)) (hdb:=lA.d)) ap)) (aj (az (i:=3) oA.nd rfl (Or.inl iZ.l) (aw cu ap (aw aZ (pvl 2 fV) (pvl 1 kD)))) (aj (bU (aR fL (aw aZ (aw cG (pvl 2 fV) (pvl 1 kD)) ap) ap (aX _)) (au (az (i:=3) oA.nd rfl (Or.inl iZ.l) (aw cu ap (aw aZ (aw cG (pvl 2 fV) (aw jq ap (pvl 1 kD))) ap)))) bj) (au (aU (iz (ag (pvl 3 iZ) (ag (ax G_law_roads (hr.mono (by decide)) lH.g iG.m iG.F.kp iG.b .nil (aN hq) (ag (pvl 0 og) (ag (pvl 3 iZ) (ag (aw aZ (aw cG (pvl 2 fV) ap) ap) ao))) (hdb:=lH.d)) ao)))))))),?_⟩;rw [show L2.start ["script","reach","head","many"] [V.ref a,V.int z]=[some (V.ref a),some (V.int z),none,none] from rfl];have em:∀ (x n:Int),0<n->0<=x % n/\x % n<n:=fun x n h=>⟨Int.emod_nonneg x (Int.ne_of_gt h),Int.emod_lt_of_pos x h⟩;walk_at "rd";refine ⟨a,ns,0,rfl,ha,by decide,by decide,fun c c0=>⟨c,rfl,⟨by decide,by decide⟩,by omega,⟨by omega,by omega⟩,by decide,?_⟩⟩;have h1:=em (c / 2) z (by omega);have h2:=em (c / 2 / (12*z)) 24 (by decide);have h3:=em (c / 2 / 300) 4 (by decide);apply Qe (1+c / 2 / (12*z) % 24) (1+c / 2 % z)
   . generalize 1+c / 2 % z=m;intro h;exact h
   . exact fun h=>⟨.inl ⟨by decide,by decide⟩,⟨by omega,by omega⟩,by decide,h⟩
   intro m hm;have m1:1<=m:=by omega
   have m24:m<=24:=by omega
   clear hm;refine ⟨⟨by decide,by decide⟩,by decide,?_⟩;refine ⟨a,ns,m,_,rfl,ha,m1,m24,h3.1,h3.2,fun l ps rs H1 nl s1 el ro g=>⟨bE (by simp),fun t nt=>?_⟩⟩;have s2:=Same.new (.tup [.int m,.ref l]) nt;exact k t l m ps rs _ (s1.free nt) nl (s1.trans s2) ah (s2 _ _ el) (RoadsAt.same s2 ro) g
def yK (T:Txt K mg):Sp:=fun vs H Q _=>∃ (a:Addr) (ns:List Int) (m b:Int),vs=[.ref a,.int m,.int b]/\SqL K H a (ns.map V.int)/\ns.length<=63/\1<=m/\m<=24/\1<=b/\b<=10^60/\∀ (l:Addr) (xs:List Int) (H':Hp),H l=none->Same H H'->H' l=some (.lst (xs.map V.int))->(xs.length:Int)=m->(∀ x∈xs,0<=x)->(∀ x∈xs,x<=10^60)->Q (.ref l) H'
abbrev bK:Stmt:=top 53
theorem mZ:FnScope ["script","many","bound","wish","k","place"] ["script","many","bound"] (aa bK):=FnScope.of (by kernel_rfl)
theorem jF:NmL (aa bK) "script":=.of (by kernel_rfl)
theorem ij:NmL (aa bK) "many":=.of (by kernel_rfl)
theorem yg:NmL (aa bK) "bound":=.of (by kernel_rfl)
theorem kG:NmL (aa bK) "wish":=.of (by kernel_rfl)
theorem iu:NmL (aa bK) "k":=.of (by kernel_rfl)
theorem n9:NmL (aa bK) "place":=.of (by kernel_rfl)
theorem yk:NmG (aa bK) "range":=.of (by kernel_rfl)
theorem lZ:NmG (aa bK) "len":=.of (by kernel_rfl)
theorem eI:NmG (aa bK) "_law_drawn":=.of (by kernel_rfl)
theorem Gm (T:Txt K mg) (hq:bd (CXe P w)) {f:Addr} {fd:FuncData} (D:Df K mg "_law_wish" bK ["script","many","bound"] f fd) {bc:Addr} {bM:FuncData} (ay:Df K mg "_law_drawn" bp ["script","k"] bc bM) (G_law_drawn:FnOk P w K mg base (CXe P w) 1 bc bM ["script","k"] (gG T)):FnOk P w K mg base (CXe P w) 2 f fd ["script","many","bound"] (yK T):=by
 refine D.F.okC mZ (fun vs H Q E h=>?_) (fun cdv A outer s H vs Q E hr h=>?_)
 . obtain ⟨a,ns,m,b,rfl,_⟩:=h
   rfl
 . obtain ⟨a,ns,m,b,rfl,ha,hn,m0,m1,b0,bb,k⟩:=h;refine ⟨_,(aj (az (i:=3) mZ.nd rfl (Or.inl kG.l) (aw vX (eE (ag ap ao)) (pvl 1 ij))) (aj (dN PassesOwn.never rfl (CW yk.g T.range (ag (pvl 1 ij) (ag (cJ eB lZ.g T.len lD (ag (pvl 0 jF) ao) (hn:=lZ.n) (hdb:=lZ.d)) ao))) (aI (i:=4) mZ.nd rfl (Or.inl iu.l)) (au (bU (aR fL (aw aZ (pvl 4 iu) ap) ap (aX _)) (aj (az (i:=5) mZ.nd rfl (Or.inl n9.l) (aw aZ (ax G_law_drawn (hr.mono (by decide)) eI.g ay.m ay.F.kp ay.b .nil (aN hq) (ag (pvl 0 jF) (ag (pvl 4 iu) ao)) (hdb:=eI.d)) (pvl 1 ij))) (au (j7 (aw aZ (aw cG (ax G_law_drawn (hr.mono (by decide)) eI.g ay.m ay.F.kp ay.b .nil (aN hq) (ag (pvl 0 jF) (ag (pvl 4 iu) ao)) (hdb:=eI.d)) (pvl 1 ij)) (bi bg (eE (ag (pvl 2 yg) (ag ap (ag ap ao)))) (aw aZ (aw cG (pvl 4 iu) ap) ap) (fun _ _=>rfl))) (nh (pvl 3 kG) (pvl 5 n9) gd)))) bj))) (au (aU (pvl 3 kG))))),?_⟩;rw [show L2.start ["script","many","bound","wish","k","place"] [V.ref a,V.int m,V.int b]=[some (V.ref a),some (V.int m),some (V.int b),none,none,none] from rfl];walk_at "rd";refine ⟨bE (by simp),fun l0 n0=>?_⟩;refine ⟨l0,m,_,rfl,rfl,ah,by omega,by omega,bE (by simp;omega),fun l n1=>?_⟩;rw [Sm];have s0:Same H (upd H l0 (.lst [.int 0])):=Same.new _ n0;have s1:=s0.trans (Same.new (.lst (List.replicate m.toNat (V.int 0))) n1);have nl:=s0.free n1;refine ⟨_,.inl (Same.seq s1 ha),m,_,⟨rfl,rfl⟩,⟨by omega,by omega,by omega,by rw [List.length_map];omega⟩,?_⟩;rw [List.length_map];have e1:upd (upd H l0 (.lst [.int 0])) l (.lst (List.replicate m.toNat (V.int 0))) l=some (.lst ((List.replicate m.toNat (0:Int)).map V.int)):=by rw [ah,List.map_replicate]
   generalize upd (upd H l0 (.lst [.int 0])) l (.lst (List.replicate m.toNat (V.int 0)))=H1 at s1 e1 ⊢;refine oG (fun i σ H2=>Same H H2/\∃ (xs:List Int) (v4 v5:Option V),H2 l=some (.lst (xs.map V.int))/\(xs.length:Int)=m/\(∀ x∈xs,0<=x/\x<=10^60)/\σ=[some (.ref a),some (.int m),some (.int b),some (.ref l),v4,v5]) ⟨s1,_,_,_,e1,by rw [List.length_replicate];omega,fun x hx=>by rw [(List.mem_replicate.mp hx).2];decide,rfl⟩ ?_ ?_
   . rintro i σ H2 N hN hi ⟨s2,xs,v4,v5,e2,xl,x0,rfl⟩;have i0:0<=m+(i:Int):=(by omega);have i1:m+(i:Int)<=1000:=(by omega);generalize m+(i:Int)=j at i0 i1 ⊢;have sa:=Same.seq s2 ha;walk_at "rd";refine ⟨by decide,?_⟩;by_cases z:j % 2=1
     . rw [if_pos z];refine ⟨a,ns,j,rfl,sa,i0,i1,fun c c0=>⟨c,rfl,by omega,?_⟩⟩;have h1:=Int.emod_nonneg c (show m≠0 by omega);have h2:=Int.emod_lt_of_pos c (show 0<m by omega);generalize c % m=p at h1 h2 ⊢;refine ⟨a,ns,j,rfl,sa,i0,i1,fun c' c0'=>?_⟩;refine ⟨c',rfl,⟨by omega,by omega⟩,bE (by simp),fun q nq=>⟨⟨by decide,by decide⟩,by decide,?_⟩⟩;have s3:=Same.new (.lst [V.int b,V.int 3,V.int 2]) nq;obtain ⟨w,hw,w0,w1⟩:∃ w:Int,atI [V.int b,V.int 3,V.int 2] (j / 2 % 3)=some (.int w)/\0<w/\w<=10^60:=by
         rcases (show j / 2 % 3=0\/j / 2 % 3=1\/j / 2 % 3=2 by omega) with z|z|z
         . exact ⟨_,by rw [z];rfl,b0,bb⟩
         . exact ⟨_,by rw [z];rfl,by decide,by decide⟩
         . exact ⟨_,by rw [z];rfl,by decide,by decide⟩
       refine ixL ah hw ⟨w,rfl,w0,xP (s3 _ _ e2) h1 (by rw [List.length_map];omega) (hN _ _ ⟨(s2.trans s3).put nl _,xs.set p.toNat (c' / m % w),_,_,by rw [ah,List.map_set],by rw [List.length_set];exact xl,?_,rfl⟩)⟩;intro x hx;rcases List.mem_or_eq_of_mem_set hx with q|q
       . exact x0 x q
       . have g1:=Int.emod_nonneg (c' / m) (show w≠0 by omega);have g2:=Int.emod_lt_of_pos (c' / m) w0;rw [q];omega
     . rw [if_neg z];exact hN _ _ ⟨s2,xs,_,_,e2,xl,x0,rfl⟩
   . rintro σ H2 ⟨s2,xs,v4,v5,e2,xl,x0,rfl⟩;exact ⟨_,rfl,k l xs H2 nl s2 e2 xl (fun x hx=>(x0 x hx).1) (fun x hx=>(x0 x hx).2)⟩
def jL (T:Txt K mg):Sp:=fun vs H Q E=>∃ (p t:Addr) (m:Int) (ps:List Addr) (rs:List Road) (n:Int),vs=[.ref p,.int n]/\WebAt T.Web H p m t ps rs/\(0<=n->n<m->Q .non H)/\(¬ (0<=n/\n<m)->E (.ref T.NoPlace) none H)
abbrev bx:Stmt:=top 14
theorem BO:FnScope ["web","number"] ["web","number"] (aa bx):=FnScope.of (by kernel_rfl)
theorem xa:NmL (aa bx) "web":=.of (by kernel_rfl)
theorem sH:NmL (aa bx) "number":=.of (by kernel_rfl)
theorem jT:NmG (aa bx) "is_place":=.of (by kernel_rfl)
theorem j8:NmG (aa bx) "NoPlace":=.of (by kernel_rfl)
theorem BR (T:Txt K mg) (hq:bd (CXe P w)) {f:Addr} {fd:FuncData} (D:Df K mg "check_place" bx ["web","number"] f fd) {d6:Addr} {j4:FuncData} (cf:Df K mg "is_place" db ["many","number"] d6 j4) (G_is_place:FnOk P w K mg base (CXe P w) 1 d6 j4 ["many","number"] (qT T)):FnOk P w K mg base (CXe P w) 2 f fd ["web","number"] (jL T):=by
 refine D.F.okX BO (fun vs H Q E h=>?_) (fun cdv A outer s H vs Q E hr h=>?_)
 . obtain ⟨p,t,m,ps,rs,n,rfl,_⟩:=h
   rfl
 . obtain ⟨p,t,m,ps,rs,n,rfl,W,k,e⟩:=h;obtain ⟨dx,ob⟩:=W.ob;refine ⟨_,(au (bU (sJ (sP (ax G_is_place (hr.mono (by decide)) jT.g cf.m cf.F.kp cf.b .nil dI (ag (di  (pvl 0 xa) rfl) (ag (pvl 1 sH) ao)) (hdb:=jT.d)))) (au (uD T.Kq rfl xR j8.g T.Ks (ag Al ao) (hdb:=j8.d))) bj)),?_⟩;rw [show L2.start ["web","number"] [V.ref p,V.int n]=[some (V.ref p),some (V.int n)] from rfl];walk_at "rd";refine ⟨T.Web,dx,_,ob,T.j2,T.n_many,_,lO m t,m,n,rfl,_,rfl,?_⟩;by_cases c:0<=n/\n<m
   . rw [if_neg (by simp [c.1,c.2])];exact k c.1 c.2
   . rw [if_pos (by simpa [Bool.and_eq_true] using c)];exact ⟨by decide,e c⟩
def u7 (T:Txt K mg):Sp:=fun vs H Q E=>∃ (p t:Addr) (m:Int) (ps:List Addr) (rs:List Road) (a:Int),vs=[.ref p,.int a]/\WebAt T.Web H p m t ps rs /\
 (∀ l H',0<=a->a<m->H l=none->Same H H'->H' l=some (.lst ((dQ m rs a).map V.int))->Q (.ref l) H')/\(¬ (0<=a/\a<m)->E (.ref T.NoPlace) none H)
abbrev bS:Stmt:=top 13
theorem DB:FnScope ["web","a"] ["web","a"] (aa bS):=FnScope.of (by kernel_rfl)
theorem oj:NmL (aa bS) "web":=.of (by kernel_rfl)
theorem qB:NmL (aa bS) "a":=.of (by kernel_rfl)
theorem ja:NmG (aa bS) "check_place":=.of (by kernel_rfl)
theorem ii:NmG (aa bS) "sorted":=.of (by kernel_rfl)
theorem jD:NmG (aa bS) "other_ends":=.of (by kernel_rfl)
theorem Dh (T:Txt K mg) (hq:bd (CXe P w)) {f:Addr} {fd:FuncData} (D:Df K mg "neighbours" bS ["web","a"] f fd) {bI:Addr} {c6:FuncData} (aK:Df K mg "check_place" bx ["web","number"] bI c6) (G_check_place:FnOk P w K mg base (CXe P w) 2 bI c6 ["web","number"] (jL T)) {cT:Addr} {iA:FuncData} (cq:Df K mg "other_ends" bR ["roads","place"] cT iA) (G_other_ends:FnOk P w K mg base (CXe P w) 1 cT iA ["roads","place"] (nN T)):FnOk P w K mg base (CXe P w) 3 f fd ["web","a"] (u7 T):=by
 refine D.F.okX DB (fun vs H Q E h=>?_) (fun cdv A outer s H vs Q E hr h=>?_)
 . obtain ⟨p,t,m,ps,rs,a,rfl,_⟩:=h
   rfl
 . obtain ⟨p,t,m,ps,rs,a,rfl,W,k,e⟩:=h;obtain ⟨dx,ob⟩:=W.ob;refine ⟨_,(aj (c8 (ax G_check_place (hr.mono (by decide)) ja.g aK.m aK.F.kp aK.b .nil dI (ag (pvl 0 oj) (ag (pvl 1 qB) ao)) (hdb:=ja.d))) (au (aU (cJ Gs ii.g T.sorted C1 (ag (ax G_other_ends (hr.mono (by decide)) jD.g cq.m cq.F.kp cq.b .nil dI (ag (di  (pvl 0 oj) rfl) (ag (pvl 1 qB) ao)) (hdb:=jD.d)) ao) (hn:=ii.n) (hdb:=ii.d))))),?_⟩;rw [show L2.start ["web","a"] [V.ref p,V.int a]=[some (V.ref p),some (V.int a)] from rfl];walk_at "rd";refine ⟨p,t,m,ps,rs,a,rfl,W,fun a0 a1=>?_,e⟩;have hlen:(rs.length:Int)=m - 1:=W.go.len;have m24:=W.go.m24;refine ⟨T.Web,dx,_,ob,T.j2,T.n_roads,_,yC m t,t,ps,rs,a,rfl,SqT.of W.tu,W.ro,by omega,fun l1 H1 n1 s1 e1=>?_⟩;refine ⟨l1,rfl,b6 rs a,SqL.of e1,by have:=FE rs a;omega,fun l2 zs n2 pz sz=>?_⟩;rw [QH W.go a0 a1 pz sz];exact k l2 _ a0 a1 (s1.free n2) (s1.trans (Same.new _ n2)) ah
def xW (T:Txt K mg):Sp:=fun vs H Q _=>∃ (p t:Addr) (m:Int) (ps:List Addr) (rs:List Road) (a:Int) (fv:V),vs=[.ref p,.int a,fv]/\WebAt T.Web H p m t ps rs/\0<=a/\a<m/\(fv=.non\/∃ i,fv=.int i) /\
 ∀ l H',H l=none->Same H H'->H' l=some (.lst ((aG m rs fv a).map V.int))->Q (.ref l) H'
abbrev fB:Stmt:=top 27
theorem Qx:FnScope ["web","place","front"] ["web","place","front"] (aa fB):=FnScope.of (by kernel_rfl)
theorem GC:NmL (aa fB) "web":=.of (by kernel_rfl)
theorem DD:NmL (aa fB) "place":=.of (by kernel_rfl)
theorem QU:NmC (aa fB) "front":=.of (by kernel_rfl)
theorem nI:NmG (aa fB) "neighbours":=.of (by kernel_rfl)
theorem QC (T:Txt K mg) (hq:bd (CXe P w)) {f:Addr} {fd:FuncData} (D:Df K mg "kids" fB ["web","place","front"] f fd) {fC:Addr} {vt:FuncData} (gN:Df K mg "neighbours" bS ["web","a"] fC vt) (G_neighbours:FnOk P w K mg base (CXe P w) 3 fC vt ["web","a"] (u7 T)):FnOk P w K mg base (CXe P w) 4 f fd ["web","place","front"] (xW T):=by
 refine D.F.okC Qx (fun vs H Q E h=>?_) (fun cdv A outer s H vs Q E hr h=>?_)
 . obtain ⟨p,t,m,ps,rs,a,fv,rfl,_⟩:=h
   rfl
 . obtain ⟨p,t,m,ps,rs,a,fv,rfl,W,a0,a1,hf,k⟩:=h;have m24:=W.go.m24;refine ⟨_,(au (aU (oJ rfl (sq (Nc:=["near","front"]) 1 [2] (by decide +kernel) rfl (by decide +kernel) rfl (by show ∀ (y:Str × NameKind),y∈_->y.2=NameKind.free->(aa fB).names.lookup y.1=some NameKind.cell;decide +kernel) rfl (fun _ h=>kf h) (fun i hi=>match i,hi with|0,_=>⟨"front",2,rfl,rfl,rfl,by decide +kernel⟩|i+1,hi=>absurd hi (by show ¬ i+1<1;omega))) (jI (ax G_neighbours (hr.mono (by decide)) nI.g gN.m gN.F.kp gN.b .nil (aN hq) (ag (pvl 0 GC) (ag (pvl 1 DD) ao)) (hdb:=nI.d))) (fun _ _ _ _=>(aI (i:=0) (show (["near","front"]:List Str).Nodup from by decide +kernel) rfl (Or.inl rfl))) (fun _ _ _ _=>(BF (aR sV (pv 0) (pv 1) (aX _)))) (fun _ _ _ _=>(pv 0))))),?_⟩;rw [show L2.start ["web","place","front"] [V.ref p,V.int a,fv]=[some (V.ref p),some (V.int a),some fv] from rfl];walk_at "rd";have nl:(dQ m rs a).length<=24:=by
     have:=List.length_filter_le (fun q=>decide (q∈b6 rs a)) (below m.toNat);rw [bh] at this;unfold dQ;omega
   refine ⟨p,t,m,ps,rs,a,rfl,W,fun l1 H1 _ _ n1 s1 e1=>⟨l1,rfl,⟨_,SqL.of e1⟩,fun l2 n2=>?_⟩,fun z=>absurd ⟨a0,a1⟩ z⟩;have n20:H l2=none:=s1.free n2;refine yT (c:=true) (K:=K) (a:=l1) (xs:=(dQ m rs a).map V.int) (fun j ys σ H2=>Same H1 H2/\H2 l2=some (.lst ys)/\ys=(((dQ m rs a).take j).filter fun v=>decide (V.int v≠fv)).map V.int/\∃ v,σ=[v,some fv]) ⟨Same.new _ n2,ah,rfl,_,rfl⟩ (fun j ys σ H2 _ z=>SqL.of (z.1 _ _ e1)) ?_ ?_
   . rintro j xj ys σ H2 N hN hj ⟨s2,h2,rfl,v,rfl⟩;rw [List.getElem?_map] at hj;obtain ⟨b,hb,rfl⟩:=Option.map_eq_some_iff.mp hj;have et:(dQ m rs a).take (j+1)=(dQ m rs a).take j++[b]:=(by rw [List.take_succ,hb];rfl);have ll:(((dQ m rs a).take j).filter fun v=>decide (V.int v≠fv)).length<=24:=by
       have h1:=List.length_filter_le (fun v=>decide (V.int v≠fv)) ((dQ m rs a).take j);rw [List.length_take] at h1;omega
     walk_at "rd";have sc:qc (V.int b) fv=true:=by
       rcases hf with rfl|⟨i,rfl⟩ <;> rfl
     refine ⟨sc,?_⟩;by_cases c:V.int b=fv
     . rw [if_neg (fun z=>z c)];refine hN _ _ _ ⟨s2,h2,?_,_,rfl⟩;rw [et,List.filter_append];simp [c]
     . rw [if_pos c];refine ⟨h2,dH (by rw [List.length_map];omega),hN _ _ _ ⟨s2.put n2 _,ah,?_,_,rfl⟩⟩;rw [et,List.filter_append];simp [c]
   . rintro ys σ H2 ⟨s2,h2,rfl,v,rfl⟩;rw [List.length_map,List.take_length] at h2;exact k l2 H2 n20 (s1.trans s2) h2
def uR (T:Txt K mg):Sp:=fun vs H Q E=>∃ (p t:Addr) (m:Int) (ps:List Addr) (rs:List Road) (r:Int),vs=[.ref p,.int r]/\WebAt T.Web H p m t ps rs /\
 (0<=r->r<m->∃ par dep,Rooted m rs r par dep/\∀ l H',H l=none->Same H H'->H' l=some (.lst (lV m r par))->Q (.ref l) H')/\(¬ (0<=r/\r<m)->E (.ref T.NoPlace) none H)
abbrev cF:Stmt:=top 25
theorem mH:FnScope ["web","r","nearer","waiting","place","front","kid"] ["web","r"] (aa cF):=FnScope.of (by kernel_rfl)
theorem pO:NmL (aa cF) "web":=.of (by kernel_rfl)
theorem AO:NmL (aa cF) "r":=.of (by kernel_rfl)
theorem jd:NmL (aa cF) "nearer":=.of (by kernel_rfl)
theorem hG:NmL (aa cF) "waiting":=.of (by kernel_rfl)
theorem jH:NmL (aa cF) "place":=.of (by kernel_rfl)
theorem sO:NmL (aa cF) "front":=.of (by kernel_rfl)
theorem p7:NmL (aa cF) "kid":=.of (by kernel_rfl)
theorem kZ:NmG (aa cF) "check_place":=.of (by kernel_rfl)
theorem ve:NmG (aa cF) "kids":=.of (by kernel_rfl)
theorem Op (T:Txt K mg) (hq:bd (CXe P w)) {f:Addr} {fd:FuncData} (D:Df K mg "ahead" cF ["web","r"] f fd) {bI:Addr} {c6:FuncData} (aK:Df K mg "check_place" bx ["web","number"] bI c6) (G_check_place:FnOk P w K mg base (CXe P w) 2 bI c6 ["web","number"] (jL T)) {gI:Addr} {kQ:FuncData} (eT:Df K mg "kids" fB ["web","place","front"] gI kQ) (G_kids:FnOk P w K mg base (CXe P w) 4 gI kQ ["web","place","front"] (xW T)):FnOk P w K mg base (CXe P w) 5 f fd ["web","r"] (uR T):=by
 refine D.F.okX mH (fun vs H Q E h=>?_) (fun cdv A outer s H vs Q E hr h=>?_)
 . obtain ⟨p,t,m,ps,rs,r,rfl,_⟩:=h
   rfl
 . obtain ⟨p,t,m,ps,rs,r,rfl,W,k,e⟩:=h;obtain ⟨dx,ob⟩:=W.ob;have g:=W.go;have m24:=g.m24;refine ⟨_,(aj (c8 (ax G_check_place (hr.mono (by decide)) kZ.g aK.m aK.F.kp aK.b .nil dI (ag (pvl 0 pO) (ag (pvl 1 AO) ao)) (hdb:=kZ.d))) (aj (az (i:=2) mH.nd rfl (Or.inl jd.l) (aw vX (eE (ag vT ao)) (di  (pvl 0 pO) rfl))) (aj (az (i:=3) mH.nd rfl (Or.inl hG.l) (eE (ag (pvl 1 AO) ao))) (aj (tM PassesOwn.leaving (zg (pvl 3 hG) (fun _=>rfl)) (aj (az (i:=4) mH.nd rfl (Or.inl jH.l) (F3 PySem.F.plainAttrs_list PySem.F.slot_list_pop PySem.F.type_list_pop FM (pvl 3 hG))) (aj (az (i:=5) mH.nd rfl (Or.inl sO.l) (bi bg (pvl 2 jd) (pvl 4 jH) (fun _ _=>rfl))) (au (dN PassesOwn.leaving rfl (jI (ax G_kids (hr.mono (by decide)) ve.g eT.m eT.F.kp eT.b .nil dI (ag (pvl 0 pO) (ag (pvl 4 jH) (ag (pvl 5 sO) ao))) (hdb:=ve.d))) (aI (i:=6) mH.nd rfl (Or.inl p7.l)) (aj (j7 (pvl 4 jH) (nh (pvl 2 jd) (pvl 6 p7) gd)) (au (c8 (oF PySem.F.plainAttrs_list PySem.F.slot_list_append PySem.F.type_list_append ff (pvl 3 hG) (ag (pvl 6 p7) ao)))))))))) (au (aU (pvl 2 jd))))))),?_⟩;rw [show L2.start ["web","r","nearer","waiting","place","front","kid"] [V.ref p,V.int r]=[some (V.ref p),some (V.int r),none,none,none,none,none] from rfl];walk_at "rd";refine ⟨p,t,m,ps,rs,r,rfl,W,fun r0 r1=>?_,e⟩;obtain ⟨par,dep,R,k⟩:=k r0 r1;refine ⟨by decide,fun l1 n1=>?_⟩;have s1:=Same.new (.lst [V.non]) n1;refine ⟨T.Web,dx,_,s1 _ _ ob,T.j2,T.n_many,_,rfl,?_⟩;refine ⟨l1,m,[V.non],rfl,rfl,ah,by omega,by omega,bE (by simp;omega),fun l2 n2=>?_⟩;have n20:H l2=none:=s1.free n2;rw [uA,<- R9 (par:=par)];have s2:=s1.trans (Same.new (.lst (nl m par [])) n2);refine ⟨bE (by simp),fun l3 n3=>?_⟩;have n30:H l3=none:=s2.free n3;have n32:l3≠l2:=fun z=>by rw [z,ah] at n3;cases n3
   have s3:=s2.trans (Same.new (.lst [V.int r]) n3);have e2:upd (upd (upd H l1 (.lst [V.non])) l2 (.lst (nl m par []))) l3 (.lst [V.int r]) l2=some (.lst (nl m par [])):=by rw [aq n32.symm,ah]
   have e3:upd (upd (upd H l1 (.lst [V.non])) l2 (.lst (nl m par []))) l3 (.lst [V.int r]) l3=some (.lst [V.int r]):=ah;generalize upd (upd (upd H l1 (.lst [V.non])) l2 (.lst (nl m par []))) l3 (.lst [V.int r])=H3 at s3 e2 e3 ⊢;refine Ht (fun n σ H4=>∃ (ks ws:List Int) (v4 v5 v6:Option V),n=2*(m.toNat - ks.length)+ws.length/\σ=[some (.ref p),some (.int r),some (.ref l2),some (.ref l3),v4,v5,v6]/\Same H H4/\H4 l2=some (.lst (nl m par ks))/\H4 l3=some (.lst (ws.map V.int))/\AInv m rs r par ks ws) (2*m.toNat+1) ⟨[],[r],_,_,_,rfl,rfl,s3,e2,e3,AInv.start⟩ ?_;rintro n σ H4 NW BB hBB hN hN2 ⟨ks,ws,v4,v5,v6,rfl,rfl,s4,h2,h3,J⟩;refine hBB _ _ _ ?_;have kl:=cM (by omega) J.nd J.rng;walk_at "rd";refine ⟨_,.inl ⟨_,SqL.of h3,rfl⟩,?_⟩;rcases List.eq_nil_or_concat ws with rfl|⟨ws',q,rfl⟩
   . rw [if_neg (by simp)];rw [J.done R] at h2;exact k l2 H4 n20 s4 h2
   . rw [List.concat_eq_append] at J h3 hN hN2 ⊢;rw [if_pos (by simp)];have hq:q∈ws'++[q]:=List.mem_append_right _ (List.mem_singleton.mpr rfl);have pr:=J.at_ r0 r1 hq;have J2:=J.step g R r0 r1 (p:=q) (ws':=ws') (List.perm_append_singleton q ws');refine ⟨NW,fun σ' H' z=>?_,?_⟩
     . obtain ⟨m',lt,ks',ws'',a4,a5,a6,e1,e2,e3⟩:=hN2 _ _ z;exact ⟨m',lt,ks',ws'',e1,a4,a5,a6,e2,e3⟩
     rw [List.map_append,List.map_cons,List.map_nil] at h3;refine ⟨tyL h3,Nh h3 ?_⟩;have s5:Same H (upd H4 l3 (.lst (ws'.map V.int))):=s4.put n30 _;have h25:upd H4 l3 (.lst (ws'.map V.int)) l2=some (.lst (nl m par ks)):=(by rw [aq n32.symm];exact h2);have h35:upd H4 l3 (.lst (ws'.map V.int)) l3=some (.lst (ws'.map V.int)):=ah;generalize upd H4 l3 (.lst (ws'.map V.int))=H5 at s5 h25 h35 ⊢;refine ixL h25 (gD pr.1 (LI pr.1 pr.2)) ?_;rw [J.front hq];have hfv:Pb.front r par q=.non\/∃ i,Pb.front r par q=.int i:=by
       unfold Pb.front;by_cases c:q=r
       . rw [if_pos c];exact .inl rfl
       . rw [if_neg c];exact .inr ⟨_,rfl⟩
     have mk:∀ v,v∈aG m rs (Pb.front r par q) q->(0<=v/\v<m)/\v≠r/\par v=q:=fun v=>(aO g R pr.1 pr.2).mp;refine ⟨p,t,m,ps,rs,q,_,rfl,W.same s5,pr.1,pr.2,hfv,fun l6 H6 n6 s6 e6=>⟨l6,rfl,⟨_,SqL.of e6⟩,?_⟩⟩;generalize aG m rs (Pb.front r par q) q=kk at mk e6 J2 ⊢;have n6':H l6=none:=s5.free n6;have n62:l6≠l2:=fun z=>by rw [z,h25] at n6;cases n6
     have n63:l6≠l3:=fun z=>by rw [z,h35] at n6;cases n6
     have kl2:=cM (by omega) J2.nd J2.rng;rw [List.length_append] at kl2;have wl2:=cM (by omega) J2.wnd fun w hw=>J2.at_ r0 r1 hw;rw [List.length_append] at wl2;refine m9 (K:=K) (xs:=kk.map V.int) (fun i σ H7=>∃ v6,σ=[some (.ref p),some (.int r),some (.ref l2),some (.ref l3),some (.int q),some (Pb.front r par q),v6]/\Same H H7/\H7 l6=some (.lst (kk.map V.int))/\H7 l2=some (.lst (nl m par (ks++kk.take i)))/\H7 l3=some (.lst ((ws'++kk.take i).map V.int))) ⟨_,rfl,s5.trans s6,e6,by rw [List.take_zero,List.append_nil];exact s6 _ _ h25,by rw [List.take_zero,List.append_nil];exact s6 _ _ h35⟩ (fun i σ H7 _ z=>by obtain ⟨_,_,_,z,_⟩:=z;exact SqL.of z) ?_ ?_
     . rintro i x σ H7 NI BB hBB hI hi ⟨v6,rfl,s7,e7,h27,h37⟩;refine hBB _ _ ?_;rw [List.getElem?_map] at hi;obtain ⟨v,hv,rfl⟩:=Option.map_eq_some_iff.mp hi;obtain ⟨vr,_,vp⟩:=mk v (List.mem_of_getElem? hv);have et:kk.take (i+1)=kk.take i++[v]:=(by rw [List.take_succ,hv];rfl);walk_at "rd";refine ⟨l2,_,v,v.toNat,rfl,rfl,h27,by unfold ixN;rw [if_pos vr.1,if_pos (by rw [qH];omega)],?_⟩;rw [<- vp,RO vr.1 vr.2,vp,List.append_assoc,<- et];have h38:upd H7 l2 (.lst (nl m par (ks++kk.take (i+1)))) l3=some (.lst ((ws'++kk.take i).map V.int)):=(by rw [aq n32];exact h37);have wlen:(ws'++kk.take i).length<=100:=by
         rw [List.length_append,List.length_take];omega
       refine ⟨tyL h38,sW h38 (dH (by rw [List.length_map];omega)) (hI _ _ ⟨_,rfl,(s7.put n20 _).put n30 _,?_,?_,?_⟩)⟩
       . rw [aq n63,aq n62];exact e7
       . rw [aq n32.symm,ah]
       . rw [ah,et,<- List.append_assoc,List.map_append (l₁:=ws'++kk.take i)];rfl
     . rintro BB σ H7 hBB ⟨v6,rfl,s7,e7,h27,h37⟩;refine hBB _ _ ?_;rw [List.length_map,List.take_length] at h27 h37;refine hN _ _ _ ?_ ⟨_,_,_,_,_,rfl,rfl,s7,h27,h37,J2⟩;rw [List.length_append,List.length_append,List.length_append];simp only [List.length_cons,List.length_nil];omega
def pB (T:Txt K mg):Sp:=fun vs H Q _=>∃ (a b:Addr) (xs ys:List Int),vs=[.ref a,.ref b]/\H a=some (.lst (xs.map V.int))/\H b=some (.lst (ys.map V.int))/\xs.length<=1000/\∀ l H',H l=none->Same H H'->H' l=some (.lst ((iL xs ys).map V.int))->Q (.ref l) H'
abbrev eK:Stmt:=top 40
theorem NO:FnScope ["one","other"] ["one","other"] (aa eK):=FnScope.of (by kernel_rfl)
theorem Fv:NmL (aa eK) "one":=.of (by kernel_rfl)
theorem Cm:NmL (aa eK) "other":=.of (by kernel_rfl)
theorem Fp:NmG (aa eK) "zip":=.of (by kernel_rfl)
theorem MW (T:Txt K mg) (hq:bd (CXe P w)) {f:Addr} {fd:FuncData} (D:Df K mg "added" eK ["one","other"] f fd):FnOk P w K mg base (CXe P w) 1 f fd ["one","other"] (pB T):=by
 refine D.F.okC NO (fun vs H Q E h=>?_) (fun cdv A outer s H vs Q E hr h=>?_)
 . obtain ⟨a,b,xs,ys,rfl,_⟩:=h
   rfl
 . obtain ⟨a,b,xs,ys,rfl,ha,hb,hz,k⟩:=h;refine ⟨_,(au (aU (oJ rfl (zh (Nc:=["left","right"]) 2 (by decide +kernel) (by decide +kernel) rfl (by decide +kernel) rfl) (RF true true Fp.g T.zip (ag (pvl 0 Fv) (ag (pvl 1 Cm) ao))) (fun _ _ _ _=>(HG K rfl (n:=2) rfl (bF (aI (i:=0) (show (["left","right"]:List Str).Nodup from by decide +kernel) rfl (Or.inl rfl)) (bF (aI (i:=1) (show (["left","right"]:List Str).Nodup from by decide +kernel) rfl (Or.inl rfl)) jR)))) (fun _ _ _ _=>sD) (fun _ _ _ _=>(aw cu (pv 0) (pv 1)))))),?_⟩;rw [show L2.start ["one","other"] [V.ref a,V.ref b]=[some (V.ref a),some (V.ref b)] from rfl];walk_at "rd";refine ⟨a,b,⟨rfl,rfl⟩,⟨_,SqL.of ha⟩,⟨_,SqL.of hb⟩,fun p hp=>?_⟩;refine MK (K:=K) (c:=true) (d:=true) (xs:=xs.map V.int) (zs:=ys.map V.int) (fun i bs σ H2=>Same H H2/\H2 p=some (.lst bs)/\bs=(((xs.zip ys).take i).map fun q=>q.1+q.2).map V.int/\∃ v w,σ=[v,w]) ⟨Same.new _ hp,ah,rfl,_,_,rfl⟩ (fun i bs σ H2 z=>⟨SqL.of (z.1 _ _ ha),SqL.of (z.1 _ _ hb)⟩) ?_ ?_
   . rintro i x z bs σ H2 q N hN hx hz' ⟨s2,e2,rfl,v,w,rfl⟩ hq;rw [List.getElem?_map] at hx hz';obtain ⟨x,gx,rfl⟩:=Option.map_eq_some_iff.mp hx;obtain ⟨z,gz,rfl⟩:=Option.map_eq_some_iff.mp hz';have s3:=Same.new (.tup [V.int x,V.int z]) hq;have hix:=(List.getElem?_eq_some_iff.mp gx).1;walk_at "rd";refine ⟨_,SqT.of ah,rfl,_,_,rfl,_,_,rfl,rfl,?_⟩;walk_at "rd";refine ⟨s3 _ _ e2,dH (by simp;omega),hN _ _ _ ⟨(s2.trans s3).put hp _,ah,?_,_,_,rfl⟩⟩;have hzz:(xs.zip ys)[i]?=some (x,z):=(by rw [List.getElem?_zip_eq_some];exact ⟨gx,gz⟩);rw [List.take_succ,hzz,List.map_append,List.map_append]
     rfl
   . rintro bs σ H2 ⟨s2,e2,rfl,v,w,rfl⟩;have e:(((xs.zip ys).take (min (xs.map V.int).length (ys.map V.int).length)).map fun q=>q.1+q.2)=iL xs ys:=by
       rw [List.take_of_length_le (by rw [List.length_zip,List.length_map,List.length_map];exact Nat.le_refl _)];unfold iL;rw [List.zip,List.map_zipWith]
     rw [e] at e2;exact k p H2 hp s2 e2
/-- the fields of an outlook -/
def jQ (p na ka ia:Addr):List (Str × V):=aV "idle" (.ref ia) (aV "kids" (.ref ka) (aV "needs" (.ref na) (aV "web" (.ref p) [])))
theorem qE (p na ka ia:Addr):(jQ p na ka ia).lookup ("web":Str)=some (.ref p):=by
 unfold jQ;rw [bO,if_neg (by decide +kernel),bO,if_neg (by decide +kernel),bO,if_neg (by decide +kernel),bO,if_pos rfl]
theorem q9 (p na ka ia:Addr):(jQ p na ka ia).lookup ("needs":Str)=some (.ref na):=by
 unfold jQ;rw [bO,if_neg (by decide +kernel),bO,if_neg (by decide +kernel),bO,if_pos rfl]
theorem A2 (p na ka ia:Addr):(jQ p na ka ia).lookup ("kids":Str)=some (.ref ka):=by
 unfold jQ;rw [bO,if_neg (by decide +kernel),bO,if_pos rfl]
theorem zO (p na ka ia:Addr):(jQ p na ka ia).lookup ("idle":Str)=some (.ref ia):=by
 unfold jQ;rw [bO,if_pos rfl]
/-- the web as seen from r,at o: the needs at na,the rows of kids kl at ka,the idle loads of the places of S at ia -/
structure OutAt (C O:Addr) (H:Hp) (o p t:Addr) (m:Int) (ps:List Addr) (rs:List Road) (r:Int) (par:Int->Int) (dep:Int->Nat) (nd:Int->Int) (na ka ia:Addr) (kl:List Addr) (bs:List V) (S:Int->Prop):Prop where
 ob:∃ dx,H o=some (.ins O dx (jQ p na ka ia))
 web:WebAt C H p m t ps rs
 rt:Rooted m rs r par dep
 hn:H na=some (.lst (((below m.toNat).map nd).map V.int))
 hk:H ka=some (.lst (kl.map V.ref))
 kp:Paired (fun a v=>H a=some (.lst ((kd m rs r par v).map V.int))) kl (below m.toNat)
 hi:H ia=some (.lst bs)
 done:∀ c,S c->∃ a,atI bs c=some (.ref a)/\H a=some (.lst ((idl m rs r par dep nd c).map V.int))
 cl:∀ u,0<=u->u<m->S u->∀ c∈kd m rs r par u,S c
theorem OutAt.same {C O:Addr} {H H':Hp} {o p t:Addr} {m:Int} {ps:List Addr} {rs:List Road} {r:Int} {par:Int->Int} {dep:Int->Nat} {nd:Int->Int} {na ka ia:Addr} {kl:List Addr} {bs:List V} {S:Int->Prop} (e:Same H H') (h:OutAt C O H o p t m ps rs r par dep nd na ka ia kl bs S):OutAt C O H' o p t m ps rs r par dep nd na ka ia kl bs S where
 ob:=let ⟨dx,q⟩:=h.ob;⟨dx,e _ _ q⟩
 web:=h.web.same e
 rt:=h.rt
 hn:=e _ _ h.hn
 hk:=e _ _ h.hk
 kp:=Paired.imp' (fun q v x=>e q _ x) h.kp
 hi:=e _ _ h.hi
 done:=fun c hc=>let ⟨a,h1,h2⟩:=h.done c hc;⟨a,h1,e _ _ h2⟩
 cl:=h.cl
theorem OutAt.kids {C O:Addr} {H:Hp} {o p t:Addr} {m:Int} {ps:List Addr} {rs:List Road} {r:Int} {par:Int->Int} {dep:Int->Nat} {nd:Int->Int} {na ka ia:Addr} {kl:List Addr} {bs:List V} {S:Int->Prop} (h:OutAt C O H o p t m ps rs r par dep nd na ka ia kl bs S) {v:Int} (v0:0<=v) (v1:v<m):∃ a,atI (kl.map V.ref) v=some (.ref a)/\H a=some (.lst ((kd m rs r par v).map V.int)):=by
 obtain ⟨a,ha,hv⟩:=EO h.kp (CA v0 v1);exact ⟨a,gD v0 (by rw [List.getElem?_map,ha];rfl),hv⟩
theorem SQ {m:Int} {rs:List Road} (g:Good m rs) {r:Int} {par:Int->Int} {v:Int}:(kd m rs r par v).length<=24:=by
 have h1:=List.length_filter_le (fun u=>decide (V.int u≠front r par v)) (dQ m rs v);have h2:=List.length_filter_le (fun q=>decide (q∈b6 rs v)) (below m.toNat);rw [bh] at h2;have:=g.m24;show ((dQ m rs v).filter fun u=>decide (V.int u≠front r par v)).length<=24;unfold dQ at h1 ⊢;omega
def jA (T:Txt K mg):Sp:=fun vs H Q _=>∃ (o p t:Addr) (m:Int) (ps:List Addr) (rs:List Road) (r:Int) (par:Int->Int) (dep:Int->Nat) (nd:Int->Int) (na ka ia:Addr) (kl:List Addr) (bs:List V) (S:Int->Prop) (v:Int) (x:V),vs=[.ref o,.int v,x]/\OutAt T.Web T.Outlook H o p t m ps rs r par dep nd na ka ia kl bs S/\(0<=v/\v<m)/\(x=.non\/∃ i,x=.int i)/\(∀ c∈kd m rs r par v,S c) /\
 ∀ l H',H l=none->Same H H'->H' l=some (.lst ((idK m rs r par (idl m rs r par dep nd) v x).map V.int))->Q (.ref l) H'
abbrev bq:Stmt:=top 39
theorem lX:FnScope ["outlook","place","left_out","load","kid"] ["outlook","place","left_out"] (aa bq):=FnScope.of (by kernel_rfl)
theorem hV:NmL (aa bq) "outlook":=.of (by kernel_rfl)
theorem wa:NmL (aa bq) "place":=.of (by kernel_rfl)
theorem r9:NmL (aa bq) "left_out":=.of (by kernel_rfl)
theorem gA:NmL (aa bq) "load":=.of (by kernel_rfl)
theorem kj:NmL (aa bq) "kid":=.of (by kernel_rfl)
theorem ni:NmG (aa bq) "added":=.of (by kernel_rfl)
theorem El (T:Txt K mg) (hq:bd (CXe P w)) {f:Addr} {fd:FuncData} (D:Df K mg "idle_kids" bq ["outlook","place","left_out"] f fd) {dC:Addr} {fA:FuncData} (dP:Df K mg "added" eK ["one","other"] dC fA) (G_added:FnOk P w K mg base (CXe P w) 1 dC fA ["one","other"] (pB T)):FnOk P w K mg base (CXe P w) 2 f fd ["outlook","place","left_out"] (jA T):=by
 refine D.F.okC lX (fun vs H Q E h=>?_) (fun cdv A outer s H vs Q E hr h=>?_)
 . obtain ⟨o,p,t,m,ps,rs,r,par,dep,nd,na,ka,ia,kl,bs,S,v,x,rfl,_⟩:=h
   rfl
 . obtain ⟨o,p,t,m,ps,rs,r,par,dep,nd,na,ka,ia,kl,bs,S,v,x,rfl,O,vr,hx,hS,k⟩:=h;have g:=O.web.go;have R:=O.rt;have m24:=g.m24;obtain ⟨dx,ob⟩:=O.ob;obtain ⟨dw,wb⟩:=O.web.ob;refine ⟨_,(aj (az (i:=3) lX.nd rfl (Or.inl gA.l) (aw vX (eE (ag ap ao)) (di  (di  (pvl 0 hV) rfl) rfl))) (aj (dN PassesOwn.never rfl (jI (bi bg (di  (pvl 0 hV) rfl) (pvl 1 wa) (fun _ _=>rfl))) (aI (i:=4) lX.nd rfl (Or.inl kj.l)) (au (bU (aR sV (pvl 4 kj) (pvl 2 r9) (aX _)) (au (az (i:=3) lX.nd rfl (Or.inl gA.l) (ax G_added (hr.mono (by decide)) ni.g dP.m dP.F.kp dP.b .nil (aN hq) (ag (pvl 3 gA) (ag (bi bg (di  (pvl 0 hV) rfl) (pvl 4 kj) (fun _ _=>rfl)) ao)) (hdb:=ni.d)))) bj))) (au (aU (pvl 3 gA))))),?_⟩;rw [show L2.start ["outlook","place","left_out","load","kid"] [V.ref o,V.int v,x]=[some (V.ref o),some (V.int v),some x,none,none] from rfl];walk_at "rd";refine ⟨by decide,fun l1 n1=>?_⟩;have s1:=Same.new (.lst [V.int 0]) n1;refine ⟨T.Outlook,dx,_,s1 _ _ ob,T.b4,T.n_web,_,qE _ _ _ _,p,rfl,?_⟩;refine ⟨T.Web,dw,_,s1 _ _ wb,T.j2,T.n_many,_,lO _ _,?_⟩;refine ⟨l1,m,[V.int 0],rfl,rfl,ah,by omega,by omega,bE (by simp;omega),fun l2 n2=>?_⟩;rw [uA,<- Hj];have s2:=s1.trans (Same.new (.lst ((zrs m).map V.int)) n2);have n20:H l2=none:=s1.free n2;have e2:upd (upd H l1 (.lst [V.int 0])) l2 (.lst ((zrs m).map V.int)) l2=some (.lst ((zrs m).map V.int)):=ah;generalize upd (upd H l1 (.lst [V.int 0])) l2 (.lst ((zrs m).map V.int))=H2 at s2 e2 ⊢;obtain ⟨ak,hak,hkk⟩:=O.kids vr.1 vr.2;refine ⟨T.Outlook,dx,_,s2 _ _ ob,T.b4,T.ET,_,A2 _ _ _ _,ixL (s2 _ _ O.hk) hak ⟨ak,rfl,⟨_,SqL.of (s2 _ _ hkk)⟩,?_⟩⟩;have kr:∀ c∈kd m rs r par v,0<=c/\c<m:=fun c hc=>((aO g R vr.1 vr.2).mp hc).1;refine m9 (K:=K) (xs:=(kd m rs r par v).map V.int) (fun i σ H3=>Same H H3/\∃ (l:Addr) (v5:Option V),H l=none/\H3 l=some (.lst ((ow m ((((kd m rs r par v).take i).filter fun k=>decide (V.int k≠x)).map (idl m rs r par dep nd))).map V.int))/\σ=[some (V.ref o),some (V.int v),some x,some (V.ref l),v5]) ⟨s2,l2,_,n20,e2,rfl⟩ (fun i σ H3 _ z=>SqL.of (z.1 _ _ hkk)) ?_ ?_
   . rintro i y σ H3 N BB hBB hN hy ⟨s3,l,v5,nl,el,rfl⟩;refine hBB _ _ ?_;rw [List.getElem?_map] at hy;obtain ⟨c,hc,rfl⟩:=Option.map_eq_some_iff.mp hy;have cm:c∈kd m rs r par v:=List.mem_of_getElem? hc;have et:(kd m rs r par v).take (i+1)=(kd m rs r par v).take i++[c]:=(by rw [List.take_succ,hc];rfl);walk_at "rd";have sc:qc (V.int c) x=true:=by
       rcases hx with rfl|⟨i,rfl⟩ <;> rfl
     refine ⟨sc,?_⟩;by_cases cx:V.int c=x
     . rw [if_neg (fun z=>z cx)];refine hN _ _ ⟨s3,l,_,nl,?_,rfl⟩;rw [et,List.filter_append]
       simpa [cx] using el
     . rw [if_pos cx];obtain ⟨ai,h1,h2⟩:=O.done c (hS c cm);refine ⟨T.Outlook,dx,_,s3 _ _ ob,T.b4,T.n_idle,_,zO _ _ _ _,ixL (s3 _ _ O.hi) h1 ?_⟩;have ll:(ow m ((((kd m rs r par v).take i).filter fun k=>decide (V.int k≠x)).map (idl m rs r par dep nd))).length=m.toNat:=wy _ _ (rY m) fun y hy=>by
         obtain ⟨k,hk,rfl⟩:=List.mem_map.mp hy;have:=kr k (List.mem_of_mem_take (List.mem_filter.mp hk).1);exact sL g R this.1 this.2
       refine ⟨l,ai,_,_,rfl,el,s3 _ _ h2,by omega,fun l4 H4 n4 s4 e4=>hN _ _ ⟨s3.trans s4,l4,_,s3.free n4,?_,rfl⟩⟩;rw [et,List.filter_append,List.filter_cons_of_pos (by simpa using cx),List.filter_nil,List.map_append,List.map_cons,List.map_nil,Jm];exact e4
   . rintro BB σ H3 hBB ⟨s3,l,v5,nl,el,rfl⟩;refine hBB _ _ ?_;rw [List.length_map,List.take_length] at el;walk_at "rd";exact k l H3 nl s3 el
def oO (T:Txt K mg):Sp:=fun vs H Q E=>∃ (p t:Addr) (m:Int) (ps:List Addr) (rs:List Road) (a b:Int),vs=[.ref p,.int a,.int b]/\WebAt T.Web H p m t ps rs /\
 (∀ k,0<=a->a<m->0<=b->b<m->aH rs a b=some k->Q (.int k) H)/\(¬ ((0<=a/\a<m)/\(0<=b/\b<m))->E (.ref T.NoPlace) none H)/\(0<=a->a<m->0<=b->b<m->aH rs a b=none->E (.ref T.NoRoad) none H)
abbrev cS:Stmt:=top 12
theorem rR:FnScope ["web","a","b","one","other","there","back"] ["web","a","b"] (aa cS):=FnScope.of (by kernel_rfl)
theorem rH:NmL (aa cS) "web":=.of (by kernel_rfl)
theorem xf:NmL (aa cS) "a":=.of (by kernel_rfl)
theorem wN:NmL (aa cS) "b":=.of (by kernel_rfl)
theorem rz:NmL (aa cS) "one":=.of (by kernel_rfl)
theorem nQ:NmL (aa cS) "other":=.of (by kernel_rfl)
theorem vc:NmL (aa cS) "there":=.of (by kernel_rfl)
theorem wU:NmL (aa cS) "back":=.of (by kernel_rfl)
theorem fJ:NmG (aa cS) "check_place":=.of (by kernel_rfl)
theorem si:NmG (aa cS) "NoRoad":=.of (by kernel_rfl)
theorem P9 (T:Txt K mg) (hq:bd (CXe P w)) {f:Addr} {fd:FuncData} (D:Df K mg "toll" cS ["web","a","b"] f fd) {bI:Addr} {c6:FuncData} (aK:Df K mg "check_place" bx ["web","number"] bI c6) (G_check_place:FnOk P w K mg base (CXe P w) 2 bI c6 ["web","number"] (jL T)):FnOk P w K mg base (CXe P w) 3 f fd ["web","a","b"] (oO T):=by
 refine D.F.okX rR (fun vs H Q E h=>?_) (fun cdv A outer s H vs Q E hr h=>?_)
 . obtain ⟨p,t,m,ps,rs,a,b,rfl,_⟩:=h
   rfl
 . obtain ⟨p,t,m,ps,rs,a,b,rfl,W,k,e1,e2⟩:=h;obtain ⟨dx,ob⟩:=W.ob;refine ⟨_,(aj (c8 (ax G_check_place (hr.mono (by decide)) fJ.g aK.m aK.F.kp aK.b .nil dI (ag (pvl 0 rH) (ag (pvl 1 xf) ao)) (hdb:=fJ.d))) (aj (c8 (ax G_check_place (hr.mono (by decide)) fJ.g aK.m aK.F.kp aK.b .nil dI (ag (pvl 0 rH) (ag (pvl 2 wN) ao)) (hdb:=fJ.d))) (aj (dN PassesOwn.leaving rfl (wV (di  (pvl 0 rH) rfl)) (nu (n:=4) rfl (bF (aI (i:=3) rR.nd rfl (Or.inl rz.l)) (bF (aI (i:=4) rR.nd rfl (Or.inl nQ.l)) (bF (aI (i:=5) rR.nd rfl (Or.inl vc.l)) (bF (aI (i:=6) rR.nd rfl (Or.inl wU.l)) jR))))) (aj (bU (PW.pt (oY (aR fL (pvl 3 rz) (pvl 1 xf) (aX _)) (oN (aR fL (pvl 4 nQ) (pvl 2 wN) (aX _))))) (au (aU (pvl 5 vc))) bj) (au (bU (PW.pt (oY (aR fL (pvl 3 rz) (pvl 2 wN) (aX _)) (oN (aR fL (pvl 4 nQ) (pvl 1 xf) (aX _))))) (au (aU (pvl 6 wU))) bj)))) (au (uD T.L9 rfl xR si.g T.Mn (ag Al ao) (hdb:=si.d)))))),?_⟩;rw [show L2.start ["web","a","b","one","other","there","back"] [V.ref p,V.int a,V.int b]=[some (V.ref p),some (V.int a),some (V.int b),none,none,none,none] from rfl];walk_at "rd";refine ⟨p,t,m,ps,rs,a,rfl,W,fun a0 a1=>?_,fun z=>e1 fun w=>z w.1⟩;refine ⟨p,t,m,ps,rs,b,rfl,W,fun b0 b1=>?_,fun z=>e1 fun w=>z w.2⟩;refine ⟨T.Web,dx,_,ob,T.j2,T.n_roads,_,yC m t,t,rfl,⟨_,SqT.of W.tu⟩,?_⟩;have hlen:ps.length=rs.length:=Paired.length W.ro;refine DK (K:=K) (xs:=ps.map V.ref) (fun i σ H2=>H2=H/\aH (rs.take i) a b=none/\∃ v1 v2 v3 v4,σ=[some (V.ref p),some (V.int a),some (V.int b),v1,v2,v3,v4]) ⟨rfl,rfl,_,_,_,_,rfl⟩ (fun i σ H2 _ z=>by rw [z.1];exact SqT.of W.tu) ?_ ?_
   . rintro i x σ H2 N hN hx ⟨rfl,hno,v1,v2,v3,v4,rfl⟩;obtain ⟨q,r,rfl,h1,h2,h3⟩:=W.ro.get hx;have et:rs.take (i+1)=rs.take i++[r]:=(by rw [List.take_succ,h2];rfl);have split:aH rs a b=(aH (rs.take i) a b).or ((dE a b r).or (aH (rs.drop (i+1)) a b)):=by
       have:rs=rs.take i++r::rs.drop (i+1):=by
         have hil:i<rs.length:=(List.getElem?_eq_some_iff.mp h2).1;have e:rs[i]=r:=(by rw [List.getElem?_eq_getElem hil] at h2;exact Option.some.inj h2);rw [<- e,List.getElem_cons_drop,List.take_append_drop]
       conv=>lhs;rw [this]
       unfold aH;rw [List.findSome?_append,List.findSome?_cons];cases dE a b r <;> rfl
     rw [hno,Option.none_or] at split;walk_at "rd";refine ⟨_,SqT.of h3,rfl,_,_,rfl,_,_,rfl,_,_,rfl,_,_,rfl,rfl,?_⟩;walk_at "rd";have next:dE a b r=none->N [some (V.ref p),some (V.int a),some (V.int b),some (V.int r.a),some (V.int r.b),some (V.int r.t),some (V.int r.u)] H2:=fun z=>hN _ _ ⟨rfl,by
       rw [et];unfold aH at hno ⊢;rw [List.findSome?_append,hno,List.findSome?_cons,z]
       rfl,_,_,_,_,rfl⟩
     have got:∀ v,dE a b r=some v->aH rs a b=some v:=fun v z=>by rw [split,z];rfl
     unfold dE at next got;split
     . rename_i c1
       split
       . rename_i c2
         exact k _ a0 a1 b0 b1 (got _ (by rw [if_pos ⟨c1,c2⟩]))
       . rename_i c2
         split
         . rename_i c3
           split
           . rename_i c4
             exact k _ a0 a1 b0 b1 (got _ (by rw [if_neg (fun z=>c2 z.2),if_pos ⟨c3,c4⟩]))
           . rename_i c4
             exact next (by rw [if_neg (fun z=>c2 z.2),if_neg (fun z=>c4 z.2)])
         . rename_i c3
           exact next (by rw [if_neg (fun z=>c2 z.2),if_neg (fun z=>c3 z.1)])
     . rename_i c1
       split
       . rename_i c3
         split
         . rename_i c4
           exact k _ a0 a1 b0 b1 (got _ (by rw [if_neg (fun z=>c1 z.1),if_pos ⟨c3,c4⟩]))
         . rename_i c4
           exact next (by rw [if_neg (fun z=>c1 z.1),if_neg (fun z=>c4 z.2)])
       . rename_i c3
         exact next (by rw [if_neg (fun z=>c1 z.1),if_neg (fun z=>c3 z.1)])
   . rintro σ H2 ⟨rfl,hno,v1,v2,v3,v4,rfl⟩;rw [List.length_map,hlen,List.take_length] at hno;walk_at "rd";exact ⟨by decide,e2 a0 a1 b0 b1 hno⟩
def qd (T:Txt K mg):Sp:=fun vs H Q _=>∃ (p:Addr) (ns:List Int),vs=[.ref p]/\(SqL K H p (ns.map V.int)\/SqT K H p (ns.map V.int))/\Q (.int ns.sum) H
abbrev fw:Stmt:=top 23
theorem OD:FnScope ["numbers"] ["numbers"] (aa fw):=FnScope.of (by kernel_rfl)
theorem zB:NmL (aa fw) "numbers":=.of (by kernel_rfl)
theorem qi:NmG (aa fw) "sum":=.of (by kernel_rfl)
theorem OG (T:Txt K mg) (hq:bd (CXe P w)) {f:Addr} {fd:FuncData} (D:Df K mg "total" fw ["numbers"] f fd):FnOk P w K mg base (CXe P w) 1 f fd ["numbers"] (qd T):=by
 refine D.F.okC OD (fun vs H Q E h=>?_) (fun cdv A outer s H vs Q E hr h=>?_)
 . obtain ⟨p,ns,rfl,_⟩:=h
   rfl
 . obtain ⟨p,ns,rfl,hp,k⟩:=h;refine ⟨_,(au (aU (cJ (D9 rfl) qi.g T.sum La (ag (pvl 0 zB) ao) (hn:=qi.n) (hdb:=qi.d)))),?_⟩;rw [show L2.start ["numbers"] [V.ref p]=[some (V.ref p)] from rfl];walk_at "rd";exact ⟨ns,hp,k⟩
def jX (T:Txt K mg):Nat->Sp
 | 0=>fun _ _ _ _=>False
 | n+1=>fun vs H Q _=>∃ (o p t:Addr) (m:Int) (ps:List Addr) (rs:List Road) (r:Int) (par:Int->Int) (dep:Int->Nat) (nd:Int->Int) (na ka ia:Addr) (kl:List Addr) (bs:List V) (S:Int->Prop) (v y:Int),vs=[.ref o,.int v,.int y]/\OutAt T.Web T.Outlook H o p t m ps rs r par dep nd na ka ia kl bs S/\(0<=v/\v<m)/\m.toNat<=dep v+1+n/\(∀ c∈kd m rs r par v,S c) /\
   ∀ l H',H l=none->Same H H'->H' l=some (.lst ((gld m rs r par dep nd v y).map V.int))->Q (.ref l) H'
def kI (T:Txt K mg):Sp:=jX T 25
def Gz (T:Txt K mg):Nat->Sp
 | 0=>fun _ _ _ _=>False
 | n+1=>fun vs H Q _=>∃ (o p t:Addr) (m:Int) (ps:List Addr) (rs:List Road) (r:Int) (par:Int->Int) (dep:Int->Nat) (nd:Int->Int) (na ka ia:Addr) (kl:List Addr) (bs:List V) (S:Int->Prop) (v c y:Int),vs=[.ref o,.int v,.int c,.int y]/\OutAt T.Web T.Outlook H o p t m ps rs r par dep nd na ka ia kl bs S/\(0<=v/\v<m)/\c∈kd m rs r par v/\m.toNat<=dep c+1+n/\(∀ c∈kd m rs r par v,S c) /\
   ∀ l H',H l=none->Same H H'->H' l=some (.lst ((byK m rs r par nd (idl m rs r par dep nd) (gld m rs r par dep nd) v y c).map V.int))->Q (.ref l) H'
abbrev aB:Stmt:=top 41
theorem cW:FnScope ["outlook","place","over","room","best","kid","load"] ["outlook","place","over"] (aa aB):=FnScope.of (by kernel_rfl)
theorem dj:NmL (aa aB) "outlook":=.of (by kernel_rfl)
theorem cU:NmL (aa aB) "place":=.of (by kernel_rfl)
theorem se:NmL (aa aB) "over":=.of (by kernel_rfl)
theorem gO:NmL (aa aB) "room":=.of (by kernel_rfl)
theorem cZ:NmL (aa aB) "best":=.of (by kernel_rfl)
theorem lW:NmL (aa aB) "kid":=.of (by kernel_rfl)
theorem gF:NmL (aa aB) "load":=.of (by kernel_rfl)
theorem ik:NmG (aa aB) "idle_kids":=.of (by kernel_rfl)
theorem jC:NmG (aa aB) "load_by":=.of (by kernel_rfl)
theorem d8:NmG (aa aB) "total":=.of (by kernel_rfl)
abbrev bJ:Stmt:=top 42
theorem tU:FnScope ["outlook","place","kid","room","given","over"] ["outlook","place","kid","room"] (aa bJ):=FnScope.of (by kernel_rfl)
theorem eF:NmL (aa bJ) "outlook":=.of (by kernel_rfl)
theorem ku:NmL (aa bJ) "place":=.of (by kernel_rfl)
theorem gJ:NmL (aa bJ) "kid":=.of (by kernel_rfl)
theorem An:NmL (aa bJ) "room":=.of (by kernel_rfl)
theorem pi:NmL (aa bJ) "given":=.of (by kernel_rfl)
theorem qC:NmL (aa bJ) "over":=.of (by kernel_rfl)
theorem iX:NmG (aa bJ) "toll":=.of (by kernel_rfl)
theorem o9:NmG (aa bJ) "added":=.of (by kernel_rfl)
theorem jk:NmG (aa bJ) "greatest_load":=.of (by kernel_rfl)
theorem lP:NmG (aa bJ) "idle_kids":=.of (by kernel_rfl)
theorem GN (T:Txt K mg) (hq:bd (CXe P w)) {f:Addr} {fd:FuncData} (D:Df K mg "load_by" bJ ["outlook","place","kid","room"] f fd) {dC:Addr} {fA:FuncData} (dP:Df K mg "added" eK ["one","other"] dC fA) (G_added:FnOk P w K mg base (CXe P w) 1 dC fA ["one","other"] (pB T)) {bC:Addr} {cj:FuncData} (bo:Df K mg "idle_kids" bq ["outlook","place","left_out"] bC cj) (G_idle_kids:FnOk P w K mg base (CXe P w) 2 bC cj ["outlook","place","left_out"] (jA T)) {dg:Addr} {eJ:FuncData} (cw:Df K mg "toll" cS ["web","a","b"] dg eJ) (G_toll:FnOk P w K mg base (CXe P w) 3 dg eJ ["web","a","b"] (oO T)) {bn:Addr} {cg:FuncData} (D_greatest_load:Df K mg "greatest_load" aB ["outlook","place","over"] bn cg) {n N:Nat} (hN:3<=N) (G_greatest_load:FnOk P w K mg base (CXe P w) N bn cg ["outlook","place","over"] (jX T n)):FnOk P w K mg base (CXe P w) (N+1) f fd ["outlook","place","kid","room"] (Gz T n):=by
 refine D.F.okC tU (fun vs H Q E h=>?_) (fun cdv A outer s H vs Q E hr h=>?_)
 . cases n with
   | zero=>exact h.elim
   | succ n =>
   obtain ⟨o,p,t,m,ps,rs,r,par,dep,nd,na,ka,ia,kl,bs,S,v,c,y,rfl,_⟩:=h
   rfl
 . cases n with
   | zero=>exact h.elim
   | succ n =>
   obtain ⟨o,p,t,m,ps,rs,r,par,dep,nd,na,ka,ia,kl,bs,S,v,c,y,rfl,O,vr,cm,fu,hS,k⟩:=h;have g:=O.web.go;have R:=O.rt;have m24:=g.m24;obtain ⟨dx,ob⟩:=O.ob;obtain ⟨⟨cr,cn,cp⟩,_,_⟩:=cH g R vr.1 vr.2 cm;obtain ⟨k1,hk1,a0,a1⟩:=r6 g R cr.1 cr.2 cn;obtain ⟨k2,hk2,b0,b1⟩:=sG g R cr.1 cr.2 cn;have e1:dnT rs par c=k1:=by unfold dnT;rw [hk1];rfl
   have e2:upT rs par c=k2:=by unfold upT;rw [hk2];rfl
   rw [cp] at hk1 hk2;refine ⟨_,(aj (az (i:=4) tU.nd rfl (Or.inl pi.l) (aw lJ (pvl 3 An) (aw jq (bi bg (di  (pvl 0 eF) rfl) (pvl 2 gJ) (fun _ _=>rfl)) (ax G_toll (hr.mono (by omega)) iX.g cw.m cw.F.kp cw.b .nil (aN hq) (ag (di  (pvl 0 eF) rfl) (ag (pvl 1 ku) (ag (pvl 2 gJ) ao))) (hdb:=iX.d))))) (aj (az (i:=5) tU.nd rfl (Or.inl qC.l) (aw lJ (aw jq (ax G_toll (hr.mono (by omega)) iX.g cw.m cw.F.kp cw.b .nil (aN hq) (ag (di  (pvl 0 eF) rfl) (ag (pvl 2 gJ) (ag (pvl 1 ku) ao))) (hdb:=iX.d)) (aw cu (pvl 4 pi) ap)) ap)) (au (aU (ax G_added (hr.mono (by omega)) o9.g dP.m dP.F.kp dP.b .nil (aN hq) (ag (ax G_greatest_load (hr.mono (by omega)) jk.g D_greatest_load.m D_greatest_load.F.kp D_greatest_load.b .nil (aN hq) (ag (pvl 0 eF) (ag (pvl 2 gJ) (ag (pvl 5 qC) ao))) (hdb:=jk.d)) (ag (ax G_idle_kids (hr.mono (by omega)) lP.g bo.m bo.F.kp bo.b .nil (aN hq) (ag (pvl 0 eF) (ag (pvl 1 ku) (ag (pvl 2 gJ) ao))) (hdb:=lP.d)) ao)) (hdb:=o9.d)))))),?_⟩;rw [show L2.start ["outlook","place","kid","room","given","over"] [V.ref o,V.int v,V.int c,V.int y]=[some (V.ref o),some (V.int v),some (V.int c),some (V.int y),none,none] from rfl];walk_at "rd";refine ⟨T.Outlook,dx,_,ob,T.b4,T.xU,_,q9 _ _ _ _,ixL O.hn (Cq nd cr.1 cr.2) ?_⟩;have W:=O.web;refine ⟨T.Outlook,dx,_,ob,T.b4,T.n_web,_,qE _ _ _ _,?_⟩;refine ⟨p,t,m,ps,rs,v,c,rfl,W,fun k' _ _ _ _ h=>?_,fun z=>absurd ⟨vr,cr⟩ z,fun _ _ _ _ z=>by rw [hk1] at z;cases z⟩;rw [hk1] at h;cases h;refine ⟨_,rfl,_,rfl,.inr ⟨by omega,by omega⟩,?_⟩;refine ⟨T.Outlook,dx,_,ob,T.b4,T.n_web,_,qE _ _ _ _,?_⟩;refine ⟨p,t,m,ps,rs,c,v,rfl,W,fun k' _ _ _ _ h=>?_,fun z=>absurd ⟨cr,vr⟩ z,fun _ _ _ _ z=>by rw [hk2] at z;cases z⟩;rw [hk2] at h;cases h;refine ⟨_,rfl,.inl ⟨by omega,by omega⟩,?_⟩;refine ⟨o,p,t,m,ps,rs,r,par,dep,nd,na,ka,ia,kl,bs,S,c,_,rfl,O,cr,fu,fun d hd=>O.cl c cr.1 cr.2 (hS c cm) d hd,fun l1 H1 n1 s1 h1=>?_⟩;refine ⟨o,p,t,m,ps,rs,r,par,dep,nd,na,ka,ia,kl,bs,S,v,_,rfl,O.same s1,vr,.inr ⟨_,rfl⟩,hS,fun l2 H2 n2 s2 h2=>?_⟩;refine ⟨l1,l2,_,_,rfl,s2 _ _ h1,h2,by rw [HF g R cr.1 cr.2];omega,fun l3 H3 n3 s3 h3=>?_⟩;refine k l3 H3 (s1.free (s2.free n3)) (s1.trans (s2.trans s3)) ?_;unfold byK;rw [e1,e2];exact h3
theorem yf (T:Txt K mg) (hq:bd (CXe P w)) {f:Addr} {fd:FuncData} (D:Df K mg "greatest_load" aB ["outlook","place","over"] f fd) {gY:Addr} {uP:FuncData} (gW:Df K mg "load_by" bJ ["outlook","place","kid","room"] gY uP) {dC:Addr} {fA:FuncData} (dP:Df K mg "added" eK ["one","other"] dC fA) (G_added:FnOk P w K mg base (CXe P w) 1 dC fA ["one","other"] (pB T)) {bC:Addr} {cj:FuncData} (bo:Df K mg "idle_kids" bq ["outlook","place","left_out"] bC cj) (G_idle_kids:FnOk P w K mg base (CXe P w) 2 bC cj ["outlook","place","left_out"] (jA T)) {dg:Addr} {eJ:FuncData} (cw:Df K mg "toll" cS ["web","a","b"] dg eJ) (G_toll:FnOk P w K mg base (CXe P w) 3 dg eJ ["web","a","b"] (oO T)) {dB:Addr} {fE:FuncData} (b8:Df K mg "total" fw ["numbers"] dB fE) (G_total:FnOk P w K mg base (CXe P w) 1 dB fE ["numbers"] (qd T)):∀ n:Nat,FnOk P w K mg base (CXe P w) (2*n+4) f fd ["outlook","place","over"] (jX T n):=by
 intro n;have D_greatest_load:=D
 induction n with
 | zero=>exact D.F.okC cW (fun vs H Q E h=>h.elim) (fun cdv A outer s H vs Q E hr h=>h.elim)
 | succ n G_greatest_load =>
 have G_load_by:=GN T hq gW dP G_added bo G_idle_kids cw G_toll D_greatest_load (by omega) G_greatest_load;refine D.F.okC cW (fun vs H Q E h=>?_) (fun cdv A outer s H vs Q E hr h=>?_)
 . obtain ⟨o,p,t,m,ps,rs,r,par,dep,nd,na,ka,ia,kl,bs,S,v,y,rfl,_⟩:=h
   rfl
 . obtain ⟨o,p,t,m,ps,rs,r,par,dep,nd,na,ka,ia,kl,bs,S,v,y,rfl,O,vr,fu,hS,k⟩:=h;have g:=O.web.go;have R:=O.rt;have m24:=g.m24;obtain ⟨dx,ob⟩:=O.ob;refine ⟨_,(aj (az (i:=3) cW.nd rfl (Or.inl gO.l) (aw cu (bi bg (di  (pvl 0 dj) rfl) (pvl 1 cU) (fun _ _=>rfl)) (pvl 2 se))) (aj (az (i:=4) cW.nd rfl (Or.inl cZ.l) (ax G_idle_kids (hr.mono (by omega)) ik.g bo.m bo.F.kp bo.b .nil (aN hq) (ag (pvl 0 dj) (ag (pvl 1 cU) (ag vT ao))) (hdb:=ik.d))) (aj (G9 (pvl 4 cZ) (pvl 1 cU) Ga (pvl 3 gO) L0 gd) (aj (dN PassesOwn.never rfl (jI (bi bg (di  (pvl 0 dj) rfl) (pvl 1 cU) (fun _ _=>rfl))) (aI (i:=5) cW.nd rfl (Or.inl lW.l)) (aj (az (i:=6) cW.nd rfl (Or.inl gF.l) (ax G_load_by (hr.mono (by omega)) jC.g gW.m gW.F.kp gW.b .nil (aN hq) (ag (pvl 0 dj) (ag (pvl 1 cU) (ag (pvl 5 lW) (ag (pvl 3 gO) ao)))) (hdb:=jC.d))) (au (bU (aR zV (ax G_total (hr.mono (by omega)) d8.g b8.m b8.F.kp b8.b .nil (aN hq) (ag (pvl 6 gF) ao) (hdb:=d8.d)) (ax G_total (hr.mono (by omega)) d8.g b8.m b8.F.kp b8.b .nil (aN hq) (ag (pvl 4 cZ) ao) (hdb:=d8.d)) (aX _)) (au (az (i:=4) cW.nd rfl (Or.inl cZ.l) (pvl 6 gF))) bj)))) (au (aU (pvl 4 cZ))))))),?_⟩;rw [show L2.start ["outlook","place","over","room","best","kid","load"] [V.ref o,V.int v,V.int y]=[some (V.ref o),some (V.int v),some (V.int y),none,none,none,none] from rfl];walk_at "rd";refine ⟨T.Outlook,dx,_,ob,T.b4,T.xU,_,q9 _ _ _ _,ixL O.hn (Cq nd vr.1 vr.2) ⟨_,rfl,?_⟩⟩;refine ⟨o,p,t,m,ps,rs,r,par,dep,nd,na,ka,ia,kl,bs,S,v,_,rfl,O,vr,.inl rfl,hS,fun l1 H1 n1 s1 h1=>?_⟩;have kl1:(idK m rs r par (idl m rs r par dep nd) v V.non).length=m.toNat:=rQ fun k hk=>by
     have w:=cH g R vr.1 vr.2 hk;exact sL g R w.1.1.1 w.1.1.2
   refine ixL h1 (atG vr.1 (by omega)) ⟨_,rfl,xP h1 vr.1 (by rw [List.length_map];omega) ?_⟩;have s2:=s1.put n1 (.lst (((idK m rs r par (idl m rs r par dep nd) v V.non).map V.int).set v.toNat (V.int ((idK m rs r par (idl m rs r par dep nd) v V.non).getD v.toNat 0+(nd v+y)))));have h2:upd H1 l1 (.lst (((idK m rs r par (idl m rs r par dep nd) v V.non).map V.int).set v.toNat (V.int ((idK m rs r par (idl m rs r par dep nd) v V.non).getD v.toNat 0+(nd v+y))))) l1=some (.lst ((jW (idK m rs r par (idl m rs r par dep nd) v V.non) v (nd v+y)).map V.int)):=by
     rw [ah];unfold jW;rw [List.map_set]
   generalize upd H1 l1 (.lst (((idK m rs r par (idl m rs r par dep nd) v V.non).map V.int).set v.toNat (V.int ((idK m rs r par (idl m rs r par dep nd) v V.non).getD v.toNat 0+(nd v+y)))))=H2 at s2 h2 ⊢;obtain ⟨ak,hak,hkk⟩:=O.kids vr.1 vr.2;refine ⟨T.Outlook,dx,_,s2 _ _ ob,T.b4,T.ET,_,A2 _ _ _ _,ixL (s2 _ _ O.hk) hak ⟨ak,rfl,⟨_,SqL.of (s2 _ _ hkk)⟩,?_⟩⟩;refine m9 (K:=K) (xs:=(kd m rs r par v).map V.int) (fun i σ H3=>Same H H3/\∃ (l:Addr) (v5 v6:Option V),H l=none/\H3 l=some (.lst (((((kd m rs r par v).take i).map (byK m rs r par nd (idl m rs r par dep nd) (gld m rs r par dep nd) v (nd v+y))).foldl iR (jW (idK m rs r par (idl m rs r par dep nd) v .non) v (nd v+y))).map V.int))/\σ=[some (V.ref o),some (V.int v),some (V.int y),some (V.int (nd v+y)),some (V.ref l),v5,v6]) ⟨s2,l1,_,_,n1,h2,rfl⟩ (fun i σ H3 _ z=>SqL.of (z.1 _ _ hkk)) ?_ ?_
   . rintro i y' σ H3 N BB hBB hN hy ⟨s3,l,v5,v6,nl,el,rfl⟩;refine hBB _ _ ?_;rw [List.getElem?_map] at hy;obtain ⟨c,hc,rfl⟩:=Option.map_eq_some_iff.mp hy;have cm:c∈kd m rs r par v:=List.mem_of_getElem? hc;have et:(kd m rs r par v).take (i+1)=(kd m rs r par v).take i++[c]:=(by rw [List.take_succ,hc];rfl);have w:=cH g R vr.1 vr.2 cm;obtain ⟨n',rfl⟩:∃ n',n=n'+1:=⟨n - 1,by omega⟩;walk_at "rd";refine ⟨o,p,t,m,ps,rs,r,par,dep,nd,na,ka,ia,kl,bs,S,v,c,_,rfl,O.same s3,vr,cm,by omega,hS,fun l4 H4 n4 s4 h4=>?_⟩;refine ⟨l4,_,rfl,.inl (SqL.of h4),l,_,rfl,.inl (SqL.of (s4 _ _ el)),?_⟩;refine ⟨_,rfl,_,rfl,?_⟩;have ef:(((kd m rs r par v).take (i+1)).map (byK m rs r par nd (idl m rs r par dep nd) (gld m rs r par dep nd) v (nd v+y))).foldl iR (jW (idK m rs r par (idl m rs r par dep nd) v .non) v (nd v+y))=iR ((((kd m rs r par v).take i).map (byK m rs r par nd (idl m rs r par dep nd) (gld m rs r par dep nd) v (nd v+y))).foldl iR (jW (idK m rs r par (idl m rs r par dep nd) v .non) v (nd v+y))) (byK m rs r par nd (idl m rs r par dep nd) (gld m rs r par dep nd) v (nd v+y) c):=by
       rw [et,List.map_append,List.foldl_append]
       rfl
     split
     . rename_i q
       refine hN _ _ ⟨s3.trans s4,l4,_,_,s3.free n4,?_,rfl⟩;rw [ef,FV q];exact h4
     . rename_i q
       refine hN _ _ ⟨s3.trans s4,l,_,_,nl,?_,rfl⟩;rw [ef,Fe q];exact s4 _ _ el
   . rintro BB σ H3 hBB ⟨s3,l,v5,v6,nl,el,rfl⟩;refine hBB _ _ ?_;rw [List.length_map,List.take_length] at el;walk_at "rd";refine k l H3 nl s3 ?_;rw [pH g R vr.1 vr.2];exact el
theorem zH (T:Txt K mg) (hq:bd (CXe P w)) {f:Addr} {fd:FuncData} (D:Df K mg "greatest_load" aB ["outlook","place","over"] f fd) {gY:Addr} {uP:FuncData} (gW:Df K mg "load_by" bJ ["outlook","place","kid","room"] gY uP) {dC:Addr} {fA:FuncData} (dP:Df K mg "added" eK ["one","other"] dC fA) (G_added:FnOk P w K mg base (CXe P w) 1 dC fA ["one","other"] (pB T)) {bC:Addr} {cj:FuncData} (bo:Df K mg "idle_kids" bq ["outlook","place","left_out"] bC cj) (G_idle_kids:FnOk P w K mg base (CXe P w) 2 bC cj ["outlook","place","left_out"] (jA T)) {dg:Addr} {eJ:FuncData} (cw:Df K mg "toll" cS ["web","a","b"] dg eJ) (G_toll:FnOk P w K mg base (CXe P w) 3 dg eJ ["web","a","b"] (oO T)) {dB:Addr} {fE:FuncData} (b8:Df K mg "total" fw ["numbers"] dB fE) (G_total:FnOk P w K mg base (CXe P w) 1 dB fE ["numbers"] (qd T)):FnOk P w K mg base (CXe P w) 54 f fd ["outlook","place","over"] (kI T):=yf T hq D gW dP G_added bo G_idle_kids cw G_toll b8 G_total 25
def vL (T:Txt K mg):Sp:=fun vs H Q _=>∃ (o p t:Addr) (m:Int) (ps:List Addr) (rs:List Road) (r:Int) (par:Int->Int) (dep:Int->Nat) (nd:Int->Int) (na ka ia:Addr) (kl:List Addr) (bs:List V) (S:Int->Prop) (v:Int),vs=[.ref o,.int v,.int (par v)]/\OutAt T.Web T.Outlook H o p t m ps rs r par dep nd na ka ia kl bs S/\(0<=v/\v<m)/\v≠r/\(∀ c∈kd m rs r par v,S c) /\
 ∀ l H',H l=none->Same H H'->H' l=some (.lst ((idl m rs r par dep nd v).map V.int))->Q (.ref l) H'
abbrev bW:Stmt:=top 38
theorem FR:FnScope ["outlook","place","front"] ["outlook","place","front"] (aa bW):=FnScope.of (by kernel_rfl)
theorem eY:NmL (aa bW) "outlook":=.of (by kernel_rfl)
theorem fU:NmL (aa bW) "place":=.of (by kernel_rfl)
theorem wL:NmL (aa bW) "front":=.of (by kernel_rfl)
theorem j6:NmG (aa bW) "idle_kids":=.of (by kernel_rfl)
theorem ip:NmG (aa bW) "greatest_load":=.of (by kernel_rfl)
theorem om:NmG (aa bW) "toll":=.of (by kernel_rfl)
theorem Fa (T:Txt K mg) (hq:bd (CXe P w)) {f:Addr} {fd:FuncData} (D:Df K mg "idle_load" bW ["outlook","place","front"] f fd) {bn:Addr} {cg:FuncData} (D_greatest_load:Df K mg "greatest_load" aB ["outlook","place","over"] bn cg) (G_greatest_load:FnOk P w K mg base (CXe P w) 54 bn cg ["outlook","place","over"] (kI T)) {bC:Addr} {cj:FuncData} (bo:Df K mg "idle_kids" bq ["outlook","place","left_out"] bC cj) (G_idle_kids:FnOk P w K mg base (CXe P w) 2 bC cj ["outlook","place","left_out"] (jA T)) {dg:Addr} {eJ:FuncData} (cw:Df K mg "toll" cS ["web","a","b"] dg eJ) (G_toll:FnOk P w K mg base (CXe P w) 3 dg eJ ["web","a","b"] (oO T)):FnOk P w K mg base (CXe P w) 55 f fd ["outlook","place","front"] (vL T):=by
 refine D.F.okC FR (fun vs H Q E h=>?_) (fun cdv A outer s H vs Q E hr h=>?_)
 . obtain ⟨o,p,t,m,ps,rs,r,par,dep,nd,na,ka,ia,kl,bs,S,v,rfl,_⟩:=h
   rfl
 . obtain ⟨o,p,t,m,ps,rs,r,par,dep,nd,na,ka,ia,kl,bs,S,v,rfl,O,vr,vn,hS,k⟩:=h;have g:=O.web.go;have R:=O.rt;have m24:=g.m24;have W:=O.web;obtain ⟨dx,ob⟩:=O.ob;obtain ⟨k2,hk2,b0,b1⟩:=sG g R vr.1 vr.2 vn;have e2:upT rs par v=k2:=by unfold upT;rw [hk2];rfl
   have u:=R.up v vr.1 vr.2 vn;rw [qk g R vr.1 vr.2] at k;refine ⟨_,(aj (bU (aR zV (bi bg (di  (pvl 0 eY) rfl) (pvl 1 fU) (fun _ _=>rfl)) ap (aX _)) (au (aU (ax G_idle_kids (hr.mono (by decide)) j6.g bo.m bo.F.kp bo.b .nil (aN hq) (ag (pvl 0 eY) (ag (pvl 1 fU) (ag vT ao))) (hdb:=j6.d)))) bj) (au (aU (ax G_greatest_load (hr.mono (by decide)) ip.g D_greatest_load.m D_greatest_load.F.kp D_greatest_load.b .nil (aN hq) (ag (pvl 0 eY) (ag (pvl 1 fU) (ag (aw lJ (ax G_toll (hr.mono (by decide)) om.g cw.m cw.F.kp cw.b .nil (aN hq) (ag (di  (pvl 0 eY) rfl) (ag (pvl 1 fU) (ag (pvl 2 wL) ao))) (hdb:=om.d)) ap) ao))) (hdb:=ip.d))))),?_⟩;rw [show L2.start ["outlook","place","front"] [V.ref o,V.int v,V.int (par v)]=[some (V.ref o),some (V.int v),some (V.int (par v))] from rfl];walk_at "rd";refine ⟨T.Outlook,dx,_,ob,T.b4,T.xU,_,q9 _ _ _ _,ixL O.hn (Cq nd vr.1 vr.2) ⟨_,rfl,?_⟩⟩;by_cases c:0<nd v
   . rw [if_pos c] at k ⊢;exact ⟨o,p,t,m,ps,rs,r,par,dep,nd,na,ka,ia,kl,bs,S,v,_,rfl,O,vr,.inl rfl,hS,k⟩
   . rw [if_neg c] at k ⊢;refine ⟨T.Outlook,dx,_,ob,T.b4,T.n_web,_,qE _ _ _ _,?_⟩;refine ⟨p,t,m,ps,rs,v,par v,rfl,W,fun k' _ _ _ _ h=>?_,fun z=>absurd ⟨vr,u.1⟩ z,fun _ _ _ _ z=>by rw [hk2] at z;cases z⟩;rw [hk2] at h;cases h;refine ⟨_,rfl,?_⟩;refine ⟨o,p,t,m,ps,rs,r,par,dep,nd,na,ka,ia,kl,bs,S,v,_,rfl,O,vr,by show m.toNat<=dep v+1+24;omega,hS,?_⟩;rw [<- e2];exact k
def He (T:Txt K mg):Sp:=fun vs H Q E=>∃ (p t:Addr) (m:Int) (ps:List Addr) (rs:List Road) (r:Int),vs=[.ref p,.int r]/\WebAt T.Web H p m t ps rs /\
 (0<=r->r<m->∃ par dep,Rooted m rs r par dep/\∀ l H',H l=none->Same H H'->H' l=some (.lst ((bX m rs r par dep r).map V.int))->(bX m rs r par dep r).Nodup->(∀ v,v∈bX m rs r par dep r↔0<=v/\v<m)->Q (.ref l) H')/\(¬ (0<=r/\r<m)->E (.ref T.NoPlace) none H)
abbrev dL:Stmt:=top 26
theorem oQ:FnScope ["web","r","nearer","places","waiting","place","kid"] ["web","r"] (aa dL):=FnScope.of (by kernel_rfl)
theorem yF:NmL (aa dL) "web":=.of (by kernel_rfl)
theorem CO:NmL (aa dL) "r":=.of (by kernel_rfl)
theorem sx:NmL (aa dL) "nearer":=.of (by kernel_rfl)
theorem mR:NmL (aa dL) "places":=.of (by kernel_rfl)
theorem iV:NmL (aa dL) "waiting":=.of (by kernel_rfl)
theorem j9:NmL (aa dL) "place":=.of (by kernel_rfl)
theorem yN:NmL (aa dL) "kid":=.of (by kernel_rfl)
theorem vh:NmG (aa dL) "ahead":=.of (by kernel_rfl)
theorem zD:NmG (aa dL) "reversed":=.of (by kernel_rfl)
theorem wO:NmG (aa dL) "kids":=.of (by kernel_rfl)
theorem PR (T:Txt K mg) (hq:bd (CXe P w)) {f:Addr} {fd:FuncData} (D:Df K mg "down" dL ["web","r"] f fd) {fk:Addr} {jf:FuncData} (dy:Df K mg "ahead" cF ["web","r"] fk jf) (G_ahead:FnOk P w K mg base (CXe P w) 5 fk jf ["web","r"] (uR T)) {gI:Addr} {kQ:FuncData} (eT:Df K mg "kids" fB ["web","place","front"] gI kQ) (G_kids:FnOk P w K mg base (CXe P w) 4 gI kQ ["web","place","front"] (xW T)):FnOk P w K mg base (CXe P w) 6 f fd ["web","r"] (He T):=by
 refine D.F.okX oQ (fun vs H Q E h=>?_) (fun cdv A outer s H vs Q E hr h=>?_)
 . obtain ⟨p,t,m,ps,rs,r,rfl,_⟩:=h
   rfl
 . obtain ⟨p,t,m,ps,rs,r,rfl,W,k,e⟩:=h;have g:=W.go;have m24:=g.m24;refine ⟨_,(aj (az (i:=2) oQ.nd rfl (Or.inl sx.l) (ax G_ahead (hr.mono (by decide)) vh.g dy.m dy.F.kp dy.b .nil dI (ag (pvl 0 yF) (ag (pvl 1 CO) ao)) (hdb:=vh.d))) (aj (az (i:=3) oQ.nd rfl (Or.inl mR.l) (eE ao)) (aj (az (i:=4) oQ.nd rfl (Or.inl iV.l) (eE (ag (pvl 1 CO) ao))) (aj (tM PassesOwn.leaving (zg (pvl 4 iV) (fun _=>rfl)) (aj (az (i:=5) oQ.nd rfl (Or.inl j9.l) (F3 PySem.F.plainAttrs_list PySem.F.slot_list_pop PySem.F.type_list_pop FM (pvl 4 iV))) (aj (c8 (oF PySem.F.plainAttrs_list PySem.F.slot_list_append PySem.F.type_list_append ff (pvl 3 mR) (ag (pvl 5 j9) ao))) (au (dN PassesOwn.leaving rfl (Fh zD.g T.reversed (ax G_kids (hr.mono (by decide)) wO.g eT.m eT.F.kp eT.b .nil dI (ag (pvl 0 yF) (ag (pvl 5 j9) (ag (bi bg (pvl 2 sx) (pvl 5 j9) (fun _ _=>rfl)) ao))) (hdb:=wO.d))) (aI (i:=6) oQ.nd rfl (Or.inl yN.l)) (au (c8 (oF PySem.F.plainAttrs_list PySem.F.slot_list_append PySem.F.type_list_append ff (pvl 4 iV) (ag (pvl 6 yN) ao))))))))) (au (aU (pvl 3 mR))))))),?_⟩;rw [show L2.start ["web","r","nearer","places","waiting","place","kid"] [V.ref p,V.int r]=[some (V.ref p),some (V.int r),none,none,none,none,none] from rfl];walk_at "rd";refine ⟨p,t,m,ps,rs,r,rfl,W,fun r0 r1=>?_,e⟩;obtain ⟨par,dep,R,k⟩:=k r0 r1;refine ⟨par,dep,R,fun l1 H1 n1 s1 e1=>⟨by decide,fun l3 n3=>⟨bE (by simp),fun l4 n4=>?_⟩⟩⟩;have n30:H l3=none:=s1.free n3;have s3:=s1.trans (Same.new (.lst []) n3);have n40:H l4=none:=s3.free n4;have n13:l1≠l3:=fun z=>by rw [<- z,e1] at n3;cases n3
   have n34:l3≠l4:=fun z=>by rw [<- z,ah] at n4;cases n4
   have e13:=Same.new (.lst []) n3 _ _ e1;have n14:l1≠l4:=fun z=>by rw [<- z,e13] at n4;cases n4
   have s4:=s3.trans (Same.new (.lst [V.int r]) n4);have e14:=Same.new (.lst [V.int r]) n4 _ _ e13;have e34:upd (upd H1 l3 (.lst [])) l4 (.lst [V.int r]) l3=some (.lst []):=by rw [aq n34,ah]
   have e44:upd (upd H1 l3 (.lst [])) l4 (.lst [V.int r]) l4=some (.lst [V.int r]):=ah;generalize upd (upd H1 l3 (.lst [])) l4 (.lst [V.int r])=H4 at s4 e14 e34 e44 ⊢;refine Ht (fun n σ H5=>∃ (ks ws pl:List Int) (v5 v6:Option V),n=2*(m.toNat - ks.length)+ws.length/\σ=[some (.ref p),some (.int r),some (.ref l1),some (.ref l3),some (.ref l4),v5,v6]/\Same H H5/\H5 l1=some (.lst (lV m r par))/\H5 l3=some (.lst (pl.map V.int))/\H5 l4=some (.lst (ws.map V.int))/\AInv m rs r par ks ws/\(pl++ws).Perm (r::ks)/\pl++ws.reverse.flatMap (bX m rs r par dep)=bX m rs r par dep r) (2*m.toNat+1) ⟨[],[r],[],_,_,rfl,rfl,s4,e14,e34,e44,AInv.start,List.Perm.refl _,by simp⟩ ?_;rintro n σ H5 NW BB hBB hN hN2 ⟨ks,ws,pl,v5,v6,rfl,rfl,s5,h1,h3,h4,J,pe,ep⟩;refine hBB _ _ _ ?_;have rk:∀ w∈r::ks,0<=w/\w<m:=fun w hw=>by
     rcases List.mem_cons.mp hw with rfl|z
     . exact ⟨r0,r1⟩
     . exact J.rng w z
   have nk:(r::ks).Nodup:=List.nodup_cons.mpr ⟨J.nr,J.nd⟩;have kl:=cM (m:=m) (by omega) nk rk;have kl1:=cM (m:=m) (by omega) J.nd J.rng;have pl1:=pe.length_eq;rw [List.length_append] at pl1;rw [List.length_cons] at kl pl1;walk_at "rd";refine ⟨_,.inl ⟨_,SqL.of h4,rfl⟩,?_⟩;rcases List.eq_nil_or_concat ws with rfl|⟨ws',q,rfl⟩
   . rw [if_neg (by simp)];rw [List.reverse_nil,List.flatMap_nil,List.append_nil] at ep;rw [List.append_nil] at pe;subst ep;refine k l3 H5 n30 s5 h3 (pe.nodup_iff.mpr nk) fun v=>⟨fun z=>rk v (pe.mem_iff.mp z),fun z=>pe.mem_iff.mpr ?_⟩;by_cases c:v=r
     . rw [c];exact List.mem_cons_self
     . exact List.mem_cons_of_mem _ (J.all R v z.1 z.2 c)
   . rw [List.concat_eq_append] at J h4 hN hN2 pe ep pl1 ⊢;rw [if_pos (by simp)];have hq:q∈ws'++[q]:=List.mem_append_right _ (List.mem_singleton.mpr rfl);have pr:=J.at_ r0 r1 hq;have J2:=J.step g R r0 r1 (p:=q) (ws':=ws') (List.perm_append_singleton q ws');refine ⟨NW,fun σ' H' z=>?_,?_⟩
     . obtain ⟨m',lt,ks',ws'',pl',a5,a6,z1,z2⟩:=hN2 _ _ z;exact ⟨m',lt,ks',ws'',z1,pl',a5,a6,z2⟩
     rw [List.map_append,List.map_cons,List.map_nil] at h4;refine ⟨tyL h4,Nh h4 ?_⟩;have s6:Same H (upd H5 l4 (.lst (ws'.map V.int))):=s5.put n40 _;have h36:upd H5 l4 (.lst (ws'.map V.int)) l3=some (.lst (pl.map V.int)):=(by rw [aq n34];exact h3);have h16:upd H5 l4 (.lst (ws'.map V.int)) l1=some (.lst (lV m r par)):=(by rw [aq n14];exact h1);have h46:upd H5 l4 (.lst (ws'.map V.int)) l4=some (.lst (ws'.map V.int)):=ah;generalize upd H5 l4 (.lst (ws'.map V.int))=H6 at s6 h36 h16 h46 ⊢;refine ⟨tyL h36,sW h36 (dH (by rw [List.length_map];omega)) ?_⟩;have s7:Same H (upd H6 l3 (.lst (pl.map V.int++[V.int q]))):=s6.put n30 _;have h37:upd H6 l3 (.lst (pl.map V.int++[V.int q])) l3=some (.lst ((pl++[q]).map V.int)):=(by rw [ah,List.map_append];rfl);have h17:upd H6 l3 (.lst (pl.map V.int++[V.int q])) l1=some (.lst (lV m r par)):=(by rw [aq n13];exact h16);have h47:upd H6 l3 (.lst (pl.map V.int++[V.int q])) l4=some (.lst (ws'.map V.int)):=(by rw [aq n34.symm];exact h46);generalize upd H6 l3 (.lst (pl.map V.int++[V.int q]))=H7 at s7 h37 h17 h47 ⊢;refine ixL h17 (gD pr.1 (zA pr.1 pr.2)) ?_;have hfv:Pb.front r par q=.non\/∃ i,Pb.front r par q=.int i:=by
       unfold Pb.front;by_cases c:q=r
       . rw [if_pos c];exact .inl rfl
       . rw [if_neg c];exact .inr ⟨_,rfl⟩
     have pq:=g0 g R pr.1 pr.2;refine ⟨p,t,m,ps,rs,q,_,rfl,W.same s7,pr.1,pr.2,hfv,fun l8 H8 n8 s8 e8=>⟨l8,rfl,_,SqL.of e8,?_⟩⟩;generalize aG m rs (Pb.front r par q) q=kk at e8 J2 pq ⊢;have n81:l1≠l8:=fun z=>by rw [<- z,h17] at n8;cases n8
     have n83:l3≠l8:=fun z=>by rw [<- z,h37] at n8;cases n8
     have n84:l4≠l8:=fun z=>by rw [<- z,h47] at n8;cases n8
     have kl2:=cM (m:=m) (by omega) J2.nd J2.rng;rw [List.length_append] at kl2;have wl2:=cM (m:=m) (by omega) J2.wnd fun w hw=>J2.at_ r0 r1 hw;rw [List.length_append] at wl2;refine Ev (K:=K) (xs:=kk.map V.int) (fun i σ H9=>∃ v6,σ=[some (.ref p),some (.int r),some (.ref l1),some (.ref l3),some (.ref l4),some (.int q),v6]/\Same H H9/\H9 l8=some (.lst (kk.map V.int))/\H9 l1=some (.lst (lV m r par))/\H9 l3=some (.lst ((pl++[q]).map V.int))/\H9 l4=some (.lst ((ws'++kk.reverse.take i).map V.int))) ⟨_,rfl,s7.trans s8,e8,s8 _ _ h17,s8 _ _ h37,by rw [List.take_zero,List.append_nil];exact s8 _ _ h47⟩ (fun i σ H9 _ z=>by obtain ⟨_,_,_,z,_⟩:=z;exact SqL.of z) ?_ ?_
     . rintro i x σ H9 NI hI hi ⟨v6,rfl,s9,e9,h19,h39,h49⟩;rw [<- List.map_reverse,List.getElem?_map] at hi;obtain ⟨v,hv,rfl⟩:=Option.map_eq_some_iff.mp hi;have et:kk.reverse.take (i+1)=kk.reverse.take i++[v]:=(by rw [List.take_succ,hv];rfl);have wlen:(ws'++kk.reverse.take i).length<=100:=by
         rw [List.length_append,List.length_take,List.length_reverse];omega
       walk_at "rd";refine ⟨tyL h49,sW h49 (dH (by rw [List.length_map];omega)) (hI _ _ ⟨_,rfl,s9.put n40 _,?_,?_,?_,?_⟩)⟩
       . rw [aq n84.symm];exact e9
       . rw [aq n14];exact h19
       . rw [aq n34];exact h39
       . rw [ah,et,<- List.append_assoc,List.map_append (l₁:=ws'++kk.reverse.take i)];rfl
     . rintro σ H9 ⟨v6,rfl,s9,e9,h19,h39,h49⟩;rw [List.length_map,show kk.length=kk.reverse.length by rw [List.length_reverse],List.take_length] at h49;refine hN _ _ _ ?_ ⟨ks++kk,ws'++kk.reverse,pl++[q],_,_,rfl,rfl,s9,h19,h39,h49,J2.perm (List.Perm.append_left _ kk.reverse_perm.symm),?_,?_⟩
       . rw [List.length_append,List.length_append,List.length_append,List.length_reverse];simp only [List.length_cons,List.length_nil];omega
       . have p1:(pl++[q]++(ws'++kk.reverse)).Perm (pl++(ws'++[q])++kk):=by
           rw [List.append_assoc,List.append_assoc];refine List.Perm.append_left _ ?_;rw [<- List.append_assoc];exact List.Perm.append (List.perm_append_comm) kk.reverse_perm
         exact p1.trans (List.Perm.append_right _ pe)
       . rw [<- ep,List.reverse_append,List.reverse_append,List.reverse_reverse,List.reverse_singleton,List.singleton_append,List.flatMap_cons,pq,List.flatMap_append];simp
/-- the places of a row with the ones ahead of them,from its end -/
def Jg (par:Int->Int) (v:Int):List V:=[.int v,.int (par v)]
abbrev PairsAt (H:Hp) (par:Int->Int):List Addr->List Int->Prop:=Paired fun q v=>H q=some (.tup (Jg par v))
theorem PairsAt.same {H H':Hp} {par:Int->Int} {qs:List Addr} {vs:List Int} (e:Same H H') (h:PairsAt H par qs vs):PairsAt H' par qs vs:=Paired.imp' (fun q v x=>e q _ x) h
theorem PairsAt.get {H:Hp} {par:Int->Int}:∀ {ps:List Addr} {rs:List Int} {i:Nat} {x:V},PairsAt H par ps rs->(ps.map V.ref)[i]?=some x->∃ p r,x=.ref p/\ps[i]?=some p/\rs[i]?=some r/\H p=some (.tup (Jg par r))
 | _,_,i,x,.nil,e=>by simp at e
 | _,_,0,x,.cons (a:=p) (b:=r) h hs,e=>⟨p,r,by simpa using e.symm,by simp,by simp,h⟩
 | a::l1,_,i+1,x,.cons h hs,e=>by
   have e':(List.map V.ref l1)[i]?=some x:=by simpa using e
   obtain ⟨p,r,h1,h2,h3,h4⟩:=PairsAt.get hs e';exact ⟨p,r,h1,by simpa using h2,by simpa using h3,h4⟩
theorem PairsAt.snoc {H:Hp} {par:Int->Int} {q:Addr} {v:Int} (e:H q=some (.tup (Jg par v))):∀ {qs:List Addr} {vs:List Int},PairsAt H par qs vs->PairsAt H par (qs++[q]) (vs++[v])
 | _,_,.nil=>.cons e .nil
 | _,_,.cons x xs=>.cons x (PairsAt.snoc e xs)
def qJ (T:Txt K mg):Sp:=fun vs H Q E=>∃ (p t:Addr) (m:Int) (ps:List Addr) (rs:List Road) (r:Int),vs=[.ref p,.int r]/\WebAt T.Web H p m t ps rs /\
 (0<=r->r<m->∃ par dep,Rooted m rs r par dep/\∀ l qs tl H',bX m rs r par dep r=r::tl->H l=none->Same H H'->H' l=some (.lst (qs.map V.ref))->PairsAt H' par qs tl.reverse->Order m r par tl->Q (.ref l) H')/\(¬ (0<=r/\r<m)->E (.ref T.NoPlace) none H)
abbrev cK:Stmt:=top 28
theorem C8:FnScope ["web","r","nearer"] ["web","r"] (aa cK):=FnScope.of (by kernel_rfl)
theorem vw:NmL (aa cK) "web":=.of (by kernel_rfl)
theorem yE:NmC (aa cK) "r":=.of (by kernel_rfl)
theorem zb:NmC (aa cK) "nearer":=.of (by kernel_rfl)
theorem qw:NmG (aa cK) "ahead":=.of (by kernel_rfl)
theorem wG:NmG (aa cK) "reversed":=.of (by kernel_rfl)
theorem rO:NmG (aa cK) "down":=.of (by kernel_rfl)
theorem KA (T:Txt K mg) (hq:bd (CXe P w)) {f:Addr} {fd:FuncData} (D:Df K mg "inward" cK ["web","r"] f fd) {fk:Addr} {jf:FuncData} (dy:Df K mg "ahead" cF ["web","r"] fk jf) (G_ahead:FnOk P w K mg base (CXe P w) 5 fk jf ["web","r"] (uR T)) {p9:Addr} {Hl:FuncData} (sS:Df K mg "down" dL ["web","r"] p9 Hl) (G_down:FnOk P w K mg base (CXe P w) 6 p9 Hl ["web","r"] (He T)):FnOk P w K mg base (CXe P w) 7 f fd ["web","r"] (qJ T):=by
 refine D.F.okX C8 (fun vs H Q E h=>?_) (fun cdv A outer s H vs Q E hr h=>?_)
 . obtain ⟨p,t,m,ps,rs,r,rfl,_⟩:=h
   rfl
 . obtain ⟨p,t,m,ps,rs,r,rfl,W,k,e⟩:=h;have g:=W.go;have m24:=g.m24;refine ⟨_,(aj (az (i:=2) C8.nd rfl (Or.inr zb.l) (ax G_ahead (hr.mono (by decide)) qw.g dy.m dy.F.kp dy.b .nil dI (ag (pvl 0 vw) (ag (pvc 1 yE) ao)) (hdb:=qw.d))) (au (aU (oJ rfl (sq (Nc:=["place","nearer","r"]) 1 [2,1] (by decide +kernel) rfl (by decide +kernel) rfl (by show ∀ (y:Str × NameKind),y∈_->y.2=NameKind.free->(aa cK).names.lookup y.1=some NameKind.cell;decide +kernel) rfl (fun _ h=>kf h) (fun i hi=>match i,hi with|0,_=>⟨"nearer",2,rfl,rfl,rfl,by decide +kernel⟩|1,_=>⟨"r",1,rfl,rfl,rfl,by decide +kernel⟩|i+2,hi=>absurd hi (by show ¬ i+2<2;omega))) (Fh wG.g T.reversed (ax G_down (hr.mono (by decide)) rO.g sS.m sS.F.kp sS.b .nil dI (ag (pvl 0 vw) (ag (pvc 1 yE) ao)) (hdb:=rO.d))) (fun _ _ _ _=>(aI (i:=0) (show (["place","nearer","r"]:List Str).Nodup from by decide +kernel) rfl (Or.inl rfl))) (fun _ _ _ _=>(BF (aR sV (pv 0) (pv 2) (aX _)))) (fun _ _ _ _=>(iz (ag (pv 0) (ag (bi (Mw K rfl) (pv 1) (pv 0) (fun _ _=>rfl)) ao)))))))),?_⟩;rw [show L2.start ["web","r","nearer"] [V.ref p,V.int r]=[some (V.ref p),some (V.int r),none] from rfl];walk_at "rd";refine ex6 p t m ps rs r ?_;refine an4 rfl W (fun r0 r1=>?_) e;obtain ⟨par,dep,R,k⟩:=k r0 r1;refine ⟨par,dep,R,fun l1 H1 n1 s1 e1=>?_⟩;refine ex6 p t m ps rs r ?_;refine an4 rfl (W.same s1) (fun _ _=>⟨par,dep,R,fun l2 H2 n2 s2 e2 nd al=>?_⟩) (fun z=>absurd ⟨r0,r1⟩ z);obtain ⟨tl,et,O⟩:=AU g R r0 r1 nd al;have ll:=Ol g R r0 r1;rw [et] at e2 ll;rw [List.length_cons] at ll;refine ⟨l2,rfl,_,SqL.of e2,fun pc npc=>?_⟩;have e12:=s2 _ _ e1;have s12:=s1.trans s2;have npc0:=s12.free npc;refine M7 (K:=K) (xs:=(r::tl).map V.int) (fun i zs σ H3=>Same H2 H3/\H3 pc=some (.lst zs)/\(∃ qs:List Addr,zs=qs.map V.ref/\PairsAt H3 par qs (tl.reverse.take i))/\∃ v,σ=[v,some (V.ref l1),some (V.int r)]) ⟨Same.new _ npc,ah,⟨[],rfl,.nil⟩,_,rfl⟩ (fun i zs σ H3 _ z=>SqL.of (z.1 _ _ e2)) ?_ ?_
   . rintro i x zs σ H3 N hN hx ⟨s3,e3,⟨qs,rfl,pa⟩,v,rfl⟩;rw [<- List.map_reverse,List.reverse_cons,List.getElem?_map] at hx;obtain ⟨y,gy,rfl⟩:=Option.map_eq_some_iff.mp hx;have il:=(List.getElem?_eq_some_iff.mp gy).1;rw [List.length_append,List.length_reverse] at il;have ql:qs.length=(tl.reverse.take i).length:=Paired.length pa;rw [List.length_take,List.length_reverse] at ql;walk_at "rd";by_cases c:i<tl.length
     . rw [List.getElem?_append_left (by rw [List.length_reverse];exact c)] at gy;have ym:y∈tl:=List.mem_reverse.mp (List.mem_of_getElem? gy);have yr:=O.rng y ym;rw [if_pos (O.ne ym)];have gp:atI (lV m r par) y=some (V.int (par y)):=by
         have ef:Pb.front r par y=V.int (par y):=(by unfold Pb.front;rw [if_neg (O.ne ym)]);rw [<- ef];exact gD yr.1 (zA yr.1 yr.2)
       refine ixL (s3 _ _ e12) gp ⟨bE (by simp),fun q nq=>?_⟩;have s4:=Same.new (.tup [V.int y,V.int (par y)]) nq;have nqp:q≠pc:=fun z=>by rw [z,e3] at nq;cases nq
       refine ⟨s4 _ _ e3,dH (by rw [List.length_map];omega),hN _ _ _ ⟨(s3.trans s4).put npc _,ah,⟨qs++[q],by rw [List.map_append];rfl,?_⟩,_,rfl⟩⟩;rw [List.take_succ,gy];refine PairsAt.snoc (by rw [aq nqp,ah];rfl) ?_;exact Paired.imp' (fun a b h=>by
         rw [aq (fM h e3 (by intro z;cases z)),aq (bf h nq)];exact h) pa
     . have ei:i=tl.reverse.length:=(by rw [List.length_reverse];simp at il;omega);rw [ei,List.getElem?_append_right (Nat.le_refl _),Nat.sub_self] at gy;cases gy;rw [if_neg (fun z=>z rfl)];refine hN _ _ _ ⟨s3,e3,⟨qs,rfl,?_⟩,_,rfl⟩;rw [List.take_of_length_le (by omega)] at pa ⊢;exact pa
   . rintro zs σ H3 ⟨s3,e3,⟨qs,rfl,pa⟩,v,rfl⟩;rw [List.take_of_length_le (by rw [List.length_map,List.length_reverse,List.length_cons];omega)] at pa;exact k pc qs tl H3 et npc0 (s12.trans s3) e3 pa O
def bz (m:Int) (xs:List Int):Bool:=decide ((xs.length:Int)=m) && xs.all fun x=>decide (0<=x)
theorem Lj {m:Int} {xs:List Int} (h:(xs.length:Int)=m) (h0:∀ x∈xs,0<=x):bz m xs=true:=by
 unfold bz;rw [decide_eq_true h,Bool.true_and,List.all_eq_true];exact fun x hx=>decide_eq_true (h0 x hx)
theorem Jv {m:Int} {xs:List Int} (h:bz m xs=true):(xs.length:Int)=m:=by
 unfold bz at h;rw [Bool.and_eq_true] at h;exact of_decide_eq_true h.1
theorem LH {m:Int} {xs:List Int} (h:bz m xs=true):∀ x∈xs,0<=x:=by
 unfold bz at h;rw [Bool.and_eq_true,List.all_eq_true] at h;exact fun x hx=>of_decide_eq_true (h.2 x hx)
def wm (T:Txt K mg):Sp:=fun vs H Q _=>∃ (p a t:Addr) (c:Bool) (m:Int) (ps:List Addr) (rs:List Road) (xs:List Int),vs=[.ref p,.ref a]/\WebAt T.Web H p m t ps rs/\SqX K c H a (xs.map V.int)/\xs.length<=1000/\∀ H',Same H H'->Q (.bl (bz m xs)) H'
abbrev cD:Stmt:=top 22
theorem D2:FnScope ["web","numbers"] ["web","numbers"] (aa cD):=FnScope.of (by kernel_rfl)
theorem zf:NmL (aa cD) "web":=.of (by kernel_rfl)
theorem lr:NmL (aa cD) "numbers":=.of (by kernel_rfl)
theorem kL:NmG (aa cD) "len":=.of (by kernel_rfl)
theorem kK:NmG (aa cD) "all":=.of (by kernel_rfl)
theorem Eo (T:Txt K mg) (hq:bd (CXe P w)) {f:Addr} {fd:FuncData} (D:Df K mg "is_filled" cD ["web","numbers"] f fd):FnOk P w K mg base (CXe P w) 1 f fd ["web","numbers"] (wm T):=by
 refine D.F.okC D2 (fun vs H Q E h=>?_) (fun cdv A outer s H vs Q E hr h=>?_)
 . obtain ⟨p,a,t,c,m,ps,rs,xs,rfl,_⟩:=h
   rfl
 . obtain ⟨p,a,t,c,m,ps,rs,xs,rfl,W,ha,hz,k⟩:=h;refine ⟨_,(au (aU (Sa (ye fL (cJ eB kL.g T.len lD (ag (pvl 1 lr) ao) (hn:=kL.n) (hdb:=kL.d)) (di  (pvl 0 zf) rfl) (aX _)) (Q0 (cJ (Nv rfl) kK.g T.all Rr (ag (oJ rfl (zh (Nc:=["number"]) 1 (by decide +kernel) (by decide +kernel) rfl (by decide +kernel) rfl) (Ky c (pvl 1 lr)) (fun _ _ _ _=>(aI (i:=0) (show (["number"]:List Str).Nodup from by decide +kernel) rfl (Or.inl rfl))) (fun _ _ _ _=>sD) (fun _ _ _ _=>(ye Pz (pv 0) ap (aX _)))) ao) (hn:=kK.n) (hdb:=kK.d)))))),?_⟩;rw [show L2.start ["web","numbers"] [V.ref p,V.ref a]=[some (V.ref p),some (V.ref a)] from rfl];walk_at "rd";obtain ⟨dx,ob⟩:=W.ob;have ha':SqL K H a (xs.map V.int)\/SqT K H a (xs.map V.int):=by
     cases c
     . exact .inr ha
     . exact .inl ha
   refine ⟨_,ha',T.Web,dx,_,ob,T.j2,T.n_many,_,lO m t,rfl,?_⟩;rw [List.length_map];by_cases hm:(xs.length:Int)=m
   . rw [if_pos (by rw [hm])];refine ⟨⟨_,ha⟩,fun l nl=>?_⟩;refine yT (K:=K) (c:=c) (xs:=xs.map V.int) (fun i bs σ H2=>Same H H2/\H2 l=some (.lst bs)/\bs=((xs.take i).map fun x=>decide (0<=x)).map V.bl/\∃ v,σ=[v]) ⟨Same.new _ nl,ah,rfl,_,rfl⟩ (fun i bs σ H2 _ z=>Same.sqX z.1 ha) ?_ ?_
     . rintro i x bs σ H2 N hN hx ⟨s2,e2,rfl,v,rfl⟩;rw [List.getElem?_map] at hx;obtain ⟨y,gy,rfl⟩:=Option.map_eq_some_iff.mp hx;walk_at "rd";refine ⟨e2,dH (by rw [List.length_map,List.length_map,List.length_take];omega),hN _ _ _ ⟨s2.put nl _,ah,?_,_,rfl⟩⟩;rw [List.take_succ,gy,List.map_append,List.map_append]
       rfl
     . rintro bs σ H2 ⟨s2,e2,rfl,v,rfl⟩;refine ⟨l,rfl,_,SqL.of e2,?_⟩;have e:(((xs.take (xs.map V.int).length).map fun x=>decide (0<=x)).all id)=bz m xs:=by
         rw [List.length_map,List.take_length,List.all_map];unfold bz;rw [decide_eq_true hm,Bool.true_and]
         rfl
       rw [e];exact k _ s2
   . rw [if_neg (fun z=>hm (by injection z))];have e:bz m xs=false:=by
       unfold bz;rw [decide_eq_false hm,Bool.false_and]
     rw [e] at k;exact k H (Same.refl _)
def tT (T:Txt K mg):Sp:=fun vs H Q E=>∃ (p a t:Addr) (c:Bool) (m:Int) (ps:List Addr) (rs:List Road) (xs:List Int),vs=[.ref p,.ref a]/\WebAt T.Web H p m t ps rs/\SqX K c H a (xs.map V.int)/\xs.length<=1000 /\
 (bz m xs=true->∀ l H',Same H H'->SqT K H' l (xs.map V.int)->Q (.ref l) H')/\(bz m xs=false->∀ H',Same H H'->E (.ref T.BadWish) none H')
abbrev cN:Stmt:=top 30
theorem JE:FnScope ["web","numbers"] ["web","numbers"] (aa cN):=FnScope.of (by kernel_rfl)
theorem Cd:NmL (aa cN) "web":=.of (by kernel_rfl)
theorem ng:NmL (aa cN) "numbers":=.of (by kernel_rfl)
theorem lB:NmG (aa cN) "is_filled":=.of (by kernel_rfl)
theorem m6:NmG (aa cN) "BadWish":=.of (by kernel_rfl)
theorem kC:NmG (aa cN) "tuple":=.of (by kernel_rfl)
theorem Jf (T:Txt K mg) (hq:bd (CXe P w)) {f:Addr} {fd:FuncData} (D:Df K mg "wish_of" cN ["web","numbers"] f fd) {gj:Addr} {wk:FuncData} (iH:Df K mg "is_filled" cD ["web","numbers"] gj wk) (G_is_filled:FnOk P w K mg base (CXe P w) 1 gj wk ["web","numbers"] (wm T)):FnOk P w K mg base (CXe P w) 2 f fd ["web","numbers"] (tT T):=by
 refine D.F.okX JE (fun vs H Q E h=>?_) (fun cdv A outer s H vs Q E hr h=>?_)
 . obtain ⟨p,a,t,c,m,ps,rs,xs,rfl,_⟩:=h
   rfl
 . obtain ⟨p,a,t,c,m,ps,rs,xs,rfl,W,ha,hz,k,e⟩:=h;refine ⟨_,(aj (bU (sJ (sP (ax G_is_filled (hr.mono (by decide)) lB.g iH.m iH.F.kp iH.b .nil dI (ag (pvl 0 Cd) (ag (pvl 1 ng) ao)) (hdb:=lB.d)))) (au (uD T.Kn rfl xR m6.g T.LU (ag Al ao) (hdb:=m6.d))) bj) (au (aU (jl kc kC.g T.tuple uQ (ag (pvl 1 ng) ao) (hn:=kC.n) (hdb:=kC.d))))),?_⟩;rw [show L2.start ["web","numbers"] [V.ref p,V.ref a]=[some (V.ref p),some (V.ref a)] from rfl];walk_at "rd";refine ⟨p,a,t,c,m,ps,rs,xs,rfl,W,ha,hz,fun H1 s1=>⟨_,rfl,?_⟩⟩;by_cases z:bz m xs=false
   . rw [if_pos z];exact ⟨by decide,e z H1 s1⟩
   . rw [if_neg z];have z':bz m xs=true:=(by simpa using z);cases c
     . exact ⟨_,.inr ⟨Same.sqX (c:=false) s1 ha,k z' a H1 s1 (Same.sqX (c:=false) s1 ha)⟩⟩
     . exact ⟨_,.inl ⟨Same.sqX (c:=true) s1 ha,fun l nl=>k z' l _ (s1.trans (Same.new _ nl)) (SqT.of ah)⟩⟩
def EG (T:Txt K mg):Sp:=fun vs H Q E=>∃ (p a t:Addr) (c:Bool) (m:Int) (ps:List Addr) (rs:List Road) (xs:List Int) (r:Int),vs=[.ref p,.ref a,.int r]/\WebAt T.Web H p m t ps rs/\SqX K c H a (xs.map V.int)/\xs.length<=1000 /\
 (bz m xs=true->0<=r->r<m->∃ par dep,Rooted m rs r par dep/\∀ l H',H l=none->Same H H'->H' l=some (.lst ((ug m rs r par dep (fun v=>xs.getD v.toNat 0) (ned rs par)).map V.int))->Q (.ref l) H') /\
 (bz m xs=false->∀ H',Same H H'->E (.ref T.BadWish) none H')/\(bz m xs=true->¬ (0<=r/\r<m)->∀ H',Same H H'->E (.ref T.NoPlace) none H')
abbrev cQ:Stmt:=top 32
theorem u6:FnScope ["web","wish","r","found","place","front"] ["web","wish","r"] (aa cQ):=FnScope.of (by kernel_rfl)
theorem qf:NmL (aa cQ) "web":=.of (by kernel_rfl)
theorem Dl:NmL (aa cQ) "wish":=.of (by kernel_rfl)
theorem Jq:NmL (aa cQ) "r":=.of (by kernel_rfl)
theorem jN:NmL (aa cQ) "found":=.of (by kernel_rfl)
theorem mh:NmL (aa cQ) "place":=.of (by kernel_rfl)
theorem mD:NmL (aa cQ) "front":=.of (by kernel_rfl)
theorem nX:NmG (aa cQ) "list":=.of (by kernel_rfl)
theorem pC:NmG (aa cQ) "wish_of":=.of (by kernel_rfl)
theorem qN:NmG (aa cQ) "inward":=.of (by kernel_rfl)
theorem u8:NmG (aa cQ) "toll":=.of (by kernel_rfl)
theorem OB (T:Txt K mg) (hq:bd (CXe P w)) {f:Addr} {fd:FuncData} (D:Df K mg "needs" cQ ["web","wish","r"] f fd) {gc:Addr} {nC:FuncData} (fD:Df K mg "inward" cK ["web","r"] gc nC) (G_inward:FnOk P w K mg base (CXe P w) 7 gc nC ["web","r"] (qJ T)) {dg:Addr} {eJ:FuncData} (cw:Df K mg "toll" cS ["web","a","b"] dg eJ) (G_toll:FnOk P w K mg base (CXe P w) 3 dg eJ ["web","a","b"] (oO T)) {fj:Addr} {lQ:FuncData} (eC:Df K mg "wish_of" cN ["web","numbers"] fj lQ) (G_wish_of:FnOk P w K mg base (CXe P w) 2 fj lQ ["web","numbers"] (tT T)):FnOk P w K mg base (CXe P w) 8 f fd ["web","wish","r"] (EG T):=by
 refine D.F.okX u6 (fun vs H Q E h=>?_) (fun cdv A outer s H vs Q E hr h=>?_)
 . obtain ⟨p,a,t,c,m,ps,rs,xs,r,rfl,_⟩:=h
   rfl
 . obtain ⟨p,a,t,c,m,ps,rs,xs,r,rfl,W,ha,hz,k,e,e'⟩:=h;have g:=W.go;have m24:=g.m24;refine ⟨_,(aj (az (i:=3) u6.nd rfl (Or.inl jN.l) (jl xJ nX.g T.list HK (ag (ax G_wish_of (hr.mono (by decide)) pC.g eC.m eC.F.kp eC.b .nil dI (ag (pvl 0 qf) (ag (pvl 1 Dl) ao)) (hdb:=pC.d)) ao) (hn:=nX.n) (hdb:=nX.d))) (aj (dN PassesOwn.leaving rfl (jI (ax G_inward (hr.mono (by decide)) qN.g fD.m fD.F.kp fD.b .nil dI (ag (pvl 0 qf) (ag (pvl 2 Jq) ao)) (hdb:=qN.d))) (nu (n:=2) rfl (bF (aI (i:=4) u6.nd rfl (Or.inl mh.l)) (bF (aI (i:=5) u6.nd rfl (Or.inl mD.l)) jR))) (au (G9 (pvl 3 jN) (pvl 5 mD) Ga (aw jq (bi bg (pvl 3 jN) (pvl 4 mh) (fun _ _=>rfl)) (ax G_toll (hr.mono (by decide)) u8.g cw.m cw.F.kp cw.b .nil dI (ag (pvl 0 qf) (ag (pvl 5 mD) (ag (pvl 4 mh) ao))) (hdb:=u8.d))) L0 gd))) (au (aU (pvl 3 jN))))),?_⟩;rw [show L2.start ["web","wish","r","found","place","front"] [V.ref p,V.ref a,V.int r]=[some (V.ref p),some (V.ref a),some (V.int r),none,none,none] from rfl];walk_at "rd";refine ex8 p a t c m ps rs xs ?_;refine an6 rfl W ha hz (fun fi l0 H0 s0 e0=>?_) e;have xl:(xs.length:Int)=m:=by
     unfold bz at fi;rw [Bool.and_eq_true] at fi;exact of_decide_eq_true fi.1
   refine ⟨l0,rfl,_,.inr e0,fun l n1=>?_⟩;have s1:=Same.new (.lst (xs.map V.int)) n1;have s01:=s0.trans s1;have nl:=s0.free n1;have e1:upd H0 l (.lst (xs.map V.int)) l=some (.lst (xs.map V.int)):=ah;generalize upd H0 l (.lst (xs.map V.int))=H1 at s1 s01 e1 ⊢;refine ex6 p t m ps rs r ?_;refine an4 rfl (W.same s01) (fun r0 r1=>?_) (fun z=>e' fi z H1 s01);obtain ⟨par,dep,R,k⟩:=k fi r0 r1;refine ⟨par,dep,R,fun l2 qs tl H2 _ n2 s2 e2 pa O=>?_⟩;have nll:l2≠l:=fun z=>by rw [z,e1] at n2;cases n2
   refine ⟨l2,rfl,⟨_,SqL.of e2⟩,?_⟩;have ql:qs.length=tl.reverse.length:=Paired.length pa;refine m9 (K:=K) (xs:=qs.map V.ref) (fun i σ H3=>Same H H3/\H3 l2=some (.lst (qs.map V.ref))/\PairsAt H3 par qs tl.reverse/\∃ (cs:List Int) (v4 v5:Option V),H3 l=some (.lst (cs.map V.int))/\Sofar m rs r par dep (fun v=>xs.getD v.toNat 0) (ned rs par) (tl.drop (tl.length - i)) cs/\σ=[some (V.ref p),some (V.ref a),some (V.int r),some (V.ref l),v4,v5]) ⟨s01.trans s2,e2,pa,xs,_,_,s2 _ _ e1,by rw [Nat.sub_zero,List.drop_length];exact Sofar.nil xl,rfl⟩ (fun i σ H3 _ z=>SqL.of z.2.1) ?_ ?_
   . rintro i x σ H3 N BB hBB hN hx ⟨s3,e3,pa3,cs,v4,v5,c3,so,rfl⟩;refine hBB _ _ ?_;obtain ⟨q,v,rfl,hq,hv,eq⟩:=pa3.get hx;obtain ⟨⟨vr,vn⟩,ev,so'⟩:=O.turn g R so hv;have u:=R.up v vr.1 vr.2 vn;obtain ⟨kk,hk,k0,k1⟩:=r6 g R vr.1 vr.2 vn;have cl:=so.len;walk_at "rd";refine ⟨_,SqT.of eq,rfl,_,_,rfl,_,_,rfl,rfl,?_⟩;refine ixL c3 (atG u.1.1 (by omega)) (ixL c3 (atG vr.1 (by omega)) ?_);refine ⟨p,t,m,ps,rs,par v,v,rfl,W.same s3,fun k' _ _ _ _ h=>?_,fun z=>absurd ⟨u.1,vr⟩ z,fun _ _ _ _ z=>by rw [hk] at z;cases z⟩;rw [hk] at h;cases h;refine ⟨_,rfl,_,rfl,.inr ⟨by omega,by omega⟩,_,rfl,xP c3 u.1.1 (by rw [List.length_map];omega) (hN _ _ ⟨s3.put nl _,?_,?_,uB par (ned rs par) cs v,_,_,?_,so',rfl⟩)⟩
     . rw [aq nll];exact e3
     . exact Paired.imp' (fun a b h=>by rw [aq (fM h c3 (by intro z;cases z))];exact h) pa3
     . rw [ah,<- List.map_set];unfold uB ned;rw [hk]
       rfl
   . rintro BB σ H3 hBB ⟨s3,e3,pa3,cs,v4,v5,c3,so,rfl⟩;refine hBB _ _ ?_;rw [List.length_map,ql,List.length_reverse,Nat.sub_self,List.drop_zero] at so;rw [O.done g R so] at c3;walk_at "rd";exact k l H3 nl s3 c3
theorem OutAt.put {C O:Addr} {H:Hp} {o p t:Addr} {m:Int} {ps:List Addr} {rs:List Road} {r:Int} {par:Int->Int} {dep:Int->Nat} {nd:Int->Int} {na ka ia:Addr} {kl:List Addr} {bs:List V} {S:Int->Prop} (h:OutAt C O H o p t m ps rs r par dep nd na ka ia kl bs S) (hna:na≠ia) (hka:ka≠ia) (hkl:∀ q∈kl,q≠ia) (hd:∀ c,S c->0<=c/\∀ a,atI bs c=some (.ref a)->a≠ia) (bl:bs.length=m.toNat) {v:Int} (v0:0<=v) (v1:v<m) (hS:∀ c∈kd m rs r par v,S c) {l:Addr} (hl:H l=some (.lst ((idl m rs r par dep nd v).map V.int))) (nl:l≠ia) :
   OutAt C O (upd H ia (.lst (bs.set v.toNat (.ref l)))) o p t m ps rs r par dep nd na ka ia kl (bs.set v.toNat (.ref l)) (fun c=>c=v\/S c) where
 ob:=by
   obtain ⟨dx,q⟩:=h.ob;exact ⟨dx,by rw [aq (fM q h.hi (by intro z;cases z))];exact q⟩
 web:=by
   have W:=h.web;refine ⟨?_,?_,?_,W.go⟩
   . obtain ⟨dx,q⟩:=W.ob;exact ⟨dx,by rw [aq (fM q h.hi (by intro z;cases z))];exact q⟩
   . rw [aq (fM W.tu h.hi (by intro z;cases z))];exact W.tu
   . exact Paired.imp' (fun q x e=>by rw [aq (fM e h.hi (by intro z;cases z))];exact e) W.ro
 rt:=h.rt
 hn:=by rw [aq hna];exact h.hn
 hk:=by rw [aq hka];exact h.hk
 kp:=Cl (fun q x hq e=>by rw [aq (hkl q hq)];exact e) h.kp
 hi:=ah
 done:=fun c hc=>by
   by_cases e:c=v
   . subst e;refine ⟨l,gD v0 ?_,by rw [aq nl];exact hl⟩;rw [List.getElem?_set_self (by omega)]
   . have hc:=hc.resolve_left e;obtain ⟨a,h1,h2⟩:=h.done c hc;obtain ⟨c0,h3⟩:=hd c hc;refine ⟨a,gD c0 ?_,by rw [aq (h3 a h1)];exact h2⟩;rw [List.getElem?_set_ne (by omega)];exact (zW c0).symm.trans h1
 cl:=fun u u0 u1 hu c hc=>by
   rcases hu with rfl|hu
   . exact .inr (hS c hc)
   . exact .inr (h.cl u u0 u1 hu c hc)
theorem OutAt.sub {C O:Addr} {H:Hp} {o p t:Addr} {m:Int} {ps:List Addr} {rs:List Road} {r:Int} {par:Int->Int} {dep:Int->Nat} {nd:Int->Int} {na ka ia:Addr} {kl:List Addr} {bs:List V} {S:Int->Prop} {S':Int->Prop} (h:OutAt C O H o p t m ps rs r par dep nd na ka ia kl bs S) (f:∀ c,S' c->S c) (cl:∀ u,0<=u->u<m->S' u->∀ c∈kd m rs r par u,S' c):OutAt C O H o p t m ps rs r par dep nd na ka ia kl bs S' :=
 ⟨h.ob,h.web,h.rt,h.hn,h.hk,h.kp,h.hi,fun c hc=>h.done c (f c hc),cl⟩
theorem WebAt.kpt {C O:Addr} {H H':Hp} {o p:Addr} {m:Int} {t dx:Addr} {ps:List Addr} {rs:List Road} (e:Kpt o H H') (ho:H o=some (.ins O dx [])) (h:WebAt C H p m t ps rs):WebAt C H' p m t ps rs :=
 ⟨let ⟨dx,q⟩:=h.ob;⟨dx,e _ _ q (fM q ho (by intro z;cases z))⟩,e _ _ h.tu (fM h.tu ho (by intro z;cases z)),Paired.imp' (fun q x z=>e _ _ z (fM z ho (by intro z;cases z))) h.ro,h.go⟩
def md (T:Txt K mg):Sp:=fun vs H Q _=>∃ (o dx p a t:Addr) (c:Bool) (m:Int) (ps:List Addr) (rs:List Road) (xs:List Int) (r:Int),vs=[.ref o,.ref p,.ref a,.int r]/\H o=some (.ins T.Outlook dx [])/\WebAt T.Web H p m t ps rs/\SqX K c H a (xs.map V.int)/\bz m xs=true/\(0<=r/\r<m) /\
 ∃ par dep,Rooted m rs r par dep/\∀ na ka ia kl bs H',OutAt T.Web T.Outlook H' o p t m ps rs r par dep (gat m rs r par dep (fun v=>xs.getD v.toNat 0) (ned rs par)) na ka ia kl bs (fun v=>(0<=v/\v<m)/\v≠r)->(∀ b x,H b=some x->b≠o->H' b=some x)->Q .non H'
abbrev aA:Stmt:=Hm (top 37) 0
theorem iP:FnScope ["self","web","wish","r","place","front"] ["self","web","wish","r"] (aa aA):=FnScope.of (by kernel_rfl)
theorem bQ:NmL (aa aA) "self":=.of (by kernel_rfl)
theorem cI:NmC (aa aA) "web":=.of (by kernel_rfl)
theorem pL:NmL (aa aA) "wish":=.of (by kernel_rfl)
theorem gB:NmL (aa aA) "r":=.of (by kernel_rfl)
theorem eU:NmL (aa aA) "place":=.of (by kernel_rfl)
theorem iT:NmL (aa aA) "front":=.of (by kernel_rfl)
theorem jb:NmG (aa aA) "needs":=.of (by kernel_rfl)
theorem l7:NmG (aa aA) "enumerate":=.of (by kernel_rfl)
theorem i9:NmG (aa aA) "ahead":=.of (by kernel_rfl)
theorem iq:NmG (aa aA) "inward":=.of (by kernel_rfl)
theorem gq:NmG (aa aA) "idle_load":=.of (by kernel_rfl)
theorem vz (T:Txt K mg) (hq:bd (CXe P w)) {f:Addr} {fd:FuncData} (F:Fun K "__init__" "Outlook.__init__" aA f fd) {fk:Addr} {jf:FuncData} (dy:Df K mg "ahead" cF ["web","r"] fk jf) (G_ahead:FnOk P w K mg base (CXe P w) 5 fk jf ["web","r"] (uR T)) {gi:Addr} {wA:FuncData} (iC:Df K mg "idle_load" bW ["outlook","place","front"] gi wA) (G_idle_load:FnOk P w K mg base (CXe P w) 55 gi wA ["outlook","place","front"] (vL T)) {gc:Addr} {nC:FuncData} (fD:Df K mg "inward" cK ["web","r"] gc nC) (G_inward:FnOk P w K mg base (CXe P w) 7 gc nC ["web","r"] (qJ T)) {gI:Addr} {kQ:FuncData} (eT:Df K mg "kids" fB ["web","place","front"] gI kQ) (G_kids:FnOk P w K mg base (CXe P w) 4 gI kQ ["web","place","front"] (xW T)) {mM:Addr} {EY:FuncData} (oM:Df K mg "needs" cQ ["web","wish","r"] mM EY) (G_needs:FnOk P w K mg base (CXe P w) 8 mM EY ["web","wish","r"] (EG T)):FnOk P w K mg base (CXe P w) 56 f fd ["self","web","wish","r"] (md T):=by
 refine F.okC iP (fun vs H Q E h=>?_) (fun cdv A outer s H vs Q E hr h=>?_)
 . obtain ⟨o,dx,p,a,t,c,m,ps,rs,xs,r,rfl,_⟩:=h
   rfl
 . obtain ⟨o,dx,p,a,t,c,m,ps,rs,xs,r,rfl,ho,W,ha,fi,rr,par,dep,R,k⟩:=h;have g:=W.go;have m24:=g.m24;obtain ⟨dw,wb⟩:=W.ob;refine ⟨_,(aj (sA (pvl 0 bQ) (pvc 1 cI) rfl) (aj (sA (pvl 0 bQ) (ax G_needs (hr.mono (by decide)) jb.g oM.m oM.F.kp oM.b .nil (aN hq) (ag (pvc 1 cI) (ag (pvl 2 pL) (ag (pvl 3 gB) ao))) (hdb:=jb.d)) rfl) (aj (sA (pvl 0 bQ) (oJ rfl (sq (Nc:=["place","front","web"]) 2 [1] (by decide +kernel) rfl (by decide +kernel) rfl (by show ∀ (y:Str × NameKind),y∈_->y.2=NameKind.free->(aa aA).names.lookup y.1=some NameKind.cell;decide +kernel) rfl (fun _ h=>kf h) (fun i hi=>match i,hi with|0,_=>⟨"web",1,rfl,rfl,rfl,by decide +kernel⟩|i+1,hi=>absurd hi (by show ¬ i+1<1;omega))) (Qm true l7.g T.enumerate (ax G_ahead (hr.mono (by decide)) i9.g dy.m dy.F.kp dy.b .nil (aN hq) (ag (pvc 1 cI) (ag (pvl 3 gB) ao)) (hdb:=i9.d))) (fun _ _ _ _=>(HG K rfl (n:=2) rfl (bF (aI (i:=0) (show (["place","front","web"]:List Str).Nodup from by decide +kernel) rfl (Or.inl rfl)) (bF (aI (i:=1) (show (["place","front","web"]:List Str).Nodup from by decide +kernel) rfl (Or.inl rfl)) jR)))) (fun _ _ _ _=>sD) (fun _ _ _ _=>(ax G_kids (hr.mono (by decide)) (by rfl) eT.m eT.F.kp eT.b .nil (aN hq) (ag (pv 2) (ag (pv 0) (ag (pv 1) ao)))))) rfl) (aj (sA (pvl 0 bQ) (aw vX (eE (ag vT ao)) (di  (pvc 1 cI) rfl)) rfl) (au (dN PassesOwn.never rfl (jI (ax G_inward (hr.mono (by decide)) iq.g fD.m fD.F.kp fD.b .nil (aN hq) (ag (pvc 1 cI) (ag (pvl 3 gB) ao)) (hdb:=iq.d))) (nu (n:=2) rfl (bF (aI (i:=4) iP.nd rfl (Or.inl eU.l)) (bF (aI (i:=5) iP.nd rfl (Or.inl iT.l)) jR))) (au (j7 (ax G_idle_load (hr.mono (by decide)) gq.g iC.m iC.F.kp iC.b .nil (aN hq) (ag (pvl 0 bQ) (ag (pvl 4 eU) (ag (pvl 5 iT) ao))) (hdb:=gq.d)) (nh (di  (pvl 0 bQ) rfl) (pvl 4 eU) gd))))))))),?_⟩;rw [show L2.start ["self","web","wish","r","place","front"] [V.ref o,V.ref p,V.ref a,V.int r]=[some (V.ref o),some (V.ref p),some (V.ref a),some (V.int r),none,none] from rfl];walk_at "rd";have xl:(xs.length:Int)=m:=by
     have fi:=fi;unfold bz at fi;rw [Bool.and_eq_true] at fi;exact of_decide_eq_true fi.1
   refine ⟨T.Outlook,dx,[],ho,T.b4,T.n_web,by decide,?_⟩;have k1:Kpt o H (upd H o (.ins T.Outlook dx (aV "web" (.ref p) []))):=Kpt.refl.put _;have o1:upd H o (.ins T.Outlook dx (aV "web" (.ref p) [])) o=some (.ins T.Outlook dx (aV "web" (.ref p) [])):=ah;generalize upd H o (.ins T.Outlook dx (aV "web" (.ref p) []))=H1 at k1 o1 ⊢;refine ⟨p,a,t,c,m,ps,rs,xs,r,rfl,W.kpt k1 ho,k1.sqX ho ha,by omega,fun _ _ _=>⟨par,dep,R,fun na H2 n2 s2 e2=>?_⟩,fun z=>(by rw [fi] at z;cases z),fun _ z=>absurd rr z⟩;have k2:=k1.then s2;refine ⟨T.Outlook,dx,_,s2 _ _ o1,T.b4,T.xU,by show 1<1000;decide,?_⟩;have nao:na≠o:=fun z=>by rw [z,o1] at n2;cases n2
   have k3:=k2.put (.ins T.Outlook dx (aV "needs" (.ref na) (aV "web" (.ref p) [])));have o3:upd H2 o (.ins T.Outlook dx (aV "needs" (.ref na) (aV "web" (.ref p) []))) o=some (.ins T.Outlook dx (aV "needs" (.ref na) (aV "web" (.ref p) []))):=ah;have e3:upd H2 o (.ins T.Outlook dx (aV "needs" (.ref na) (aV "web" (.ref p) []))) na=_:=(aq nao).trans e2;generalize upd H2 o (.ins T.Outlook dx (aV "needs" (.ref na) (aV "web" (.ref p) [])))=H3 at k3 o3 e3 ⊢;have W3:=W.kpt k3 ho;refine ⟨p,t,m,ps,rs,r,rfl,W3,fun _ _=>⟨par,dep,R,fun la H4 n4 s4 e4=>⟨la,rfl,⟨_,SqL.of e4⟩,fun ka nka=>?_⟩⟩,fun z=>absurd rr z⟩;have n3ka:=s4.free nka;refine LZ (K:=K) (c:=true) (xs:=lV m r par) (fun i ys σ H5=>Same H4 H5/\H5 ka=some (.lst ys)/\(∃ kl:List Addr,ys=kl.map V.ref/\Paired (fun a v=>H5 a=some (.lst ((kd m rs r par v).map V.int))) kl ((below m.toNat).take i)/\∀ q∈kl,q≠ka)/\∃ v w,σ=[v,w,some (V.ref p)]) ⟨Same.new _ nka,ah,⟨[],rfl,.nil,by simp⟩,_,_,rfl⟩ (fun i ys σ H5 z=>SqL.of (z.1 _ _ e4)) ?_ ?_
   . rintro i x ys σ H5 q N hN hx ⟨s5,e5,⟨kl,rfl,pk,hkq⟩,v,w,rfl⟩ nq;have il:i<m.toNat:=by
       have:=(List.getElem?_eq_some_iff.mp hx).1;unfold lV at this
       rwa [List.length_map,bh] at this
     have ex:x=Pb.front r par (i:Int):=by
       have:=zA (m:=m) (r:=r) (par:=par) (v:=(i:Int)) (by omega) (by omega);rw [show ((i:Int)).toNat=i from rfl,hx] at this;exact Option.some.inj this
     have qe:=s5 _ _ e4;have s6:=Same.new (.tup [V.int i,x]) nq;have s46:=s5.trans s6;have et:(below m.toNat).take (i+1)=(below m.toNat).take i++[(i:Int)]:=(by rw [List.take_succ,fZ il];rfl);have kll:kl.length<=24:=by
       have:=Paired.length pk;rw [List.length_take] at this;omega
     walk_at "rd";refine ⟨_,SqT.of ah,rfl,_,_,rfl,_,_,rfl,rfl,?_⟩;refine ⟨p,t,m,ps,rs,i,x,rfl,W3.same (s4.trans s46),by omega,by omega,?_,fun l6 H6 n6 s7 e7=>?_⟩
     . rw [ex];unfold Pb.front;split
       . exact .inl rfl
       . exact .inr ⟨_,rfl⟩
     have s57:=s6.trans s7;refine ⟨s57 _ _ e5,dH (by rw [List.length_map];omega),hN _ _ _ ⟨(s5.trans s57).put nka _,ah,⟨kl++[l6],by rw [List.map_append];rfl,?_,fun q hq=>?_⟩,_,_,rfl⟩⟩;have nk:l6≠ka:=fun z=>by rw [z,s6 _ _ e5] at n6;cases n6
     rotate_left
     . rcases List.mem_append.mp hq with h|h
       . exact hkq q h
       . rw [List.mem_singleton.mp h];exact fun z=>by rw [z,s6 _ _ e5] at n6;cases n6
     rw [et];refine FN (by rw [aq nk,e7,ex]) (Cl (fun q v hq h=>?_) pk);have e:q≠ka:=fun z=>hkq q hq z;rw [aq e];exact s57 _ _ h
   . rintro ys σ H5 ⟨s5,e5,⟨kl,rfl,pk,hkq⟩,v,w,rfl⟩;rw [show (lV m r par).length=m.toNat by unfold lV;rw [List.length_map,bh],List.take_of_length_le (by rw [bh];exact Nat.le_refl _)] at pk;have o5:=s5 _ _ (s4 _ _ o3);have k5:=(k3.then s4).then s5;have e5n:=s5 _ _ (s4 _ _ e3);refine ⟨T.Outlook,dx,_,o5,T.b4,T.ET,by show 2<1000;decide,by decide,fun l1 n1=>?_⟩;have kao:ka≠o:=fun z=>by rw [z,o5] at e5;cases e5
     have k6:=k5.put (.ins T.Outlook dx (aV "kids" (.ref ka) (aV "needs" (.ref na) (aV "web" (.ref p) []))));have o6:upd H5 o (.ins T.Outlook dx (aV "kids" (.ref ka) (aV "needs" (.ref na) (aV "web" (.ref p) [])))) o=some (.ins T.Outlook dx (aV "kids" (.ref ka) (aV "needs" (.ref na) (aV "web" (.ref p) [])))):=ah;have e6:upd H5 o (.ins T.Outlook dx (aV "kids" (.ref ka) (aV "needs" (.ref na) (aV "web" (.ref p) [])))) ka=_:=(aq kao).trans e5;have e6n:upd H5 o (.ins T.Outlook dx (aV "kids" (.ref ka) (aV "needs" (.ref na) (aV "web" (.ref p) [])))) na=_:=(aq nao).trans e5n;have pk6:Paired (fun a v=>upd H5 o (.ins T.Outlook dx (aV "kids" (.ref ka) (aV "needs" (.ref na) (aV "web" (.ref p) [])))) a=some (.lst ((kd m rs r par v).map V.int))) kl (below m.toNat):=Paired.imp' (fun q v h=>by rw [aq (fM h o5 (by intro z;cases z))];exact h) pk;generalize upd H5 o (.ins T.Outlook dx (aV "kids" (.ref ka) (aV "needs" (.ref na) (aV "web" (.ref p) []))))=H6 at k6 o6 e6 e6n pk6 n1 ⊢;have s7:=Same.new (.lst [V.non]) n1;obtain ⟨dw',wb'⟩:=(W.kpt k6 ho).ob;refine ⟨T.Web,dw',_,s7 _ _ wb',T.j2,T.n_many,_,lO _ _,?_⟩;refine ⟨l1,m,[V.non],rfl,rfl,ah,by omega,by omega,bE (by simp;omega),fun ia nia=>?_⟩;rw [uA];have s8:=s7.trans (Same.new (.lst (List.replicate m.toNat V.non)) nia);have i8:upd (upd H6 l1 (.lst [V.non])) ia (.lst (List.replicate m.toNat V.non)) ia=some (.lst (List.replicate m.toNat V.non)):=ah;have nia6:=s7.free nia;generalize upd (upd H6 l1 (.lst [V.non])) ia (.lst (List.replicate m.toNat V.non))=H8 at s8 i8 ⊢;have o8:=s8 _ _ o6;refine ⟨T.Outlook,dx,_,o8,T.b4,T.n_idle,by show 3<1000;decide,?_⟩;have k8:=(k6.then s8).put (.ins T.Outlook dx (jQ p na ka ia));have iao:ia≠o:=fun z=>by rw [z,o6] at nia6;cases nia6
     have O9:OutAt T.Web T.Outlook (upd H8 o (.ins T.Outlook dx (jQ p na ka ia))) o p t m ps rs r par dep (gat m rs r par dep (fun v=>xs.getD v.toNat 0) (ned rs par)) na ka ia kl (List.replicate m.toNat V.non) (fun _=>False) :=
       ⟨⟨dx,ah⟩,W.kpt k8 ho,R,(aq nao).trans (s8 _ _ e6n),(aq kao).trans (s8 _ _ e6),Paired.imp' (fun q v h=>by rw [aq (fM h o6 (by intro z;cases z))];exact s8 _ _ h) pk6,(aq iao).trans i8,fun c z=>z.elim,fun u _ _ z=>z.elim⟩
     have k9:=k8;show qJ T [V.ref p,V.int r] (upd H8 o (.ins T.Outlook dx (jQ p na ka ia))) _ _;generalize upd H8 o (.ins T.Outlook dx (jQ p na ka ia))=H9 at O9 k9 ⊢;have hia:H ia=none:=by
       cases e:H ia with
       | none=>rfl
       | some x=>rw [k6 _ _ e iao] at nia6;cases nia6
     have hna:na≠ia:=fun z=>by rw [<- z,e6n] at nia6;cases nia6
     have hka:ka≠ia:=fun z=>by rw [<- z,e6] at nia6;cases nia6
     have hkl:∀ q∈kl,q≠ia:=fun q hq z=>by
       obtain ⟨v,hv⟩:=G6 pk6 hq;rw [z,nia6] at hv;cases hv
     refine ⟨p,t,m,ps,rs,r,rfl,O9.web,fun _ _=>⟨par,dep,R,fun lq qs tl H10 et n10 s10 e10 pa Or=>⟨lq,rfl,⟨_,SqL.of e10⟩,?_⟩⟩,fun z=>absurd rr z⟩;have nlq:lq≠ia:=fun z=>by rw [z,O9.hi] at n10;cases n10
     refine m9 (K:=K) (xs:=qs.map V.ref) (fun i σ H11=>Kpt o H H11/\H11 lq=some (.lst (qs.map V.ref))/\PairsAt H11 par qs tl.reverse/\∃ (bs:List V) (v4 v5:Option V),OutAt T.Web T.Outlook H11 o p t m ps rs r par dep (gat m rs r par dep (fun v=>xs.getD v.toNat 0) (ned rs par)) na ka ia kl bs (fun c=>c∈tl.drop (tl.length - i))/\bs.length=m.toNat/\(∀ c,c∈tl.drop (tl.length - i)->∀ a,atI bs c=some (.ref a)->a≠ia)/\σ=[some (V.ref o),some (V.ref p),some (V.ref a),some (V.int r),v4,v5]) ⟨k9.then s10,e10,pa,List.replicate m.toNat V.non,_,_,(O9.same s10).sub (fun c hc=>?_) (fun u _ _ hu=>?_),List.length_replicate,fun c hc=>?_,rfl⟩ (fun i σ H11 _ z=>SqL.of z.2.1) ?_ ?_
     . rw [Nat.sub_zero,List.drop_length] at hc;cases hc
     . rw [Nat.sub_zero,List.drop_length] at hu;cases hu
     . rw [Nat.sub_zero,List.drop_length] at hc;cases hc
     . rintro i x σ H11 N BB hBB hN hx ⟨k11,e11,pa11,bs,v4,v5,O11,bl,hda,rfl⟩;refine hBB _ _ ?_;obtain ⟨q,v,rfl,hq,hv,eq⟩:=pa11.get hx;obtain ⟨⟨vr,vn⟩,ed,_,hdp,hdk⟩:=Or.cut R hv;have hS:∀ c∈kd m rs r par v,c∈tl.drop (tl.length - i):=fun c hc=>by
         have w:=(aO g R vr.1 vr.2).mp hc;exact hdk c w.1.1 w.1.2 w.2.1 w.2.2
       walk_at "rd";refine ⟨_,SqT.of eq,rfl,_,_,rfl,_,_,rfl,rfl,?_⟩;refine ⟨o,p,t,m,ps,rs,r,par,dep,_,na,ka,ia,kl,bs,_,v,rfl,O11,vr,vn,hS,fun l H12 n12 s12 e12=>?_⟩;have O12:=O11.same s12;obtain ⟨dx',ob'⟩:=O12.ob;have nl:l≠ia:=fun z=>by rw [z,O11.hi] at n12;cases n12
       refine ⟨T.Outlook,dx',_,ob',T.b4,T.n_idle,_,zO _ _ _ _,xP O12.hi vr.1 (by omega) (hN _ _ ⟨?_,?_,?_,_,_,_,(O12.put hna hka hkl (fun c hc=>⟨(hdp c hc).1.1,hda c hc⟩) bl vr.1 vr.2 hS e12 nl).sub (fun c hc=>?_) (fun u u0 u1 hu c hc=>?_),?_,?_,rfl⟩)⟩
       . exact fun b y hb nb=>by rw [aq (bf hb hia)];exact s12 _ _ (k11 b y hb nb)
       . rw [aq nlq];exact s12 _ _ e11
       . exact Paired.imp' (fun a b h=>by rw [aq (fM (s12 _ _ h) O12.hi (by intro z;cases z))];exact s12 _ _ h) pa11
       . rw [ed] at hc;exact List.mem_cons.mp hc
       . rw [ed];rw [ed] at hu;rcases List.mem_cons.mp hu with rfl|hu
         . exact List.mem_cons_of_mem _ (hS c hc)
         . exact List.mem_cons_of_mem _ (O11.cl u u0 u1 hu c hc)
       . rw [List.length_set];exact bl
       . intro c hc a' ha';rw [ed] at hc;by_cases e:c=v
         . subst e;rw [zW vr.1,List.getElem?_set_self (by omega)] at ha';cases ha';exact nl
         . have hc:=(List.mem_cons.mp hc).resolve_left e;have c0:=(hdp c hc).1.1;rw [zW c0,List.getElem?_set_ne (by omega),<- zW c0] at ha';exact hda c hc a' ha'
     . rintro BB σ H11 hBB ⟨k11,e11,pa11,bs,v4,v5,O11,bl,hda,rfl⟩;refine hBB _ _ ?_;have ql:qs.length=tl.reverse.length:=Paired.length pa11;rw [List.length_map,ql,List.length_reverse,Nat.sub_self,List.drop_zero] at O11;walk_at "rd";refine k na ka ia kl bs H11 (O11.sub (fun c hc=>?_) (fun u u0 u1 hu c hc=>?_)) k11
       . exact (Or.all c hc.1.1 hc.1.2).resolve_left hc.2
       . have w:=(aO g R u0 u1).mp hc;exact ⟨w.1,w.2.1⟩
def Ae (T:Txt K mg):Sp:=fun vs H Q _=>∃ (p a t:Addr) (c:Bool) (m:Int) (ps:List Addr) (rs:List Road) (xs:List Int) (r:Int),vs=[.ref p,.ref a,.int r]/\WebAt T.Web H p m t ps rs/\SqX K c H a (xs.map V.int)/\bz m xs=true/\(0<=r/\r<m) /\
 ∃ par dep,Rooted m rs r par dep/\∀ l H',H l=none->Same H H'->H' l=some (.tup ((gld m rs r par dep (oz m rs r par dep xs) r (-1)).map V.int))->Q (.ref l) H'
abbrev cP:Stmt:=top 36
theorem JS:FnScope ["web","wish","r"] ["web","wish","r"] (aa cP):=FnScope.of (by kernel_rfl)
theorem Bs:NmL (aa cP) "web":=.of (by kernel_rfl)
theorem AQ:NmL (aa cP) "wish":=.of (by kernel_rfl)
theorem vZ:NmL (aa cP) "r":=.of (by kernel_rfl)
theorem kJ:NmG (aa cP) "tuple":=.of (by kernel_rfl)
theorem jw:NmG (aa cP) "greatest_load":=.of (by kernel_rfl)
theorem m5:NmG (aa cP) "Outlook":=.of (by kernel_rfl)
theorem Ja (T:Txt K mg) (hq:bd (CXe P w)) {f:Addr} {fd:FuncData} (D:Df K mg "failing" cP ["web","wish","r"] f fd) {f_Outlook___init__:Addr} {iM:FuncData} (F_Outlook___init__:Fun K "__init__" "Outlook.__init__" aA f_Outlook___init__ iM) (b_Outlook:Binds K iM ["self","web","wish","r"] []) (wt:Mk K T.Outlook f_Outlook___init__) (G_Outlook_init:FnOk P w K mg base (CXe P w) 56 f_Outlook___init__ iM ["self","web","wish","r"] (md T)) {bn:Addr} {cg:FuncData} (D_greatest_load:Df K mg "greatest_load" aB ["outlook","place","over"] bn cg) (G_greatest_load:FnOk P w K mg base (CXe P w) 54 bn cg ["outlook","place","over"] (kI T)):FnOk P w K mg base (CXe P w) 58 f fd ["web","wish","r"] (Ae T):=by
 refine D.F.okC JS (fun vs H Q E h=>?_) (fun cdv A outer s H vs Q E hr h=>?_)
 . obtain ⟨p,a,t,c,m,ps,rs,xs,r,rfl,_⟩:=h
   rfl
 . obtain ⟨p,a,t,c,m,ps,rs,xs,r,rfl,W,ha,fi,rr,par,dep,R,k⟩:=h;have m24:=W.go.m24;refine ⟨_,(au (aU (jl kc kJ.g T.tuple uQ (ag (ax G_greatest_load (hr.mono (by decide)) jw.g D_greatest_load.m D_greatest_load.F.kp D_greatest_load.b .nil (aN hq) (ag (Ha wt G_Outlook_init (hr.mono (by decide)) m5.g T.LL b_Outlook .nil (aN hq) (ag (pvl 0 Bs) (ag (pvl 1 AQ) (ag (pvl 2 vZ) ao))) (hdb:=m5.d)) (ag (pvl 2 vZ) (ag (So Rq ap) ao))) (hdb:=jw.d)) ao) (hn:=kJ.n) (hdb:=kJ.d)))),?_⟩;rw [show L2.start ["web","wish","r"] [V.ref p,V.ref a,V.int r]=[some (V.ref p),some (V.ref a),some (V.int r)] from rfl];walk_at "rd";intro o dx no ndx ne;have no1:upd H dx (.own o) o=none:=by rw [aq ne.symm];exact no
   have s0:Same H (upd (upd H dx (.own o)) o (.ins T.Outlook dx [])):=(Same.new _ ndx).trans (Same.new _ no1);refine ⟨o,dx,p,a,t,c,m,ps,rs,xs,r,rfl,ah,W.same s0,Same.sqX s0 ha,fi,rr,par,dep,R,fun na ka ia kl bs H1 O kp=>?_⟩;have s1:Same H H1:=fun b x hb=>kp b x (s0 b x hb) (bf hb no);refine ⟨rfl,?_⟩;refine ⟨o,p,t,m,ps,rs,r,par,dep,_,na,ka,ia,kl,bs,_,r,_,rfl,O,rr,by show m.toNat<=dep r+1+24;omega,fun c hc=>?_,fun l H2 n2 s2 h2=>?_⟩
   . have w:=(aO W.go R rr.1 rr.2).mp hc;exact ⟨w.1,w.2.1⟩
   . refine ⟨l,rfl,_,.inl ⟨SqL.of h2,fun l3 n3=>k l3 _ (s1.free (s2.free n3)) ((s1.trans s2).trans (Same.new _ n3)) ah⟩⟩
def ul (T:Txt K mg):Sp:=fun vs H Q E=>∃ (p a t:Addr) (c:Bool) (m:Int) (ps:List Addr) (rs:List Road) (xs:List Int),vs=[.ref p,.ref a]/\WebAt T.Web H p m t ps rs/\SqX K c H a (xs.map V.int)/\xs.length<=1000 /\
 (bz m xs=true->∀ H',Same H H'->Q (.bl (decide (xs.sum=0))) H')/\(bz m xs=false->∀ H',Same H H'->E (.ref T.BadWish) none H')
abbrev cY:Stmt:=top 35
theorem JW:FnScope ["web","wish"] ["web","wish"] (aa cY):=FnScope.of (by kernel_rfl)
theorem Cr:NmL (aa cY) "web":=.of (by kernel_rfl)
theorem AA:NmL (aa cY) "wish":=.of (by kernel_rfl)
theorem qb:NmG (aa cY) "total":=.of (by kernel_rfl)
theorem nF:NmG (aa cY) "wish_of":=.of (by kernel_rfl)
theorem JL (T:Txt K mg) (hq:bd (CXe P w)) {f:Addr} {fd:FuncData} (D:Df K mg "is_idle" cY ["web","wish"] f fd) {dB:Addr} {fE:FuncData} (b8:Df K mg "total" fw ["numbers"] dB fE) (G_total:FnOk P w K mg base (CXe P w) 1 dB fE ["numbers"] (qd T)) {fj:Addr} {lQ:FuncData} (eC:Df K mg "wish_of" cN ["web","numbers"] fj lQ) (G_wish_of:FnOk P w K mg base (CXe P w) 2 fj lQ ["web","numbers"] (tT T)):FnOk P w K mg base (CXe P w) 3 f fd ["web","wish"] (ul T):=by
 refine D.F.okX JW (fun vs H Q E h=>?_) (fun cdv A outer s H vs Q E hr h=>?_)
 . obtain ⟨p,a,t,c,m,ps,rs,xs,rfl,_⟩:=h
   rfl
 . obtain ⟨p,a,t,c,m,ps,rs,xs,rfl,W,ha,hz,k,e⟩:=h;refine ⟨_,(au (aU (ye fL (ax G_total (hr.mono (by decide)) qb.g b8.m b8.F.kp b8.b .nil dI (ag (ax G_wish_of (hr.mono (by decide)) nF.g eC.m eC.F.kp eC.b .nil dI (ag (pvl 0 Cr) (ag (pvl 1 AA) ao)) (hdb:=nF.d)) ao) (hdb:=qb.d)) ap (aX _)))),?_⟩;rw [show L2.start ["web","wish"] [V.ref p,V.ref a]=[some (V.ref p),some (V.ref a)] from rfl];walk_at "rd";refine ⟨p,a,t,c,m,ps,rs,xs,rfl,W,ha,hz,fun fi l H1 s1 h1=>?_,e⟩;refine ⟨l,_,rfl,.inr h1,?_⟩;refine ⟨rfl,?_⟩;rw [show decide (V.int xs.sum=V.int 0)=decide (xs.sum=0) by by_cases z:xs.sum=0 <;> simp [z]];exact k fi H1 s1
def Fz (T:Txt K mg):Sp:=fun vs H Q E=>∃ (p a t:Addr) (c:Bool) (m:Int) (ps:List Addr) (rs:List Road) (xs:List Int),vs=[.ref p,.ref a]/\WebAt T.Web H p m t ps rs/\SqX K c H a (xs.map V.int)/\xs.length<=1000 /\
 (bz m xs=true->xs.sum≠0->∃ par dep,Rooted m rs (iK m xs) par dep/\∀ l H',H l=none->Same H H'->H' l=some (.tup ((gld m rs (iK m xs) par dep (oz m rs (iK m xs) par dep xs) (iK m xs) (-1)).map V.int))->Q (.ref l) H') /\
 (bz m xs=false->∀ H',Same H H'->E (.ref T.BadWish) none H')/\(bz m xs=true->xs.sum=0->∀ H',Same H H'->E (.ref T.NoWorst) none H')
abbrev dD:Stmt:=top 34
theorem F1:FnScope ["web","wish","wanted_at"] ["web","wish"] (aa dD):=FnScope.of (by kernel_rfl)
theorem pp:NmL (aa dD) "web":=.of (by kernel_rfl)
theorem vo:NmC (aa dD) "wish":=.of (by kernel_rfl)
theorem nG:NmL (aa dD) "wanted_at":=.of (by kernel_rfl)
theorem pN:NmG (aa dD) "is_idle":=.of (by kernel_rfl)
theorem oW:NmG (aa dD) "NoWorst":=.of (by kernel_rfl)
theorem Cv:NmG (aa dD) "range":=.of (by kernel_rfl)
theorem pj:NmG (aa dD) "failing":=.of (by kernel_rfl)
theorem My (T:Txt K mg) (hq:bd (CXe P w)) {f:Addr} {fd:FuncData} (D:Df K mg "fails" dD ["web","wish"] f fd) {jB:Addr} {Ab:FuncData} (kM:Df K mg "failing" cP ["web","wish","r"] jB Ab) (G_failing:FnOk P w K mg base (CXe P w) 58 jB Ab ["web","wish","r"] (Ae T)) {fh:Addr} {lC:FuncData} (ee:Df K mg "is_idle" cY ["web","wish"] fh lC) (G_is_idle:FnOk P w K mg base (CXe P w) 3 fh lC ["web","wish"] (ul T)):FnOk P w K mg base (CXe P w) 59 f fd ["web","wish"] (Fz T):=by
 refine D.F.okX F1 (fun vs H Q E h=>?_) (fun cdv A outer s H vs Q E hr h=>?_)
 . obtain ⟨p,a,t,c,m,ps,rs,xs,rfl,_⟩:=h
   rfl
 . obtain ⟨p,a,t,c,m,ps,rs,xs,rfl,W,ha,hz,k,e,e'⟩:=h;have g:=W.go;have m24:=g.m24;obtain ⟨dw,wb⟩:=W.ob;refine ⟨_,(aj (bU (sP (ax G_is_idle (hr.mono (by decide)) pN.g ee.m ee.F.kp ee.b .nil dI (ag (pvl 0 pp) (ag (pvc 1 vo) ao)) (hdb:=pN.d))) (au (uD T.Kv rfl xR oW.g T.KC (ag Al ao) (hdb:=oW.d))) bj) (aj (Bi (i:=2) F1.nd rfl nG.l rfl (sq (Nc:=["place","wish"]) 1 [1] (by decide +kernel) rfl (by decide +kernel) rfl (by show ∀ (y:Str × NameKind),y∈_->y.2=NameKind.free->(aa dD).names.lookup y.1=some NameKind.cell;decide +kernel) rfl (fun _ h=>kf h) (fun i hi=>match i,hi with|0,_=>⟨"wish",1,rfl,rfl,rfl,by decide +kernel⟩|i+1,hi=>absurd hi (by show ¬ i+1<1;omega))) (m8 Cv.g T.range (ag (di  (pvl 0 pp) rfl) ao)) (fun _ _ _ _=>(aI (i:=0) (show (["place","wish"]:List Str).Nodup from by decide +kernel) rfl (Or.inl rfl))) (fun _ _ _ _=>(BF (aR zV (bi (Ci c K rfl) (pv 1) (pv 0) (fun _ _=>rfl)) ap (aX _)))) (fun _ _ _ _=>(pv 0))) (au (aU (ax G_failing (hr.mono (by decide)) pj.g kM.m kM.F.kp kM.b .nil dI (ag (pvl 0 pp) (ag (pvc 1 vo) (ag (bi bg (pvl 2 nG) ap (fun _ _=>rfl)) ao))) (hdb:=pj.d)))))),?_⟩;rw [show L2.start ["web","wish","wanted_at"] [V.ref p,V.ref a]=[some (V.ref p),some (V.ref a),none] from rfl];walk_at "rd";refine ⟨p,a,t,c,m,ps,rs,xs,rfl,W,ha,hz,fun fi H1 s1=>?_,e⟩;refine ⟨_,rfl,?_⟩;by_cases z:xs.sum=0
   . rw [if_pos (by simpa using z)];exact ⟨by decide,e' fi z H1 s1⟩
   . rw [if_neg (by simpa using z)];obtain ⟨par,dep,R,k⟩:=k fi z;have xl:=Jv fi;have nn:=LH fi;obtain ⟨tl,etl,rr,x0⟩:=Hk xl nn z;refine ⟨T.Web,dw,_,s1 _ _ wb,T.j2,T.n_many,_,lO _ _,m,rfl,by omega,by omega,fun pc npc=>?_⟩;have npc0:=s1.free npc;refine zX (fun i zs σ H3=>Same H1 H3/\H3 pc=some (.lst zs)/\zs=((below i).filter fun v=>decide (0<xs.getD v.toNat 0)).map V.int/\∃ v,σ=[v,some (V.ref a)]) ⟨Same.new _ npc,ah,rfl,_,rfl⟩ ?_ ?_
     . rintro i zs σ H3 N hN hi ⟨s3,e3,rfl,v,rfl⟩;have ll:((below i).filter fun v=>decide (0<xs.getD v.toNat 0)).length<=24:=by
         have h1:=List.length_filter_le (fun v=>decide (0<xs.getD v.toNat 0)) (below i);rw [bh] at h1;omega
       walk_at "rd";rw [Int.zero_add];refine ixX (Same.sqX (s1.trans s3) ha) (atG (by omega) (by omega)) ⟨_,rfl,?_⟩;rw [show ((i:Int)).toNat=i from rfl];by_cases q:0<xs.getD i 0
       . rw [if_pos q];refine ⟨e3,dH (by rw [List.length_map];omega),hN _ _ _ ⟨s3.put npc _,ah,?_,_,rfl⟩⟩;rw [oE,List.filter_append,List.filter_cons_of_pos (by simpa using q),List.filter_nil,List.map_append]
         rfl
       . rw [if_neg q];refine hN _ _ _ ⟨s3,e3,?_,_,rfl⟩;rw [oE,List.filter_append,List.filter_cons_of_neg (by simpa using q),List.filter_nil,List.append_nil]
     . rintro zs σ H3 ⟨s3,e3,rfl,v,rfl⟩;rw [etl] at e3;have s13:=s1.trans s3;refine ixL (v:=V.int (iK m xs)) e3 (gD (by decide) rfl) ?_;exact ⟨p,a,t,c,m,ps,rs,xs,_,rfl,W.same s13,Same.sqX s13 ha,fi,rr,par,dep,R,fun l H4 n4 s4 h4=>k l H4 (s13.free n4) (s13.trans s4) h4⟩
def wY (T:Txt K mg):Sp:=fun vs H Q E=>∃ (p a t:Addr) (c:Bool) (m:Int) (ps:List Addr) (rs:List Road) (xs:List Int),vs=[.ref p,.ref a]/\WebAt T.Web H p m t ps rs/\SqX K c H a (xs.map V.int)/\xs.length<=1000 /\
 (bz m xs=true->xs.sum≠0->∃ par dep,Rooted m rs (iK m xs) par dep/\∀ H',Same H H'->Q (.int ((gld m rs (iK m xs) par dep (oz m rs (iK m xs) par dep xs) (iK m xs) (-1)).sum+1)) H') /\
 (bz m xs=true->xs.sum=0->∀ H',Same H H'->Q (.int 0) H')/\(bz m xs=false->∀ H',Same H H'->E (.ref T.BadWish) none H')
abbrev dX:Stmt:=top 33
theorem K8:FnScope ["web","wish"] ["web","wish"] (aa dX):=FnScope.of (by kernel_rfl)
theorem vq:NmL (aa dX) "web":=.of (by kernel_rfl)
theorem sQ:NmL (aa dX) "wish":=.of (by kernel_rfl)
theorem oh:NmG (aa dX) "is_idle":=.of (by kernel_rfl)
theorem qz:NmG (aa dX) "total":=.of (by kernel_rfl)
theorem qF:NmG (aa dX) "fails":=.of (by kernel_rfl)
theorem LP (T:Txt K mg) (hq:bd (CXe P w)) {f:Addr} {fd:FuncData} (D:Df K mg "always" dX ["web","wish"] f fd) {mP:Addr} {DW:FuncData} (oP:Df K mg "fails" dD ["web","wish"] mP DW) (G_fails:FnOk P w K mg base (CXe P w) 59 mP DW ["web","wish"] (Fz T)) {fh:Addr} {lC:FuncData} (ee:Df K mg "is_idle" cY ["web","wish"] fh lC) (G_is_idle:FnOk P w K mg base (CXe P w) 3 fh lC ["web","wish"] (ul T)) {dB:Addr} {fE:FuncData} (b8:Df K mg "total" fw ["numbers"] dB fE) (G_total:FnOk P w K mg base (CXe P w) 1 dB fE ["numbers"] (qd T)):FnOk P w K mg base (CXe P w) 60 f fd ["web","wish"] (wY T):=by
 refine D.F.okX K8 (fun vs H Q E h=>?_) (fun cdv A outer s H vs Q E hr h=>?_)
 . obtain ⟨p,a,t,c,m,ps,rs,xs,rfl,_⟩:=h
   rfl
 . obtain ⟨p,a,t,c,m,ps,rs,xs,rfl,W,ha,hz,k,e,e'⟩:=h;refine ⟨_,(aj (bU (sP (ax G_is_idle (hr.mono (by decide)) oh.g ee.m ee.F.kp ee.b .nil dI (ag (pvl 0 vq) (ag (pvl 1 sQ) ao)) (hdb:=oh.d))) (au (aU ap)) bj) (au (aU (aw cu (ax G_total (hr.mono (by decide)) qz.g b8.m b8.F.kp b8.b .nil dI (ag (ax G_fails (hr.mono (by decide)) qF.g oP.m oP.F.kp oP.b .nil dI (ag (pvl 0 vq) (ag (pvl 1 sQ) ao)) (hdb:=qF.d)) ao) (hdb:=qz.d)) ap)))),?_⟩;rw [show L2.start ["web","wish"] [V.ref p,V.ref a]=[some (V.ref p),some (V.ref a)] from rfl];walk_at "rd";refine ⟨p,a,t,c,m,ps,rs,xs,rfl,W,ha,hz,fun fi H1 s1=>?_,e'⟩;refine ⟨_,rfl,?_⟩;by_cases z:xs.sum=0
   . rw [if_pos (by simpa using z)];exact e fi z H1 s1
   . rw [if_neg (by simpa using z)];obtain ⟨par,dep,R,k⟩:=k fi z;refine ⟨p,a,t,c,m,ps,rs,xs,rfl,W.same s1,Same.sqX s1 ha,hz,fun _ _=>⟨par,dep,R,fun l H2 n2 s2 h2=>?_⟩,fun z=>(by rw [fi] at z;cases z),fun _ z'=>absurd z' z⟩;refine ⟨l,_,rfl,.inr (SqT.of h2),_,rfl,k H2 (s1.trans s2)⟩
def DI (K:PySem.W.Frag):Sp:=fun vs H Q _=>∃ (a:Addr) (ns:List Int),vs=[.ref a]/\SqL K H a (ns.map V.int)/\ns.length<=63/\∀ H',Q (.bl true) H'
def RY (T:Txt K mg):Sp:=DI K
abbrev bL:Stmt:=top 55
theorem j3:FnScope ["script","many","roads","web","tolls","wish","pebbles","r","k","laying"] ["script"] (aa bL):=FnScope.of (by kernel_rfl)
theorem eO:NmL (aa bL) "script":=.of (by kernel_rfl)
theorem da:NmL (aa bL) "many":=.of (by kernel_rfl)
theorem qg:NmL (aa bL) "roads":=.of (by kernel_rfl)
theorem zU:NmL (aa bL) "web":=.of (by kernel_rfl)
theorem l5:NmL (aa bL) "tolls":=.of (by kernel_rfl)
theorem m3:NmL (aa bL) "wish":=.of (by kernel_rfl)
theorem mw:NmL (aa bL) "pebbles":=.of (by kernel_rfl)
theorem pG:NmL (aa bL) "r":=.of (by kernel_rfl)
theorem mW:NmL (aa bL) "k":=.of (by kernel_rfl)
theorem fP:NmL (aa bL) "laying":=.of (by kernel_rfl)
theorem sk:NmG (aa bL) "_law_web":=.of (by kernel_rfl)
theorem Ax:NmG (aa bL) "Web":=.of (by kernel_rfl)
theorem qS:NmG (aa bL) "list":=.of (by kernel_rfl)
theorem pS:NmG (aa bL) "_law_tolls":=.of (by kernel_rfl)
theorem qD:NmG (aa bL) "_law_wish":=.of (by kernel_rfl)
theorem pX:NmG (aa bL) "_law_bound":=.of (by kernel_rfl)
theorem vf:NmG (aa bL) "always":=.of (by kernel_rfl)
theorem dR:NmG (aa bL) "_law_drawn":=.of (by kernel_rfl)
theorem FD:NmG (aa bL) "range":=.of (by kernel_rfl)
theorem sU:NmG (aa bL) "min":=.of (by kernel_rfl)
theorem uc:NmG (aa bL) "len":=.of (by kernel_rfl)
theorem tI:NmG (aa bL) "int":=.of (by kernel_rfl)
theorem sK:NmG (aa bL) "_law_put":=.of (by kernel_rfl)
theorem uE:NmG (aa bL) "sum":=.of (by kernel_rfl)
theorem eW:NmG (aa bL) "_law_standings":=.of (by kernel_rfl)
theorem Rz (T:Txt K mg) (hq:bd (CXe P w)) {f:Addr} {fd:FuncData} (D:Df K mg "law" bL ["script"] f fd) {f_Web___init__:Addr} {lh:FuncData} (F_Web___init__:Fun K "__init__" "Web.__init__" aL f_Web___init__ lh) (b_Web:Binds K lh ["self","many","roads"] []) (Ji:Mk K T.Web f_Web___init__) (G_Web_init:FnOk P w K mg base (CXe P w) 3 f_Web___init__ lh ["self","many","roads"] (lK T)) {gg:Addr} {wD:FuncData} (iI:Df K mg "_law_bound" cV ["script"] gg wD) (G_law_bound:FnOk P w K mg base (CXe P w) 2 gg wD ["script"] (vV T)) {bc:Addr} {bM:FuncData} (ay:Df K mg "_law_drawn" bp ["script","k"] bc bM) (G_law_drawn:FnOk P w K mg base (CXe P w) 1 bc bM ["script","k"] (gG T)) {jp:Addr} {A7:FuncData} (kT:Df K mg "_law_put" aY ["tolls","many","pebbles","part"] jp A7) (G_law_put:FnOk P w K mg base (CXe P w) 1 jp A7 ["tolls","many","pebbles","part"] (zP T)) {dv:Addr} {pF:FuncData} (ce:Df K mg "_law_standings" aE ["tolls","many","laying","wish","r"] dv pF) (G_law_standings:FnOk P w K mg base (CXe P w) 2 dv pF ["tolls","many","laying","wish","r"] (qj T)) {f8:Addr} {wz:FuncData} (iB:Df K mg "_law_tolls" bT ["roads"] f8 wz) (G_law_tolls:FnOk P w K mg base (CXe P w) 1 f8 wz ["roads"] (xH T)) {je:Addr} {AK:FuncData} (kO:Df K mg "_law_web" cL ["script","reach"] je AK) (G_law_web:FnOk P w K mg base (CXe P w) 3 je AK ["script","reach"] (Bh T)) {ig:Addr} {yx:FuncData} (jK:Df K mg "_law_wish" bK ["script","many","bound"] ig yx) (G_law_wish:FnOk P w K mg base (CXe P w) 2 ig yx ["script","many","bound"] (yK T)) {kh:Addr} {CS:FuncData} (mT:Df K mg "always" dX ["web","wish"] kh CS) (G_always:FnOk P w K mg base (CXe P w) 60 kh CS ["web","wish"] (wY T)):FnOk P w K mg base (CXe P w) 61 f fd ["script"] (RY T):=by
 refine D.F.okC j3 (fun vs H Q E h=>?_) (fun cdv A outer s H vs Q E hr h=>?_)
 . obtain ⟨a,ns,rfl,_⟩:=h
   rfl
 . obtain ⟨a,ns,rfl,ha,hn,k⟩:=h;refine ⟨_,(aj (j7 (ax G_law_web (hr.mono (by decide)) sk.g kO.m kO.F.kp kO.b .nil (aN hq) (ag (pvl 0 eO) (ag ap ao)) (hdb:=sk.d)) (nu (n:=2) rfl (bF (aI (i:=1) j3.nd rfl (Or.inl da.l)) (bF (aI (i:=2) j3.nd rfl (Or.inl qg.l)) jR)))) (aj (az (i:=3) j3.nd rfl (Or.inl zU.l) (Ha Ji G_Web_init (hr.mono (by decide)) Ax.g T.Sl b_Web .nil (aN hq) (ag (pvl 1 da) (ag (jl xJ qS.g T.list HK (ag (pvl 2 qg) ao) (hn:=qS.n) (hdb:=qS.d)) ao)) (hdb:=Ax.d))) (aj (az (i:=4) j3.nd rfl (Or.inl l5.l) (ax G_law_tolls (hr.mono (by decide)) pS.g iB.m iB.F.kp iB.b .nil (aN hq) (ag (pvl 2 qg) ao) (hdb:=pS.d))) (aj (az (i:=5) j3.nd rfl (Or.inl m3.l) (ax G_law_wish (hr.mono (by decide)) qD.g jK.m jK.F.kp jK.b .nil (aN hq) (ag (pvl 0 eO) (ag (pvl 1 da) (ag (ax G_law_bound (hr.mono (by decide)) pX.g iI.m iI.F.kp iI.b .nil (aN hq) (ag (pvl 0 eO) ao) (hdb:=pX.d)) ao))) (hdb:=qD.d))) (aj (az (i:=6) j3.nd rfl (Or.inl mw.l) (ax G_always (hr.mono (by decide)) vf.g mT.m mT.F.kp mT.b .nil (aN hq) (ag (pvl 3 zU) (ag (pvl 5 m3) ao)) (hdb:=vf.d))) (aj (az (i:=7) j3.nd rfl (Or.inl pG.l) (aw aZ (aw cG (ax G_law_drawn (hr.mono (by decide)) dR.g ay.m ay.F.kp ay.b .nil (aN hq) (ag (pvl 0 eO) (ag ap ao)) (hdb:=dR.d)) ap) (pvl 1 da))) (aj (dN PassesOwn.never rfl (m8 FD.g T.range (ag (cJ (C4 rfl) sU.g T.min LS (ag (cJ eB uc.g T.len lD (ag (pvl 0 eO) ao) (hn:=uc.n) (hdb:=uc.d)) (ag (bi bg (eE (ag ap (ag ap ao))) (jl KY tI.g T.int Rj (ag (ye zV (pvl 1 da) ap (aX _)) ao) (hn:=tI.n) (hdb:=tI.d)) (fun _ _=>rfl)) ao)) (hn:=sU.n) (hdb:=sU.d)) ao)) (aI (i:=8) j3.nd rfl (Or.inl mW.l)) (aj (az (i:=9) j3.nd rfl (Or.inl fP.l) (ax G_law_put (hr.mono (by decide)) sK.g kT.m kT.F.kp kT.b .nil (aN hq) (ag (pvl 4 l5) (ag (pvl 1 da) (ag (pvl 6 mw) (ag (aw cu (ax G_law_drawn (hr.mono (by decide)) dR.g ay.m ay.F.kp ay.b .nil (aN hq) (ag (pvl 0 eO) (ag (pvl 8 mW) ao)) (hdb:=dR.d)) (pvl 8 mW)) ao)))) (hdb:=sK.d))) (aj (bU (PW.pt (PD (aR sV (cJ (D9 rfl) uE.g T.sum La (ag (pvl 9 fP) ao) (hn:=uE.n) (hdb:=uE.d)) (pvl 6 mw) (aX _)) (Kz (aR AJ (bi bg (ax G_law_standings (hr.mono (by decide)) eW.g ce.m ce.F.kp ce.b .nil (aN hq) (ag (pvl 4 l5) (ag (pvl 1 da) (ag (pvl 9 fP) (ag (pvl 5 m3) (ag (pvl 7 pG) ao))))) (hdb:=eW.d)) (pvl 7 pG) (fun _ _=>rfl)) ap (aX _))))) (au (aU Bf)) bj) (aj (j7 (aw cu (aw cu (bi bg (pvl 9 fP) (aw aZ (pvl 8 mW) (pvl 1 da)) (fun _ _=>rfl)) ap) (aw aZ (ax G_law_drawn (hr.mono (by decide)) dR.g ay.m ay.F.kp ay.b .nil (aN hq) (ag (pvl 0 eO) (ag (pvl 8 mW) ao)) (hdb:=dR.d)) ap)) (nh (pvl 9 fP) (aw aZ (pvl 8 mW) (pvl 1 da)) gd)) (au (bU (aR AJ (bi bg (ax G_law_standings (hr.mono (by decide)) eW.g ce.m ce.F.kp ce.b .nil (aN hq) (ag (pvl 4 l5) (ag (pvl 1 da) (ag (pvl 9 fP) (ag (pvl 5 m3) (ag (pvl 7 pG) ao))))) (hdb:=eW.d)) (pvl 7 pG) (fun _ _=>rfl)) ap (aX _)) (au (aU Bf)) bj)))))) (au (aU Bf))))))))),?_⟩;rw [show L2.start ["script","many","roads","web","tolls","wish","pebbles","r","k","laying"] [V.ref a]=[some (V.ref a),none,none,none,none,none,none,none,none,none] from rfl];refine fN fun N1 h1=>?_;walk_at "rd";refine ⟨a,ns,7,rfl,ha,by decide,by decide,fun t l m ps rs H1 nt nl s1 et el ro g=>?_⟩;have m1:=g.m1;have m24:=g.m24;have mp:0<m:=by omega
   refine ⟨t,rfl,_,SqT.of et,rfl,_,_,rfl,_,_,rfl,rfl,h1 _ _ (fN fun N2 h2=>?_)⟩;walk_at "rd";refine ⟨_,.inl (SqL.of el),fun lc nlc=>?_⟩;have s2:=Same.new (.lst (ps.map V.ref)) nlc;refine QY T (c:=true) (SqL.of ah) (RoadsAt.same s2 ro) g fun x tw H2 hx htw s3 W=>?_;have s13:=s1.trans (s2.trans s3);have el2:=s3 _ _ (s2 _ _ el);have ro2:=RoadsAt.same (s2.trans s3) ro;refine h2 _ _ (fN fun N3 h3=>?_);walk_at "rd";refine ⟨l,ps,m,rs,rfl,el2,ro2,g,fun d H3 nd s4 ta=>h3 _ _ (fN fun N4 h4=>?_)⟩;have s14:=s13.trans s4;have W3:=W.same s4;walk_at "rd";refine ⟨a,ns,rfl,Same.seq s14 ha,fun b H4 b1 b2 s5=>?_⟩;have s15:=s14.trans s5;refine ⟨a,ns,m,b,rfl,Same.seq s15 ha,hn,m1,m24,b1,b2,fun ly ys H5 ny s6 ey yl y0 yb=>h4 _ _ (fN fun N5 h5=>?_)⟩;have s16:=s15.trans s6;have W5:=W3.same (s5.trans s6);have ta5:=ta.same (s5.trans s6);have y1:ys.length<=1000:=by omega
   have fy:=Lj yl y0;have nofy:∀ {P:Prop},bz m ys=false->P:=fun z=>by rw [fy] at z;cases z
   obtain ⟨pb,pb0,pb1,hz,hg,al⟩:∃ pb:Int,0<=pb/\pb<=2^1400/\(ys.sum=0->pb=0)/\(ys.sum≠0->∃ par dep,Rooted m rs (iK m ys) par dep/\(gld m rs (iK m ys) par dep (oz m rs (iK m ys) par dep ys) (iK m ys) (-1)).sum+1=pb)/\∀ (zs:List Int),(zs.length:Int)=m->(∀ z∈zs,0<=z)->pb<=zs.sum->∀ (r':Int) (par':Int->Int) (dep':Int->Nat),Rooted m rs r' par' dep'->0<=r'->r'<m->0<=stg m rs r' par' dep' ys zs r':=by
     by_cases sn:ys.sum=0
     . refine ⟨0,Int.le_refl 0,by decide +kernel,fun _=>rfl,fun z=>absurd sn z,fun zs zl z0 _ r' par' dep' R' r0 r1=>?_⟩;have hy:∀ u:Int,ys.getD u.toNat 0=0:=fun u=>by
         have h1:=jg y0 u.toNat;by_cases c:u.toNat<ys.length
         . have:=EM y0 (P7 c);omega
         . rw [List.getD_eq_getElem?_getD,List.getElem?_eq_none (by omega)];rfl
       show 0<=gat m rs r' par' dep' (fun v=>(bA m zs ys).getD v.toNat 0) (hnd rs par') r';rw [DN g R' r0 r1];refine Cg g R' (fun v _ _=>?_) (fun v z a b c d=>?_) _ r' r0 r1 rfl
       . show 0<=zs.getD v.toNat 0 - ys.getD v.toNat 0;rw [hy];have:=jg z0 v.toNat;omega
       . exact Fr g v z d
     . obtain ⟨_,_,fr,fp⟩:=Hk yl y0 sn;obtain ⟨par,dep,R⟩:=AE g fr.1 fr.2;have w:=MD g R fr.1 fr.2 y0 fp rfl;have w0:=wg w.2.1;exact ⟨_,by omega,GW g R fr.1 fr.2 y0 yb,fun z=>absurd z sn,fun _=>⟨par,dep,R,rfl⟩,fun zs zl z0 hs r' par' dep' R' r0 r1=>Qj g R fr.1 fr.2 R' r0 r1 zl z0 y0 (KF g R fr.1 fr.2 zl z0 y0 fp hs)⟩
   walk_at "rd";have ask:∀ {Q':VK},(∀ H'',Same H5 H''->Q' (.int pb) H'')->wY T [V.ref x,V.ref ly] H5 Q' E0:=fun {Q'} q=>by
     refine ⟨x,ly,tw,true,m,ps,rs,ys,rfl,W5,SqL.of ey,y1,fun _ sn=>?_,fun _ sz H'' s''=>(by rw [<- hz sz];exact q H'' s''),nofy⟩;obtain ⟨par,dep,R,e⟩:=hg sn;refine ⟨par,dep,R,fun H'' s''=>?_⟩;rw [e];exact q H'' s''
   refine ask fun H6 s7=>h5 _ _ (fN fun N6 h6=>?_);have s17:=s16.trans s7;have ta6:=ta5.same s7;have ey6:=s7 _ _ ey;clear hz hg;walk_at "rd";refine ⟨a,ns,0,rfl,Same.seq s17 ha,by decide,by decide,fun c0 c00=>⟨c0,rfl,⟨by decide,by decide⟩,mp,h6 _ _ (fN fun N7 h7=>?_)⟩⟩;have r0:=Int.emod_nonneg (c0 / 5) (Int.ne_of_gt mp);have r1:=Int.emod_lt_of_pos (c0 / 5) mp;generalize c0 / 5 % m=r at r0 r1 ⊢;obtain ⟨par,dep,R⟩:=AE g r0 r1;walk_at "rd";refine ⟨_,.inl (Same.seq s17 ha),bE (by simp),fun q1 nq1=>.inr ?_⟩;have u1:=Same.new (.lst [V.int 40,V.int 12]) nq1;have e1:upd H6 q1 (.lst [V.int 40,V.int 12]) q1=some (.lst [V.int 40,V.int 12]):=ah;have s18:=s17.trans u1;have ta7:=ta6.same u1;have ey7:=u1 _ _ ey6;generalize upd H6 q1 (.lst [V.int 40,V.int 12])=H7 at e1 s18 ta7 ey7 ⊢;obtain ⟨nk,enk,nk0,nk1⟩:∃ nk:Int,atI [V.int 40,V.int 12] (if 7<m then 1 else 0)=some (.int nk)/\0<=nk/\nk<=40:=by
     by_cases z:7<m
     . rw [if_pos z];exact ⟨12,rfl,by decide,by decide⟩
     . rw [if_neg z];exact ⟨40,rfl,by decide,by decide⟩
   refine ixL e1 enk ⟨_,_,⟨rfl,rfl⟩,?_⟩;rw [List.length_map];obtain ⟨nn,hnn,nn0,nn1⟩:∃ nn:Int,(if nk<(ns.length:Int) then nk else (ns.length:Int))=nn/\0<=nn/\nn<=40:=⟨_,rfl,by split <;> omega,by split <;> omega⟩;rw [hnn];refine ⟨by omega,by omega,?_⟩;refine Ap (fun i σ H8=>Same H7 H8/\∃ (v8 v9:Option V),σ=[some (V.ref a),some (V.int m),some (V.ref l),some (V.ref x),some (V.ref d),some (V.ref ly),some (V.int pb),some (V.int r),v8,v9]) ⟨Same.refl _,_,_,rfl⟩ ?_ ?_
   . rintro i σ H8 N BB hBB hN hi ⟨s8,v8,v9,rfl⟩;obtain ⟨kk,hkk,k0,k40⟩:∃ kk:Int,(0:Int)+(i:Int)=kk/\0<=kk/\kk<=40:=⟨_,rfl,by omega,by omega⟩;refine hBB _ _ (fN fun M1 k1=>?_);rw [hkk];walk_at "rd";refine ⟨a,ns,kk,rfl,Same.seq (s18.trans s8) ha,k0,by omega,fun c1 c10=>⟨c1,rfl,?_⟩⟩;refine ⟨d,rs,m,pb,c1+kk,rfl,ta7.same s8,g,pb0,pb1,by omega,by omega,fun lz zs H9 nz s9 ez zl z0 zsum=>k1 _ _ (fN fun M2 k2=>?_)⟩;have s89:=s8.trans s9;walk_at "rd";refine ⟨zs,.inl (SqL.of ez),?_⟩;rw [zsum,if_neg (fun z=>z rfl)];refine ⟨d,lz,ly,true,true,rs,zs,ys,m,r,rfl,ta7.same s89,g,SqL.of ez,zl,SqL.of (s89 _ _ ey7),yl,⟨r0,r1⟩,par,dep,R,fun l3 H10 n3 s10 e10=>?_⟩;refine ixL e10 (atG r0 (by unfold ug;rw [List.length_map,bh];omega)) ⟨_,rfl,?_⟩;rw [DQ r0 r1,if_neg (Int.not_lt.mpr (al zs zl z0 (by omega) r par dep R r0 r1))];have s810:=s89.trans s10;have ez10:=s10 _ _ ez;refine k2 _ _ (fN fun M3 k3=>?_);have j0:=Int.emod_nonneg kk (Int.ne_of_gt mp);have j1:=Int.emod_lt_of_pos kk mp;walk_at "rd";refine ⟨mp,?_⟩;generalize kk % m=j at j0 j1 ⊢;refine ixL ez10 (atG j0 (by omega)) ⟨_,rfl,?_⟩;refine ⟨a,ns,kk,rfl,Same.seq (s18.trans s810) ha,k0,by omega,fun c2 c20=>⟨c2,rfl,by decide,mp,xP ez10 j0 (by rw [List.length_map];omega) (k3 _ _ ?_)⟩⟩;have e0:=Int.emod_nonneg c2 (show (9:Int)≠0 by decide);rw [<- List.map_set];generalize c2 % 9=ex at e0 ⊢;have zj:=jg z0 j.toNat;have ml:((zs.set j.toNat (zs.getD j.toNat 0+1+ex)).length:Int)=m:=(by rw [List.length_set];exact zl);have m0:∀ z∈zs.set j.toNat (zs.getD j.toNat 0+1+ex),0<=z:=fun z hz=>by
       rcases List.mem_or_eq_of_mem_set hz with q|q
       . exact z0 z q
       . omega
     have ms:pb<=(zs.set j.toNat (zs.getD j.toNat 0+1+ex)).sum:=by
       rw [mG _ _ _ (by omega)];omega
     have s11:=s810.put (s8.free nz) (.lst ((zs.set j.toNat (zs.getD j.toNat 0+1+ex)).map V.int));have e11:upd H10 lz (.lst ((zs.set j.toNat (zs.getD j.toNat 0+1+ex)).map V.int)) lz=some (.lst ((zs.set j.toNat (zs.getD j.toNat 0+1+ex)).map V.int)):=ah;generalize upd H10 lz (.lst ((zs.set j.toNat (zs.getD j.toNat 0+1+ex)).map V.int))=H11 at s11 e11 ⊢;walk_at "rd";refine ⟨d,lz,ly,true,true,rs,_,ys,m,r,rfl,ta7.same s11,g,SqL.of e11,ml,SqL.of (s11 _ _ ey7),yl,⟨r0,r1⟩,par,dep,R,fun l4 H12 n4 s12 e12=>?_⟩;refine ixL e12 (atG r0 (by unfold ug;rw [List.length_map,bh];omega)) ⟨_,rfl,?_⟩;rw [DQ r0 r1,if_neg (Int.not_lt.mpr (al _ ml m0 ms r par dep R r0 r1))];exact hN _ _ ⟨s11.trans s12,_,_,rfl⟩
   . rintro BB σ H8 hBB ⟨s8,v8,v9,rfl⟩;refine hBB _ _ (h7 _ _ ?_);walk_at "rd";exact k _
end
theorem SO:bd CX0:=fun _ _ _ _ _ h=>h
theorem all_mk {l:PySem.W.OpenLaw} {w:World} {K:PySem.W.Frag} {h:Heap} {mg:Str->Option Value} {fa:Addr} {bN:Addr} {f9:Addr} {d9:Addr} {fx:Addr} {eu:Addr} {eh:Addr} {lF:Addr} {cX:Addr} {xc_TollError:Value} {xd_TollError:Option Addr} {xk_TollError:ClassData} {xs_TollError:Array (Option Value)} {xc_BadWeb:Value} {xd_BadWeb:Option Addr} {xk_BadWeb:ClassData} {xs_BadWeb:Array (Option Value)} {xc_NoPlace:Value} {xd_NoPlace:Option Addr} {xk_NoPlace:ClassData} {xs_NoPlace:Array (Option Value)} {qn_NoPlace qq_NoPlace:Str} {qN_NoPlace:Addr} {qb_NoPlace qm_NoPlace:List Value} {qh_NoPlace:Bool} {qs_NoPlace:List Str} {qu_NoPlace:List Value} {qa_NoPlace:Bool} {qc_NoPlace:Option Bool} {qd_NoPlace:Option Addr} {q0_NoPlace q1_NoPlace q2_NoPlace q3_NoPlace q5_NoPlace:Option Value} {xc_NoRoad:Value} {xd_NoRoad:Option Addr} {xk_NoRoad:ClassData} {xs_NoRoad:Array (Option Value)} {qn_NoRoad qq_NoRoad:Str} {qN_NoRoad:Addr} {qb_NoRoad qm_NoRoad:List Value} {qh_NoRoad:Bool} {qs_NoRoad:List Str} {qu_NoRoad:List Value} {qa_NoRoad:Bool} {qc_NoRoad:Option Bool} {qd_NoRoad:Option Addr} {q0_NoRoad q1_NoRoad q2_NoRoad q3_NoRoad q5_NoRoad:Option Value} {xc_BadWish:Value} {xd_BadWish:Option Addr} {xk_BadWish:ClassData} {xs_BadWish:Array (Option Value)} {qn_BadWish qq_BadWish:Str} {qN_BadWish:Addr} {qb_BadWish qm_BadWish:List Value} {qh_BadWish:Bool} {qs_BadWish:List Str} {qu_BadWish:List Value} {qa_BadWish:Bool} {qc_BadWish:Option Bool} {qd_BadWish:Option Addr} {q0_BadWish q1_BadWish q2_BadWish q3_BadWish q5_BadWish:Option Value} {xc_NoWorst:Value} {xd_NoWorst:Option Addr} {xk_NoWorst:ClassData} {xs_NoWorst:Array (Option Value)} {qn_NoWorst qq_NoWorst:Str} {qN_NoWorst:Addr} {qb_NoWorst qm_NoWorst:List Value} {qh_NoWorst:Bool} {qs_NoWorst:List Str} {qu_NoWorst:List Value} {qa_NoWorst:Bool} {qc_NoWorst:Option Bool} {qd_NoWorst:Option Addr} {q0_NoWorst q1_NoWorst q2_NoWorst q3_NoWorst q5_NoWorst:Option Value} {dU:Addr} {od_check_counts Ag:Option Addr} {Ah:Array (Option Value)} {oc_check_counts Ak A6 A8 qo Bg:Value} {d6:Addr} {od_is_place Gu:Option Addr} {G5:Array (Option Value)} {oc_is_place Gr GM GO yw GI:Value} {fF:Addr} {od_check_ends Dg:Option Addr} {DC:Array (Option Value)} {oc_check_ends Dv Dd Db vg Du:Value} {cT:Addr} {od_other_ends Dm:Option Addr} {DE:Array (Option Value)} {oc_other_ends Dz Dw Dq u9 DA:Value} {dY:Addr} {od_check_joined AG:Option Addr} {AR:Array (Option Value)} {oc_check_joined AY Aj Az qA Ao:Value} {eN:Addr} {od_check_tolls Ct:Option Addr} {BL:Array (Option Value)} {oc_check_tolls Co Cb Bn sE Bw:Value} {f_Web___init__:Addr} {od_Web___init__ A4:Option Addr} {Ad:Array (Option Value)} {oc_Web___init__ Ar zR zM qO zQ:Value} {f8:Addr} {od_law_tolls Et:Option Addr} {DT:Array (Option Value)} {oc_law_tolls FJ FF FQ xE Eu:Value} {bc:Addr} {od_law_drawn FW:Option Addr} {FK:Array (Option Value)} {oc_law_drawn ER FG DL xb Gb:Value} {gg:Addr} {od_law_bound Ex:Option Addr} {Es:Array (Option Value)} {oc_law_bound EV FP E9 xL ES:Value} {jp:Addr} {od_law_put Kh:Option Addr} {Jd:Array (Option Value)} {oc_law_put JH Jc Kb z9 Iy:Value} {g9:Addr} {od_law_down GG:Option Addr} {Gw:Array (Option Value)} {oc_law_down GV GP GQ yJ GX:Value} {dv:Addr} {od_law_standings zK:Option Addr} {zC:Array (Option Value)} {oc_law_standings yU za yZ pA zo:Value} {ie:Addr} {od_law_toll Gv:Option Addr} {G0:Array (Option Value)} {oc_law_toll GS GA GB yq G2:Value} {gn:Addr} {od_law_roads Fu:Option Addr} {FY:Array (Option Value)} {oc_law_roads Ea E6 E1 vY E4:Value} {je:Addr} {od_law_web Jh:Option Addr} {J0:Array (Option Value)} {oc_law_web IJ JA Jn Av IA:Value} {ig:Addr} {od_law_wish GZ:Option Addr} {G4:Array (Option Value)} {oc_law_wish Gp Gy GF yA GY:Value} {bI:Addr} {od_check_place Br:Option Addr} {BG:Array (Option Value)} {oc_check_place Cu B0 Ca sR Bq:Value} {fC:Addr} {od_neighbours Dn:Option Addr} {Dj:Array (Option Value)} {oc_neighbours Dr Di Dt vd Ds:Value} {gI:Addr} {od_kids QS:Option Addr} {P4:Array (Option Value)} {oc_kids P6 Qu PX HP Qo:Value} {fk:Addr} {od_ahead M6:Option Addr} {Nu:Array (Option Value)} {oc_ahead L3 Os Oo Ft Mc:Value} {dC:Addr} {od_added Og:Option Addr} {Od:Array (Option Value)} {oc_added Mu ME Oj EW OE:Value} {bC:Addr} {od_idle_kids EB:Option Addr} {D6:Array (Option Value)} {oc_idle_kids F7 EX FB vM EL:Value} {dg:Addr} {od_toll Qt:Option Addr} {QO:Array (Option Value)} {oc_toll P5 QN PU Hy Qs:Value} {dB:Addr} {od_total OH:Option Addr} {MF:Array (Option Value)} {oc_total NC MU MM Fo MA:Value} {gY:Addr} {od_load_by Ir:Option Addr} {JG:Array (Option Value)} {oc_load_by IV JM Ii Aq II:Value} {bn:Addr} {od_greatest_load y8:Option Addr} {zE:Array (Option Value)} {oc_greatest_load ze zi y7 pR zI:Value} {gi:Addr} {od_idle_load En:Option Addr} {Fj:Array (Option Value)} {oc_idle_load Em D7 Fb wf EN:Value} {p9:Addr} {od_down QB:Option Addr} {Qn:Array (Option Value)} {oc_down QF P3 QL HX Qz:Value} {gc:Addr} {od_inward Lg:Option Addr} {LC:Array (Option Value)} {oc_inward LA LF KZ CH LY:Value} {gj:Addr} {od_is_filled Gg:Option Addr} {EU:Array (Option Value)} {oc_is_filled D8 E8 Ff wu DX:Value} {fj:Addr} {od_wish_of Iw:Option Addr} {IY:Array (Option Value)} {oc_wish_of Js Kk JY AZ Ih:Value} {mM:Addr} {od_needs Oy:Option Addr} {OQ:Array (Option Value)} {oc_needs OW L4 NM EF Pg:Value} {f_Outlook___init__:Addr} {od_Outlook___init__ vC:Option Addr} {vy:Array (Option Value)} {oc_Outlook___init__ vB vA vE me vF:Value} {jB:Addr} {od_failing J9:Option Addr} {Kg:Array (Option Value)} {oc_failing JI IX Ki AI JZ:Value} {fh:Addr} {od_is_idle JV:Option Addr} {IE:Array (Option Value)} {oc_is_idle JC Iv Im zZ IP:Value} {mP:Addr} {od_fails L7:Option Addr} {Mo:Array (Option Value)} {oc_fails Nz Ma Ni Ee MN:Value} {kh:Addr} {od_always Lh:Option Addr} {Lv:Array (Option Value)} {oc_always LJ Lm KN CQ Ko:Value} {IT:Addr} {od_law LR:Option Addr} {Rp:Array (Option Value)} {oc_law KB Lb Ly EA Kp:Value} {t_MOST_PLACES:Tok} {t_LEAST_TOLL:Tok} {t_MOST_TOLL:Tok} (X:K.In h) (G:h.Ns mainGlobals mg) (hfa:mg "law"=some (.ref fa))
   (pd:PySem.W.nsIn K mainGlobals "TollError"=some (some (.ref bN)))
   (wW:PySem.W.nsIn K mainGlobals "BadWeb"=some (some (.ref f9)))
   (uq:PySem.W.nsIn K mainGlobals "NoPlace"=some (some (.ref d9)))
   (wv:PySem.W.nsIn K mainGlobals "NoRoad"=some (some (.ref fx)))
   (t7:PySem.W.nsIn K mainGlobals "BadWish"=some (some (.ref eu)))
   (sX:PySem.W.nsIn K mainGlobals "NoWorst"=some (some (.ref eh)))
   (FX:PySem.W.nsIn K mainGlobals "Web"=some (some (.ref lF)))
   (uM:PySem.W.nsIn K mainGlobals "Outlook"=some (some (.ref cX)))
   (pw:K.lookup bN=some ⟨xc_TollError,xd_TollError,.cls xk_TollError,xs_TollError⟩)
   (pJ:xk_TollError.mro=.ref bN::bmV)
   (qm:PySem.W.typeIn K (.ref bN)=some (.type "type"))
   (pE:PySem.W.findIn K (.ref bN) "__getattribute__"=some (some (.builtin "BaseException.__getattribute__")))
   (pD:PySem.W.findIn K (.ref bN) "__getattr__"=some none)
   (qh:PySem.W.findIn K (.ref bN) "__class__"=some (some (.builtin "object.__class__")))
   (p8:PySem.W.hasDictIn K bN=true)
   (vP:K.lookup f9=some ⟨xc_BadWeb,xd_BadWeb,.cls xk_BadWeb,xs_BadWeb⟩)
   (wq:xk_BadWeb.mro=.ref f9::.ref bN::bmV)
   (wF:PySem.W.typeIn K (.ref f9)=some (.type "type"))
   (xK:PySem.W.findIn K (.ref f9) "__getattribute__"=some (some (.builtin "BaseException.__getattribute__")))
   (vN:PySem.W.findIn K (.ref f9) "__getattr__"=some none)
   (vI:PySem.W.findIn K (.ref f9) "__class__"=some (some (.builtin "object.__class__")))
   (wJ:PySem.W.hasDictIn K f9=true)
   (ou:K.lookup d9=some ⟨xc_NoPlace,xd_NoPlace,.cls xk_NoPlace,xs_NoPlace⟩)
   (sY:xk_NoPlace.mro=.ref d9::.ref bN::bmV)
   (uo:PySem.W.typeIn K (.ref d9)=some (.type "type"))
   (tQ:PySem.W.findIn K (.ref d9) "__getattribute__"=some (some (.builtin "BaseException.__getattribute__")))
   (tY:PySem.W.findIn K (.ref d9) "__getattr__"=some none)
   (tG:PySem.W.findIn K (.ref d9) "__class__"=some (some (.builtin "object.__class__")))
   (tD:PySem.W.hasDictIn K d9=true)
   (uI:(⟨xc_NoPlace,xd_NoPlace,.cls xk_NoPlace,xs_NoPlace⟩:Obj)=excClassObj qn_NoPlace qq_NoPlace d9 qN_NoPlace qb_NoPlace qm_NoPlace qh_NoPlace qs_NoPlace qu_NoPlace qa_NoPlace qc_NoPlace qd_NoPlace q0_NoPlace q1_NoPlace q2_NoPlace q3_NoPlace q5_NoPlace "ValueError.__new__")
   (tH:PySem.W.nsOkIn K qN_NoPlace=true)
   (tW:PySem.W.nsIn K qN_NoPlace "__init__"=some none)
   (uH:PySem.W.tailIn K bmV qm_NoPlace=true)
   (qu:K.lookup fx=some ⟨xc_NoRoad,xd_NoRoad,.cls xk_NoRoad,xs_NoRoad⟩)
   (wE:xk_NoRoad.mro=.ref fx::.ref bN::bmV)
   (vR:PySem.W.typeIn K (.ref fx)=some (.type "type"))
   (xM:PySem.W.findIn K (.ref fx) "__getattribute__"=some (some (.builtin "BaseException.__getattribute__")))
   (xQ:PySem.W.findIn K (.ref fx) "__getattr__"=some none)
   (xm:PySem.W.findIn K (.ref fx) "__class__"=some (some (.builtin "object.__class__")))
   (wx:PySem.W.hasDictIn K fx=true)
   (xD:(⟨xc_NoRoad,xd_NoRoad,.cls xk_NoRoad,xs_NoRoad⟩:Obj)=excClassObj qn_NoRoad qq_NoRoad fx qN_NoRoad qb_NoRoad qm_NoRoad qh_NoRoad qs_NoRoad qu_NoRoad qa_NoRoad qc_NoRoad qd_NoRoad q0_NoRoad q1_NoRoad q2_NoRoad q3_NoRoad q5_NoRoad "ValueError.__new__")
   (wC:PySem.W.nsOkIn K qN_NoRoad=true)
   (wT:PySem.W.nsIn K qN_NoRoad "__init__"=some none)
   (vJ:PySem.W.tailIn K bmV qm_NoRoad=true)
   (oI:K.lookup eu=some ⟨xc_BadWish,xd_BadWish,.cls xk_BadWish,xs_BadWish⟩)
   (uz:xk_BadWish.mro=.ref eu::.ref bN::bmV)
   (uy:PySem.W.typeIn K (.ref eu)=some (.type "type"))
   (tF:PySem.W.findIn K (.ref eu) "__getattribute__"=some (some (.builtin "BaseException.__getattribute__")))
   (sT:PySem.W.findIn K (.ref eu) "__getattr__"=some none)
   (uF:PySem.W.findIn K (.ref eu) "__class__"=some (some (.builtin "object.__class__")))
   (u5:PySem.W.hasDictIn K eu=true)
   (tS:(⟨xc_BadWish,xd_BadWish,.cls xk_BadWish,xs_BadWish⟩:Obj)=excClassObj qn_BadWish qq_BadWish eu qN_BadWish qb_BadWish qm_BadWish qh_BadWish qs_BadWish qu_BadWish qa_BadWish qc_BadWish qd_BadWish q0_BadWish q1_BadWish q2_BadWish q3_BadWish q5_BadWish "ValueError.__new__")
   (uV:PySem.W.nsOkIn K qN_BadWish=true)
   (tP:PySem.W.nsIn K qN_BadWish "__init__"=some none)
   (uG:PySem.W.tailIn K bmV qm_BadWish=true)
   (oq:K.lookup eh=some ⟨xc_NoWorst,xd_NoWorst,.cls xk_NoWorst,xs_NoWorst⟩)
   (tV:xk_NoWorst.mro=.ref eh::.ref bN::bmV)
   (uf:PySem.W.typeIn K (.ref eh)=some (.type "type"))
   (tJ:PySem.W.findIn K (.ref eh) "__getattribute__"=some (some (.builtin "BaseException.__getattribute__")))
   (ut:PySem.W.findIn K (.ref eh) "__getattr__"=some none)
   (sZ:PySem.W.findIn K (.ref eh) "__class__"=some (some (.builtin "object.__class__")))
   (ue:PySem.W.hasDictIn K eh=true)
   (uJ:(⟨xc_NoWorst,xd_NoWorst,.cls xk_NoWorst,xs_NoWorst⟩:Obj)=excClassObj qn_NoWorst qq_NoWorst eh qN_NoWorst qb_NoWorst qm_NoWorst qh_NoWorst qs_NoWorst qu_NoWorst qa_NoWorst qc_NoWorst qd_NoWorst q0_NoWorst q1_NoWorst q2_NoWorst q3_NoWorst q5_NoWorst "ValueError.__new__")
   (t6:PySem.W.nsOkIn K qN_NoWorst=true)
   (ud:PySem.W.nsIn K qN_NoWorst "__init__"=some none)
   (tf:PySem.W.tailIn K bmV qm_NoWorst=true)
   (xgs:PySem.W.specialIn K (.builtin "object.__class__") "__get__"=some (some (.builtin "getset_descriptor.__get__")))
   (xtk:PySem.W.takesIn K (.builtin "object.__class__")=some true)
   (xnd:[bN,f9,d9,fx,eu,eh].Nodup)
   (mV:PySem.W.nsIn K mainGlobals "check_counts"=some (some (.ref dU)))
   (mt:K.lookup dU=some ⟨oc_check_counts,od_check_counts,.func (PySem.W.fnOf "check_counts" "check_counts" (aF bu) (aD bu) (aa bu) .none Ak A6 A8 Ag qo Bg),Ah⟩)
   (mF:PySem.W.codeIn K qo "check_counts"=true)
   (mK:PySem.W.keepIn K (.ref dU)=true)
   (tX:PySem.W.nsIn K mainGlobals "is_place"=some (some (.ref d6)))
   (tZ:K.lookup d6=some ⟨oc_is_place,od_is_place,.func (PySem.W.fnOf "is_place" "is_place" (aF db) (aD db) (aa db) .none Gr GM GO Gu yw GI),G5⟩)
   (tE:PySem.W.codeIn K yw "is_place"=true)
   (uN:PySem.W.keepIn K (.ref d6)=true)
   (pf:PySem.W.nsIn K mainGlobals "check_ends"=some (some (.ref fF)))
   (pW:K.lookup fF=some ⟨oc_check_ends,od_check_ends,.func (PySem.W.fnOf "check_ends" "check_ends" (aF b5) (aD b5) (aa b5) .none Dv Dd Db Dg vg Du),DC⟩)
   (pT:PySem.W.codeIn K vg "check_ends"=true)
   (p6:PySem.W.keepIn K (.ref fF)=true)
   (pY:PySem.W.nsIn K mainGlobals "other_ends"=some (some (.ref cT)))
   (pK:K.lookup cT=some ⟨oc_other_ends,od_other_ends,.func (PySem.W.fnOf "other_ends" "other_ends" (aF bR) (aD bR) (aa bR) .none Dz Dw Dq Dm u9 DA),DE⟩)
   (qa:PySem.W.codeIn K u9 "other_ends"=true)
   (oU:PySem.W.keepIn K (.ref cT)=true)
   (mj:PySem.W.nsIn K mainGlobals "check_joined"=some (some (.ref dY)))
   (mC:K.lookup dY=some ⟨oc_check_joined,od_check_joined,.func (PySem.W.fnOf "check_joined" "check_joined" (aF aM) (aD aM) (aa aM) .none AY Aj Az AG qA Ao),AR⟩)
   (mN:PySem.W.codeIn K qA "check_joined"=true)
   (mQ:PySem.W.keepIn K (.ref dY)=true)
   (nV:PySem.W.nsIn K mainGlobals "check_tolls"=some (some (.ref eN)))
   (nJ:K.lookup eN=some ⟨oc_check_tolls,od_check_tolls,.func (PySem.W.fnOf "check_tolls" "check_tolls" (aF bH) (aD bH) (aa bH) .none Co Cb Bn Ct sE Bw),BL⟩)
   (nP:PySem.W.codeIn K sE "check_tolls"=true)
   (nW:PySem.W.keepIn K (.ref eN)=true)
   (my:PySem.W.findIn K (.ref lF) "__init__"=some (some (.ref f_Web___init__)))
   (mq:PySem.W.isFn K (.ref f_Web___init__)=true)
   (mO:K.lookup f_Web___init__=some ⟨oc_Web___init__,od_Web___init__,.func (PySem.W.fnOf "__init__" "Web.__init__" (aF aL) (aD aL) (aa aL) .none Ar zR zM A4 qO zQ),Ad⟩)
   (mB:PySem.W.codeIn K qO "Web.__init__"=true)
   (mi:PySem.W.keepIn K (.ref f_Web___init__)=true)
   (rD:PySem.W.nsIn K mainGlobals "_law_tolls"=some (some (.ref f8)))
   (qQ:K.lookup f8=some ⟨oc_law_tolls,od_law_tolls,.func (PySem.W.fnOf "_law_tolls" "_law_tolls" (aF bT) (aD bT) (aa bT) .none FJ FF FQ Et xE Eu),DT⟩)
   (rm:PySem.W.codeIn K xE "_law_tolls"=true)
   (rC:PySem.W.keepIn K (.ref f8)=true)
   (qY:PySem.W.nsIn K mainGlobals "_law_drawn"=some (some (.ref bc)))
   (qW:K.lookup bc=some ⟨oc_law_drawn,od_law_drawn,.func (PySem.W.fnOf "_law_drawn" "_law_drawn" (aF bp) (aD bp) (aa bp) .none ER FG DL FW xb Gb),FK⟩)
   (rG:PySem.W.codeIn K xb "_law_drawn"=true)
   (q8:PySem.W.keepIn K (.ref bc)=true)
   (rB:PySem.W.nsIn K mainGlobals "_law_bound"=some (some (.ref gg)))
   (qR:K.lookup gg=some ⟨oc_law_bound,od_law_bound,.func (PySem.W.fnOf "_law_bound" "_law_bound" (aF cV) (aD cV) (aa cV) .none EV FP E9 Ex xL ES),Es⟩)
   (rh:PySem.W.codeIn K xL "_law_bound"=true)
   (qX:PySem.W.keepIn K (.ref gg)=true)
   (wo:PySem.W.nsIn K mainGlobals "_law_put"=some (some (.ref jp)))
   (we:K.lookup jp=some ⟨oc_law_put,od_law_put,.func (PySem.W.fnOf "_law_put" "_law_put" (aF aY) (aD aY) (aa aY) .none JH Jc Kb Kh z9 Iy),Jd⟩)
   (xt:PySem.W.codeIn K z9 "_law_put"=true)
   (vU:PySem.W.keepIn K (.ref jp)=true)
   (uY:PySem.W.nsIn K mainGlobals "_law_down"=some (some (.ref g9)))
   (tR:K.lookup g9=some ⟨oc_law_down,od_law_down,.func (PySem.W.fnOf "_law_down" "_law_down" (aF bB) (aD bB) (aa bB) .none GV GP GQ GG yJ GX),Gw⟩)
   (uW:PySem.W.codeIn K yJ "_law_down"=true)
   (um:PySem.W.keepIn K (.ref g9)=true)
   (lg:PySem.W.nsIn K mainGlobals "_law_standings"=some (some (.ref dv)))
   (kU:K.lookup dv=some ⟨oc_law_standings,od_law_standings,.func (PySem.W.fnOf "_law_standings" "_law_standings" (aF aE) (aD aE) (aa aE) .none yU za yZ zK pA zo),zC⟩)
   (lm:PySem.W.codeIn K pA "_law_standings"=true)
   (kW:PySem.W.keepIn K (.ref dv)=true)
   (uS:PySem.W.nsIn K mainGlobals "_law_toll"=some (some (.ref ie)))
   (tm:K.lookup ie=some ⟨oc_law_toll,od_law_toll,.func (PySem.W.fnOf "_law_toll" "_law_toll" (aF fb) (aD fb) (aa fb) .none GS GA GB Gv yq G2),G0⟩)
   (tj:PySem.W.codeIn K yq "_law_toll"=true)
   (uZ:PySem.W.keepIn K (.ref ie)=true)
   (rF:PySem.W.nsIn K mainGlobals "_law_roads"=some (some (.ref gn)))
   (qU:K.lookup gn=some ⟨oc_law_roads,od_law_roads,.func (PySem.W.fnOf "_law_roads" "_law_roads" (aF aW) (aD aW) (aa aW) .none Ea E6 E1 Fu vY E4),FY⟩)
   (re:PySem.W.codeIn K vY "_law_roads"=true)
   (qZ:PySem.W.keepIn K (.ref gn)=true)
   (xx:PySem.W.nsIn K mainGlobals "_law_web"=some (some (.ref je)))
   (vS:K.lookup je=some ⟨oc_law_web,od_law_web,.func (PySem.W.fnOf "_law_web" "_law_web" (aF cL) (aD cL) (aa cL) .none IJ JA Jn Jh Av IA),J0⟩)
   (xq:PySem.W.codeIn K Av "_law_web"=true)
   (vQ:PySem.W.keepIn K (.ref je)=true)
   (uj:PySem.W.nsIn K mainGlobals "_law_wish"=some (some (.ref ig)))
   (tL:K.lookup ig=some ⟨oc_law_wish,od_law_wish,.func (PySem.W.fnOf "_law_wish" "_law_wish" (aF bK) (aD bK) (aa bK) .none Gp Gy GF GZ yA GY),G4⟩)
   (uw:PySem.W.codeIn K yA "_law_wish"=true)
   (uU:PySem.W.keepIn K (.ref ig)=true)
   (nO:PySem.W.nsIn K mainGlobals "check_place"=some (some (.ref bI)))
   (nR:K.lookup bI=some ⟨oc_check_place,od_check_place,.func (PySem.W.fnOf "check_place" "check_place" (aF bx) (aD bx) (aa bx) .none Cu B0 Ca Br sR Bq),BG⟩)
   (nS:PySem.W.codeIn K sR "check_place"=true)
   (nU:PySem.W.keepIn K (.ref bI)=true)
   (py:PySem.W.nsIn K mainGlobals "neighbours"=some (some (.ref fC)))
   (ph:K.lookup fC=some ⟨oc_neighbours,od_neighbours,.func (PySem.W.fnOf "neighbours" "neighbours" (aF bS) (aD bS) (aa bS) .none Dr Di Dt Dn vd Ds),Dj⟩)
   (oX:PySem.W.codeIn K vd "neighbours"=true)
   (oV:PySem.W.keepIn K (.ref fC)=true)
   (E7:PySem.W.nsIn K mainGlobals "kids"=some (some (.ref gI)))
   (Fk:K.lookup gI=some ⟨oc_kids,od_kids,.func (PySem.W.fnOf "kids" "kids" (aF fB) (aD fB) (aa fB) .none P6 Qu PX QS HP Qo),P4⟩)
   (Eh:PySem.W.codeIn K HP "kids"=true)
   (Ey:PySem.W.keepIn K (.ref gI)=true)
   (Cw:PySem.W.nsIn K mainGlobals "ahead"=some (some (.ref fk)))
   (Cy:K.lookup fk=some ⟨oc_ahead,od_ahead,.func (PySem.W.fnOf "ahead" "ahead" (aF cF) (aD cF) (aa cF) .none L3 Os Oo M6 Ft Mc),Nu⟩)
   (Cj:PySem.W.codeIn K Ft "ahead"=true)
   (BN:PySem.W.keepIn K (.ref fk)=true)
   (BM:PySem.W.nsIn K mainGlobals "added"=some (some (.ref dC)))
   (Cs:K.lookup dC=some ⟨oc_added,od_added,.func (PySem.W.fnOf "added" "added" (aF eK) (aD eK) (aa eK) .none Mu ME Oj Og EW OE),Od⟩)
   (Ce:PySem.W.codeIn K EW "added"=true)
   (BH:PySem.W.keepIn K (.ref dC)=true)
   (qV:PySem.W.nsIn K mainGlobals "idle_kids"=some (some (.ref bC)))
   (rn:K.lookup bC=some ⟨oc_idle_kids,od_idle_kids,.func (PySem.W.fnOf "idle_kids" "idle_kids" (aF bq) (aD bq) (aa bq) .none F7 EX FB EB vM EL),D6⟩)
   (rc:PySem.W.codeIn K vM "idle_kids"=true)
   (rK:PySem.W.keepIn K (.ref bC)=true)
   (Fx:PySem.W.nsIn K mainGlobals "toll"=some (some (.ref dg)))
   (D5:K.lookup dg=some ⟨oc_toll,od_toll,.func (PySem.W.fnOf "toll" "toll" (aF cS) (aD cS) (aa cS) .none P5 QN PU Qt Hy Qs),QO⟩)
   (Fi:PySem.W.codeIn K Hy "toll"=true)
   (FL:PySem.W.keepIn K (.ref dg)=true)
   (BA:PySem.W.nsIn K mainGlobals "total"=some (some (.ref dB)))
   (B8:K.lookup dB=some ⟨oc_total,od_total,.func (PySem.W.fnOf "total" "total" (aF fw) (aD fw) (aa fw) .none NC MU MM OH Fo MA),MF⟩)
   (Bu:PySem.W.codeIn K Fo "total"=true)
   (BE:PySem.W.keepIn K (.ref dB)=true)
   (ww:PySem.W.nsIn K mainGlobals "load_by"=some (some (.ref gY)))
   (xI:K.lookup gY=some ⟨oc_load_by,od_load_by,.func (PySem.W.fnOf "load_by" "load_by" (aF bJ) (aD bJ) (aa bJ) .none IV JM Ii Ir Aq II),JG⟩)
   (wH:PySem.W.codeIn K Aq "load_by"=true)
   (vW:PySem.W.keepIn K (.ref gY)=true)
   (lG:PySem.W.nsIn K mainGlobals "greatest_load"=some (some (.ref bn)))
   (lN:K.lookup bn=some ⟨oc_greatest_load,od_greatest_load,.func (PySem.W.fnOf "greatest_load" "greatest_load" (aF aB) (aD aB) (aa aB) .none ze zi y7 y8 pR zI),zE⟩)
   (lR:PySem.W.codeIn K pR "greatest_load"=true)
   (k7:PySem.W.keepIn K (.ref bn)=true)
   (rE:PySem.W.nsIn K mainGlobals "idle_load"=some (some (.ref gi)))
   (qP:K.lookup gi=some ⟨oc_idle_load,od_idle_load,.func (PySem.W.fnOf "idle_load" "idle_load" (aF bW) (aD bW) (aa bW) .none Em D7 Fb En wf EN),Fj⟩)
   (rJ:PySem.W.codeIn K wf "idle_load"=true)
   (rp:PySem.W.keepIn K (.ref gi)=true)
   (E5:PySem.W.nsIn K mainGlobals "down"=some (some (.ref p9)))
   (DM:K.lookup p9=some ⟨oc_down,od_down,.func (PySem.W.fnOf "down" "down" (aF dL) (aD dL) (aa dL) .none QF P3 QL QB HX Qz),Qn⟩)
   (FC:PySem.W.codeIn K HX "down"=true)
   (EK:PySem.W.keepIn K (.ref p9)=true)
   (zG:PySem.W.nsIn K mainGlobals "inward"=some (some (.ref gc)))
   (y9:K.lookup gc=some ⟨oc_inward,od_inward,.func (PySem.W.fnOf "inward" "inward" (aF cK) (aD cK) (aa cK) .none LA LF KZ Lg CH LY),LC⟩)
   (yY:PySem.W.codeIn K CH "inward"=true)
   (yS:PySem.W.keepIn K (.ref gc)=true)
   (rL:PySem.W.nsIn K mainGlobals "is_filled"=some (some (.ref gj)))
   (rq:K.lookup gj=some ⟨oc_is_filled,od_is_filled,.func (PySem.W.fnOf "is_filled" "is_filled" (aF cD) (aD cD) (aa cD) .none D8 E8 Ff Gg wu DX),EU⟩)
   (rg:PySem.W.codeIn K wu "is_filled"=true)
   (rf:PySem.W.keepIn K (.ref gj)=true)
   (xB:PySem.W.nsIn K mainGlobals "wish_of"=some (some (.ref fj)))
   (wn:K.lookup fj=some ⟨oc_wish_of,od_wish_of,.func (PySem.W.fnOf "wish_of" "wish_of" (aF cN) (aD cN) (aa cN) .none Js Kk JY Iw AZ Ih),IY⟩)
   (xO:PySem.W.codeIn K AZ "wish_of"=true)
   (wd:PySem.W.keepIn K (.ref fj)=true)
   (B7:PySem.W.nsIn K mainGlobals "needs"=some (some (.ref mM)))
   (Bt:K.lookup mM=some ⟨oc_needs,od_needs,.func (PySem.W.fnOf "needs" "needs" (aF cQ) (aD cQ) (aa cQ) .none OW L4 NM Oy EF Pg),OQ⟩)
   (Bx:PySem.W.codeIn K EF "needs"=true)
   (Bl:PySem.W.keepIn K (.ref mM)=true)
   (jv:PySem.W.findIn K (.ref cX) "__init__"=some (some (.ref f_Outlook___init__)))
   (jG:PySem.W.isFn K (.ref f_Outlook___init__)=true)
   (jm:K.lookup f_Outlook___init__=some ⟨oc_Outlook___init__,od_Outlook___init__,.func (PySem.W.fnOf "__init__" "Outlook.__init__" (aF aA) (aD aA) (aa aA) .none vB vA vE vC me vF),vy⟩)
   (jh:PySem.W.codeIn K me "Outlook.__init__"=true)
   (ju:PySem.W.keepIn K (.ref f_Outlook___init__)=true)
   (xy:PySem.W.nsIn K mainGlobals "failing"=some (some (.ref jB)))
   (wB:K.lookup jB=some ⟨oc_failing,od_failing,.func (PySem.W.fnOf "failing" "failing" (aF cP) (aD cP) (aa cP) .none JI IX Ki J9 AI JZ),Kg⟩)
   (xG:PySem.W.codeIn K AI "failing"=true)
   (wZ:PySem.W.keepIn K (.ref jB)=true)
   (xi:PySem.W.nsIn K mainGlobals "is_idle"=some (some (.ref fh)))
   (wR:K.lookup fh=some ⟨oc_is_idle,od_is_idle,.func (PySem.W.fnOf "is_idle" "is_idle" (aF cY) (aD cY) (aa cY) .none JC Iv Im JV zZ IP),IE⟩)
   (wK:PySem.W.codeIn K zZ "is_idle"=true)
   (vK:PySem.W.keepIn K (.ref fh)=true)
   (BX:PySem.W.nsIn K mainGlobals "fails"=some (some (.ref mP)))
   (BW:K.lookup mP=some ⟨oc_fails,od_fails,.func (PySem.W.fnOf "fails" "fails" (aF dD) (aD dD) (aa dD) .none Nz Ma Ni L7 Ee MN),Mo⟩)
   (Bp:PySem.W.codeIn K Ee "fails"=true)
   (B5:PySem.W.keepIn K (.ref mP)=true)
   (zF:PySem.W.nsIn K mainGlobals "always"=some (some (.ref kh)))
   (yV:K.lookup kh=some ⟨oc_always,od_always,.func (PySem.W.fnOf "always" "always" (aF dX) (aD dX) (aa dX) .none LJ Lm KN Lh CQ Ko),Lv⟩)
   (zq:PySem.W.codeIn K CQ "always"=true)
   (yQ:PySem.W.keepIn K (.ref kh)=true)
   (DF:PySem.W.nsIn K mainGlobals "law"=some (some (.ref IT)))
   (Iq:K.lookup IT=some ⟨oc_law,od_law,.func (PySem.W.fnOf "law" "law" (aF bL) (aD bL) (aa bL) .none KB Lb Ly LR EA Kp),Rp⟩)
   (Ip:PySem.W.codeIn K EA "law"=true)
   (Ie:PySem.W.keepIn K (.ref IT)=true)
   (E2:PySem.W.plainGet K lF Str.empty=true)
   (F6:PySem.W.hasDictIn K lF=true)
   (EE:PySem.W.plainOver K lF=true)
   (EI:PySem.W.findIn K (.ref lF) "__setattr__"=some (some (.builtin "object.__setattr__")))
   (Ez:PySem.W.makesIn K lF=true)
   (Fd:PySem.W.keepIn K (.ref lF)=true)
   (n_many_Web:PySem.W.findIn K (.ref lF) "many"=some none)
   (n_roads_Web:PySem.W.findIn K (.ref lF) "roads"=some none)
   (tp:PySem.W.plainGet K cX Str.empty=true)
   (uu:PySem.W.hasDictIn K cX=true)
   (uX:PySem.W.plainOver K cX=true)
   (uv:PySem.W.findIn K (.ref cX) "__setattr__"=some (some (.builtin "object.__setattr__")))
   (tK:PySem.W.makesIn K cX=true)
   (ui:PySem.W.keepIn K (.ref cX)=true)
   (n_web_Outlook:PySem.W.findIn K (.ref cX) "web"=some none)
   (n_needs_Outlook:PySem.W.findIn K (.ref cX) "needs"=some none)
   (n_kids_Outlook:PySem.W.findIn K (.ref cX) "kids"=some none)
   (n_idle_Outlook:PySem.W.findIn K (.ref cX) "idle"=some none)
   (z_range:PySem.W.nsIn K mainGlobals "range"=some none)
   (z_zip:PySem.W.nsIn K mainGlobals "zip"=some none)
   (z_len:PySem.W.nsIn K mainGlobals "len"=some none)
   (z_all:PySem.W.nsIn K mainGlobals "all"=some none)
   (z_int:PySem.W.nsIn K mainGlobals "int"=some none)
   (z_tuple:PySem.W.nsIn K mainGlobals "tuple"=some none)
   (z_list:PySem.W.nsIn K mainGlobals "list"=some none)
   (z_reversed:PySem.W.nsIn K mainGlobals "reversed"=some none)
   (z_sorted:PySem.W.nsIn K mainGlobals "sorted"=some none)
   (z_min:PySem.W.nsIn K mainGlobals "min"=some none)
   (z_enumerate:PySem.W.nsIn K mainGlobals "enumerate"=some none)
   (z_sum:PySem.W.nsIn K mainGlobals "sum"=some none)
   (v_MOST_PLACES:PySem.W.nsIn K mainGlobals "MOST_PLACES"=some (some (.int 24 t_MOST_PLACES)))
   (v_LEAST_TOLL:PySem.W.nsIn K mainGlobals "LEAST_TOLL"=some (some (.int 2 t_LEAST_TOLL)))
   (v_MOST_TOLL:PySem.W.nsIn K mainGlobals "MOST_TOLL"=some (some (.int 1000000 t_MOST_TOLL))) :
   ∃ fd:FuncData,(∀ (s:Shared) (v:Value),BindsTo s fd ⟨[v],[]⟩ [("script",v)])/\∀ base:Heap,K.In base->base.Ns mainGlobals mg->FnOk l.prog w K mg base (CXe l.prog w) 61 fa fd ["script"] (DI K):=by
 have e:=hfa.symm.trans (PySem.W.mg_of X G DF);cases e
 let T:Txt K mg:=⟨bN,PySem.W.mg_of X G pd,f9,PySem.W.mg_of X G wW,d9,PySem.W.mg_of X G uq,fx,PySem.W.mg_of X G wv,eu,PySem.W.mg_of X G t7,eh,PySem.W.mg_of X G sX,lF,PySem.W.mg_of X G FX,cX,PySem.W.mg_of X G uM,QJ qm pE pD qh xgs xtk p8 pw pJ,rP wF xK vN vI xgs xtk wJ vP wq,rP uo tQ tY tG xgs xtk tD ou sY,xZ _ _ _ _ _ _ _ _ _ _ _ _ _ _ _ _ ou uI tH tW uH,rP vR xM xQ xm xgs xtk wx qu wE,xZ _ _ _ _ _ _ _ _ _ _ _ _ _ _ _ _ qu xD wC wT vJ,rP uy tF sT uF xgs xtk u5 oI uz,xZ _ _ _ _ _ _ _ _ _ _ _ _ _ _ _ _ oI tS uV tP uG,rP uf tJ ut sZ xgs xtk ue oq tV,xZ _ _ _ _ _ _ _ _ _ _ _ _ _ _ _ _ oq uJ t6 ud tf,xnd,PySem.W.mg_none_of X G z_range,PySem.W.mg_none_of X G z_zip,PySem.W.mg_none_of X G z_len,PySem.W.mg_none_of X G z_all,PySem.W.mg_none_of X G z_int,PySem.W.mg_none_of X G z_tuple,PySem.W.mg_none_of X G z_list,PySem.W.mg_none_of X G z_reversed,PySem.W.mg_none_of X G z_sorted,PySem.W.mg_none_of X G z_min,PySem.W.mg_none_of X G z_enumerate,PySem.W.mg_none_of X G z_sum,⟨_,PySem.W.mg_of X G v_MOST_PLACES⟩,⟨_,PySem.W.mg_of X G v_LEAST_TOLL⟩,⟨_,PySem.W.mg_of X G v_MOST_TOLL⟩,⟨E2,F6,EE,EI⟩,n_many_Web,n_roads_Web,⟨tp,uu,uX,uv⟩,n_web_Outlook,n_needs_Outlook,n_kids_Outlook,n_idle_Outlook⟩
 have F_check_counts:=aP (st:=bu) mt mF mK;have b_check_counts:=F_check_counts.binds (ps:=["many","roads"]) fun _ _ _ _ _ _ us hl=>by obtain ⟨u0,u1,rfl⟩:=us2 hl;rfl
 have fq:Df K mg "check_counts" bu ["many","roads"] dU _:=⟨F_check_counts,PySem.W.mg_of X G mV,b_check_counts⟩;have F_is_place:=aP (st:=db) tZ tE uN;have b_is_place:=F_is_place.binds (ps:=["many","number"]) fun _ _ _ _ _ _ us hl=>by obtain ⟨u0,u1,rfl⟩:=us2 hl;rfl
 have cf:Df K mg "is_place" db ["many","number"] d6 _:=⟨F_is_place,PySem.W.mg_of X G tX,b_is_place⟩;have F_check_ends:=aP (st:=b5) pW pT p6;have b_check_ends:=F_check_ends.binds (ps:=["many","road"]) fun _ _ _ _ _ _ us hl=>by obtain ⟨u0,u1,rfl⟩:=us2 hl;rfl
 have gH:Df K mg "check_ends" b5 ["many","road"] fF _:=⟨F_check_ends,PySem.W.mg_of X G pf,b_check_ends⟩;have F_other_ends:=aP (st:=bR) pK qa oU;have b_other_ends:=F_other_ends.binds (ps:=["roads","place"]) fun _ _ _ _ _ _ us hl=>by obtain ⟨u0,u1,rfl⟩:=us2 hl;rfl
 have cq:Df K mg "other_ends" bR ["roads","place"] cT _:=⟨F_other_ends,PySem.W.mg_of X G pY,b_other_ends⟩;have F_check_joined:=aP (st:=aM) mC mN mQ;have b_check_joined:=F_check_joined.binds (ps:=["many","roads"]) fun _ _ _ _ _ _ us hl=>by obtain ⟨u0,u1,rfl⟩:=us2 hl;rfl
 have ft:Df K mg "check_joined" aM ["many","roads"] dY _:=⟨F_check_joined,PySem.W.mg_of X G mj,b_check_joined⟩;have F_check_tolls:=aP (st:=bH) nJ nP nW;have b_check_tolls:=F_check_tolls.binds (ps:=["road"]) fun _ _ _ _ _ _ us hl=>by obtain ⟨u0,rfl⟩:=us1 hl;rfl
 have fQ:Df K mg "check_tolls" bH ["road"] eN _:=⟨F_check_tolls,PySem.W.mg_of X G nV,b_check_tolls⟩;have F_Web___init__:=aP (st:=aL) mO mB mi;have b_Web:=F_Web___init__.binds (ps:=["self","many","roads"]) fun _ _ _ _ _ _ us hl=>by obtain ⟨u0,u1,u2,rfl⟩:=us3 hl;rfl
 have F_law_tolls:=aP (st:=bT) qQ rm rC;have b_law_tolls:=F_law_tolls.binds (ps:=["roads"]) fun _ _ _ _ _ _ us hl=>by obtain ⟨u0,rfl⟩:=us1 hl;rfl
 have iB:Df K mg "_law_tolls" bT ["roads"] f8 _:=⟨F_law_tolls,PySem.W.mg_of X G rD,b_law_tolls⟩;have F_law_drawn:=aP (st:=bp) qW rG q8;have b_law_drawn:=F_law_drawn.binds (ps:=["script","k"]) fun _ _ _ _ _ _ us hl=>by obtain ⟨u0,u1,rfl⟩:=us2 hl;rfl
 have ay:Df K mg "_law_drawn" bp ["script","k"] bc _:=⟨F_law_drawn,PySem.W.mg_of X G qY,b_law_drawn⟩;have F_law_bound:=aP (st:=cV) qR rh qX;have b_law_bound:=F_law_bound.binds (ps:=["script"]) fun _ _ _ _ _ _ us hl=>by obtain ⟨u0,rfl⟩:=us1 hl;rfl
 have iI:Df K mg "_law_bound" cV ["script"] gg _:=⟨F_law_bound,PySem.W.mg_of X G rB,b_law_bound⟩;have F_law_put:=aP (st:=aY) we xt vU;have b_law_put:=F_law_put.binds (ps:=["tolls","many","pebbles","part"]) fun _ _ _ _ _ _ us hl=>by obtain ⟨u0,u1,u2,u3,rfl⟩:=us4 hl;rfl
 have kT:Df K mg "_law_put" aY ["tolls","many","pebbles","part"] jp _:=⟨F_law_put,PySem.W.mg_of X G wo,b_law_put⟩;have F_law_down:=aP (st:=bB) tR uW um;have b_law_down:=F_law_down.binds (ps:=["tolls","many","r"]) fun _ _ _ _ _ _ us hl=>by obtain ⟨u0,u1,u2,rfl⟩:=us3 hl;rfl
 have jJ:Df K mg "_law_down" bB ["tolls","many","r"] g9 _:=⟨F_law_down,PySem.W.mg_of X G uY,b_law_down⟩;have F_law_standings:=aP (st:=aE) kU lm kW;have b_law_standings:=F_law_standings.binds (ps:=["tolls","many","laying","wish","r"]) fun _ _ _ _ _ _ us hl=>by obtain ⟨u0,u1,u2,u3,u4,rfl⟩:=us5 hl;rfl
 have ce:Df K mg "_law_standings" aE ["tolls","many","laying","wish","r"] dv _:=⟨F_law_standings,PySem.W.mg_of X G lg,b_law_standings⟩;have F_law_toll:=aP (st:=fb) tm tj uZ;have b_law_toll:=F_law_toll.binds (ps:=["part"]) fun _ _ _ _ _ _ us hl=>by obtain ⟨u0,rfl⟩:=us1 hl;rfl
 have fe:Df K mg "_law_toll" fb ["part"] ie _:=⟨F_law_toll,PySem.W.mg_of X G uS,b_law_toll⟩;have F_law_roads:=aP (st:=aW) qU re qZ;have b_law_roads:=F_law_roads.binds (ps:=["script","many","shape"]) fun _ _ _ _ _ _ us hl=>by obtain ⟨u0,u1,u2,rfl⟩:=us3 hl;rfl
 have iG:Df K mg "_law_roads" aW ["script","many","shape"] gn _:=⟨F_law_roads,PySem.W.mg_of X G rF,b_law_roads⟩;have F_law_web:=aP (st:=cL) vS xq vQ;have b_law_web:=F_law_web.binds (ps:=["script","reach"]) fun _ _ _ _ _ _ us hl=>by obtain ⟨u0,u1,rfl⟩:=us2 hl;rfl
 have kO:Df K mg "_law_web" cL ["script","reach"] je _:=⟨F_law_web,PySem.W.mg_of X G xx,b_law_web⟩;have F_law_wish:=aP (st:=bK) tL uw uU;have b_law_wish:=F_law_wish.binds (ps:=["script","many","bound"]) fun _ _ _ _ _ _ us hl=>by obtain ⟨u0,u1,u2,rfl⟩:=us3 hl;rfl
 have jK:Df K mg "_law_wish" bK ["script","many","bound"] ig _:=⟨F_law_wish,PySem.W.mg_of X G uj,b_law_wish⟩;have F_check_place:=aP (st:=bx) nR nS nU;have b_check_place:=F_check_place.binds (ps:=["web","number"]) fun _ _ _ _ _ _ us hl=>by obtain ⟨u0,u1,rfl⟩:=us2 hl;rfl
 have aK:Df K mg "check_place" bx ["web","number"] bI _:=⟨F_check_place,PySem.W.mg_of X G nO,b_check_place⟩;have F_neighbours:=aP (st:=bS) ph oX oV;have b_neighbours:=F_neighbours.binds (ps:=["web","a"]) fun _ _ _ _ _ _ us hl=>by obtain ⟨u0,u1,rfl⟩:=us2 hl;rfl
 have gN:Df K mg "neighbours" bS ["web","a"] fC _:=⟨F_neighbours,PySem.W.mg_of X G py,b_neighbours⟩;have F_kids:=aP (st:=fB) Fk Eh Ey;have b_kids:=F_kids.binds (ps:=["web","place","front"]) fun _ _ _ _ _ _ us hl=>by obtain ⟨u0,u1,u2,rfl⟩:=us3 hl;rfl
 have eT:Df K mg "kids" fB ["web","place","front"] gI _:=⟨F_kids,PySem.W.mg_of X G E7,b_kids⟩;have F_ahead:=aP (st:=cF) Cy Cj BN;have b_ahead:=F_ahead.binds (ps:=["web","r"]) fun _ _ _ _ _ _ us hl=>by obtain ⟨u0,u1,rfl⟩:=us2 hl;rfl
 have dy:Df K mg "ahead" cF ["web","r"] fk _:=⟨F_ahead,PySem.W.mg_of X G Cw,b_ahead⟩;have F_added:=aP (st:=eK) Cs Ce BH;have b_added:=F_added.binds (ps:=["one","other"]) fun _ _ _ _ _ _ us hl=>by obtain ⟨u0,u1,rfl⟩:=us2 hl;rfl
 have dP:Df K mg "added" eK ["one","other"] dC _:=⟨F_added,PySem.W.mg_of X G BM,b_added⟩;have F_idle_kids:=aP (st:=bq) rn rc rK;have b_idle_kids:=F_idle_kids.binds (ps:=["outlook","place","left_out"]) fun _ _ _ _ _ _ us hl=>by obtain ⟨u0,u1,u2,rfl⟩:=us3 hl;rfl
 have bo:Df K mg "idle_kids" bq ["outlook","place","left_out"] bC _:=⟨F_idle_kids,PySem.W.mg_of X G qV,b_idle_kids⟩;have F_toll:=aP (st:=cS) D5 Fi FL;have b_toll:=F_toll.binds (ps:=["web","a","b"]) fun _ _ _ _ _ _ us hl=>by obtain ⟨u0,u1,u2,rfl⟩:=us3 hl;rfl
 have cw:Df K mg "toll" cS ["web","a","b"] dg _:=⟨F_toll,PySem.W.mg_of X G Fx,b_toll⟩;have F_total:=aP (st:=fw) B8 Bu BE;have b_total:=F_total.binds (ps:=["numbers"]) fun _ _ _ _ _ _ us hl=>by obtain ⟨u0,rfl⟩:=us1 hl;rfl
 have b8:Df K mg "total" fw ["numbers"] dB _:=⟨F_total,PySem.W.mg_of X G BA,b_total⟩;have F_load_by:=aP (st:=bJ) xI wH vW;have b_load_by:=F_load_by.binds (ps:=["outlook","place","kid","room"]) fun _ _ _ _ _ _ us hl=>by obtain ⟨u0,u1,u2,u3,rfl⟩:=us4 hl;rfl
 have gW:Df K mg "load_by" bJ ["outlook","place","kid","room"] gY _:=⟨F_load_by,PySem.W.mg_of X G ww,b_load_by⟩;have F_greatest_load:=aP (st:=aB) lN lR k7;have b_greatest_load:=F_greatest_load.binds (ps:=["outlook","place","over"]) fun _ _ _ _ _ _ us hl=>by obtain ⟨u0,u1,u2,rfl⟩:=us3 hl;rfl
 have D_greatest_load:Df K mg "greatest_load" aB ["outlook","place","over"] bn _:=⟨F_greatest_load,PySem.W.mg_of X G lG,b_greatest_load⟩;have F_idle_load:=aP (st:=bW) qP rJ rp;have b_idle_load:=F_idle_load.binds (ps:=["outlook","place","front"]) fun _ _ _ _ _ _ us hl=>by obtain ⟨u0,u1,u2,rfl⟩:=us3 hl;rfl
 have iC:Df K mg "idle_load" bW ["outlook","place","front"] gi _:=⟨F_idle_load,PySem.W.mg_of X G rE,b_idle_load⟩;have F_down:=aP (st:=dL) DM FC EK;have b_down:=F_down.binds (ps:=["web","r"]) fun _ _ _ _ _ _ us hl=>by obtain ⟨u0,u1,rfl⟩:=us2 hl;rfl
 have sS:Df K mg "down" dL ["web","r"] p9 _:=⟨F_down,PySem.W.mg_of X G E5,b_down⟩;have F_inward:=aP (st:=cK) y9 yY yS;have b_inward:=F_inward.binds (ps:=["web","r"]) fun _ _ _ _ _ _ us hl=>by obtain ⟨u0,u1,rfl⟩:=us2 hl;rfl
 have fD:Df K mg "inward" cK ["web","r"] gc _:=⟨F_inward,PySem.W.mg_of X G zG,b_inward⟩;have F_is_filled:=aP (st:=cD) rq rg rf;have b_is_filled:=F_is_filled.binds (ps:=["web","numbers"]) fun _ _ _ _ _ _ us hl=>by obtain ⟨u0,u1,rfl⟩:=us2 hl;rfl
 have iH:Df K mg "is_filled" cD ["web","numbers"] gj _:=⟨F_is_filled,PySem.W.mg_of X G rL,b_is_filled⟩;have F_wish_of:=aP (st:=cN) wn xO wd;have b_wish_of:=F_wish_of.binds (ps:=["web","numbers"]) fun _ _ _ _ _ _ us hl=>by obtain ⟨u0,u1,rfl⟩:=us2 hl;rfl
 have eC:Df K mg "wish_of" cN ["web","numbers"] fj _:=⟨F_wish_of,PySem.W.mg_of X G xB,b_wish_of⟩;have F_needs:=aP (st:=cQ) Bt Bx Bl;have b_needs:=F_needs.binds (ps:=["web","wish","r"]) fun _ _ _ _ _ _ us hl=>by obtain ⟨u0,u1,u2,rfl⟩:=us3 hl;rfl
 have oM:Df K mg "needs" cQ ["web","wish","r"] mM _:=⟨F_needs,PySem.W.mg_of X G B7,b_needs⟩;have F_Outlook___init__:=aP (st:=aA) jm jh ju;have b_Outlook:=F_Outlook___init__.binds (ps:=["self","web","wish","r"]) fun _ _ _ _ _ _ us hl=>by obtain ⟨u0,u1,u2,u3,rfl⟩:=us4 hl;rfl
 have F_failing:=aP (st:=cP) wB xG wZ;have b_failing:=F_failing.binds (ps:=["web","wish","r"]) fun _ _ _ _ _ _ us hl=>by obtain ⟨u0,u1,u2,rfl⟩:=us3 hl;rfl
 have kM:Df K mg "failing" cP ["web","wish","r"] jB _:=⟨F_failing,PySem.W.mg_of X G xy,b_failing⟩;have F_is_idle:=aP (st:=cY) wR wK vK;have b_is_idle:=F_is_idle.binds (ps:=["web","wish"]) fun _ _ _ _ _ _ us hl=>by obtain ⟨u0,u1,rfl⟩:=us2 hl;rfl
 have ee:Df K mg "is_idle" cY ["web","wish"] fh _:=⟨F_is_idle,PySem.W.mg_of X G xi,b_is_idle⟩;have F_fails:=aP (st:=dD) BW Bp B5;have b_fails:=F_fails.binds (ps:=["web","wish"]) fun _ _ _ _ _ _ us hl=>by obtain ⟨u0,u1,rfl⟩:=us2 hl;rfl
 have oP:Df K mg "fails" dD ["web","wish"] mP _:=⟨F_fails,PySem.W.mg_of X G BX,b_fails⟩;have F_always:=aP (st:=dX) yV zq yQ;have b_always:=F_always.binds (ps:=["web","wish"]) fun _ _ _ _ _ _ us hl=>by obtain ⟨u0,u1,rfl⟩:=us2 hl;rfl
 have mT:Df K mg "always" dX ["web","wish"] kh _:=⟨F_always,PySem.W.mg_of X G zF,b_always⟩;have F_law:=aP (st:=bL) Iq Ip Ie;have b_law:=F_law.binds (ps:=["script"]) fun _ _ _ _ _ _ us hl=>by obtain ⟨u0,rfl⟩:=us1 hl;rfl
 have Sr:Df K mg "law" bL ["script"] fa _:=⟨F_law,PySem.W.mg_of X G DF,b_law⟩;refine ⟨PySem.W.fnOf "law" "law" (aF bL) (aD bL) (aa bL) .none KB Lb Ly LR EA Kp,fun s v=>.of_eq rfl,fun base _ _=>?_⟩;have Ji:Mk K T.Web f_Web___init__:=⟨Ez,my,mq,Fd⟩;have wt:Mk K T.Outlook f_Outlook___init__:=⟨tK,jv,jG,ui⟩;have G_check_counts:=Aa (P:=l.prog) (w:=w) (base:=base) T aQ fq;have G_is_place:=GL (P:=l.prog) (w:=w) (base:=base) T aQ cf;have G_check_ends:=Dy (P:=l.prog) (w:=w) (base:=base) T aQ gH cf G_is_place;have G_other_ends:=De (P:=l.prog) (w:=w) (base:=base) T aQ cq;have G_check_joined:=Aw (P:=l.prog) (w:=w) (base:=base) T aQ ft cq G_other_ends;have G_check_tolls:=BZ (P:=l.prog) (w:=w) (base:=base) T aQ fQ;have G_Web_init:=Ay (P:=l.prog) (w:=w) (base:=base) T aQ F_Web___init__ fq G_check_counts gH G_check_ends ft G_check_joined fQ G_check_tolls;have G_law_tolls:=Ef (P:=l.prog) (w:=w) (base:=base) T aQ iB;have G_law_drawn:=DR (P:=l.prog) (w:=w) (base:=base) T aQ ay;have G_law_bound:=DS (P:=l.prog) (w:=w) (base:=base) T aQ iI ay G_law_drawn;have G_law_put:=Jl (P:=l.prog) (w:=w) (base:=base) T aQ kT;have G_law_down:=GK (P:=l.prog) (w:=w) (base:=base) T aQ jJ;have G_law_standings:=yW (P:=l.prog) (w:=w) (base:=base) T aQ ce jJ G_law_down;have G_law_toll:=GD (P:=l.prog) (w:=w) (base:=base) T aQ fe;have G_law_roads:=FT (P:=l.prog) (w:=w) (base:=base) T aQ iG ay G_law_drawn fe G_law_toll;have G_law_web:=Jr (P:=l.prog) (w:=w) (base:=base) T aQ kO ay G_law_drawn iG G_law_roads;have G_law_wish:=Gm (P:=l.prog) (w:=w) (base:=base) T aQ jK ay G_law_drawn;have G_check_place:=BR (P:=l.prog) (w:=w) (base:=base) T aQ aK cf G_is_place;have G_neighbours:=Dh (P:=l.prog) (w:=w) (base:=base) T aQ gN aK G_check_place cq G_other_ends;have G_kids:=QC (P:=l.prog) (w:=w) (base:=base) T aQ eT gN G_neighbours;have G_ahead:=Op (P:=l.prog) (w:=w) (base:=base) T aQ dy aK G_check_place eT G_kids;have G_added:=MW (P:=l.prog) (w:=w) (base:=base) T aQ dP;have G_idle_kids:=El (P:=l.prog) (w:=w) (base:=base) T aQ bo dP G_added;have G_toll:=P9 (P:=l.prog) (w:=w) (base:=base) T aQ cw aK G_check_place;have G_total:=OG (P:=l.prog) (w:=w) (base:=base) T aQ b8;have G_greatest_load:=zH (P:=l.prog) (w:=w) (base:=base) T aQ D_greatest_load gW dP G_added bo G_idle_kids cw G_toll b8 G_total;have G_idle_load:=Fa (P:=l.prog) (w:=w) (base:=base) T aQ iC D_greatest_load G_greatest_load bo G_idle_kids cw G_toll;have G_down:=PR (P:=l.prog) (w:=w) (base:=base) T aQ sS dy G_ahead eT G_kids;have G_inward:=KA (P:=l.prog) (w:=w) (base:=base) T aQ fD dy G_ahead sS G_down;have G_is_filled:=Eo (P:=l.prog) (w:=w) (base:=base) T aQ iH;have G_wish_of:=Jf (P:=l.prog) (w:=w) (base:=base) T aQ eC iH G_is_filled;have G_needs:=OB (P:=l.prog) (w:=w) (base:=base) T aQ oM fD G_inward cw G_toll eC G_wish_of;have G_Outlook_init:=vz (P:=l.prog) (w:=w) (base:=base) T aQ F_Outlook___init__ dy G_ahead iC G_idle_load fD G_inward eT G_kids oM G_needs;have G_failing:=Ja (P:=l.prog) (w:=w) (base:=base) T aQ kM F_Outlook___init__ b_Outlook wt G_Outlook_init D_greatest_load G_greatest_load;have G_is_idle:=JL (P:=l.prog) (w:=w) (base:=base) T aQ ee b8 G_total eC G_wish_of;have G_fails:=My (P:=l.prog) (w:=w) (base:=base) T aQ oP kM G_failing ee G_is_idle;have G_always:=LP (P:=l.prog) (w:=w) (base:=base) T aQ mT oP G_fails ee G_is_idle b8 G_total;have G_law:=Rz (P:=l.prog) (w:=w) (base:=base) T aQ Sr F_Web___init__ b_Web Ji G_Web_init iI G_law_bound ay G_law_drawn kT G_law_put ce G_law_standings iB G_law_tolls kO G_law_web jK G_law_wish mT G_always;exact G_law
theorem walk {l:PySem.W.OpenLaw} {q:Program} {loose:List Str} {XP:(Str->Option Value)->Heap->Prop} {YP:World->Heap->Prop} {d:DefRec} {K:Params->PySem.W.Frag} (hn:l.most=some 63) (hdf:d.params.defaults=[])
   (hY:∀ (w:World) (h:Heap),YP w h->(K w.params).In h)
   (F:∀ (w:World) (mg:Str->Option Value) (fa:Addr) (h:Heap),(K w.params).In h->h.Ns mainGlobals mg->mg d.name=some (.ref fa) ->
     ∃ fd:FuncData,(∀ (s:Shared) (u:Value),BindsTo s fd ⟨[u],[]⟩ [("script",u)])/\∀ base:Heap,(K w.params).In base->base.Ns mainGlobals mg->FnOk l.prog w (K w.params) mg base (CXe l.prog w) 61 fa fd ["script"] (DI (K w.params))) :
   PySem.W.WalkO q loose XP YP l.row.toRowW d [] (fun f vs=>PySem.call f vs) :=
 L2.walk_of (n:=63) (k:=61) (x:="script") (CX:=fun w=>(CXe l.prog w)) (sp:=fun w=>DI (K w.params)) hn (by decide) hdf ⟨rfl,by decide,by decide⟩ hY F (fun _ _ a ns hl _ hS=>⟨a,ns,rfl,hS,hl,fun _=>rfl⟩) fun _ _ _ _ _ z=>aQ _ _ _ _ _ z
end Pk
open PySem PySem.W PyProof.Rows
set_option maxRecDepth 100000 in
set_option maxHeartbeats 0 in
theorem PySem.Challenge.cw_pebbletoll_k40_whole_any_laying_meets_holds : PySem.Challenge.rw_pebbletoll_k40_whole_any_laying_meets.Holds := by
 w_on;o_law
 refine PySem.W.holds_open (q:=Hd.qq) (loose:=[]) (Xt:=(fun s=>PySem.W.xlAt Hd.qq [] s && PySem.W.recOk (PySem.W.RowW.records (PySem.W.OpenRow.toRowW (PySem.Challenge.rw_pebbletoll_k40_whole_any_laying_meets).row)) s)) (XP:=PySem.W.XL Hd.qq []) (Yf:=PySem.W.Hook.obs (PySem.W.kHook Hd.KK Hd.asK Hd.asK_eq)) (Ya:=PySem.W.Hook.val (PySem.W.kHook Hd.KK Hd.asK Hd.asK_eq)) (YP:=PySem.W.Hook.says (PySem.W.kHook Hd.KK Hd.asK Hd.asK_eq)) (N:=6090) Hd.left (PySem.W.Hook.of (PySem.W.kHook Hd.KK Hd.asK Hd.asK_eq)) (PySem.W.Hook.keeps (PySem.W.kHook Hd.KK Hd.asK Hd.asK_eq)) (fun s e=>PySem.W.xl_of s (Bool.and_eq_true_iff.mp e).1) PySem.W.XL.keeps (by rfl) (by rfl) (by rfl) (fun s e=>PySem.W.recFacts_of (Bool.and_eq_true_iff.mp e).2) (by rfl) (by assumption) (by decide +kernel) ⟨rfl,rfl,rfl,rfl,rfl,by decide +kernel⟩ ?hw ?hc
 (case hw=>w_witness2)
 k_fill
 refine Pk.walk (l:=PySem.Challenge.rw_pebbletoll_k40_whole_any_laying_meets) rfl rfl (fun w h Y=>PySem.W.kIn_of Y) ?F
 case F =>
   intro w mg fa h KX G hmg;refine' Pk.all_mk KX G hmg ?pd ?wW ?uq ?wv ?t7 ?sX ?FX ?uM ?pw ?pJ ?qm ?pE ?pD ?qh ?p8 ?vP ?wq ?wF ?xK ?vN ?vI ?wJ ?ou ?sY ?uo ?tQ ?tY ?tG ?tD ?uI ?tH ?tW ?uH ?qu ?wE ?vR ?xM ?xQ ?xm ?wx ?xD ?wC ?wT ?vJ ?oI ?uz ?uy ?tF ?sT ?uF ?u5 ?tS ?uV ?tP ?uG ?oq ?tV ?uf ?tJ ?ut ?sZ ?ue ?uJ ?t6 ?ud ?tf ?xgs ?xtk ?xnd ?mV ?mt ?mF ?mK ?tX ?tZ ?tE ?uN ?pf ?pW ?pT ?p6 ?pY ?pK ?qa ?oU ?mj ?mC ?mN ?mQ ?nV ?nJ ?nP ?nW ?my ?mq ?mO ?mB ?mi ?rD ?qQ ?rm ?rC ?qY ?qW ?rG ?q8 ?rB ?qR ?rh ?qX ?wo ?we ?xt ?vU ?uY ?tR ?uW ?um ?lg ?kU ?lm ?kW ?uS ?tm ?tj ?uZ ?rF ?qU ?re ?qZ ?xx ?vS ?xq ?vQ ?uj ?tL ?uw ?uU ?nO ?nR ?nS ?nU ?py ?ph ?oX ?oV ?E7 ?Fk ?Eh ?Ey ?Cw ?Cy ?Cj ?BN ?BM ?Cs ?Ce ?BH ?qV ?rn ?rc ?rK ?Fx ?D5 ?Fi ?FL ?BA ?B8 ?Bu ?BE ?ww ?xI ?wH ?vW ?lG ?lN ?lR ?k7 ?rE ?qP ?rJ ?rp ?E5 ?DM ?FC ?EK ?zG ?y9 ?yY ?yS ?rL ?rq ?rg ?rf ?xB ?wn ?xO ?wd ?B7 ?Bt ?Bx ?Bl ?jv ?jG ?jm ?jh ?ju ?xy ?wB ?xG ?wZ ?xi ?wR ?wK ?vK ?BX ?BW ?Bp ?B5 ?zF ?yV ?zq ?yQ ?DF ?Iq ?Ip ?Ie ?E2 ?F6 ?EE ?EI ?Ez ?Fd ?n_many_Web ?n_roads_Web ?tp ?uu ?uX ?uv ?tK ?ui ?n_web_Outlook ?n_needs_Outlook ?n_kids_Outlook ?n_idle_Outlook ?z_range ?z_zip ?z_len ?z_all ?z_int ?z_tuple ?z_list ?z_reversed ?z_sorted ?z_min ?z_enumerate ?z_sum ?v_MOST_PLACES ?v_LEAST_TOLL ?v_MOST_TOLL
   (case pd=>k_is)
   (case wW=>k_is)
   (case uq=>k_is)
   (case wv=>k_is)
   (case t7=>k_is)
   (case sX=>k_is)
   (case FX=>k_is)
   (case uM=>k_is)
   (case pw=>k_is)
   (case pJ=>rfl)
   (case qm=>k_is)
   (case pE=>k_is)
   (case pD=>k_is)
   (case qh=>k_is)
   (case p8=>k_is)
   (case vP=>k_is)
   (case wq=>rfl)
   (case wF=>k_is)
   (case xK=>k_is)
   (case vN=>k_is)
   (case vI=>k_is)
   (case wJ=>k_is)
   (case ou=>k_is)
   (case sY=>rfl)
   (case uo=>k_is)
   (case tQ=>k_is)
   (case tY=>k_is)
   (case tG=>k_is)
   (case tD=>k_is)
   (case uI=>rfl)
   (case tH=>kernel_rfl)
   (case tW=>k_is)
   (case uH=>kernel_rfl)
   (case qu=>k_is)
   (case wE=>rfl)
   (case vR=>k_is)
   (case xM=>k_is)
   (case xQ=>k_is)
   (case xm=>k_is)
   (case wx=>k_is)
   (case xD=>rfl)
   (case wC=>kernel_rfl)
   (case wT=>k_is)
   (case vJ=>kernel_rfl)
   (case oI=>k_is)
   (case uz=>rfl)
   (case uy=>k_is)
   (case tF=>k_is)
   (case sT=>k_is)
   (case uF=>k_is)
   (case u5=>k_is)
   (case tS=>rfl)
   (case uV=>kernel_rfl)
   (case tP=>k_is)
   (case uG=>kernel_rfl)
   (case oq=>k_is)
   (case tV=>rfl)
   (case uf=>k_is)
   (case tJ=>k_is)
   (case ut=>k_is)
   (case sZ=>k_is)
   (case ue=>k_is)
   (case uJ=>rfl)
   (case t6=>kernel_rfl)
   (case ud=>k_is)
   (case tf=>kernel_rfl)
   (case xgs=>k_is)
   (case xtk=>k_is)
   (case xnd=>decide)
   (case mV=>k_is)
   (case mt=>k_is)
   (case mF=>k_is)
   (case mK=>k_is)
   (case tX=>k_is)
   (case tZ=>k_is)
   (case tE=>k_is)
   (case uN=>k_is)
   (case pf=>k_is)
   (case pW=>k_is)
   (case pT=>k_is)
   (case p6=>k_is)
   (case pY=>k_is)
   (case pK=>k_is)
   (case qa=>k_is)
   (case oU=>k_is)
   (case mj=>k_is)
   (case mC=>k_is)
   (case mN=>k_is)
   (case mQ=>k_is)
   (case nV=>k_is)
   (case nJ=>k_is)
   (case nP=>k_is)
   (case nW=>k_is)
   (case my=>k_is)
   (case mq=>k_is)
   (case mO=>k_is)
   (case mB=>k_is)
   (case mi=>k_is)
   (case rD=>k_is)
   (case qQ=>k_is)
   (case rm=>k_is)
   (case rC=>k_is)
   (case qY=>k_is)
   (case qW=>k_is)
   (case rG=>k_is)
   (case q8=>k_is)
   (case rB=>k_is)
   (case qR=>k_is)
   (case rh=>k_is)
   (case qX=>k_is)
   (case wo=>k_is)
   (case we=>k_is)
   (case xt=>k_is)
   (case vU=>k_is)
   (case uY=>k_is)
   (case tR=>k_is)
   (case uW=>k_is)
   (case um=>k_is)
   (case lg=>k_is)
   (case kU=>k_is)
   (case lm=>k_is)
   (case kW=>k_is)
   (case uS=>k_is)
   (case tm=>k_is)
   (case tj=>k_is)
   (case uZ=>k_is)
   (case rF=>k_is)
   (case qU=>k_is)
   (case re=>k_is)
   (case qZ=>k_is)
   (case xx=>k_is)
   (case vS=>k_is)
   (case xq=>k_is)
   (case vQ=>k_is)
   (case uj=>k_is)
   (case tL=>k_is)
   (case uw=>k_is)
   (case uU=>k_is)
   (case nO=>k_is)
   (case nR=>k_is)
   (case nS=>k_is)
   (case nU=>k_is)
   (case py=>k_is)
   (case ph=>k_is)
   (case oX=>k_is)
   (case oV=>k_is)
   (case E7=>k_is)
   (case Fk=>k_is)
   (case Eh=>k_is)
   (case Ey=>k_is)
   (case Cw=>k_is)
   (case Cy=>k_is)
   (case Cj=>k_is)
   (case BN=>k_is)
   (case BM=>k_is)
   (case Cs=>k_is)
   (case Ce=>k_is)
   (case BH=>k_is)
   (case qV=>k_is)
   (case rn=>k_is)
   (case rc=>k_is)
   (case rK=>k_is)
   (case Fx=>k_is)
   (case D5=>k_is)
   (case Fi=>k_is)
   (case FL=>k_is)
   (case BA=>k_is)
   (case B8=>k_is)
   (case Bu=>k_is)
   (case BE=>k_is)
   (case ww=>k_is)
   (case xI=>k_is)
   (case wH=>k_is)
   (case vW=>k_is)
   (case lG=>k_is)
   (case lN=>k_is)
   (case lR=>k_is)
   (case k7=>k_is)
   (case rE=>k_is)
   (case qP=>k_is)
   (case rJ=>k_is)
   (case rp=>k_is)
   (case E5=>k_is)
   (case DM=>k_is)
   (case FC=>k_is)
   (case EK=>k_is)
   (case zG=>k_is)
   (case y9=>k_is)
   (case yY=>k_is)
   (case yS=>k_is)
   (case rL=>k_is)
   (case rq=>k_is)
   (case rg=>k_is)
   (case rf=>k_is)
   (case xB=>k_is)
   (case wn=>k_is)
   (case xO=>k_is)
   (case wd=>k_is)
   (case B7=>k_is)
   (case Bt=>k_is)
   (case Bx=>k_is)
   (case Bl=>k_is)
   (case jv=>k_is)
   (case jG=>k_is)
   (case jm=>k_is)
   (case jh=>k_is)
   (case ju=>k_is)
   (case xy=>k_is)
   (case wB=>k_is)
   (case xG=>k_is)
   (case wZ=>k_is)
   (case xi=>k_is)
   (case wR=>k_is)
   (case wK=>k_is)
   (case vK=>k_is)
   (case BX=>k_is)
   (case BW=>k_is)
   (case Bp=>k_is)
   (case B5=>k_is)
   (case zF=>k_is)
   (case yV=>k_is)
   (case zq=>k_is)
   (case yQ=>k_is)
   (case DF=>k_is)
   (case Iq=>k_is)
   (case Ip=>k_is)
   (case Ie=>k_is)
   (case E2=>k_is)
   (case F6=>k_is)
   (case EE=>k_is)
   (case EI=>k_is)
   (case Ez=>k_is)
   (case Fd=>k_is)
   (case n_many_Web=>k_is)
   (case n_roads_Web=>k_is)
   (case tp=>k_is)
   (case uu=>k_is)
   (case uX=>k_is)
   (case uv=>k_is)
   (case tK=>k_is)
   (case ui=>k_is)
   (case n_web_Outlook=>k_is)
   (case n_needs_Outlook=>k_is)
   (case n_kids_Outlook=>k_is)
   (case n_idle_Outlook=>k_is)
   (case z_range=>k_is)
   (case z_zip=>k_is)
   (case z_len=>k_is)
   (case z_all=>k_is)
   (case z_int=>k_is)
   (case z_tuple=>k_is)
   (case z_list=>k_is)
   (case z_reversed=>k_is)
   (case z_sorted=>k_is)
   (case z_min=>k_is)
   (case z_enumerate=>k_is)
   (case z_sum=>k_is)
   (case v_MOST_PLACES=>k_is)
   (case v_LEAST_TOLL=>k_is)
   (case v_MOST_TOLL=>k_is)
#print axioms PySem.Challenge.cw_pebbletoll_k40_whole_any_laying_meets_holds